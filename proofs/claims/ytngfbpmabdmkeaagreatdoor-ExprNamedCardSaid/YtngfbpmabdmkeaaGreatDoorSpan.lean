/- How far a note goes, and how far letters and digits go: lex.note and lex.span, which range over a text rune by rune. -/
import Derived.Test.YtngfbpmabdmkeaaGreatDoorUtf
import Derived.Test.YtngfbpmabdmkeaaGreatDoorNumB
import Derived.LoopTactic
namespace Go.Proofs.YtngfbpmabdmkeaaGreatDoor
open Go Go.RowKit

theorem at_list (s : ByteArray) (i : Nat) (h : i < s.size) : s.data.toList[i]? = some (s[i]'h) := by
  rw [List.getElem?_eq_getElem (by simpa using h)]
  rfl
theorem while_at {α : Type} (p : α → Bool) : ∀ (l : List α) (k : Nat), (∀ i x, i < k → l[i]? = some x → p x = true) → (∀ x, l[k]? = some x → p x = false) → k ≤ l.length → (l.takeWhile p).length = k
  | [], k, _, _, h => by simp at h; simp [h]
  | c :: r, 0, _, h, _ => by
    rw [List.takeWhile_cons, if_neg (by rw [h c rfl]; decide)]
    rfl
  | c :: r, k + 1, h1, h2, h3 => by
    rw [List.takeWhile_cons, if_pos (h1 0 c (by omega) rfl), List.length_cons, while_at p r k (fun i x hi hx => h1 (i + 1) x (by omega) hx) h2 (by simp at h3; omega)]

theorem below_iter (w : World) (s : ByteArray) (pos : Nat) : Below w.heap.size w (w.iter s pos) := (Below.refl _ _).alloc (Nat.le_refl _) _

theorem note_of {s : ByteArray} {k : Nat} (hk : k ≤ s.size) (h1 : ∀ i (h : i < s.size), i < k → (s[i]'h) ≠ 10) (h2 : ∀ h : k < s.size, (s[k]'h) = 10) : noteL s.data.toList = k := by
  unfold noteL
  refine while_at _ _ _ (fun i x hi hx => ?_) (fun x hx => ?_) hk
  · have hlt : i < s.size := by omega
    rw [at_list s i hlt] at hx
    cases hx
    simpa using h1 i hlt hi
  · have hlt : k < s.size := (List.getElem?_eq_some_iff.1 hx).1
    rw [at_list s k hlt] at hx
    cases hx
    simpa using h2 hlt
theorem span_of {s : ByteArray} {k : Nat} (hk : k ≤ s.size) (h1 : ∀ i (h : i < s.size), i < k → isPart (s[i]'h) = true) (h2 : ∀ h : k < s.size, isPart (s[k]'h) = false) : spanL s.data.toList = k := by
  unfold spanL
  refine while_at _ _ _ (fun i x hi hx => ?_) (fun x hx => ?_) hk
  · have hlt : i < s.size := by omega
    rw [at_list s i hlt] at hx
    cases hx
    exact h1 i hlt hi
  · have hlt : k < s.size := (List.getElem?_eq_some_iff.1 hx).1
    rw [at_list s k hlt] at hx
    cases hx
    exact h2 hlt
theorem part_ascii {c : UInt8} (h : isPart c = true) : c.toNat < 128 := by
  simp [isPart, isLetter, isDigit] at h
  omega

def NoNl (s : ByteArray) (k : Nat) : Prop := ∀ i (h : i < s.size), i < k → (s[i]'h) ≠ 10
def AllPart (s : ByteArray) (k : Nat) : Prop := ∀ i (h : i < s.size), i < k → isPart (s[i]'h) = true

set_option maxRecDepth 100000 in
theorem note_any (s : ByteArray) (w : World) : Calls Tryz.prog 84 #[.string s] w fun e w' => e = .returned (.int .i64 (noteL s.data.toList)) ∧ Below w.heap.size w w' := by
  go_enter Tryz.func84, Tryz.ntmps84
  go_wp2
  go_loopw [] (fun w' => ∃ pos : Nat, w' = w.iter s pos ∧ pos ≤ s.size ∧ NoNl s pos) (fun w' => s.size - w'.iterPos w.heap.size)
  case atStart => exact ⟨0, rfl, Nat.zero_le _, fun i _ h => absurd h (by omega)⟩
  case round =>
    obtain ⟨pos, rfl, hle, hno⟩ := hrel
    have HN := Lib.hid hno
    clear hno
    by_cases hp : pos < s.size
    · have hnx : ∀ ty, (Instr.next (.pointer (some ⟨w.heap.size, 0, none⟩)) true ty).run Tryz.prog (w.iter s pos) = _ := fun ty => run_next_any w s pos ty hp
      have hrn := decode_rn s pos hp
      by_cases h10 : (s[pos]'hp) = 10
      · have hd : (((Utf8.decode s pos).1 : Int) == 10) = true := by rw [hrn.nl, h10]; rfl
        have HR := Lib.hid (note_of hle HN.out (fun _ => h10))
        clear h10 hrn
        go_wp2
        go_ret
        exact ⟨ret_i (by rw [HR.out]), below_iter w s _⟩
      · have hd : (((Utf8.decode s pos).1 : Int) == 10) = false := by rw [hrn.nl]; simpa using h10
        have hwd := decode_pos s pos hp
        have HW : Hid (pos + (Utf8.decode s pos).2 ≤ s.size ∧ NoNl s (pos + (Utf8.decode s pos).2)) := by
          refine Lib.hid ⟨decode_stop s pos s.size hp hp (fun h => absurd h (Nat.lt_irrefl _)), fun i h hi => ?_⟩
          by_cases e1 : i < pos
          · exact HN.out i h e1
          · by_cases e2 : i = pos
            · subst e2
              exact h10
            · obtain ⟨_, e3⟩ := decode_cont s pos i hp (by omega) hi
              intro e4
              rw [e4] at e3
              exact absurd e3 (by decide)
        clear h10 hrn
        go_wp2
        go_roundw
        case rel => exact ⟨_, rfl, HW.out.1, HW.out.2⟩
        case measure =>
          have := HW.out.1
          simp
          omega
    · have hnx : ∀ ty, (Instr.next (.pointer (some ⟨w.heap.size, 0, none⟩)) true ty).run Tryz.prog (w.iter s pos) = _ := fun ty => run_next_end w s pos ty hp
      have HR : Hid (noteL s.data.toList = s.size) := Lib.hid (note_of (Nat.le_refl _) (fun i h hi => HN.out i h (by omega)) (fun h => absurd h (Nat.lt_irrefl _)))
      go_wp2
      go_ret
      exact ⟨ret_i (by rw [HR.out]), below_iter w s _⟩

theorem letter_is {r : Int} {b : Bool} (h : letterR r = b) (w : World) : Calls Tryz.prog 85 #[.int .i32 r] w fun e w' => e = .returned (.bool b) ∧ w = w' := h ▸ letter_any r w
theorem digit_is {r : Int} {b : Bool} (h : digitR r = b) (w : World) : Calls Tryz.prog 88 #[.int .i32 r] w fun e w' => e = .returned (.bool b) ∧ w = w' := h ▸ digit_any r w
theorem blank_is {r : Int} {b : Bool} (h : blankR r = b) (w : World) : Calls Tryz.prog 82 #[.int .i32 r] w fun e w' => e = .returned (.bool b) ∧ w = w' := h ▸ blank_any r w

theorem AllPart.step {s : ByteArray} {k : Nat} (h : AllPart s k) (hk : k < s.size) (hp : isPart (s[k]'hk) = true) : AllPart s (k + 1) := by
  intro i hi h2
  by_cases e : i = k
  · subst e
    exact hp
  · exact h i hi (by omega)

set_option maxRecDepth 100000 in
theorem span_any (s : ByteArray) (w : World) : Calls Tryz.prog 87 #[.string s] w fun e w' => e = .returned (.int .i64 (spanL s.data.toList)) ∧ Below w.heap.size w w' := by
  go_enter Tryz.func87, Tryz.ntmps87
  go_wp2
  go_loopw [] (fun w' => ∃ pos : Nat, w' = w.iter s pos ∧ pos ≤ s.size ∧ AllPart s pos) (fun w' => s.size - w'.iterPos w.heap.size)
  case atStart => exact ⟨0, rfl, Nat.zero_le _, fun i _ h => absurd h (by omega)⟩
  case round =>
    obtain ⟨pos, rfl, hle, hno⟩ := hrel
    have HN := Lib.hid hno
    clear hno
    by_cases hp : pos < s.size
    · have hnx : ∀ ty, (Instr.next (.pointer (some ⟨w.heap.size, 0, none⟩)) true ty).run Tryz.prog (w.iter s pos) = _ := fun ty => run_next_any w s pos ty hp
      have hrn := Lib.hid (decode_rn s pos hp)
      by_cases hl : isLetter (s[pos]'hp) = true
      · have HL : Hid (letterR (Utf8.decode s pos).1 = true) := Lib.hid (hrn.out.letter.trans hl)
        have hpt : isPart (s[pos]'hp) = true := by simp [isPart, hl]
        have HA := Lib.hid (And.intro (HN.out.step hp hpt) (decode_one s pos hp (part_ascii hpt)))
        clear hpt hl hrn
        go_wp2_with (first
          | (go_at_call 85; with_reducible refine (letter_is HL.out _).mono ?_; rintro e' w1 ⟨rfl, rfl⟩))
        go_roundw
        case rel => exact ⟨_, rfl, by have := HA.out.2; omega, by rw [HA.out.2]; exact HA.out.1⟩
        case measure =>
          have := HA.out.2
          simp
          omega
      · have HL : Hid (letterR (Utf8.decode s pos).1 = false) := Lib.hid (hrn.out.letter.trans (by simpa using hl))
        by_cases hd : isDigit (s[pos]'hp) = true
        · have HD : Hid (digitR (Utf8.decode s pos).1 = true) := Lib.hid (hrn.out.digit.trans hd)
          have hpt : isPart (s[pos]'hp) = true := by simp [isPart, hd]
          have HA := Lib.hid (And.intro (HN.out.step hp hpt) (decode_one s pos hp (part_ascii hpt)))
          clear hpt hl hd hrn
          go_wp2_with (first
            | (go_at_call 85; with_reducible refine (letter_is HL.out _).mono ?_; rintro e' w1 ⟨rfl, rfl⟩)
            | (go_at_call 88; with_reducible refine (digit_is HD.out _).mono ?_; rintro e' w1 ⟨rfl, rfl⟩))
          go_roundw
          case rel => exact ⟨_, rfl, by have := HA.out.2; omega, by rw [HA.out.2]; exact HA.out.1⟩
          case measure =>
            have := HA.out.2
            simp
            omega
        · have HD : Hid (digitR (Utf8.decode s pos).1 = false) := Lib.hid (hrn.out.digit.trans (by simpa using hd))
          have hpt : isPart (s[pos]'hp) = false := by simp [isPart, hl, hd]
          have HR := Lib.hid (span_of hle HN.out (fun _ => hpt))
          clear hpt hl hd hrn
          go_wp2_with (first
            | (go_at_call 85; with_reducible refine (letter_is HL.out _).mono ?_; rintro e' w1 ⟨rfl, rfl⟩)
            | (go_at_call 88; with_reducible refine (digit_is HD.out _).mono ?_; rintro e' w1 ⟨rfl, rfl⟩))
          go_ret
          exact ⟨ret_i (by rw [HR.out]), below_iter w s _⟩
    · have hnx : ∀ ty, (Instr.next (.pointer (some ⟨w.heap.size, 0, none⟩)) true ty).run Tryz.prog (w.iter s pos) = _ := fun ty => run_next_end w s pos ty hp
      have HR : Hid (spanL s.data.toList = s.size) := Lib.hid (span_of (Nat.le_refl _) (fun i h hi => HN.out i h (by omega)) (fun h => absurd h (Nat.lt_irrefl _)))
      go_wp2
      go_ret
      exact ⟨ret_i (by rw [HR.out]), below_iter w s _⟩
end Go.Proofs.YtngfbpmabdmkeaaGreatDoor
