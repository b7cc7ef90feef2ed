/- calc.Digits of any number, and calc.Number of any text. -/
import Derived.Test.YtngfbpmabdmkeaaGreatDoorShelf
import Derived.Test.YtngfbpmabdmkeaaGreatDoorSign
import Derived.Test.YtngfbpmabdmkeaaGreatDoorRune
import Derived.WalkSmall
import Derived.Lib.ParseIntBTie
namespace Go.Proofs.YtngfbpmabdmkeaaGreatDoor
open Go Go.RowKit Go.Sort

/-- What the listed variables hold when a call begins. -/
structure Laid (w : World) : Prop where
  tab : Table w
  rPow : 1 < w.heap.size
  rSyn : 3 < w.heap.size
  rRng : 4 < w.heap.size
  pow : Lib.TabIs Tryz.prog w "internal/strconv.uint64pow10" .u64 Lib.pow10Tab
  syn : ∃ tp p, w.var? Tryz.prog "strconv.ErrSyntax" = some #[.iface tp p]
  rng : ∃ tp p, w.var? Tryz.prog "strconv.ErrRange" = some #[.iface tp p]

theorem gPow : Tryz.prog.globalNamed "internal/strconv.uint64pow10" = some 1 := by kernel_rfl
theorem gSyn : Tryz.prog.globalNamed "strconv.ErrSyntax" = some 3 := by kernel_rfl
theorem gRng : Tryz.prog.globalNamed "strconv.ErrRange" = some 4 := by kernel_rfl

theorem Laid.below {w w' : World} (L : Laid w) (hb : Below w.heap.size w w') : Laid w' where
  tab := L.tab.below hb
  rPow := Nat.lt_of_lt_of_le L.rPow hb.size
  rSyn := Nat.lt_of_lt_of_le L.rSyn hb.size
  rRng := Nat.lt_of_lt_of_le L.rRng hb.size
  pow := var?_below hb gPow L.rPow L.pow
  syn := by
    obtain ⟨tp, p, h⟩ := L.syn
    exact ⟨tp, p, var?_below hb gSyn L.rSyn h⟩
  rng := by
    obtain ⟨tp, p, h⟩ := L.rng
    exact ⟨tp, p, var?_below hb gRng L.rRng h⟩

theorem below_grow (w : World) (k : Nat) (os : Array Obj) : Below w.heap.size w (grow (w.drewN k) os) := by
  have h1 : Below w.heap.size w (w.drewN k) := below_drewN (Below.refl _ _) k
  refine ⟨h1.os, h1.tape, h1.output, ?_, fun j hj => ?_⟩
  · have := h1.size
    simp [grow]
  · rw [← h1.block j hj]
    simp only [grow]
    rw [Array.getElem?_append_left (by have := h1.size; omega)]

/-- A number's digits. -/
def dig (n : Int) : ByteArray := ⟨(Lib.itoa n).toArray⟩

/-- calc.Digits, of any number. -/
theorem digits_any (n : Int) (w : World) (L : Hid (Laid w)) (h0 : -9223372036854775808 ≤ n) (h1 : n ≤ 9223372036854775807) : Calls Tryz.prog 76 #[.int .i64 n] w fun e w' => e = .returned (.string (dig n)) ∧ Below w.heap.size w w' := by
  go_enter Tryz.func76, Tryz.ntmps76
  go_wp2_with (go_at_call 124; refine (Tryz.strconv_FormatInt_10 n h0 h1 _ L.out.pow).mono ?_; rintro e w' ⟨rfl, k, os, rfl⟩)
  go_ret
  exact ⟨rfl, below_grow w k os⟩

/-- The number of a text. -/
def numM (s : ByteArray) : Int × Bool :=
  if 19 < s.size then (0, false)
  else match Lib.parseIntB 64 s.data.toList with
    | .ok v => if v < 0 then (0, false) else if (dig v).toList == s.toList then (v, true) else (0, false)
    | _ => (0, false)

theorem number_long (s : ByteArray) (w : World) (h : 19 < s.size) : Calls Tryz.prog 128 #[.string s] w fun e w' => e = .returned (.tuple #[.int .i64 0, .bool false]) ∧ Below w.heap.size w w' := by
  go_enter Tryz.func128, Tryz.ntmps128
  go_wp2
  go_ret2
  exact ⟨rfl, Below.refl _ _⟩

theorem number_syn (s : ByteArray) (w : World) (h : s.size ≤ 19) (L : Hid (Laid w)) (hp : Hid (Lib.parseIntB 64 s.data.toList = Lib.parseIntB 64 [])) : Calls Tryz.prog 128 #[.string s] w fun e w' => e = .returned (.tuple #[.int .i64 0, .bool false]) ∧ Below w.heap.size w w' := by
  obtain ⟨tp, p, hv⟩ := L.out.syn
  have HV := Lib.hid hv
  clear hv
  go_enter Tryz.func128, Tryz.ntmps128
  go_wp2_with (go_at_call 143; refine (Tryz.strconv_ParseInt_10_at64_syntax_var s (by omega) hp.out tp p _ HV.out).mono ?_; rintro e w' ⟨N, rfl, _, _, hb⟩)
  go_ret2
  exact ⟨rfl, hb⟩

theorem number_rng (s : ByteArray) (w : World) (h : s.size ≤ 19) (L : Hid (Laid w)) (hp : Hid (Lib.parseIntB 64 s.data.toList = .range)) : Calls Tryz.prog 128 #[.string s] w fun e w' => e = .returned (.tuple #[.int .i64 0, .bool false]) ∧ Below w.heap.size w w' := by
  obtain ⟨tp, p, hv⟩ := L.out.rng
  have HV := Lib.hid hv
  clear hv
  go_enter Tryz.func128, Tryz.ntmps128
  go_wp2_with (go_at_call 143; refine (Tryz.strconv_ParseInt_10_at64_range_var s (by omega) hp.out tp p _ HV.out).mono ?_; rintro e w' ⟨N, rfl, _, _, hb⟩)
  go_ret2
  exact ⟨rfl, hb⟩

theorem parse_ok (s : ByteArray) (v : Int) (w : World) (h : s.size ≤ 19) (hp : Lib.parseIntB 64 s.data.toList = .ok v) : Calls Tryz.prog 143 #[.string s, .int .i64 10, .int .i64 64] w fun e w' => e = .returned (.tuple #[.int .i64 v, .nilIface]) ∧ Below w.heap.size w w' :=
  (Tryz.strconv_ParseInt_10_at64_ok s (by omega) v hp w).mono fun e w' ⟨he, hw⟩ => ⟨he, by
    rcases hw with rfl | ⟨t, rfl⟩
    · exact Below.refl _ _
    · exact Lib.bytesWorld_below _ _ _⟩

theorem number_neg (s : ByteArray) (v : Int) (w : World) (h : s.size ≤ 19) (hp : Hid (Lib.parseIntB 64 s.data.toList = .ok v)) (hv : decide (v < 0) = true) : Calls Tryz.prog 128 #[.string s] w fun e w' => e = .returned (.tuple #[.int .i64 0, .bool false]) ∧ Below w.heap.size w w' := by
  go_enter Tryz.func128, Tryz.ntmps128
  go_wp2_with (go_at_call 143; refine (parse_ok s v _ h hp.out).mono ?_; rintro e w' ⟨rfl, hb⟩)
  go_ret2
  exact ⟨rfl, hb⟩

theorem number_pos (s d : ByteArray) (v : Int) (w : World) (h : s.size ≤ 19) (L : Hid (Laid w)) (hp : Hid (Lib.parseIntB 64 s.data.toList = .ok v)) (hv : decide (v < 0) = false) (hd : Hid (dig v = d)) (t : Bool) (ht : (d.toList == s.toList) = t) :
    Calls Tryz.prog 128 #[.string s] w fun e w' => e = .returned (.tuple #[.int .i64 (if t then v else 0), .bool t]) ∧ Below w.heap.size w w' := by
  obtain ⟨b1, b2⟩ := Lib.parseIntB_bounds hp.out
  have HB := Lib.hid (show -9223372036854775808 ≤ v ∧ v ≤ 9223372036854775807 by simp at b1 b2; omega)
  clear b1 b2
  have hdig : ∀ W : World, Laid W → Calls Tryz.prog 76 #[.int .i64 v] W fun e w' => e = .returned (.string d) ∧ Below W.heap.size W w' := by
    rw [← hd.out]
    exact fun W hW => digits_any v W (Lib.hid hW) HB.out.1 HB.out.2
  have HD := Lib.hid hdig
  clear hdig
  cases t
  all_goals
    have ht2 : (d.toList != s.toList) = !(d.toList == s.toList) := rfl
    rw [ht] at ht2
    simp only [Bool.not_true, Bool.not_false] at ht2
    go_enter Tryz.func128, Tryz.ntmps128
    go_wp2_with (first
      | (go_at_call 143; refine (parse_ok s v _ h hp.out).mono ?_; rintro e w' ⟨rfl, hb⟩; have LL := Lib.hid (L.out.below hb))
      | (go_at_call 76; refine (HD.out _ LL.out).mono ?_; rintro e w2 ⟨rfl, hb2⟩; have hb3 := hb.trans (hb2.mono hb.size); clear hb2))
    go_ret2
    exact ⟨rfl, hb3⟩

/-- calc.Number, of any text. -/
theorem number_any (s : ByteArray) (w : World) (L : Laid w) : Calls Tryz.prog 128 #[.string s] w fun e w' => e = .returned (.tuple #[.int .i64 (numM s).1, .bool (numM s).2]) ∧ Below w.heap.size w w' := by
  by_cases h : 19 < s.size
  · have e1 : numM s = (0, false) := by unfold numM; rw [if_pos h]
    rw [e1]
    exact number_long s w h
  · have h' : s.size ≤ 19 := by omega
    rcases hp : Lib.parseIntB 64 s.data.toList with v | _ | _
    · by_cases hv : v < 0
      · have e1 : numM s = (0, false) := by unfold numM; rw [if_neg h, hp]; exact if_pos hv
        rw [e1]
        exact number_neg s v w h' (Lib.hid hp) (by simpa using hv)
      · have k := fun t ht => number_pos s (dig v) v w h' (Lib.hid L) (Lib.hid hp) (by simpa using hv) (Lib.hid rfl) t ht
        cases ht : (dig v).toList == s.toList
        · have e1 : numM s = (0, false) := by unfold numM; rw [if_neg h, hp]; simp only [if_neg hv, ht]; rfl
          rw [e1]
          exact k false ht
        · have e1 : numM s = (v, true) := by unfold numM; rw [if_neg h, hp]; simp only [if_neg hv, ht]; rfl
          rw [e1]
          exact k true ht
    · have e1 : numM s = (0, false) := by unfold numM; rw [if_neg h, hp]
      rw [e1]
      exact number_syn s w h' (Lib.hid L) (Lib.hid hp)
    · have e1 : numM s = (0, false) := by unfold numM; rw [if_neg h, hp]
      rw [e1]
      exact number_rng s w h' (Lib.hid L) (Lib.hid hp)
end Go.Proofs.YtngfbpmabdmkeaaGreatDoor
