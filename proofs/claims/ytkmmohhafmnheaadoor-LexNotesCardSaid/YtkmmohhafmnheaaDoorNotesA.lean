/- LexNotes' walk: two texts with a note between have the words of both. -/
import Derived.Test.YtkmmohhafmnheaaDoorLexAw
import Derived.Test.YtkmmohhafmnheaaDoorRsgn
import Derived.Test.YtkmmohhafmnheaaDoorTokAt
import Derived.IntWalk
namespace Go.Proofs.YtkmmohhafmnheaaDoor
namespace LexNotes
open Go Go.RowKit Go.Sort

theorem in10 {s : ByteArray} {b : Bool} (h : hasB s.data.toList 10 = b) (hm : s.size ≤ 9223372036854775807) (w : World) : Calls Tryd.prog 17 #[.string s, .int .u8 10] w fun e w' => e = .returned (.bool b) ∧ w = w' := in_is (c := 10) h hm w

set_option maxRecDepth 100000 in
theorem walk_far (s nt t : ByteArray) (h : 1000 < s.size ∨ 1000 < t.size ∨ 100 < nt.size) (h1 : s.size ≤ 9223372036854775807) (h2 : nt.size ≤ 9223372036854775807) (h3 : t.size ≤ 9223372036854775807) (W : World) (L : Hid (Laid W)) :
    Calls Tryd.prog 6 #[.string s, .string nt, .string t] W fun e w' => e = .returned (.bool true) ∧ Below W.heap.size W w' := by
  by_cases hs : 1000 < s.size
  · clear h
    go_enter Tryd.func6, Tryd.ntmps6
    go_wp2_with (go_at_call 8; refine (awake_any _ L).mono ?_; rintro e' w1 ⟨rfl, hb1⟩; have hB := hb1; clear hb1)
    go_ret
    exact ⟨rfl, hB⟩
  · by_cases ht : 1000 < t.size
    · clear h
      go_enter Tryd.func6, Tryd.ntmps6
      go_wp2_with (go_at_call 8; refine (awake_any _ L).mono ?_; rintro e' w1 ⟨rfl, hb1⟩; have hB := hb1; clear hb1)
      go_ret
      exact ⟨rfl, hB⟩
    · have hn : 100 < nt.size := by omega
      clear h
      go_enter Tryd.func6, Tryd.ntmps6
      go_wp2_with (go_at_call 8; refine (awake_any _ L).mono ?_; rintro e' w1 ⟨rfl, hb1⟩; have hB := hb1; clear hb1)
      go_ret
      exact ⟨rfl, hB⟩

set_option maxRecDepth 100000 in
theorem walk_nl (s nt t : ByteArray) (h1 : s.size ≤ 1000) (h2 : nt.size ≤ 100) (h3 : t.size ≤ 1000) (hN : Hid (hasB nt.data.toList 10 = true)) (W : World) (L : Hid (Laid W)) :
    Calls Tryd.prog 6 #[.string s, .string nt, .string t] W fun e w' => e = .returned (.bool true) ∧ Below W.heap.size W w' := by
  go_enter Tryd.func6, Tryd.ntmps6
  go_wp2_with (first
    | (go_at_call 8; refine (awake_any _ L).mono ?_; rintro e' w1 ⟨rfl, hb1⟩; have hB := hb1; clear hb1)
    | (go_at_call 17; (with_reducible refine (in10 hN.out (by omega) _).mono ?_); rintro e' w' ⟨rfl, rfl⟩))
  go_ret
  exact ⟨rfl, hB⟩

/-- Whatever a text's words are. -/
theorem words_some (s : ByteArray) (w : World) (L : Laid w) (hs : s.size ≤ 16384) : Calls Tryd.prog 9 #[.string s] w fun e w' => (∃ v e0 a0, e = .returned (.tuple #[v, .int .i64 e0, .int .i64 a0])) ∧ Below w.heap.size w w' := by
  obtain ⟨X, r, hS⟩ := Sc.total numO _ s.data.toList 0 (Nat.le_refl _)
  match r, hS with
  | none, hS => exact (words_ok s w (Lib.hid L) hs X (Lib.hid hS)).mono fun e w' ⟨⟨g, cap, h1, _⟩, h2⟩ => ⟨⟨_, _, _, h1⟩, h2⟩
  | some (e0, a0), hS => exact (words_err s w (Lib.hid L) hs X e0 a0 (Lib.hid hS)).mono fun e w' ⟨h1, h2⟩ => ⟨⟨_, _, _, h1⟩, h2⟩

/-- The text of both, and the note between. -/
def noted (s nt t : ByteArray) : ByteArray := s ++ ⟨#[10, 47, 47]⟩ ++ nt ++ ⟨#[10]⟩ ++ t
theorem noted_list (s nt t : ByteArray) : (noted s nt t).data.toList = s.data.toList ++ 10 :: 47 :: 47 :: (nt.data.toList ++ 10 :: t.data.toList) := by
  unfold noted
  rw [cat_list, cat_list, cat_list, cat_list]
  simp
theorem noted_size (s nt t : ByteArray) : (noted s nt t).size = s.size + nt.size + t.size + 4 := by
  rw [size_list, noted_list]
  simp only [List.length_append, List.length_cons]
  rw [size_list s, size_list nt, size_list t]
  omega
theorem noted_words (s nt t : ByteArray) (X : List Wd) (r : Option (Int × Nat)) (h : Sc numO (noted s nt t).data.toList 0 X r) (hs : (noted s nt t).size ≤ 16384) :
    (∀ w : World, Laid w → r = none → Calls Tryd.prog 9 #[.string (s ++ ⟨#[10, 47, 47]⟩ ++ nt ++ ⟨#[10]⟩ ++ t)] w fun e w' => OkEnd 37 w.heap.size X e w' ∧ Below w.heap.size w w') ∧
    (∀ w : World, Laid w → ∀ e0 a0, r = some (e0, a0) → Calls Tryd.prog 9 #[.string (s ++ ⟨#[10, 47, 47]⟩ ++ nt ++ ⟨#[10]⟩ ++ t)] w fun e w' => e = .returned (.tuple #[.slice none 0 0, .int .i64 e0, .int .i64 a0]) ∧ Below w.heap.size w w') :=
  ⟨fun w L hr => words_ok (noted s nt t) w (Lib.hid L) hs X (Lib.hid (hr ▸ h)), fun w L e0 a0 hr => words_err (noted s nt t) w (Lib.hid L) hs X e0 a0 (Lib.hid (hr ▸ h))⟩

def CErr (s nt t : ByteArray) (e0 : Int) (a0 : Nat) : Prop :=
  ∀ w : World, Laid w → Calls Tryd.prog 9 #[.string (s ++ ⟨#[10, 47, 47]⟩ ++ nt ++ ⟨#[10]⟩ ++ t)] w fun e w' => e = .returned (.tuple #[.slice none 0 0, .int .i64 e0, .int .i64 a0]) ∧ Below w.heap.size w w'
theorem CErr.get {s nt t : ByteArray} {e0 : Int} {a0 : Nat} (h : CErr s nt t e0 a0) (w : World) (L : Laid w) : Calls Tryd.prog 9 #[.string (s ++ ⟨#[10, 47, 47]⟩ ++ nt ++ ⟨#[10]⟩ ++ t)] w fun e w' => e = .returned (.tuple #[.slice none 0 0, .int .i64 e0, .int .i64 a0]) ∧ Below w.heap.size w w' := h w L

set_option maxRecDepth 100000 in
set_option maxHeartbeats 1000000 in
theorem walk_err1 (s nt t : ByteArray) (X : List Wd) (e0 : Int) (a0 : Nat) (h1 : s.size ≤ 1000) (h2 : nt.size ≤ 100) (h3 : t.size ≤ 1000) (hN : Hid (hasB nt.data.toList 10 = false)) (he : (e0 != 0) = true) (hS : Hid (Sc numO s.data.toList 0 X (some (e0, a0)))) (hC : Hid (CErr s nt t e0 a0)) (W : World) (L : Hid (Laid W)) :
    Calls Tryd.prog 6 #[.string s, .string nt, .string t] W fun e w' => e = .returned (.bool true) ∧ Below W.heap.size W w' := by
  go_enter Tryd.func6, Tryd.ntmps6
  go_wp2_with (first
    | (go_at_call 8; refine (awake_any _ L).mono ?_; rintro e' w1 ⟨rfl, hb1⟩; have hB := hb1; clear hb1)
    | (go_at_call 17; (with_reducible refine (in10 hN.out (by omega) _).mono ?_); rintro e' w' ⟨rfl, rfl⟩)
    | (go_at_call 9; (with_reducible refine (words_err s _ (Lib.hid (L.out.below hB)) (by omega) X e0 a0 hS).mono ?_); rintro e' w2 ⟨rfl, hb2⟩; have hB2 := hB.trans (hb2.mono hB.size))
    | (go_at_call 9; (with_reducible refine (words_some t _ (L.out.below hB2) (by omega)).mono ?_); rintro e' w3 ⟨⟨v, e1, a1, rfl⟩, hb3⟩; have hB3 := hB2.trans (hb3.mono hB2.size))
    | (go_at_call 9; (with_reducible refine (hC.out.get _ (L.out.below hB3)).mono ?_); rintro e' w4 ⟨rfl, hb4⟩; have hB4 := hB3.trans (hb4.mono hB3.size)))
  go_ret
  exact ⟨rfl, hB4⟩

set_option maxRecDepth 100000 in
set_option maxHeartbeats 1000000 in
theorem walk_err2 (s nt t : ByteArray) (X Y : List Wd) (e0 : Int) (a0 c0 : Nat) (h1 : s.size ≤ 1000) (h2 : nt.size ≤ 100) (h3 : t.size ≤ 1000) (hN : Hid (hasB nt.data.toList 10 = false)) (he : (e0 != 0) = true) (hS : Hid (Sc numO s.data.toList 0 X none)) (hT : Hid (Sc numO t.data.toList 0 Y (some (e0, a0)))) (hC : Hid (CErr s nt t e0 c0)) (W : World) (L : Hid (Laid W)) :
    Calls Tryd.prog 6 #[.string s, .string nt, .string t] W fun e w' => e = .returned (.bool true) ∧ Below W.heap.size W w' := by
  go_enter Tryd.func6, Tryd.ntmps6
  go_wp2_with (first
    | (go_at_call 8; refine (awake_any _ L).mono ?_; rintro e' w1 ⟨rfl, hb1⟩; have hB := hb1; clear hb1)
    | (go_at_call 17; (with_reducible refine (in10 hN.out (by omega) _).mono ?_); rintro e' w' ⟨rfl, rfl⟩)
    | (go_at_call 9; (with_reducible refine (words_ok s _ (Lib.hid (L.out.below hB)) (by omega) X hS).mono ?_); rintro e' w2 ⟨⟨g, cap, rfl, ho⟩, hb2⟩; have hB2 := hB.trans (hb2.mono hB.size); clear ho)
    | (go_at_call 9; (with_reducible refine (words_err t _ (Lib.hid (L.out.below hB2)) (by omega) Y e0 a0 hT).mono ?_); rintro e' w3 ⟨rfl, hb3⟩; have hB3 := hB2.trans (hb3.mono hB2.size))
    | (go_at_call 9; (with_reducible refine (hC.out.get _ (L.out.below hB3)).mono ?_); rintro e' w4 ⟨rfl, hb4⟩; have hB4 := hB3.trans (hb4.mono hB3.size)))
  go_ret
  exact ⟨rfl, hB4⟩
end LexNotes
end Go.Proofs.YtkmmohhafmnheaaDoor
