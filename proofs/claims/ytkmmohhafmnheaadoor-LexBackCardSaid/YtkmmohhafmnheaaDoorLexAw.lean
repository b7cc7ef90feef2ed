/- lex.Words in the shapes in which the statements meet it; the statements' own examples (awake) come out true. -/
import Derived.Test.YtkmmohhafmnheaaDoorWords
import Derived.Test.YtkmmohhafmnheaaDoorTokAt
import Derived.Test.YtkmmohhafmnheaaDoorKey
import Derived.Test.YtkmmohhafmnheaaDoorLine
namespace Go.Proofs.YtkmmohhafmnheaaDoor
open Go Go.RowKit

/-- Words that are there: a row of so many. -/
def OkEnd (T : TypeId) (B : Nat) (W : List Wd) (e : Ending) (w' : World) : Prop :=
  ∃ g cap, e = .returned (.tuple #[.slice (some ⟨g, 0, none⟩) W.length cap, .int .i64 0, .int .i64 0]) ∧ w'.ownsRow B T 4 (.slice (some ⟨g, 0, none⟩) W.length cap) W.length (cellsW W)

theorem words_ok (s : ByteArray) (w : World) (L : Hid (Laid w)) (hs : s.size ≤ 16384) (W : List Wd) (hS : Hid (Sc numO s.data.toList 0 W none)) :
    Calls Tryd.prog 9 #[.string s] w fun e w' => OkEnd 37 w.heap.size W e w' ∧ Below w.heap.size w w' :=
  (words_any s w L hs W none hS).mono fun e w' ⟨h1, h2⟩ => by
    obtain ⟨v, e1, e2⟩ := h1
    obtain ⟨g, cap, e3, _⟩ := e2.form (hS.out.some_words rfl)
    subst e3
    exact ⟨⟨g, cap, e1, e2⟩, h2⟩
theorem words_err (s : ByteArray) (w : World) (L : Hid (Laid w)) (hs : s.size ≤ 16384) (W : List Wd) (e0 : Int) (a0 : Nat) (hS : Hid (Sc numO s.data.toList 0 W (some (e0, a0)))) :
    Calls Tryd.prog 9 #[.string s] w fun e w' => e = .returned (.tuple #[.slice none 0 0, .int .i64 e0, .int .i64 a0]) ∧ Below w.heap.size w w' :=
  words_any s w L hs W _ hS
theorem words_big (s : ByteArray) (w : World) (hs : 16384 < s.size) (hm : s.size ≤ 9223372036854775807) :
    Calls Tryd.prog 9 #[.string s] w fun e w' => e = .returned (.tuple #[.slice none 0 0, .int .i64 2, .int .i64 0]) ∧ Below w.heap.size w w' := by
  go_enter Tryd.func9, Tryd.ntmps9
  go_wp2
  go_ret3
  exact ⟨rfl, Below.refl _ _⟩
theorem num_1 : numO [49] = some 1 := by
  have h1 : Lib.parseIntB 64 [49] = .ok 1 := by decide
  have h2 : dig 1 = ⟨#[49]⟩ := by simp [dig, Lib.itoa, Lib.decDigits]
  have h3 : numM ⟨#[49]⟩ = (1, true) := by
    unfold numM
    rw [if_neg (by decide)]
    simp only [h1, h2]
    simp
  unfold numO
  show (match numM ⟨#[49]⟩ with | (v, true) => some v | (_, false) => none) = _
  rw [h3]
theorem num_1x : numO [49, 120] = none := by
  have h1 : Lib.parseIntB 64 [49, 120] = Lib.parseIntB 64 [] := by decide
  have h3 : numM ⟨#[49, 120]⟩ = (0, false) := by
    unfold numM
    rw [if_neg (by decide)]
    simp only [h1]
    rfl
  unfold numO
  show (match numM ⟨#[49, 120]⟩ with | (v, true) => some v | (_, false) => none) = _
  rw [h3]

def awW : List Wd := [⟨0, [97], 0, 0⟩, ⟨2, [60, 61], 0, 1⟩, ⟨2, [45], 0, 3⟩, ⟨1, [49], 1, 4⟩, ⟨3, [], 0, 10⟩]
theorem aw_words : Sc numO [97, 60, 61, 45, 49, 32, 47, 47, 120, 10] 0 awW none := by
  refine .word _ 0 1 0 0 _ _ (by simp) rfl ?_
  refine .word _ 1 2 2 0 _ _ (by simp) rfl ?_
  refine .word _ 3 1 2 0 _ _ (by simp) rfl ?_
  refine .word _ 4 1 1 1 _ _ (by simp) ?_ ?_
  · show (match numO [49] with | some v => Tok.word 1 1 v | none => .bad 10) = _
    rw [num_1]
  refine .gap _ 5 1 _ _ (by simp) rfl ?_
  refine .gap _ 6 3 _ _ (by simp) rfl ?_
  refine .gap _ 9 1 _ _ (by simp) rfl ?_
  exact .done 10
theorem aw_bad : Sc numO [97, 32, 49, 120] 0 [⟨0, [97], 0, 0⟩] (some (10, 2)) := by
  refine .word _ 0 1 0 0 _ _ (by simp) rfl ?_
  refine .gap _ 1 1 _ _ (by simp) rfl ?_
  refine .bad _ 2 10 (by simp) ?_
  show (match numO [49, 120] with | some v => Tok.word 1 2 v | none => .bad 10) = _
  rw [num_1x]

/-- What the statements' own example looks at. -/
def AwEnd (w : World) (e : Ending) (w' : World) : Prop :=
  ∃ g cap, e = .returned (.tuple #[.slice (some ⟨g, 0, none⟩) 5 cap, .int .i64 0, .int .i64 0]) ∧ g < w'.heap.size ∧ w'.cell? ⟨g, 5, none⟩ = some (.string ⟨#[60, 61]⟩) ∧ w'.cell? ⟨g, 8, none⟩ = some (.int .i64 2) ∧ w'.cell? ⟨g, 14, none⟩ = some (.int .i64 1) ∧
    w'.cell? ⟨g, 16, none⟩ = some (.int .i64 3) ∧ w'.cell? ⟨g, 19, none⟩ = some (.int .i64 10) ∧ Below w.heap.size w w'
theorem law_aw1 (w : World) (L : Laid w) : Calls Tryd.prog 9 #[.string ⟨#[97, 60, 61, 45, 49, 32, 47, 47, 120, 10]⟩] w (AwEnd w) :=
  (words_ok ⟨#[97, 60, 61, 45, 49, 32, 47, 47, 120, 10]⟩ w (Lib.hid L) (by decide) awW (Lib.hid aw_words)).mono fun e w' ⟨⟨g, cap, h1, h2⟩, hb⟩ => by
    obtain ⟨_, c1, _, _⟩ := row_at h2 (i := 1) rfl
    obtain ⟨c2, _, _, _⟩ := row_at h2 (i := 2) rfl
    obtain ⟨_, _, c3, _⟩ := row_at h2 (i := 3) rfl
    obtain ⟨c4, _, _, c5⟩ := row_at h2 (i := 4) rfl
    exact ⟨g, cap, h1, (h2.lt g rfl).2, c1, c2, c3, c4, c5, hb⟩
theorem law_aw2 (w : World) (L : Laid w) : Calls Tryd.prog 9 #[.string ⟨#[97, 32, 49, 120]⟩] w fun e w' => e = .returned (.tuple #[.slice none 0 0, .int .i64 10, .int .i64 2]) ∧ Below w.heap.size w w' :=
  words_err ⟨#[97, 32, 49, 120]⟩ w (Lib.hid L) (by decide) _ _ _ (Lib.hid aw_bad)
theorem law_aw3 (w : World) : Calls Tryd.prog 13 #[.string ⟨#[97, 10, 98, 99]⟩, .int .i64 3] w fun e w' => e = .returned (.tuple #[.int .i64 2, .int .i64 2]) ∧ w = w' :=
  line_any ⟨#[97, 10, 98, 99]⟩ 3 3 w (Lib.hid rfl) (by decide)
theorem law_aw4 (w : World) : Calls Tryd.prog 15 #[.string ⟨#[119, 104, 105, 108, 101]⟩] w fun e w' => e = .returned (.bool true) ∧ Below w.heap.size w w' :=
  key_any ⟨#[119, 104, 105, 108, 101]⟩ w (by decide)
theorem law_aw5 (w : World) : Calls Tryd.prog 15 #[.string ⟨#[119, 104, 97, 108, 101]⟩] w fun e w' => e = .returned (.bool false) ∧ Below w.heap.size w w' :=
  key_any ⟨#[119, 104, 97, 108, 101]⟩ w (by decide)

set_option maxRecDepth 100000 in
set_option maxHeartbeats 1000000 in
theorem awake_any (w : World) (L : Hid (Laid w)) : Calls Tryd.prog 8 #[] w fun e w' => e = .returned (.bool true) ∧ Below w.heap.size w w' := by
  go_enter Tryd.func8, Tryd.ntmps8
  go_wp2_with (first
    | (go_at_call 9; (with_reducible refine (law_aw1 _ L.out).mono ?_); rintro e' w1 ⟨g, cap, rfl, hg, c1, c2, c3, c4, c5, hb1⟩)
    | (go_at_call 9; (with_reducible refine (law_aw2 _ (L.out.below hb1)).mono ?_); rintro e' w2 ⟨rfl, hb2⟩; rw [← hb2.cell (p := ⟨g, _, none⟩) hg] at c1 c2 c3 c4 c5)
    | (go_at_call 13; (with_reducible refine (law_aw3 _).mono ?_); rintro e' w3 ⟨rfl, rfl⟩)
    | (go_at_call 15; (with_reducible refine (law_aw4 _).mono ?_); rintro e' w4 ⟨rfl, hb4⟩)
    | (go_at_call 15; (with_reducible refine (law_aw5 _).mono ?_); rintro e' w5 ⟨rfl, hb5⟩))
  go_ret
  have hB2 := hb1.trans (hb2.mono hb1.size)
  have hB4 := hB2.trans (hb4.mono hB2.size)
  exact ⟨rfl, hB4.trans (hb5.mono hB4.size)⟩
end Go.Proofs.YtkmmohhafmnheaaDoor
