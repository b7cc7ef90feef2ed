/- The statements' own example (awake) comes out true, with the listed variables as the program lays them. -/
import Derived.Test.YtibbmacoofgmoaaDoorEval
import Derived.Test.YtibbmacoofgmoaaDoorNum
namespace Go.Proofs.YtibbmacoofgmoaaDoor
open Go Go.RowKit Go.Sort

theorem num120 : numM ⟨#[49, 50, 48]⟩ = (120, true) := by
  have h1 : Lib.parseIntB 64 [49, 50, 48] = .ok 120 := by decide
  have h2 : dig 120 = ⟨#[49, 50, 48]⟩ := by simp [dig, Lib.itoa, Lib.decDigits]
  unfold numM
  rw [if_neg (by decide)]
  simp only [h1, h2]
  simp
theorem num007 : numM ⟨#[48, 48, 55]⟩ = (0, false) := by
  have h1 : Lib.parseIntB 64 [48, 48, 55] = .ok 7 := by decide
  have h2 : dig 7 = ⟨#[55]⟩ := by simp [dig, Lib.itoa, Lib.decDigits]
  unfold numM
  rw [if_neg (by decide)]
  simp only [h1, h2, ByteArray.toList_eq]
  decide
theorem dig40 : dig (-40) = ⟨#[45, 52, 48]⟩ := by simp [dig, Lib.itoa, Lib.decDigits]
theorem op17 : opM ⟨#[38, 38]⟩ = 17 := by
  simp only [opM, opGo, ByteArray.toList_eq]
  decide

theorem aw1 (w : World) : Calls Tryd.prog 11 #[.int .i64 3, .int .i64 (-9223372036854775808), .int .i64 (-1)] w fun e w' => e = .returned (.int .i64 (-9223372036854775808)) ∧ Below w.heap.size w w' := by
  have h := eval_any 3 (-9223372036854775808) (-1) w (by decide)
  rw [show ev 3 (-9223372036854775808) (-1) = -9223372036854775808 by kernel_rfl] at h
  exact h
theorem aw2 (w : World) : Calls Tryd.prog 11 #[.int .i64 3, .int .i64 7, .int .i64 0] w fun e w' => e = .returned (.int .i64 0) ∧ Below w.heap.size w w' := by
  have h := eval_any 3 7 0 w (by decide)
  rw [show ev 3 7 0 = 0 by kernel_rfl] at h
  exact h
theorem aw3 (w : World) : Calls Tryd.prog 11 #[.int .i64 16, .int .i64 5, .int .i64 (-1)] w fun e w' => e = .returned (.int .i64 1) ∧ Below w.heap.size w w' := by
  have h := eval_any 16 5 (-1) w (by decide)
  rw [show ev 16 5 (-1) = 1 by kernel_rfl] at h
  exact h
theorem aw4 (w : World) (L : Laid w) : Calls Tryd.prog 13 #[.int .i64 8] w fun e w' => e = .returned (.string ⟨#[60, 60]⟩) ∧ w = w' :=
  sign_any 8 w L.tab
theorem aw5 (w : World) (L : Laid w) : Calls Tryd.prog 15 #[.string ⟨#[38, 38]⟩] w fun e w' => e = .returned (.int .i64 17) ∧ w = w' := by
  have h := op_any ⟨#[38, 38]⟩ w L.tab
  rw [op17] at h
  exact h
theorem aw6 (w : World) (L : Laid w) : Calls Tryd.prog 17 #[.int .i64 18] w fun e w' => e = .returned (.int .i64 1) ∧ w = w' :=
  rank_any 18 w L.tab
theorem aw7 (w : World) : Calls Tryd.prog 19 #[.int .i64 10] w fun e w' => e = .returned (.bool true) ∧ w = w' := truth_yes 10 w (by decide) (by decide)
theorem aw8 (w : World) : Calls Tryd.prog 19 #[.int .i64 9] w fun e w' => e = .returned (.bool false) ∧ w = w' := truth_no 9 w (by decide)
theorem aw9 (w : World) (L : Laid w) : Calls Tryd.prog 20 #[.string ⟨#[49, 50, 48]⟩] w fun e w' => e = .returned (.tuple #[.int .i64 120, .bool true]) ∧ Below w.heap.size w w' := by
  have h := number_any ⟨#[49, 50, 48]⟩ w L
  rw [num120] at h
  exact h
theorem aw10 (w : World) (L : Laid w) : Calls Tryd.prog 20 #[.string ⟨#[48, 48, 55]⟩] w fun e w' => e = .returned (.tuple #[.int .i64 0, .bool false]) ∧ Below w.heap.size w w' := by
  have h := number_any ⟨#[48, 48, 55]⟩ w L
  rw [num007] at h
  exact h
theorem aw11 (w : World) (L : Laid w) : Calls Tryd.prog 22 #[.int .i64 (-40)] w fun e w' => e = .returned (.string ⟨#[45, 52, 48]⟩) ∧ Below w.heap.size w w' := by
  have h := digits_any (-40) w (Lib.hid L) (by decide) (by decide)
  rw [dig40] at h
  exact h

set_option maxRecDepth 100000 in
set_option maxHeartbeats 1000000 in
theorem awake_any (w : World) (L : Hid (Laid w)) : Calls Tryd.prog 10 #[] w fun e w' => e = .returned (.bool true) ∧ Below w.heap.size w w' := by
  have hB := Below.refl w.heap.size w
  go_enter Tryd.func10, Tryd.ntmps10
  go_wp2_with (first
    | (go_at_call 11; with_reducible refine (aw1 _).mono ?_; rintro e w1 ⟨rfl, hb1⟩; replace hB := hB.trans (hb1.mono hB.size); clear hb1)
    | (go_at_call 11; with_reducible refine (aw2 _).mono ?_; rintro e w1 ⟨rfl, hb1⟩; replace hB := hB.trans (hb1.mono hB.size); clear hb1)
    | (go_at_call 11; with_reducible refine (aw3 _).mono ?_; rintro e w1 ⟨rfl, hb1⟩; replace hB := hB.trans (hb1.mono hB.size); clear hb1)
    | (go_at_call 13; refine (aw4 _ (L.out.below hB)).mono ?_; rintro e w1 ⟨rfl, rfl⟩)
    | (go_at_call 15; refine (aw5 _ (L.out.below hB)).mono ?_; rintro e w1 ⟨rfl, rfl⟩)
    | (go_at_call 17; refine (aw6 _ (L.out.below hB)).mono ?_; rintro e w1 ⟨rfl, rfl⟩)
    | (go_at_call 19; with_reducible refine (aw7 _).mono ?_; rintro e w1 ⟨rfl, rfl⟩)
    | (go_at_call 19; with_reducible refine (aw8 _).mono ?_; rintro e w1 ⟨rfl, rfl⟩)
    | (go_at_call 20; with_reducible refine (aw9 _ (L.out.below hB)).mono ?_; rintro e w1 ⟨rfl, hb1⟩; replace hB := hB.trans (hb1.mono hB.size); clear hb1)
    | (go_at_call 20; with_reducible refine (aw10 _ (L.out.below hB)).mono ?_; rintro e w1 ⟨rfl, hb1⟩; replace hB := hB.trans (hb1.mono hB.size); clear hb1)
    | (go_at_call 22; refine (aw11 _ (L.out.below hB)).mono ?_; rintro e w1 ⟨rfl, hb1⟩; replace hB := hB.trans (hb1.mono hB.size); clear hb1))
  go_ret
  exact ⟨rfl, hB⟩
end Go.Proofs.YtibbmacoofgmoaaDoor
