/- Whether an instruction may be one of a code: ins.right. -/
import Derived.Test.YtjjjdghkeogljaaDoorFit7
import Derived.Test.YtjjjdghkeogljaaDoorKnd
namespace Go.Proofs.YtjjjdghkeogljaaDoor
set_option linter.unusedSimpArgs false
set_option linter.unusedVariables false
open Go Go.RowKit

theorem below_ch {W0 W w : World} (h : Below W0.heap.size W0 W) (k : Below W.heap.size W w) : Below W0.heap.size W0 w := h.trans (k.mono h.size)
def fitTo (x : Ic) (kk : Nat) (regs locks many : Int) (j : Nat) : Bool := (List.range j).all fun i => fitsB x (prt kk i) regs locks many
def outTo (x : Ic) (kk j : Nat) : Ic := (List.range j).foldl (fun y i => outP y (prt kk i)) x
def bareB (x : Ic) (k : Int) : Bool := x.k == k && x.o == 0 && x.d == 0 && x.a == 0 && x.b == 0 && x.n == 0 && x.t == 0
def rightB (x : Ic) (regs locks many : Int) : Bool := if 0 ≤ x.k ∧ x.k ≤ 13 then fitTo x x.k.toNat regs locks many 4 && bareB (outTo x x.k.toNat 4) x.k else false

theorem fitTo_step {x : Ic} {kk : Nat} {regs locks many : Int} {j : Nat} {b : Bool} (h : fitTo x kk regs locks many j = true) (hb : fitsB x (prt kk j) regs locks many = b) : fitTo x kk regs locks many (j + 1) = b := by
  unfold fitTo at h ⊢
  rw [List.range_succ, List.all_append, h]
  simpa using hb
theorem fitTo_no {x : Ic} {kk : Nat} {regs locks many : Int} {j : Nat} (hj : j < 4) (hb : fitsB x (prt kk j) regs locks many = false) : fitTo x kk regs locks many 4 = false := by
  unfold fitTo
  rw [List.all_eq_false]
  exact ⟨j, List.mem_range.2 hj, by simp [hb]⟩
theorem outTo_step (x : Ic) (kk j : Nat) : outTo x kk (j + 1) = outP (outTo x kk j) (prt kk j) := by
  unfold outTo
  rw [List.range_succ, List.foldl_append]
  rfl
theorem prt_range (k j : Nat) (hk : k < 14) (hj : j < 4) : 0 ≤ prt k j ∧ prt k j ≤ 10 := by
  have h : ∀ k, k < 14 → ∀ j, j < 4 → 0 ≤ prt k j ∧ prt k j ≤ 10 := by decide
  exact h k hk j hj
theorem fits_is {x : Ic} {p regs locks many : Int} {b : Bool} (h : fitsB x p regs locks many = b) (h0 : 0 ≤ p ∧ p ≤ 10) (w : World) : Calls Tryd.prog 45 #[.agg #[.int .i64 x.k, .int .i64 x.o, .int .i64 x.d, .int .i64 x.a, .int .i64 x.b, .int .i64 x.n, .int .i64 x.t], .int .i64 p, .agg #[.int .i64 regs, .int .i64 locks], .int .i64 many] w fun e w' => e = .returned (.bool b) ∧ Below w.heap.size w w' :=
  h ▸ fits_any x p regs locks many w h0.1 h0.2
theorem out_is {x y : Ic} {p : Int} (h : outP x p = y) (h0 : 0 ≤ p ∧ p ≤ 10) (w : World) : Calls Tryd.prog 46 #[.agg #[.int .i64 x.k, .int .i64 x.o, .int .i64 x.d, .int .i64 x.a, .int .i64 x.b, .int .i64 x.n, .int .i64 x.t], .int .i64 p] w fun e w' => e = .returned (.agg #[.int .i64 y.k, .int .i64 y.o, .int .i64 y.d, .int .i64 y.a, .int .i64 y.b, .int .i64 y.n, .int .i64 y.t]) ∧ Below w.heap.size w w' :=
  h ▸ out_any x p w h0.1 h0.2

set_option maxRecDepth 100000 in
theorem right_un (x : Ic) (regs locks many : Int) (w : World) (h : x.k < 0 ∨ 13 < x.k) : Calls Tryd.prog 33 #[.agg #[.int .i64 x.k, .int .i64 x.o, .int .i64 x.d, .int .i64 x.a, .int .i64 x.b, .int .i64 x.n, .int .i64 x.t], .agg #[.int .i64 regs, .int .i64 locks], .int .i64 many] w fun e w' => e = .returned (.bool false) ∧ Below w.heap.size w w' := by
  have H := Lib.hid h
  clear h
  go_enter Tryd.func33, Tryd.ntmps33
  go_wp2_with (go_at_call 21; (with_reducible refine (kn_f _ _ H.out).mono ?_); rintro e w' ⟨rfl, rfl⟩)
  go_ret
  exact ⟨rfl, below2 _ _ _⟩

set_option maxRecDepth 100000 in
set_option maxHeartbeats 4000000 in
theorem right_kn (x : Ic) (regs locks many : Int) (w : World) (hk0 : 0 ≤ x.k) (hk1 : x.k ≤ 13) (T : Hid (Kinds w)) (r : Bool) (hr : Hid ((fitTo x x.k.toNat regs locks many 4 && bareB (outTo x x.k.toNat 4) x.k) = r)) : Calls Tryd.prog 33 #[.agg #[.int .i64 x.k, .int .i64 x.o, .int .i64 x.d, .int .i64 x.a, .int .i64 x.b, .int .i64 x.n, .int .i64 x.t], .agg #[.int .i64 regs, .int .i64 locks], .int .i64 many] w fun e w' => e = .returned (.bool r) ∧ Below w.heap.size w w' := by
  have hk : x.k.toNat < 14 := by omega
  have c0 := T.out.part x.k.toNat 0 hk (by omega)
  have c1 := T.out.part x.k.toNat 1 hk (by omega)
  have c2 := T.out.part x.k.toNat 2 hk (by omega)
  have c3 := T.out.part x.k.toNat 3 hk (by omega)
  have hsz := T.out.size
  go_enter Tryd.func33, Tryd.ntmps33
  go_wp2_with (go_at_call 21; (with_reducible refine (kn_t _ _ (by omega) (by omega)).mono ?_); rintro e w' ⟨rfl, rfl⟩)
  clear c0 c1 c2 c3 hsz
  go_loopw [9, 20] (fun _ i wr => ∃ j : Nat, i = .int .i64 j ∧ j ≤ 4 ∧ Hid (fitTo x x.k.toNat regs locks many j = true) ∧ Hid (Below w.heap.size w wr) ∧ Hid (Ib wr w.heap.size (.int .i64 x.k) (.int .i64 x.o) (.int .i64 x.d) (.int .i64 x.a) (.int .i64 x.b) (.int .i64 x.n) (.int .i64 x.t)) ∧ Hid (Bb wr (w.heap.size + 1) (.int .i64 regs) (.int .i64 locks)) ∧ Hid (∃ y, y = outTo x x.k.toNat j ∧ Ib wr (w.heap.size + 1 + 1) (.int .i64 y.k) (.int .i64 y.o) (.int .i64 y.d) (.int .i64 y.a) (.int .i64 y.b) (.int .i64 y.n) (.int .i64 y.t))) (fun _ i _ => 4 - (intOf i).toNat)
  case atStart =>
    refine ⟨0, rfl, by omega, Lib.hid rfl, Lib.hid ((below2 w _ _).alloc (by simp; omega) _), Lib.hid ?_, Lib.hid ?_, Lib.hid ⟨x, rfl, ?_⟩⟩
    · exact ((Ib.new rfl _ _ _ _ _ _ _).alloc _).alloc _
    · exact (Bb.new (by simp) _ _).alloc _
    · exact Ib.new (by simp) _ _ _ _ _ _ _
  case round =>
    obtain ⟨j, rfl, hj, HF, HB, HX, HD, HY⟩ := hrel
    obtain ⟨y, hy, hib⟩ := HY.out
    have HE := Lib.hid hy
    have HI := Lib.hid hib
    clear hy hib HY
    by_cases hlt : j < 4
    · have hi := idx4 (prt x.k.toNat) j hlt
      have hpr := prt_range x.k.toNat j hk hlt
      obtain ⟨p, hp⟩ : ∃ p, prt x.k.toNat j = p := ⟨_, rfl⟩
      rw [hp] at hi hpr
      have HP := Lib.hid hp
      have HPR := Lib.hid hpr
      clear hp hpr
      have fx := HX.out.facts
      obtain ⟨bx, x0, x1, x2, x3, x4, x5, x6, -⟩ := fx
      obtain ⟨bd, d0, d1⟩ := HD.out.facts
      cases hf : fitsB x p regs locks many
      · have HFF := Lib.hid hf
        have HR : Hid (r = false) := Lib.hid (by rw [← hr.out, fitTo_no hlt (by rw [HP.out]; exact hf)]; rfl)
        clear hf
        go_wp2_with (go_at_call 45; (with_reducible refine (fits_is HFF.out HPR.out _).mono ?_); rintro e1 w1 ⟨rfl, hb1⟩; have HB1 := Lib.hid hb1; clear hb1)
        go_ret
        exact ⟨ret_bool HR.out.symm, below_ch HB.out HB1.out⟩
      · have HFF := Lib.hid hf
        have HF2 : Hid (fitTo x x.k.toNat regs locks many (j + 1) = true) := Lib.hid (fitTo_step HF.out (by rw [HP.out]; exact hf))
        obtain ⟨z, hz⟩ : ∃ z, outP y p = z := ⟨_, rfl⟩
        have HZ := Lib.hid hz
        have HZ2 : Hid (z = outTo x x.k.toNat (j + 1)) := Lib.hid (by rw [outTo_step, ← HE.out, HP.out, hz])
        clear hf hz
        go_wp2_with (first
          | (go_at_call 45; (with_reducible refine (fits_is HFF.out HPR.out _).mono ?_); rintro e1 w1 ⟨rfl, hb1⟩; have HB1 := Lib.hid hb1; have HX1 := Lib.hid (HX.out.stay hb1); have HD1 := Lib.hid (HD.out.stay hb1); have HI1 := Lib.hid (HI.out.stay hb1); clear hb1; obtain ⟨by1, y0, y1, y2, y3, y4, y5, y6, -⟩ := HI1.out.facts)
          | (go_at_call 46; (with_reducible refine (out_is HZ.out HPR.out _).mono ?_); rintro e2 w2 ⟨rfl, hb2⟩; have HB2 := Lib.hid (below_ch HB1.out hb2); have HX2 := Lib.hid (HX1.out.stay hb2); have HD2 := Lib.hid (HD1.out.stay hb2); have HI2 := Lib.hid (HI1.out.stay hb2); clear hb2; obtain ⟨bz1, z0, z1, z2, z3, z4, z5, z6, g0, g1, g2, g3, g4, g5, g6⟩ := HI2.out.facts))
        go_roundw
        case rel =>
          refine ⟨j + 1, by go_num, by omega, HF2, Lib.hid ?_, Lib.hid ?_, Lib.hid ?_, Lib.hid ⟨z, HZ2.out, HI2.out.all _ _ _ _ _ _ _⟩⟩
          · exact ((((((((HB.out.trans (HB2.out.mono HB.out.size)).setCell (by simp; omega) _).setCell (by simp; omega) _).setCell (by simp; omega) _).setCell (by simp; omega) _).setCell (by simp; omega) _).setCell (by simp; omega) _).setCell (by simp; omega) _)
          · exact ((((((HX2.out.setO (by omega) _ _).setO (by omega) _ _).setO (by omega) _ _).setO (by omega) _ _).setO (by omega) _ _).setO (by omega) _ _).setO (by omega) _ _
          · exact ((((((HD2.out.setO (by omega) _ _).setO (by omega) _ _).setO (by omega) _ _).setO (by omega) _ _).setO (by omega) _ _).setO (by omega) _ _).setO (by omega) _ _
        case measure => simp [intOf]; omega
    · obtain rfl : j = 4 := by omega
      obtain ⟨bx, x0, x1, x2, x3, x4, x5, x6, -⟩ := HX.out.facts
      obtain ⟨by1, y0, y1, y2, y3, y4, y5, y6, -⟩ := HI.out.facts
      have HQ : Hid (bareB y x.k = r) := Lib.hid (by rw [← hr.out, HF.out, ← HE.out]; rfl)
      clear HE HF HX HI HD
      go_wp2
      all_goals
        go_ret
        refine ⟨ret_bool ?_, HB.out⟩
        rw [← HQ.out]
        simp_all [bareB]

/-- ins.right, of any instruction. -/
theorem right_any (x : Ic) (regs locks many : Int) (w : World) (T : Kinds w) : Calls Tryd.prog 33 #[.agg #[.int .i64 x.k, .int .i64 x.o, .int .i64 x.d, .int .i64 x.a, .int .i64 x.b, .int .i64 x.n, .int .i64 x.t], .agg #[.int .i64 regs, .int .i64 locks], .int .i64 many] w fun e w' => e = .returned (.bool (rightB x regs locks many)) ∧ Below w.heap.size w w' := by
  by_cases h : 0 ≤ x.k ∧ x.k ≤ 13
  · exact right_kn x regs locks many w h.1 h.2 (Lib.hid T) _ (Lib.hid (by unfold rightB; rw [if_pos h]))
  · have e : rightB x regs locks many = false := by unfold rightB; rw [if_neg h]
    rw [e]
    exact right_un x regs locks many w (by omega)
end Go.Proofs.YtjjjdghkeogljaaDoor
