/- The nearest ones where there is nothing: graph's ways.nearest at no number. -/
import Derived.Test.YtacgfjcdfgdpjaaDoorGct
namespace Go.Proofs.YtacgfjcdfgdpjaaDoor
set_option linter.unusedSimpArgs false
set_option linter.unusedVariables false
open Go Go.RowKit Gm

set_option maxRecDepth 100000 in
set_option maxHeartbeats 4000000 in
theorem near_none {W : World} {own : Nat → Nat} {B : Nat} {d : Wv} {y : Wm} (hW : Hid (Ws W own B d y y.m y.m y.m)) (hS : Hid (Sok y)) (hm : y.m = 0) (hn : y.n ≤ 1000000) : Calls Tryd.prog 28 #[.pointer (some ⟨d.a, 0, none⟩)] W (NearP W y) := by
  have hmk := make_i y.m (by omega)
  have hmk2 := make_ii y.m (by omega)
  obtain ⟨l, c0, c1, c2, c3, -⟩ := hW.out.facts
  obtain ⟨p0, q0, e0, -⟩ := hW.out.pla.open
  rw [e0] at c0
  have HE0 := Lib.hid e0
  have HM := Lib.hid hm
  clear e0 hm
  go_enter Tryd.func28, Tryd.ntmps28
  go_upto_region 4 with (first
    | (go_at_call 41; ((with_reducible refine (newClimb_any y.m _ (by have := HM.out; omega)).mono ?_); rintro e1 w1 ⟨k, rfl, hk1, hb1, g1, g2, g3, g4⟩; have HK1 := Lib.hid hb1; obtain ⟨l', c0', c1', c2', c3', -⟩ := (hW.out.stay hb1).facts; rw [HE0.out] at c0'; have HW1 := Lib.hid (hW.out.stay hb1); clear hk1 hb1 g1 g2 g3 g4))
    | (go_at_call 23; ((with_reducible refine (sources_any HW1 hS hn).mono ?_); rintro e2 w2 ⟨ba, bf, b9, b3, rfl, hs2, hb2, g1, g2, g3, g4⟩; have HS2 := Lib.hid hb2; obtain ⟨l'', c0'', c1'', c2'', c3'', -⟩ := (HW1.out.stay hb2).facts; rw [HE0.out] at c0''; clear hs2 hb2 g1 g2 g3 g4)))
  refine name_world ?_
  intro W3 hW3
  obtain ⟨bl, hbl⟩ : ∃ bl, w2.heap.size = bl := ⟨_, rfl⟩
  have HF : Hid (FV 3 W3 bl y.m (iv fun _ => 0) ∧ W.heap.size ≤ bl ∧ Below W.heap.size W W3) := Lib.hid (by
    have h1 : Below w2.heap.size w2 W3 := by rw [hW3]; exact ((Below.refl _ _).alloc (Nat.le_refl _) _).alloc (by simp) _
    have h2 := HK1.out.trans ((HS2.out.mono HK1.out.size))
    refine ⟨?_, by have := h2.size; omega, h2.trans (h1.mono h2.size)⟩
    rw [hW3, ← hbl]; exact (fv_zero w2 y.m).alloc _)
  rw [hbl]
  have hz : (y.m : Int) = 0 := by have := HM.out; omega
  clear hW3 hbl HK1 HS2 HW1
  go_wp2
  go_loopw [7] (fun a wr => a = .int .i64 (-1) ∧ wr = W3) (fun _ _ => 0)
  case atStart => exact ⟨by simp, rfl⟩
  case round =>
    obtain ⟨rfl, rfl⟩ := hrel
    go_wp2
    go_loopw [157] (fun a wr' => a = .int .i64 0 ∧ wr' = wr) (fun _ _ => 0)
    case atStart => exact ⟨rfl, rfl⟩
    case round =>
      obtain ⟨rfl, rfl⟩ := hrel
      go_wp2
      go_ret
      exact ⟨bl, fun _ => none, by rw [HM.out]; rfl, HF.out.1.to fun i hi => absurd hi (by rw [HM.out]; exact Nat.not_lt_zero i), ⟨fun h => absurd h (by rw [HM.out]; exact Nat.not_lt_zero 0), fun v h1 h2 => absurd h2 (by rw [HM.out]; exact Nat.not_lt_zero v)⟩, HF.out.2.1, HF.out.2.2⟩
end Go.Proofs.YtacgfjcdfgdpjaaDoor
