/- Which may be reached: graph's Reach. -/
import Derived.Test.YtacgfjcdfgdpjaaDoorGow
namespace Go.Proofs.YtacgfjcdfgdpjaaDoor
set_option linter.unusedSimpArgs false
set_option linter.unusedVariables false
open Go Go.RowKit Gm

/-- What the numbers of a code are. -/
def Nums (c : List Ic) (y : Wm) : Prop := (c = [] → y.m = 0) ∧ (c ≠ [] → Wf c y)
theorem Nums.pl {c : List Ic} {y : Wm} (h : Nums c y) {v : Nat} (hv : v < y.m) : y.pl v < c.length := by
  by_cases e : c = []
  · have := h.1 e; omega
  · exact ((h.2 e).nb.pl v hv).1
theorem Nums.m {c : List Ic} {y : Wm} (h : Nums c y) : y.m ≤ c.length := by
  by_cases e : c = []
  · have := h.1 e; omega
  · have := (h.2 e).nb.cnt; omega
def ReachP (W : World) (c : List Ic) (e : Ending) (w' : World) : Prop := ∃ (b : Nat) (r : Nat → Bool) (y : Wm), e = .returned (.slice (some ⟨b, 0, none⟩) c.length c.length) ∧ FV 4 w' b c.length (bv r) ∧ Nums c y ∧ (∀ i, r i = true ↔ ∃ v, v < y.m ∧ y.pl v = i) ∧ W.heap.size ≤ b ∧ Below W.heap.size W w'
set_option maxRecDepth 100000 in
set_option maxHeartbeats 4000000 in
theorem reach_any {W : World} {p : Option Addr} {cap : Nat} {c : List Ic} (hn : c.length ≤ 1000000) (hc : Hid (CodeAt W p c)) (T : Hid (Kinds W)) : Calls Tryd.prog 9 #[.slice p c.length cap] W (ReachP W c) := by
  have hmk := make_b c.length (by omega)
  go_enter Tryd.func9, Tryd.ntmps9
  go_upto_region 2 with (go_at_call 21; ((with_reducible refine (ways_any p cap hn hc T).mono ?_); rintro e1 w1 ⟨own, d, y, rfl, hw, hyn, hm0, hwf, hb⟩; have HW := Lib.hid hw; have HN : Hid (Nums c y) := Lib.hid ⟨hm0, hwf⟩; have HB := Lib.hid hb; clear hw hm0 hwf hb))
  go_upto_region 3 with (fail)
  refine name_world ?_
  intro W3 hW3
  obtain ⟨b, hb⟩ : ∃ b, w1.heap.size = b := ⟨_, rfl⟩
  have H3 : Hid (Below w1.heap.size w1 W3 ∧ FV 4 W3 b c.length (bv fun _ => false)) := Lib.hid (by
    rw [hW3, ← hb]
    exact ⟨below1 w1 _, FV.new rfl (by simp; rfl)⟩)
  have HBb := Lib.hid hb
  rw [hb]
  clear hW3 hb
  obtain ⟨l, c0, c1, c2, c3, -⟩ := (HW.out.stay H3.out.1).facts
  obtain ⟨p0, q0, e0, -⟩ := HW.out.pla.open
  have HE0 := Lib.hid e0
  rw [e0] at c0
  clear e0
  have hym := HN.out.m
  go_wp2
  go_loopw [17] (fun a wr => ∃ (j : Nat) (r : Nat → Bool), a = .int .i64 j ∧ j ≤ y.m ∧ Hid (Below w1.heap.size w1 wr ∧ FV 4 wr b c.length (bv r) ∧ ∀ i, r i = true ↔ ∃ v, v < j ∧ y.pl v = i)) (fun a _ => y.m - (intOf a).toNat)
  case atStart => exact ⟨0, fun _ => false, rfl, Nat.zero_le _, Lib.hid ⟨H3.out.1, H3.out.2, fun i => ⟨fun h => (by cases h), fun ⟨v, h, _⟩ => absurd h (Nat.not_lt_zero _)⟩⟩⟩
  case round =>
    clear l c0 c1 c2 c3
    obtain ⟨wo, rfl⟩ : ∃ wo : World, wo = wr := ⟨_, rfl⟩
    obtain ⟨j, r, rfl, hj, HR⟩ := hrel
    by_cases hlt : j < y.m
    · have hop := (HW.out.stay HR.out.1).pla.open
      rw [HE0.out] at hop
      obtain ⟨p', q', e', hop⟩ := hop
      cases e'
      obtain ⟨g0, rfl, -, -, -, -, -, hcell⟩ := hop.resolve_left (fun e => by omega)
      have i0 := hcell j hlt
      simp only [iv] at i0
      have hpl := HN.out.pl hlt
      have ib := HR.out.2.1.cell hpl
      have fb := HR.out.2.1.frozen (y.pl j)
      clear hcell hop
      have HA : Hid (FV 4 (wo.setCell ⟨b, y.pl j, none⟩ (.bool true)) b c.length (bv (upd r (y.pl j) true)) ∧ Below w1.heap.size w1 (wo.setCell ⟨b, y.pl j, none⟩ (.bool true)) ∧ ∀ i, upd r (y.pl j) true i = true ↔ ∃ v, v < j + 1 ∧ y.pl v = i) := Lib.hid ⟨bv_upd r (y.pl j) true ▸ HR.out.2.1.set (y.pl j) (.bool true), HR.out.1.setCell (p := ⟨b, y.pl j, none⟩) (by rw [HBb.out]; exact Nat.le_refl _) _, fun i => by
        by_cases e : i = y.pl j
        · rw [e, upd_at]; exact ⟨fun _ => ⟨j, by omega, rfl⟩, fun _ => rfl⟩
        · rw [upd_of e, HR.out.2.2 i]
          exact ⟨fun ⟨v, h1, h2⟩ => ⟨v, by omega, h2⟩, fun ⟨v, h1, h2⟩ => ⟨v, Nat.lt_of_le_of_ne (by omega) (fun e2 => e (by rw [← h2, e2])), h2⟩⟩⟩
      obtain ⟨z, hz⟩ : ∃ z, y.pl j = z := ⟨_, rfl⟩
      rw [hz] at i0 hpl ib fb HA
      clear hz
      go_wp2
      go_roundw
      case rel => exact ⟨j + 1, _, by go_num, by omega, Lib.hid ⟨HA.out.2.1, HA.out.1, HA.out.2.2⟩⟩
      case measure => (simp [intOf]; try omega)
    · obtain rfl : j = y.m := by omega
      go_wp2
      go_ret
      exact ⟨b, r, y, rfl, HR.out.2.1, HN.out, HR.out.2.2, by have := HB.out.size; have := HBb.out; omega, HB.out.trans (HR.out.1.mono HB.out.size)⟩
end Go.Proofs.YtacgfjcdfgdpjaaDoor
