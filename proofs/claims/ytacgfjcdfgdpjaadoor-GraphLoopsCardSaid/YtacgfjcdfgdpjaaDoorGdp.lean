/- In how many loops each place is: graph's Depth. -/
import Derived.Test.YtacgfjcdfgdpjaaDoorGlo
namespace Go.Proofs.YtacgfjcdfgdpjaaDoor
set_option linter.unusedSimpArgs false
set_option linter.unusedVariables false
open Go Go.RowKit Gm

/-- How deep the first ones are. -/
structure Dpr (y : Wm) (ar : Nat → Option Nat) (hd : Nat → Bool) (j : Nat) (dp : Nat → Nat) : Prop where
  is : ∀ v, v < j → dp (y.pl v) = (match ar v with | none => 0 | some p => dp (y.pl p)) + (if hd v then 1 else 0)
  out : ∀ i, (∀ v, v < j → y.pl v ≠ i) → dp i = 0
  le : ∀ i, dp i ≤ j
theorem Dpr.step {y : Wm} {ar : Nat → Option Nat} {hd : Nat → Bool} {j x : Nat} {dp : Nat → Nat} (h : Dpr y ar hd j dp) (hj : j < y.m) (hi : ∀ u v, u < y.m → v < y.m → y.pl u = y.pl v → u = v) (ha : ∀ v p, v < y.m → ar v = some p → p < v) (hx : x = (match ar j with | none => 0 | some p => dp (y.pl p)) + (if hd j then 1 else 0)) : Dpr y ar hd (j + 1) (upd dp (y.pl j) x) := by
  have ne : ∀ v, v < j → y.pl v ≠ y.pl j := fun v hv e => by have := hi v j (by omega) hj e; omega
  refine ⟨fun v hv => ?_, fun i hn => ?_, fun i => ?_⟩
  · by_cases e : v = j
    · subst e
      rw [upd_at, hx]
      cases hp : ar v with
      | none => rfl
      | some p => simp only; rw [upd_of (ne p (ha v p hj hp))]
    · rw [upd_of (ne v (by omega)), h.is v (by omega)]
      cases hp : ar v with
      | none => rfl
      | some p => simp only; rw [upd_of (ne p (by have := ha v p (by omega) hp; omega))]
  · rw [upd_of (fun e => hn j (by omega) e.symm)]
    exact h.out i fun v hv => hn v (by omega)
  · by_cases e : i = y.pl j
    · rw [e, upd_at, hx]
      cases hp : ar j with
      | none => simp only; split <;> omega
      | some p => simp only; have := h.le (y.pl p); split <;> omega
    · rw [upd_of e]; have := h.le i; omega
theorem upd_upd {α : Type} (f : Nat → α) (i : Nat) (a b : α) : upd (upd f i a) i b = upd f i b := by
  funext j
  by_cases e : j = i
  · rw [e, upd_at, upd_at]
  · rw [upd_of e, upd_of e, upd_of e]
theorem Nums.inj {c : List Ic} {y : Wm} (h : Nums c y) : ∀ u v, u < y.m → v < y.m → y.pl u = y.pl v → u = v := fun u v hu hv e => by
  have hw := h.wf (by omega)
  have h1 := (hw.nb.pl u hu).2
  have h2 := (hw.nb.pl v hv).2
  rw [e, h2] at h1
  exact (Option.some.inj h1).symm
/-- What Depth makes, and its loops, in memory. -/
structure Dw (V X : World) (bn b1 b2 b m n : Nat) (dp : Nat → Nat) : Prop where
  bel : Below V.heap.size V X
  blk : X.heap[bn]? = some (.cells #[.slice (some ⟨b1, 0, none⟩) m m, .slice (some ⟨b2, 0, none⟩) m m] 53 (0, 0))
  fv : FV 3 X b n (iv fun i => dp i)
  g : V.heap.size ≤ b
section
variable {V X Y : World} {bn b1 b2 b m n : Nat} {dp : Nat → Nat}
theorem Dw.facts (h : Dw V X bn b1 b2 b m n dp) : bn < X.heap.size ∧ X.cell? ⟨bn, 0, none⟩ = some (.slice (some ⟨b1, 0, none⟩) m m) ∧ X.cell? ⟨bn, 1, none⟩ = some (.slice (some ⟨b2, 0, none⟩) m m) := by
  refine ⟨(Array.getElem?_eq_some_iff.1 h.blk).1, ?_, ?_⟩ <;> rw [cell_of_row _ _ _ _ _ _ h.blk] <;> rfl
theorem Dw.like (h : Dw V X bn b1 b2 b m n dp) (e : Y.heap = X.heap) (e1 : Y.os = X.os) (e2 : Y.tape = X.tape) (e3 : Y.output = X.output) : Dw V Y bn b1 b2 b m n dp :=
  ⟨below_like h.bel e e1 e2 e3, by rw [e]; exact h.blk, h.fv.of_heap (by rw [e]), h.g⟩
theorem Dw.set (h : Dw V X bn b1 b2 b m n dp) (i x : Nat) : Dw V (X.setCell ⟨b, i, none⟩ (.int .i64 (x : Int))) bn b1 b2 b m n (upd dp i x) := by
  refine ⟨h.bel.setCell (p := ⟨b, i, none⟩) h.g _, (heap_setCell_other X ⟨b, i, none⟩ bn _ (two_types h.blk h.fv (by decide))).trans h.blk, ?_, h.g⟩
  have := h.fv.set i (.int .i64 (x : Int))
  rw [iv_upd, nv_upd] at this
  exact this
end
/-- What Depth gives. -/
def DepthP (W : World) (c : List Ic) (e : Ending) (w' : World) : Prop := ∃ (y : Wm) (ar : Nat → Option Nat) (hd : Nat → Bool) (b : Nat) (dp : Nat → Nat), e = .returned (.slice (some ⟨b, 0, none⟩) c.length c.length) ∧ FV 3 w' b c.length (iv fun i => dp i) ∧ Nums c y ∧ (∀ h, h < y.m → (hd h = true ↔ Hd y.E h)) ∧ Lps y.m y.E ar 0 ∧ Dpr y ar hd y.m dp ∧ W.heap.size ≤ b ∧ Below W.heap.size W w'
set_option maxRecDepth 100000 in
set_option maxHeartbeats 8000000 in
theorem depth_any {W : World} {p : Option Addr} {cap : Nat} {c : List Ic} (hn : c.length ≤ 1000000) (hc : Hid (CodeAt W p c)) (T : Hid (Kinds W)) : Calls Tryd.prog 19 #[.slice p c.length cap] W (DepthP W c) := by
  have hmk := make_i c.length (by omega)
  go_enter Tryd.func19, Tryd.ntmps19
  go_upto_region 2 with (go_at_call 21; ((with_reducible refine (ways_q p cap hn hc T).mono ?_); rintro e1 w1 ⟨own, d, y, rfl, hw, hyn, hnu, hso, hb⟩; have HW := Lib.hid hw; have HN := Lib.hid (And.intro hyn hnu); have HS := Lib.hid hso; have HB := Lib.hid hb; have hFW : Hid (0 < y.m → Wf c y) := Lib.hid hnu.wf; have hy6 : y.n ≤ 1000000 := (by omega); clear hw hnu hso hb))
  go_upto_region 3 with (go_at_call 31; ((with_reducible refine (nest_any HW hFW HS hy6).mono ?_); rintro e2 w2 ⟨b1, b2, hd, ar, rfl, hf1, hf2, hhd, hlp, g1, g2, hb2⟩; have H2 := Lib.hid (And.intro hf1 (And.intro hf2 (And.intro hb2 (And.intro g1 g2)))); have HL := Lib.hid (And.intro hhd hlp); clear hf1 hf2 hhd hlp g1 g2 hb2))
  go_upto_region 4 with (fail)
  refine name_world ?_
  intro V hV
  obtain ⟨bn, hbn⟩ : ∃ bn, w2.heap.size = bn := ⟨_, rfl⟩
  have HV : Hid (Dw w2 V bn b1 b2 (bn + 1) y.m c.length (fun _ => 0)) := Lib.hid (by
    rw [hV, ← hbn]
    refine ⟨((Below.refl _ _).alloc (Nat.le_refl _) _).alloc (by simp) _, (Below.heap_alloc _ _ _ (by simp)).trans (heap_alloc_new w2 _), ?_, by omega⟩
    have := fv_zero (w2.alloc (.cells #[.slice (some ⟨b1, 0, none⟩) y.m y.m, .slice (some ⟨b2, 0, none⟩) y.m y.m] 53)) c.length
    simpa using this)
  obtain ⟨b, hbb⟩ : ∃ b, bn + 1 = b := ⟨_, rfl⟩
  rw [hbb] at HV
  try rw [hbn]
  try rw [hbb]
  have HW2 := Lib.hid (HW.out.stay H2.out.2.2.1)
  have HIJ := Lib.hid HN.out.2.inj
  have HBB : Hid (w2.heap.size ≤ b ∧ W.heap.size ≤ w2.heap.size ∧ Below W.heap.size W w2) := Lib.hid ⟨by omega, by have := HB.out.size; have := H2.out.2.2.1.size; omega, HB.out.trans (H2.out.2.2.1.mono HB.out.size)⟩
  clear hV hbn hbb hmk
  obtain ⟨l, c0, c1, c2, c3, -⟩ := (HW2.out.stay HV.out.bel).facts
  obtain ⟨p0, q0, e0, -⟩ := HW2.out.pla.open
  have HE0 := Lib.hid e0
  rw [e0] at c0
  clear e0
  have hym := HN.out.2.m
  go_wp2
  go_loopw [21] (fun a wr => ∃ (j : Nat) (dp : Nat → Nat), a = .int .i64 j ∧ j ≤ y.m ∧ Hid (Dw w2 wr bn b1 b2 b y.m c.length dp ∧ Dpr y ar hd j dp)) (fun a _ => y.m - (intOf a).toNat)
  case atStart => exact ⟨0, fun _ => 0, rfl, Nat.zero_le _, Lib.hid ⟨HV.out, fun v h => absurd h (Nat.not_lt_zero _), fun _ _ => rfl, fun _ => Nat.le_refl _⟩⟩
  case round =>
    clear l c0 c1 c2 c3
    obtain ⟨wo, rfl⟩ : ∃ wo : World, wo = wr := ⟨_, rfl⟩
    obtain ⟨j, dp, rfl, hj, HR⟩ := hrel
    by_cases hlt : j < y.m
    · obtain ⟨l, c0, c1, c2, c3, -⟩ := (HW2.out.stay HR.out.1.bel).facts
      have hop := (HW2.out.stay HR.out.1.bel).pla.open
      rw [HE0.out] at hop c0
      obtain ⟨p', q', e', hop⟩ := hop
      cases e'
      obtain ⟨g0, rfl, -, -, -, -, -, hcell⟩ := hop.resolve_left (fun e => by omega)
      have i0 := hcell j hlt
      simp only [iv] at i0
      have hpl := HN.out.2.pl hlt
      obtain ⟨lt, n0, n1⟩ := HR.out.1.facts
      have ic := HR.out.1.fv.cell hpl
      have fc := HR.out.1.fv.frozen (y.pl j)
      have h1 := (H2.out.1.stay HR.out.1.bel).cell hlt
      have h2 := (H2.out.2.1.stay HR.out.1.bel).cell hlt
      simp only [iv] at ic h2
      simp only [bv] at h1
      have hz : dp (y.pl j) = 0 := HR.out.2.out _ fun v hv e => by have := HIJ.out v j (by omega) hlt e; omega
      rw [hz] at ic
      have hle := HR.out.2.le
      have HAr : Hid (∀ v p, v < y.m → ar v = some p → p < v) := Lib.hid fun v p hv e => (HL.out.2.ar_lt v p hv e).1
      obtain ⟨at_, hat⟩ : ∃ at_, y.pl j = at_ := ⟨_, rfl⟩
      have HSt : Hid (∀ x, x = (match ar j with | none => 0 | some p => dp (y.pl p)) + (if hd j then 1 else 0) → Dpr y ar hd (j + 1) (upd dp at_ x)) := Lib.hid fun x hx => hat ▸ HR.out.2.step hlt HIJ.out HAr.out hx
      rw [hat] at i0 hpl ic fc hz
      have HZ := Lib.hid hz
      clear hop hz hat
      rcases har : ar j with - | q
      · simp only [har, ov] at h2
        rw [har] at HSt
        have HAr2 := Lib.hid har
        clear har hcell
        cases hhd : hd j with
        | false =>
          rw [hhd] at h1 HSt
          have HA : Hid (Dpr y ar hd (j + 1) dp) := Lib.hid (by
            have := HSt.out 0 rfl
            have e : upd dp at_ 0 = dp := by
              funext i
              by_cases e : i = at_
              · rw [e, upd_at, HZ.out]
              · rw [upd_of e]
            rwa [e] at this)
          clear hhd
          go_wp2
          go_roundw
          case rel => exact ⟨j + 1, dp, by go_num, by omega, Lib.hid ⟨HR.out.1.like rfl rfl rfl rfl, HA.out⟩⟩
          case measure => (simp [intOf]; try omega)
        | true =>
          rw [hhd] at h1 HSt
          have HA := Lib.hid (HSt.out 1 rfl)
          have HS1 := Lib.hid (HR.out.1.set at_ 1)
          clear hhd
          go_wp2
          go_roundw
          case rel => exact ⟨j + 1, upd dp at_ 1, by go_num, by omega, Lib.hid ⟨HS1.out.like rfl rfl rfl rfl, HA.out⟩⟩
          case measure => (simp [intOf]; try omega)
      · have hqj := HAr.out j q hlt har
        have hqm : q < y.m := by omega
        have ne : ((q : Int) != -1) = true := by simp
        have hplq := HN.out.2.pl hqm
        have iq := hcell q hqm
        simp only [iv] at iq
        have ip := HR.out.1.fv.cell hplq
        simp only [iv] at ip
        have hleq := hle (y.pl q)
        simp only [har, ov] at h2
        rw [har] at HSt
        clear har hcell
        obtain ⟨tq, hto⟩ : ∃ tq, y.pl q = tq := ⟨_, rfl⟩
        simp only [hto] at iq ip hplq hleq HSt
        obtain ⟨D, hD⟩ : ∃ D, dp tq = D := ⟨_, rfl⟩
        simp only [hD] at ip hleq HSt
        clear hto hD
        have HS1 := Lib.hid (HR.out.1.set at_ D)
        have h1' := (H2.out.1.stay HS1.out.bel).cell hlt
        simp only [bv] at h1'
        obtain ⟨lt', n0', n1'⟩ := HS1.out.facts
        have ic' := HS1.out.fv.cell hpl
        have fc' := HS1.out.fv.frozen at_
        simp only [iv, upd_at] at ic'
        cases hhd : hd j with
        | false =>
          rw [hhd] at h1 h1' HSt
          have HA := Lib.hid (HSt.out D rfl)
          clear hhd
          go_wp2
          go_roundw
          case rel => exact ⟨j + 1, upd dp at_ D, by go_num, by omega, Lib.hid ⟨HS1.out.like rfl rfl rfl rfl, HA.out⟩⟩
          case measure => (simp [intOf]; try omega)
        | true =>
          rw [hhd] at h1 h1' HSt
          have HA := Lib.hid (HSt.out (D + 1) rfl)
          have HS2 : Hid (Dw w2 ((wo.setCell ⟨b, at_, none⟩ (.int .i64 (D : Int))).setCell ⟨b, at_, none⟩ (.int .i64 ((D + 1 : Nat) : Int))) bn b1 b2 b y.m c.length (upd dp at_ (D + 1))) := Lib.hid (by
            have := HS1.out.set at_ (D + 1)
            rwa [upd_upd] at this)
          clear hhd
          go_wp2
          go_roundw
          case rel => exact ⟨j + 1, upd dp at_ (D + 1), by go_num, by omega, Lib.hid ⟨HS2.out.like rfl rfl rfl rfl, HA.out⟩⟩
          case measure => (simp [intOf]; try omega)
    · obtain rfl : j = y.m := by omega
      go_wp2
      go_ret
      exact ⟨y, ar, hd, b, dp, rfl, HR.out.1.fv, HN.out.2, HL.out.1, HL.out.2, HR.out.2, Nat.le_trans HBB.out.2.1 HBB.out.1, HBB.out.2.2.trans (HR.out.1.bel.mono HBB.out.2.1)⟩
end Go.Proofs.YtacgfjcdfgdpjaaDoor
