/- Which one counts for one: graph's counts. -/
import Derived.Test.YtacgfjcdfgdpjaaDoorGha
import Derived.Test.YtacgfjcdfgdpjaaDoorGc
namespace Go.Proofs.YtacgfjcdfgdpjaaDoor
set_option linter.unusedSimpArgs false
set_option linter.unusedVariables false
open Go Go.RowKit Gm

/-- Each is told by itself, or by one that stands above it. -/
structure Who (m : Nat) (ar : Nat → Option Nat) (c : Nat → Nat) : Prop where
  le : ∀ x, x < m → c x ≤ x
  und : ∀ x, x < m → Und ar (c x) x
  top : ∀ x, x < m → (c x = x ↔ ar x = none)
theorem Who.half {m : Nat} {ar : Nat → Option Nat} {c : Nat → Nat} (h : Who m ar c) {x : Nat} (hx : x < m) (hn : c x ≠ x) : Who m ar (upd c x (c (c x))) := by
  have h1 := h.le x hx
  have h2 := h.le (c x) (by omega)
  refine ⟨fun y hy => ?_, fun y hy => ?_, fun y hy => ?_⟩
  · by_cases e : y = x
    · rw [e, upd_at]; omega
    · rw [upd_of e]; exact h.le y hy
  · by_cases e : y = x
    · rw [e, upd_at]; exact (h.und (c x) (by omega)).trans (h.und x hx)
    · rw [upd_of e]; exact h.und y hy
  · by_cases e : y = x
    · rw [e, upd_at]
      have h3 := (h.top x hx).2
      constructor
      · intro e2; omega
      · intro e2; exact absurd (h3 e2) hn
    · rw [upd_of e]; exact h.top y hy
set_option maxRecDepth 100000 in
set_option maxHeartbeats 4000000 in
theorem counts_any {W : World} {b m v : Nat} {ar : Nat → Option Nat} {c : Nat → Nat} (hc : Hid (FV 3 W b m (iv fun i => c i))) (hw : Hid (Who m ar c)) (hv : v < m) (hm : m ≤ 1000000) :
    Calls Tryd.prog 44 #[.slice (some ⟨b, 0, none⟩) m m, .int .i64 v] W fun e w' => ∃ (y : Nat) (c' : Nat → Nat), e = .returned (.int .i64 (y : Int)) ∧ FV 3 w' b m (iv fun i => c' i) ∧ Who m ar c' ∧ Und ar y v ∧ ar y = none ∧ y < m ∧ Ch (fun z => z = b) W w' := by
  go_enter Tryd.func44, Tryd.ntmps44
  go_wp2
  go_loopw [1] (fun a wr => ∃ (x : Nat) (c : Nat → Nat), a = .int .i64 x ∧ x < m ∧ Hid (Ch (fun z => z = b) W wr ∧ FV 3 wr b m (iv fun i => c i) ∧ Who m ar c ∧ Und ar x v)) (fun a _ => (intOf a).toNat)
  case atStart => exact ⟨v, c, rfl, hv, Lib.hid ⟨Ch.refl _ W, hc.out, hw.out, .refl _⟩⟩
  case round =>
    obtain ⟨wo, rfl⟩ : ∃ wo : World, wo = wr := ⟨_, rfl⟩
    obtain ⟨x, c, rfl, hx, HR⟩ := hrel
    have i1 := HR.out.2.1.cell hx
    have fz := HR.out.2.1.frozen x
    simp only [iv] at i1
    have hle := HR.out.2.2.1.le x hx
    by_cases hn : c x = x
    · rw [hn] at i1
      go_wp2
      go_ret
      exact ⟨x, c, rfl, HR.out.2.1, HR.out.2.2.1, HR.out.2.2.2, (HR.out.2.2.1.top x hx).1 hn, hx, HR.out.1⟩
    · have hcm : c x < m := by omega
      have hl2 := HR.out.2.2.1.le (c x) hcm
      have i2 := HR.out.2.1.cell hcm
      simp only [iv] at i2
      have HA : Hid (FV 3 (wo.setCell ⟨b, x, none⟩ (.int .i64 (c (c x) : Int))) b m (iv fun i => (upd c x (c (c x)) i : Nat))) := Lib.hid (by
        have := HR.out.2.1.set x (.int .i64 (c (c x) : Int))
        rw [iv_upd, nv_upd] at this
        exact this)
      have i3 := HA.out.cell hx
      simp only [iv, upd_at] at i3
      have HW := Lib.hid (HR.out.2.2.1.half hx hn)
      have HC : Hid (Ch (fun z => z = b) W (wo.setCell ⟨b, x, none⟩ (.int .i64 (c (c x) : Int)))) := Lib.hid (HR.out.1.set (.inl rfl) x _)
      have HU : Hid (Und ar (c (c x)) v) := Lib.hid (((HR.out.2.2.1.und (c x) hcm).trans (HR.out.2.2.1.und x hx)).trans HR.out.2.2.2)
      obtain ⟨p, hp⟩ : ∃ p, c x = p := ⟨_, rfl⟩
      rw [hp] at i1 i2 hn hle hcm hl2
      simp only [hp] at i3 HA HW HC HU
      obtain ⟨q, hq⟩ : ∃ q, c p = q := ⟨_, rfl⟩
      rw [hq] at i2 hl2
      simp only [hq] at i3 HA HW HC HU
      clear hp hq
      have hni : ¬ ((p : Int) = (x : Int)) := by omega
      go_wp2
      go_roundw
      case rel => exact ⟨q, upd c x q, rfl, by omega, Lib.hid ⟨HC.out, HA.out, HW.out, HU.out⟩⟩
      case measure => (simp [intOf]; try omega)
end Go.Proofs.YtacgfjcdfgdpjaaDoor
