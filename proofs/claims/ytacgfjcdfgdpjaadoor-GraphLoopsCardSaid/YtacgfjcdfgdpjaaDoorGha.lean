/- Who stands under whom: graph's tree.has. -/
import Derived.Test.YtacgfjcdfgdpjaaDoorGun
namespace Go.Proofs.YtacgfjcdfgdpjaaDoor
set_option linter.unusedSimpArgs false
set_option linter.unusedVariables false
open Go Go.RowKit Gm

set_option maxRecDepth 100000 in
set_option maxHeartbeats 4000000 in
theorem hasT_any {W : World} {bf bs m u v : Nat} {f s : Nat → Nat} (hf : Hid (FV 3 W bf m (iv fun i => f i))) (hs : Hid (FV 3 W bs m (iv fun i => s i))) (hu : u < m) (hv : v < m) (hm : m ≤ 1000000) (hb : ∀ i, i < m → f i ≤ 1000000 ∧ s i ≤ 1000000) :
    Calls Tryd.prog 43 #[.agg #[.slice (some ⟨bf, 0, none⟩) m m, .slice (some ⟨bs, 0, none⟩) m m], .int .i64 u, .int .i64 v] W fun e w' => ∃ b, e = .returned (.bool b) ∧ (b = true ↔ f u ≤ f v ∧ f v < f u + s u) ∧ Below W.heap.size W w' := by
  obtain ⟨b1, b2⟩ := hb u hu
  obtain ⟨b3, b4⟩ := hb v hv
  have lf := hf.out.lt
  have ls := hs.out.lt
  obtain ⟨W1, hW1⟩ : ∃ W1, W.alloc (.cells #[.slice (some ⟨bf, 0, none⟩) m m, .slice (some ⟨bs, 0, none⟩) m m] 56) = W1 := ⟨_, rfl⟩
  have HB1 : Hid (Below W.heap.size W W1) := Lib.hid (hW1 ▸ below1 W _)
  have f1 := (hf.out.stay HB1.out).cell hu
  have f2 := (hf.out.stay HB1.out).cell hv
  have s1 := (hs.out.stay HB1.out).cell hu
  simp only [iv] at f1 f2 s1
  have t := heap_alloc_new W (.cells #[.slice (some ⟨bf, 0, none⟩) m m, .slice (some ⟨bs, 0, none⟩) m m] 56)
  rw [hW1] at t
  have t0 : W1.cell? ⟨W.heap.size, 0, none⟩ = some (.slice (some ⟨bf, 0, none⟩) m m) := by rw [cell_of_row _ _ _ _ _ _ t]; rfl
  have t1 : W1.cell? ⟨W.heap.size, 1, none⟩ = some (.slice (some ⟨bs, 0, none⟩) m m) := by rw [cell_of_row _ _ _ _ _ _ t]; rfl
  clear t hb
  obtain ⟨a, ha⟩ : ∃ a, f u = a := ⟨_, rfl⟩
  obtain ⟨c, hc⟩ : ∃ c, f v = c := ⟨_, rfl⟩
  obtain ⟨z, hz⟩ : ∃ z, s u = z := ⟨_, rfl⟩
  rw [ha] at f1 b1
  rw [hc] at f2 b3
  rw [hz] at s1 b2
  rw [ha, hc, hz]
  by_cases h1 : a ≤ c
  · have d1 : decide (a ≤ c) = true := decide_eq_true h1
    go_enter Tryd.func43, Tryd.ntmps43
    go_upto_region 1 with (fail)
    try rw [hW1]
    go_quiet (fail)
    go_wp2
    go_ret
    exact ⟨_, rfl, by simp only [decide_eq_true_eq]; omega, below_like HB1.out rfl rfl rfl rfl⟩
  · have d1 : decide (a ≤ c) = false := decide_eq_false h1
    go_enter Tryd.func43, Tryd.ntmps43
    go_upto_region 1 with (fail)
    try rw [hW1]
    go_quiet (fail)
    go_wp2
    go_ret
    exact ⟨_, rfl, ⟨fun e => (by cases e), fun e => absurd e.1 h1⟩, below_like HB1.out rfl rfl rfl rfl⟩
end Go.Proofs.YtacgfjcdfgdpjaaDoor
