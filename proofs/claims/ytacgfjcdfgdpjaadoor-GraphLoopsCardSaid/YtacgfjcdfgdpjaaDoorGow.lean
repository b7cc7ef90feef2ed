/- A row of one's own: graph's own. -/
import Derived.Test.YtacgfjcdfgdpjaaDoorGrn
namespace Go.Proofs.YtacgfjcdfgdpjaaDoor
set_option linter.unusedSimpArgs false
set_option linter.unusedVariables false
open Go Go.RowKit Gm

set_option maxRecDepth 100000 in
set_option maxHeartbeats 2000000 in
theorem own_any {W : World} {p : Option Addr} {k cap : Nat} {F : Nat → Value} (hv : Hid (RV W p k F)) (h1 : ∀ i, i < k → (F i).oneCell' = true) (hk : k ≤ 10000000) :
    Calls Tryd.prog 26 #[.slice p k cap] W fun e w' => ∃ v, e = .returned v ∧ GV 3 W.heap.size w' v k F ∧ Below W.heap.size W w' := by
  obtain ⟨i0, hi0, hz0, hz1, hz2⟩ := info_parts info_int
  rcases p with - | ⟨g, o, sp⟩
  · have hk0 : k = 0 := by
      refine Classical.byContradiction fun h => ?_
      obtain ⟨g, o, e, _⟩ := hv.out 0 (by omega)
      cases e
    subst hk0
    go_enter Tryd.func26, Tryd.ntmps26
    go_wp2
    go_ret
    exact ⟨_, rfl, GV.nil _ _ _ _, Below.refl _ _⟩
  · have hsp : 0 < k → sp = none := fun h => by
      obtain ⟨g', o', e, _⟩ := hv.out 0 h
      cases e
      rfl
    have hne : ∀ j u, (rw_ k F)[j]? = some u → W.cell? ((Addr.mk g o sp).add j) = some u := fun j u hu => by
      have hj : j < k := by
        have := (List.getElem?_eq_some_iff.1 hu).1
        rw [rw_len] at this
        exact this
      obtain ⟨g', o', e, _, hc⟩ := hv.out j hj
      cases e
      rw [rw_get F hj] at hu
      cases hu
      rw [Addr.add_lit]
      exact hc
    have HNE := Lib.hid hne
    clear hne
    go_enter Tryd.func26, Tryd.ntmps26
    go_wp2_with (at_builtin; refine wpList_append_own_at _ rfl _ _ 34 rfl W.heap.size 3 i0 (.int .i64 0) 1 8 Tryd.underlying34 hi0 hz0 hz1 hz2 rfl (by decide) (.slice none 0 0) 0 [] rfl (World.ownsRow_nil W _ _ _) ⟨g, o, sp⟩ k cap (rw_ k F) rfl (by rw [rw_len, Nat.mul_one]) HNE.out (fun u hu => by obtain ⟨i, hi, e⟩ := List.mem_map.1 hu; subst e; exact h1 i (List.mem_range.1 hi)) (by unfold maxLen; omega) (by omega) (Nat.le_refl _) ?_; intro v8 w8 hown hgrow _ hats; have HG8 := Lib.hid hown; have HW8 := Lib.hid hgrow; clear hown hgrow hats)
    go_ret
    refine ⟨_, rfl, ?_, (Below.refl _ W).grown HW8.out (Nat.le_refl _) (fun e h => by cases h)⟩
    have := HG8.out
    rw [Nat.zero_add, List.nil_append] at this
    exact this
end Go.Proofs.YtacgfjcdfgdpjaaDoor
