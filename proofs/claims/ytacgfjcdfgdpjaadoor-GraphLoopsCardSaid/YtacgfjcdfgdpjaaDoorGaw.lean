/- The laws' own example (awake) comes out true. -/
import Derived.Test.YtacgfjcdfgdpjaaDoorGpc
namespace Go.Proofs.YtacgfjcdfgdpjaaDoor
set_option linter.unusedSimpArgs false
set_option linter.unusedVariables false
open Go Go.RowKit Gm

def c0 : List Ic := [⟨7, 0, 0, 0, 0, 0, 3⟩, ⟨0, 0, 0, 0, 0, 0, 0⟩, ⟨6, 0, 0, 0, 0, 0, 0⟩, ⟨13, 0, 0, 0, 0, 0, 0⟩, ⟨0, 0, 0, 0, 0, 0, 0⟩]
theorem o_0 : outs c0 0 = [1, 3] := by kernel_rfl
theorem o_1 : outs c0 1 = [2] := by kernel_rfl
theorem o_2 : outs c0 2 = [0] := by kernel_rfl
theorem o_3 : outs c0 3 = [] := by kernel_rfl
theorem o_4 : outs c0 4 = [] := by kernel_rfl
theorem o_up {i j : Nat} (h : Ed c0 i j) : (i = 0 ∧ (j = 1 ∨ j = 3)) ∨ (i = 1 ∧ j = 2) ∨ (i = 2 ∧ j = 0) := by
  have hi : i < 5 := (out_of h).1
  unfold Ed at h
  have : i = 0 ∨ i = 1 ∨ i = 2 ∨ i = 3 ∨ i = 4 := by omega
  rcases this with rfl | rfl | rfl | rfl | rfl
  · rw [o_0] at h; simp at h; omega
  · rw [o_1] at h; simp at h; omega
  · rw [o_2] at h; simp at h; omega
  · rw [o_3] at h; simp at h
  · rw [o_4] at h; simp at h
theorem e01 : Ed c0 0 1 := by unfold Ed; rw [o_0]; simp
theorem e03 : Ed c0 0 3 := by unfold Ed; rw [o_0]; simp
theorem e12 : Ed c0 1 2 := by unfold Ed; rw [o_1]; simp
theorem e20 : Ed c0 2 0 := by unfold Ed; rw [o_2]; simp
theorem r_c0 {i : Nat} : Rch c0 i ↔ i ≤ 3 := by
  constructor
  · rintro ⟨_, k⟩
    exact k.closed (S := fun z => z ≤ 3) (Nat.zero_le _) fun x y _ _ e _ => by have := o_up e; omega
  · intro h
    refine ⟨by simp [c0], ?_⟩
    have w0 : Gm.Way (Ed c0) (fun _ => True) 0 0 := .one trivial
    have w1 := w0.snoc e01 trivial
    have w3 := w0.snoc e03 trivial
    have w2 := w1.snoc e12 trivial
    have : i = 0 ∨ i = 1 ∨ i = 2 ∨ i = 3 := by omega
    rcases this with rfl | rfl | rfl | rfl
    · exact w0
    · exact w1
    · exact w2
    · exact w3
theorem d_c0 {j : Nat} : Dmp c0 j 2 ↔ j ≤ 2 := by
  unfold Dmp
  rw [r_c0]
  constructor
  · rintro ⟨_, h⟩
    refine Classical.byContradiction fun hj => h ?_
    exact .cons (by omega) e01 (.cons (by omega) e12 (.one (by omega)))
  · intro hj
    refine ⟨by omega, fun k => ?_⟩
    have : j = 0 ∨ j = 1 ∨ j = 2 := by omega
    rcases this with rfl | rfl | rfl
    · exact k.first rfl
    · have := k.closed (S := fun z => z = 0 ∨ z = 3) (.inl rfl) fun x y hs _ e hy => by have := o_up e; omega
      omega
    · exact k.last rfl
theorem d00 {i : Nat} (hi : i ≤ 3) : Dmp c0 0 i := ⟨r_c0.2 hi, fun k => k.first rfl⟩
theorem l_c0 {i : Nat} : Lpp c0 0 i ↔ i ≤ 2 := by
  constructor
  · rintro ⟨j, e, _, _, k⟩
    have hj : j = 2 := by have := o_up e; omega
    subst hj
    rcases k with rfl | ⟨r, k⟩
    · omega
    · have h3 := r_c0.1 r
      refine Classical.byContradiction fun h => ?_
      have hi : i = 3 := by omega
      subst hi
      have := k.closed (S := fun z => z = 3) rfl fun x y hs _ e _ => by have := o_up e; omega
      omega
  · intro h
    refine ⟨2, e20, r_c0.2 (by omega), d00 (by omega), ?_⟩
    have : i = 0 ∨ i = 1 ∨ i = 2 := by omega
    rcases this with rfl | rfl | rfl
    · exact .inl rfl
    · exact .inr ⟨r_c0.2 (by omega), .cons (by omega) e12 (.one (by omega))⟩
    · exact .inr ⟨r_c0.2 (by omega), .one (by omega)⟩
theorem h_c0 {h : Nat} : Lpp c0 h h ↔ h = 0 := by
  constructor
  · rintro ⟨j, e, r, ⟨_, d⟩, _⟩
    refine Classical.byContradiction fun hn => ?_
    have := o_up e
    have w0 : Gm.Way (Ed c0) (fun z => z ≠ h) 0 0 := .one (by omega)
    rcases this with ⟨rfl, _⟩ | ⟨rfl, rfl⟩ | ⟨_, rfl⟩
    · exact d w0
    · exact d (.cons (by omega) e01 (.one (by omega)))
    · exact hn rfl
  · rintro rfl
    exact l_c0.2 (by omega)
theorem p_c0 : phs c0 = [0] := up_same (phs_up c0) (by simp) fun t => by
  rw [mem_phs, h_c0]
  simp [c0]
  omega
theorem n_c0 (i : Nat) : dpt c0 i = if i ≤ 2 then 1 else 0 := by
  unfold dpt
  rw [p_c0]
  simp only [List.filter_cons, List.filter_nil, decide_eq_true_eq, l_c0]
  split <;> rfl
section
variable {W : World} {p : Option Addr} {cap : Nat}
theorem aw_reach (hc : Hid (CodeAt W p c0)) (T : Hid (Kinds W)) : Calls Tryd.prog 9 #[.slice p 5 cap] W fun e w' => ∃ q cq, e = .returned (.slice q 5 cq) ∧ RV w' q 5 (bv fun j => decide (j ≤ 3)) ∧ Below W.heap.size W w' := by
  refine (reach_c (c := c0) (cap := cap) (by decide) hc T).mono ?_
  rintro e w' ⟨v, rfl, ⟨q, cq, g, rfl, h, hg⟩, hb⟩
  exact ⟨q, cq, rfl, h.to fun i hi => by
    have := (hg i hi).trans r_c0
    simp only [bv]
    congr 1
    cases hgi : g i with
    | true => exact (decide_eq_true (this.1 hgi)).symm
    | false => exact (decide_eq_false fun k => by have := this.2 k; rw [hgi] at this; cases this).symm, hb⟩
theorem aw_depth (hc : Hid (CodeAt W p c0)) (T : Hid (Kinds W)) : Calls Tryd.prog 19 #[.slice p 5 cap] W fun e w' => ∃ q cq, e = .returned (.slice q 5 cq) ∧ RV w' q 5 (lv [1, 1, 1, 0, 0]) ∧ Below W.heap.size W w' := by
  refine (depth_c (c := c0) (cap := cap) (by decide) hc T).mono ?_
  rintro e w' ⟨v, rfl, ⟨q, cq, rfl, h⟩, hb⟩
  have e5 : ((List.range c0.length).map (dpt c0)) = [1, 1, 1, 0, 0] := by
    simp only [show c0.length = 5 from rfl, List.range, List.range.loop, List.map_cons, List.map_nil, n_c0]
    decide
  rw [e5] at h
  exact ⟨q, cq, by rw [e5]; rfl, h, hb⟩
theorem nr_lit {v : Value} {T : Nat → Prop} {l : List Nat} (h : NR W v T) (hl : l.Pairwise (fun x y => x < y)) (hm : ∀ t, T t ↔ t ∈ l) : RowIn W v l := by
  obtain ⟨k, h1, _, h3, h4⟩ := h
  rw [← up_same h3 hl fun t => (h4 t).trans (hm t)]
  exact h1
theorem aw_loops (hc : Hid (CodeAt W p c0)) (T : Hid (Kinds W)) : Calls Tryd.prog 16 #[.slice p 5 cap] W fun e w' => ∃ q cq S, e = .returned (.slice q 1 cq) ∧ RV w' q 1 S ∧ RowIn w' (S 0) [0, 1, 2] ∧ Below W.heap.size W w' := by
  refine (loops_c (c := c0) (cap := cap) (by decide) hc T).mono ?_
  rintro e w' ⟨v, rfl, ⟨q, cq, S, rfl, h, hS⟩, hb⟩
  rw [p_c0] at h hS ⊢
  exact ⟨q, cq, S, rfl, h, nr_lit (hS 0 (by simp)) (by simp) fun t => by show Lpp c0 0 t ↔ _; rw [l_c0]; simp; omega, hb⟩
theorem aw_preds (hc : Hid (CodeAt W p c0)) (T : Hid (Kinds W)) : Calls Tryd.prog 12 #[.slice p 5 cap] W fun e w' => ∃ q cq S, e = .returned (.slice q 5 cq) ∧ RV w' q 5 S ∧ (∀ i, i < 5 → RowIn w' (S i) ([[2], [0], [1], [0], []].getD i [])) ∧ Below W.heap.size W w' := by
  refine (preds_c (c := c0) (cap := cap) (by decide) hc T).mono ?_
  rintro e w' ⟨v, rfl, ⟨q, cq, S, rfl, h, hS⟩, hb⟩
  refine ⟨q, cq, S, rfl, h, fun i hi => ?_, hb⟩
  have : i = 0 ∨ i = 1 ∨ i = 2 ∨ i = 3 ∨ i = 4 := by omega
  rcases this with rfl | rfl | rfl | rfl | rfl
  · refine nr_lit (hS 0 (by decide)) (by simp) fun t => ?_
    rw [r_c0]
    simp
    exact ⟨fun k => by have := o_up k.2; omega, fun k => by subst k; exact ⟨by omega, e20⟩⟩
  · refine nr_lit (hS 1 (by decide)) (by simp) fun t => ?_
    rw [r_c0]
    simp
    exact ⟨fun k => by have := o_up k.2; omega, fun k => by subst k; exact ⟨by omega, e01⟩⟩
  · refine nr_lit (hS 2 (by decide)) (by simp) fun t => ?_
    rw [r_c0]
    simp
    exact ⟨fun k => by have := o_up k.2; omega, fun k => by subst k; exact ⟨by omega, e12⟩⟩
  · refine nr_lit (hS 3 (by decide)) (by simp) fun t => ?_
    rw [r_c0]
    simp
    exact ⟨fun k => by have := o_up k.2; omega, fun k => by subst k; exact ⟨by omega, e03⟩⟩
  · refine nr_lit (hS 4 (by decide)) (by simp) fun t => ?_
    simp
    exact fun k e => by have := o_up e; omega
theorem aw_domin (hc : Hid (CodeAt W p c0)) (T : Hid (Kinds W)) : Calls Tryd.prog 14 #[.slice p 5 cap] W fun e w' => ∃ q cq S, e = .returned (.slice q 5 cq) ∧ RV w' q 5 S ∧ (∃ q2 c2, S 2 = .slice q2 5 c2 ∧ RV w' q2 5 (bv fun j => decide (j ≤ 2))) ∧ Below W.heap.size W w' := by
  refine (domin_c (c := c0) (cap := cap) (by decide) hc T).mono ?_
  rintro e w' ⟨v, rfl, ⟨q, cq, S, rfl, h, hS⟩, hb⟩
  obtain ⟨q2, c2, g, e2, h2, hg⟩ := hS 2 (by decide)
  exact ⟨q, cq, S, rfl, h, ⟨q2, c2, e2, h2.to fun i hi => by
    have := (hg i hi).trans d_c0
    simp only [bv]
    congr 1
    cases hgi : g i with
    | true => exact (decide_eq_true (this.1 hgi)).symm
    | false => exact (decide_eq_false fun k => by have := this.2 k; rw [hgi] at this; cases this).symm⟩, hb⟩
end
end Go.Proofs.YtacgfjcdfgdpjaaDoor
