/- From which places each place can be come to, by counting: plain mathematics. -/
import Derived.Test.YtacgfjcdfgdpjaaDoorGe
namespace Go.Proofs.YtacgfjcdfgdpjaaDoor
set_option linter.unusedSimpArgs false
set_option linter.unusedVariables false
open Gm

/-- Does an edge lead from place i to place t, of those that can be come to? -/
def Wm.P (y : Wm) (t i : Nat) : Bool := match y.num i with
  | some v => (y.ot v).contains t
  | none => false
/-- The places that it can be come to from, rising. -/
def Wm.src (y : Wm) (t : Nat) : List Nat := (List.range y.n).filter (y.P t)
/-- How many of the first ones there are. -/
def Wm.cp (y : Wm) (k t : Nat) : Nat := ((List.range k).filter (y.P t)).length
/-- .. counted by numbers. -/
def Wm.c1 (y : Wm) (v t : Nat) : Nat := sm (fun u => (y.ot u).count t) v
/-- Where those of each begin. -/
def Wm.F (y : Wm) (t : Nat) : Nat := sm (fun t => (y.src t).length) t
section
variable {c : List Ic} {y : Wm}
theorem outs_len' (c : List Ic) (i : Nat) : (outs c i).length ≤ 2 := by
  unfold outs
  split
  · simp
  · rw [List.length_map]
    exact Nat.le_trans (List.length_filter_le _ _) (nextM_len _ _)
theorem up_next (x : Ic) (p : Int) : Up (nextM x p) := by
  unfold nextM
  split
  · split
    · split
      · exact up_srt _
      · exact up_srt _
    · split
      · exact List.Pairwise.nil
      · exact up_srt _
  · exact List.Pairwise.nil
/-- They rise. -/
theorem outs_up (c : List Ic) (i : Nat) : (outs c i).Pairwise (· < ·) := by
  unfold outs
  split
  · exact List.Pairwise.nil
  · rename_i x _
    rw [List.pairwise_map]
    have h1 : List.Pairwise (· < ·) ((nextM x i).filter fun z : Int => decide (0 ≤ z) && decide (z < (c.length : Int))) := List.Pairwise.sublist List.filter_sublist (up_next x i)
    refine List.Pairwise.imp_of_mem (fun {a b} ha hb hlt => ?_) h1
    have h2 := (List.mem_filter.1 ha).2
    have h3 := (List.mem_filter.1 hb).2
    simp at h2 h3
    omega
theorem outs_nodup (c : List Ic) (i : Nat) : (outs c i).Nodup := (outs_up c i).imp fun h e => by omega
theorem cp_succ (k t : Nat) : y.cp (k + 1) t = y.cp k t + if y.P t k then 1 else 0 := by
  unfold Wm.cp
  rw [List.range_succ, List.filter_append]
  by_cases h : y.P t k
  · simp [h]
  · simp [h]
theorem cp_le {k n : Nat} (h : k ≤ n) (t : Nat) : y.cp k t ≤ y.cp n t := by
  induction h with
  | refl => exact Nat.le_refl _
  | step _ ih => rw [cp_succ]; omega
theorem src_len (t : Nat) : (y.src t).length = y.cp y.n t := rfl
theorem src_at {k t : Nat} (hk : k < y.n) (h : y.P t k = true) : (y.src t)[y.cp k t]? = some k := by
  unfold Wm.src Wm.cp
  have e : List.range y.n = List.range k ++ (List.range (y.n - k)).map (k + ·) := by
    rw [← List.range_add, show k + (y.n - k) = y.n by omega]
  obtain ⟨d, hd⟩ : ∃ d, y.n - k = d + 1 := ⟨y.n - k - 1, by omega⟩
  rw [e, hd, List.filter_append, List.getElem?_append_right (Nat.le_refl _), Nat.sub_self, List.range_succ_eq_map]
  simp [h]
theorem F_succ (t : Nat) : y.F (t + 1) = y.F t + (y.src t).length := rfl
theorem F_apart {t u q r : Nat} (hq : q < (y.src t).length) (hr : r < (y.src u).length) (e : y.F t + q = y.F u + r) : t = u ∧ q = r := by
  have key : ∀ {t u q r : Nat}, q < (y.src t).length → y.F t + q = y.F u + r → t < u → False := fun {t u q r} hq e hlt => by
    have := sm_next (f := fun t => (y.src t).length) hlt
    unfold Wm.F at e
    omega
  rcases Nat.lt_trichotomy t u with h | h | h
  · exact (key hq e h).elim
  · subst h; exact ⟨rfl, by omega⟩
  · exact (key hr e.symm h).elim
theorem P_row (h : Nb c y) {k v : Nat} (hv : y.num k = some v) (t : Nat) : (if y.P t k then 1 else 0) = (y.ot v).count t := by
  have hot := h.ot v (h.num k v hv).1
  have hnd : (y.ot v).Nodup := hot ▸ outs_nodup _ _
  unfold Wm.P
  rw [hv]
  simp only
  by_cases hm : t ∈ y.ot v
  · rw [if_pos (by simpa using hm)]
    have h1 := List.nodup_iff_count.1 hnd t
    have h2 := List.count_pos_iff.2 hm
    omega
  · rw [if_neg (by simpa using hm), List.count_eq_zero.2 hm]
theorem P_none {k : Nat} (hv : y.num k = none) (t : Nat) : y.P t k = false := by
  unfold Wm.P
  rw [hv]
/-- Counted by numbers, and by places: the same. -/
theorem c1_cp (h : Nb c y) (t : Nat) : y.c1 y.m t = y.cp y.n t := by
  have hn := h.n
  have key : ∀ k, k ≤ y.m → y.c1 k t = sm (fun i => match y.num i with | some v => if v < k then (y.ot v).count t else 0 | none => 0) y.n := by
    intro k
    induction k with
    | zero =>
      intro _
      refine (sm_zero fun i _ => ?_).symm
      split
      · rw [if_neg (by omega)]
      · rfl
    | succ k ih =>
      intro hk
      have h1 := ih (by omega)
      have hp := h.pl k (by omega)
      have h2 := sm_upd (n := y.n) (a := y.pl k) (x := (y.ot k).count t) (f := fun i => match y.num i with | some v => if v < k then (y.ot v).count t else 0 | none => 0) (g := fun i => match y.num i with | some v => if v < k + 1 then (y.ot v).count t else 0 | none => 0) (by rw [hn]; exact hp.1) fun i _ => by
        by_cases e : i = y.pl k
        · rw [if_pos e, e, hp.2]
          simp
        · rw [if_neg e]
          cases hv : y.num i with
          | none => rfl
          | some v =>
            have h3 : v ≠ k := fun e2 => e (by rw [← e2]; exact (h.num i v hv).2.symm)
            simp only
            by_cases h4 : v < k
            · rw [if_pos h4, if_pos (by omega)]
            · rw [if_neg h4, if_neg (by omega)]
      simp only [hp.2, Nat.lt_irrefl, if_false] at h2
      show sm _ k + (y.ot k).count t = _
      unfold Wm.c1 at h1
      omega
  rw [key y.m (Nat.le_refl _)]
  have : ∀ k, k ≤ y.n → sm (fun i => match y.num i with | some v => if v < y.m then (y.ot v).count t else 0 | none => 0) k = y.cp k t := by
    intro k
    induction k with
    | zero => intro _; rfl
    | succ k ih =>
      intro hk
      have e : sm (fun i => match y.num i with | some v => if v < y.m then (y.ot v).count t else 0 | none => 0) (k + 1) = sm (fun i => match y.num i with | some v => if v < y.m then (y.ot v).count t else 0 | none => 0) k + (match y.num k with | some v => if v < y.m then (y.ot v).count t else 0 | none => 0) := rfl
      rw [e, ih (by omega), cp_succ]
      cases hv : y.num k with
      | none => rw [P_none hv]; rfl
      | some v =>
        rw [P_row h hv]
        simp only
        rw [if_pos (h.num k v hv).1]
  exact this y.n (Nat.le_refl _)
theorem sm_add (f g : Nat → Nat) (n : Nat) : sm (fun i => f i + g i) n = sm f n + sm g n := by
  induction n with
  | zero => rfl
  | succ n ih => show sm _ n + (f n + g n) = sm f n + f n + (sm g n + g n); rw [ih]; omega
theorem sm_swap (f : Nat → Nat → Nat) (m n : Nat) : sm (fun t => sm (fun u => f u t) m) n = sm (fun u => sm (fun t => f u t) n) m := by
  induction m with
  | zero => exact sm_zero fun _ _ => rfl
  | succ m ih =>
    show sm (fun t => sm (fun u => f u t) m + f m t) n = sm (fun u => sm (fun t => f u t) n) m + sm (fun t => f m t) n
    rw [sm_add, ih]
theorem sm_count (l : List Nat) (n : Nat) (h : ∀ t ∈ l, t < n) : sm (fun t => l.count t) n = l.length := by
  induction l with
  | nil => exact sm_zero fun _ _ => rfl
  | cons x r ih =>
    have h1 := ih fun t ht => h t (List.mem_cons_of_mem _ ht)
    have h2 := sm_upd (n := n) (a := x) (x := r.count x + 1) (f := fun t => r.count t) (g := fun t => (x :: r).count t) (h x (List.mem_cons_self ..)) fun i _ => by
      by_cases e : i = x
      · rw [if_pos e, e, List.count_cons_self]
      · rw [if_neg e, List.count_cons_of_ne (fun h => e h.symm)]
    rw [List.length_cons]
    omega
/-- What the counting wants. -/
structure Sok (y : Wm) : Prop where
  c1 : ∀ t, y.c1 y.m t = y.cp y.n t
  row : ∀ k v, y.num k = some v → v < y.m ∧ (y.ot v).Nodup ∧ (∀ t, (if y.P t k then 1 else 0) = (y.ot v).count t)
  lt : ∀ v, v < y.m → ∀ t, t ∈ y.ot v → t < y.n
  len : ∀ v, v < y.m → (y.ot v).length ≤ 2
  mn : y.m ≤ y.n
theorem Sok.tot (h : Sok y) : y.F y.n ≤ 2 * y.n := by
  have h1 : y.F y.n = sm (fun t => sm (fun u => (y.ot u).count t) y.m) y.n := sm_congr fun t _ => by rw [src_len, ← h.c1]; rfl
  rw [h1, sm_swap]
  have h2 : sm (fun u => sm (fun t => (y.ot u).count t) y.n) y.m = sm (fun u => (y.ot u).length) y.m := sm_congr fun u hu => sm_count _ _ fun t ht => h.lt u hu t ht
  rw [h2]
  have h3 : ∀ k, k ≤ y.m → sm (fun u => (y.ot u).length) k ≤ 2 * k := by
    intro k
    induction k with
    | zero => intro _; exact Nat.zero_le _
    | succ k ih =>
      intro hk
      have := ih (by omega)
      have := h.len k (by omega)
      show sm _ k + (y.ot k).length ≤ _
      omega
  have := h3 y.m (Nat.le_refl _)
  have := h.mn
  omega
theorem Nb.sok (h : Nb c y) : Sok y :=
  ⟨fun t => c1_cp h t, fun k v hv => ⟨(h.num k v hv).1, by rw [h.ot v (h.num k v hv).1]; exact outs_nodup _ _, fun t => P_row h hv t⟩, fun v hv t ht => by rw [h.ot v hv] at ht; rw [h.n]; exact (outs_lt ht).2, fun v hv => by rw [h.ot v hv]; exact outs_len' _ _, by rw [h.n]; exact h.le⟩
theorem sok_nil (hn : y.n = 0) (hm : y.m = 0) (hnum : ∀ k, y.num k = none) : Sok y :=
  ⟨fun t => (by rw [hm, hn]; rfl), fun k v hv => (by rw [hnum k] at hv; cases hv), fun v hv => (by omega), fun v hv => (by omega), by omega⟩
end
end Go.Proofs.YtacgfjcdfgdpjaaDoor
