/- A walk depth first, step by step: plain mathematics. -/
import Derived.Test.YtacgfjcdfgdpjaaDoorGcm
import Derived.Test.YtacgfjcdfgdpjaaDoorGb
namespace Go.Proofs.YtacgfjcdfgdpjaaDoor
set_option linter.unusedSimpArgs false
set_option linter.unusedVariables false
open Gm

/-- From which number one was come to. -/
def Wm.par (y : Wm) (v : Nat) : Nat := (y.fr v).getD 0
/-- Edges by numbers. -/
def Wm.E (y : Wm) (u v : Nat) : Prop := u < y.m ∧ v < y.m ∧ y.pl v ∈ y.ot u
/-- Numbers so far. -/
structure Nb (c : List Ic) (y : Wm) : Prop where
  n : y.n = c.length
  pos : 0 < y.m
  cnt : sm (fun i => if y.num i = none then 1 else 0) c.length + y.m = c.length
  pl : ∀ v, v < y.m → y.pl v < c.length ∧ y.num (y.pl v) = some v
  num : ∀ i v, y.num i = some v → v < y.m ∧ y.pl v = i
  zero : y.pl 0 = 0 ∧ y.fr 0 = none
  fr : ∀ v, 0 < v → v < y.m → ∃ p, y.fr v = some p ∧ p < v ∧ y.pl v ∈ y.ot p
  ot : ∀ v, v < y.m → y.ot v = outs c (y.pl v)
  cont : ∀ u x w, x < y.m → Anc y.par u x → u ≤ w → w ≤ x → Anc y.par u w
theorem Nb.par_lt {c : List Ic} {y : Wm} (h : Nb c y) : ∀ v, 0 < v → v < y.m → y.par v < v := fun v h0 hv => by
  obtain ⟨p, e, hp, _⟩ := h.fr v h0 hv
  unfold Wm.par
  rw [e]
  exact hp
theorem Nb.le {c : List Ic} {y : Wm} (h : Nb c y) : y.m ≤ c.length := by have := h.cnt; omega
/-- .. what is gone of each, and what waits. -/
structure Dg (c : List Ic) (y : Wm) (G : Nat → Nat) (k : Nat) (st : Nat → Nat) : Prop where
  nb : Nb c y
  gle : ∀ v, v < y.m → G v ≤ (y.ot v).length
  gz : ∀ v, y.m ≤ v → G v = 0
  done : ∀ v, v < y.m → ∀ j, j < G v → ∀ i, (y.ot v)[j]? = some i → ∃ w, y.num i = some w ∧ (v < w → Anc y.par v w)
  fin : ∀ v, v < y.m → (∀ i, i < k → st i ≠ v) → G v = (y.ot v).length
  stm : ∀ i, i < k → st i < y.m
  st0 : 0 < k → st 0 = 0
  stp : ∀ i, i + 1 < k → y.fr (st (i + 1)) = some (st i)
  cov : ∀ i w, i < k → st i ≤ w → w < y.m → Anc y.par (st i) w
section
variable {c : List Ic} {y : Wm} {G st : Nat → Nat} {k : Nat}
/-- What stands above the last one waits. -/
theorem Dg.above (h : Dg c y G k st) : ∀ i, i < k → ∀ u, Anc y.par u (st i) → ∃ j, j ≤ i ∧ st j = u := by
  intro i
  induction i with
  | zero =>
    intro hi u hu
    rw [h.st0 hi] at hu
    exact ⟨0, Nat.le_refl _, by rw [h.st0 hi]; exact hu.zero.symm⟩
  | succ i ih =>
    intro hi u hu
    rcases hu.cases' with e | ⟨_, hu⟩
    · exact ⟨i + 1, Nat.le_refl _, e.symm⟩
    · have e := h.stp i hi
      unfold Wm.par at hu
      rw [e] at hu
      obtain ⟨j, hj, e2⟩ := ih (by omega) u hu
      exact ⟨j, by omega, e2⟩
theorem Dg.inj (h : Dg c y G k st) : ∀ j i, i < j → j < k → st i < st j := by
  intro j
  induction j with
  | zero => intro i hi; omega
  | succ j ih =>
    intro i hi hj
    have e := h.stp j hj
    have hm := h.stm (j + 1) hj
    have hpos : 0 < st (j + 1) := Classical.byContradiction fun hn => by
      have : st (j + 1) = 0 := by omega
      rw [this, h.nb.zero.2] at e
      cases e
    obtain ⟨p, e1, hp, _⟩ := h.nb.fr _ hpos hm
    rw [e] at e1
    cases e1
    by_cases e2 : i = j
    · rw [e2]; exact hp
    · have := ih i (by omega) (by omega); omega
theorem Dg.ge (h : Dg c y G k st) : ∀ i, i < k → i ≤ st i := by
  intro i
  induction i with
  | zero => intro _; exact Nat.zero_le _
  | succ i ih =>
    intro hi
    have := ih (by omega)
    have := h.inj (i + 1) i (by omega) hi
    omega
/-- An edge to a place that was come to. -/
theorem Dg.skip (h : Dg c y G k st) (hk : 0 < k) {last at_ w : Nat} (hl : st (k - 1) = last) (ha : (y.ot last)[G last]? = some at_) (hw : y.num at_ = some w) : Dg c y (upd G last (G last + 1)) k st := by
  have hm := h.stm (k - 1) (by omega)
  rw [hl] at hm
  have hlen := (List.getElem?_eq_some_iff.1 ha).1
  refine ⟨h.nb, fun v hv => ?_, fun v hv => ?_, fun v hv j hj i hi => ?_, fun v hv hn => ?_, h.stm, h.st0, h.stp, h.cov⟩
  · by_cases e : v = last
    · rw [e, upd_at]; omega
    · rw [upd_of e]; exact h.gle v hv
  · rw [upd_of (by omega)]; exact h.gz v hv
  · by_cases e : v = last
    · subst e
      rw [upd_at] at hj
      by_cases e2 : j = G v
      · subst e2
        rw [ha] at hi
        cases hi
        refine ⟨w, hw, fun hlt => ?_⟩
        have := h.cov (k - 1) w (by omega) (by omega) (h.nb.num _ _ hw).1
        rw [hl] at this
        exact this
      · exact h.done v hv j (by omega) i hi
    · rw [upd_of e] at hj
      exact h.done v hv j hj i hi
  · by_cases e : v = last
    · exact absurd (hl.trans e.symm) (hn (k - 1) (by omega))
    · rw [upd_of e]; exact h.fin v hv hn
/-- The last one is done. -/
theorem Dg.pop (h : Dg c y G (k + 1) st) (hg : G (st k) = (y.ot (st k)).length) : Dg c y G k st := by
  refine ⟨h.nb, h.gle, h.gz, h.done, fun v hv hn => ?_, fun i hi => h.stm i (by omega), fun _ => h.st0 (by omega), fun i hi => h.stp i (by omega), fun i w hi => h.cov i w (by omega)⟩
  by_cases e : st k = v
  · rw [← e]; exact hg
  · refine h.fin v hv fun i hi => ?_
    by_cases e2 : i = k
    · rw [e2]; exact e
    · exact hn i (by omega)
theorem more_par {c : List Ic} {y : Wm} (at_ : Nat) (o : Option Nat) {v : Nat} (hv : v < y.m) : (y.more c at_ o).par v = y.par v := by
  unfold Wm.par Wm.more
  simp only
  rw [upd_of (by omega)]
/-- The numbers with one more. -/
theorem Nb.more (h : Nb c y) {last at_ : Nat} (hl : last < y.m) (ha : at_ ∈ y.ot last) (hn : y.num at_ = none) (hcov : ∀ u, Anc y.par u last → ∀ w, u ≤ w → w < y.m → Anc y.par u w) : Nb c (y.more c at_ (some last)) := by
  have hat : at_ < c.length := by rw [h.ot last hl] at ha; exact (outs_lt ha).2
  have hne : ∀ v, v < y.m → y.pl v ≠ at_ := fun v hv e => by have := (h.pl v hv).2; rw [e, hn] at this; cases this
  have hm : (y.more c at_ (some last)).m = y.m + 1 := rfl
  have hp : ∀ v, v < y.m → (y.more c at_ (some last)).par v = y.par v := fun v hv => more_par at_ _ hv
  have hpm : (y.more c at_ (some last)).par y.m = last := by unfold Wm.par Wm.more; simp only; rw [upd_at]; rfl
  have pl_old : ∀ v, v < y.m → (y.more c at_ (some last)).pl v = y.pl v := fun v hv => upd_of (by omega)
  have pl_new : (y.more c at_ (some last)).pl y.m = at_ := upd_at _ _ _
  have ot_old : ∀ v, v < y.m → (y.more c at_ (some last)).ot v = y.ot v := fun v hv => upd_of (by omega)
  have ot_new : (y.more c at_ (some last)).ot y.m = outs c at_ := upd_at _ _ _
  have fr_old : ∀ v, v < y.m → (y.more c at_ (some last)).fr v = y.fr v := fun v hv => upd_of (by omega)
  have fr_new : (y.more c at_ (some last)).fr y.m = some last := upd_at _ _ _
  have num_new : (y.more c at_ (some last)).num at_ = some y.m := upd_at _ _ _
  have num_old : ∀ i, i ≠ at_ → (y.more c at_ (some last)).num i = y.num i := fun i hi => upd_of hi
  have hlt' : ∀ v, 0 < v → v < y.m + 1 → (y.more c at_ (some last)).par v < v := fun v h0 hv => by
    by_cases e : v = y.m
    · rw [e, hpm]; exact hl
    · rw [hp v (by omega)]; exact h.par_lt v h0 (by omega)
  have anc_up : ∀ {u v : Nat}, Anc y.par u v → v < y.m → Anc (y.more c at_ (some last)).par u v := fun ha hv => Anc.same h.par_lt (fun v hv => hp v hv) ha hv
  have anc_dn : ∀ {u v : Nat}, Anc (y.more c at_ (some last)).par u v → v < y.m → Anc y.par u v := fun ha hv => Anc.same (m := y.m) (fun v h0 hv => hlt' v h0 (by omega)) (fun v hv => (hp v hv).symm) ha hv
  refine ⟨h.n, Nat.succ_pos _, ?_, fun v hv => ?_, fun i v e => ?_, ⟨by rw [pl_old 0 h.pos]; exact h.zero.1, by rw [fr_old 0 h.pos]; exact h.zero.2⟩, fun v h0 hv => ?_, fun v hv => ?_, fun u x w hx hu h1 h2 => ?_⟩
  · have h1 := h.cnt
    have h2 := sm_upd (n := c.length) (f := fun i => if y.num i = none then 1 else 0) (g := fun i => if (y.more c at_ (some last)).num i = none then 1 else 0) (a := at_) (x := 0) hat fun i hi => by
      by_cases e : i = at_
      · rw [if_pos e, e, num_new]; rfl
      · rw [if_neg e, num_old i e]
    rw [hn] at h2
    simp only [if_true] at h2
    rw [hm]
    omega
  · rw [hm] at hv
    by_cases e : v = y.m
    · rw [e, pl_new]; exact ⟨hat, num_new⟩
    · rw [pl_old v (by omega), num_old _ (hne v (by omega))]
      exact h.pl v (by omega)
  · rw [hm]
    by_cases e1 : i = at_
    · rw [e1, num_new] at e
      cases e
      exact ⟨by omega, by rw [pl_new, e1]⟩
    · rw [num_old i e1] at e
      have := h.num i v e
      exact ⟨by omega, by rw [pl_old v this.1]; exact this.2⟩
  · rw [hm] at hv
    by_cases e : v = y.m
    · rw [e, pl_new]
      exact ⟨last, fr_new, hl, by rw [ot_old last hl]; exact ha⟩
    · obtain ⟨p, e1, e2, e3⟩ := h.fr v h0 (by omega)
      exact ⟨p, by rw [fr_old v (by omega)]; exact e1, e2, by rw [pl_old v (by omega), ot_old p (by omega)]; exact e3⟩
  · rw [hm] at hv
    by_cases e : v = y.m
    · rw [e, ot_new, pl_new]
    · rw [ot_old v (by omega), pl_old v (by omega)]; exact h.ot v (by omega)
  · rw [hm] at hx
    by_cases e : x = y.m
    · subst e
      rcases hu.cases' with e1 | ⟨_, hu⟩
      · have : w = y.m := by omega
        rw [this, e1]
        exact .refl _
      · rw [hpm] at hu
        have hu' := anc_dn hu hl
        by_cases e2 : w = y.m
        · rw [e2]
          exact .step h.pos (by rw [hpm]; exact hu)
        · exact anc_up (hcov u hu' w h1 (by omega)) (by omega)
    · exact anc_up (h.cont u x w (by omega) (anc_dn hu (by omega)) h1 h2) (by omega)
/-- A place is come to. -/
theorem Dg.push (h : Dg c y G k st) (hk : 0 < k) {last at_ : Nat} (hl : st (k - 1) = last) (ha : (y.ot last)[G last]? = some at_) (hn : y.num at_ = none) : Dg c (y.more c at_ (some last)) (upd G last (G last + 1)) (k + 1) (upd st k y.m) := by
  have hm := h.stm (k - 1) (by omega)
  rw [hl] at hm
  have hlen := (List.getElem?_eq_some_iff.1 ha).1
  have hmem : at_ ∈ y.ot last := List.mem_of_getElem? ha
  have hcov : ∀ u, Anc y.par u last → ∀ w, u ≤ w → w < y.m → Anc y.par u w := fun u hu w h1 h2 => by
    obtain ⟨j, hj, e⟩ := h.above (k - 1) (by omega) u (by rw [hl]; exact hu)
    have := h.cov j w (by omega) (by omega) h2
    rw [e] at this
    exact this
  have nb := h.nb.more hm hmem hn hcov
  have hM : (y.more c at_ (some last)).m = y.m + 1 := rfl
  have ot_old : ∀ v, v < y.m → (y.more c at_ (some last)).ot v = y.ot v := fun v hv => upd_of (by omega)
  have num_new : (y.more c at_ (some last)).num at_ = some y.m := upd_at _ _ _
  have num_old : ∀ i, i ≠ at_ → (y.more c at_ (some last)).num i = y.num i := fun i hi => upd_of hi
  have anc_up : ∀ {u v : Nat}, Anc y.par u v → v < y.m → Anc (y.more c at_ (some last)).par u v := fun ha hv => Anc.same h.nb.par_lt (fun v hv => more_par at_ _ hv) ha hv
  have hpm : (y.more c at_ (some last)).par y.m = last := by unfold Wm.par Wm.more; simp only; rw [upd_at]; rfl
  have lastm : Anc (y.more c at_ (some last)).par last y.m := .step h.nb.pos (by rw [hpm]; exact .refl _)
  refine ⟨nb, fun v hv => ?_, fun v hv => ?_, fun v hv j hj i hi => ?_, fun v hv hf => ?_, fun i hi => ?_, fun _ => ?_, fun i hi => ?_, fun i w hi h1 h2 => ?_⟩
  · rw [hM] at hv
    by_cases e : v = last
    · rw [e, upd_at, ot_old _ hm]; omega
    · rw [upd_of e]
      by_cases e2 : v = y.m
      · rw [e2, h.gz _ (Nat.le_refl _)]; omega
      · rw [ot_old v (by omega)]; exact h.gle v (by omega)
  · rw [hM] at hv
    rw [upd_of (by omega)]; exact h.gz v (by omega)
  · rw [hM] at hv
    by_cases e : v = last
    · subst e
      rw [upd_at] at hj
      rw [ot_old v hm] at hi
      by_cases e2 : j = G v
      · subst e2
        rw [ha] at hi
        cases hi
        exact ⟨y.m, num_new, fun _ => lastm⟩
      · obtain ⟨w, e3, e4⟩ := h.done v hm j (by omega) i hi
        refine ⟨w, ?_, fun hlt => anc_up (e4 hlt) (h.nb.num _ _ e3).1⟩
        rw [num_old i fun e5 => by rw [e5, hn] at e3; cases e3]
        exact e3
    · rw [upd_of e] at hj
      by_cases e2 : v = y.m
      · rw [e2, h.gz _ (Nat.le_refl _)] at hj; omega
      · rw [ot_old v (by omega)] at hi
        obtain ⟨w, e3, e4⟩ := h.done v (by omega) j hj i hi
        refine ⟨w, ?_, fun hlt => anc_up (e4 hlt) (h.nb.num _ _ e3).1⟩
        rw [num_old i fun e5 => by rw [e5, hn] at e3; cases e3]
        exact e3
  · rw [hM] at hv
    have hvm : v ≠ y.m := fun e => hf k (by omega) (by rw [upd_at]; exact e.symm)
    have hvl : v ≠ last := fun e => hf (k - 1) (by omega) (by rw [upd_of (by omega), hl]; exact e.symm)
    rw [upd_of hvl, ot_old v (by omega)]
    exact h.fin v (by omega) fun i hi => by have := hf i (by omega); rw [upd_of (by omega)] at this; exact this
  · rw [hM]
    by_cases e : i = k
    · rw [e, upd_at]; omega
    · rw [upd_of e]; have := h.stm i (by omega); omega
  · rw [upd_of (by omega)]; exact h.st0 hk
  · by_cases e : i + 1 = k
    · rw [e, upd_at, upd_of (by omega), show i = k - 1 by omega, hl]
      exact upd_at _ _ _
    · have hs := h.stm (i + 1) (by omega)
      rw [upd_of (by omega), upd_of (by omega)]
      show upd y.fr y.m (some last) (st (i + 1)) = _
      rw [upd_of (by omega)]
      exact h.stp i (by omega)
  · rw [hM] at h2
    by_cases e : i = k
    · rw [e, upd_at] at h1 ⊢
      rw [show w = y.m by omega]
      exact .refl _
    · rw [upd_of e] at h1 ⊢
      by_cases e2 : w = y.m
      · rw [e2]
        have : Anc y.par (st i) last := by
          have := h.cov i last (by omega) (by
            by_cases e3 : i = k - 1
            · rw [e3, hl]; exact Nat.le_refl _
            · have := h.inj (k - 1) i (by omega) (by omega); omega) hm
          exact this
        exact (anc_up this hm).trans lastm
      · exact anc_up (h.cov i w (by omega) h1 (by omega)) (by omega)
/-- The beginning. -/
theorem Dg.start {c : List Ic} (hc : 0 < c.length) {y : Wm} (h0 : y.m = 0) (hn : y.n = c.length) (hnum : ∀ i, y.num i = none) {G st : Nat → Nat} (hG : ∀ v, G v = 0) (hs : st 0 = 0) : Dg c (y.more c 0 none) G 1 st := by
  have hM : (y.more c 0 none).m = 1 := by show y.m + 1 = 1; omega
  have pl0 : (y.more c 0 none).pl 0 = 0 := by show upd y.pl y.m 0 0 = 0; rw [h0]; exact upd_at _ _ _
  have fr0 : (y.more c 0 none).fr 0 = none := by show upd y.fr y.m none 0 = none; rw [h0]; exact upd_at _ _ _
  have ot0 : (y.more c 0 none).ot 0 = outs c 0 := by show upd y.ot y.m (outs c 0) 0 = _; rw [h0]; exact upd_at _ _ _
  have num0 : (y.more c 0 none).num 0 = some 0 := by show upd y.num 0 (some y.m) 0 = _; rw [upd_at, h0]
  have numo : ∀ i, i ≠ 0 → (y.more c 0 none).num i = none := fun i hi => by show upd y.num 0 (some y.m) i = _; rw [upd_of hi]; exact hnum i
  refine ⟨⟨hn, by rw [hM]; omega, ?_, fun v hv => ?_, fun i v e => ?_, ⟨pl0, fr0⟩, fun v h1 h2 => by rw [hM] at h2; omega, fun v hv => ?_, fun u x w hx hu h1 h2 => ?_⟩, fun v hv => by rw [hG]; omega, fun v _ => hG v, fun v _ j hj => by rw [hG] at hj; omega, fun v hv hf => ?_, fun i hi => ?_, fun _ => hs, fun i hi => by omega, fun i w hi h1 h2 => ?_⟩
  · have h1 : sm (fun _ => 1) c.length = c.length := by
      generalize c.length = n
      induction n with
      | zero => rfl
      | succ n ih => show sm _ n + 1 = n + 1; rw [ih]
    have h2 := sm_upd (n := c.length) (f := fun _ => 1) (g := fun i => if (y.more c 0 none).num i = none then 1 else 0) (a := 0) (x := 0) hc fun i hi => by
      by_cases e : i = 0
      · rw [if_pos e, e, num0]; rfl
      · rw [if_neg e, numo i e]; rfl
    rw [hM]
    omega
  · rw [hM] at hv
    obtain rfl : v = 0 := by omega
    rw [pl0]; exact ⟨hc, num0⟩
  · by_cases e1 : i = 0
    · rw [e1, num0] at e
      cases e
      exact ⟨by rw [hM]; omega, by rw [pl0, e1]⟩
    · rw [numo i e1] at e; cases e
  · rw [hM] at hv
    obtain rfl : v = 0 := by omega
    rw [ot0, pl0]
  · rw [hM] at hx
    obtain rfl : x = 0 := by omega
    rw [show w = 0 by omega, show u = 0 by omega]
    exact .refl _
  · rw [hM] at hv
    obtain rfl : v = 0 := by omega
    exact absurd hs (hf 0 (by omega))
  · obtain rfl : i = 0 := by omega
    rw [hs, hM]; omega
  · rw [hM] at h2
    obtain rfl : i = 0 := by omega
    rw [hs, show w = 0 by omega]
    exact .refl _
/-- The walk is done. -/
structure Wf (c : List Ic) (y : Wm) : Prop where
  nb : Nb c y
  out : ∀ v i, v < y.m → i ∈ y.ot v → ∃ w, y.num i = some w
  dfs : Dfs y.m y.E y.par
theorem Dg.end (h : Dg c y G 0 st) : Wf c y := by
  have hall : ∀ v, v < y.m → ∀ i, i ∈ y.ot v → ∃ w, y.num i = some w ∧ (v < w → Anc y.par v w) := fun v hv i hi => by
    obtain ⟨j, hj, e⟩ := List.mem_iff_getElem.1 hi
    exact h.done v hv j (by rw [h.fin v hv (fun i hi => by omega)]; exact hj) i (by rw [List.getElem?_eq_getElem hj, e])
  refine ⟨h.nb, fun v i hv hi => ?_, h.nb.pos, fun e => ⟨e.1, e.2.1⟩, h.nb.par_lt, fun v h0 hv => ?_, fun {u v} e hlt => ?_, fun {u w x} ha hx h1 h2 => h.nb.cont u x w hx ha h1 h2⟩
  · obtain ⟨w, e, _⟩ := hall v hv i hi
    exact ⟨w, e⟩
  · obtain ⟨p, e, hp, hin⟩ := h.nb.fr v h0 hv
    unfold Wm.par
    rw [e]
    exact ⟨by show p < _; omega, hv, hin⟩
  · obtain ⟨h1, h2, h3⟩ := e
    obtain ⟨w, e1, e2⟩ := hall u h1 _ h3
    rw [(h.nb.pl v h2).2] at e1
    cases e1
    exact e2 hlt
end
end Go.Proofs.YtacgfjcdfgdpjaaDoor
