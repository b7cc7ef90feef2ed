/- The nearest one above each, as it is found from the greatest number on: plain mathematics. -/
import Derived.Test.YtacgfjcdfgdpjaaDoorGd
import Derived.Test.YtacgfjcdfgdpjaaDoorGb
namespace Go.Proofs.YtacgfjcdfgdpjaaDoor.Gm

section
variable {m : Nat} {E : Nat → Nat → Prop} {par s : Nat → Nat}
/-- What one looked at tells: its value, and that nothing between is lower. -/
def Val (par s : Nat → Nat) (v u x : Nat) : Prop := if v < u then ∃ y, Anc par y u ∧ v < y ∧ (∀ z, Anc par z u → v < z → s y ≤ s z) ∧ x = s y else x = u
theorem Dfs.semi_of (D : Dfs m E par) {v x : Nat} (hv : v < m) (h0 : 0 < v) (S : Semi m E s (v + 1)) (hx : ∃ u, E u v ∧ Val par s v u x) (hl : ∀ u, E u v → ∃ z, Val par s v u z ∧ x ≤ z) : Semi m E (fun i => if i = v then x else s i) v := by
  have S' : Semi m E (fun i => if i = v then x else s i) (v + 1) := ⟨fun w hw h1 h2 => by (try simp only); rw [if_neg (by omega)]; exact S.sp w hw h1 h2, fun w hw h1 h2 => by (try simp only); rw [if_neg (by omega)]; exact S.lt w hw h1 h2, fun w z hw h1 h2 => by (try simp only); rw [if_neg (by omega)]; exact S.least w z hw h1 h2⟩
  have ex : ∀ u, ∃ y, E u v → v < u → Anc par y u ∧ v < y ∧ (∀ z, Anc par z u → v < z → s y ≤ s z) ∧ x ≤ s y := fun u => by
    by_cases h : E u v ∧ v < u
    · obtain ⟨z, h1, h2⟩ := hl u h.1
      unfold Val at h1
      rw [if_pos h.2] at h1
      obtain ⟨y, a, b, c, d⟩ := h1
      exact ⟨y, fun _ _ => ⟨a, b, c, by omega⟩⟩
    · exact ⟨0, fun a b => absurd ⟨a, b⟩ h⟩
  have hy := fun u => Classical.choose_spec (ex u)
  refine D.semi_step hv h0 S' (fun u => Classical.choose (ex u)) (fun u he hlt => ?_) ?_ (fun u he => ?_)
  · obtain ⟨a, b, c, _⟩ := hy u he hlt
    refine ⟨a, b, fun z hz hvz => ?_⟩
    try simp only
    rw [if_neg (by omega), if_neg (by omega)]
    exact c z hz hvz
  · obtain ⟨u, he, h1⟩ := hx
    refine ⟨u, he, ?_⟩
    try simp only
    rw [if_pos trivial]
    unfold Val at h1
    by_cases hlt : v < u
    · rw [if_pos hlt] at h1 ⊢
      obtain ⟨y, a, b, c, d⟩ := h1
      obtain ⟨a', b', c', d'⟩ := hy u he hlt
      rw [if_neg (by omega)]
      have := c' _ a b
      omega
    · rw [if_neg hlt] at h1 ⊢
      exact h1
  · try simp only
    rw [if_pos trivial]
    by_cases hlt : v < u
    · obtain ⟨a', b', c', d'⟩ := hy u he hlt
      rw [if_pos hlt, if_neg (by omega)]
      exact d'
    · obtain ⟨z, h1, h2⟩ := hl u he
      unfold Val at h1
      rw [if_neg hlt] at h1 ⊢
      omega
/-- What is laid of u is the one between with the lowest. -/
def La (m : Nat) (par s lf : Nat → Nat) (v u : Nat) : Prop := ∃ y, Near m par s u y ∧ (∀ z, Anc par z u → s u < z → v < z) ∧ lf u = if s y < s u then y else s u
theorem La.to {lf lf' s' : Nat → Nat} {v v' u : Nat} (h : La m par s lf v u) (hv : v' ≤ v) (hu : v < u) (hs : ∀ x, v < x → s' x = s x) (hl : lf' u = lf u) : La m par s' lf' v' u := by
  obtain ⟨y, h1, h2, h3⟩ := h
  have hy := h2 y h1.up h1.below
  refine ⟨y, ⟨h1.up, by rw [hs u hu]; exact h1.below, fun z hz hlt => ?_⟩, fun z hz hlt => ?_, ?_⟩
  · rw [hs u hu] at hlt
    rw [hs y hy, hs z (h2 z hz hlt)]
    exact h1.best z hz hlt
  · rw [hs u hu] at hlt
    have := h2 z hz hlt
    omega
  · rw [hl, h3, hs y hy, hs u hu]
/-- All above v are done, or wait. -/
structure Nr (m : Nat) (E : Nat → Nat → Prop) (par : Nat → Nat) (v : Nat) (s lf : Nat → Nat) (wl : Nat → List Nat) : Prop where
  semi : Semi m E s (v + 1)
  idn : ∀ x, x ≤ v → s x = x
  wt : ∀ x u, u ∈ wl x → v < u ∧ u < m ∧ s u = x
  pl : ∀ u, v < u → u < m → La m par s lf v u ∨ (u ∈ wl (s u) ∧ ∀ w, v < w → w < m → par w = s u → ¬ Anc par w u)
/-- Those that wait with top are gone through; the row's first ones are done. -/
structure Nm (m : Nat) (E : Nat → Nat → Prop) (par : Nat → Nat) (v : Nat) (s lf : Nat → Nat) (wl : Nat → List Nat) (i : Nat) : Prop where
  semi : Semi m E s v
  idn : ∀ x, x < v → s x = x
  wt : ∀ x u, u ∈ wl x → v ≤ u ∧ u < m ∧ s u = x
  pl : ∀ u, v ≤ u → u < m → La m par s lf (v - 1) u ∨ (s u ≠ par v ∧ u ∈ wl (s u) ∧ ∀ w, v ≤ w → w < m → par w = s u → ¬ Anc par w u) ∨ (s u = par v ∧ u ∈ (wl (par v)).drop i)
theorem Nr.start {lf : Nat → Nat} {wl : Nat → List Nat} (hm : 0 < m) (hs : ∀ x, x < m → s x = x) (hw : ∀ x, wl x = []) : Nr m E par (m - 1) s lf wl :=
  ⟨⟨fun w h1 h2 h3 => by omega, fun w h1 h2 h3 => by omega, fun w z h1 h2 h3 => by omega⟩, fun x hx => hs x (by omega), fun x u h => (by rw [hw] at h; cases h), fun u h1 h2 => by omega⟩
theorem Nr.mid (D : Dfs m E par) {v x : Nat} {lf : Nat → Nat} {wl : Nat → List Nat} (h : Nr m E par v s lf wl) (h0 : 0 < v) (hv : v < m) (S : Semi m E (fun i => if i = v then x else s i) v) :
    Nm m E par v (fun i => if i = v then x else s i) lf (fun i => if i = x then wl x ++ [v] else wl i) 0 := by
  have old : ∀ z, v < z → (if z = v then x else s z) = s z := fun z hz => if_neg (by omega)
  refine ⟨S, fun z hz => by (try simp only); rw [if_neg (by omega)]; exact h.idn z (by omega), fun z u hu => ?_, fun u h1 h2 => ?_⟩
  · try simp only at hu ⊢
    by_cases e : z = x
    · rw [if_pos e] at hu
      rcases List.mem_append.1 hu with hu | hu
      · have := h.wt x u hu
        exact ⟨by omega, this.2.1, by rw [old u this.1, e]; exact this.2.2⟩
      · rw [List.mem_singleton.1 hu]
        exact ⟨Nat.le_refl _, hv, by rw [if_pos rfl, e]⟩
    · rw [if_neg e] at hu
      have := h.wt z u hu
      exact ⟨by omega, this.2.1, by rw [old u this.1]; exact this.2.2⟩
  · try simp only
    by_cases e : u = v
    · subst e
      rw [if_pos rfl]
      by_cases e2 : x = par u
      · exact .inr (.inr ⟨e2, by rw [if_pos e2.symm]; simp⟩)
      · refine .inr (.inl ⟨e2, by rw [if_pos rfl]; simp, fun w h3 h4 h5 h6 => ?_⟩)
        have := D.le h6 h2
        have : w = u := by omega
        rw [this] at h5
        exact e2 h5.symm
    · rw [old u (by omega)]
      rcases h.pl u (by omega) h2 with h3 | ⟨h3, h4⟩
      · exact .inl (h3.to (Nat.sub_le _ _) (by omega) old rfl)
      · have hin : u ∈ (if s u = x then wl x ++ [v] else wl (s u)) := by
          by_cases e2 : s u = x
          · rw [if_pos e2, ← e2]; exact List.mem_append_left _ h3
          · rw [if_neg e2]; exact h3
        by_cases e2 : s u = par v
        · refine .inr (.inr ⟨e2, ?_⟩)
          rw [List.drop_zero, ← e2]
          exact hin
        · refine .inr (.inl ⟨e2, hin, fun w h5 h6 h7 h8 => ?_⟩)
          by_cases e3 : w = v
          · rw [e3] at h7; exact e2 h7.symm
          · exact h4 w (by omega) h6 h7 h8
theorem Nm.step (D : Dfs m E par) {v u y i : Nat} {lf lf' : Nat → Nat} {wl : Nat → List Nat} (h : Nm m E par v s lf wl i) (h0 : 0 < v) (hv : v < m) (hu : (wl (par v))[i]? = some u) (hf : FindR m par s v u y)
    (hlf : ∀ x, lf' x = if x = u then (if s y < par v then y else par v) else lf x) : Nm m E par v s lf' wl (i + 1) := by
  have hmem := List.mem_of_getElem? hu
  obtain ⟨hvu, hum, hsu⟩ := h.wt _ u hmem
  have hpv := D.par_lt v h0 hv
  obtain ⟨ha, hvy, hbest⟩ := hf.2.2 hvu
  have key : ∀ z, Anc par z u → par v < z → v ≤ z := fun z hz hlt => by
    refine Classical.byContradiction fun hn => ?_
    have h1 := D.cont hz hum (by omega) hvu
    rcases h1.cases' with e | ⟨_, h1⟩
    · omega
    · have := D.le h1 (by omega)
      omega
  refine ⟨h.semi, h.idn, h.wt, fun x h1 h2 => ?_⟩
  by_cases e : x = u
  · subst e
    refine .inl ⟨y, ⟨ha, by omega, fun z hz hlt => hbest z hz (key z hz (by omega))⟩, fun z hz hlt => by have := key z hz (by omega); omega, ?_⟩
    rw [hlf, if_pos rfl, hsu]
  · rcases h.pl x h1 h2 with h3 | h3 | ⟨h3, h4⟩
    · refine .inl ?_
      obtain ⟨y', a, b, c⟩ := h3
      exact ⟨y', a, b, by rw [hlf, if_neg e]; exact c⟩
    · exact .inr (.inl h3)
    · refine .inr (.inr ⟨h3, ?_⟩)
      have hl := (List.getElem?_eq_some_iff.1 hu)
      rw [List.drop_eq_getElem_cons hl.1] at h4
      rcases List.mem_cons.1 h4 with h5 | h5
      · exact absurd (h5.trans hl.2) e
      · exact h5
theorem Nm.end {v : Nat} {lf : Nat → Nat} {wl : Nat → List Nat} (h : Nm m E par (v + 1) s lf wl (wl (par (v + 1))).length) : Nr m E par v s lf (fun i => if i = par (v + 1) then [] else wl i) := by
  refine ⟨h.semi, fun x hx => h.idn x (by omega), fun x u hu => ?_, fun u h1 h2 => ?_⟩
  · try simp only at hu
    by_cases e : x = par (v + 1)
    · rw [if_pos e] at hu; cases hu
    · rw [if_neg e] at hu
      have := h.wt x u hu
      exact ⟨by omega, this.2⟩
  · rcases h.pl u (by omega) h2 with h3 | ⟨h3, h4, h5⟩ | ⟨_, h4⟩
    · exact .inl h3
    · refine .inr ⟨by (try simp only); rw [if_neg h3]; exact h4, fun w h6 h7 => h5 w (by omega) h7⟩
    · rw [List.drop_length] at h4; cases h4
/-- All is laid. -/
theorem Nr.all (D : Dfs m E par) {lf : Nat → Nat} {wl : Nat → List Nat} (h : Nr m E par 0 s lf wl) (u : Nat) (h0 : 0 < u) (hu : u < m) : La m par s lf 0 u := by
  rcases h.pl u h0 hu with h1 | ⟨_, h1⟩
  · exact h1
  · have hlt := h.semi.lt u (by omega) h0 hu
    have ha := D.sp_anc (h.semi.sp u (by omega) h0 hu) hlt
    obtain ⟨w, a, b, c, d⟩ := Anc.child D.par_lt ha hu (by omega)
    exact absurd d (h1 w a b c)
/-- The nearest one above. -/
def Idom (E : Nat → Nat → Prop) (x i : Nat) : Prop := i < x ∧ ∀ d, Dom E d x ↔ d = x ∨ Dom E d i
theorem Nr.near (D : Dfs m E par) {lf : Nat → Nat} {wl : Nat → List Nat} (h : Nr m E par 0 s lf wl) {v : Nat} (h0 : 0 < v) (hv : v < m) :
    (lf v = s v ∧ Idom E v (s v)) ∨ (lf v ≠ s v ∧ 0 < lf v ∧ lf v < v ∧ ∀ i, Idom E (lf v) i → Idom E v i) := by
  obtain ⟨y, N, _, h3⟩ := h.all D v h0 hv
  have hlt := h.semi.lt v (by omega) h0 hv
  have hyv := D.le N.up hv
  by_cases hs : s y < s v
  · rw [if_pos hs] at h3
    have hb := N.below
    have hne : y ≠ v := fun e => by rw [e] at hs; omega
    refine .inr ⟨by omega, by omega, by omega, fun i hi => ?_⟩
    rw [h3] at hi
    refine ⟨by have := hi.1; omega, fun d => ?_⟩
    rw [(D.dom_is h.semi hv h0 N (d := d)).2 hs, hi.2 d]
    constructor
    · rintro (e | ⟨e, e2 | e2⟩)
      · exact .inl e
      · exact absurd e2 e
      · exact .inr e2
    · rintro (e | e)
      · exact .inl e
      · refine .inr ⟨fun e2 => ?_, .inr e⟩
        have h1 := hi.1
        have := D.le (e.anc D (by omega)) (by omega)
        omega
  · rw [if_neg hs] at h3
    exact .inl ⟨h3, hlt, fun d => (D.dom_is h.semi hv h0 N).1 (by omega)⟩
end
end Go.Proofs.YtacgfjcdfgdpjaaDoor.Gm
