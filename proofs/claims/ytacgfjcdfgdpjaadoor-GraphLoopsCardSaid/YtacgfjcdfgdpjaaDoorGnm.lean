/- What nest keeps, in plain mathematics: the nearest ones tell what is above what; a row that waits. -/
import Derived.Test.YtacgfjcdfgdpjaaDoorGnn
namespace Go.Proofs.YtacgfjcdfgdpjaaDoor
set_option linter.unusedSimpArgs false
set_option linter.unusedVariables false
open Go Go.RowKit Gm

/-- The tree of the nearest ones tells what is above what. -/
theorem Idoms.lt {y : Wm} {I : Nat → Option Nat} (h : Idoms y I) : ∀ v p, v < y.m → I v = some p → p < v := fun v p hv e => by
  by_cases h0 : v = 0
  · subst h0
    rw [h.1 hv] at e
    cases e
  · obtain ⟨i, e1, e2⟩ := h.2 v (by omega) hv
    rw [e] at e1
    cases e1
    exact e2.1
theorem Idoms.dom {y : Wm} {I : Nat → Option Nat} {par : Nat → Nat} (D : Dfs y.m y.E par) (h : Idoms y I) (u : Nat) : ∀ v, v < y.m → (Und I u v ↔ Dom y.E u v) := by
  intro v
  induction v using Nat.strongRecOn with
  | ind v ih =>
    intro hv
    by_cases h0 : v = 0
    · subst h0
      constructor
      · intro k
        have := Und.le h.lt k hv
        have e : u = 0 := by omega
        rw [e]
        exact Dom.self
      · intro k
        have e : u = 0 := Anc.zero (k.anc D hv)
        rw [e]
        exact .refl _
    · obtain ⟨i, e1, e2⟩ := h.2 v (by omega) hv
      have h3 := ih i e2.1 (by have := e2.1; omega)
      rw [e2.2 u, ← h3]
      constructor
      · intro k
        rcases k.cases' with k | ⟨p, k1, k2⟩
        · exact .inl k
        · rw [e1] at k1
          cases k1
          exact .inr k2
      · rintro (rfl | k)
        · exact .refl _
        · exact .step e1 k
/-- How many are told by themselves. -/
def tops (m : Nat) (ar : Nat → Option Nat) : Nat := sm (fun x => if ar x = none then 1 else 0) m
theorem tops_le (m : Nat) (ar : Nat → Option Nat) : tops m ar ≤ m := by
  unfold tops
  induction m with
  | zero => exact Nat.le_refl _
  | succ m ih =>
    have : sm (fun x => if ar x = none then 1 else 0) (m + 1) = sm (fun x => if ar x = none then 1 else 0) m + if ar m = none then 1 else 0 := rfl
    rw [this]
    split <;> omega
theorem tops_put {m v h : Nat} {ar : Nat → Option Nat} (hv : v < m) (hr : ar v = none) : tops m (upd ar v (some h)) + 1 = tops m ar := by
  have := sm_upd (f := fun x => if ar x = none then 1 else 0) (g := fun x => if upd ar v (some h) x = none then 1 else 0) (n := m) (a := v) (x := 0) hv fun i _ => by
    by_cases e : i = v
    · rw [if_pos e, e, upd_at, if_neg (by simp)]
    · rw [if_neg e, upd_of e]
  rw [if_pos hr] at this
  exact this
theorem und_upd {ar : Nat → Option Nat} {v h g x : Nat} (hr : ar v = none) (k : Und ar g x) : Und (upd ar v (some h)) g x := by
  induction k with
  | refl => exact .refl _
  | @step p x e k ih =>
    by_cases e1 : x = v
    · rw [e1, hr] at e; cases e
    · exact .step (by rw [upd_of e1]; exact e) ih
/-- One is put under h. -/
theorem Who.put {m v h : Nat} {ar : Nat → Option Nat} {c : Nat → Nat} (k : Who m ar c) (hr : ar v = none) (hlt : h < v) : Who m (upd ar v (some h)) (upd c v h) := by
  refine ⟨fun x hx => ?_, fun x hx => ?_, fun x hx => ?_⟩
  · by_cases e : x = v
    · rw [e, upd_at]; omega
    · rw [upd_of e]; exact k.le x hx
  · by_cases e : x = v
    · rw [e, upd_at]; exact .step (upd_at _ _ _) (.refl _)
    · rw [upd_of e]; exact und_upd hr (k.und x hx)
  · by_cases e : x = v
    · rw [e, upd_at, upd_at]
      exact ⟨fun e2 => by omega, fun e2 => by cases e2⟩
    · rw [upd_of e, upd_of e]; exact k.top x hx
theorem Who.start {m : Nat} {ar : Nat → Option Nat} {c : Nat → Nat} (h1 : ∀ x, x < m → ar x = none) (h2 : ∀ x, x < m → c x = x) : Who m ar c :=
  ⟨fun x hx => Nat.le_of_eq (h2 x hx), fun x hx => by rw [h2 x hx]; exact .refl _, fun x hx => ⟨fun _ => h1 x hx, fun _ => h2 x hx⟩⟩
theorem lv_app {l : List Nat} {z i : Nat} (h : i < l.length) : lv (l ++ [z]) i = lv l i := by simp only [lv, List.getD_eq_getElem?_getD, List.getElem?_append_left h]
theorem lv_last (l : List Nat) (z : Nat) : lv (l ++ [z]) l.length = .int .i64 (z : Int) := by simp [lv]
theorem lv_snoc {l : List Nat} {z i : Nat} (h : i < l.length + 1) : upd (lv l) l.length (.int .i64 (z : Int)) i = lv (l ++ [z]) i := by
  by_cases e : i = l.length
  · rw [e, upd_at, lv_last]
  · rw [upd_of e, lv_app (by omega)]
/-- Of the ones that lead to h those that h is above. -/
def Bk (y : Wm) (h j : Nat) (L l : List Nat) : Prop := l.length ≤ j ∧ ∀ z, z ∈ l ↔ ∃ q at_, q < j ∧ L[q]? = some at_ ∧ y.num at_ = some z ∧ Dom y.E h z
theorem Bk.start (y : Wm) (h : Nat) (L : List Nat) : Bk y h 0 L [] := ⟨Nat.le_refl _, fun z => ⟨fun k => (by cases k), fun ⟨q, _, k, _⟩ => absurd k (Nat.not_lt_zero _)⟩⟩
theorem Bk.yes {y : Wm} {h j at_ v : Nat} {L l : List Nat} (k : Bk y h j L l) (ha : L[j]? = some at_) (hv : y.num at_ = some v) (hd : Dom y.E h v) : Bk y h (j + 1) L (l ++ [v]) := by
  refine ⟨by have := k.1; simp; omega, fun z => ?_⟩
  rw [List.mem_append, k.2 z]
  constructor
  · rintro (⟨q, a, h1, h2⟩ | e)
    · exact ⟨q, a, by omega, h2⟩
    · have e : z = v := by simpa using e
      rw [e]
      exact ⟨j, at_, by omega, ha, hv, hd⟩
  · rintro ⟨q, a, h1, h2, h3, h4⟩
    by_cases e : q = j
    · rw [e, ha] at h2
      cases h2
      rw [hv] at h3
      cases h3
      exact .inr (by simp)
    · exact .inl ⟨q, a, by omega, h2, h3, h4⟩
theorem Bk.no {y : Wm} {h j at_ v : Nat} {L l : List Nat} (k : Bk y h j L l) (ha : L[j]? = some at_) (hv : y.num at_ = some v) (hd : ¬ Dom y.E h v) : Bk y h (j + 1) L l := by
  refine ⟨by have := k.1; omega, fun z => ?_⟩
  rw [k.2 z]
  constructor
  · rintro ⟨q, a, h1, h2⟩
    exact ⟨q, a, by omega, h2⟩
  · rintro ⟨q, a, h1, h2, h3, h4⟩
    by_cases e : q = j
    · rw [e, ha] at h2
      cases h2
      rw [hv] at h3
      cases h3
      exact absurd h4 hd
    · exact ⟨q, a, by omega, h2, h3, h4⟩
theorem Bk.all {c : List Ic} {y : Wm} {h : Nat} {L l : List Nat} (hF : Wf c y) (hh : h < y.m) (hL : y.src (y.pl h) = L) (k : Bk y h L.length L l) (z : Nat) : z ∈ l ↔ y.E z h ∧ Dom y.E h z := by
  rw [k.2 z]
  constructor
  · rintro ⟨q, a, h1, h2, h3, h4⟩
    have hm := (src_edge hF hh (at_ := a)).1 (by rw [hL]; exact List.mem_of_getElem? h2)
    obtain ⟨u, hu, he⟩ := hm
    rw [hu] at h3
    cases h3
    exact ⟨he, h4⟩
  · rintro ⟨he, hd⟩
    have hn := (hF.nb.pl z he.1).2
    have hm := (src_edge hF hh).2 ⟨z, hn, he⟩
    rw [hL] at hm
    obtain ⟨q, hq, e⟩ := List.mem_iff_getElem.1 hm
    exact ⟨q, _, hq, by rw [List.getElem?_eq_getElem hq, e], hn, hd⟩
/-- A loop begins where something waits. -/
theorem Bk.hd {c : List Ic} {y : Wm} {h : Nat} {L l : List Nat} (hF : Wf c y) (hh : h < y.m) (hL : y.src (y.pl h) = L) (k : Bk y h L.length L l) : 0 < l.length ↔ Hd y.E h := by
  constructor
  · intro h0
    obtain ⟨z, hz⟩ := List.exists_mem_of_length_pos h0
    obtain ⟨e, d⟩ := (k.all hF hh hL z).1 hz
    exact ⟨z, e, d⟩
  · rintro ⟨z, e, d⟩
    exact List.length_pos_of_mem ((k.all hF hh hL z).2 ⟨e, d⟩)
/-- Of those that lead to v the first ones wait, besides others. -/
def Mo (y : Wm) (j : Nat) (L l0 l : List Nat) : Prop := l.length = l0.length + j ∧ ∀ z, z ∈ l ↔ z ∈ l0 ∨ ∃ q at_, q < j ∧ L[q]? = some at_ ∧ y.num at_ = some z
theorem Mo.start (y : Wm) (L l0 : List Nat) : Mo y 0 L l0 l0 := ⟨rfl, fun z => ⟨.inl, fun k => k.elim id fun ⟨q, _, k, _⟩ => absurd k (Nat.not_lt_zero _)⟩⟩
theorem Mo.next {y : Wm} {j at_ v : Nat} {L l0 l : List Nat} (k : Mo y j L l0 l) (ha : L[j]? = some at_) (hv : y.num at_ = some v) : Mo y (j + 1) L l0 (l ++ [v]) := by
  refine ⟨by have := k.1; simp; omega, fun z => ?_⟩
  rw [List.mem_append, k.2 z]
  constructor
  · rintro ((h | ⟨q, a, h1, h2⟩) | e)
    · exact .inl h
    · exact .inr ⟨q, a, by omega, h2⟩
    · have e : z = v := by simpa using e
      rw [e]
      exact .inr ⟨j, at_, by omega, ha, hv⟩
  · rintro (h | ⟨q, a, h1, h2, h3⟩)
    · exact .inl (.inl h)
    · by_cases e : q = j
      · rw [e, ha] at h2
        cases h2
        rw [hv] at h3
        cases h3
        exact .inr (by simp)
      · exact .inl (.inr ⟨q, a, by omega, h2, h3⟩)
theorem Mo.all {c : List Ic} {y : Wm} {v : Nat} {L l0 l : List Nat} (hF : Wf c y) (hv : v < y.m) (hL : y.src (y.pl v) = L) (k : Mo y L.length L l0 l) (z : Nat) : z ∈ l ↔ z ∈ l0 ∨ y.E z v := by
  rw [k.2 z]
  refine or_congr_right ?_
  constructor
  · rintro ⟨q, a, h1, h2, h3⟩
    obtain ⟨u, hu, he⟩ := (src_edge hF hv (at_ := a)).1 (by rw [hL]; exact List.mem_of_getElem? h2)
    rw [hu] at h3
    cases h3
    exact he
  · intro he
    have hn := (hF.nb.pl z he.1).2
    have hm := (src_edge hF hv).2 ⟨z, hn, he⟩
    rw [hL] at hm
    obtain ⟨q, hq, e⟩ := List.mem_iff_getElem.1 hm
    exact ⟨q, _, hq, by rw [List.getElem?_eq_getElem hq, e], hn⟩
/-- One more is put in: what is known of the loops. -/
theorem nst_put {m : Nat} {E : Nat → Nat → Prop} {par : Nat → Nat} (D : Dfs m E par) {ar : Nat → Option Nat} {c : Nat → Nat} {h v z : Nat} {l l' : List Nat} (N : Nst m E ar h (fun x => x ∈ l ++ [z])) (K : Who m ar c) (hv : Und ar v z) (hr : ar v = none) (hvm : v < m) (hne : v ≠ h) (hl : ∀ x, x ∈ l' ↔ x ∈ l ∨ E x v) :
    Nst m E (upd ar v (some h)) h (fun x => x ∈ l') ∧ Who m (upd ar v (some h)) (upd c v h) ∧ tops m (upd ar v (some h)) + 1 = tops m ar := by
  have N' : Nst m E (upd ar v (some h)) h (fun x => x ∈ l') := N.put (W' := fun x => x ∈ l') D (y := z) (by simp) hv hr hne (fun x => rfl) (fun x hx => by
      rcases List.mem_append.1 hx with k | k
      · exact .inr ((hl x).2 (.inl k))
      · exact .inl (by simpa using k)) (fun x hx => (hl x).1 hx |>.imp (fun k => List.mem_append.2 (.inl k)) id) (fun x hx => (hl x).2 (.inr hx))
  have := (N'.ar_lt v h hvm (upd_at _ _ _)).1
  exact ⟨N', K.put hr this, tops_put hvm hr⟩
theorem nst_drop {m : Nat} {E : Nat → Nat → Prop} {ar : Nat → Option Nat} {h z : Nat} {l : List Nat} (N : Nst m E ar h (fun x => x ∈ l ++ [z])) (hv : Und ar h z) : Nst m E ar h (fun x => x ∈ l) :=
  N.drop (y := z) hv (fun x hx => (List.mem_append.1 hx).elim .inr fun k => .inl (by simpa using k)) (fun x hx => List.mem_append.2 (.inl hx))
end Go.Proofs.YtacgfjcdfgdpjaaDoor
