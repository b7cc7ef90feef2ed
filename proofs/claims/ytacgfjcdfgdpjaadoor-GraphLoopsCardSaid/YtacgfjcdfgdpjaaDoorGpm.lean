/- What numbers tell, told by places: plain mathematics. -/
import Derived.Test.YtacgfjcdfgdpjaaDoorGll
namespace Go.Proofs.YtacgfjcdfgdpjaaDoor
set_option linter.unusedSimpArgs false
set_option linter.unusedVariables false
open Gm

/-- A code's ways, which places are come to, what is above what, what is in which loop. -/
def Ed (c : List Ic) (i j : Nat) : Prop := j ∈ outs c i
def Rch (c : List Ic) (i : Nat) : Prop := c ≠ [] ∧ Gm.Way (Ed c) (fun _ => True) 0 i
def Dmp (c : List Ic) (d i : Nat) : Prop := Rch c i ∧ ¬ Gm.Way (Ed c) (fun z => z ≠ d) 0 i
def Lpp (c : List Ic) (h i : Nat) : Prop := ∃ j, Ed c j h ∧ Rch c j ∧ Dmp c h j ∧ (i = h ∨ (Rch c i ∧ Gm.Way (Ed c) (fun z => z ≠ h) i j))
section
variable {c : List Ic} {y : Wm}
theorem Wf.inj (hF : Wf c y) {u v : Nat} (hu : u < y.m) (hv : v < y.m) (e : y.pl u = y.pl v) : u = v := by
  have h1 := (hF.nb.pl u hu).2
  rw [e, (hF.nb.pl v hv).2] at h1
  exact (Option.some.inj h1).symm
theorem Wf.edge (hF : Wf c y) {v j : Nat} (hv : v < y.m) : Ed c (y.pl v) j ↔ ∃ w, w < y.m ∧ y.pl w = j ∧ y.E v w := by
  unfold Ed
  rw [← hF.nb.ot v hv]
  constructor
  · intro h
    obtain ⟨w, e⟩ := hF.out v j hv h
    obtain ⟨h1, h2⟩ := hF.nb.num _ _ e
    exact ⟨w, h1, h2, hv, h1, h2.symm ▸ h⟩
  · rintro ⟨w, _, rfl, _, _, h⟩
    exact h
theorem Wf.way_pl (hF : Wf c y) {A B : Nat → Prop} {u v : Nat} (h : Gm.Way y.E A u v) (hA : ∀ z, z < y.m → A z → B (y.pl z)) (hu : u < y.m) : Gm.Way (Ed c) B (y.pl u) (y.pl v) := by
  induction h with
  | one ha => exact .one (hA _ hu ha)
  | cons ha e _ ih => exact .cons (hA _ hu ha) ((hF.edge hu).2 ⟨_, e.2.1, rfl, e⟩) (ih e.2.1)
theorem Wf.way_num (hF : Wf c y) {B : Nat → Prop} {i j : Nat} (h : Gm.Way (Ed c) B i j) : ∀ u, u < y.m → y.pl u = i → ∃ v, v < y.m ∧ y.pl v = j ∧ Gm.Way y.E (fun z => B (y.pl z)) u v := by
  induction h with
  | one ha => exact fun u hu e => ⟨u, hu, e, .one (e.symm ▸ ha)⟩
  | cons ha e _ ih =>
    intro u hu eu
    subst eu
    obtain ⟨w, hw, rfl, he⟩ := (hF.edge hu).1 e
    obtain ⟨v, h1, h2, h3⟩ := ih w hw rfl
    exact ⟨v, h1, h2, .cons ha he h3⟩
theorem Wf.ne (hF : Wf c y) : c ≠ [] := fun e => by have h1 := hF.nb.pos; have h2 := hF.nb.le; rw [e] at h2; simp at h2; omega
theorem Wf.way_iff (hF : Wf c y) {B : Nat → Prop} {u v : Nat} (hu : u < y.m) (hv : v < y.m) : Gm.Way (Ed c) B (y.pl u) (y.pl v) ↔ Gm.Way y.E (fun z => B (y.pl z)) u v := by
  constructor
  · intro h
    obtain ⟨w, h1, h2, h3⟩ := hF.way_num h u hu rfl
    rw [hF.inj h1 hv h2] at h3
    exact h3
  · exact fun h => hF.way_pl h (fun _ _ k => k) hu
theorem Wf.rch (hF : Wf c y) {i : Nat} : Rch c i ↔ ∃ v, v < y.m ∧ y.pl v = i := by
  constructor
  · rintro ⟨_, h⟩
    obtain ⟨v, h1, h2, _⟩ := hF.way_num h 0 hF.nb.pos hF.nb.zero.1
    exact ⟨v, h1, h2⟩
  · rintro ⟨v, hv, rfl⟩
    refine ⟨hF.ne, ?_⟩
    have := hF.way_pl (B := fun _ => True) (hF.dfs.reach hv) (fun _ _ _ => trivial) hF.nb.pos
    rw [hF.nb.zero.1] at this
    exact this
theorem Wf.avoid (hF : Wf c y) {u s v : Nat} (hu : u < y.m) (hs : s < y.m) (hv : v < y.m) : Gm.Way (Ed c) (fun z => z ≠ y.pl u) (y.pl s) (y.pl v) ↔ Gm.Way y.E (fun z => z ≠ u) s v := by
  rw [hF.way_iff hs hv]
  constructor
  · intro h
    exact h.mono fun z hz e => hz (by rw [e])
  · intro h
    have : ∀ {a b}, Gm.Way y.E (fun z => z ≠ u) a b → a < y.m → Gm.Way y.E (fun z => y.pl z ≠ y.pl u) a b := by
      intro a b k
      induction k with
      | one ha => exact fun hm => .one fun e => ha (hF.inj hm hu e)
      | cons ha e _ ih => exact fun hm => .cons (fun e2 => ha (hF.inj hm hu e2)) e (ih e.2.1)
    exact this h hs
theorem Wf.dom (hF : Wf c y) {u v : Nat} (hu : u < y.m) (hv : v < y.m) : Dom y.E u v ↔ Dmp c (y.pl u) (y.pl v) := by
  unfold Dom Dmp
  rw [← hF.avoid hu hF.nb.pos hv, hF.nb.zero.1]
  exact ⟨fun h => ⟨hF.rch.2 ⟨v, hv, rfl⟩, h⟩, fun h => h.2⟩
/-- What is above a place can be come to. -/
theorem Dmp.rch {d i : Nat} (h : Dmp c d i) (hF : Wf c y) : Rch c d := by
  refine Classical.byContradiction fun hn => h.2 ?_
  obtain ⟨hc, k⟩ := h.1
  have : ∀ {a b : Nat}, Gm.Way (Ed c) (fun _ => True) a b → Gm.Way (Ed c) (fun _ => True) 0 a → Gm.Way (Ed c) (fun z => z ≠ d) a b := by
    intro a b k
    induction k with
    | one _ => exact fun h0 => .one fun e => hn ⟨hc, e ▸ h0⟩
    | cons _ e _ ih => exact fun h0 => .cons (fun e2 => hn ⟨hc, e2 ▸ h0⟩) e (ih (h0.snoc e trivial))
  exact this k (.one trivial)
theorem Wf.loop (hF : Wf c y) {h x : Nat} (hh : h < y.m) (hx : x < y.m) : In y.E h x ↔ Lpp c (y.pl h) (y.pl x) := by
  constructor
  · rintro ⟨j, e, d, k⟩
    have hj := e.1
    refine ⟨y.pl j, (hF.edge hj).2 ⟨h, hh, rfl, e⟩, hF.rch.2 ⟨j, hj, rfl⟩, (hF.dom hh hj).1 d, ?_⟩
    rcases k with rfl | k
    · exact .inl rfl
    · exact .inr ⟨hF.rch.2 ⟨x, hx, rfl⟩, (hF.avoid hh hx hj).2 k⟩
  · rintro ⟨pj, e, r, d, k⟩
    obtain ⟨j, hj, rfl⟩ := hF.rch.1 r
    obtain ⟨w, hw, e1, e2⟩ := (hF.edge hj).1 e
    rw [hF.inj hw hh e1] at e2
    refine ⟨j, e2, (hF.dom hh hj).2 d, ?_⟩
    rcases k with k | ⟨_, k⟩
    · exact .inl (hF.inj hx hh k)
    · exact .inr ((hF.avoid hh hx hj).1 k)
theorem Lpp.rch {h i : Nat} (k : Lpp c h i) (hF : Wf c y) : Rch c h ∧ Rch c i := by
  obtain ⟨j, e, r, d, k⟩ := k
  have hr : Rch c h := ⟨r.1, r.2.snoc e trivial⟩
  exact ⟨hr, k.elim (fun e => e ▸ hr) fun k => k.1⟩
theorem Wf.hd (hF : Wf c y) {h : Nat} (hh : h < y.m) : Hd y.E h ↔ Lpp c (y.pl h) (y.pl h) := by
  rw [← hF.loop hh hh]
  exact ⟨fun k => k.in, fun k => k.hd⟩
/-- graph's Reach, by places. -/
theorem reach_pl {r : Nat → Bool} (hN : Nums c y) (hr : ∀ i, r i = true ↔ ∃ v, v < y.m ∧ y.pl v = i) (i : Nat) : r i = true ↔ Rch c i := by
  rw [hr]
  by_cases e : c = []
  · have hm := hN.1 e
    exact ⟨fun ⟨v, h, _⟩ => by omega, fun h => absurd e h.1⟩
  · exact (hN.2 e).rch.symm
/-- graph's Preds, by places. -/
theorem src_pl (hF : Wf c y) {t i : Nat} : i ∈ y.src t ↔ Rch c i ∧ Ed c i t := by
  unfold Wm.src Wm.P
  rw [List.mem_filter, List.mem_range]
  constructor
  · rintro ⟨h1, h2⟩
    cases hu : y.num i with
    | none => rw [hu] at h2; cases h2
    | some u =>
      rw [hu] at h2
      obtain ⟨h3, rfl⟩ := hF.nb.num _ _ hu
      refine ⟨hF.rch.2 ⟨u, h3, rfl⟩, ?_⟩
      unfold Ed
      rw [← hF.nb.ot u h3]
      simpa using h2
  · rintro ⟨h1, h2⟩
    obtain ⟨u, hu, rfl⟩ := hF.rch.1 h1
    refine ⟨by rw [hF.nb.n]; exact (hF.nb.pl u hu).1, ?_⟩
    rw [(hF.nb.pl u hu).2]
    unfold Ed at h2
    rw [← hF.nb.ot u hu] at h2
    simpa using h2
theorem src_up (y : Wm) (t : Nat) : (y.src t).Pairwise (· < ·) := List.pairwise_lt_range.filter _
/-- graph's Dominates, by places. -/
theorem dom_pl (hN : Nums c y) {i j : Nat} : DomT y i j ↔ Dmp c j i := by
  by_cases e : c = []
  · refine ⟨fun ⟨v, u, h1, h2, h3, h4⟩ => ?_, fun h => absurd e h.1.1⟩
    have := hN.1 e
    omega
  · have hF := hN.2 e
    constructor
    · rintro ⟨v, u, h1, h2, h3, rfl⟩
      obtain ⟨h4, rfl⟩ := hF.nb.num _ _ h1
      exact (hF.dom h3 h4).1 h2
    · intro h
      obtain ⟨u, hu, rfl⟩ := hF.rch.1 (h.rch hF)
      obtain ⟨v, hv, rfl⟩ := hF.rch.1 h.1
      exact ⟨v, u, (hF.nb.pl v hv).2, (hF.dom hu hv).2 h, hu, rfl⟩
end
open Classical
/-- The places from which loops begin, rising. -/
noncomputable def phs (c : List Ic) : List Nat := (List.range c.length).filter fun i => decide (Lpp c i i)
theorem mem_phs {c : List Ic} {i : Nat} : i ∈ phs c ↔ i < c.length ∧ Lpp c i i := by
  unfold phs
  rw [List.mem_filter, List.mem_range, decide_eq_true_eq]
theorem phs_up (c : List Ic) : (phs c).Pairwise (· < ·) := List.pairwise_lt_range.filter _
section
variable {c : List Ic} {y : Wm} {ar : Nat → Option Nat} {hd : Nat → Bool}
theorem hds_pl (hF : Wf c y) (hh : ∀ h, h < y.m → (hd h = true ↔ Hd y.E h)) : (hds y hd c.length).map y.pl = phs c := by
  unfold hds phs
  generalize List.range c.length = l
  induction l with
  | nil => rfl
  | cons i l ih =>
    rw [List.filterMap_cons]
    cases hn : y.num i with
    | none =>
      simp only
      rw [ih, List.filter_cons, if_neg]
      rw [decide_eq_true_eq]
      intro k
      obtain ⟨v, hv, rfl⟩ := hF.rch.1 (k.rch hF).1
      rw [(hF.nb.pl v hv).2] at hn
      cases hn
    | some h =>
      obtain ⟨h3, rfl⟩ := hF.nb.num _ _ hn
      have h4 := (hh h h3).trans (hF.hd h3)
      simp only
      rw [List.filter_cons, List.filter_cons]
      by_cases e : Lpp c (y.pl h) (y.pl h)
      · rw [if_pos (h4.2 e), if_pos (by rw [decide_eq_true_eq]; exact e), List.map_cons, ih]
      · rw [if_neg (fun k => e (h4.1 k)), if_neg (by rw [decide_eq_true_eq]; exact e), ih]
theorem hds_none (hN : Nums c y) (e : c = []) : hds y hd c.length = [] := by rw [e]; rfl
theorem phs_nil {c : List Ic} (e : c = []) : phs c = [] := by rw [e]; rfl
theorem hds_length (hN : Nums c y) (hh : ∀ h, h < y.m → (hd h = true ↔ Hd y.E h)) : (hds y hd c.length).length = (phs c).length := by
  by_cases e : c = []
  · rw [hds_none hN e, phs_nil e]
  · rw [← hds_pl (hN.2 e) hh, List.length_map]
theorem und_in (hL : Lps y.m y.E ar 0) {h v : Nat} (hh : h < y.m) (hv : v < y.m) (k : Hd y.E h) : Und ar h v ↔ In y.E h v := by
  rw [hL.done h v hh hv (Nat.zero_le _)]
  exact ⟨fun e => e.elim (fun e => e ▸ k.in) id, .inr⟩
/-- graph's Loops, by places. -/
theorem loop_pl (hN : Nums c y) (hh : ∀ h, h < y.m → (hd h = true ↔ Hd y.E h)) (hL : Lps y.m y.E ar 0) {k t : Nat} (hk : k < (phs c).length) : (∃ v, v < y.m ∧ Und ar ((hds y hd c.length).getD k 0) v ∧ y.pl v = t) ↔ Lpp c ((phs c).getD k 0) t := by
  have e : c ≠ [] := fun e => by rw [phs_nil e] at hk; exact absurd hk (Nat.not_lt_zero _)
  have hF := hN.2 e
  have hl := hds_length hN hh
  have hk' : k < (hds y hd c.length).length := by omega
  obtain ⟨h, he⟩ : ∃ h, (hds y hd c.length)[k] = h := ⟨_, rfl⟩
  have e1 : (hds y hd c.length).getD k 0 = h := by rw [List.getD_eq_getElem?_getD, List.getElem?_eq_getElem hk', he]; rfl
  have e2 : (phs c).getD k 0 = y.pl h := by
    rw [List.getD_eq_getElem?_getD, ← hds_pl hF hh, List.getElem?_map, List.getElem?_eq_getElem hk', he]
    rfl
  have hm := mem_hds.1 (he ▸ List.getElem_mem hk')
  obtain ⟨⟨i, _, hi⟩, hdh⟩ := hm
  have hhm := (hF.nb.num _ _ hi).1
  have hH := (hh h hhm).1 hdh
  rw [e1, e2]
  constructor
  · rintro ⟨v, hv, k, rfl⟩
    exact (hF.loop hhm hv).1 ((und_in hL hhm hv hH).1 k)
  · intro k
    obtain ⟨v, hv, rfl⟩ := hF.rch.1 (k.rch hF).2
    exact ⟨v, hv, (und_in hL hhm hv hH).2 ((hF.loop hhm hv).2 k), rfl⟩
/-- How many loops have a place. -/
noncomputable def dpt (c : List Ic) (i : Nat) : Nat := ((phs c).filter fun h => decide (Lpp c h i)).length
theorem count_und (hd : Nat → Bool) {m : Nat} {ar : Nat → Option Nat} (ha : ∀ v p, v < m → ar v = some p → p < v) {H : List Nat} (hn : H.Nodup) {v : Nat} (hv : v < m) (hH : v ∈ H ↔ hd v = true) :
    (H.filter fun h => decide (Und ar h v)).length = (match ar v with | none => 0 | some p => (H.filter fun h => decide (Und ar h p)).length) + (if hd v then 1 else 0) := by
  have h1 : (H.filter fun h => decide (h = v)).length = if hd v then 1 else 0 := by
    have : (H.filter fun h => decide (h = v)).length = H.count v := by
      rw [List.count_eq_length_filter]
      congr 1
    rw [this, hn.count]
    by_cases e : hd v = true
    · rw [if_pos (hH.2 e), if_pos e]
    · rw [if_neg (fun k => e (hH.1 k)), if_neg e]
  cases har : ar v with
  | none =>
    simp only
    rw [Nat.zero_add, ← h1]
    congr 1
    refine List.filter_congr fun x _ => ?_
    rw [decide_eq_decide]
    refine ⟨fun k => ?_, fun e => e ▸ .refl _⟩
    rcases k.cases' with k | ⟨p, k, _⟩
    · exact k
    · rw [har] at k; cases k
  | some p =>
    have hp := ha v p hv har
    simp only
    rw [← h1]
    have hsp : ∀ x, decide (Und ar x v) = (decide (Und ar x p) || decide (x = v)) := fun x => by
      rw [← Bool.decide_or, decide_eq_decide]
      constructor
      · intro k
        rcases k.cases' with k | ⟨q, k, k2⟩
        · exact .inr k
        · rw [har] at k; cases k; exact .inl k2
      · rintro (k | rfl)
        · exact .step har k
        · exact .refl _
    have hex : ∀ x, ¬ (Und ar x p ∧ x = v) := fun x ⟨k, e⟩ => by
      have := Und.le ha k (by omega)
      omega
    clear h1 hH hn
    induction H with
    | nil => rfl
    | cons x H ih =>
      rw [List.filter_cons, List.filter_cons, List.filter_cons, hsp x]
      have := hex x
      by_cases e1 : Und ar x p
      · have e2 : ¬ x = v := fun e => this ⟨e1, e⟩
        simp only [e1, e2, decide_true, decide_false, Bool.or_false, if_true, Bool.false_eq_true, if_false, List.length_cons, ih]
        omega
      · by_cases e2 : x = v
        · rw [show decide (Und ar x p) = false from decide_eq_false e1, show decide (x = v) = true from decide_eq_true e2]
          simp only [Bool.false_or, if_true, Bool.false_eq_true, if_false, List.length_cons]
          rw [ih]
          omega
        · simp only [e1, e2, decide_false, Bool.or_false, Bool.false_eq_true, if_false, ih]
/-- graph's Depth, by places. -/
theorem depth_pl (hN : Nums c y) (hh : ∀ h, h < y.m → (hd h = true ↔ Hd y.E h)) (hL : Lps y.m y.E ar 0) {dp : Nat → Nat} (hD : Dpr y ar hd y.m dp) (i : Nat) : dp i = dpt c i := by
  by_cases e : c = []
  · have hm := hN.1 e
    rw [hD.out i fun v hv => by omega]
    unfold dpt
    rw [phs_nil e]
    rfl
  · have hF := hN.2 e
    have hpl := hds_pl hF hh
    by_cases hr : Rch c i
    · obtain ⟨v, hv, rfl⟩ := hF.rch.1 hr
      have hnd : (hds y hd c.length).Nodup := by
        have : ((hds y hd c.length).map y.pl).Nodup := by rw [hpl]; exact (phs_up c).imp fun h e => by omega
        exact List.Pairwise.of_map y.pl (fun a b h e => h (by rw [e])) this
      have hmem : ∀ v, v < y.m → (v ∈ hds y hd c.length ↔ hd v = true) := fun v hv => by
        rw [mem_hds]
        exact ⟨fun h => h.2, fun h => ⟨⟨y.pl v, (hF.nb.pl v hv).1, (hF.nb.pl v hv).2⟩, h⟩⟩
      have ha : ∀ v p, v < y.m → ar v = some p → p < v := fun v p hv e => (hL.ar_lt v p hv e).1
      have hU : ∀ v, v < y.m → dp (y.pl v) = (((hds y hd c.length).filter fun h => decide (Und ar h v)).length) := by
        intro v
        induction v using Nat.strongRecOn with
        | ind v ih =>
          intro hv
          rw [hD.is v hv, count_und hd ha hnd hv (hmem v hv)]
          congr 1
          cases har : ar v with
          | none => rfl
          | some p =>
            have hp := ha v p hv har
            exact ih p hp (by omega)
      rw [hU v hv]
      unfold dpt
      rw [← hpl, List.filter_map, List.length_map]
      congr 1
      refine List.filter_congr fun h hmh => ?_
      simp only [Function.comp_def]
      rw [decide_eq_decide]
      obtain ⟨⟨q, _, hq⟩, hdh⟩ := mem_hds.1 hmh
      have hhm := (hF.nb.num _ _ hq).1
      rw [und_in hL hhm hv ((hh h hhm).1 hdh), hF.loop hhm hv]
    · rw [hD.out i fun v hv e => hr (hF.rch.2 ⟨v, hv, e⟩)]
      unfold dpt
      symm
      rw [List.length_eq_zero_iff, List.filter_eq_nil_iff]
      intro h _ k
      rw [decide_eq_true_eq] at k
      exact hr (k.rch hF).2
end
end Go.Proofs.YtacgfjcdfgdpjaaDoor
