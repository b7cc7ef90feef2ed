/- Codes that don't branch: plain mathematics. -/
import Derived.Test.YtacgfjcdfgdpjaaDoorGax
namespace Go.Proofs.YtacgfjcdfgdpjaaDoor
set_option linter.unusedSimpArgs false
set_option linter.unusedVariables false
open Gm

/-- The kind at a place. -/
def kd (c : List Ic) (j : Nat) : Int := (c.getD j ⟨0, 0, 0, 0, 0, 0, 0⟩).k
def Stop (c : List Ic) (j : Nat) : Prop := kd c j = 13 ∨ kd c j = 12
def Plain (c : List Ic) (j : Nat) : Prop := 0 ≤ kd c j ∧ kd c j ≤ 13 ∧ kd c j ≠ 6 ∧ kd c j ≠ 7
theorem kd_at {c : List Ic} {j : Nat} {x : Ic} (h : c[j]? = some x) : kd c j = x.k := by simp [kd, h]
theorem has_ens : ∀ k, k < 14 → k ≠ 6 → k ≠ 7 → hasB k 10 = false ∧ (ens k = true ↔ k = 12 ∨ k = 13) := by decide
theorem ed_plain {c : List Ic} {i : Nat} (hi : i < c.length) (h : Plain c i) (j : Nat) : Ed c i j ↔ j = i + 1 ∧ j < c.length ∧ ¬ Stop c i := by
  have hx : c[i]? = some c[i] := List.getElem?_eq_getElem hi
  obtain ⟨x, hx⟩ : ∃ x, c[i]? = some x := ⟨_, hx⟩
  unfold Plain Stop at *
  rw [kd_at hx] at *
  obtain ⟨h0, h1, h2, h3⟩ := h
  obtain ⟨e1, e2⟩ := has_ens x.k.toNat (by omega) (by omega) (by omega)
  have hn : nextM x i = if x.k = 13 ∨ x.k = 12 then [] else [(i : Int) + 1] := by
    unfold nextM
    rw [if_pos ⟨h0, h1⟩, e1, if_neg (by simp)]
    by_cases hs : x.k = 13 ∨ x.k = 12
    · rw [if_pos (e2.2 (by omega)), if_pos hs]
    · rw [if_neg (fun k => by have := e2.1 k; omega), if_neg hs]
      rfl
  unfold Ed outs
  rw [hx]
  simp only [hn]
  by_cases hs : x.k = 13 ∨ x.k = 12
  · rw [if_pos hs]
    simp [hs]
  · rw [if_neg hs]
    by_cases hb : (i : Int) + 1 < c.length
    · have hb2 : (0 : Int) ≤ (i : Int) + 1 := by omega
      simp only [List.filter_cons, List.filter_nil, hb, hb2, decide_true, Bool.and_self, if_true, List.map_cons, List.map_nil, List.mem_singleton]
      constructor
      · intro e; exact ⟨by omega, by omega, hs⟩
      · rintro ⟨e, _, _⟩; omega
    · simp only [List.filter_cons, List.filter_nil, hb, decide_false, Bool.and_false, Bool.false_eq_true, if_false, List.map_nil, List.not_mem_nil, false_iff]
      rintro ⟨e, h5, _⟩
      omega
/-- A code without branches, up to its first end. -/
structure Str (c : List Ic) (e : Nat) : Prop where
  pl : ∀ j, j < c.length → Plain c j
  lt : e < c.length
  no : ∀ j, j < e → ¬ Stop c j
  at' : Stop c e ∨ e + 1 = c.length
section
variable {c : List Ic} {e : Nat}
theorem Str.ed (h : Str c e) {i j : Nat} : Ed c i j → j = i + 1 ∧ j < c.length ∧ ¬ Stop c i := fun k => (ed_plain (out_of k).1 (h.pl i (out_of k).1) j).1 k
theorem Str.step (h : Str c e) {i : Nat} (hi : i < e) : Ed c i (i + 1) := (ed_plain (by have := h.lt; omega) (h.pl i (by have := h.lt; omega)) _).2 ⟨rfl, by have := h.lt; omega, h.no i hi⟩
theorem Str.way (h : Str c e) {A : Nat → Prop} : ∀ i, i ≤ e → (∀ j, j ≤ i → A j) → Gm.Way (Ed c) A 0 i := by
  intro i
  induction i with
  | zero => exact fun _ hA => .one (hA 0 (Nat.le_refl _))
  | succ i ih => exact fun hi hA => (ih (by omega) fun j hj => hA j (by omega)).snoc (h.step (by omega)) (hA _ (Nat.le_refl _))
theorem Str.rch (h : Str c e) {i : Nat} : Rch c i ↔ i ≤ e := by
  constructor
  · rintro ⟨_, k⟩
    refine k.closed (S := fun z => z ≤ e) (Nat.zero_le _) fun x y hx _ he _ => ?_
    obtain ⟨h1, h2, h3⟩ := h.ed he
    rcases h.at' with h4 | h4
    · by_cases ex : x = e
      · exact absurd h4 (ex ▸ h3)
      · omega
    · omega
  · intro hi
    exact ⟨fun e => by have := h.lt; rw [e] at this; exact absurd this (Nat.not_lt_zero _), h.way i hi fun _ _ => trivial⟩
theorem Str.way_le (h : Str c e) {A : Nat → Prop} {i j : Nat} (k : Gm.Way (Ed c) A i j) : i ≤ j ∧ ∀ z, i ≤ z → z ≤ j → A z := by
  induction k with
  | @one a ha => exact ⟨Nat.le_refl _, fun z h1 h2 => by rw [show z = a by omega]; exact ha⟩
  | @cons a b d ha e _ ih =>
    obtain ⟨h1, h2⟩ := ih
    have := (h.ed e).1
    refine ⟨by omega, fun z h3 h4 => ?_⟩
    by_cases ez : z = a
    · rw [ez]; exact ha
    · exact h2 z (by omega) h4
theorem Str.dmp (h : Str c e) {d i : Nat} : Dmp c d i ↔ d ≤ i ∧ i ≤ e := by
  unfold Dmp
  rw [h.rch]
  constructor
  · rintro ⟨h1, h2⟩
    refine ⟨Classical.byContradiction fun hd => h2 (h.way i h1 fun j hj => by omega), h1⟩
  · rintro ⟨h1, h2⟩
    exact ⟨h2, fun k => (h.way_le k).2 d (Nat.zero_le _) h1 rfl⟩
theorem Str.lpp (h : Str c e) {a i : Nat} : ¬ Lpp c a i := by
  rintro ⟨j, e1, _, d, _⟩
  have h1 := (h.ed e1).1
  have h2 := h.dmp.1 d
  omega
theorem Str.none (h : Str c e) : phs c = [] := by
  refine List.eq_nil_iff_forall_not_mem.2 fun i hi => ?_
  exact h.lpp (mem_phs.1 hi).2
theorem Str.flat (h : Str c e) (i : Nat) : dpt c i = 0 := by
  unfold dpt
  rw [h.none]
  rfl
/-- From where each place is come to: from the one ahead alone. -/
theorem Str.preds (h : Str c e) {i : Nat} {l : List Nat} (hu : l.Pairwise (fun x y => x < y)) (hm : ∀ t, t ∈ l ↔ Rch c t ∧ Ed c t i) : l = [] ∨ ∃ t, l = [t] ∧ t + 1 = i := by
  have h1 : ∀ t, t ∈ l → t + 1 = i := fun t ht => (h.ed ((hm t).1 ht).2).1.symm
  match l, hu, h1 with
  | [], _, _ => exact .inl rfl
  | [t], _, h1 => exact .inr ⟨t, rfl, h1 t (by simp)⟩
  | t :: u :: r, hu, h1 =>
    have h2 := h1 t (by simp)
    have h3 := h1 u (by simp)
    have h4 := (List.pairwise_cons.1 hu).1 u (by simp)
    omega
end
open Go Go.RowKit
theorem rows_nr {W X : World} {v : Value} {m : Nat} {T : Nat → Nat → Prop} (h : Rows2 W v m fun X i u => NR X u (T i)) (hb : Below W.heap.size W X) : Rows2 X v m fun X i u => NR X u (T i) := h.stay hb fun _ _ k => k.stay hb
theorem rows_br {W X : World} {v : Value} {m n : Nat} {T : Nat → Nat → Prop} (h : Rows2 W v m fun X i u => BR X u n (T i)) (hb : Below W.heap.size W X) : Rows2 X v m fun X i u => BR X u n (T i) := h.stay hb fun _ _ k => k.stay hb
theorem row_map {W : World} {v : Value} {n : Nat} {f : Nat → Nat} (h : RowIn W v ((List.range n).map f)) : ∃ q cq, v = .slice q n cq ∧ RV W q n (fun i => .int .i64 (f i : Int)) := by
  obtain ⟨q, cq, e, h⟩ := h
  rw [List.length_map, List.length_range] at e h
  exact ⟨q, cq, e, h.to fun i hi => by simp [lv, hi]⟩
/-- While kinds are looked at, from the end on. -/
structure Look (c : List Ic) (m E : Nat) : Prop where
  lt : E < c.length
  le : m ≤ E + 1
  pl : ∀ j, m ≤ j → j < c.length → Plain c j
  no : ∀ j, m ≤ j → j < E → ¬ Stop c j
  at' : Stop c E ∨ E + 1 = c.length
theorem Look.str {c : List Ic} {E : Nat} (h : Look c 0 E) : Str c E := ⟨fun j hj => h.pl j (Nat.zero_le _) hj, h.lt, fun j hj => h.no j (Nat.zero_le _) hj, h.at'⟩
theorem Look.stop {c : List Ic} {m E : Nat} (h : Look c (m + 1) E) (hm : m < c.length) (hp : Plain c m) (hs : Stop c m) : Look c m m :=
  ⟨hm, by omega, fun j h1 h2 => by
    by_cases e : j = m
    · rw [e]; exact hp
    · exact h.pl j (by omega) h2, fun j h1 h2 => by omega, .inl hs⟩
theorem Look.on {c : List Ic} {m E : Nat} (h : Look c (m + 1) E) (hm : m < c.length) (hp : Plain c m) (hs : ¬ Stop c m) : Look c m E :=
  ⟨h.lt, by have := h.le; omega, fun j h1 h2 => by
    by_cases e : j = m
    · rw [e]; exact hp
    · exact h.pl j (by omega) h2, fun j h1 h2 => by
    by_cases e : j = m
    · rw [e]; exact hs
    · exact h.no j (by omega) h2, h.at'⟩
end Go.Proofs.YtacgfjcdfgdpjaaDoor
