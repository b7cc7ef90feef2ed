/- What follows of how turns are told: plainly, no program. -/
import Derived.Test.YtnmalhjhfddjpaaSaw
namespace Go.Proofs.Ytnmalhjhfddjpaa
set_option linter.unusedSimpArgs false
set_option linter.unusedVariables false
open Go Go.RowKit

theorem doM_what (t : Int) (i : Ic) (x : S1) : (doM t i x).2.what = 0 ∨ (doM t i x).2.what = 1 := by
  by_cases q0 : i.k = 0
  · simp [doM, q0, S1.on, S1.to, S1.did, S1.fin, S1.set, goes]
  by_cases q1 : i.k = 1
  · simp [doM, q1, S1.on, S1.to, S1.did, S1.fin, S1.set, goes]
  by_cases q2 : i.k = 2
  · simp [doM, q2, S1.on, S1.to, S1.did, S1.fin, S1.set, goes]
  by_cases q3 : i.k = 3
  · by_cases e : x.regs i.a = 0 <;> simp [doM, q3, e, S1.on, S1.to, S1.did, S1.fin, S1.set, goes]
  by_cases q4 : i.k = 4
  · simp [doM, q4, S1.on, S1.to, S1.did, S1.fin, S1.set, goes]
  by_cases q5 : i.k = 5
  · simp [doM, q5, S1.on, S1.to, S1.did, S1.fin, S1.set, goes]
  by_cases q6 : i.k = 6
  · simp [doM, q6, S1.on, S1.to, S1.did, S1.fin, S1.set, goes]
  by_cases q7 : i.k = 7
  · by_cases e : x.regs i.a = 0 <;> simp [doM, q7, e, S1.on, S1.to, S1.did, S1.fin, S1.set, goes]
  by_cases q9 : i.k = 9
  · by_cases e : x.own i.n = -1 <;> simp [doM, q9, e, S1.on, S1.to, S1.did, S1.fin, S1.set, goes]
  by_cases q10 : i.k = 10
  · simp [doM, q10, S1.on, S1.to, S1.did, S1.fin, S1.set, goes]
  by_cases q11 : i.k = 11
  · simp [doM, q11, S1.on, S1.to, S1.did, S1.fin, S1.set, goes]
  by_cases q12 : i.k = 12
  · simp [doM, q12, S1.on, S1.to, S1.did, S1.fin, S1.set, goes]
  by_cases q13 : i.k = 13
  · simp [doM, q13, S1.on, S1.to, S1.did, S1.fin, S1.set, goes]
  · have e : ∀ z : S1, doM t i z = z.on := fun z => by
      unfold doM
      repeat rw [if_neg (by omega)]
    rw [e]
    exact .inl rfl
theorem doM_over (t : Int) (i : Ic) (x : S1) (h : (doM t i x).2.fin = false) : (doM t i x).1.over = x.over := by
  by_cases q0 : i.k = 0
  · simp [doM, q0, S1.on, S1.to, S1.did, S1.fin, S1.set, goes] at h ⊢
  by_cases q1 : i.k = 1
  · simp [doM, q1, S1.on, S1.to, S1.did, S1.fin, S1.set, goes] at h ⊢
  by_cases q2 : i.k = 2
  · simp [doM, q2, S1.on, S1.to, S1.did, S1.fin, S1.set, goes] at h ⊢
  by_cases q3 : i.k = 3
  · by_cases e : x.regs i.a = 0 <;> simp [doM, q3, e, S1.on, S1.to, S1.did, S1.fin, S1.set, goes] at h ⊢
  by_cases q4 : i.k = 4
  · simp [doM, q4, S1.on, S1.to, S1.did, S1.fin, S1.set, goes] at h ⊢
  by_cases q5 : i.k = 5
  · simp [doM, q5, S1.on, S1.to, S1.did, S1.fin, S1.set, goes] at h ⊢
  by_cases q6 : i.k = 6
  · simp [doM, q6, S1.on, S1.to, S1.did, S1.fin, S1.set, goes] at h ⊢
  by_cases q7 : i.k = 7
  · by_cases e : x.regs i.a = 0 <;> simp [doM, q7, e, S1.on, S1.to, S1.did, S1.fin, S1.set, goes] at h ⊢
  by_cases q9 : i.k = 9
  · by_cases e : x.own i.n = -1 <;> simp [doM, q9, e, S1.on, S1.to, S1.did, S1.fin, S1.set, goes] at h ⊢
  by_cases q10 : i.k = 10
  · simp [doM, q10, S1.on, S1.to, S1.did, S1.fin, S1.set, goes] at h ⊢
  by_cases q11 : i.k = 11
  · simp [doM, q11, S1.on, S1.to, S1.did, S1.fin, S1.set, goes] at h ⊢
  by_cases q12 : i.k = 12
  · simp [doM, q12, S1.on, S1.to, S1.did, S1.fin, S1.set, goes] at h ⊢
  by_cases q13 : i.k = 13
  · simp [doM, q13, S1.on, S1.to, S1.did, S1.fin, S1.set, goes] at h ⊢
  · have e : ∀ z : S1, doM t i z = z.on := fun z => by
      unfold doM
      repeat rw [if_neg (by omega)]
    rw [e]
    rfl
theorem turn_succ (t : Int) (c : List Ic) (f : Nat) (x : S1) : turnM t c (f + 1) x = if (stepM t c x).2.fin then stepM t c x else turnM t c f (stepM t c x).1 := rfl
theorem turn_what (t : Int) (c : List Ic) : ∀ (f : Nat) (x : S1), (turnM t c f x).2.what = 0 ∨ (turnM t c f x).2.what = 1 ∨ (turnM t c f x).2.what = 3
  | 0, x => .inr (.inr rfl)
  | f + 1, x => by
    unfold turnM
    split
    · rcases doM_what t (aheadM c x.pc) x with h | h
      · exact .inl h
      · exact .inr (.inl h)
    · exact turn_what t c f _
theorem turn_split (t : Int) (c : List Ic) (m : Nat) : ∀ (f : Nat) (x : S1), (turnM t c f x).2.what = 3 → turnM t c (f + m) x = turnM t c m (turnM t c f x).1 ∧ (turnM t c f x).1.over = x.over
  | 0, x, _ => by
    rw [Nat.zero_add]
    exact ⟨rfl, rfl⟩
  | f + 1, x, h => by
    rw [show f + 1 + m = (f + m) + 1 by omega]
    rw [turn_succ] at h
    simp only [turn_succ]
    cases hf : (stepM t c x).2.fin with
    | true =>
      rw [hf] at h
      simp only [if_true] at h
      have := doM_what t (aheadM c x.pc) x
      unfold stepM at h
      omega
    | false =>
      rw [hf] at h
      simp only [Bool.false_eq_true, if_false] at h ⊢
      have := turn_split t c m f _ h
      exact ⟨this.1, this.2.trans (doM_over t _ x hf)⟩
theorem turn_more (t : Int) (c : List Ic) (m : Nat) : ∀ (f : Nat) (x : S1), (turnM t c f x).2.what ≠ 3 → turnM t c (f + m) x = turnM t c f x
  | 0, x, h => absurd rfl h
  | f + 1, x, h => by
    rw [show f + 1 + m = (f + m) + 1 by omega]
    rw [turn_succ] at h
    simp only [turn_succ]
    cases hf : (stepM t c x).2.fin with
    | true => simp
    | false =>
      rw [hf] at h
      simp only [Bool.false_eq_true, if_false] at h ⊢
      exact turn_more t c m f _ h
theorem put_put (g : G) (k : Nat) (x y : S1) : (g.put k x).put k y = g.put k y := by simp [G.put]
theorem put_same {g : G} {k : Nat} {x : T1} (h : g.ts[k]? = some x) : g.put k (g.s1 x) = g := by
  obtain ⟨hk, rfl⟩ := List.getElem?_eq_some_iff.1 h
  obtain ⟨ts, mem, own⟩ := g
  show G.mk (ts.set k ts[k]) mem own = _
  rw [List.set_getElem_self]
theorem put_at {g : G} {k : Nat} {x : T1} (h : g.ts[k]? = some x) (y : S1) : (g.put k y).ts[k]? = some ⟨y.pc, y.over, y.regs⟩ ∧ (g.put k y).s1 ⟨y.pc, y.over, y.regs⟩ = y := by
  obtain ⟨hk, rfl⟩ := List.getElem?_eq_some_iff.1 h
  simp [G.put, G.s1, hk]
/-- What is tired goes on as if it hadn't been. -/
theorem rest_tired {cs : List (List Ic)} {n f m : Int} {g : G} (hf : 0 ≤ f) (hm : 0 ≤ m) (h : (nextC cs n f g).2.what = 3) : nextC cs n m (nextC cs n f g).1 = nextC cs n (f + m) g := by
  unfold nextC at h ⊢
  split
  · rename_i h0
    rw [if_pos h0] at h
    have e : (f + m).toNat = f.toNat + m.toNat := by omega
    cases hc : cs[n.toNat]? with
    | none =>
      (rw [hc] at h) <;> simp at h
    | some c =>
      cases hx : g.ts[n.toNat]? with
      | none =>
        (rw [hc, hx] at h) <;> simp at h
      | some x =>
        rw [hc, hx] at h
        simp only at h ⊢
        cases ho : x.over with
        | true =>
          rw [ho] at h
          simp at h
        | false =>
          rw [ho] at h
          simp only [Bool.false_eq_true, if_false] at h ⊢
          obtain ⟨h1, h2⟩ := turn_split n c m.toNat f.toNat (g.s1 x) h
          obtain ⟨h3, h4⟩ := put_at hx (turnM n c f.toNat (g.s1 x)).1
          rw [h3]
          simp only
          have h5 : (turnM n c f.toNat (g.s1 x)).1.over = false := h2.trans ho
          rw [h5] at h4 ⊢
          simp only [Bool.false_eq_true, if_false]
          rw [h4, e, h1, put_put]
  · rename_i h0
    (rw [if_neg h0] at h) <;> simp at h
theorem rest_not {cs : List (List Ic)} {n f m : Int} {g : G} (hf : 0 ≤ f) (hm : 0 ≤ m) (h : (nextC cs n f g).2.what ≠ 3) : nextC cs n (f + m) g = nextC cs n f g := by
  unfold nextC at h ⊢
  split
  · rename_i h0
    rw [if_pos h0] at h
    have e : (f + m).toNat = f.toNat + m.toNat := by omega
    cases hc : cs[n.toNat]? with
    | none => rfl
    | some c =>
      cases hx : g.ts[n.toNat]? with
      | none => rfl
      | some x =>
        rw [hc, hx] at h
        simp only at h ⊢
        cases ho : x.over with
        | true => rfl
        | false =>
          rw [ho] at h
          simp only [Bool.false_eq_true, if_false] at h ⊢
          rw [e, turn_more n c m.toNat f.toNat (g.s1 x) h]
  · rfl
/-- Without fuel, of no thread, or behind the end nothing is changed. -/
theorem still_g {cs : List (List Ic)} {n f : Int} {g : G} (h : f ≤ 0 ∨ (nextC cs n f g).2.what = 2) : (nextC cs n f g).1 = g ∧ (nextC cs n f g).2.ek = 0 ∧ (nextC cs n f g).2.et = 0 ∧ (nextC cs n f g).2.en = 0 ∧ ((nextC cs n f g).2.what = 2 ∨ (nextC cs n f g).2.what = 3) := by
  unfold nextC at h ⊢
  split
  · rename_i h0
    rw [if_pos h0] at h
    cases hc : cs[n.toNat]? with
    | none => exact ⟨rfl, rfl, rfl, rfl, .inl rfl⟩
    | some c =>
      cases hx : g.ts[n.toNat]? with
      | none => exact ⟨rfl, rfl, rfl, rfl, .inl rfl⟩
      | some x =>
        rw [hc, hx] at h
        simp only at h ⊢
        cases ho : x.over with
        | true => exact ⟨rfl, rfl, rfl, rfl, .inl rfl⟩
        | false =>
          rw [ho] at h
          simp only [Bool.false_eq_true, if_false] at h ⊢
          rcases h with h | h
          · rw [show f.toNat = 0 by omega]
            exact ⟨put_same hx, rfl, rfl, rfl, .inr rfl⟩
          · have := turn_what n c f.toNat (g.s1 x)
            omega
  · exact ⟨rfl, rfl, rfl, rfl, .inl rfl⟩
theorem next_ts {cs : List (List Ic)} {n f : Int} {g : G} {j : Nat} (h : (j : Int) ≠ n) : (nextC cs n f g).1.ts[j]? = g.ts[j]? := by
  unfold nextC
  split
  · rename_i h0
    cases hc : cs[n.toNat]? with
    | none => rfl
    | some c =>
      cases hx : g.ts[n.toNat]? with
      | none => rfl
      | some x =>
        simp only
        split
        · rfl
        · simp only [G.put]
          rw [List.getElem?_set_ne (by omega)]
  · rfl
/-- One thread's turn changes no other thread's place and registers. -/
theorem other_g {cs : List (List Ic)} {n f j : Int} {g : G} (hj : 0 ≤ j) (h : j ≠ n) : placeG (nextC cs n f g).1 j = placeG g j ∧ ∀ q, regG (nextC cs n f g).1 j q = regG g j q := by
  obtain ⟨k, rfl⟩ : ∃ k : Nat, j = (k : Int) := ⟨j.toNat, by omega⟩
  unfold placeG regG
  simp [if_pos hj, Int.toNat_natCast, next_ts h]
/-- A code that uses no memory and no lock. -/
def AloneC (c : List Ic) : Prop := ∀ x ∈ c, x.k ≠ 4 ∧ x.k ≠ 5 ∧ x.k ≠ 9 ∧ x.k ≠ 10
def Agree (x y : S1) : Prop := x.pc = y.pc ∧ x.over = y.over ∧ x.regs = y.regs
theorem do_alone (t : Int) {i : Ic} (hi : i.k ≠ 4 ∧ i.k ≠ 5 ∧ i.k ≠ 9 ∧ i.k ≠ 10) {x y : S1} (h : Agree x y) : Agree (doM t i x).1 (doM t i y).1 ∧ (doM t i x).2 = (doM t i y).2 := by
  obtain ⟨a, b, c, d, e⟩ := x
  obtain ⟨a', b', c', d', e'⟩ := y
  obtain ⟨h1, h2, h3⟩ := h
  simp only at h1 h2 h3
  subst h1 h2 h3
  by_cases q0 : i.k = 0
  · simp [doM, q0, Agree, S1.on, S1.to, S1.did, S1.fin, S1.set, goes]
  by_cases q1 : i.k = 1
  · simp [doM, q1, Agree, S1.on, S1.to, S1.did, S1.fin, S1.set, goes]
  by_cases q2 : i.k = 2
  · simp [doM, q2, Agree, S1.on, S1.to, S1.did, S1.fin, S1.set, goes]
  by_cases q3 : i.k = 3
  · by_cases e : c i.a = 0 <;> simp [doM, q3, e, Agree, S1.on, S1.to, S1.did, S1.fin, S1.set, goes]
  by_cases q6 : i.k = 6
  · simp [doM, q6, Agree, S1.on, S1.to, S1.did, S1.fin, S1.set, goes]
  by_cases q7 : i.k = 7
  · by_cases e : c i.a = 0 <;> simp [doM, q7, e, Agree, S1.on, S1.to, S1.did, S1.fin, S1.set, goes]
  by_cases q11 : i.k = 11
  · simp [doM, q11, Agree, S1.on, S1.to, S1.did, S1.fin, S1.set, goes]
  by_cases q12 : i.k = 12
  · simp [doM, q12, Agree, S1.on, S1.to, S1.did, S1.fin, S1.set, goes]
  by_cases q13 : i.k = 13
  · simp [doM, q13, Agree, S1.on, S1.to, S1.did, S1.fin, S1.set, goes]
  · have e : ∀ z : S1, doM t i z = z.on := fun z => by
      unfold doM
      repeat rw [if_neg (by omega)]
    rw [e, e]
    exact ⟨⟨rfl, rfl, rfl⟩, rfl⟩
theorem ahead_alone {c : List Ic} (h : AloneC c) (q : Int) : (aheadM c q).k ≠ 4 ∧ (aheadM c q).k ≠ 5 ∧ (aheadM c q).k ≠ 9 ∧ (aheadM c q).k ≠ 10 := by
  have h0 : (13 : Int) ≠ 4 ∧ (13 : Int) ≠ 5 ∧ (13 : Int) ≠ 9 ∧ (13 : Int) ≠ 10 := by decide
  unfold aheadM
  split
  · rw [List.getD_eq_getElem?_getD]
    cases hx : c[q.toNat]? with
    | none => exact h0
    | some x => exact h x (List.mem_of_getElem? hx)
  · exact h0
theorem turn_alone (t : Int) {c : List Ic} (hc : AloneC c) : ∀ (f : Nat) {x y : S1}, Agree x y → Agree (turnM t c f x).1 (turnM t c f y).1 ∧ (turnM t c f x).2 = (turnM t c f y).2
  | 0, x, y, h => ⟨h, rfl⟩
  | f + 1, x, y, h => by
    have h1 : Agree (stepM t c x).1 (stepM t c y).1 ∧ (stepM t c x).2 = (stepM t c y).2 := by
      unfold stepM
      rw [h.1]
      exact do_alone t (ahead_alone hc y.pc) h
    unfold turnM
    rw [h1.2]
    split
    · exact h1
    · exact turn_alone t hc f h1.1
/-- The first thread does the same in both runs. -/
theorem next_alone {cs : List (List Ic)} {c : List Ic} (h0 : cs[0]? = some c) (hc : AloneC c) {f : Int} {ga gb : G} (h : ga.ts[0]? = gb.ts[0]?) : (nextC cs 0 f ga).1.ts[0]? = (nextC [c] 0 f gb).1.ts[0]? ∧ (nextC cs 0 f ga).2 = (nextC [c] 0 f gb).2 := by
  unfold nextC
  rw [if_pos (Int.le_refl 0), if_pos (Int.le_refl 0), show (0 : Int).toNat = 0 from rfl, h0, h]
  cases hx : gb.ts[0]? with
  | none => exact ⟨by simp [h, hx], rfl⟩
  | some x =>
    simp only [List.getElem?_cons_zero]
    split
    · exact ⟨by simp [h, hx], rfl⟩
    · obtain ⟨h1, h2⟩ := turn_alone 0 hc f.toNat (x := ga.s1 x) (y := gb.s1 x) ⟨rfl, rfl, rfl⟩
      have h3 := (put_at (h.trans hx) (turnM 0 c f.toNat (ga.s1 x)).1).1
      have h4 := (put_at hx (turnM 0 c f.toNat (gb.s1 x)).1).1
      refine ⟨?_, h2⟩
      rw [h3, h4, h1.1, h1.2.1, h1.2.2]
end Go.Proofs.Ytnmalhjhfddjpaa
