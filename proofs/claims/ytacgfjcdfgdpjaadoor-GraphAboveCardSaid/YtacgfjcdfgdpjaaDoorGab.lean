/- What follows of what is above what: plain mathematics. -/
import Derived.Test.YtacgfjcdfgdpjaaDoorGax
namespace Go.Proofs.YtacgfjcdfgdpjaaDoor
set_option linter.unusedSimpArgs false
set_option linter.unusedVariables false
open Gm

theorem dmp_zero {c : List Ic} {i : Nat} : Dmp c 0 i ↔ Rch c i := ⟨fun h => h.1, fun h => ⟨h, fun k => k.first rfl⟩⟩
theorem dmp_self {c : List Ic} {i : Nat} : Dmp c i i ↔ Rch c i := ⟨fun h => h.1, fun h => ⟨h, fun k => k.last rfl⟩⟩
theorem dmp_trans {c : List Ic} {i k j : Nat} (h : Dmp c k i) (g : Dmp c j k) : Dmp c j i := ⟨h.1, Dom.trans (E := Ed c) g.2 h.2⟩
/-- The first one of some on a way. -/
theorem way_until {E : Nat → Nat → Prop} {A P : Nat → Prop} {a b : Nat} (h : Gm.Way E A a b) (hb : P b) : ∃ z, P z ∧ Gm.Way E (fun w => w = z ∨ ¬ P w) a z := by
  induction h with
  | @one a ha => exact ⟨a, hb, .one (.inl rfl)⟩
  | @cons a p b ha e _ ih =>
    by_cases hp : P a
    · exact ⟨a, hp, .one (.inl rfl)⟩
    · obtain ⟨z, h1, h2⟩ := ih hb
      exact ⟨z, h1, .cons (.inr hp) e h2⟩
theorem dmp_anti {c : List Ic} {i k : Nat} (h : Dmp c k i) (g : Dmp c i k) : i = k := by
  refine Classical.byContradiction fun hne => ?_
  obtain ⟨z, hz, w⟩ := way_until (P := fun w => w = i ∨ w = k) h.1.2 (.inl rfl)
  rcases hz with rfl | rfl
  · refine h.2 (w.mono fun x hx e => ?_)
    rcases hx with hx | hx
    · omega
    · exact hx (.inr e)
  · refine g.2 (w.mono fun x hx e => ?_)
    rcases hx with hx | hx
    · omega
    · exact hx (.inl e)
theorem rch_pred {c : List Ic} {i : Nat} (hi : i ≠ 0) : Rch c i ↔ ∃ t, Rch c t ∧ Ed c t i := by
  constructor
  · rintro ⟨hc, h⟩
    have := h.closed (S := fun z => Rch c z ∧ (z = 0 ∨ ∃ t, Rch c t ∧ Ed c t z)) ⟨⟨hc, .one trivial⟩, .inl rfl⟩ fun x y hx _ e _ => ⟨⟨hc, hx.1.2.snoc e trivial⟩, .inr ⟨x, hx.1, e⟩⟩
    exact this.2.resolve_left hi
  · rintro ⟨t, h, e⟩
    exact ⟨h.1, h.2.snoc e trivial⟩
theorem rch_zero {c : List Ic} (h : 0 < c.length) : Rch c 0 := ⟨fun e => by rw [e] at h; exact absurd h (Nat.not_lt_zero _), .one trivial⟩
/-- The place from which a loop begins is above all of it. -/
theorem lpp_dmp {c : List Ic} {h t : Nat} (k : Lpp c h t) : Dmp c h t := by
  obtain ⟨j, e, r, d, k⟩ := k
  rcases k with rfl | ⟨r2, k⟩
  · exact dmp_self.2 ⟨r.1, r.2.snoc e trivial⟩
  · exact ⟨r2, fun w => d.2 (w.app k)⟩
open Go Go.RowKit
theorem rows_nr {W X : World} {v : Value} {m : Nat} {T : Nat → Nat → Prop} (h : Rows2 W v m fun X i u => NR X u (T i)) (hb : Below W.heap.size W X) : Rows2 X v m fun X i u => NR X u (T i) := h.stay hb fun _ _ k => k.stay hb
theorem rows_br {W X : World} {v : Value} {m n : Nat} {T : Nat → Nat → Prop} (h : Rows2 W v m fun X i u => BR X u n (T i)) (hb : Below W.heap.size W X) : Rows2 X v m fun X i u => BR X u n (T i) := h.stay hb fun _ _ k => k.stay hb
theorem br_to {W : World} {v : Value} {n : Nat} {T : Nat → Prop} (h : BR W v n T) : ∃ q cap g, v = .slice q n cap ∧ RV W q n (bv g) ∧ ∀ j, j < n → (g j = true ↔ T j) := h
theorem bool_is {b : Bool} {P : Prop} (h : b = true ↔ P) : (P → b = true) ∧ (¬ P → b = false) := ⟨h.2, fun n => Bool.eq_false_iff.2 fun e => n (h.1 e)⟩
end Go.Proofs.YtacgfjcdfgdpjaaDoor
