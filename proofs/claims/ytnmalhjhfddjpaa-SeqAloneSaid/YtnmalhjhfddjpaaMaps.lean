/- A map of functions that a call makes: an entry of a literal put into it, and a look-up in it with the answer whether it is there. -/
import Derived.Maps.OwnSet
import Derived.WalkKit
namespace Go.Proofs.Ytnmalhjhfddjpaa
set_option linter.unusedSimpArgs false
set_option linter.unusedVariables false
open Go Go.ChangeMaps Go.MapKept Go.WideElems Go.Maps

/-- How a function reads: by its number; nil reads as nothing. -/
def fnElem : Value → Option (DataW Unit × List MemPlace)
  | .func (.func n) fs cs => if fs.size = 0 ∧ cs.size = 0 then some (.lit (.int .i64 n), []) else none
  | .nilFunc => some (.nil, [])
  | _ => none

theorem fnElem_mk (n : Nat) : fnElem (.func (.func n) #[] #[]) = some (.lit (.int .i64 n), []) := by simp [fnElem]

theorem fnElem_inv {v : Value} {n : Nat} {ps : List MemPlace} (h : fnElem v = some (.lit (.int .i64 n), ps)) : v = .func (.func n) #[] #[] := by
  unfold fnElem at h
  split at h
  · rename_i m fs cs
    split at h
    · rename_i hc
      simp at h
      obtain ⟨h1, h2⟩ := hc
      have e1 : fs = #[] := Array.eq_empty_of_size_eq_zero h1
      have e2 : cs = #[] := Array.eq_empty_of_size_eq_zero h2
      have e3 : m = n := Int.ofNat.inj h.1
      rw [e1, e2, e3]
    · cases h
  · cases h
  · cases h

/-- An entry of a map's literal: as a store into it. -/
theorem wpList_insert_own {H : Type} {P : Program} (w : World) {ops : Array Oper} {rest : List Oper} {o : Oper} {a : Act} {Q : Exit → Act → World → Prop}
    (hg : o.guard = none) (m x v : Operand) (t : TypeId) (hop : o.op = Op.insert t m x v)
    (k e : TypeId) (K : Keyed P k) (ht : P.underlying t = some (.map k e)) (R : Value → Option (DataW H × List MemPlace)) (b n : Nat) (D : DataW H)
    (hm : a.eval m = .map (some b)) (hown : w.ownsMap P k R b n D) (hn : n < maxLen) (key val : Value) (kl : Lit) (hx : a.eval x = key) (hv : a.eval v = val) (hkey : keyOf P k key = some kl)
    (d : DataW H) (ps : List MemPlace) (hval : R val = some (d, ps))
    (hK : ∀ w', w'.ownsMap P k R b (n + 1) (D.put kl d) → w.grownBy w' (some b) → wpList P ops Q rest (a.put o.dst undef) w') :
    wpList P ops Q (o :: rest) a w := by
  refine wpList_plain hg fun K' hK' => ?_
  obtain ⟨w', hrun, r1, r2⟩ := hown.update K ht hn hkey hval
  unfold Oper.wp
  simp [execOp, hop, hm, hx, hv, hrun, Result.andThen]
  exact hK' _ _ (hK w' r1 r2)

/-- What the map reads as at a key tells what a look-up answers. -/
theorem look_fn {P : Program} {k e t : TypeId} {w : World} {b n : Nat} {D : DataW Unit} (h : w.ownsMap P k fnElem b n D) (K : Keyed P k) (ht : P.underlying t = some (.map k e))
    (hz : (zeroValue e).run P w = .ok .nilFunc w) {key : Value} {kl : Lit} (hkey : keyOf P k key = some kl) :
    (∀ g : Nat, D.atKey kl .nil = .lit (.int .i64 g) → (Instr.lookup t (.map (some b)) key true).run P w = .ok (.tuple #[.func (.func g) #[] #[], .bool true]) w) ∧
    ((∀ d : DataW Unit, D.atKey kl d = d) → (Instr.lookup t (.map (some b)) key true).run P w = .ok (.tuple #[.nilFunc, .bool false]) w) := by
  obtain ⟨es, clock, hb, F, _, rfl⟩ := h
  rcases Maps.fit_look true K ht hz hb F hkey with ⟨hrun, _, hat⟩ | ⟨e0, y, _, _, hrun, hRv, hat, _⟩
  · refine ⟨fun g hg => ?_, fun _ => by simpa using hrun⟩
    rw [hat .nil] at hg
    cases hg
  · refine ⟨fun g hg => ?_, fun hd => ?_⟩
    · rw [hat .nil] at hg
      obtain ⟨y1, y2⟩ := y
      simp only at hg
      subst hg
      have := fnElem_inv hRv
      simpa [this] using hrun
    · have h1 := hat .nil
      have h2 := hat (.lit (.int .i64 0))
      rw [hd] at h1 h2
      rw [← h1] at h2
      cases h2
end Go.Proofs.Ytnmalhjhfddjpaa
