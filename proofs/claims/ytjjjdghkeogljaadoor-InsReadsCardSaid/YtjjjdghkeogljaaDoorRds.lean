/- What InsReads asks of the numbers, and when two instructions are one. -/
import Derived.Test.YtjjjdghkeogljaaDoorAwB
import Derived.Test.YtjjjdghkeogljaaDoorStm
import Derived.Test.YtjjjdghkeogljaaDoorOrI
import Derived.Test.YtjjjdghkeogljaaDoorSam
import Derived.Laws.StructEq
namespace Go.Proofs.YtjjjdghkeogljaaDoor
set_option linter.unusedSimpArgs false
set_option linter.unusedVariables false
open Go Go.RowKit Go.WideShapes
theorem below_box (W : World) (o o' : Obj) : Below W.heap.size W ((W.alloc o).alloc o') := ((Below.refl _ _).alloc (Nat.le_refl _) _).alloc (by simp) _
def ownB (l : List Int) (d : Int) (j : Nat) : Bool := (l.take j).any fun y => y == d
theorem ownB_step {l : List Int} {d y : Int} {j : Nat} (h : l[j]? = some y) : ownB l d (j + 1) = (ownB l d j || y == d) := by
  unfold ownB
  rw [List.take_add_one, h]
  simp
theorem own_pick {x : Ic} (hk : x.k = 3) (hd : 0 ≤ x.d) : ownB (usesM x) x.d (usesM x).length = true := by
  unfold ownB
  rw [List.take_length, List.any_eq_true]
  refine ⟨x.d, ?_, by simp⟩
  unfold usesM
  rw [if_pos (by omega)]
  unfold pos
  rw [List.mem_filter]
  refine ⟨mem_srt.2 ?_, by simp; omega⟩
  have e : kps x.k.toNat = true := by rw [hk]; rfl
  rw [e]
  simp
theorem uses_up (x : Ic) : Up (usesM x) := by
  unfold usesM
  split
  · exact up_filter _ (up_srt _)
  · exact List.Pairwise.nil
theorem uses_pos {x : Ic} {y : Int} (h : y ∈ usesM x) : 0 ≤ y := by
  unfold usesM at h
  split at h
  · unfold pos at h
    have := (List.mem_filter.1 h).2
    simp at this
    exact this
  · cases h
theorem bare_uses {x : Ic} (h : x.k = 6 ∨ x.k = 8 ∨ x.k = 13 ∨ x.k = 12 ∨ x.k = 9 ∨ x.k = 10) : usesM x = [] ∧ defM x = -1 := by
  have hk : 0 ≤ x.k ∧ x.k ≤ 13 := by omega
  have key : ∀ j, j = 6 ∨ j = 8 ∨ j = 13 ∨ j = 12 ∨ j = 9 ∨ j = 10 → kps j = false ∧ (List.range 4).any (fun i => prt j i == 2 || prt j i == 3) = false ∧ (List.range 4).any (fun i => prt j i == 4) = false ∧ hasB j 1 = false := by
    intro j hj
    rcases hj with rfl | rfl | rfl | rfl | rfl | rfl <;> decide
  obtain ⟨e1, e2, e3, e4⟩ := key x.k.toNat (by omega)
  unfold usesM defM aTo bTo
  rw [if_pos hk, if_pos hk, e1, e2, e3, e4]
  refine ⟨?_, rfl⟩
  simp only [Bool.false_eq_true, if_false]
  decide
theorem up_at {l : List Int} (h : Up l) {i : Nat} {y z : Int} (hz : l[i]? = some z) (hy : l[i + 1]? = some y) : z < y := by
  obtain ⟨h1, e1⟩ := List.getElem?_eq_some_iff.1 hz
  obtain ⟨h2, e2⟩ := List.getElem?_eq_some_iff.1 hy
  have := List.pairwise_iff_getElem.1 h i (i + 1) h1 h2 (by omega)
  rw [e1, e2] at this
  exact this
def hh : Ic := ⟨13, 0, 0, 0, 0, 0, 0⟩
theorem ok_hh : Ok6 hh := by unfold Ok6 In6 hh; decide
theorem code_of {X : World} {g : Nat} (x : Ic) (hx : Ok6 x) (h : X.heap[g]? = some (.cells #[.int .i64 x.k, .int .i64 x.o, .int .i64 x.d, .int .i64 x.a, .int .i64 x.b, .int .i64 x.n, .int .i64 x.t, .int .i64 13, .int .i64 0, .int .i64 0, .int .i64 0, .int .i64 0, .int .i64 0, .int .i64 0] 23 (0, 0))) : CodeAt X (some ⟨g, 0, none⟩) [x, hh] := by
  have hg := (Array.getElem?_eq_some_iff.1 h).1
  intro i z hz
  match i, hz with
  | 0, hz =>
    cases hz
    refine ⟨g, 0, rfl, hg, ⟨?_, ?_, ?_, ?_, ?_, ?_, ?_⟩, hx⟩ <;> rw [cell_of_row _ _ _ _ _ _ h] <;> rfl
  | 1, hz =>
    cases hz
    refine ⟨g, 0, rfl, hg, ⟨?_, ?_, ?_, ?_, ?_, ?_, ?_⟩, ok_hh⟩ <;> rw [cell_of_row _ _ _ _ _ _ h] <;> rfl
  | k + 2, hz => simp at hz
theorem uses_is {x : Ic} {l : List Int} (e : usesM x = l) (w : World) (T : Kinds w) : Calls Tryd.prog 9 #[.agg #[.int .i64 x.k, .int .i64 x.o, .int .i64 x.d, .int .i64 x.a, .int .i64 x.b, .int .i64 x.n, .int .i64 x.t]] w (RowP w l) := e ▸ uses_any x w T
theorem def_is {x : Ic} {d : Int} (e : defM x = d) (w : World) (T : Kinds w) : Calls Tryd.prog 11 #[.agg #[.int .i64 x.k, .int .i64 x.o, .int .i64 x.d, .int .i64 x.a, .int .i64 x.b, .int .i64 x.n, .int .i64 x.t]] w fun e w' => e = .returned (.int .i64 d) ∧ Below w.heap.size w w' := e ▸ def_any x w T
def eqB (x y : Ic) : Bool := x.k == y.k && x.o == y.o && x.d == y.d && x.a == y.a && x.b == y.b && x.n == y.n && x.t == y.t
theorem eqB_iff {x y : Ic} : eqB x y = true ↔ x = y := by
  obtain ⟨k, o, d, a, b, n, t⟩ := x
  obtain ⟨k', o', d', a', b', n', t'⟩ := y
  simp [eqB, and_assoc]
theorem if_ne {x y : Ic} (h : eqB x y = false) {α : Type} (p q : α) : (if x.k = y.k then if x.o = y.o then if x.d = y.d then if x.a = y.a then if x.b = y.b then if x.n = y.n then if x.t = y.t then p else q else q else q else q else q else q else q) = q := by
  obtain ⟨k, o, d, a, b, n, t⟩ := x
  obtain ⟨k', o', d', a', b', n', t'⟩ := y
  simp only [eqB] at h
  (repeat' split) <;> simp_all
theorem eql_ins (x y : Ic) (b : Bool) (h : eqB x y = b) (xo yo : Operand) (w : World) : (do eqGuard .eql 23 xo yo (.agg #[.int .i64 x.k, .int .i64 x.o, .int .i64 x.d, .int .i64 x.a, .int .i64 x.b, .int .i64 x.n, .int .i64 x.t]) (.agg #[.int .i64 y.k, .int .i64 y.o, .int .i64 y.d, .int .i64 y.a, .int .i64 y.b, .int .i64 y.n, .int .i64 y.t]); binOp .eql 23 (.agg #[.int .i64 x.k, .int .i64 x.o, .int .i64 x.d, .int .i64 x.a, .int .i64 x.b, .int .i64 x.n, .int .i64 x.t]) (.agg #[.int .i64 y.k, .int .i64 y.o, .int .i64 y.d, .int .i64 y.a, .int .i64 y.b, .int .i64 y.n, .int .i64 y.t]) : Sem Value).run Tryd.prog w = .ok (.bool b) w := by
  subst h
  obtain ⟨k, o, d, a, b, n, t⟩ := x
  obtain ⟨k', o', d', a', b', n', t'⟩ := y
  unfold eqB
  go_simp
  (repeat' split) <;> simp_all
end Go.Proofs.YtjjjdghkeogljaaDoor
