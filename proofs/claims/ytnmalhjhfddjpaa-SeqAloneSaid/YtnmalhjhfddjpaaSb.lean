/- What a call leaves as it was; blocks of an instruction, an event, a thread, a run; maps as functions from numbers. -/
import Derived.Test.YtnmalhjhfddjpaaEval
import Derived.WalkKit
import Derived.WalkSmall
import Derived.Maps.AppendAt
import Derived.Maps.Range
import Derived.Maps.OwnSet
import Derived.Lib.Hide
namespace Go.Proofs.Ytnmalhjhfddjpaa
set_option linter.unusedSimpArgs false
set_option linter.unusedVariables false
open Go Go.RowKit Go.ChangeMaps Go.MapKept Go.WideElems Go.Maps

/-- All old blocks stand as they stood, but for those of S. -/
structure Ch (S : Nat → Prop) (W X : World) : Prop where
  os : X.os = W.os
  tape : X.tape = W.tape
  output : X.output = W.output
  size : W.heap.size ≤ X.heap.size
  block : ∀ k, k < W.heap.size → ¬ S k → X.heap[k]? = W.heap[k]?
section
variable {S T : Nat → Prop} {W X Y : World}
theorem Ch.refl (S : Nat → Prop) (W : World) : Ch S W W := ⟨rfl, rfl, rfl, Nat.le_refl _, fun _ _ _ => rfl⟩
theorem Ch.trans (h : Ch S W X) (k : Ch S X Y) : Ch S W Y :=
  ⟨k.os.trans h.os, k.tape.trans h.tape, k.output.trans h.output, Nat.le_trans h.size k.size, fun i hi hn => (k.block i (Nat.lt_of_lt_of_le hi h.size) hn).trans (h.block i hi hn)⟩
theorem Ch.of (h : Below W.heap.size W X) : Ch S W X := ⟨h.os, h.tape, h.output, h.size, fun k hk _ => h.block k hk⟩
theorem Ch.alloc (h : Ch S W X) (o : Obj) : Ch S W (X.alloc o) := h.trans (.of ((Below.refl _ _).alloc (Nat.le_refl _) o))
theorem Ch.drewN (h : Ch S W X) (n : Nat) : Ch S W (X.drewN n) := h.trans ⟨rfl, rfl, rfl, Nat.le_refl _, fun _ _ _ => rfl⟩
theorem Ch.drew (h : Ch S W X) : Ch S W X.drew := h.trans ⟨rfl, rfl, rfl, Nat.le_refl _, fun _ _ _ => rfl⟩
theorem Ch.stepB (h : Ch S W X) (k : Below X.heap.size X Y) : Ch S W Y := h.trans (.of k)
theorem Ch.set (h : Ch S W X) {b : Nat} (hb : S b ∨ W.heap.size ≤ b) (o : Nat) (v : Value) : Ch S W (X.setCell ⟨b, o, none⟩ v) := by
  refine ⟨h.os, h.tape, h.output, by simp [World.setCell]; exact h.size, fun k hk hn => ?_⟩
  rw [heap_setCell_other X ⟨b, o, none⟩ k v (by
    rintro rfl
    rcases hb with hb | hb
    · exact hn hb
    · exact absurd hk (by simpa using hb))]
  exact h.block k hk hn
theorem Ch.grown (h : Ch S W X) {b : Nat} (k : X.grownBy Y (some b)) (hb : S b ∨ W.heap.size ≤ b) : Ch S W Y :=
  ⟨k.os.trans h.os, k.tape.trans h.tape, k.output.trans h.output, Nat.le_trans h.size k.size, fun i hi hn => (k.block i (Nat.lt_of_lt_of_le hi h.size) (by
    intro e
    cases e
    rcases hb with hb | hb
    · exact hn hb
    · omega)).trans (h.block i hi hn)⟩
theorem Ch.mono (h : Ch S W X) (hs : ∀ k, S k → T k) : Ch T W X := ⟨h.os, h.tape, h.output, h.size, fun k hk hn => h.block k hk fun e => hn (hs k e)⟩
/-- Seen from before that was there. -/
theorem Ch.fresh {V : World} (h : Ch T V W) (k : Ch S W X) (hs : ∀ b, b < V.heap.size → S b → T b) : Ch T V X :=
  ⟨k.os.trans h.os, k.tape.trans h.tape, k.output.trans h.output, Nat.le_trans h.size k.size, fun i hi hn => (k.block i (Nat.lt_of_lt_of_le hi h.size) fun e => hn (hs i hi e)).trans (h.block i hi hn)⟩
theorem Ch.below {B : Nat} (h : Ch S W X) (hB : B ≤ W.heap.size) (hs : ∀ b, b < B → ¬ S b) : Below B W X := ⟨h.os, h.tape, h.output, h.size, fun k hk => h.block k (Nat.lt_of_lt_of_le hk hB) (hs k hk)⟩
theorem Ch.cell (h : Ch S W X) {b o : Nat} (hb : b < W.heap.size) (hn : ¬ S b) : X.cell? ⟨b, o, none⟩ = W.cell? ⟨b, o, none⟩ := World.cell?_of_block (a := ⟨b, o, none⟩) (h.block b hb hn)
theorem Ch.frozen (h : Ch S W X) {b o : Nat} (hb : b < W.heap.size) (hn : ¬ S b) : X.frozen? ⟨b, o, none⟩ = W.frozen? ⟨b, o, none⟩ := World.frozen?_of_block (a := ⟨b, o, none⟩) (h.block b hb hn)
end
/-- The world under a name. -/
theorem name_world {P : Program} {C : Code} {Q : Exit → Act → World → Prop} {a : Act} {w : World} (h : ∀ Z, Z = w → C.wp P Q a Z) : C.wp P Q a w := h w rfl

/-- An instruction's fields. -/
structure Ic where
  k : Int
  o : Int
  d : Int
  a : Int
  b : Int
  n : Int
  t : Int
abbrev Ic.v (x : Ic) : Value := .agg #[.int .i64 x.k, .int .i64 x.o, .int .i64 x.d, .int .i64 x.a, .int .i64 x.b, .int .i64 x.n, .int .i64 x.t]
/-- A number of 64 bits. -/
def In6 (n : Int) : Prop := -9223372036854775808 ≤ n ∧ n ≤ 9223372036854775807
theorem In6.wf {n : Int} (h : In6 n) : (Lit.int .i64 n).wf = true := by
  unfold In6 at h
  simp [Lit.wf, IntKind.min, IntKind.max, IntKind.signed, IntKind.bits] <;> omega
def Ok6 (x : Ic) : Prop := In6 x.k ∧ In6 x.o ∧ In6 x.d ∧ In6 x.a ∧ In6 x.b ∧ In6 x.n ∧ In6 x.t

theorem Ok6.ik {x : Ic} (h : Ok6 x) : In6 x.k := h.1
theorem Ok6.io {x : Ic} (h : Ok6 x) : In6 x.o := h.2.1
theorem Ok6.id {x : Ic} (h : Ok6 x) : In6 x.d := h.2.2.1
theorem Ok6.ia {x : Ic} (h : Ok6 x) : In6 x.a := h.2.2.2.1
theorem Ok6.ib {x : Ic} (h : Ok6 x) : In6 x.b := h.2.2.2.2.1
theorem Ok6.in {x : Ic} (h : Ok6 x) : In6 x.n := h.2.2.2.2.2.1
theorem Ok6.it {x : Ic} (h : Ok6 x) : In6 x.t := h.2.2.2.2.2.2
/-- A block of seven cells: an instruction's variable. -/
def Ib (X : World) (m : Nat) (x : Ic) : Prop := X.heap[m]? = some (.cells #[.int .i64 x.k, .int .i64 x.o, .int .i64 x.d, .int .i64 x.a, .int .i64 x.b, .int .i64 x.n, .int .i64 x.t] 42 (0, 0))
/-- .. whatever it holds. -/
def I7 (X : World) (m : Nat) (v0 v1 v2 v3 v4 v5 v6 : Value) : Prop := X.heap[m]? = some (.cells #[v0, v1, v2, v3, v4, v5, v6] 42 (0, 0))
theorem I7.set0 {X : World} {m : Nat} {v0 v1 v2 v3 v4 v5 v6 : Value} (h : I7 X m v0 v1 v2 v3 v4 v5 v6) (v : Value) : I7 (X.setCell ⟨m, 0, none⟩ v) m v v1 v2 v3 v4 v5 v6 := heap_setCell_same X m 0 _ _ v h
theorem I7.set1 {X : World} {m : Nat} {v0 v1 v2 v3 v4 v5 v6 : Value} (h : I7 X m v0 v1 v2 v3 v4 v5 v6) (v : Value) : I7 (X.setCell ⟨m, 1, none⟩ v) m v0 v v2 v3 v4 v5 v6 := heap_setCell_same X m 1 _ _ v h
theorem I7.set2 {X : World} {m : Nat} {v0 v1 v2 v3 v4 v5 v6 : Value} (h : I7 X m v0 v1 v2 v3 v4 v5 v6) (v : Value) : I7 (X.setCell ⟨m, 2, none⟩ v) m v0 v1 v v3 v4 v5 v6 := heap_setCell_same X m 2 _ _ v h
theorem I7.set3 {X : World} {m : Nat} {v0 v1 v2 v3 v4 v5 v6 : Value} (h : I7 X m v0 v1 v2 v3 v4 v5 v6) (v : Value) : I7 (X.setCell ⟨m, 3, none⟩ v) m v0 v1 v2 v v4 v5 v6 := heap_setCell_same X m 3 _ _ v h
theorem I7.set4 {X : World} {m : Nat} {v0 v1 v2 v3 v4 v5 v6 : Value} (h : I7 X m v0 v1 v2 v3 v4 v5 v6) (v : Value) : I7 (X.setCell ⟨m, 4, none⟩ v) m v0 v1 v2 v3 v v5 v6 := heap_setCell_same X m 4 _ _ v h
theorem I7.set5 {X : World} {m : Nat} {v0 v1 v2 v3 v4 v5 v6 : Value} (h : I7 X m v0 v1 v2 v3 v4 v5 v6) (v : Value) : I7 (X.setCell ⟨m, 5, none⟩ v) m v0 v1 v2 v3 v4 v v6 := heap_setCell_same X m 5 _ _ v h
theorem I7.set6 {X : World} {m : Nat} {v0 v1 v2 v3 v4 v5 v6 : Value} (h : I7 X m v0 v1 v2 v3 v4 v5 v6) (v : Value) : I7 (X.setCell ⟨m, 6, none⟩ v) m v0 v1 v2 v3 v4 v5 v := heap_setCell_same X m 6 _ _ v h
theorem Ib.all {X : World} {m : Nat} {j : Ic} (h : Ib X m j) (i : Ic) : Ib (((((((X.setCell ⟨m, 0, none⟩ (.int .i64 i.k)).setCell ⟨m, 1, none⟩ (.int .i64 i.o)).setCell ⟨m, 2, none⟩ (.int .i64 i.d)).setCell ⟨m, 3, none⟩ (.int .i64 i.a)).setCell ⟨m, 4, none⟩ (.int .i64 i.b)).setCell ⟨m, 5, none⟩ (.int .i64 i.n)).setCell ⟨m, 6, none⟩ (.int .i64 i.t)) m i :=
  ((((((I7.set0 (v0 := .int .i64 j.k) (v1 := .int .i64 j.o) (v2 := .int .i64 j.d) (v3 := .int .i64 j.a) (v4 := .int .i64 j.b) (v5 := .int .i64 j.n) (v6 := .int .i64 j.t) h _).set1 _).set2 _).set3 _).set4 _).set5 _).set6 _
/-- A block of three cells: an event's variable. -/
def Eb (X : World) (m : Nat) (v0 v1 v2 : Value) : Prop := X.heap[m]? = some (.cells #[v0, v1, v2] 32 (0, 0))
/-- A thread's block. -/
def Tb (X : World) (m : Nat) (v0 v1 v2 v3 v4 v5 v6 : Value) : Prop := X.heap[m]? = some (.cells #[v0, v1, v2, v3, v4, v5, v6] 61 (0, 0))
/-- A run's block. -/
def Rb (X : World) (m : Nat) (v0 v1 v2 : Value) : Prop := X.heap[m]? = some (.cells #[v0, v1, v2] 54 (0, 0))
section
variable {X Y : World} {m : Nat} {x : Ic} {v0 v1 v2 v3 v4 v5 v6 : Value}
theorem Ib.facts (h : Ib X m x) : m < X.heap.size ∧ X.cell? ⟨m, 0, none⟩ = some (.int .i64 x.k) ∧ X.cell? ⟨m, 1, none⟩ = some (.int .i64 x.o) ∧ X.cell? ⟨m, 2, none⟩ = some (.int .i64 x.d) ∧ X.cell? ⟨m, 3, none⟩ = some (.int .i64 x.a) ∧ X.cell? ⟨m, 4, none⟩ = some (.int .i64 x.b) ∧ X.cell? ⟨m, 5, none⟩ = some (.int .i64 x.n) ∧ X.cell? ⟨m, 6, none⟩ = some (.int .i64 x.t) := by
  refine ⟨(Array.getElem?_eq_some_iff.1 h).1, ?_, ?_, ?_, ?_, ?_, ?_, ?_⟩ <;> rw [cell_of_row _ _ _ _ _ _ h] <;> rfl
theorem Ib.run (h : Ib X m x) : (loadVar 42 ⟨m, 0, none⟩).run Try.prog X = .ok x.v X := run_loadVar_row X m 42 42 _ (0, 0) _ h Try.underlying42 rfl (by kernel_rfl)
theorem Eb.facts (h : Eb X m v0 v1 v2) : m < X.heap.size ∧ X.cell? ⟨m, 0, none⟩ = some v0 ∧ X.cell? ⟨m, 1, none⟩ = some v1 ∧ X.cell? ⟨m, 2, none⟩ = some v2 ∧ X.frozen? ⟨m, 0, none⟩ = false ∧ X.frozen? ⟨m, 1, none⟩ = false ∧ X.frozen? ⟨m, 2, none⟩ = false := by
  refine ⟨(Array.getElem?_eq_some_iff.1 h).1, ?_, ?_, ?_, frozen_of_row X m _ _ _ h, frozen_of_row X m _ _ _ h, frozen_of_row X m _ _ _ h⟩ <;> rw [cell_of_row _ _ _ _ _ _ h] <;> rfl
theorem Eb.set0 (h : Eb X m v0 v1 v2) (v : Value) : Eb (X.setCell ⟨m, 0, none⟩ v) m v v1 v2 := heap_setCell_same X m 0 _ _ v h
theorem Eb.set1 (h : Eb X m v0 v1 v2) (v : Value) : Eb (X.setCell ⟨m, 1, none⟩ v) m v0 v v2 := heap_setCell_same X m 1 _ _ v h
theorem Eb.set2 (h : Eb X m v0 v1 v2) (v : Value) : Eb (X.setCell ⟨m, 2, none⟩ v) m v0 v1 v := heap_setCell_same X m 2 _ _ v h
theorem Eb.all (h : Eb X m v0 v1 v2) (u0 u1 u2 : Value) : Eb (((X.setCell ⟨m, 0, none⟩ u0).setCell ⟨m, 1, none⟩ u1).setCell ⟨m, 2, none⟩ u2) m u0 u1 u2 := ((h.set0 u0).set1 u1).set2 u2
theorem Eb.new (hn : m = X.heap.size) (v0 v1 v2 : Value) : Eb (X.alloc (.cells #[v0, v1, v2] 32)) m v0 v1 v2 := hn ▸ heap_alloc_new X _
theorem Ib.new (hn : m = X.heap.size) (x : Ic) : Ib (X.alloc (.cells #[.int .i64 x.k, .int .i64 x.o, .int .i64 x.d, .int .i64 x.a, .int .i64 x.b, .int .i64 x.n, .int .i64 x.t] 42)) m x := hn ▸ heap_alloc_new X _
theorem Tb.facts (h : Tb X m v0 v1 v2 v3 v4 v5 v6) : m < X.heap.size ∧ X.cell? ⟨m, 0, none⟩ = some v0 ∧ X.cell? ⟨m, 1, none⟩ = some v1 ∧ X.cell? ⟨m, 2, none⟩ = some v2 ∧ X.cell? ⟨m, 3, none⟩ = some v3 ∧ X.cell? ⟨m, 4, none⟩ = some v4 ∧ X.cell? ⟨m, 5, none⟩ = some v5 ∧ X.cell? ⟨m, 6, none⟩ = some v6 ∧
    X.frozen? ⟨m, 3, none⟩ = false ∧ X.frozen? ⟨m, 5, none⟩ = false ∧ X.frozen? ⟨m, 6, none⟩ = false := by
  refine ⟨(Array.getElem?_eq_some_iff.1 h).1, ?_, ?_, ?_, ?_, ?_, ?_, ?_, frozen_of_row X m _ _ _ h, frozen_of_row X m _ _ _ h, frozen_of_row X m _ _ _ h⟩ <;> rw [cell_of_row _ _ _ _ _ _ h] <;> rfl
theorem Tb.set3 (h : Tb X m v0 v1 v2 v3 v4 v5 v6) (v : Value) : Tb (X.setCell ⟨m, 3, none⟩ v) m v0 v1 v2 v v4 v5 v6 := heap_setCell_same X m 3 _ _ v h
theorem Tb.set5 (h : Tb X m v0 v1 v2 v3 v4 v5 v6) (v : Value) : Tb (X.setCell ⟨m, 5, none⟩ v) m v0 v1 v2 v3 v4 v v6 := heap_setCell_same X m 5 _ _ v h
theorem Tb.set6 (h : Tb X m v0 v1 v2 v3 v4 v5 v6) (v : Value) : Tb (X.setCell ⟨m, 6, none⟩ v) m v0 v1 v2 v3 v4 v5 v := heap_setCell_same X m 6 _ _ v h
theorem Rb.facts (h : Rb X m v0 v1 v2) : m < X.heap.size ∧ X.cell? ⟨m, 0, none⟩ = some v0 ∧ X.cell? ⟨m, 1, none⟩ = some v1 ∧ X.cell? ⟨m, 2, none⟩ = some v2 ∧ X.frozen? ⟨m, 0, none⟩ = false := by
  refine ⟨(Array.getElem?_eq_some_iff.1 h).1, ?_, ?_, ?_, frozen_of_row X m _ _ _ h⟩ <;> rw [cell_of_row _ _ _ _ _ _ h] <;> rfl
/-- What a function hands back of its variable. -/
theorem run_eb (h : Eb X m v0 v1 v2) : (loadVar 32 ⟨m, 0, none⟩).run Try.prog X = .ok (.agg #[v0, v1, v2]) X := run_loadVar_row X m 32 32 _ (0, 0) _ h Try.underlying32 rfl (by kernel_rfl)
end

/-- A thing is read as what it is. -/
def RV (v : Value) : Option (DataW Value × List MemPlace) := some (.held v, [])
abbrev KF : Type := Int → Option Value
def KF.upd (f : KF) (s : Int) (v : Value) : KF := fun t => if t = s then some v else f t
def KF.del (f : KF) (s : Int) : KF := fun t => if t = s then none else f t
/-- Block b is a map that knows f, of at most n numbers. -/
def KM (K : TypeId) (W : World) (b n : Nat) (f : KF) : Prop := ∃ D : DataW Value, W.ownsMap Try.prog K RV b n D ∧ ∀ (s : Int) (z : DataW Value), D.atKey (.int .i64 s) z = match f s with | some v => .held v | none => z
section
variable {W X : World} {b n : Nat} {f : KF} {K : TypeId}
theorem KM.made (K : TypeId) (W : World) : KM K (W.alloc (.map #[] 0)) W.heap.size 0 (fun _ => none) := ⟨.map [], World.ownsMap_made W _ _ RV, fun _ _ => rfl⟩
theorem KM.lt (h : KM K W b n f) : b < W.heap.size := by
  obtain ⟨D, h1, _⟩ := h
  exact h1.lt
theorem KM.same (h : KM K W b n f) (e : X.heap[b]? = W.heap[b]?) : KM K X b n f := by
  obtain ⟨D, ⟨es, clock, hb, r⟩, h2⟩ := h
  exact ⟨D, ⟨es, clock, e.trans hb, r⟩, h2⟩
theorem KM.mono (h : KM K W b n f) {m : Nat} (hm : n ≤ m) : KM K W b m f := by
  obtain ⟨D, h1, h2⟩ := h
  exact ⟨D, h1.mono hm, h2⟩
theorem KM.nocells (h : KM K W b n f) {m : Nat} {cs : Array Value} {T : TypeId} {fr : Nat × Nat} (hm : W.heap[m]? = some (.cells cs T fr)) : b ≠ m := by
  rintro rfl
  obtain ⟨D, ⟨es, clock, hb, _⟩, _⟩ := h
  rw [hm] at hb
  cases hb
theorem KM.look_ok (h : KM K W b n f) (hk : Keyed Try.prog K) {t e : TypeId} (ht : Try.prog.underlying t = some (.map K e)) {zv : Value} (hz : (zeroValue e).run Try.prog W = .ok zv W) {s : Int} (hs : keyOf Try.prog K (.int .i64 s) = some (.int .i64 s)) (c : Bool) :
    (Instr.lookup t (.map (some b)) (.int .i64 s) c).run Try.prog W = .ok (if c then .tuple #[(f s).getD zv, .bool (f s).isSome] else (f s).getD zv) W := by
  obtain ⟨D, ⟨es, clock, hb, F, _, rfl⟩, h2⟩ := h
  rcases Maps.fit_look c hk ht hz hb F hs with ⟨hrun, _, hat⟩ | ⟨e0, y, _, _, hrun, hRv, hat, _⟩
  · have e1 : f s = none := by
      have h3 := h2 s (.held (.int .i64 0))
      have h4 := h2 s (.held (.int .i64 1))
      rw [hat] at h3 h4
      cases hf : f s with
      | none => rfl
      | some u =>
        rw [hf] at h3 h4
        simp only at h3 h4
        rw [← h4] at h3
        simp at h3
    rw [hrun, e1]
    rfl
  · have h3 := h2 s (.held (.int .i64 0))
    have h4 := h2 s (.held (.int .i64 1))
    rw [hat] at h3 h4
    have hy : y = (.held e0.val, []) := by
      simpa [RV] using hRv.symm
    subst hy
    simp only at h3 h4
    cases hf : f s with
    | none =>
      rw [hf] at h3 h4
      simp only at h3 h4
      rw [h3] at h4
      simp at h4
    | some u =>
      rw [hf] at h3
      simp only [DataW.held.injEq] at h3
      rw [hrun, h3]
      rfl
theorem KM.put_ {D : DataW Value} {s : Int} {v : Value} (hm : IsMap D) (h2 : ∀ (t : Int) (z : DataW Value), D.atKey (.int .i64 t) z = match f t with | some v => .held v | none => z) (t : Int) (z : DataW Value) :
    (D.put (.int .i64 s) (.held v)).atKey (.int .i64 t) z = match f.upd s v t with | some v => .held v | none => z := by
  by_cases e : t = s
  · subst e
    rw [atKey_put_same hm (show WideAt.IsKeyLit (.int .i64 t) from trivial)]
    simp [KF.upd]
  · rw [atKey_put_other (by simpa using e), h2]
    simp [KF.upd, e]
theorem KM.del_ {D : DataW Value} {s : Int} (h2 : ∀ (t : Int) (z : DataW Value), D.atKey (.int .i64 t) z = match f t with | some v => .held v | none => z) (t : Int) (z : DataW Value) :
    (D.del (.int .i64 s)).atKey (.int .i64 t) z = match f.del s t with | some v => .held v | none => z := by
  by_cases e : t = s
  · subst e
    rw [atKey_del_same]
    simp [KF.del]
  · rw [atKey_del_other (by simpa using e), h2]
    simp [KF.del, e]
theorem KM.run_put (h : KM K W b n f) (hk : Keyed Try.prog K) {t e : TypeId} (ht : Try.prog.underlying t = some (.map K e)) (hn : n < maxLen) {s : Int} (hs : keyOf Try.prog K (.int .i64 s) = some (.int .i64 s)) (val : Value) :
    ∃ w', (Instr.mapUpdate t (.map (some b)) (.int .i64 s) val).run Try.prog W = .ok () w' ∧ KM K w' b (n + 1) (f.upd s val) ∧ W.grownBy w' (some b) := by
  obtain ⟨D, h1, h2⟩ := h
  obtain ⟨w', hrun, r1, r2⟩ := h1.update hk ht hn hs (val := val) rfl
  exact ⟨w', hrun, ⟨_, r1, KM.put_ h1.isMap h2⟩, r2⟩
theorem KM.run_del (h : KM K W b n f) (hk : Keyed Try.prog K) {t e : TypeId} (ht : Try.prog.underlying t = some (.map K e)) {s : Int} (hs : keyOf Try.prog K (.int .i64 s) = some (.int .i64 s)) (ty : TypeId) :
    ∃ w', (Builtin.delete_ #[t, K] ty #[.map (some b), .int .i64 s]).run Try.prog W = .ok (.tuple #[]) w' ∧ KM K w' b n (f.del s) ∧ W.grownBy w' (some b) := by
  obtain ⟨D, h1, h2⟩ := h
  obtain ⟨w', hrun, r1, r2⟩ := h1.drop hk ht hs ty
  exact ⟨w', hrun, ⟨_, r1, KM.del_ h2⟩, r2.grown⟩
/-- An entry is put: as an operation of a walk. -/
theorem wpList_putK {ops : Array Oper} {rest : List Oper} {o : Oper} {a : Act} {Q : Exit → Act → World → Prop} {w : World} {t e : TypeId}
    (hg : o.guard = none) (m x v : Operand) (hop : o.op = Op.mapUpdate t m x v) (hk : Keyed Try.prog K) (ht : Try.prog.underlying t = some (.map K e)) (b n : Nat) (f : KF) (hm : a.eval m = .map (some b)) (h : KM K w b n f) (hn : n < maxLen)
    (s : Int) (val : Value) (hx : a.eval x = .int .i64 s) (hv : a.eval v = val) (hs : keyOf Try.prog K (.int .i64 s) = some (.int .i64 s))
    (hK : ∀ w', KM K w' b (n + 1) (f.upd s val) → w.grownBy w' (some b) → wpList Try.prog ops Q rest (a.put o.dst undef) w') : wpList Try.prog ops Q (o :: rest) a w := by
  obtain ⟨D, h1, h2⟩ := h
  exact wpList_mapUpdate_own w hg m x v _ hop K e hk ht RV b n D hm h1 hn (.int .i64 s) val _ hx hv hs _ _ rfl fun w' g1 g2 => hK w' ⟨_, g1, KM.put_ h1.isMap h2⟩ g2
/-- An entry is struck. -/
theorem wpList_strikeK {ops : Array Oper} {rest : List Oper} {o : Oper} {a : Act} {Q : Exit → Act → World → Prop} {w : World} {t e : TypeId}
    (hg : o.guard = none) (m x : Operand) (hop : o.op = Op.call { callee := Callee.builtin Builtin.delete, args := #[m, x], argTypes := #[t, K] }) (hk : Keyed Try.prog K) (ht : Try.prog.underlying t = some (.map K e)) (b n : Nat) (f : KF) (hm : a.eval m = .map (some b)) (h : KM K w b n f)
    (s : Int) (hx : a.eval x = .int .i64 s) (hs : keyOf Try.prog K (.int .i64 s) = some (.int .i64 s))
    (hK : ∀ w', KM K w' b n (f.del s) → w.grownBy w' (some b) → wpList Try.prog ops Q rest (a.put o.dst (.tuple #[])) w') : wpList Try.prog ops Q (o :: rest) a w := by
  obtain ⟨D, h1, h2⟩ := h
  exact wpList_delete_own w hg m x _ _ hop e hk ht RV b n D hm h1 (.int .i64 s) _ hx hs fun w' g1 g2 => hK w' ⟨_, g1, KM.del_ h2⟩ g2.grown
/-- An entry of a literal is put. -/
theorem wpList_insertK {ops : Array Oper} {rest : List Oper} {o : Oper} {a : Act} {Q : Exit → Act → World → Prop} {w : World} {t e : TypeId}
    (hg : o.guard = none) (m x v : Operand) (hop : o.op = Op.insert t m x v) (hk : Keyed Try.prog K) (ht : Try.prog.underlying t = some (.map K e)) (b n : Nat) (f : KF) (hm : a.eval m = .map (some b)) (h : KM K w b n f) (hn : n < maxLen)
    (s : Int) (val : Value) (hx : a.eval x = .int .i64 s) (hv : a.eval v = val) (hs : keyOf Try.prog K (.int .i64 s) = some (.int .i64 s))
    (hK : ∀ w', KM K w' b (n + 1) (f.upd s val) → w.grownBy w' (some b) → wpList Try.prog ops Q rest (a.put o.dst undef) w') : wpList Try.prog ops Q (o :: rest) a w := by
  obtain ⟨D, h1, h2⟩ := h
  exact wpList_insert_own w hg m x v t hop K e hk ht RV b n D hm h1 hn _ _ _ hx hv hs _ _ rfl fun w' g1 g2 => hK w' ⟨_, g1, KM.put_ h1.isMap h2⟩ g2
end
theorem keyedI : Keyed Try.prog 3 := int_keyed Try.underlying3
theorem keyedL : Keyed Try.prog 2 := int_keyed Try.underlying2
theorem keyI {n : Int} (h : In6 n) : keyOf Try.prog 3 (.int .i64 n) = some (.int .i64 n) := keyOf_int_mk Try.underlying3 h.wf
theorem keyL {n : Int} (h : In6 n) : keyOf Try.prog 2 (.int .i64 n) = some (.int .i64 n) := keyOf_int_mk Try.underlying2 h.wf
theorem zeroL (W : World) : (zeroValue 2).run Try.prog W = .ok (.int .i64 0) W := by kernel_rfl
theorem zeroI (W : World) : (zeroValue 3).run Try.prog W = .ok (.int .i64 0) W := by kernel_rfl
theorem zeroD (W : World) : (zeroValue 70).run Try.prog W = .ok .nilFunc W := by kernel_rfl
end Go.Proofs.Ytnmalhjhfddjpaa
