/- What a call leaves as it was; an instruction in memory. -/
import Derived.Test.YtacgfjcdfgdpjaaDoorProg
import Derived.WalkKit
import Derived.WalkSmall
import Derived.Maps.AppendAt
import Derived.Maps.Range
import Derived.Lib.Hide
namespace Go.Proofs.YtacgfjcdfgdpjaaDoor
set_option linter.unusedSimpArgs false
set_option linter.unusedVariables false
open Go Go.RowKit

/-- All old blocks stand as they stood, but for 'row'. -/
def Fr (row : Option Nat) (W W' : World) : Prop := W.grownBy W' row
section
variable {row : Option Nat} {W X Y : World}
theorem Fr.refl (row : Option Nat) (W : World) : Fr row W W := World.grownBy.refl W row
theorem Fr.size (h : Fr row W X) : W.heap.size ≤ X.heap.size := World.grownBy.size h
theorem Fr.block (h : Fr row W X) {k : Nat} (hk : k < W.heap.size) (hne : some k ≠ row) : X.heap[k]? = W.heap[k]? := World.grownBy.block h k hk hne
theorem Fr.trans (h : Fr row W X) (k : Fr row X Y) : Fr row W Y := World.grownBy.trans h k
theorem Fr.alloc (h : Fr row W X) (o : Obj) : Fr row W (X.alloc o) := h.trans (World.grownBy_alloc X o row)
theorem Fr.drewN (h : Fr row W X) (n : Nat) : Fr row W (X.drewN n) := h.trans ⟨rfl, rfl, rfl, Nat.le_refl _, fun _ _ _ => rfl⟩
theorem Fr.drew (h : Fr row W X) : Fr row W X.drew := h.trans ⟨rfl, rfl, rfl, Nat.le_refl _, fun _ _ _ => rfl⟩
theorem Fr.set (h : Fr row W X) {b : Nat} (hb : some b = row ∨ W.heap.size ≤ b) (o : Nat) (v : Value) : Fr row W (X.setCell ⟨b, o, none⟩ v) := by
  have h' : W.grownBy X row := h
  suffices hs : W.grownBy (X.setCell ⟨b, o, none⟩ v) row from hs
  refine ⟨h'.os, h'.tape, h'.output, ?_, fun k hk hne => ?_⟩
  · have := h.size
    simp [World.setCell]
    exact this
  · rw [heap_setCell_other X ⟨b, o, none⟩ k v (by
      rintro rfl
      rcases hb with hb | hb
      · exact hne hb
      · exact absurd hk (by simpa using hb))]
    exact h.block hk hne
theorem Fr.step (h : Fr row W X) (k : Fr row X Y) : Fr row W Y := h.trans k
/-- A step that wrote a block that is new, too. -/
theorem Fr.stepNew {j : Nat} (h : Fr row W X) (k : X.grownBy Y (some j)) (hj : W.heap.size ≤ j) : Fr row W Y :=
  World.grownBy.andThen h k (fun i e => by cases e; exact .inl hj)
theorem Fr.stepOwn {v : Value} (h : Fr row W X) (k : X.grownBy Y v.ownBlock) (hj : ∀ j, v.ownBlock = some j → W.heap.size ≤ j) : Fr row W Y :=
  World.grownBy.andThen h k (fun i e => .inl (hj i e))
theorem Fr.of (h : Below W.heap.size W X) : Fr row W X := ⟨h.os, h.tape, h.output, h.size, fun k hk _ => h.block k hk⟩
theorem Fr.stepB (h : Fr row W X) (k : Below X.heap.size X Y) : Fr row W Y := h.trans (.of k)
theorem Fr.below (h : Fr none W X) : Below W.heap.size W X := ⟨World.grownBy.os h, World.grownBy.tape h, World.grownBy.output h, h.size, fun k hk => h.block hk (by simp)⟩
theorem Fr.belowAt {B b : Nat} (h : Fr (some b) W X) (hb : B ≤ b) (hB : B ≤ W.heap.size) : Below B W X :=
  ⟨World.grownBy.os h, World.grownBy.tape h, World.grownBy.output h, h.size, fun k hk => h.block (by omega) (by simp; omega)⟩
/-- Seen from before that block was there. -/
theorem Fr.fresh {V : World} {b : Nat} (h : Fr none V W) (k : Fr (some b) W X) (hb : V.heap.size ≤ b) : Fr none V X := World.grownBy.andThen h k (fun i e => by cases e; exact .inl hb)
end
theorem fcell {rb : Nat} {W X : World} (h : Fr (some rb) W X) : (∀ b o, b < W.heap.size → b ≠ rb → X.cell? ⟨b, o, none⟩ = W.cell? ⟨b, o, none⟩) ∧ (∀ b o, b < W.heap.size → b ≠ rb → X.frozen? ⟨b, o, none⟩ = W.frozen? ⟨b, o, none⟩) :=
  ⟨fun b o hb hn => World.cell?_of_block (a := ⟨b, o, none⟩) (h.block hb (by simp; exact hn)), fun b o hb hn => World.frozen?_of_block (a := ⟨b, o, none⟩) (h.block hb (by simp; exact hn))⟩
theorem cell_old {X : World} {b j : Nat} {v : Value} (h : X.cell? ⟨b, j, none⟩ = some v) (o : Obj) : (X.alloc o).cell? ⟨b, j, none⟩ = some v := (World.cell?_of_block (a := ⟨b, j, none⟩) (Below.heap_alloc X o b (block_lt_of_cell h))).trans h
/-- The world under a name. -/
theorem name_world {P : Program} {C : Code} {Q : Exit → Act → World → Prop} {a : Act} {w : World} (h : ∀ Z, Z = w → C.wp P Q a Z) : C.wp P Q a w := h w rfl
/-- An instruction's fields. -/
structure Ic where
  k : Int
  o : Int
  d : Int
  a : Int
  b : Int
  n : Int
  t : Int

/-- A block of seven cells: an instruction's variable. -/
def Ib (X : World) (m : Nat) (v0 v1 v2 v3 v4 v5 v6 : Value) : Prop := X.heap[m]? = some (.cells #[v0, v1, v2, v3, v4, v5, v6] 37 (0, 0))
section
variable {X Y : World} {m : Nat} {v0 v1 v2 v3 v4 v5 v6 : Value}
theorem Ib.facts (h : Ib X m v0 v1 v2 v3 v4 v5 v6) : m < X.heap.size ∧ X.cell? ⟨m, 0, none⟩ = some v0 ∧ X.cell? ⟨m, 1, none⟩ = some v1 ∧ X.cell? ⟨m, 2, none⟩ = some v2 ∧ X.cell? ⟨m, 3, none⟩ = some v3 ∧ X.cell? ⟨m, 4, none⟩ = some v4 ∧ X.cell? ⟨m, 5, none⟩ = some v5 ∧ X.cell? ⟨m, 6, none⟩ = some v6 ∧
    X.frozen? ⟨m, 0, none⟩ = false ∧ X.frozen? ⟨m, 1, none⟩ = false ∧ X.frozen? ⟨m, 2, none⟩ = false ∧ X.frozen? ⟨m, 3, none⟩ = false ∧ X.frozen? ⟨m, 4, none⟩ = false ∧ X.frozen? ⟨m, 5, none⟩ = false ∧ X.frozen? ⟨m, 6, none⟩ = false := by
  refine ⟨(Array.getElem?_eq_some_iff.1 h).1, ?_, ?_, ?_, ?_, ?_, ?_, ?_, frozen_of_row X m _ _ _ h, frozen_of_row X m _ _ _ h, frozen_of_row X m _ _ _ h, frozen_of_row X m _ _ _ h, frozen_of_row X m _ _ _ h, frozen_of_row X m _ _ _ h, frozen_of_row X m _ _ _ h⟩ <;> rw [cell_of_row _ _ _ _ _ _ h] <;> rfl
theorem Ib.alloc (h : Ib X m v0 v1 v2 v3 v4 v5 v6) (o : Obj) : Ib (X.alloc o) m v0 v1 v2 v3 v4 v5 v6 := (Below.heap_alloc X o m (Array.getElem?_eq_some_iff.1 h).1).trans h
theorem Ib.drew (h : Ib X m v0 v1 v2 v3 v4 v5 v6) : Ib X.drew m v0 v1 v2 v3 v4 v5 v6 := h
theorem Ib.drewN (h : Ib X m v0 v1 v2 v3 v4 v5 v6) (q : Nat) : Ib (X.drewN q) m v0 v1 v2 v3 v4 v5 v6 := h
theorem Ib.setO (h : Ib X m v0 v1 v2 v3 v4 v5 v6) {b : Nat} (hne : m ≠ b) (o : Nat) (v : Value) : Ib (X.setCell ⟨b, o, none⟩ v) m v0 v1 v2 v3 v4 v5 v6 := (heap_setCell_other X ⟨b, o, none⟩ m v hne).trans h
theorem Ib.set0 (h : Ib X m v0 v1 v2 v3 v4 v5 v6) (v : Value) : Ib (X.setCell ⟨m, 0, none⟩ v) m v v1 v2 v3 v4 v5 v6 := heap_setCell_same X m 0 _ _ v h
theorem Ib.set1 (h : Ib X m v0 v1 v2 v3 v4 v5 v6) (v : Value) : Ib (X.setCell ⟨m, 1, none⟩ v) m v0 v v2 v3 v4 v5 v6 := heap_setCell_same X m 1 _ _ v h
theorem Ib.set2 (h : Ib X m v0 v1 v2 v3 v4 v5 v6) (v : Value) : Ib (X.setCell ⟨m, 2, none⟩ v) m v0 v1 v v3 v4 v5 v6 := heap_setCell_same X m 2 _ _ v h
theorem Ib.set3 (h : Ib X m v0 v1 v2 v3 v4 v5 v6) (v : Value) : Ib (X.setCell ⟨m, 3, none⟩ v) m v0 v1 v2 v v4 v5 v6 := heap_setCell_same X m 3 _ _ v h
theorem Ib.set4 (h : Ib X m v0 v1 v2 v3 v4 v5 v6) (v : Value) : Ib (X.setCell ⟨m, 4, none⟩ v) m v0 v1 v2 v3 v v5 v6 := heap_setCell_same X m 4 _ _ v h
theorem Ib.set5 (h : Ib X m v0 v1 v2 v3 v4 v5 v6) (v : Value) : Ib (X.setCell ⟨m, 5, none⟩ v) m v0 v1 v2 v3 v4 v v6 := heap_setCell_same X m 5 _ _ v h
theorem Ib.set6 (h : Ib X m v0 v1 v2 v3 v4 v5 v6) (v : Value) : Ib (X.setCell ⟨m, 6, none⟩ v) m v0 v1 v2 v3 v4 v5 v := heap_setCell_same X m 6 _ _ v h
theorem Ib.all (h : Ib X m v0 v1 v2 v3 v4 v5 v6) (u0 u1 u2 u3 u4 u5 u6 : Value) : Ib (((((((X.setCell ⟨m, 0, none⟩ u0).setCell ⟨m, 1, none⟩ u1).setCell ⟨m, 2, none⟩ u2).setCell ⟨m, 3, none⟩ u3).setCell ⟨m, 4, none⟩ u4).setCell ⟨m, 5, none⟩ u5).setCell ⟨m, 6, none⟩ u6) m u0 u1 u2 u3 u4 u5 u6 :=
  ((((((h.set0 u0).set1 u1).set2 u2).set3 u3).set4 u4).set5 u5).set6 u6
theorem Ib.stay (h : Ib X m v0 v1 v2 v3 v4 v5 v6) (hf : Below X.heap.size X Y) : Ib Y m v0 v1 v2 v3 v4 v5 v6 := (hf.block m (Array.getElem?_eq_some_iff.1 h).1).trans h
theorem Ib.new (hn : m = X.heap.size) (v0 v1 v2 v3 v4 v5 v6 : Value) : Ib (X.alloc (.cells #[v0, v1, v2, v3, v4, v5, v6] 37)) m v0 v1 v2 v3 v4 v5 v6 := hn ▸ heap_alloc_new X _
/-- What a function hands back of its variable. -/
theorem results_ib {fn : Func} {p : Tmp} (hfn : fn.results = #[.cell p 37]) (tmps : Array Value) (hp : tmps.getD p undef = .pointer (some ⟨m, 0, none⟩)) (h : Ib X m v0 v1 v2 v3 v4 v5 v6) :
    (results fn tmps).run Tryd.prog X = .ok (.agg #[v0, v1, v2, v3, v4, v5, v6]) X := by
  have hp' : tmps[p]?.getD undef = .pointer (some ⟨m, 0, none⟩) := by simpa using hp
  simp [results, hfn, hp', asAddr, run_loadVar_row X m 37 37 _ (0, 0) _ h Tryd.underlying37 rfl (by kernel_rfl)]
end
open Go Go.RowKit

theorem below2 (w : World) (o p : Obj) : Below w.heap.size w ((w.alloc o).alloc p) := ((Below.refl _ _).alloc (Nat.le_refl _) _).alloc (by simp) _
theorem below1 (w : World) (o : Obj) : Below w.heap.size w (w.alloc o) := (Below.refl _ _).alloc (Nat.le_refl _) _

open Go Go.RowKit

theorem below_ch {W0 W w : World} (h : Below W0.heap.size W0 W) (k : Below W.heap.size W w) : Below W0.heap.size W0 w := h.trans (k.mono h.size)
theorem below_drewN {B : Nat} {W X : World} (h : Below B W X) (n : Nat) : Below B W (X.drewN n) := ⟨h.os, h.tape, h.output, h.size, h.block⟩
theorem below_drew {B : Nat} {W X : World} (h : Below B W X) : Below B W X.drew := ⟨h.os, h.tape, h.output, h.size, h.block⟩
end Go.Proofs.YtacgfjcdfgdpjaaDoor
