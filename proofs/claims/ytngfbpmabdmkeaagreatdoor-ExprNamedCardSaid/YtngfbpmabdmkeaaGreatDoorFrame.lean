/- What a call leaves as it was: all blocks that were there, but for one. -/
import Derived.Test.YtngfbpmabdmkeaaGreatDoorProg
import Derived.WalkKit
import Derived.WalkSmall
import Derived.Maps.AppendAt
import Derived.Maps.Range
import Derived.Lib.Hide
namespace Go.Proofs.YtngfbpmabdmkeaaGreatDoor
open Go Go.RowKit

/-- All old blocks stand as they stood, but for 'row'. -/
def Fr (row : Option Nat) (W W' : World) : Prop := W.grownBy W' row
section
variable {row : Option Nat} {W X Y : World}
theorem Fr.refl (row : Option Nat) (W : World) : Fr row W W := World.grownBy.refl W row
theorem Fr.size (h : Fr row W X) : W.heap.size ≤ X.heap.size := World.grownBy.size h
theorem Fr.block (h : Fr row W X) {k : Nat} (hk : k < W.heap.size) (hne : some k ≠ row) : X.heap[k]? = W.heap[k]? := World.grownBy.block h k hk hne
theorem Fr.trans (h : Fr row W X) (k : Fr row X Y) : Fr row W Y := World.grownBy.trans h k
theorem Fr.alloc (h : Fr row W X) (o : Obj) : Fr row W (X.alloc o) := h.trans (World.grownBy_alloc X o row)
theorem Fr.drewN (h : Fr row W X) (n : Nat) : Fr row W (X.drewN n) := h.trans ⟨rfl, rfl, rfl, Nat.le_refl _, fun _ _ _ => rfl⟩
theorem Fr.drew (h : Fr row W X) : Fr row W X.drew := h.trans ⟨rfl, rfl, rfl, Nat.le_refl _, fun _ _ _ => rfl⟩
theorem Fr.set (h : Fr row W X) {b : Nat} (hb : some b = row ∨ W.heap.size ≤ b) (o : Nat) (v : Value) : Fr row W (X.setCell ⟨b, o, none⟩ v) := by
  have h' : W.grownBy X row := h
  suffices hs : W.grownBy (X.setCell ⟨b, o, none⟩ v) row from hs
  refine ⟨h'.os, h'.tape, h'.output, ?_, fun k hk hne => ?_⟩
  · have := h.size
    simp [World.setCell]
    exact this
  · rw [heap_setCell_other X ⟨b, o, none⟩ k v (by
      rintro rfl
      rcases hb with hb | hb
      · exact hne hb
      · exact absurd hk (by simpa using hb))]
    exact h.block hk hne
theorem Fr.step (h : Fr row W X) (k : Fr row X Y) : Fr row W Y := h.trans k
/-- A step that wrote a block that is new, too. -/
theorem Fr.stepNew {j : Nat} (h : Fr row W X) (k : X.grownBy Y (some j)) (hj : W.heap.size ≤ j) : Fr row W Y :=
  World.grownBy.andThen h k (fun i e => by cases e; exact .inl hj)
theorem Fr.stepOwn {v : Value} (h : Fr row W X) (k : X.grownBy Y v.ownBlock) (hj : ∀ j, v.ownBlock = some j → W.heap.size ≤ j) : Fr row W Y :=
  World.grownBy.andThen h k (fun i e => .inl (hj i e))
theorem Fr.of (h : Below W.heap.size W X) : Fr row W X := ⟨h.os, h.tape, h.output, h.size, fun k hk _ => h.block k hk⟩
theorem Fr.stepB (h : Fr row W X) (k : Below X.heap.size X Y) : Fr row W Y := h.trans (.of k)
theorem Fr.below (h : Fr none W X) : Below W.heap.size W X := ⟨World.grownBy.os h, World.grownBy.tape h, World.grownBy.output h, h.size, fun k hk => h.block hk (by simp)⟩
theorem Fr.belowAt {B b : Nat} (h : Fr (some b) W X) (hb : B ≤ b) (hB : B ≤ W.heap.size) : Below B W X :=
  ⟨World.grownBy.os h, World.grownBy.tape h, World.grownBy.output h, h.size, fun k hk => h.block (by omega) (by simp; omega)⟩
/-- Seen from before that block was there. -/
theorem Fr.fresh {V : World} {b : Nat} (h : Fr none V W) (k : Fr (some b) W X) (hb : V.heap.size ≤ b) : Fr none V X := World.grownBy.andThen h k (fun i e => by cases e; exact .inl hb)
end
theorem fcell {rb : Nat} {W X : World} (h : Fr (some rb) W X) : (∀ b o, b < W.heap.size → b ≠ rb → X.cell? ⟨b, o, none⟩ = W.cell? ⟨b, o, none⟩) ∧ (∀ b o, b < W.heap.size → b ≠ rb → X.frozen? ⟨b, o, none⟩ = W.frozen? ⟨b, o, none⟩) :=
  ⟨fun b o hb hn => World.cell?_of_block (a := ⟨b, o, none⟩) (h.block hb (by simp; exact hn)), fun b o hb hn => World.frozen?_of_block (a := ⟨b, o, none⟩) (h.block hb (by simp; exact hn))⟩
theorem cell_old {X : World} {b j : Nat} {v : Value} (h : X.cell? ⟨b, j, none⟩ = some v) (o : Obj) : (X.alloc o).cell? ⟨b, j, none⟩ = some v := (World.cell?_of_block (a := ⟨b, j, none⟩) (Below.heap_alloc X o b (block_lt_of_cell h))).trans h
/-- The world under a name. -/
theorem name_world {P : Program} {C : Code} {Q : Exit → Act → World → Prop} {a : Act} {w : World} (h : ∀ Z, Z = w → C.wp P Q a Z) : C.wp P Q a w := h w rfl
/-- A block of six cells: an expression's variable. -/
def Blk (X : World) (n : Nat) (v0 v1 v2 v3 v4 v5 : Value) : Prop := X.heap[n]? = some (.cells #[v0, v1, v2, v3, v4, v5] 25 (0, 0))
section
variable {X Y : World} {n : Nat} {v0 v1 v2 v3 v4 v5 : Value}
theorem Blk.facts (h : Blk X n v0 v1 v2 v3 v4 v5) : n < X.heap.size ∧ X.cell? ⟨n, 0, none⟩ = some v0 ∧ X.cell? ⟨n, 1, none⟩ = some v1 ∧ X.cell? ⟨n, 2, none⟩ = some v2 ∧ X.cell? ⟨n, 3, none⟩ = some v3 ∧ X.cell? ⟨n, 4, none⟩ = some v4 ∧ X.cell? ⟨n, 5, none⟩ = some v5 ∧
    X.frozen? ⟨n, 0, none⟩ = false ∧ X.frozen? ⟨n, 1, none⟩ = false ∧ X.frozen? ⟨n, 2, none⟩ = false ∧ X.frozen? ⟨n, 3, none⟩ = false ∧ X.frozen? ⟨n, 4, none⟩ = false ∧ X.frozen? ⟨n, 5, none⟩ = false := by
  refine ⟨(Array.getElem?_eq_some_iff.1 h).1, ?_, ?_, ?_, ?_, ?_, ?_, frozen_of_row X n _ _ _ h, frozen_of_row X n _ _ _ h, frozen_of_row X n _ _ _ h, frozen_of_row X n _ _ _ h, frozen_of_row X n _ _ _ h, frozen_of_row X n _ _ _ h⟩ <;> rw [cell_of_row _ _ _ _ _ _ h] <;> rfl
theorem Blk.alloc (h : Blk X n v0 v1 v2 v3 v4 v5) (o : Obj) : Blk (X.alloc o) n v0 v1 v2 v3 v4 v5 := (Below.heap_alloc X o n (Array.getElem?_eq_some_iff.1 h).1).trans h
theorem Blk.drew (h : Blk X n v0 v1 v2 v3 v4 v5) : Blk X.drew n v0 v1 v2 v3 v4 v5 := h
theorem Blk.drewN (h : Blk X n v0 v1 v2 v3 v4 v5) (m : Nat) : Blk (X.drewN m) n v0 v1 v2 v3 v4 v5 := h
theorem Blk.setO (h : Blk X n v0 v1 v2 v3 v4 v5) {b : Nat} (hne : n ≠ b) (o : Nat) (v : Value) : Blk (X.setCell ⟨b, o, none⟩ v) n v0 v1 v2 v3 v4 v5 := (heap_setCell_other X ⟨b, o, none⟩ n v hne).trans h
theorem Blk.set0 (h : Blk X n v0 v1 v2 v3 v4 v5) (v : Value) : Blk (X.setCell ⟨n, 0, none⟩ v) n v v1 v2 v3 v4 v5 := heap_setCell_same X n 0 _ _ v h
theorem Blk.set1 (h : Blk X n v0 v1 v2 v3 v4 v5) (v : Value) : Blk (X.setCell ⟨n, 1, none⟩ v) n v0 v v2 v3 v4 v5 := heap_setCell_same X n 1 _ _ v h
theorem Blk.set2 (h : Blk X n v0 v1 v2 v3 v4 v5) (v : Value) : Blk (X.setCell ⟨n, 2, none⟩ v) n v0 v1 v v3 v4 v5 := heap_setCell_same X n 2 _ _ v h
theorem Blk.set3 (h : Blk X n v0 v1 v2 v3 v4 v5) (v : Value) : Blk (X.setCell ⟨n, 3, none⟩ v) n v0 v1 v2 v v4 v5 := heap_setCell_same X n 3 _ _ v h
theorem Blk.set4 (h : Blk X n v0 v1 v2 v3 v4 v5) (v : Value) : Blk (X.setCell ⟨n, 4, none⟩ v) n v0 v1 v2 v3 v v5 := heap_setCell_same X n 4 _ _ v h
theorem Blk.set5 (h : Blk X n v0 v1 v2 v3 v4 v5) (v : Value) : Blk (X.setCell ⟨n, 5, none⟩ v) n v0 v1 v2 v3 v4 v := heap_setCell_same X n 5 _ _ v h
theorem Blk.all (h : Blk X n v0 v1 v2 v3 v4 v5) (u0 u1 u2 u3 u4 u5 : Value) : Blk ((((((X.setCell ⟨n, 0, none⟩ u0).setCell ⟨n, 1, none⟩ u1).setCell ⟨n, 2, none⟩ u2).setCell ⟨n, 3, none⟩ u3).setCell ⟨n, 4, none⟩ u4).setCell ⟨n, 5, none⟩ u5) n u0 u1 u2 u3 u4 u5 :=
  (((((h.set0 u0).set1 u1).set2 u2).set3 u3).set4 u4).set5 u5
theorem Blk.fr {rb : Nat} (h : Blk X n v0 v1 v2 v3 v4 v5) (hf : Fr (some rb) X Y) (hne : n ≠ rb) : Blk Y n v0 v1 v2 v3 v4 v5 := (hf.block (Array.getElem?_eq_some_iff.1 h).1 (by simp; exact hne)).trans h
theorem Blk.stay (h : Blk X n v0 v1 v2 v3 v4 v5) (hf : Below X.heap.size X Y) : Blk Y n v0 v1 v2 v3 v4 v5 := (hf.block n (Array.getElem?_eq_some_iff.1 h).1).trans h
theorem Blk.new (hn : n = X.heap.size) (v0 v1 v2 v3 v4 v5 : Value) : Blk (X.alloc (.cells #[v0, v1, v2, v3, v4, v5] 25)) n v0 v1 v2 v3 v4 v5 := hn ▸ heap_alloc_new X _
/-- What a method hands back of its variable, and of a slot. -/
theorem results_blk {fn : Func} {p q : Tmp} (hfn : fn.results = #[.cell p 25, .tmp q]) (tmps : Array Value) (u : Value) (hp : tmps.getD p undef = .pointer (some ⟨n, 0, none⟩)) (hq : tmps.getD q undef = u) (h : Blk X n v0 v1 v2 v3 v4 v5) :
    (results fn tmps).run Tryz.prog X = .ok (.tuple #[.agg #[v0, v1, v2, v3, v4, v5], u]) X := by
  have hp' : tmps[p]?.getD undef = .pointer (some ⟨n, 0, none⟩) := by simpa using hp
  have hq' : tmps[q]?.getD undef = u := by simpa using hq
  simp [results, hfn, hp', hq', asAddr, run_loadVar_row X n 25 25 _ (0, 0) _ h Tryz.underlying25 rfl (by kernel_rfl)]
end
theorem add_off' (g i j : Nat) : (⟨g, i, none⟩ : Addr).add j = ⟨g, i + j, none⟩ := by
  unfold Addr.add
  split <;> simp_all
end Go.Proofs.YtngfbpmabdmkeaaGreatDoor
