/- Lemmas for the laws of live (Gib Gm Icm Gnr Gkn Ggat Use Nxt Gws Gco Gcm Gb Gwo Ref Ru Rnx Grn Gpm Gwi Maps Leaf Ffm): each says its own conditions. -/
import Derived.Test.YtgdhgipofaaogaaDoorProg
import Derived.WalkKit
import Derived.WalkSmall
import Derived.Maps.AppendAt
import Derived.Maps.Range
import Derived.Lib.Hide
import Derived.Laws.MakeOwn
import Derived.ProofKit
import Derived.Test.YtgdhgipofaaogaaDoorShelf
import Derived.Lib.RowBridge
import Derived.Deep.Draws
import Derived.OwnWalk
import Derived.Deep.AppendLies
import Derived.WalkLawsBesides
import Derived.WalkSpells
import Derived.LoopTactic
import Derived.Deep.QuietTactic
import Derived.BigQuiet
import Derived.RegionTactic
import Derived.ChangeAlike
import Derived.BigRegion
import Derived.Deep.CutRange
import Derived.Deep.CutBlock
import Derived.StillTailTactics
import Derived.Deep.RegionHeld3
import Derived.Laws.CopyOwn
import Derived.Deep.RegionLaw
import Derived.Deep.DeepMust
import Derived.Deep.LoopGhost
import Derived.Sort.Grow
import Derived.IntWalk
import Derived.Maps.OwnSet
set_option linter.unusedSimpArgs false
set_option linter.unusedVariables false
namespace Go.Proofs.YtgdhgipofaaogaaDoor
open Go Go.RowKit
/-- All old blocks stand as they stood, but for 'row'. -/
def Fr (row : Option Nat) (W W' : World) : Prop := W.grownBy W' row
section
variable {row : Option Nat} {W X Y : World}
theorem Fr.refl (row : Option Nat) (W : World) : Fr row W W := World.grownBy.refl W row
theorem Fr.size (h : Fr row W X) : W.heap.size ≤ X.heap.size := World.grownBy.size h
theorem Fr.block (h : Fr row W X) {k : Nat} (hk : k < W.heap.size) (hne : some k ≠ row) : X.heap[k]? = W.heap[k]? := World.grownBy.block h k hk hne
theorem Fr.trans (h : Fr row W X) (k : Fr row X Y) : Fr row W Y := World.grownBy.trans h k
theorem Fr.alloc (h : Fr row W X) (o : Obj) : Fr row W (X.alloc o) := h.trans (World.grownBy_alloc X o row)
theorem Fr.drewN (h : Fr row W X) (n : Nat) : Fr row W (X.drewN n) := h.trans ⟨rfl, rfl, rfl, Nat.le_refl _, fun _ _ _ => rfl⟩
theorem Fr.drew (h : Fr row W X) : Fr row W X.drew := h.trans ⟨rfl, rfl, rfl, Nat.le_refl _, fun _ _ _ => rfl⟩
theorem Fr.set (h : Fr row W X) {b : Nat} (hb : some b = row ∨ W.heap.size ≤ b) (o : Nat) (v : Value) : Fr row W (X.setCell ⟨b, o, none⟩ v) := by
  have h' : W.grownBy X row := h
  suffices hs : W.grownBy (X.setCell ⟨b, o, none⟩ v) row from hs
  refine ⟨h'.os, h'.tape, h'.output, ?_, fun k hk hne => ?_⟩
  · have := h.size
    simp [World.setCell]
    exact this
  · rw [heap_setCell_other X ⟨b, o, none⟩ k v (by
      rintro rfl
      rcases hb with hb | hb
      · exact hne hb
      · exact absurd hk (by simpa using hb))]
    exact h.block hk hne
theorem Fr.step (h : Fr row W X) (k : Fr row X Y) : Fr row W Y := h.trans k
theorem Fr.of (h : Below W.heap.size W X) : Fr row W X := ⟨h.os, h.tape, h.output, h.size, fun k hk _ => h.block k hk⟩
theorem Fr.stepB (h : Fr row W X) (k : Below X.heap.size X Y) : Fr row W Y := h.trans (.of k)
theorem Fr.below (h : Fr none W X) : Below W.heap.size W X := ⟨World.grownBy.os h, World.grownBy.tape h, World.grownBy.output h, h.size, fun k hk => h.block hk (by simp)⟩
/-- Seen from before that block was there. -/
theorem Fr.fresh {V : World} {b : Nat} (h : Fr none V W) (k : Fr (some b) W X) (hb : V.heap.size ≤ b) : Fr none V X := World.grownBy.andThen h k (fun i e => by cases e; exact .inl hb)
end
/-- The world under a name. -/
theorem name_world {P : Program} {C : Code} {Q : Exit → Act → World → Prop} {a : Act} {w : World} (h : ∀ Z, Z = w → C.wp P Q a Z) : C.wp P Q a w := h w rfl
/-- An instruction's fields. -/
structure Ic where
  k : Int
  o : Int
  d : Int
  a : Int
  b : Int
  n : Int
  t : Int
/-- A block of seven cells: an instruction's variable. -/
def Ib (X : World) (m : Nat) (v0 v1 v2 v3 v4 v5 v6 : Value) : Prop := X.heap[m]? = some (.cells #[v0, v1, v2, v3, v4, v5, v6] 53 (0, 0))
section
variable {X Y : World} {m : Nat} {v0 v1 v2 v3 v4 v5 v6 : Value}
theorem Ib.facts (h : Ib X m v0 v1 v2 v3 v4 v5 v6) : m < X.heap.size ∧ X.cell? ⟨m, 0, none⟩ = some v0 ∧ X.cell? ⟨m, 1, none⟩ = some v1 ∧ X.cell? ⟨m, 2, none⟩ = some v2 ∧ X.cell? ⟨m, 3, none⟩ = some v3 ∧ X.cell? ⟨m, 4, none⟩ = some v4 ∧ X.cell? ⟨m, 5, none⟩ = some v5 ∧ X.cell? ⟨m, 6, none⟩ = some v6 ∧
    X.frozen? ⟨m, 0, none⟩ = false ∧ X.frozen? ⟨m, 1, none⟩ = false ∧ X.frozen? ⟨m, 2, none⟩ = false ∧ X.frozen? ⟨m, 3, none⟩ = false ∧ X.frozen? ⟨m, 4, none⟩ = false ∧ X.frozen? ⟨m, 5, none⟩ = false ∧ X.frozen? ⟨m, 6, none⟩ = false := by
  refine ⟨(Array.getElem?_eq_some_iff.1 h).1, ?_, ?_, ?_, ?_, ?_, ?_, ?_, frozen_of_row X m _ _ _ h, frozen_of_row X m _ _ _ h, frozen_of_row X m _ _ _ h, frozen_of_row X m _ _ _ h, frozen_of_row X m _ _ _ h, frozen_of_row X m _ _ _ h, frozen_of_row X m _ _ _ h⟩ <;> rw [cell_of_row _ _ _ _ _ _ h] <;> rfl
theorem Ib.alloc (h : Ib X m v0 v1 v2 v3 v4 v5 v6) (o : Obj) : Ib (X.alloc o) m v0 v1 v2 v3 v4 v5 v6 := (Below.heap_alloc X o m (Array.getElem?_eq_some_iff.1 h).1).trans h
theorem Ib.drew (h : Ib X m v0 v1 v2 v3 v4 v5 v6) : Ib X.drew m v0 v1 v2 v3 v4 v5 v6 := h
theorem Ib.drewN (h : Ib X m v0 v1 v2 v3 v4 v5 v6) (q : Nat) : Ib (X.drewN q) m v0 v1 v2 v3 v4 v5 v6 := h
theorem Ib.setO (h : Ib X m v0 v1 v2 v3 v4 v5 v6) {b : Nat} (hne : m ≠ b) (o : Nat) (v : Value) : Ib (X.setCell ⟨b, o, none⟩ v) m v0 v1 v2 v3 v4 v5 v6 := (heap_setCell_other X ⟨b, o, none⟩ m v hne).trans h
theorem Ib.set0 (h : Ib X m v0 v1 v2 v3 v4 v5 v6) (v : Value) : Ib (X.setCell ⟨m, 0, none⟩ v) m v v1 v2 v3 v4 v5 v6 := heap_setCell_same X m 0 _ _ v h
theorem Ib.set1 (h : Ib X m v0 v1 v2 v3 v4 v5 v6) (v : Value) : Ib (X.setCell ⟨m, 1, none⟩ v) m v0 v v2 v3 v4 v5 v6 := heap_setCell_same X m 1 _ _ v h
theorem Ib.set2 (h : Ib X m v0 v1 v2 v3 v4 v5 v6) (v : Value) : Ib (X.setCell ⟨m, 2, none⟩ v) m v0 v1 v v3 v4 v5 v6 := heap_setCell_same X m 2 _ _ v h
theorem Ib.set3 (h : Ib X m v0 v1 v2 v3 v4 v5 v6) (v : Value) : Ib (X.setCell ⟨m, 3, none⟩ v) m v0 v1 v2 v v4 v5 v6 := heap_setCell_same X m 3 _ _ v h
theorem Ib.set4 (h : Ib X m v0 v1 v2 v3 v4 v5 v6) (v : Value) : Ib (X.setCell ⟨m, 4, none⟩ v) m v0 v1 v2 v3 v v5 v6 := heap_setCell_same X m 4 _ _ v h
theorem Ib.set5 (h : Ib X m v0 v1 v2 v3 v4 v5 v6) (v : Value) : Ib (X.setCell ⟨m, 5, none⟩ v) m v0 v1 v2 v3 v4 v v6 := heap_setCell_same X m 5 _ _ v h
theorem Ib.set6 (h : Ib X m v0 v1 v2 v3 v4 v5 v6) (v : Value) : Ib (X.setCell ⟨m, 6, none⟩ v) m v0 v1 v2 v3 v4 v5 v := heap_setCell_same X m 6 _ _ v h
theorem Ib.all (h : Ib X m v0 v1 v2 v3 v4 v5 v6) (u0 u1 u2 u3 u4 u5 u6 : Value) : Ib (((((((X.setCell ⟨m, 0, none⟩ u0).setCell ⟨m, 1, none⟩ u1).setCell ⟨m, 2, none⟩ u2).setCell ⟨m, 3, none⟩ u3).setCell ⟨m, 4, none⟩ u4).setCell ⟨m, 5, none⟩ u5).setCell ⟨m, 6, none⟩ u6) m u0 u1 u2 u3 u4 u5 u6 :=
  ((((((h.set0 u0).set1 u1).set2 u2).set3 u3).set4 u4).set5 u5).set6 u6
theorem Ib.stay (h : Ib X m v0 v1 v2 v3 v4 v5 v6) (hf : Below X.heap.size X Y) : Ib Y m v0 v1 v2 v3 v4 v5 v6 := (hf.block m (Array.getElem?_eq_some_iff.1 h).1).trans h
theorem Ib.new (hn : m = X.heap.size) (v0 v1 v2 v3 v4 v5 v6 : Value) : Ib (X.alloc (.cells #[v0, v1, v2, v3, v4, v5, v6] 53)) m v0 v1 v2 v3 v4 v5 v6 := hn ▸ heap_alloc_new X _
end
open Go Go.RowKit
theorem below2 (w : World) (o p : Obj) : Below w.heap.size w ((w.alloc o).alloc p) := ((Below.refl _ _).alloc (Nat.le_refl _) _).alloc (by simp) _
theorem below1 (w : World) (o : Obj) : Below w.heap.size w (w.alloc o) := (Below.refl _ _).alloc (Nat.le_refl _) _
open Go Go.RowKit
theorem below_ch {W0 W w : World} (h : Below W0.heap.size W0 W) (k : Below W.heap.size W w) : Below W0.heap.size W0 w := h.trans (k.mono h.size)
theorem below_drewN {B : Nat} {W X : World} (h : Below B W X) (n : Nat) : Below B W (X.drewN n) := ⟨h.os, h.tape, h.output, h.size, h.block⟩
end Go.Proofs.YtgdhgipofaaogaaDoor
namespace Go.Proofs.YtgdhgipofaaogaaDoor
open Go Go.RowKit
/-- All old blocks stand as they stood, but for those of S. -/
structure Ch (S : Nat → Prop) (W X : World) : Prop where
  os : X.os = W.os
  tape : X.tape = W.tape
  output : X.output = W.output
  size : W.heap.size ≤ X.heap.size
  block : ∀ k, k < W.heap.size → ¬ S k → X.heap[k]? = W.heap[k]?
section
variable {S T : Nat → Prop} {W X Y : World}
theorem Ch.refl (S : Nat → Prop) (W : World) : Ch S W W := ⟨rfl, rfl, rfl, Nat.le_refl _, fun _ _ _ => rfl⟩
theorem Ch.trans (h : Ch S W X) (k : Ch S X Y) : Ch S W Y :=
  ⟨k.os.trans h.os, k.tape.trans h.tape, k.output.trans h.output, Nat.le_trans h.size k.size, fun i hi hn => (k.block i (Nat.lt_of_lt_of_le hi h.size) hn).trans (h.block i hi hn)⟩
theorem Ch.of (h : Below W.heap.size W X) : Ch S W X := ⟨h.os, h.tape, h.output, h.size, fun k hk _ => h.block k hk⟩
theorem Ch.alloc (h : Ch S W X) (o : Obj) : Ch S W (X.alloc o) := h.trans (.of ((Below.refl _ _).alloc (Nat.le_refl _) o))
theorem Ch.drewN (h : Ch S W X) (n : Nat) : Ch S W (X.drewN n) := h.trans ⟨rfl, rfl, rfl, Nat.le_refl _, fun _ _ _ => rfl⟩
theorem Ch.stepB (h : Ch S W X) (k : Below X.heap.size X Y) : Ch S W Y := h.trans (.of k)
theorem Ch.set (h : Ch S W X) {b : Nat} (hb : S b ∨ W.heap.size ≤ b) (o : Nat) (v : Value) : Ch S W (X.setCell ⟨b, o, none⟩ v) := by
  refine ⟨h.os, h.tape, h.output, by simp [World.setCell]; exact h.size, fun k hk hn => ?_⟩
  rw [heap_setCell_other X ⟨b, o, none⟩ k v (by
    rintro rfl
    rcases hb with hb | hb
    · exact hn hb
    · exact absurd hk (by simpa using hb))]
  exact h.block k hk hn
theorem Ch.grown (h : Ch S W X) {o : Option Nat} (k : X.grownBy Y o) (hb : ∀ b, o = some b → S b ∨ W.heap.size ≤ b) : Ch S W Y :=
  ⟨k.os.trans h.os, k.tape.trans h.tape, k.output.trans h.output, Nat.le_trans h.size k.size, fun i hi hn => (k.block i (Nat.lt_of_lt_of_le hi h.size) (by
    intro e
    rcases hb i e.symm with hb | hb
    · exact hn hb
    · omega)).trans (h.block i hi hn)⟩
theorem Ch.mono (h : Ch S W X) (hs : ∀ k, k < W.heap.size → S k → T k) : Ch T W X := ⟨h.os, h.tape, h.output, h.size, fun k hk hn => h.block k hk fun e => hn (hs k hk e)⟩
/-- Seen from before that was there. -/
theorem Ch.fresh {V : World} (h : Ch T V W) (k : Ch S W X) (hs : ∀ b, b < V.heap.size → S b → T b) : Ch T V X :=
  ⟨k.os.trans h.os, k.tape.trans h.tape, k.output.trans h.output, Nat.le_trans h.size k.size, fun i hi hn => (k.block i (Nat.lt_of_lt_of_le hi h.size) fun e => hn (hs i hi e)).trans (h.block i hi hn)⟩
theorem Ch.below {B : Nat} (h : Ch S W X) (hB : B ≤ W.heap.size) (hs : ∀ b, b < B → ¬ S b) : Below B W X := ⟨h.os, h.tape, h.output, h.size, fun k hk => h.block k (Nat.lt_of_lt_of_le hk hB) (hs k hk)⟩
theorem Ch.cell (h : Ch S W X) {b o : Nat} (hb : b < W.heap.size) (hn : ¬ S b) : X.cell? ⟨b, o, none⟩ = W.cell? ⟨b, o, none⟩ := World.cell?_of_block (a := ⟨b, o, none⟩) (h.block b hb hn)
end
theorem Ch.like {S : Nat → Prop} {W X Y : World} (h : Ch S W X) (e : Y.heap = X.heap) (e1 : Y.os = X.os) (e2 : Y.tape = X.tape) (e3 : Y.output = X.output) : Ch S W Y := ⟨e1.trans h.os, e2.trans h.tape, e3.trans h.output, by rw [e]; exact h.size, fun k a b => by rw [e]; exact h.block k a b⟩
theorem below_like {B : Nat} {W X Y : World} (h : Below B W X) (e : Y.heap = X.heap) (e1 : Y.os = X.os) (e2 : Y.tape = X.tape) (e3 : Y.output = X.output) : Below B W Y := ⟨e1.trans h.os, e2.trans h.tape, e3.trans h.output, by rw [e]; exact h.size, fun k a => by rw [e]; exact h.block k a⟩
/-- A number of 64 bits. -/
def In6 (n : Int) : Prop := -9223372036854775808 ≤ n ∧ n ≤ 9223372036854775807
def Ok6 (x : Ic) : Prop := In6 x.k ∧ In6 x.o ∧ In6 x.d ∧ In6 x.a ∧ In6 x.b ∧ In6 x.n ∧ In6 x.t
/-- An instruction's seven cells, from one on. -/
structure At7 (w : World) (g q : Nat) (x : Ic) : Prop where
  k : w.cell? ⟨g, q, none⟩ = some (.int .i64 x.k)
  o : w.cell? ⟨g, q + 1, none⟩ = some (.int .i64 x.o)
  d : w.cell? ⟨g, q + 2, none⟩ = some (.int .i64 x.d)
  a : w.cell? ⟨g, q + 3, none⟩ = some (.int .i64 x.a)
  b : w.cell? ⟨g, q + 4, none⟩ = some (.int .i64 x.b)
  n : w.cell? ⟨g, q + 5, none⟩ = some (.int .i64 x.n)
  t : w.cell? ⟨g, q + 6, none⟩ = some (.int .i64 x.t)
theorem At7.stay {W W' : World} {g q B : Nat} {x : Ic} (h : At7 W g q x) (hg : g < B) (hb : Below B W W') : At7 W' g q x where
  k := (hb.cell (p := ⟨g, q, none⟩) hg).trans h.k
  o := (hb.cell (p := ⟨g, q + 1, none⟩) hg).trans h.o
  d := (hb.cell (p := ⟨g, q + 2, none⟩) hg).trans h.d
  a := (hb.cell (p := ⟨g, q + 3, none⟩) hg).trans h.a
  b := (hb.cell (p := ⟨g, q + 4, none⟩) hg).trans h.b
  n := (hb.cell (p := ⟨g, q + 5, none⟩) hg).trans h.n
  t := (hb.cell (p := ⟨g, q + 6, none⟩) hg).trans h.t
/-- A code in memory. -/
def CodeAt (w : World) (p : Option Addr) (c : List Ic) : Prop := ∀ i x, c[i]? = some x → ∃ g o, p = some ⟨g, o, none⟩ ∧ g < w.heap.size ∧ At7 w g (o + i * 7) x ∧ Ok6 x
theorem CodeAt.stay {W W' : World} {p : Option Addr} {c : List Ic} (h : CodeAt W p c) (hb : Below W.heap.size W W') : CodeAt W' p c := fun i x hx => by
  obtain ⟨g, o, h1, h2, h3, h4⟩ := h i x hx
  exact ⟨g, o, h1, Nat.lt_of_lt_of_le h2 hb.size, h3.stay h2 hb, h4⟩
/-- A function with another value at one place. -/
def upd {α : Type} (f : Nat → α) (i : Nat) (x : α) : Nat → α := fun j => if j = i then x else f j
section
variable {α : Type} {f : Nat → α} {i j : Nat} {x : α}
theorem upd_at (f : Nat → α) (i : Nat) (x : α) : upd f i x i = x := if_pos rfl
theorem upd_of (h : j ≠ i) : upd f i x j = f j := if_neg h
end
theorem upd_next {α : Type} (g : Nat → α) (z : α) (j : Nat) : upd (fun i => if i < j then g i else z) j (g j) = fun i => if i < j + 1 then g i else z := by
  funext i
  unfold upd
  rcases Nat.lt_trichotomy i j with h | h | h
  · simp only
    rw [if_neg (by omega), if_pos h, if_pos (by omega)]
  · subst h
    simp
  · simp only
    rw [if_neg (by omega), if_neg (by omega), if_neg (by omega)]
/-- Numbers, and truths, as values. -/
def iv (f : Nat → Int) : Nat → Value := fun i => .int .i64 (f i)
def bv (f : Nat → Bool) : Nat → Value := fun i => .bool (f i)
theorem iv_upd (f : Nat → Int) (i : Nat) (x : Int) : upd (iv f) i (.int .i64 x) = iv (upd f i x) := by
  funext j
  unfold upd iv
  split <;> simp [*]
theorem bv_upd (f : Nat → Bool) (i : Nat) (x : Bool) : upd (bv f) i (.bool x) = bv (upd f i x) := by
  funext j
  unfold upd bv
  split <;> simp [*]
/-- A row as a list. -/
def rw_ (m : Nat) (F : Nat → Value) : List Value := (List.range m).map F
theorem rw_len (m : Nat) (F : Nat → Value) : (rw_ m F).length = m := by simp [rw_]
theorem rw_get {m i : Nat} (F : Nat → Value) (h : i < m) : (rw_ m F)[i]? = some (F i) := by simp [rw_, h]
theorem rw_none {m i : Nat} (F : Nat → Value) (h : m ≤ i) : (rw_ m F)[i]? = none := by simp [rw_, h]
theorem rw_same {m : Nat} {F G : Nat → Value} (h : ∀ i, i < m → F i = G i) : rw_ m F = rw_ m G := List.map_congr_left fun i hi => h i (List.mem_range.1 hi)
theorem rw_succ (m : Nat) (F : Nat → Value) (x : Value) : rw_ m F ++ [x] = rw_ (m + 1) (upd F m x) := by
  apply List.ext_getElem?
  intro j
  rcases Nat.lt_trichotomy j m with h | h | h
  · rw [List.getElem?_append_left (by rw [rw_len]; exact h), rw_get _ h, rw_get _ (by omega), upd_of (by omega)]
  · subst h
    rw [List.getElem?_append_right (by rw [rw_len]; exact Nat.le_refl _), rw_len, rw_get _ (by omega), upd_at]
    simp
  · rw [List.getElem?_append_right (by rw [rw_len]; omega), rw_none _ (by omega), rw_len, List.getElem?_eq_none (by simp; omega)]
/-- A row of its full length. -/
def FV (T : TypeId) (W : World) (b m : Nat) (F : Nat → Value) : Prop := W.heap[b]? = some (.cells (rw_ m F).toArray T (0, 0))
section
variable {T : TypeId} {W X : World} {b m i : Nat} {F G : Nat → Value}
theorem FV.lt (h : FV T W b m F) : b < W.heap.size := (Array.getElem?_eq_some_iff.1 h).1
theorem FV.cell (h : FV T W b m F) (hi : i < m) : W.cell? ⟨b, i, none⟩ = some (F i) := by
  rw [cell_of_row W b i _ _ _ h]
  simp [rw_, hi]
theorem FV.frozen (h : FV T W b m F) (i : Nat) : W.frozen? ⟨b, i, none⟩ = false := frozen_of_row W b i _ _ h
theorem FV.of_heap (h : FV T W b m F) (e : X.heap[b]? = W.heap[b]?) : FV T X b m F := e.trans h
theorem FV.stay (h : FV T W b m F) (hb : Below W.heap.size W X) : FV T X b m F := (hb.block b h.lt).trans h
theorem FV.ch {S : Nat → Prop} (h : FV T W b m F) (hc : Ch S W X) (hn : ¬ S b) : FV T X b m F := (hc.block b h.lt hn).trans h
theorem FV.to (h : FV T W b m F) (e : ∀ i, i < m → F i = G i) : FV T W b m G := by
  unfold FV at h ⊢
  rw [h, rw_same e]
theorem FV.set (h : FV T W b m F) (i : Nat) (x : Value) : FV T (W.setCell ⟨b, i, none⟩ x) b m (upd F i x) := by
  have := heap_setCell_same W b i _ _ x h
  unfold FV
  rw [this]
  congr 2
  apply Array.ext_getElem?
  intro j
  simp only [Array.getElem?_setIfInBounds, List.size_toArray, rw_len, List.getElem?_toArray]
  by_cases e : i = j
  · subst e
    by_cases h1 : i < m
    · simp [h1, rw_get, upd_at]
    · simp only [if_true, if_neg h1]
      rw [rw_none _ (by omega)]
  · rw [if_neg e]
    by_cases h1 : j < m
    · rw [rw_get _ h1, rw_get _ h1, upd_of (fun h => e h.symm)]
    · rw [rw_none _ (by omega), rw_none _ (by omega)]
theorem FV.setO (h : FV T W b m F) {c : Nat} (hn : b ≠ c) (i : Nat) (x : Value) : FV T (W.setCell ⟨c, i, none⟩ x) b m F := (heap_setCell_other W ⟨c, i, none⟩ b x hn).trans h
theorem FV.alloc (h : FV T W b m F) (o : Obj) : FV T (W.alloc o) b m F := (Below.heap_alloc W o b h.lt).trans h
theorem FV.new {cs : Array Value} (hb : b = W.heap.size) (hc : cs.toList = rw_ m F) : FV T (W.alloc (.cells cs T)) b m F := by
  subst hb
  unfold FV
  rw [← hc]
  exact heap_alloc_new W _
end
/-- A row that grows. -/
def GV (T : TypeId) (B : Nat) (W : World) (v : Value) (k : Nat) (F : Nat → Value) : Prop := W.ownsRow B T 1 v k (rw_ k F)
section
variable {T : TypeId} {B : Nat} {W X : World} {v : Value} {k i : Nat} {F G : Nat → Value}
theorem GV.nil (T : TypeId) (B : Nat) (W : World) (F : Nat → Value) : GV T B W (.slice none 0 0) 0 F := World.ownsRow_nil W B _ _
theorem GV.lt (h : GV T B W v k F) : ∀ g, v.ownBlock = some g → B ≤ g ∧ g < W.heap.size := World.ownsRow.lt h
theorem GV.open (h : GV T B W v k F) : ∃ p cap, v = .slice p k cap ∧ ((p = none ∧ k = 0) ∨ ∃ g, p = some ⟨g, 0, none⟩ ∧ v.ownBlock = some g ∧ g < W.heap.size ∧ B ≤ g ∧ k ≤ cap ∧ (∀ i, W.frozen? ⟨g, i, none⟩ = false) ∧ ∀ i, i < k → W.cell? ⟨g, i, none⟩ = some (F i)) := by
  rcases h.2 with ⟨rfl, rfl⟩ | ⟨g, cap, cur, rfl, hB, hg, hc, _, _, ht⟩
  · exact ⟨none, 0, rfl, .inl ⟨rfl, rfl⟩⟩
  · refine ⟨_, cap, rfl, .inr ⟨g, rfl, rfl, (Array.getElem?_eq_some_iff.1 hg).1, hB, hc, fun i => frozen_of_row W g i _ _ hg, fun i hi => ?_⟩⟩
    rw [cell_of_row W g i cur _ _ hg]
    have h1 := congrArg (·[i]?) ht
    simp only [List.getElem?_take] at h1
    rw [if_pos (by omega), rw_get _ hi] at h1
    simpa using h1
theorem GV.of_heap (h : GV T B W v k F) (e : ∀ g, v.ownBlock = some g → X.heap[g]? = W.heap[g]?) : GV T B X v k F := by
  refine ⟨h.1, ?_⟩
  rcases h.2 with h0 | ⟨g, cap, cur, rfl, hB, hg, r⟩
  · exact .inl h0
  · exact .inr ⟨g, cap, cur, rfl, hB, (e g rfl).trans hg, r⟩
theorem GV.stay (h : GV T B W v k F) (hb : Below W.heap.size W X) : GV T B X v k F := h.of_heap fun g e => hb.block g (h.lt g e).2
theorem GV.ch {S : Nat → Prop} (h : GV T B W v k F) (hc : Ch S W X) (hn : ∀ g, v.ownBlock = some g → ¬ S g) : GV T B X v k F := h.of_heap fun g e => hc.block g (h.lt g e).2 (hn g e)
theorem GV.setO (h : GV T B W v k F) {c : Nat} (hn : v.ownBlock ≠ some c) (i : Nat) (x : Value) : GV T B (W.setCell ⟨c, i, none⟩ x) v k F := h.of_heap fun g e => heap_setCell_other W ⟨c, i, none⟩ g x (fun e2 => hn (e.trans (congrArg some e2)))
theorem GV.alloc (h : GV T B W v k F) (o : Obj) : GV T B (W.alloc o) v k F := World.ownsRow.alloc h o
theorem GV.to (h : GV T B W v k F) (e : ∀ i, i < k → F i = G i) : GV T B W v k G := by
  unfold GV at h ⊢
  rw [← rw_same e]
  exact h
theorem GV.mono {B' : Nat} (h : GV T B W v k F) (hb : B' ≤ B) : GV T B' W v k F := by
  refine ⟨h.1, ?_⟩
  rcases h.2 with h0 | ⟨g, cap, cur, hv, hB, r⟩
  · exact .inl h0
  · exact .inr ⟨g, cap, cur, hv, Nat.le_trans hb hB, r⟩
theorem GV.more {x : Value} (h : W.ownsRow B T 1 v (k + 1) (rw_ k F ++ [x])) : GV T B W v (k + 1) (upd F k x) := by
  unfold GV
  rw [← rw_succ]
  exact h
/-- Cut to fewer. -/
theorem GV.cut {k' : Nat} {p : Option Addr} {cap : Nat} (h : GV T B W (.slice p k cap) k F) (hk : k' ≤ k) : GV T B W (.slice p k' cap) k' F := by
  refine ⟨by simp [rw_], ?_⟩
  rcases h.2 with ⟨h0, h1⟩ | ⟨g, cap', cur, hv, hB, hg, hc, hm, hs, ht⟩
  · cases h0
    exact .inl ⟨by rw [show k' = 0 by omega], by omega⟩
  · cases hv
    refine .inr ⟨g, cap, cur, rfl, hB, hg, by omega, hm, hs, ?_⟩
    have h1 := congrArg (List.take k') ht
    rw [List.take_take, Nat.mul_one, Nat.min_eq_left hk] at h1
    rw [Nat.mul_one, h1]
    apply List.ext_getElem?
    intro j
    rw [List.getElem?_take]
    by_cases hj : j < k'
    · rw [if_pos hj, rw_get _ hj, rw_get _ (by omega)]
    · rw [if_neg hj, rw_none _ (by omega)]
end
/-- A row that is read. -/
def RV (W : World) (p : Option Addr) (k : Nat) (F : Nat → Value) : Prop := ∀ i, i < k → ∃ g o, p = some ⟨g, o, none⟩ ∧ g < W.heap.size ∧ W.cell? ⟨g, o + i, none⟩ = some (F i)
section
variable {W X : World} {p : Option Addr} {k : Nat} {F G : Nat → Value}
theorem RV.stay (h : RV W p k F) (hb : Below W.heap.size W X) : RV X p k F := fun i hi => by
  obtain ⟨g, o, e, hl, hc⟩ := h i hi
  exact ⟨g, o, e, Nat.lt_of_lt_of_le hl hb.size, (hb.cell (p := ⟨g, _, none⟩) hl).trans hc⟩
theorem RV.ch {S : Nat → Prop} (h : RV W p k F) (hc : Ch S W X) (hn : ∀ a, p = some a → ¬ S a.block) : RV X p k F := fun i hi => by
  obtain ⟨g, o, rfl, hl, h1⟩ := h i hi
  exact ⟨g, o, rfl, Nat.lt_of_lt_of_le hl hc.size, (hc.cell hl (hn _ rfl)).trans h1⟩
theorem RV.to (h : RV W p k F) (e : ∀ i, i < k → F i = G i) : RV W p k G := fun i hi => by
  obtain ⟨g, o, e1, hl, hc⟩ := h i hi
  exact ⟨g, o, e1, hl, by rw [hc, e i hi]⟩
theorem RV.none (W : World) (p : Option Addr) (F : Nat → Value) : RV W p 0 F := fun i hi => absurd hi (Nat.not_lt_zero _)
theorem RV.at {g o i : Nat} (h : RV W (some ⟨g, o, .none⟩) k F) (hi : i < k) : W.cell? ⟨g, o + i, .none⟩ = some (F i) := by
  obtain ⟨g', o', e, _, hc⟩ := h i hi
  cases e
  exact hc
theorem FV.rv {T : TypeId} {b : Nat} (h : FV T W b k F) : RV W (some ⟨b, 0, .none⟩) k F := fun i hi => ⟨b, 0, rfl, h.lt, by rw [Nat.zero_add]; exact h.cell hi⟩
theorem GV.rv {T : TypeId} {B : Nat} {v : Value} (h : GV T B W v k F) : ∃ p cap, v = .slice p k cap ∧ RV W p k F ∧ (∀ a, p = some a → B ≤ a.block ∧ a.block < W.heap.size) := by
  obtain ⟨p, cap, rfl, h1⟩ := h.open
  refine ⟨p, cap, rfl, ?_, ?_⟩
  · rcases h1 with ⟨_, rfl⟩ | ⟨g, rfl, _, hl, _, _, _, hc⟩
    · exact RV.none _ _ _
    · exact fun i hi => ⟨g, 0, rfl, hl, by rw [Nat.zero_add]; exact hc i hi⟩
  · rcases h1 with ⟨rfl, _⟩ | ⟨g, rfl, _, hl, hB, _⟩
    · intro a e; cases e
    · intro a e; cases e; exact ⟨hB, hl⟩
end
/-- What is made of zeros. -/
theorem made_one (z : Value) (hz : z.cells = #[z]) (n : Nat) : madeCells z.cells n = (rw_ n fun _ => z).toArray := by
  unfold madeCells
  rw [hz]
  apply Array.ext_getElem?
  intro j
  by_cases h : j < n
  · simp [rw_, h, Nat.mod_one]
  · simp [rw_, h, Nat.mod_one]
theorem info_int : (Tryd.prog.info? 3).map (fun i => (i.zero, i.size, i.bytes)) = some (some (.int .i64 0), 1, 8) := by kernel_rfl
theorem info_bool : (Tryd.prog.info? 4).map (fun i => (i.zero, i.size, i.bytes)) = some (some (.bool false), 1, 1) := by kernel_rfl
theorem info_ints : (Tryd.prog.info? 64).map (fun i => (i.zero, i.size, i.bytes)) = some (some (.slice none 0 0), 1, 24) := by kernel_rfl
theorem make_of {t e : TypeId} {z : Value} {bytes : Nat} (ht : Tryd.prog.underlying t = some (.slice e)) (hi : (Tryd.prog.info? e).map (fun i => (i.zero, i.size, i.bytes)) = some (some z, 1, bytes)) (hz : z.cells = #[z]) (m : Nat) (hm : m ≤ 10000001) (hb : bytes ≤ 100) (W : World) :
    (Instr.makeSlice t (.int .i64 m) (.int .i64 m)).run Tryd.prog W = .ok (.slice (some ⟨W.heap.size, 0, none⟩) m m) (W.alloc (.cells (rw_ m fun _ => z).toArray e)) := by
  obtain ⟨i0, h1, h2, h3, h4⟩ := info_parts hi
  have hbm : (i0.bytes : Int) * m ≤ 281474976710656 := by
    rw [h4]
    have h5 : bytes * m ≤ 100 * 10000001 := Nat.mul_le_mul hb hm
    have h6 : ((bytes * m : Nat) : Int) ≤ 281474976710656 := by omega
    simpa using h6
  have := run_makeSlice (P := Tryd.prog) W t e i0 z ht h1 h2 .i64 .i64 m m (by omega) (by omega) (Nat.le_trans (by rw [h3]; simp; exact hm) (by decide)) hbm (by omega)
  rw [this, h3, made_one z hz]
  simp
theorem make_i (m : Nat) (hm : m ≤ 10000001) (W : World) : (Instr.makeSlice 64 (.int .i64 m) (.int .i64 m)).run Tryd.prog W = .ok (.slice (some ⟨W.heap.size, 0, none⟩) m m) (W.alloc (.cells (rw_ m fun _ => .int .i64 0).toArray 3)) := make_of Tryd.underlying64 info_int rfl m hm (by decide) W
theorem make_ii (m : Nat) (hm : m ≤ 10000001) (W : World) : (Instr.makeSlice 65 (.int .i64 m) (.int .i64 m)).run Tryd.prog W = .ok (.slice (some ⟨W.heap.size, 0, none⟩) m m) (W.alloc (.cells (rw_ m fun _ => .slice none 0 0).toArray 64)) := make_of Tryd.underlying65 info_ints rfl m hm (by decide) W
/-- Whose a block is: its number's sign. -/
def Tg (own : Nat → Nat) (v : Value) (t : Nat) : Prop := ∀ g, v.ownBlock = some g → own g = t
/-- All blocks from C on bear sign t. -/
def tag (own : Nat → Nat) (C t : Nat) : Nat → Nat := fun b => if C ≤ b then t else own b
theorem tag_lt {own : Nat → Nat} {C t b : Nat} (h : b < C) : tag own C t b = own b := if_neg (by omega)
theorem tag_ge {own : Nat → Nat} {C t b : Nat} (h : C ≤ b) : tag own C t b = t := if_pos h
theorem Tg.old {own : Nat → Nat} {v : Value} {s t C : Nat} (h : Tg own v s) (hl : ∀ g, v.ownBlock = some g → g < C) : Tg (tag own C t) v s := fun g e => by rw [tag_lt (hl g e)]; exact h g e
theorem Tg.new {own : Nat → Nat} {v v' : Value} {t C : Nat} (h : Tg own v t) (hl : ∀ g, v.ownBlock = some g → g < C) (ha : v'.ownBlock = v.ownBlock ∨ ∃ g, v'.ownBlock = some g ∧ C ≤ g) : Tg (tag own C t) v' t := fun g e => by
  rcases ha with ha | ⟨g', ha, hC⟩
  · rw [ha] at e
    rw [tag_lt (hl g e)]
    exact h g e
  · rw [ha] at e
    cases e
    exact tag_ge hC
end Go.Proofs.YtgdhgipofaaogaaDoor
namespace Go.Proofs.YtgdhgipofaaogaaDoor
namespace Gm
end Gm
/-- One more number in its place, if it isn't there. -/
def insG : List Int → Int → List Int
  | [], n => [n]
  | x :: r, n => if x < n then x :: insG r n else if x = n then x :: r else n :: x :: r
/-- Numbers, rising, each once. -/
def srt (l : List Int) : List Int := l.foldl insG []
abbrev Up (l : List Int) : Prop := l.Pairwise (· < ·)
theorem mem_insG {l : List Int} {n x : Int} : x ∈ insG l n ↔ x = n ∨ x ∈ l := by
  induction l with
  | nil => simp [insG]
  | cons y r ih =>
    unfold insG
    by_cases h : y < n
    · rw [if_pos h]
      simp only [List.mem_cons, ih]
      constructor
      · rintro (h | h | h)
        · exact .inr (.inl h)
        · exact .inl h
        · exact .inr (.inr h)
      · rintro (h | h | h)
        · exact .inr (.inl h)
        · exact .inl h
        · exact .inr (.inr h)
    · rw [if_neg h]
      by_cases e : y = n
      · rw [if_pos e]
        simp only [List.mem_cons]
        constructor
        · rintro (h | h)
          · exact .inr (.inl h)
          · exact .inr (.inr h)
        · rintro (h | h | h)
          · exact .inl (h.trans e.symm)
          · exact .inl h
          · exact .inr h
      · rw [if_neg e]
        simp only [List.mem_cons]
theorem up_insG {l : List Int} {n : Int} (h : Up l) : Up (insG l n) := by
  induction l with
  | nil => exact List.pairwise_singleton _ _
  | cons y r ih =>
    have h1 := List.pairwise_cons.1 h
    unfold insG
    by_cases hlt : y < n
    · rw [if_pos hlt]
      refine List.pairwise_cons.2 ⟨fun z hz => ?_, ih h1.2⟩
      rcases mem_insG.1 hz with rfl | hz
      · exact hlt
      · exact h1.1 z hz
    · rw [if_neg hlt]
      by_cases e : y = n
      · rw [if_pos e]
        exact h
      · rw [if_neg e]
        refine List.pairwise_cons.2 ⟨fun z hz => ?_, h⟩
        rcases List.mem_cons.1 hz with rfl | hz
        · omega
        · have := h1.1 z hz
          omega
theorem insG_len (l : List Int) (n : Int) : (insG l n).length ≤ l.length + 1 := by
  induction l with
  | nil => exact Nat.le_refl _
  | cons y r ih =>
    unfold insG
    split
    · simp only [List.length_cons]
      omega
    · split
      · simp
      · simp
theorem fold_facts (l a : List Int) (h : Up a) : Up (l.foldl insG a) ∧ (l.foldl insG a).length ≤ a.length + l.length ∧ ∀ x, x ∈ l.foldl insG a ↔ x ∈ l ∨ x ∈ a := by
  induction l generalizing a with
  | nil => exact ⟨h, by simp, fun x => by simp⟩
  | cons y r ih =>
    obtain ⟨h1, h2, h3⟩ := ih (insG a y) (up_insG h)
    have h4 := insG_len a y
    refine ⟨h1, by simp only [List.foldl_cons, List.length_cons]; omega, fun x => ?_⟩
    simp only [List.foldl_cons, List.mem_cons]
    rw [h3 x, mem_insG]
    constructor
    · rintro (h | h | h)
      · exact .inl (.inr h)
      · exact .inl (.inl h)
      · exact .inr h
    · rintro ((h | h) | h)
      · exact .inr (.inl h)
      · exact .inl h
      · exact .inr (.inr h)
theorem up_srt (l : List Int) : Up (srt l) := (fold_facts l [] List.Pairwise.nil).1
theorem mem_srt {l : List Int} {x : Int} : x ∈ srt l ↔ x ∈ l := by
  have := (fold_facts l [] List.Pairwise.nil).2.2 x
  simpa [srt] using this
theorem srt_len (l : List Int) : (srt l).length ≤ l.length := by
  have := (fold_facts l [] List.Pairwise.nil).2.1
  simpa [srt] using this
theorem srt_take (l : List Int) (k : Nat) (x : Int) (h : l[k]? = some x) : srt (l.take (k + 1)) = insG (srt (l.take k)) x := by
  unfold srt
  rw [List.take_add_one, h]
  simp [List.foldl_append]
theorem up_le {l : List Int} (h : Up l) : l.Pairwise (· ≤ ·) := h.imp (fun h => by omega)
/-- How it stands with what a search by halves tells: where it is, and whether it is there. -/
theorem count_ge {l : List Int} {n : Int} (h : ∀ x ∈ l, n ≤ x) : l.countP (· < n) = 0 := by
  rw [List.countP_eq_zero]
  intro x hx
  have := h x hx
  simp
  omega
theorem insG_at {l : List Int} {n : Int} (h : Up l) : insG l n = if l.contains n then l else l.take (l.countP (· < n)) ++ n :: l.drop (l.countP (· < n)) := by
  induction l with
  | nil => rfl
  | cons y r ih =>
    have h1 := List.pairwise_cons.1 h
    unfold insG
    by_cases hlt : y < n
    · rw [if_pos hlt, ih h1.2, List.countP_cons_of_pos (by simpa using hlt)]
      have e : (y :: r).contains n = r.contains n := by
        rw [Bool.eq_iff_iff, List.contains_iff_mem, List.contains_iff_mem, List.mem_cons]
        constructor
        · rintro (rfl | h)
          · omega
          · exact h
        · exact .inr
      rw [e]
      split
      · rfl
      · rw [List.take_succ_cons, List.drop_succ_cons, List.cons_append]
    · rw [if_neg hlt]
      have hc : (y :: r).countP (· < n) = 0 := count_ge (fun x hx => by
        rcases List.mem_cons.1 hx with rfl | hx
        · omega
        · have := h1.1 x hx
          omega)
      by_cases e : y = n
      · rw [if_pos e, if_pos (by rw [List.contains_iff_mem, e]; exact List.mem_cons_self ..)]
      · rw [if_neg e, hc, if_neg]
        · rfl
        · rw [List.contains_iff_mem]
          intro hm
          rcases List.mem_cons.1 hm with rfl | hm
          · exact e rfl
          · have := h1.1 n hm
            omega
end Go.Proofs.YtgdhgipofaaogaaDoor
namespace Go.Proofs.YtgdhgipofaaogaaDoor
open Go Go.RowKit Go.Sort Go.Lib
/-- A row of numbers that the call made itself. -/
def Rw (B : Nat) (w : World) (v : Value) (l : List Int) : Prop := w.ownsRow B 3 1 v l.length (l.map (Value.int .i64))
theorem Rw.nil (B : Nat) (w : World) : Rw B w (.slice none 0 0) [] := World.ownsRow_nil w B _ _
theorem Rw.stay {B : Nat} {W W' : World} {v : Value} {l : List Int} (h : Rw B W v l) (hb : Below W.heap.size W W') : Rw B W' v l := by
  refine ⟨h.1, ?_⟩
  rcases h.2 with h0 | ⟨g, cap, cur, hv, hB, hg, rest⟩
  · exact .inl h0
  · exact .inr ⟨g, cap, cur, hv, hB, (hb.block g (Array.getElem?_eq_some_iff.1 hg).1).trans hg, rest⟩
theorem Rw.grown {B : Nat} {W W' : World} {v : Value} {l : List Int} {row : Option Nat} (h : Rw B W v l) (hg : W.grownBy W' row) (hne : v.ownBlock = none ∨ v.ownBlock ≠ row) : Rw B W' v l := World.ownsRow.kept h hg hne
theorem Rw.mono {B B' : Nat} {W : World} {v : Value} {l : List Int} (h : Rw B W v l) (hb : B' ≤ B) : Rw B' W v l := by
  refine ⟨h.1, ?_⟩
  rcases h.2 with h0 | ⟨g, cap, cur, hv, hB, hg, rest⟩
  · exact .inl h0
  · exact .inr ⟨g, cap, cur, hv, Nat.le_trans hb hB, hg, rest⟩
/-- What it is, cell by cell. -/
theorem Rw.open {B : Nat} {W : World} {v : Value} {l : List Int} (h : Rw B W v l) : (v = .slice none 0 0 ∧ l = []) ∨ ∃ g cap, v = .slice (some ⟨g, 0, none⟩) l.length cap ∧ B ≤ g ∧ g < W.heap.size ∧ l.length ≤ cap ∧ ∀ j x, l[j]? = some x → W.cell? ⟨g, j, none⟩ = some (.int .i64 x) := by
  rcases h.2 with ⟨h0, hl⟩ | ⟨g, cap, cur, hv, hB, hg, hc, _, _, ht⟩
  · exact .inl ⟨h0, List.eq_nil_of_length_eq_zero hl⟩
  · refine .inr ⟨g, cap, hv, hB, (Array.getElem?_eq_some_iff.1 hg).1, hc, fun j x hx => ?_⟩
    rw [cell_of_row W g j cur _ _ hg]
    have hj : j < l.length := (List.getElem?_eq_some_iff.1 hx).1
    have h1 := congrArg (·[j]?) ht
    simp only [List.getElem?_take, List.getElem?_map, hx] at h1
    rw [if_pos (by omega)] at h1
    simpa using h1
theorem heap_setCells_same (b : Nat) (T : TypeId) : ∀ (vs : List Value) (o : Nat) (w : World) (cs : Array Value), w.heap[b]? = some (.cells cs T (0, 0)) →
    ∃ cs', (w.setCells b o vs).heap[b]? = some (.cells cs' T (0, 0)) ∧ cs'.size = cs.size ∧ ∀ j, j < cs.size → cs'[j]? = if o ≤ j ∧ j < o + vs.length then vs[j - o]? else cs[j]?
  | [], o, w, cs, h => ⟨cs, h, rfl, fun j hj => by rw [if_neg (fun hh => by have h2 := hh.2; simp only [List.length_nil] at h2; omega)]⟩
  | v :: r, o, w, cs, h => by
    obtain ⟨cs', h1, h2, h3⟩ := heap_setCells_same b T r (o + 1) (w.setCell ⟨b, o, none⟩ v) (cs.setIfInBounds o v) (heap_setCell_same w b o cs T v h)
    refine ⟨cs', h1, by simpa using h2, fun j hj => ?_⟩
    rw [h3 j (by simpa using hj)]
    by_cases e : j = o
    · subst e
      rw [if_neg (by omega), if_pos (by simp)]
      simp [Array.getElem?_setIfInBounds, hj]
    · by_cases e2 : o + 1 ≤ j ∧ j < o + 1 + r.length
      · rw [if_pos e2, if_pos (by simp; omega)]
        have e3 : j - o = (j - (o + 1)) + 1 := by omega
        rw [e3, List.getElem?_cons_succ]
      · rw [if_neg e2, if_neg (by simp; omega)]
        rw [Array.getElem?_setIfInBounds_ne (fun h => e h.symm)]
theorem grown_setCells (b : Nat) : ∀ (vs : List Value) (o : Nat) (w : World), w.grownBy (w.setCells b o vs) (some b)
  | [], _, w => Fr.refl (some b) w
  | v :: r, o, w => Fr.trans (Fr.set (Fr.refl (some b) w) (.inl rfl) o v) (grown_setCells b r (o + 1) (w.setCell ⟨b, o, none⟩ v))
theorem row_with {cur' : Array Value} {L : List Value} {n i : Nat} {x : Value} (hL : L.length = n) (hi : i ≤ n) (hs : n + 1 ≤ cur'.size)
    (hc : ∀ j, j < n + 1 → cur'[j]? = if j < i then L[j]? else if j = i then some x else L[j - 1]?) : cur'.toList.take (n + 1) = L.take i ++ x :: L.drop i := by
  apply List.ext_getElem?
  intro j
  rw [List.getElem?_take]
  by_cases hj : j < n + 1
  · rw [if_pos hj]
    have := hc j hj
    rw [← Array.getElem?_toList] at this
    rw [this]
    have hlt : (L.take i).length = i := by rw [List.length_take]; omega
    by_cases h1 : j < i
    · rw [if_pos h1, List.getElem?_append_left (by omega), List.getElem?_take, if_pos h1]
    · rw [if_neg h1, List.getElem?_append_right (by omega), hlt]
      by_cases h2 : j = i
      · rw [if_pos h2, h2]
        simp
      · rw [if_neg h2]
        have e : j - i = (j - i - 1) + 1 := by omega
        rw [e, List.getElem?_cons_succ, List.getElem?_drop]
        congr 1
        omega
  · rw [if_neg hj, List.getElem?_eq_none]
    rw [List.length_append, List.length_cons, List.length_take, List.length_drop]
    omega
theorem search_own {B : Nat} {w : World} {v : Value} {l : List Int} (x : Int) (h : Rw B w v l) (hs : Up l) (hl : l.length ≤ 1000000) :
    Calls Tryd.prog 65 #[v, .int .i64 x] w fun e w' => e = .returned (.tuple #[.int .i64 ((l.countP (· < x) : Nat) : Int), .bool (l.contains x)]) ∧ ∃ q, w' = w.drewN q := by
  rcases h.open with ⟨rfl, rfl⟩ | ⟨g, cap, rfl, _, _, _, hc⟩
  · refine (Tryd.slices_BinarySearch_int_empty none 0 x w).mono ?_
    rintro e w' ⟨rfl, rfl⟩
    exact ⟨rfl, 0, rfl⟩
  · have := Tryd.slices_BinarySearch_int g 0 l.length cap l x w (Nat.le_refl _) (by omega) (fun j hj => by
      rw [Nat.zero_add, hc j l[j] (List.getElem?_eq_getElem hj)]
      simp [List.getD, hj]) (by rw [List.take_length]; exact up_le hs)
    rw [List.take_length] at this
    exact this
theorem shape_of {w : World} {b : Nat} {cs : Array Value} {T : TypeId} (h : w.heap[b]? = some (.cells cs T (0, 0))) : w.shape? b = some (T, cs.size) := by
  simp [World.shape?, h]
theorem addr_off (g i j : Nat) : (⟨g, i, none⟩ : Addr).add j = ⟨g, i + j, none⟩ := by
  unfold Addr.add
  split <;> simp_all
theorem size_grown (L : List Value) (n K : Nat) (h : L.length = n) (hge : n ≤ K) : (L.toArray ++ Builtin.zeroCells (Value.int .i64 0).cells (K - n)).size = K * 1 := by
  rw [Array.size_append, size_zeroCells]
  have : (Value.int .i64 0).cells.size = 1 := rfl
  rw [this, List.size_toArray, h]
  omega
/-- What an insertion leaves. -/
def InsP (B : Nat) (w : World) (v : Value) (l : List Int) (e : Ending) (w' : World) : Prop := ∃ v', e = .returned v' ∧ Rw B w' v' l ∧ w.grownBy w' v.ownBlock
theorem insert_own {B : Nat} {w : World} {v : Value} {l : List Int} (i : Nat) (x : Int) (vb : Nat) (h : Rw B w v l) (hi : i ≤ l.length) (hl : l.length ≤ 1000000) (hx : w.heap[vb]? = some (.cells #[.int .i64 x] 3 (0, 0))) (hne : v.ownBlock ≠ some vb) (hB : B ≤ w.heap.size) :
    Calls Tryd.prog 66 #[v, .int .i64 (i : Int), .slice (some ⟨vb, 0, none⟩) 1 1] w (InsP B w v (l.take i ++ x :: l.drop i)) := by
  have hlen : (l.take i ++ x :: l.drop i).length = l.length + 1 := by
    rw [List.length_append, List.length_cons, List.length_take, List.length_drop]
    omega
  have hmap : (l.take i ++ x :: l.drop i).map (Value.int .i64) = (l.map (Value.int .i64)).take i ++ Value.int .i64 x :: (l.map (Value.int .i64)).drop i := by simp [List.map_take, List.map_drop]
  have hxc : ∀ (j : Nat) (u : Value), [Value.int .i64 x][j]? = some u → w.cell? ⟨vb, 0 + j, none⟩ = some u := by
    intro j u hu
    rw [Nat.zero_add, cell_of_row w vb j _ _ _ hx]
    simpa using hu
  have h1v : ∀ u ∈ [Value.int .i64 x], u.oneCell' = true := fun u hu => by simp at hu; subst hu; rfl
  have h1c : ∀ u ∈ l.map (Value.int .i64), u.oneCell' = true := fun u hu => by
    obtain ⟨y, _, rfl⟩ := List.mem_map.1 hu
    rfl
  have hcl : (l.map (Value.int .i64)).length = l.length := List.length_map _
  rcases h.2 with ⟨rfl, h0⟩ | ⟨g, cap, cur, rfl, hBg, hg, hnc, hcm, hcs, ht⟩
  · obtain rfl := List.eq_nil_of_length_eq_zero h0
    obtain rfl : i = 0 := by simpa using hi
    refine (Tryd.slices_Insert_int_end_grow none 0 0 vb 0 1 1 [] [.int .i64 x] w (by omega) (by omega) (by omega) (by omega) rfl rfl (fun _ => rfl) (fun a ha => by cases ha) hxc h1v).mono ?_
    rintro e w' ⟨rfl, rfl⟩
    have hge := grownCap_ge w (0 + 1) 0 3
    have hcm := grownCap_le_maxLen w (0 + 1) 0 3 (by decide)
    refine ⟨_, rfl, ⟨rfl, .inr ⟨w.heap.size, _, _, rfl, hB, heap_alloc_new w.drew _, hge, hcm, ?_, ?_⟩⟩, ⟨rfl, rfl, rfl, by simp, fun k hk _ => Below.heap_alloc w.drew _ k hk⟩⟩
    · exact size_grown _ _ _ rfl hge
    · simp
  · rw [Nat.mul_one] at ht hcs
    have hcc : ∀ (j : Nat) (u : Value), (l.map (Value.int .i64))[j]? = some u → w.cell? ⟨g, 0 + j, none⟩ = some u := by
      intro j u hu
      rw [Nat.zero_add, cell_of_row w g j _ _ _ hg]
      rw [← ht, List.getElem?_take] at hu
      split at hu
      · simpa using hu
      · cases hu
    have hsp : ∀ j, j < cap → (w.cell? ⟨g, 0 + j, none⟩).isSome = true := fun j hj => by
      rw [Nat.zero_add, cell_of_row w g j _ _ _ hg, Array.getElem?_eq_getElem (by omega)]
      rfl
    have hfz : ∀ j, w.frozen? ⟨g, j, none⟩ = false := fun j => frozen_of_row w g j _ _ hg
    have hcur : ∀ j, j < l.length → cur[j]? = (l.map (Value.int .i64))[j]? := fun j hj => by
      rw [← ht, List.getElem?_take, if_pos hj, Array.getElem?_toList]
    by_cases hroom : l.length + 1 ≤ cap
    · by_cases hlt : i < l.length
      · refine (Tryd.slices_Insert_int_shift g 0 l.length cap i vb 0 1 1 (l.map (Value.int .i64)) [.int .i64 x] w hlt (by omega) hroom (by unfold maxLen at hcm; omega) (fun e => hne (by rw [e]; rfl)) hcl rfl hcc (fun j hj => hsp j (by omega)) (fun j _ => by rw [Nat.zero_add]; exact hfz j) hxc h1c h1v _ _ _ _ (shape_of hx) (shape_of hg) (by omega) (frozen_of_row w vb _ _ _ hx) (frozen_of_row w vb _ _ _ hx)).mono ?_
        rintro e w' ⟨rfl, rfl⟩
        obtain ⟨c1, g1, s1, k1⟩ := heap_setCells_same g 3 ((l.map (Value.int .i64)).drop i) (0 + (i + 1)) w.drew cur hg
        obtain ⟨c2, g2, s2, k2⟩ := heap_setCells_same g 3 [.int .i64 x] (0 + i) _ c1 g1
        refine ⟨_, rfl, ⟨by simp, .inr ⟨g, cap, c2, by rw [hlen], hBg, g2, by omega, hcm, by omega, ?_⟩⟩, ?_⟩
        · rw [hlen, Nat.mul_one, hmap]
          refine row_with hcl (by omega) (by omega) (fun j hj => ?_)
          rw [k2 j (by omega)]
          by_cases e1 : j = i
          · subst e1
            rw [if_pos (by simp), if_neg (by omega), if_pos rfl]
            simp
          · rw [if_neg (by simp; omega), k1 j (by omega)]
            by_cases e2 : j < i
            · rw [if_neg (by omega), if_pos e2]
              exact hcur j (by omega)
            · rw [if_pos (by rw [List.length_drop, hcl]; omega), if_neg e2, if_neg e1, List.getElem?_drop]
              congr 1
              omega
        · exact Fr.trans (Fr.trans (Fr.drew (Fr.refl (some g) w)) (grown_setCells g _ _ _)) (grown_setCells g _ _ _)
      · obtain rfl : i = l.length := by omega
        refine (Tryd.slices_Insert_int_end_room g 0 l.length cap vb 0 1 1 [.int .i64 x] w (by omega) hroom (by unfold maxLen at hcm; omega) rfl (fun j hj => by rw [Nat.add_assoc]; exact hsp (l.length + j) (by omega)) (fun j _ => by rw [Nat.add_assoc, Nat.zero_add]; exact hfz _) hxc h1v).mono ?_
        rintro e w' ⟨rfl, rfl⟩
        obtain ⟨c2, g2, s2, k2⟩ := heap_setCells_same g 3 [.int .i64 x] (0 + l.length) _ cur hg
        refine ⟨_, rfl, ⟨by simp, .inr ⟨g, cap, c2, by rw [hlen], hBg, g2, by omega, hcm, by omega, ?_⟩⟩, grown_setCells g _ _ _⟩
        rw [hlen, Nat.mul_one, hmap]
        refine row_with hcl (by omega) (by omega) (fun j hj => ?_)
        rw [k2 j (by omega)]
        by_cases e1 : j = l.length
        · subst e1
          rw [if_pos (by simp), if_neg (by omega), if_pos rfl]
          simp
        · rw [if_neg (by simp; omega), if_pos (by omega)]
          exact hcur j (by omega)
    · by_cases hlt : i < l.length
      · refine (Tryd.slices_Insert_int_grow g 0 l.length cap i vb 0 1 1 (l.map (Value.int .i64)) [.int .i64 x] w hlt (by omega) hnc (by omega) (by omega) hcl rfl hcc hxc h1c h1v).mono ?_
        rintro e w' ⟨rfl, rfl⟩
        have hge := grownCap_ge w (l.length + 1) cap 3
        have hcm := grownCap_le_maxLen w (l.length + 1) cap 3 (by unfold maxLen; omega)
        obtain ⟨K, hK⟩ : ∃ K, grownCap w (l.length + 1) cap 3 = K := ⟨_, rfl⟩
        rw [hK] at hge hcm ⊢
        obtain ⟨c0, hc0⟩ : ∃ c0, (((l.map (Value.int .i64)).take i).toArray ++ Builtin.zeroCells (Value.int .i64 0).cells (l.length + 1 - i) ++ Builtin.zeroCells (Value.int .i64 0).cells (K - (l.length + 1))) = c0 := ⟨_, rfl⟩
        have hsz : c0.size = K := by
          rw [← hc0]
          simp only [Array.size_append, List.size_toArray, size_zeroCells, List.length_take, hcl]
          simp [Value.cells]
          omega
        have hc0a : ∀ j, j < i → c0[j]? = (l.map (Value.int .i64))[j]? := by
          intro j hj
          rw [← hc0, Array.append_assoc, Array.getElem?_append_left (by simp; omega)]
          simp [hj]
        rw [hc0]
        have g0 : (w.alloc (.cells c0 3)).heap[w.heap.size]? = some (.cells c0 3 (0, 0)) := heap_alloc_new w _
        obtain ⟨c1, g1, s1, k1⟩ := heap_setCells_same w.heap.size 3 [.int .i64 x] i (w.alloc (.cells c0 3)).drew c0 g0
        obtain ⟨c2, g2, s2, k2⟩ := heap_setCells_same w.heap.size 3 ((l.map (Value.int .i64)).drop i) (i + 1) (((w.alloc (.cells c0 3)).drew.setCells w.heap.size i [.int .i64 x]).drew) c1 g1
        refine ⟨_, rfl, ⟨by simp, .inr ⟨w.heap.size, K, c2, by rw [hlen], hB, g2, by omega, hcm, by omega, ?_⟩⟩, ?_⟩
        · rw [hlen, Nat.mul_one, hmap]
          refine row_with hcl (by omega) (by omega) (fun j hj => ?_)
          rw [k2 j (by omega)]
          by_cases e2 : j < i
          · rw [if_neg (by omega), k1 j (by omega), if_neg (by simp; omega), if_pos e2]
            exact hc0a j e2
          · by_cases e1 : j = i
            · subst e1
              rw [if_neg (by omega), k1 j (by omega), if_pos (by simp), if_neg (by omega), if_pos rfl]
              simp
            · rw [if_pos (by rw [List.length_drop, hcl]; omega), if_neg e2, if_neg e1, List.getElem?_drop]
              congr 1
              omega
        · have k0 : w.grownBy (w.alloc (.cells c0 3)) none := World.grownBy_alloc w _ none
          have k3 : Fr (some w.heap.size) (w.alloc (.cells c0 3)) ((((w.alloc (.cells c0 3)).drew.setCells w.heap.size i [.int .i64 x]).drew).setCells w.heap.size (i + 1) ((l.map (Value.int .i64)).drop i)) :=
            Fr.trans (Fr.drew (Fr.trans (Fr.drew (Fr.refl _ _)) (grown_setCells _ _ _ _))) (grown_setCells _ _ _ _)
          have k4 := Fr.fresh k0 k3 (Nat.le_refl _)
          exact ⟨World.grownBy.os k4, World.grownBy.tape k4, World.grownBy.output k4, World.grownBy.size k4, fun k hk _ => World.grownBy.block k4 k hk (by simp)⟩
      · obtain rfl : i = l.length := by omega
        refine (Tryd.slices_Insert_int_end_grow (some ⟨g, 0, none⟩) l.length cap vb 0 1 1 (l.map (Value.int .i64)) [.int .i64 x] w (by omega) hnc (by omega) (by omega) hcl rfl (fun hn => by cases hn) (fun a ha j u hu => by cases ha; rw [addr_off]; exact hcc j u hu) hxc h1v).mono ?_
        rintro e w' ⟨rfl, rfl⟩
        have hge := grownCap_ge w (l.length + 1) cap 3
        have hcm := grownCap_le_maxLen w (l.length + 1) cap 3 (by unfold maxLen; omega)
        refine ⟨_, rfl, ⟨by simp, .inr ⟨w.heap.size, _, _, by rw [hlen], hB, heap_alloc_new w.drew _, by omega, hcm, ?_, ?_⟩⟩, ⟨rfl, rfl, rfl, by simp, fun k hk _ => Below.heap_alloc w.drew _ k hk⟩⟩
        · exact size_grown _ _ _ (by simp) hge
        · rw [hlen, Nat.mul_one, hmap]
          simp [List.take_append, List.take_of_length_le]
end Go.Proofs.YtgdhgipofaaogaaDoor
namespace Go.Proofs.YtgdhgipofaaogaaDoor
open Go Go.RowKit
def nmL : List ByteArray := [⟨#[115, 101, 116]⟩, ⟨#[109, 111, 118, 101]⟩, ⟨#[99, 97, 108, 99]⟩, ⟨#[112, 105, 99, 107]⟩, ⟨#[108, 111, 97, 100]⟩, ⟨#[115, 116, 111, 114, 101]⟩, ⟨#[106, 117, 109, 112]⟩, ⟨#[122, 101, 114, 111]⟩, ⟨#[102, 101, 110, 99, 101]⟩, ⟨#[116, 97, 107, 101]⟩, ⟨#[103, 105, 118, 101]⟩, ⟨#[111, 117, 116]⟩, ⟨#[116, 114, 97, 112]⟩, ⟨#[104, 97, 108, 116]⟩]
def nam (k : Nat) : ByteArray := nmL.getD k ByteArray.empty
def partsL : List (List Int) := [[1, 6, 0, 0], [1, 2, 0, 0], [1, 2, 5, 4], [1, 2, 4, 0], [1, 7, 3, 0], [7, 4, 3, 0], [10, 0, 0, 0], [2, 10, 0, 0], [0, 0, 0, 0], [8, 0, 0, 0], [8, 0, 0, 0], [2, 0, 0, 0], [9, 0, 0, 0], [0, 0, 0, 0]]
def prt (k j : Nat) : Int := (partsL.getD k []).getD j 0
def kps (k : Nat) : Bool := k == 3
def ens (k : Nat) : Bool := k == 6 || k == 12 || k == 13
/-- It lies as the program's text lays it. -/
structure Kinds (w : World) : Prop where
  size : 0 < w.heap.size
  name : ∀ k, k < 14 → w.cell? ⟨0, k * 7, none⟩ = some (.string (nam k))
  part : ∀ k j, k < 14 → j < 4 → w.cell? ⟨0, k * 7 + 1 + j, none⟩ = some (.int .i64 (prt k j))
  keep : ∀ k, k < 14 → w.cell? ⟨0, k * 7 + 5, none⟩ = some (.bool (kps k))
  ends : ∀ k, k < 14 → w.cell? ⟨0, k * 7 + 6, none⟩ = some (.bool (ens k))
theorem Kinds.below {w w' : World} (T : Kinds w) (hb : Below w.heap.size w w') : Kinds w' where
  size := Nat.lt_of_lt_of_le T.size hb.size
  name k hk := (hb.cell (p := ⟨0, k * 7, none⟩) T.size).trans (T.name k hk)
  part k j hk hj := (hb.cell (p := ⟨0, k * 7 + 1 + j, none⟩) T.size).trans (T.part k j hk hj)
  keep k hk := (hb.cell (p := ⟨0, k * 7 + 5, none⟩) T.size).trans (T.keep k hk)
  ends k hk := (hb.cell (p := ⟨0, k * 7 + 6, none⟩) T.size).trans (T.ends k hk)
theorem ret_bool {a b : Bool} (h : a = b) : Ending.returned (.bool a) = .returned (.bool b) := by rw [h]
theorem kn_t (n : Int) (w : World) (h0 : 0 ≤ n) (h : n ≤ 13) : Calls Tryd.prog 46 #[.int .i64 n] w fun e w' => e = .returned (.bool true) ∧ w = w' := by
  have hd : decide (n ≤ 13) = true := by simpa using h
  go_enter Tryd.func46, Tryd.ntmps46
  go_wp2
  go_ret
  exact ⟨rfl, rfl⟩
theorem kn_f (n : Int) (w : World) (h : n < 0 ∨ 13 < n) : Calls Tryd.prog 46 #[.int .i64 n] w fun e w' => e = .returned (.bool false) ∧ w = w' := by
  rcases h with h | h
  · have hd : decide (0 ≤ n) = false := by simp; omega
    go_enter Tryd.func46, Tryd.ntmps46
    go_wp2
    go_ret
    exact ⟨rfl, rfl⟩
  · have hd : decide (n ≤ 13) = false := by simp; omega
    have hd0 : decide (0 ≤ n) = true := by simp; omega
    go_enter Tryd.func46, Tryd.ntmps46
    go_wp2
    go_ret
    exact ⟨rfl, rfl⟩
/-- A part of four, at a place. -/
theorem idx4_0 (a b c d : Int) (w : World) : (Instr.index 106 (.agg #[.int .i64 a, .int .i64 b, .int .i64 c, .int .i64 d]) (.int .i64 0)).run Tryd.prog w = .ok (.int .i64 a) w := by kernel_rfl
theorem idx4_1 (a b c d : Int) (w : World) : (Instr.index 106 (.agg #[.int .i64 a, .int .i64 b, .int .i64 c, .int .i64 d]) (.int .i64 1)).run Tryd.prog w = .ok (.int .i64 b) w := by kernel_rfl
theorem idx4_2 (a b c d : Int) (w : World) : (Instr.index 106 (.agg #[.int .i64 a, .int .i64 b, .int .i64 c, .int .i64 d]) (.int .i64 2)).run Tryd.prog w = .ok (.int .i64 c) w := by kernel_rfl
theorem idx4_3 (a b c d : Int) (w : World) : (Instr.index 106 (.agg #[.int .i64 a, .int .i64 b, .int .i64 c, .int .i64 d]) (.int .i64 3)).run Tryd.prog w = .ok (.int .i64 d) w := by kernel_rfl
theorem idx4 (p : Nat → Int) (j : Nat) (h : j < 4) (w : World) : (Instr.index 106 (.agg #[.int .i64 (p 0), .int .i64 (p 1), .int .i64 (p 2), .int .i64 (p 3)]) (.int .i64 (j : Int))).run Tryd.prog w = .ok (.int .i64 (p j)) w := by
  have e : j = 0 ∨ j = 1 ∨ j = 2 ∨ j = 3 := by omega
  rcases e with rfl | rfl | rfl | rfl
  · exact idx4_0 _ _ _ _ w
  · exact idx4_1 _ _ _ _ w
  · exact idx4_2 _ _ _ _ w
  · exact idx4_3 _ _ _ _ w
def hasB (k : Nat) (p : Int) : Bool := (List.range 4).any fun i => prt k i == p
theorem hasB_hit {k j : Nat} {p : Int} (hj : j < 4) (h : prt k j = p) : hasB k p = true := List.any_eq_true.2 ⟨j, List.mem_range.2 hj, by simpa using h⟩
theorem hasB_miss {k : Nat} {p : Int} (h : ∀ i, i < 4 → prt k i ≠ p) : hasB k p = false := by
  unfold hasB
  rw [List.any_eq_false]
  intro i hi
  simpa using h i (List.mem_range.1 hi)
theorem has_any (k : Nat) (p : Int) (w : World) (hk : k < 14) (T : Hid (Kinds w)) : Calls Tryd.prog 68 #[.int .i64 k, .int .i64 p] w fun e w' => e = .returned (.bool (hasB k p)) ∧ w = w' := by
  have c0 := T.out.part k 0 hk (by omega)
  have c1 := T.out.part k 1 hk (by omega)
  have c2 := T.out.part k 2 hk (by omega)
  have c3 := T.out.part k 3 hk (by omega)
  have hk0 : (0 : Int) ≤ k := by omega
  have hk1 : (k : Int) < 14 := by omega
  go_enter Tryd.func68, Tryd.ntmps68
  go_wp2
  go_loop [11] (fun i => ∃ j : Nat, i = .int .i64 j ∧ j ≤ 4 ∧ Hid (∀ i, i < j → prt k i ≠ p)) (fun i => 4 - (intOf i).toNat)
  case atStart => exact ⟨0, rfl, by omega, Lib.hid (fun i h => absurd h (by omega))⟩
  case round =>
    obtain ⟨j, rfl, hj, HN⟩ := hrel
    clear c0 c1 c2 c3
    by_cases hlt : j < 4
    · have hi := idx4 (prt k) j hlt
      obtain ⟨v, hv⟩ : ∃ v, prt k j = v := ⟨_, rfl⟩
      rw [hv] at hi
      have HV := Lib.hid hv
      clear hv
      by_cases hq : v = p
      · have hb : (v == p) = true := by simpa using hq
        have HR := Lib.hid (hasB_hit hlt (HV.out.trans hq))
        clear hq
        go_wp2
        go_ret
        exact ⟨ret_bool HR.out.symm, rfl⟩
      · have hb : (v == p) = false := by simpa using hq
        have HN2 : Hid (∀ i, i < j + 1 → prt k i ≠ p) := Lib.hid (fun i hi => by
          by_cases e : i = j
          · subst e
            rw [HV.out]
            exact hq
          · exact HN.out i (by omega))
        clear hq
        go_wp2
        go_round
        case rel => exact ⟨j + 1, by go_num, by omega, HN2⟩
        case measure => simp [intOf]; omega
    · obtain rfl : j = 4 := by omega
      have HR := Lib.hid (hasB_miss HN.out)
      go_wp2
      go_ret
      exact ⟨ret_bool HR.out.symm, rfl⟩
end Go.Proofs.YtgdhgipofaaogaaDoor
namespace Go.Proofs.YtgdhgipofaaogaaDoor
open Go Go.RowKit
theorem Rw.alloc {B : Nat} {W : World} {v : Value} {l : List Int} (h : Rw B W v l) (o : Obj) : Rw B (W.alloc o) v l := World.ownsRow.alloc h o
theorem Rw.drewN {B : Nat} {W : World} {v : Value} {l : List Int} (h : Rw B W v l) (n : Nat) : Rw B (W.drewN n) v l := h
theorem Rw.old {B : Nat} {W : World} {v : Value} {l : List Int} (h : Rw B W v l) : v.ownBlock ≠ some W.heap.size := fun e => by
  have := (World.ownsRow.lt h _ e).2
  omega
/-- A row of numbers that came in. -/
def Ga (w : World) (g : Nat) (l : List Int) : Prop := g < w.heap.size ∧ ∀ j x, l[j]? = some x → w.cell? ⟨g, j, none⟩ = some (.int .i64 x)
theorem Ga.stay {W W' : World} {g : Nat} {l : List Int} (h : Ga W g l) (hb : Below W.heap.size W W') : Ga W' g l :=
  ⟨Nat.lt_of_lt_of_le h.1 hb.size, fun j x hx => (hb.cell (p := ⟨g, j, none⟩) h.1).trans (h.2 j x hx)⟩
theorem Ga.new (w : World) (l : List Int) (g : Nat) (hg : g = w.heap.size) (cs : Array Value) (T : TypeId) (hc : cs.toList = l.map (Value.int .i64)) : Ga (w.alloc (.cells cs T)) g l := by
  subst hg
  refine ⟨by simp, fun j x hx => ?_⟩
  rw [cell_of_row _ _ j cs T (0, 0) (heap_alloc_new w _), ← Array.getElem?_toList, hc, List.getElem?_map, hx]
  rfl
/-- What hands back a row of its own. -/
def RowP (w : World) (l : List Int) (e : Ending) (w' : World) : Prop := ∃ v, e = .returned v ∧ Rw w.heap.size w' v l ∧ Below w.heap.size w w'
set_option maxRecDepth 100000 in
set_option maxHeartbeats 1000000 in
theorem gather_any (zs : List Int) (g c : Nat) (w : World) (hg : Ga w g zs) (hl : zs.length ≤ 1000000) : Calls Tryd.prog 48 #[.slice (some ⟨g, 0, none⟩) zs.length c] w (RowP w (srt zs)) := by
  have HG := Lib.hid hg
  clear hg
  go_enter Tryd.func48, Tryd.ntmps48
  go_wp2
  go_loopw [3, 10] (fun v i wr => ∃ (k : Nat) (v0 : Value), v0 = v ∧ i = .int .i64 k ∧ k ≤ zs.length ∧ Hid (Rw w.heap.size wr v0 (srt (zs.take k))) ∧ Hid (Below w.heap.size w wr)) (fun _ i _ => zs.length - (intOf i).toNat)
  case atStart => exact ⟨0, _, rfl, rfl, Nat.zero_le _, Lib.hid (Rw.nil _ _), Lib.hid (Below.refl _ _)⟩
  case round =>
    obtain ⟨k, v, rfl, rfl, hk, HR, HB⟩ := hrel
    by_cases hlt : k < zs.length
    · obtain ⟨x, hx⟩ : ∃ x, zs[k]? = some x := ⟨_, List.getElem?_eq_getElem hlt⟩
      have hc := (HG.out.stay HB.out).2 k x hx
      obtain ⟨l, hl2⟩ : ∃ l, srt (zs.take k) = l := ⟨_, rfl⟩
      have hlk : l.length ≤ 1000000 := by
        have := srt_len (zs.take k)
        rw [hl2, List.length_take] at this
        omega
      have HU : Hid (Up l) := Lib.hid (hl2 ▸ up_srt _)
      rw [hl2] at HR
      have HN : Hid (srt (zs.take (k + 1)) = if l.contains x then l else l.take (l.countP (· < x)) ++ x :: l.drop (l.countP (· < x))) := Lib.hid (by rw [srt_take zs k x hx, hl2]; exact insG_at HU.out)
      have HX := Lib.hid hx
      clear hl2 hx
      have hcp : l.countP (· < x) ≤ l.length := List.countP_le_length
      obtain ⟨m, hm⟩ : ∃ m, l.countP (· < x) = m := ⟨_, rfl⟩
      rw [hm] at hcp
      rw [hm] at HN
      cases hq : l.contains x
      · have HN2 : Hid (srt (zs.take (k + 1)) = l.take m ++ x :: l.drop m) := Lib.hid (by rw [HN.out, hq]; rfl)
        have hse : ∀ W, Rw w.heap.size W v l → Calls Tryd.prog 65 #[v, .int .i64 x] W fun e w' => e = .returned (.tuple #[.int .i64 (m : Int), .bool false]) ∧ ∃ q, w' = W.drewN q := fun W h => by
          have := search_own x h HU.out hlk
          rw [hm, hq] at this
          exact this
        have HS := Lib.hid hse
        clear hse hm hq HN
        go_wp2_with (first
          | (go_at_call 65; refine (HS.out _ HR.out).mono ?_; rintro e1 w1 ⟨rfl, q, rfl⟩)
          | (go_at_call 66; refine (insert_own m x _ ((HR.out.alloc _).drewN q) hcp hlk (heap_alloc_new _ _) HR.out.old (by have := HB.out.size; simp; omega)).mono ?_; rintro e2 w2 ⟨v', rfl, hr2, hg2⟩; have HR2 := Lib.hid hr2; have HG2 := Lib.hid hg2; clear hr2 hg2))
        go_roundw
        case rel =>
          refine ⟨k + 1, v', rfl, by go_num, by omega, Lib.hid (by rw [HN2.out]; exact HR2.out), Lib.hid ?_⟩
          exact ((below_drewN (HB.out.alloc (by have := HB.out.size; omega) _) q).grown HG2.out (by have := HB.out.size; simp; omega) (fun j hj => (World.ownsRow.lt HR.out j hj).1))
        case measure => simp [intOf]; omega
      · have HN2 : Hid (srt (zs.take (k + 1)) = l) := Lib.hid (by rw [HN.out, hq]; rfl)
        have hse : ∀ W, Rw w.heap.size W v l → Calls Tryd.prog 65 #[v, .int .i64 x] W fun e w' => e = .returned (.tuple #[.int .i64 (m : Int), .bool true]) ∧ ∃ q, w' = W.drewN q := fun W h => by
          have := search_own x h HU.out hlk
          rw [hm, hq] at this
          exact this
        have HS := Lib.hid hse
        clear hse hm hq HN
        go_wp2_with (first
          | (go_at_call 65; refine (HS.out _ HR.out).mono ?_; rintro e1 w1 ⟨rfl, q, rfl⟩))
        go_roundw
        case rel => exact ⟨k + 1, v, rfl, by go_num, by omega, Lib.hid (by rw [HN2.out]; exact HR.out), Lib.hid (below_drewN HB.out q)⟩
        case measure => simp [intOf]; omega
    · obtain rfl : k = zs.length := by omega
      rw [List.take_length] at HR
      go_wp2
      go_ret
      exact ⟨v, rfl, HR.out, HB.out⟩
end Go.Proofs.YtgdhgipofaaogaaDoor
namespace Go.Proofs.YtgdhgipofaaogaaDoor
open Go Go.RowKit Go.Sort Go.Lib
theorem neg_gives (x : Int) (W : World) : FnGives Tryd.prog 49 #[] #[.int .i64 x] (.bool (decide (x < 0))) W := by
  show Calls Tryd.prog 49 #[.int .i64 x] W _
  go_enter Tryd.func49, Tryd.ntmps49
  go_wp2
  go_ret
  exact ⟨rfl, 0, rfl⟩
/-- What a cut leaves: those that are not below 0. -/
def pos (l : List Int) : List Int := l.filter fun x => !decide (x < 0)
theorem delete_own {B : Nat} {w : World} {v : Value} {l : List Int} (h : Rw B w v l) (hn : l ≠ []) (hl : l.length ≤ 1000000) :
    Calls Tryd.prog 47 #[v, .func (.func 49) #[] #[]] w (InsP B w v (pos l)) := by
  rcases h.2 with ⟨rfl, h0⟩ | ⟨g, cap, cur, rfl, hBg, hg, hnc, hcm, hcs, ht⟩
  · exact absurd (List.eq_nil_of_length_eq_zero h0) hn
  · rw [Nat.mul_one] at ht hcs
    have hH : Holds (Value.int .i64) w g 0 l.toArray := fun j hj => by
      have hj' : j < l.length := by simpa using hj
      refine ⟨?_, frozen_of_row w g _ _ _ hg⟩
      rw [Nat.zero_add, cell_of_row w g j _ _ _ hg]
      have h1 := congrArg (·[j]?) ht
      simp only [List.getElem?_take, List.getElem?_map] at h1
      rw [if_pos hj', List.getElem?_eq_getElem hj'] at h1
      simp only [Option.map_some] at h1
      rw [← Array.getElem?_toList, h1]
      simp [hj']
    have eg : ∀ args w, (callFunc 49 args).run Tryd.prog w = .ok (.enter 49 args) w := enters_of Tryd.func49 (by kernel_rfl) rfl
    have hcon := Tryd.slices_DeleteFunc (Value.int .i64) (fun _ => rfl) (fun x => decide (x < 0)) 49 #[] eg 0 Tryd.zeroValue3 g 0 cap l.toArray w (fun W x _ => neg_gives x W) (fun n os dk x _ => neg_gives x _) hH (by simp; omega) (by simpa using hnc)
    have e1 : l.toArray.size = l.length := by simp
    simp only [e1] at hcon
    rw [show (List.filter (fun x => !decide (x < 0)) l) = pos l from rfl] at hcon
    have hlen : (pos l).length ≤ l.length := List.length_filter_le _ _
    have hys : (pos l ++ List.replicate (l.length - (pos l).length) 0).length = l.toArray.size := by
      rw [List.length_append, List.length_replicate, e1]
      omega
    refine hcon.mono ?_
    rintro e w' ⟨rfl, q, rfl⟩
    have hb := putRow_eq_setCells (Value.int .i64) w g 0 l.toArray (pos l ++ List.replicate (l.length - (pos l).length) 0) q hH hys
    obtain ⟨c2, g2, s2, k2⟩ := heap_setCells_same g 3 ((pos l ++ List.replicate (l.length - (pos l).length) 0).map (Value.int .i64)) 0 (w.drewN q) cur hg
    refine ⟨_, rfl, ?_, ?_⟩
    · rw [hb]
      refine ⟨by simp, .inr ⟨g, cap, c2, rfl, hBg, g2, by omega, hcm, by omega, ?_⟩⟩
      rw [Nat.mul_one]
      apply List.ext_getElem?
      intro j
      rw [List.getElem?_take]
      by_cases hj : j < (pos l).length
      · rw [if_pos hj, Array.getElem?_toList, k2 j (by omega), if_pos ⟨by omega, by rw [List.length_map, hys, e1]; omega⟩, Nat.sub_zero, List.map_append, List.getElem?_append_left (by simpa using hj)]
      · rw [if_neg hj, List.getElem?_eq_none (by simpa using hj)]
    · rw [hb]
      exact Fr.trans (Fr.drewN (Fr.refl (some g) w) q) (grown_setCells g _ _ _)
/-- What is in A, and in B, of the parts ahead of one. -/
def aTo (x : Ic) (kk j : Nat) : Int := if (List.range j).any (fun i => prt kk i == 2 || prt kk i == 3) then x.a else -1
def bTo (x : Ic) (kk j : Nat) : Int := if (List.range j).any (fun i => prt kk i == 4) then x.b else -1
theorem aTo_yes {x : Ic} {kk j : Nat} (h : (prt kk j == 2 || prt kk j == 3) = true) : aTo x kk (j + 1) = x.a := by
  unfold aTo
  rw [List.range_succ, List.any_append, if_pos (by simp [h])]
theorem aTo_no {x : Ic} {kk j : Nat} (h : (prt kk j == 2 || prt kk j == 3) = false) : aTo x kk (j + 1) = aTo x kk j := by
  unfold aTo
  rw [List.range_succ, List.any_append]
  simp [h]
theorem bTo_yes {x : Ic} {kk j : Nat} (h : (prt kk j == 4) = true) : bTo x kk (j + 1) = x.b := by
  unfold bTo
  rw [List.range_succ, List.any_append, if_pos (by simp [h])]
theorem bTo_no {x : Ic} {kk j : Nat} (h : (prt kk j == 4) = false) : bTo x kk (j + 1) = bTo x kk j := by
  unfold bTo
  rw [List.range_succ, List.any_append]
  simp [h]
/-- The registers that are read, rising. -/
def usesM (x : Ic) : List Int := if 0 ≤ x.k ∧ x.k ≤ 13 then pos (srt [if kps x.k.toNat then x.d else -1, aTo x x.k.toNat 4, bTo x x.k.toNat 4]) else []
theorem rowp_nil {w w' : World} (h : Below w.heap.size w w') : RowP w [] (.returned (.slice none 0 0)) w' := ⟨_, rfl, Rw.nil _ _, h⟩
set_option maxRecDepth 100000 in
theorem uses_un (x : Ic) (w : World) (h : x.k < 0 ∨ 13 < x.k) : Calls Tryd.prog 25 #[.agg #[.int .i64 x.k, .int .i64 x.o, .int .i64 x.d, .int .i64 x.a, .int .i64 x.b, .int .i64 x.n, .int .i64 x.t]] w (RowP w []) := by
  have H := Lib.hid h
  clear h
  go_enter Tryd.func25, Tryd.ntmps25
  go_wp2_with (go_at_call 46; (with_reducible refine (kn_f _ _ H.out).mono ?_); rintro e w' ⟨rfl, rfl⟩)
  go_ret
  exact rowp_nil (below1 _ _)
set_option maxRecDepth 100000 in
set_option maxHeartbeats 1000000 in
theorem uses_kn (x : Ic) (w : World) (hk0 : 0 ≤ x.k) (hk1 : x.k ≤ 13) (T : Hid (Kinds w)) (kb : Bool) (hkb : kps x.k.toNat = kb) (d : Int) (hd : Hid ((if kb then x.d else -1) = d)) : Calls Tryd.prog 25 #[.agg #[.int .i64 x.k, .int .i64 x.o, .int .i64 x.d, .int .i64 x.a, .int .i64 x.b, .int .i64 x.n, .int .i64 x.t]] w (RowP w (pos (srt [d, aTo x x.k.toNat 4, bTo x x.k.toNat 4]))) := by
  have hk : x.k.toNat < 14 := by omega
  have c0 := T.out.part x.k.toNat 0 hk (by omega)
  have c1 := T.out.part x.k.toNat 1 hk (by omega)
  have c2 := T.out.part x.k.toNat 2 hk (by omega)
  have c3 := T.out.part x.k.toNat 3 hk (by omega)
  have ck := T.out.keep x.k.toNat hk
  rw [hkb] at ck
  have hsz := T.out.size
  clear hkb
  go_enter Tryd.func25, Tryd.ntmps25
  go_wp2_with (go_at_call 46; (with_reducible refine (kn_t _ _ (by omega) (by omega)).mono ?_); rintro e w' ⟨rfl, rfl⟩)
  clear c0 c1 c2 c3
  go_loop [4, 5, 7, 17] (fun a b _ i => ∃ (j : Nat) (a0 b0 : Int), i = .int .i64 j ∧ a = .int .i64 a0 ∧ b = .int .i64 b0 ∧ j ≤ 4 ∧ Hid (aTo x x.k.toNat j = a0 ∧ bTo x x.k.toNat j = b0)) (fun _ _ _ i => 4 - (intOf i).toNat)
  case atStart => exact ⟨0, -1, -1, rfl, rfl, rfl, by omega, Lib.hid ⟨rfl, rfl⟩⟩
  case round =>
    obtain ⟨j, a0, b0, rfl, rfl, rfl, hj, HE⟩ := hrel
    by_cases hlt : j < 4
    · clear hsz ck
      have hi := idx4 (prt x.k.toNat) j hlt
      obtain ⟨p, hp⟩ : ∃ p, prt x.k.toNat j = p := ⟨_, rfl⟩
      rw [hp] at hi
      have HP := Lib.hid hp
      clear hp
      by_cases h2 : p = 2
      · have HA : Hid (aTo x x.k.toNat (j + 1) = x.a ∧ bTo x x.k.toNat (j + 1) = b0) := Lib.hid ⟨aTo_yes (by rw [HP.out, h2]; rfl), by rw [bTo_no (by rw [HP.out, h2]; rfl)]; exact HE.out.2⟩
        clear HP HE
        subst h2
        go_wp2
        go_round
        case rel => exact ⟨j + 1, x.a, b0, by go_num, rfl, rfl, by omega, HA⟩
        case measure => simp [intOf]; omega
      · by_cases h3 : p = 3
        · have HA : Hid (aTo x x.k.toNat (j + 1) = x.a ∧ bTo x x.k.toNat (j + 1) = b0) := Lib.hid ⟨aTo_yes (by rw [HP.out, h3]; rfl), by rw [bTo_no (by rw [HP.out, h3]; rfl)]; exact HE.out.2⟩
          clear HP HE h2
          subst h3
          go_wp2
          go_round
          case rel => exact ⟨j + 1, x.a, b0, by go_num, rfl, rfl, by omega, HA⟩
          case measure => simp [intOf]; omega
        · by_cases h4 : p = 4
          · have HA : Hid (aTo x x.k.toNat (j + 1) = a0 ∧ bTo x x.k.toNat (j + 1) = x.b) := Lib.hid ⟨by rw [aTo_no (by rw [HP.out, h4]; rfl)]; exact HE.out.1, bTo_yes (by rw [HP.out, h4]; rfl)⟩
            clear HP HE h2 h3
            subst h4
            go_wp2
            go_round
            case rel => exact ⟨j + 1, a0, x.b, by go_num, rfl, rfl, by omega, HA⟩
            case measure => simp [intOf]; omega
          · have HA : Hid (aTo x x.k.toNat (j + 1) = a0 ∧ bTo x x.k.toNat (j + 1) = b0) := Lib.hid ⟨by rw [aTo_no (by rw [HP.out]; simp [h2, h3])]; exact HE.out.1, by rw [bTo_no (by rw [HP.out]; simp [h4])]; exact HE.out.2⟩
            have q2 : (p == 2) = false := by simpa using h2
            have q3 : (p == 3) = false := by simpa using h3
            have q4 : (p == 4) = false := by simpa using h4
            clear HP HE h2 h3 h4
            go_wp2
            go_round
            case rel => exact ⟨j + 1, a0, b0, by go_num, rfl, rfl, by omega, HA⟩
            case measure => simp [intOf]; omega
    · obtain rfl : j = 4 := by omega
      have HZ : Hid (srt [d, a0, b0] ≠ [] ∧ (srt [d, a0, b0]).length ≤ 1000000) := Lib.hid ⟨(fun e => by
        have := (mem_srt (l := [d, a0, b0]) (x := d)).2 (List.mem_cons_self ..)
        rw [e] at this
        cases this), Nat.le_trans (srt_len _) (by simp)⟩
      cases kb
      all_goals
        have hd2 := hd.out
        simp at hd2
        subst hd2
        go_wp2_with (first
          | (go_at_call 48; refine (gather_any [_, a0, b0] _ _ _ (Ga.new _ [_, a0, b0] _ (by simp) _ _ rfl) (by simp)).mono ?_; rintro e1 w1 ⟨v1, rfl, hr1, hb1⟩; have HR1 := Lib.hid hr1; have HB1 := Lib.hid hb1; clear hr1 hb1)
          | (go_at_call 47; refine (delete_own HR1.out HZ.out.1 HZ.out.2).mono ?_; rintro e2 w2 ⟨v2, rfl, hr2, hg2⟩; have HR2 := Lib.hid hr2; have HG2 := Lib.hid hg2; clear hr2 hg2))
        go_ret
        have hb := HB1.out.size
        simp at hb
        rw [HE.out.1, HE.out.2]
        refine ⟨v2, rfl, Rw.mono HR2.out (by simp; omega), ?_⟩
        have hq := below_ch (below2 w _ _) HB1.out
        refine hq.grown HG2.out ?_ (fun j hj => ?_)
        · omega
        · have := (World.ownsRow.lt HR1.out j hj).1
          simp at this
          omega
/-- ins.Uses, of any instruction. -/
theorem uses_any (x : Ic) (w : World) (T : Kinds w) : Calls Tryd.prog 25 #[.agg #[.int .i64 x.k, .int .i64 x.o, .int .i64 x.d, .int .i64 x.a, .int .i64 x.b, .int .i64 x.n, .int .i64 x.t]] w (RowP w (usesM x)) := by
  by_cases h : 0 ≤ x.k ∧ x.k ≤ 13
  · have e : usesM x = pos (srt [if kps x.k.toNat then x.d else -1, aTo x x.k.toNat 4, bTo x x.k.toNat 4]) := if_pos h
    rw [e]
    exact uses_kn x w h.1 h.2 (Lib.hid T) _ rfl _ (Lib.hid rfl)
  · have e : usesM x = [] := if_neg h
    rw [e]
    exact uses_un x w (by omega)
end Go.Proofs.YtgdhgipofaaogaaDoor
namespace Go.Proofs.YtgdhgipofaaogaaDoor
open Go Go.RowKit
theorem has_is {k p : Int} {b : Bool} (h : hasB k.toNat p = b) (h0 : 0 ≤ k) (h1 : k ≤ 13) (w : World) (T : Hid (Kinds w)) : Calls Tryd.prog 68 #[.int .i64 k, .int .i64 p] w fun e w' => e = .returned (.bool b) ∧ w = w' := by
  obtain ⟨m, rfl⟩ := Int.eq_ofNat_of_zero_le h0
  subst h
  exact has_any m p w (by omega) T
theorem has_is' {k p : Int} {b : Bool} (h : hasB k.toNat p = b) (h0 : 0 ≤ k) (h1 : k ≤ 13) (w : World) (T : Hid (Kinds w)) : Calls Tryd.prog 68 #[.int .i64 k, .int .i64 p] w fun e w' => e = .returned (.bool b) ∧ w' = w :=
  (has_is h h0 h1 w T).mono fun _ _ ⟨h1, h2⟩ => ⟨h1, h2.symm⟩
/-- What is written. -/
def defM (x : Ic) : Int := if 0 ≤ x.k ∧ x.k ≤ 13 then (if hasB x.k.toNat 1 then x.d else -1) else -1
theorem def_un (x : Ic) (w : World) (h : x.k < 0 ∨ 13 < x.k) : Calls Tryd.prog 59 #[.agg #[.int .i64 x.k, .int .i64 x.o, .int .i64 x.d, .int .i64 x.a, .int .i64 x.b, .int .i64 x.n, .int .i64 x.t]] w fun e w' => e = .returned (.int .i64 (-1)) ∧ Below w.heap.size w w' := by
  have H := Lib.hid h
  clear h
  go_enter Tryd.func59, Tryd.ntmps59
  go_wp2_with (go_at_call 46; (with_reducible refine (kn_f _ _ H.out).mono ?_); rintro e w' ⟨rfl, rfl⟩)
  go_ret
  exact ⟨rfl, below1 _ _⟩
theorem def_kn (x : Ic) (w : World) (hk0 : 0 ≤ x.k) (hk1 : x.k ≤ 13) (T : Kinds w) (b : Bool) (hb : hasB x.k.toNat 1 = b) : Calls Tryd.prog 59 #[.agg #[.int .i64 x.k, .int .i64 x.o, .int .i64 x.d, .int .i64 x.a, .int .i64 x.b, .int .i64 x.n, .int .i64 x.t]] w fun e w' => e = .returned (.int .i64 (if b then x.d else -1)) ∧ Below w.heap.size w w' := by
  have HB := Lib.hid hb
  have HT := Lib.hid T
  clear hb T
  cases b
  all_goals
    go_enter Tryd.func59, Tryd.ntmps59
    go_wp2_with (first
      | (go_at_call 46; (with_reducible refine (kn_t _ _ (by omega) (by omega)).mono ?_); rintro e w' ⟨rfl, rfl⟩)
      | (go_at_call 68; refine (has_is HB.out (by omega) (by omega) _ (Lib.hid (HT.out.below (below1 _ _)))).mono ?_; rintro e w' ⟨rfl, rfl⟩))
    go_ret
    exact ⟨rfl, below1 _ _⟩
theorem def_any (x : Ic) (w : World) (T : Kinds w) : Calls Tryd.prog 59 #[.agg #[.int .i64 x.k, .int .i64 x.o, .int .i64 x.d, .int .i64 x.a, .int .i64 x.b, .int .i64 x.n, .int .i64 x.t]] w fun e w' => e = .returned (.int .i64 (defM x)) ∧ Below w.heap.size w w' := by
  by_cases h : 0 ≤ x.k ∧ x.k ≤ 13
  · have e : defM x = if hasB x.k.toNat 1 then x.d else -1 := if_pos h
    rw [e]
    exact def_kn x w h.1 h.2 T _ rfl
  · have e : defM x = -1 := if_neg h
    rw [e]
    exact def_un x w (by omega)
/-- Where it may go. -/
def nextM (x : Ic) (p : Int) : List Int := if 0 ≤ x.k ∧ x.k ≤ 13 then (if hasB x.k.toNat 10 then (if ens x.k.toNat then srt [x.t] else srt [p + 1, x.t]) else if ens x.k.toNat then [] else srt [p + 1]) else []
set_option maxRecDepth 100000 in
theorem next_un (x : Ic) (p : Int) (w : World) (h : x.k < 0 ∨ 13 < x.k) : Calls Tryd.prog 61 #[.agg #[.int .i64 x.k, .int .i64 x.o, .int .i64 x.d, .int .i64 x.a, .int .i64 x.b, .int .i64 x.n, .int .i64 x.t], .int .i64 p] w (RowP w []) := by
  have H := Lib.hid h
  clear h
  go_enter Tryd.func61, Tryd.ntmps61
  go_wp2_with (go_at_call 46; (with_reducible refine (kn_f _ _ H.out).mono ?_); rintro e w' ⟨rfl, rfl⟩)
  go_ret
  exact rowp_nil (below1 _ _)
theorem rowp_of {w W1 w1 : World} {v : Value} {l : List Int} (hr : Rw W1.heap.size w1 v l) (hb : Below W1.heap.size W1 w1) (h1 : Below w.heap.size w W1) : RowP w l (.returned v) w1 :=
  ⟨v, rfl, hr.mono h1.size, below_ch h1 hb⟩
set_option maxRecDepth 100000 in
set_option maxHeartbeats 1000000 in
theorem next_ff (x : Ic) (p : Int) (w : World) (hk0 : 0 ≤ x.k) (hk1 : x.k ≤ 13) (hp0 : 0 ≤ p) (hp1 : p ≤ 1099511627776) (T : Hid (Kinds w)) (hb : hasB x.k.toNat 10 = false) (hc : ens x.k.toNat = false) :
    Calls Tryd.prog 61 #[.agg #[.int .i64 x.k, .int .i64 x.o, .int .i64 x.d, .int .i64 x.a, .int .i64 x.b, .int .i64 x.n, .int .i64 x.t], .int .i64 p] w (RowP w (srt [p + 1])) := by
  have HB := Lib.hid hb
  have hk : x.k.toNat < 14 := by omega
  have ce := T.out.ends x.k.toNat hk
  rw [hc] at ce
  have hsz := T.out.size
  have HT := Lib.hid (T.out.below (below1 w (.cells #[.int .i64 x.k, .int .i64 x.o, .int .i64 x.d, .int .i64 x.a, .int .i64 x.b, .int .i64 x.n, .int .i64 x.t] 53)))
  have hx13 : x.k < 14 := by omega
  clear hb hc
  go_enter Tryd.func61, Tryd.ntmps61
  go_wp2_with (go_at_call 46; (with_reducible refine (kn_t _ _ (by omega) (by omega)).mono ?_); rintro e w' ⟨rfl, rfl⟩)
  go_quiet ((go_at_call 68; exact Calls.quiet_of_same (has_is' HB.out (by omega) (by omega) _ (Lib.hid (HT.out.below (below_drewN (Below.refl _ _) _))))))
  go_wp2_with (go_at_call 48; refine (gather_any [p + 1] _ _ _ (Ga.new _ [p + 1] _ (by simp) _ _ rfl) (by simp)).mono ?_; rintro e1 w1 ⟨v1, rfl, hr1, hb1⟩; have HR1 := Lib.hid hr1; have HB1 := Lib.hid hb1; clear hr1 hb1)
  go_ret
  exact rowp_of HR1.out HB1.out ((below_drewN (below1 _ _) _).alloc (by simp) _)
set_option maxRecDepth 100000 in
set_option maxHeartbeats 1000000 in
theorem next_ft (x : Ic) (p : Int) (w : World) (hk0 : 0 ≤ x.k) (hk1 : x.k ≤ 13) (hp0 : 0 ≤ p) (hp1 : p ≤ 1099511627776) (T : Hid (Kinds w)) (hb : hasB x.k.toNat 10 = false) (hc : ens x.k.toNat = true) :
    Calls Tryd.prog 61 #[.agg #[.int .i64 x.k, .int .i64 x.o, .int .i64 x.d, .int .i64 x.a, .int .i64 x.b, .int .i64 x.n, .int .i64 x.t], .int .i64 p] w (RowP w ([])) := by
  have HB := Lib.hid hb
  have hk : x.k.toNat < 14 := by omega
  have ce := T.out.ends x.k.toNat hk
  rw [hc] at ce
  have hsz := T.out.size
  have HT := Lib.hid (T.out.below (below1 w (.cells #[.int .i64 x.k, .int .i64 x.o, .int .i64 x.d, .int .i64 x.a, .int .i64 x.b, .int .i64 x.n, .int .i64 x.t] 53)))
  have hx13 : x.k < 14 := by omega
  clear hb hc
  go_enter Tryd.func61, Tryd.ntmps61
  go_wp2_with (go_at_call 46; (with_reducible refine (kn_t _ _ (by omega) (by omega)).mono ?_); rintro e w' ⟨rfl, rfl⟩)
  go_quiet ((go_at_call 68; exact Calls.quiet_of_same (has_is' HB.out (by omega) (by omega) _ (Lib.hid (HT.out.below (below_drewN (Below.refl _ _) _))))))
  go_wp2
  go_ret
  exact rowp_nil (below_drewN (below1 _ _) _)
set_option maxRecDepth 100000 in
set_option maxHeartbeats 1000000 in
theorem next_tt (x : Ic) (p : Int) (w : World) (hk0 : 0 ≤ x.k) (hk1 : x.k ≤ 13) (hp0 : 0 ≤ p) (hp1 : p ≤ 1099511627776) (T : Hid (Kinds w)) (hb : hasB x.k.toNat 10 = true) (hc : ens x.k.toNat = true) :
    Calls Tryd.prog 61 #[.agg #[.int .i64 x.k, .int .i64 x.o, .int .i64 x.d, .int .i64 x.a, .int .i64 x.b, .int .i64 x.n, .int .i64 x.t], .int .i64 p] w (RowP w (srt [x.t])) := by
  have HB := Lib.hid hb
  have hk : x.k.toNat < 14 := by omega
  have ce := T.out.ends x.k.toNat hk
  rw [hc] at ce
  have hsz := T.out.size
  have HT := Lib.hid (T.out.below (below1 w (.cells #[.int .i64 x.k, .int .i64 x.o, .int .i64 x.d, .int .i64 x.a, .int .i64 x.b, .int .i64 x.n, .int .i64 x.t] 53)))
  have hx13 : x.k < 14 := by omega
  clear hb hc
  go_enter Tryd.func61, Tryd.ntmps61
  go_wp2_with (go_at_call 46; (with_reducible refine (kn_t _ _ (by omega) (by omega)).mono ?_); rintro e w' ⟨rfl, rfl⟩)
  go_quiet ((go_at_call 68; exact Calls.quiet_of_same (has_is' HB.out (by omega) (by omega) _ (Lib.hid (HT.out.below (below_drewN (Below.refl _ _) _))))))
  go_wp2_with (go_at_call 48; refine (gather_any [x.t] _ _ _ (Ga.new _ [x.t] _ (by simp) _ _ rfl) (by simp)).mono ?_; rintro e1 w1 ⟨v1, rfl, hr1, hb1⟩; have HR1 := Lib.hid hr1; have HB1 := Lib.hid hb1; clear hr1 hb1)
  go_ret
  exact rowp_of HR1.out HB1.out ((below_drewN (below1 _ _) _).alloc (by simp) _)
set_option maxRecDepth 100000 in
set_option maxHeartbeats 1000000 in
theorem next_tf (x : Ic) (p : Int) (w : World) (hk0 : 0 ≤ x.k) (hk1 : x.k ≤ 13) (hp0 : 0 ≤ p) (hp1 : p ≤ 1099511627776) (T : Hid (Kinds w)) (hb : hasB x.k.toNat 10 = true) (hc : ens x.k.toNat = false) :
    Calls Tryd.prog 61 #[.agg #[.int .i64 x.k, .int .i64 x.o, .int .i64 x.d, .int .i64 x.a, .int .i64 x.b, .int .i64 x.n, .int .i64 x.t], .int .i64 p] w (RowP w (srt [p + 1, x.t])) := by
  have HB := Lib.hid hb
  have hk : x.k.toNat < 14 := by omega
  have ce := T.out.ends x.k.toNat hk
  rw [hc] at ce
  have hsz := T.out.size
  have HT := Lib.hid (T.out.below (below1 w (.cells #[.int .i64 x.k, .int .i64 x.o, .int .i64 x.d, .int .i64 x.a, .int .i64 x.b, .int .i64 x.n, .int .i64 x.t] 53)))
  have hx13 : x.k < 14 := by omega
  clear hb hc
  go_enter Tryd.func61, Tryd.ntmps61
  go_wp2_with (go_at_call 46; (with_reducible refine (kn_t _ _ (by omega) (by omega)).mono ?_); rintro e w' ⟨rfl, rfl⟩)
  go_quiet ((go_at_call 68; exact Calls.quiet_of_same (has_is' HB.out (by omega) (by omega) _ (Lib.hid (HT.out.below (below_drewN (Below.refl _ _) _))))))
  go_wp2_with (go_at_call 48; refine (gather_any [p + 1, x.t] _ _ _ (Ga.new _ [p + 1, x.t] _ (by simp) _ _ rfl) (by simp)).mono ?_; rintro e1 w1 ⟨v1, rfl, hr1, hb1⟩; have HR1 := Lib.hid hr1; have HB1 := Lib.hid hb1; clear hr1 hb1)
  go_ret
  exact rowp_of HR1.out HB1.out ((below_drewN (below1 _ _) _).alloc (by simp) _)
/-- ins.Next, of any instruction at any place. -/
theorem next_any (x : Ic) (p : Int) (w : World) (hp0 : 0 ≤ p) (hp1 : p ≤ 1099511627776) (T : Kinds w) : Calls Tryd.prog 61 #[.agg #[.int .i64 x.k, .int .i64 x.o, .int .i64 x.d, .int .i64 x.a, .int .i64 x.b, .int .i64 x.n, .int .i64 x.t], .int .i64 p] w (RowP w (nextM x p)) := by
  unfold nextM
  by_cases h : 0 ≤ x.k ∧ x.k ≤ 13
  · rw [if_pos h]
    cases hb : hasB x.k.toNat 10 <;> cases hc : ens x.k.toNat
    · exact next_ff x p w h.1 h.2 hp0 hp1 (Lib.hid T) hb hc
    · exact next_ft x p w h.1 h.2 hp0 hp1 (Lib.hid T) hb hc
    · exact next_tf x p w h.1 h.2 hp0 hp1 (Lib.hid T) hb hc
    · exact next_tt x p w h.1 h.2 hp0 hp1 (Lib.hid T) hb hc
  · rw [if_neg h]
    exact next_un x p w (by omega)
end Go.Proofs.YtgdhgipofaaogaaDoor
namespace Go.Proofs.YtgdhgipofaaogaaDoor
open Go Go.RowKit Gm
/-- Where the instruction at a place goes to in its code. -/
def outs (c : List Ic) (i : Nat) : List Nat := match c[i]? with
  | none => []
  | some x => ((nextM x i).filter fun z : Int => decide (0 ≤ z) && decide (z < (c.length : Int))).map Int.toNat
theorem outs_lt {c : List Ic} {i j : Nat} (h : j ∈ outs c i) : i < c.length ∧ j < c.length := by
  unfold outs at h
  cases hx : c[i]? with
  | none => rw [hx] at h; cases h
  | some x =>
    rw [hx] at h
    obtain ⟨z, hz, rfl⟩ := List.mem_map.1 h
    have := (List.mem_filter.1 hz).2
    simp at this
    exact ⟨(List.getElem?_eq_some_iff.1 hx).1, by omega⟩
/-- Numbers in a list, as values. -/
def lv (l : List Nat) : Nat → Value := fun i => .int .i64 ((l.getD i 0 : Nat) : Int)
section
variable {W X Y : World} {own own' : Nat → Nat} {B k0 k2 k3 : Nat} {S : Nat → Prop}
/-- What was appended to. -/
def Apd (W X : World) (v v' : Value) : Prop := Ch (fun b => v.ownBlock = some b) W X ∧ (v'.ownBlock = v.ownBlock ∨ ∃ g, v'.ownBlock = some g ∧ W.heap.size ≤ g)
end
end Go.Proofs.YtgdhgipofaaogaaDoor
namespace Go.Proofs.YtgdhgipofaaogaaDoor
open Go Go.RowKit Go.Sort Go.Lib Gm
/-- What isn't of a code of so many. -/
def outB (n : Nat) (x : Int) : Bool := decide (x < 0) || decide ((n : Int) ≤ x)
/-- What a cut leaves: those that are of the code. -/
def inn (n : Nat) (l : List Int) : List Int := l.filter fun x => !outB n x
theorem Rw.gv {B : Nat} {w : World} {v : Value} {l : List Int} (h : Rw B w v l) : GV 3 B w v l.length (iv fun i => l.getD i 0) := by
  unfold Rw at h
  unfold GV
  have : l.map (Value.int .i64) = rw_ l.length (iv fun i => l.getD i 0) := by
    apply List.ext_getElem?
    intro j
    by_cases hj : j < l.length
    · rw [rw_get _ hj, List.getElem?_map, List.getElem?_eq_getElem hj]
      simp [iv, hj]
    · rw [rw_none _ (by omega), List.getElem?_eq_none (by simpa using hj)]
  rw [← this]
  exact h
theorem Rw.lv {B : Nat} {w : World} {v : Value} {l : List Nat} (h : Rw B w v (l.map Int.ofNat)) : GV 3 B w v l.length (lv l) := by
  have h1 := h.gv
  rw [List.length_map] at h1
  refine h1.to fun i hi => ?_
  simp [iv, Go.Proofs.YtgdhgipofaaogaaDoor.lv, hi]
theorem inn_outs {c : List Ic} {i : Nat} {x : Ic} (hx : c[i]? = some x) : inn c.length (nextM x i) = (outs c i).map Int.ofNat := by
  unfold outs
  rw [hx]
  simp only [List.map_map]
  have : ∀ l : List Int, inn c.length l = (l.filter fun z : Int => decide (0 ≤ z) && decide (z < (c.length : Int))).map (Int.ofNat ∘ Int.toNat) := by
    intro l
    induction l with
    | nil => rfl
    | cons z r ih =>
      unfold inn at ih ⊢
      rw [List.filter_cons, List.filter_cons]
      by_cases h : 0 ≤ z ∧ z < (c.length : Int)
      · have e1 : (!outB c.length z) = true := by simp [outB]; omega
        have e2 : (decide (0 ≤ z) && decide (z < (c.length : Int))) = true := by simp; omega
        rw [if_pos e1, if_pos e2, List.map_cons, ih]
        congr 1
        simp
        omega
      · have e1 : ¬ (!outB c.length z) = true := by simp [outB]; omega
        have e2 : ¬ (decide (0 ≤ z) && decide (z < (c.length : Int))) = true := by simp; omega
        rw [if_neg e1, if_neg e2, ih]
  exact this _
end Go.Proofs.YtgdhgipofaaogaaDoor
namespace Go.Proofs.YtgdhgipofaaogaaDoor
open Go Go.RowKit Go.Lib Gm
theorem nextM_len (x : Ic) (p : Int) : (nextM x p).length ≤ 2 := by
  unfold nextM
  split
  · split
    · split
      · exact Nat.le_trans (srt_len _) (by simp)
      · exact srt_len _
    · split
      · simp
      · exact Nat.le_trans (srt_len _) (by simp)
  · simp
theorem apd_of {W X : World} {o : Obj} {v v' : Value} (h : (W.alloc o).grownBy X v.ownBlock) (ha : v'.ownBlock = v.ownBlock ∨ v'.ownBlock = some (W.alloc o).heap.size) : Apd W X v v' :=
  ⟨((Ch.refl _ W).alloc o).grown h fun b e => .inl e, ha.imp id fun h => ⟨_, h, by simp⟩⟩
end Go.Proofs.YtgdhgipofaaogaaDoor
namespace Go.Proofs.YtgdhgipofaaogaaDoor
/-- A sum of the first ones. -/
def sm (f : Nat → Nat) : Nat → Nat
  | 0 => 0
  | n + 1 => sm f n + f n
/-- The places in the row. -/
def ahead (up : Nat → Option Nat) (size : Nat → Nat) (o : Option Nat) (v : Nat) : Nat := sm (fun w => if up w = o then size w else 0) v
end Go.Proofs.YtgdhgipofaaogaaDoor
namespace Go.Proofs.YtgdhgipofaaogaaDoor
open Go Go.RowKit Gm
theorem outs_len (c : List Ic) (i : Nat) : (outs c i).length ≤ 2 := by
  unfold outs
  split
  · simp
  · rw [List.length_map]
    exact Nat.le_trans (List.length_filter_le _ _) (nextM_len _ _)
end Go.Proofs.YtgdhgipofaaogaaDoor
namespace Go.Proofs.YtgdhgipofaaogaaDoor
open Go Go.RowKit
def fldL : List ByteArray := [⟨#[68, 78]⟩, ⟨#[68, 65]⟩, ⟨#[68, 79, 65, 66]⟩, ⟨#[68, 65, 66]⟩, ⟨#[68, 65, 78]⟩, ⟨#[65, 66, 78]⟩, ⟨#[84]⟩, ⟨#[65, 84]⟩, ⟨#[46]⟩, ⟨#[78]⟩, ⟨#[78]⟩, ⟨#[65]⟩, ⟨#[78]⟩, ⟨#[46]⟩]
def fld (k : Nat) : ByteArray := fldL.getD k ByteArray.empty
def fldZ (k : Int) : ByteArray := if 0 ≤ k ∧ k ≤ 13 then fld k.toNat else ⟨#[]⟩
def rfields_c : Array Value := #[.string ⟨#[68, 78]⟩, .string ⟨#[68, 65]⟩, .string ⟨#[68, 79, 65, 66]⟩, .string ⟨#[68, 65, 66]⟩, .string ⟨#[68, 65, 78]⟩, .string ⟨#[65, 66, 78]⟩, .string ⟨#[84]⟩, .string ⟨#[65, 84]⟩, .string ⟨#[46]⟩, .string ⟨#[78]⟩, .string ⟨#[78]⟩, .string ⟨#[65]⟩, .string ⟨#[78]⟩, .string ⟨#[46]⟩]
theorem rfields_at (k : Nat) (h : k < 14) : rfields_c[k]? = some (.string (fld k)) := by
  match k, h with
  | 0, _ => rfl
  | 1, _ => rfl
  | 2, _ => rfl
  | 3, _ => rfl
  | 4, _ => rfl
  | 5, _ => rfl
  | 6, _ => rfl
  | 7, _ => rfl
  | 8, _ => rfl
  | 9, _ => rfl
  | 10, _ => rfl
  | 11, _ => rfl
  | 12, _ => rfl
  | 13, _ => rfl
  | k + 14, h => exact absurd h (by omega)
set_option maxRecDepth 100000 in
theorem rfields_in (k : Int) (f : ByteArray) (w : World) (h0 : 0 ≤ k) (h1 : k ≤ 13) (hf : fld k.toNat = f) : Calls Tryd.prog 33 #[.int .i64 k] w fun e w' => e = .returned (.string f) ∧ Below w.heap.size w w' := by
  have hc : (w.alloc (.cells #[.string ⟨#[68, 78]⟩, .string ⟨#[68, 65]⟩, .string ⟨#[68, 79, 65, 66]⟩, .string ⟨#[68, 65, 66]⟩, .string ⟨#[68, 65, 78]⟩, .string ⟨#[65, 66, 78]⟩, .string ⟨#[84]⟩, .string ⟨#[65, 84]⟩, .string ⟨#[46]⟩, .string ⟨#[78]⟩, .string ⟨#[78]⟩, .string ⟨#[65]⟩, .string ⟨#[78]⟩, .string ⟨#[46]⟩] 9)).cell? ⟨w.heap.size, k.toNat, none⟩ = some (.string f) := by
    rw [← hf, ← rfields_at k.toNat (by omega)]
    exact cell_of_row _ _ k.toNat rfields_c 9 (0, 0) (heap_alloc_new w _)
  have hk : k < 14 := by omega
  clear hf
  go_enter Tryd.func33, Tryd.ntmps33
  go_wp2
  go_ret
  exact ⟨rfl, below1 _ _⟩
theorem rfields_lo (k : Int) (w : World) (h : k < 0) : Calls Tryd.prog 33 #[.int .i64 k] w fun e w' => e = .returned (.string ⟨#[]⟩) ∧ Below w.heap.size w w' := by
  have hd : decide (k < 0) = true := by simpa using h
  go_enter Tryd.func33, Tryd.ntmps33
  go_wp2
  go_ret
  exact ⟨rfl, below1 _ _⟩
theorem rfields_hi (k : Int) (w : World) (h : 13 < k) : Calls Tryd.prog 33 #[.int .i64 k] w fun e w' => e = .returned (.string ⟨#[]⟩) ∧ Below w.heap.size w w' := by
  have hd : decide (k < 0) = false := by simp; omega
  have hd2 : decide (14 ≤ k) = true := by simp; omega
  go_enter Tryd.func33, Tryd.ntmps33
  go_wp2
  go_ret
  exact ⟨rfl, below1 _ _⟩
theorem rfields_any (k : Int) (w : World) : Calls Tryd.prog 33 #[.int .i64 k] w fun e w' => e = .returned (.string (fldZ k)) ∧ Below w.heap.size w w' := by
  unfold fldZ
  by_cases h : 0 ≤ k ∧ k ≤ 13
  · rw [if_pos h]
    exact rfields_in k _ w h.1 h.2 rfl
  · rw [if_neg h]
    by_cases h0 : k < 0
    · exact rfields_lo k w h0
    · exact rfields_hi k w (by omega)
end Go.Proofs.YtgdhgipofaaogaaDoor
namespace Go.Proofs.YtgdhgipofaaogaaDoor
open Go Go.RowKit
theorem Rw.new (B : Nat) (w : World) (l : List Int) (cs : Array Value) (n : Nat) (hn : n = l.length) (hm : n ≤ 100) (hB : B ≤ w.heap.size) (hc : cs.toList = l.map (Value.int .i64)) : Rw B (w.alloc (.cells cs 3)) (.slice (some ⟨w.heap.size, 0, none⟩) n n) l := by
  subst hn
  have hs : cs.size = l.length := by rw [← Array.length_toList, hc, List.length_map]
  refine ⟨by simp, .inr ⟨w.heap.size, l.length, cs, rfl, hB, heap_alloc_new w _, Nat.le_refl _, by unfold maxLen; omega, by omega, ?_⟩⟩
  rw [hc, Nat.mul_one]
  exact List.take_of_length_le (by simp)
end Go.Proofs.YtgdhgipofaaogaaDoor
namespace Go.Proofs.YtgdhgipofaaogaaDoor
open Go Go.RowKit
theorem srt2 (a b : Int) : srt [a, b] = if a < b then [a, b] else if a = b then [a] else [b, a] := by
  show insG (insG [] a) b = _
  unfold insG
  rfl
theorem srt1 (a : Int) : srt [a] = [a] := rfl
/-- The kinds that matter here: 0 none, 1 a way alone, 2 a branch, 3 an end, 4 any other. -/
theorem next_of (x : Ic) (p : Int) : nextM x p = if 0 ≤ x.k ∧ x.k ≤ 13 ∧ x.k ≠ 12 ∧ x.k ≠ 13 then (if x.k = 6 then [x.t] else if x.k = 7 then (if x.t < p + 1 then [x.t, p + 1] else if p + 1 < x.t then [p + 1, x.t] else [p + 1]) else [p + 1]) else [] := by
  unfold nextM
  by_cases hk : 0 ≤ x.k ∧ x.k ≤ 13
  · rw [if_pos hk]
    obtain ⟨m, hm⟩ := Int.eq_ofNat_of_zero_le hk.1
    have e : x.k.toNat = m := by omega
    rw [e]
    have h10 : ∀ m, m < 14 → hasB m 10 = (m == 6 || m == 7) := by decide
    have hen : ∀ m, m < 14 → ens m = (m == 6 || m == 12 || m == 13) := by decide
    rw [h10 m (by omega), hen m (by omega)]
    by_cases h6 : m = 6
    · have h6' : x.k = 6 := by omega
      rw [h6]
      simp [h6', srt1]
    by_cases h7 : m = 7
    · have h7' : x.k = 7 := by omega
      rw [h7]
      simp only [h7', srt2]
      by_cases a : x.t < p + 1
      · have c : ¬ p + 1 < x.t := by omega
        have d : ¬ p + 1 = x.t := by omega
        simp [a, c, d]
      · by_cases b : p + 1 < x.t
        · simp [a, b]
        · have d : p + 1 = x.t := by omega
          simp [d]
    by_cases h12 : m = 12
    · have h12' : x.k = 12 := by omega
      rw [h12]
      simp [h12']
    by_cases h13 : m = 13
    · have h13' : x.k = 13 := by omega
      rw [h13]
      simp [h13']
    have k6 : ¬ x.k = 6 := by omega
    have k7 : ¬ x.k = 7 := by omega
    have k12 : ¬ x.k = 12 := by omega
    have k13 : ¬ x.k = 13 := by omega
    simp [h6, h7, h12, h13, k6, k7, k12, k13, hk.1, hk.2, srt1]
  · rw [if_neg hk, if_neg (by omega)]
set_option maxRecDepth 100000 in
set_option maxHeartbeats 1000000 in
theorem rnext_un (x : Ic) (p : Int) (w : World) (hp0 : 0 ≤ p) (hp1 : p ≤ 1099511627776) (h : ¬ (0 ≤ x.k ∧ x.k ≤ 13)) : Calls Tryd.prog 57 #[.agg #[.int .i64 x.k, .int .i64 x.o, .int .i64 x.d, .int .i64 x.a, .int .i64 x.b, .int .i64 x.n, .int .i64 x.t], .int .i64 p] w (RowP w ([])) := by
  have hq : ∀ W, Calls Tryd.prog 33 #[.int .i64 x.k] W fun e w' => e = .returned (.string (fldZ x.k)) ∧ Below W.heap.size W w' := fun W => rfields_any x.k W
  obtain ⟨f, hf⟩ : ∃ f, fldZ x.k = f := ⟨_, rfl⟩
  rw [hf] at hq
  have HQ := Lib.hid hq
  have he : f.toList.isEmpty = true := by
    rw [← hf]
    unfold fldZ
    rw [if_neg h, ByteArray.toList_eq]
    rfl
  clear h
  clear hq hf
  go_enter Tryd.func57, Tryd.ntmps57
  go_wp2_with (go_at_call 33; (with_reducible refine (HQ.out _).mono ?_); rintro e1 w1 ⟨rfl, hb1⟩; have HB1 := Lib.hid (below_ch (below1 _ _) hb1); have HX1 := Lib.hid ((Ib.new rfl _ _ _ _ _ _ _).stay hb1); have hz1 : w.heap.size ≤ w1.heap.size := HB1.out.size; obtain ⟨bx1, y0, y1, y2, y3, y4, y5, y6, -⟩ := HX1.out.facts; clear hb1)
  go_ret
  exact rowp_nil HB1.out
set_option maxRecDepth 100000 in
set_option maxHeartbeats 1000000 in
theorem rnext_12 (x : Ic) (p : Int) (w : World) (hp0 : 0 ≤ p) (hp1 : p ≤ 1099511627776) (h : x.k = 12) : Calls Tryd.prog 57 #[.agg #[.int .i64 x.k, .int .i64 x.o, .int .i64 x.d, .int .i64 x.a, .int .i64 x.b, .int .i64 x.n, .int .i64 x.t], .int .i64 p] w (RowP w ([])) := by
  have hq : ∀ W, Calls Tryd.prog 33 #[.int .i64 x.k] W fun e w' => e = .returned (.string (fldZ x.k)) ∧ Below W.heap.size W w' := fun W => rfields_any x.k W
  obtain ⟨f, hf⟩ : ∃ f, fldZ x.k = f := ⟨_, rfl⟩
  rw [hf] at hq
  have HQ := Lib.hid hq
  have he : f.toList.isEmpty = false := by
    rw [← hf]
    unfold fldZ
    rw [if_pos ⟨by omega, by omega⟩, ByteArray.toList_eq]
    have : ∀ k, k < 14 → (fld k).data.toList.isEmpty = false := by decide
    exact this _ (by omega)
  have q12 : (x.k == 12) = true := by simp; omega
  clear h
  clear hq hf
  go_enter Tryd.func57, Tryd.ntmps57
  go_wp2_with (go_at_call 33; (with_reducible refine (HQ.out _).mono ?_); rintro e1 w1 ⟨rfl, hb1⟩; have HB1 := Lib.hid (below_ch (below1 _ _) hb1); have HX1 := Lib.hid ((Ib.new rfl _ _ _ _ _ _ _).stay hb1); have hz1 : w.heap.size ≤ w1.heap.size := HB1.out.size; obtain ⟨bx1, y0, y1, y2, y3, y4, y5, y6, -⟩ := HX1.out.facts; clear hb1)
  go_ret
  exact rowp_nil HB1.out
set_option maxRecDepth 100000 in
set_option maxHeartbeats 1000000 in
theorem rnext_13 (x : Ic) (p : Int) (w : World) (hp0 : 0 ≤ p) (hp1 : p ≤ 1099511627776) (h : x.k = 13) : Calls Tryd.prog 57 #[.agg #[.int .i64 x.k, .int .i64 x.o, .int .i64 x.d, .int .i64 x.a, .int .i64 x.b, .int .i64 x.n, .int .i64 x.t], .int .i64 p] w (RowP w ([])) := by
  have hq : ∀ W, Calls Tryd.prog 33 #[.int .i64 x.k] W fun e w' => e = .returned (.string (fldZ x.k)) ∧ Below W.heap.size W w' := fun W => rfields_any x.k W
  obtain ⟨f, hf⟩ : ∃ f, fldZ x.k = f := ⟨_, rfl⟩
  rw [hf] at hq
  have HQ := Lib.hid hq
  have he : f.toList.isEmpty = false := by
    rw [← hf]
    unfold fldZ
    rw [if_pos ⟨by omega, by omega⟩, ByteArray.toList_eq]
    have : ∀ k, k < 14 → (fld k).data.toList.isEmpty = false := by decide
    exact this _ (by omega)
  have q12 : (x.k == 12) = false := by simp; omega
  have q13 : (x.k == 13) = true := by simp; omega
  clear h
  clear hq hf
  go_enter Tryd.func57, Tryd.ntmps57
  go_wp2_with (go_at_call 33; (with_reducible refine (HQ.out _).mono ?_); rintro e1 w1 ⟨rfl, hb1⟩; have HB1 := Lib.hid (below_ch (below1 _ _) hb1); have HX1 := Lib.hid ((Ib.new rfl _ _ _ _ _ _ _).stay hb1); have hz1 : w.heap.size ≤ w1.heap.size := HB1.out.size; obtain ⟨bx1, y0, y1, y2, y3, y4, y5, y6, -⟩ := HX1.out.facts; clear hb1)
  go_ret
  exact rowp_nil HB1.out
set_option maxRecDepth 100000 in
set_option maxHeartbeats 1000000 in
theorem rnext_6 (x : Ic) (p : Int) (w : World) (hp0 : 0 ≤ p) (hp1 : p ≤ 1099511627776) (h : x.k = 6) : Calls Tryd.prog 57 #[.agg #[.int .i64 x.k, .int .i64 x.o, .int .i64 x.d, .int .i64 x.a, .int .i64 x.b, .int .i64 x.n, .int .i64 x.t], .int .i64 p] w (RowP w ([x.t])) := by
  have hq : ∀ W, Calls Tryd.prog 33 #[.int .i64 x.k] W fun e w' => e = .returned (.string (fldZ x.k)) ∧ Below W.heap.size W w' := fun W => rfields_any x.k W
  obtain ⟨f, hf⟩ : ∃ f, fldZ x.k = f := ⟨_, rfl⟩
  rw [hf] at hq
  have HQ := Lib.hid hq
  have he : f.toList.isEmpty = false := by
    rw [← hf]
    unfold fldZ
    rw [if_pos ⟨by omega, by omega⟩, ByteArray.toList_eq]
    have : ∀ k, k < 14 → (fld k).data.toList.isEmpty = false := by decide
    exact this _ (by omega)
  have q12 : (x.k == 12) = false := by simp; omega
  have q13 : (x.k == 13) = false := by simp; omega
  have q6 : (x.k == 6) = true := by simp; omega
  clear h
  clear hq hf
  go_enter Tryd.func57, Tryd.ntmps57
  go_wp2_with (go_at_call 33; (with_reducible refine (HQ.out _).mono ?_); rintro e1 w1 ⟨rfl, hb1⟩; have HB1 := Lib.hid (below_ch (below1 _ _) hb1); have HX1 := Lib.hid ((Ib.new rfl _ _ _ _ _ _ _).stay hb1); have hz1 : w.heap.size ≤ w1.heap.size := HB1.out.size; obtain ⟨bx1, y0, y1, y2, y3, y4, y5, y6, -⟩ := HX1.out.facts; clear hb1)
  go_ret
  exact ⟨_, rfl, Rw.new _ _ _ _ _ rfl (by simp) hz1 rfl, HB1.out.alloc hz1 _⟩
set_option maxRecDepth 100000 in
set_option maxHeartbeats 1000000 in
theorem rnext_7a (x : Ic) (p : Int) (w : World) (hp0 : 0 ≤ p) (hp1 : p ≤ 1099511627776) (h : x.k = 7) (ha : decide (x.t < p + 1) = true) : Calls Tryd.prog 57 #[.agg #[.int .i64 x.k, .int .i64 x.o, .int .i64 x.d, .int .i64 x.a, .int .i64 x.b, .int .i64 x.n, .int .i64 x.t], .int .i64 p] w (RowP w ([x.t, p + 1])) := by
  have hq : ∀ W, Calls Tryd.prog 33 #[.int .i64 x.k] W fun e w' => e = .returned (.string (fldZ x.k)) ∧ Below W.heap.size W w' := fun W => rfields_any x.k W
  obtain ⟨f, hf⟩ : ∃ f, fldZ x.k = f := ⟨_, rfl⟩
  rw [hf] at hq
  have HQ := Lib.hid hq
  have he : f.toList.isEmpty = false := by
    rw [← hf]
    unfold fldZ
    rw [if_pos ⟨by omega, by omega⟩, ByteArray.toList_eq]
    have : ∀ k, k < 14 → (fld k).data.toList.isEmpty = false := by decide
    exact this _ (by omega)
  have q12 : (x.k == 12) = false := by simp; omega
  have q13 : (x.k == 13) = false := by simp; omega
  have q6 : (x.k == 6) = false := by simp; omega
  have q7 : (x.k == 7) = true := by simp; omega
  clear h
  clear hq hf
  go_enter Tryd.func57, Tryd.ntmps57
  go_wp2_with (go_at_call 33; (with_reducible refine (HQ.out _).mono ?_); rintro e1 w1 ⟨rfl, hb1⟩; have HB1 := Lib.hid (below_ch (below1 _ _) hb1); have HX1 := Lib.hid ((Ib.new rfl _ _ _ _ _ _ _).stay hb1); have hz1 : w.heap.size ≤ w1.heap.size := HB1.out.size; obtain ⟨bx1, y0, y1, y2, y3, y4, y5, y6, -⟩ := HX1.out.facts; clear hb1)
  go_ret
  exact ⟨_, rfl, Rw.new _ _ _ _ _ rfl (by simp) hz1 rfl, HB1.out.alloc hz1 _⟩
set_option maxRecDepth 100000 in
set_option maxHeartbeats 1000000 in
theorem rnext_7b (x : Ic) (p : Int) (w : World) (hp0 : 0 ≤ p) (hp1 : p ≤ 1099511627776) (h : x.k = 7) (ha : decide (x.t < p + 1) = false) (hb : decide (p + 1 < x.t) = true) : Calls Tryd.prog 57 #[.agg #[.int .i64 x.k, .int .i64 x.o, .int .i64 x.d, .int .i64 x.a, .int .i64 x.b, .int .i64 x.n, .int .i64 x.t], .int .i64 p] w (RowP w ([p + 1, x.t])) := by
  have hq : ∀ W, Calls Tryd.prog 33 #[.int .i64 x.k] W fun e w' => e = .returned (.string (fldZ x.k)) ∧ Below W.heap.size W w' := fun W => rfields_any x.k W
  obtain ⟨f, hf⟩ : ∃ f, fldZ x.k = f := ⟨_, rfl⟩
  rw [hf] at hq
  have HQ := Lib.hid hq
  have he : f.toList.isEmpty = false := by
    rw [← hf]
    unfold fldZ
    rw [if_pos ⟨by omega, by omega⟩, ByteArray.toList_eq]
    have : ∀ k, k < 14 → (fld k).data.toList.isEmpty = false := by decide
    exact this _ (by omega)
  have q12 : (x.k == 12) = false := by simp; omega
  have q13 : (x.k == 13) = false := by simp; omega
  have q6 : (x.k == 6) = false := by simp; omega
  have q7 : (x.k == 7) = true := by simp; omega
  clear h
  clear hq hf
  go_enter Tryd.func57, Tryd.ntmps57
  go_wp2_with (go_at_call 33; (with_reducible refine (HQ.out _).mono ?_); rintro e1 w1 ⟨rfl, hb1⟩; have HB1 := Lib.hid (below_ch (below1 _ _) hb1); have HX1 := Lib.hid ((Ib.new rfl _ _ _ _ _ _ _).stay hb1); have hz1 : w.heap.size ≤ w1.heap.size := HB1.out.size; obtain ⟨bx1, y0, y1, y2, y3, y4, y5, y6, -⟩ := HX1.out.facts; clear hb1)
  go_ret
  exact ⟨_, rfl, Rw.new _ _ _ _ _ rfl (by simp) hz1 rfl, HB1.out.alloc hz1 _⟩
set_option maxRecDepth 100000 in
set_option maxHeartbeats 1000000 in
theorem rnext_7c (x : Ic) (p : Int) (w : World) (hp0 : 0 ≤ p) (hp1 : p ≤ 1099511627776) (h : x.k = 7) (ha : decide (x.t < p + 1) = false) (hb : decide (p + 1 < x.t) = false) : Calls Tryd.prog 57 #[.agg #[.int .i64 x.k, .int .i64 x.o, .int .i64 x.d, .int .i64 x.a, .int .i64 x.b, .int .i64 x.n, .int .i64 x.t], .int .i64 p] w (RowP w ([p + 1])) := by
  have hq : ∀ W, Calls Tryd.prog 33 #[.int .i64 x.k] W fun e w' => e = .returned (.string (fldZ x.k)) ∧ Below W.heap.size W w' := fun W => rfields_any x.k W
  obtain ⟨f, hf⟩ : ∃ f, fldZ x.k = f := ⟨_, rfl⟩
  rw [hf] at hq
  have HQ := Lib.hid hq
  have he : f.toList.isEmpty = false := by
    rw [← hf]
    unfold fldZ
    rw [if_pos ⟨by omega, by omega⟩, ByteArray.toList_eq]
    have : ∀ k, k < 14 → (fld k).data.toList.isEmpty = false := by decide
    exact this _ (by omega)
  have q12 : (x.k == 12) = false := by simp; omega
  have q13 : (x.k == 13) = false := by simp; omega
  have q6 : (x.k == 6) = false := by simp; omega
  have q7 : (x.k == 7) = true := by simp; omega
  clear h
  clear hq hf
  go_enter Tryd.func57, Tryd.ntmps57
  go_wp2_with (go_at_call 33; (with_reducible refine (HQ.out _).mono ?_); rintro e1 w1 ⟨rfl, hb1⟩; have HB1 := Lib.hid (below_ch (below1 _ _) hb1); have HX1 := Lib.hid ((Ib.new rfl _ _ _ _ _ _ _).stay hb1); have hz1 : w.heap.size ≤ w1.heap.size := HB1.out.size; obtain ⟨bx1, y0, y1, y2, y3, y4, y5, y6, -⟩ := HX1.out.facts; clear hb1)
  go_ret
  exact ⟨_, rfl, Rw.new _ _ _ _ _ rfl (by simp) hz1 rfl, HB1.out.alloc hz1 _⟩
set_option maxRecDepth 100000 in
set_option maxHeartbeats 1000000 in
theorem rnext_on (x : Ic) (p : Int) (w : World) (hp0 : 0 ≤ p) (hp1 : p ≤ 1099511627776) (h : 0 ≤ x.k ∧ x.k ≤ 13 ∧ x.k ≠ 12 ∧ x.k ≠ 13) (h6 : x.k ≠ 6) (h7 : x.k ≠ 7) : Calls Tryd.prog 57 #[.agg #[.int .i64 x.k, .int .i64 x.o, .int .i64 x.d, .int .i64 x.a, .int .i64 x.b, .int .i64 x.n, .int .i64 x.t], .int .i64 p] w (RowP w ([p + 1])) := by
  have hq : ∀ W, Calls Tryd.prog 33 #[.int .i64 x.k] W fun e w' => e = .returned (.string (fldZ x.k)) ∧ Below W.heap.size W w' := fun W => rfields_any x.k W
  obtain ⟨f, hf⟩ : ∃ f, fldZ x.k = f := ⟨_, rfl⟩
  rw [hf] at hq
  have HQ := Lib.hid hq
  have he : f.toList.isEmpty = false := by
    rw [← hf]
    unfold fldZ
    rw [if_pos ⟨by omega, by omega⟩, ByteArray.toList_eq]
    have : ∀ k, k < 14 → (fld k).data.toList.isEmpty = false := by decide
    exact this _ (by omega)
  have q12 : (x.k == 12) = false := by simp; omega
  have q13 : (x.k == 13) = false := by simp; omega
  have q6 : (x.k == 6) = false := by simp; omega
  have q7 : (x.k == 7) = false := by simp; omega
  clear h h6 h7
  clear hq hf
  go_enter Tryd.func57, Tryd.ntmps57
  go_wp2_with (go_at_call 33; (with_reducible refine (HQ.out _).mono ?_); rintro e1 w1 ⟨rfl, hb1⟩; have HB1 := Lib.hid (below_ch (below1 _ _) hb1); have HX1 := Lib.hid ((Ib.new rfl _ _ _ _ _ _ _).stay hb1); have hz1 : w.heap.size ≤ w1.heap.size := HB1.out.size; obtain ⟨bx1, y0, y1, y2, y3, y4, y5, y6, -⟩ := HX1.out.facts; clear hb1)
  go_ret
  exact ⟨_, rfl, Rw.new _ _ _ _ _ rfl (by simp) hz1 rfl, HB1.out.alloc hz1 _⟩
/-- The document's Next, of any instruction at any place. -/
theorem rnext_any (x : Ic) (p : Int) (w : World) (hp0 : 0 ≤ p) (hp1 : p ≤ 1099511627776) : Calls Tryd.prog 57 #[.agg #[.int .i64 x.k, .int .i64 x.o, .int .i64 x.d, .int .i64 x.a, .int .i64 x.b, .int .i64 x.n, .int .i64 x.t], .int .i64 p] w (RowP w (nextM x p)) := by
  rw [next_of]
  by_cases hk : 0 ≤ x.k ∧ x.k ≤ 13 ∧ x.k ≠ 12 ∧ x.k ≠ 13
  · rw [if_pos hk]
    by_cases h6 : x.k = 6
    · rw [if_pos h6]
      exact rnext_6 x p w hp0 hp1 h6
    · rw [if_neg h6]
      by_cases h7 : x.k = 7
      · rw [if_pos h7]
        by_cases ha : x.t < p + 1
        · rw [if_pos ha]
          exact rnext_7a x p w hp0 hp1 h7 (by simpa using ha)
        · rw [if_neg ha]
          by_cases hb : p + 1 < x.t
          · rw [if_pos hb]
            exact rnext_7b x p w hp0 hp1 h7 (by simpa using ha) (by simpa using hb)
          · rw [if_neg hb]
            exact rnext_7c x p w hp0 hp1 h7 (by simpa using ha) (by simpa using hb)
      · rw [if_neg h7]
        exact rnext_on x p w hp0 hp1 hk h6 h7
  · rw [if_neg hk]
    by_cases h12 : x.k = 12
    · exact rnext_12 x p w hp0 hp1 h12
    · by_cases h13 : x.k = 13
      · exact rnext_13 x p w hp0 hp1 h13
      · exact rnext_un x p w hp0 hp1 (by omega)
end Go.Proofs.YtgdhgipofaaogaaDoor
namespace Go.Proofs.YtgdhgipofaaogaaDoor
open Go Go.RowKit Gm
theorem inn_take {n j : Nat} {l : List Int} {z : Int} (h : l[j]? = some z) : inn n (l.take (j + 1)) = inn n (l.take j) ++ (if outB n z then [] else [z]) := by
  unfold inn
  rw [List.take_add_one, h, List.filter_append]
  cases hz : outB n z <;> simp [hz]
set_option maxRecDepth 100000 in
set_option maxHeartbeats 4000000 in
theorem refnext_any {W : World} {p : Option Addr} {cap : Nat} {c : List Ic} (hc : Hid (CodeAt W p c)) (hn : c.length ≤ 1000000) {i : Nat} {x : Ic} (hx : Hid (c[i]? = some x)) :
    Calls Tryd.prog 31 #[.slice p c.length cap, .int .i64 i] W (RowP W (inn c.length (nextM x i))) := by
  have hi : i < c.length := (List.getElem?_eq_some_iff.1 hx.out).1
  obtain ⟨g, o7, rfl, hg, hat7, hok⟩ := hc.out i x hx.out
  have k0 := hat7.k
  have k1 := hat7.o
  have k2 := hat7.d
  have k3 := hat7.a
  have k4 := hat7.b
  have k5 := hat7.n
  have k6 := hat7.t
  clear hat7 hok
  obtain ⟨i0, hi0, hz0, hz1, hz2⟩ := info_parts info_int
  go_enter Tryd.func31, Tryd.ntmps31
  go_wp2_with (go_at_call 57; ((with_reducible refine (rnext_any x i _ (by omega) (by omega)).mono ?_); rintro e6 w6 ⟨v6, rfl, hr6, hb6⟩; have HR6 := Lib.hid hr6; have HB6 := Lib.hid hb6; clear hr6 hb6))
  have hlen := nextM_len x i
  obtain ⟨l, hl⟩ : ∃ l, nextM x i = l := ⟨_, rfl⟩
  rw [hl] at HR6 hlen
  have HL := Lib.hid hl
  clear hl k0 k1 k2 k3 k4 k5 k6
  obtain ⟨q, cq, e6, -⟩ := HR6.out.gv.open
  have HE6 := Lib.hid e6
  rw [e6]
  clear e6
  go_loopw [6, 7] (fun a b wr => ∃ (j : Nat), b = .int .i64 j ∧ j ≤ l.length ∧ Hid (Below w6.heap.size w6 wr ∧ Rw w6.heap.size wr a (inn c.length (l.take j)))) (fun _ b _ => l.length - (intOf b).toNat)
  case atStart => exact ⟨0, rfl, Nat.zero_le _, Lib.hid ⟨Below.refl _ _, Rw.nil _ _⟩⟩
  case round =>
    obtain ⟨wo, rfl⟩ : ∃ wo : World, wo = wr := ⟨_, rfl⟩
    obtain ⟨j, rfl, hj, HY⟩ := hrel
    obtain ⟨qo, co, eo, -⟩ := HY.out.2.gv.open
    subst eo
    by_cases hlt : j < l.length
    · obtain ⟨z, hz⟩ : ∃ z, l[j]? = some z := ⟨_, List.getElem?_eq_getElem hlt⟩
      have h6 := (HR6.out.stay HY.out.1).gv.open
      rw [HE6.out] at h6
      obtain ⟨q', c', e', h6⟩ := h6
      cases e'
      obtain ⟨g6, rfl, -, -, -, -, -, hcell⟩ := h6.resolve_left (fun e => by omega)
      have iz := hcell j hlt
      simp only [iv, List.getD_eq_getElem?_getD, hz, Option.getD_some] at iz
      clear hcell h6
      have hin := inn_take (n := c.length) hz
      have hlo : (inn c.length (l.take j)).length ≤ 2 := by
        unfold inn
        exact Nat.le_trans (List.length_filter_le _ _) (by rw [List.length_take]; omega)
      obtain ⟨L, hL⟩ : ∃ L, inn c.length (l.take j) = L := ⟨_, rfl⟩
      rw [hL] at hin hlo HY ⊢
      by_cases h0 : 0 ≤ z
      · by_cases h1 : z < c.length
        · have hno : outB c.length z = false := by simp [outB, h0, h1]
          rw [hno] at hin
          have HIN := Lib.hid hin
          have HV := Lib.hid HY.out.2
          have hsz := HY.out.1.size
          clear hin hz hL hno
          go_wp2_with (at_builtin; refine wpList_append_own_at _ rfl _ _ 64 rfl w6.heap.size 3 i0 (.int .i64 0) 1 8 Tryd.underlying64 hi0 hz0 hz1 hz2 rfl (by decide) (.slice qo L.length co) L.length (L.map (Value.int .i64)) rfl (World.ownsRow.alloc HV.out _) ⟨wo.heap.size, 0, none⟩ 1 1 [.int .i64 z] rfl rfl (cell_one_new _ _ _) (fun u hu => by simp at hu; subst hu; rfl) (by unfold maxLen; omega) (by omega) (by simp; omega) ?_; intro v8 w8 hown hgrow _ hats; have HG8 := Lib.hid hown; have HW8 := Lib.hid hgrow; clear hown hgrow hats)
          go_roundw
          case rel => exact ⟨j + 1, by go_num, by omega, Lib.hid ⟨(HY.out.1.alloc hsz _).grown HW8.out (by simp; omega) (fun e h => (World.ownsRow.lt HV.out e h).1), by
            rw [HIN.out]
            have := HG8.out
            unfold Rw
            simpa using this⟩⟩
          case measure => (simp [intOf]; try omega)
        · have hno : outB c.length z = true := by simp [outB]; omega
          rw [hno] at hin
          have HIN := Lib.hid hin
          clear hin hz hL hno
          go_wp2
          go_roundw
          case rel => exact ⟨j + 1, by go_num, by omega, Lib.hid ⟨HY.out.1, by rw [HIN.out]; simpa using HY.out.2⟩⟩
          case measure => (simp [intOf]; try omega)
      · have hno : outB c.length z = true := by simp [outB]; omega
        rw [hno] at hin
        have HIN := Lib.hid hin
        clear hin hz hL hno
        go_wp2
        go_roundw
        case rel => exact ⟨j + 1, by go_num, by omega, Lib.hid ⟨HY.out.1, by rw [HIN.out]; simpa using HY.out.2⟩⟩
        case measure => (simp [intOf]; try omega)
    · obtain rfl : j = l.length := by omega
      go_wp2
      go_ret
      refine ⟨_, rfl, ?_, HB6.out.trans (HY.out.1.mono HB6.out.size)⟩
      rw [HL.out]
      have := HY.out.2
      rw [List.take_length] at this
      simpa [List.take_length] using this.mono HB6.out.size
end Go.Proofs.YtgdhgipofaaogaaDoor
namespace Go.Proofs.YtgdhgipofaaogaaDoor
open Gm
/-- A code's ways, which places are come to, what is above what, what is in which loop. -/
def Ed (c : List Ic) (i j : Nat) : Prop := j ∈ outs c i
open Classical
end Go.Proofs.YtgdhgipofaaogaaDoor
namespace Go.Proofs.YtgdhgipofaaogaaDoor
open Go Go.RowKit Gm
theorem next_c {W : World} {p : Option Addr} {cap : Nat} {c : List Ic} (hc : Hid (CodeAt W p c)) (hn : c.length ≤ 1000000) {i : Nat} (hi : i < c.length) :
    Calls Tryd.prog 31 #[.slice p c.length cap, .int .i64 i] W fun e w' => ∃ v, e = .returned v ∧ GV 3 W.heap.size w' v (outs c i).length (lv (outs c i)) ∧ Below W.heap.size W w' := by
  have hx : c[i]? = some c[i] := List.getElem?_eq_getElem hi
  refine (refnext_any hc hn (Lib.hid hx)).mono ?_
  rintro e w' ⟨v, rfl, hr, hb⟩
  refine ⟨v, rfl, ?_, hb⟩
  rw [inn_outs hx] at hr
  have := hr.gv
  rw [List.length_map] at this
  exact this.to fun j hj => by simp [iv, lv, hj]
end Go.Proofs.YtgdhgipofaaogaaDoor
namespace Go.Proofs.YtgdhgipofaaogaaDoor
open Go Go.ChangeMaps Go.MapKept Go.WideElems Go.Maps
/-- How a function reads: by its number; nil reads as nothing. -/
def fnElem : Value → Option (DataW Unit × List MemPlace)
  | .func (.func n) fs cs => if fs.size = 0 ∧ cs.size = 0 then some (.lit (.int .i64 n), []) else none
  | .nilFunc => some (.nil, [])
  | _ => none
theorem fnElem_mk (n : Nat) : fnElem (.func (.func n) #[] #[]) = some (.lit (.int .i64 n), []) := by simp [fnElem]
theorem fnElem_inv {v : Value} {n : Nat} {ps : List MemPlace} (h : fnElem v = some (.lit (.int .i64 n), ps)) : v = .func (.func n) #[] #[] := by
  unfold fnElem at h
  split at h
  · rename_i m fs cs
    split at h
    · rename_i hc
      simp at h
      obtain ⟨h1, h2⟩ := hc
      have e1 : fs = #[] := Array.eq_empty_of_size_eq_zero h1
      have e2 : cs = #[] := Array.eq_empty_of_size_eq_zero h2
      have e3 : m = n := Int.ofNat.inj h.1
      rw [e1, e2, e3]
    · cases h
  · cases h
  · cases h
/-- An entry of a map's literal: as a store into it. -/
theorem wpList_insert_own {H : Type} {P : Program} (w : World) {ops : Array Oper} {rest : List Oper} {o : Oper} {a : Act} {Q : Exit → Act → World → Prop}
    (hg : o.guard = none) (m x v : Operand) (t : TypeId) (hop : o.op = Op.insert t m x v)
    (k e : TypeId) (K : Keyed P k) (ht : P.underlying t = some (.map k e)) (R : Value → Option (DataW H × List MemPlace)) (b n : Nat) (D : DataW H)
    (hm : a.eval m = .map (some b)) (hown : w.ownsMap P k R b n D) (hn : n < maxLen) (key val : Value) (kl : Lit) (hx : a.eval x = key) (hv : a.eval v = val) (hkey : keyOf P k key = some kl)
    (d : DataW H) (ps : List MemPlace) (hval : R val = some (d, ps))
    (hK : ∀ w', w'.ownsMap P k R b (n + 1) (D.put kl d) → w.grownBy w' (some b) → wpList P ops Q rest (a.put o.dst undef) w') :
    wpList P ops Q (o :: rest) a w := by
  refine wpList_plain hg fun K' hK' => ?_
  obtain ⟨w', hrun, r1, r2⟩ := hown.update K ht hn hkey hval
  unfold Oper.wp
  simp [execOp, hop, hm, hx, hv, hrun, Result.andThen]
  exact hK' _ _ (hK w' r1 r2)
/-- What the map reads as at a key tells what a look-up answers. -/
theorem look_fn {P : Program} {k e t : TypeId} {w : World} {b n : Nat} {D : DataW Unit} (h : w.ownsMap P k fnElem b n D) (K : Keyed P k) (ht : P.underlying t = some (.map k e))
    (hz : (zeroValue e).run P w = .ok .nilFunc w) {key : Value} {kl : Lit} (hkey : keyOf P k key = some kl) :
    (∀ g : Nat, D.atKey kl .nil = .lit (.int .i64 g) → (Instr.lookup t (.map (some b)) key true).run P w = .ok (.tuple #[.func (.func g) #[] #[], .bool true]) w) ∧
    ((∀ d : DataW Unit, D.atKey kl d = d) → (Instr.lookup t (.map (some b)) key true).run P w = .ok (.tuple #[.nilFunc, .bool false]) w) := by
  obtain ⟨es, clock, hb, F, _, rfl⟩ := h
  rcases Maps.fit_look true K ht hz hb F hkey with ⟨hrun, _, hat⟩ | ⟨e0, y, _, _, hrun, hRv, hat, _⟩
  · refine ⟨fun g hg => ?_, fun _ => by simpa using hrun⟩
    rw [hat .nil] at hg
    cases hg
  · refine ⟨fun g hg => ?_, fun hd => ?_⟩
    · rw [hat .nil] at hg
      obtain ⟨y1, y2⟩ := y
      simp only at hg
      subst hg
      have := fnElem_inv hRv
      simpa [this] using hrun
    · have h1 := hat .nil
      have h2 := hat (.lit (.int .i64 0))
      rw [hd] at h1 h2
      rw [← h1] at h2
      cases h2
end Go.Proofs.YtgdhgipofaaogaaDoor
namespace Go.Proofs.YtgdhgipofaaogaaDoor
open Go Go.RowKit
/-- A truth as a number. -/
def tr (b : Bool) : Int := if b then 1 else 0
/-- The quotient, 0 of 0. -/
def qt (a b : Int) : Int := if b = 0 then 0 else wrap64 (a.tdiv b)
/-- What an operator comes to of two numbers. -/
def ev (op a b : Int) : Int :=
  if op = 0 then wrap64 (a + b)
  else if op = 1 then wrap64 (a - b)
  else if op = 2 then wrap64 (a * b)
  else if op = 3 then qt a b
  else if op = 4 then wrap64 (a - wrap64 (b * qt a b))
  else if op = 5 then bits .and .i64 a b
  else if op = 6 then bits .or .i64 a b
  else if op = 7 then bits .xor .i64 a b
  else if op = 8 then wrap64 (a * 2 ^ (b % 64).toNat)
  else if op = 9 then a / 2 ^ (b % 64).toNat
  else if op = 10 then tr (a == b)
  else if op = 11 then tr (a != b)
  else if op = 12 then tr (decide (a < b))
  else if op = 13 then tr (decide (a ≤ b))
  else if op = 14 then tr (decide (b < a))
  else if op = 15 then tr (decide (b ≤ a))
  else if op = 16 then tr (decide (IntKind.u64.wrap a < IntKind.u64.wrap b))
  else if op = 17 then tr (a != 0 && b != 0)
  else if op = 18 then tr (a != 0 || b != 0)
  else 0
theorem ret_int {k : IntKind} {a b : Int} (h : a = b) : Ending.returned (.int k a) = .returned (.int k b) := by rw [h]
theorem i64_and63 (n : Int) : bits .and .i64 n 63 = n % 64 := by
  have h63 : (BitVec.ofInt 64 63).toNat = 2 ^ 6 - 1 := by decide
  have key : (BitVec.ofInt 64 n &&& BitVec.ofInt 64 63).toNat = (n % ((2 ^ 64 : Nat) : Int)).toNat % 2 ^ 6 := by
    rw [BitVec.toNat_and, BitVec.toNat_ofInt, h63, Nat.and_two_pow_sub_one_eq_mod]
  show IntKind.i64.wrap ((BitVec.ofInt 64 n &&& BitVec.ofInt 64 63).toNat : Nat) = n % 64
  rw [key, IntKind.wrap_i64]
  omega
theorem truth_t (w : World) : Calls Tryd.prog 95 #[.bool true] w fun e w' => e = .returned (.int .i64 1) ∧ w = w' := by
  go_enter Tryd.func95, Tryd.ntmps95
  go_wp2
  go_ret
  exact ⟨rfl, rfl⟩
theorem truth_f (w : World) : Calls Tryd.prog 95 #[.bool false] w fun e w' => e = .returned (.int .i64 0) ∧ w = w' := by
  go_enter Tryd.func95, Tryd.ntmps95
  go_wp2
  go_ret
  exact ⟨rfl, rfl⟩
theorem truth_any (t : Bool) (w : World) : Calls Tryd.prog 95 #[.bool t] w fun e w' => e = .returned (.int .i64 (tr t)) ∧ w = w' := by
  cases t
  · exact truth_f w
  · exact truth_t w
theorem quot_zero (a : Int) (w : World) : Calls Tryd.prog 86 #[.int .i64 a, .int .i64 0] w fun e w' => e = .returned (.int .i64 0) ∧ w = w' := by
  go_enter Tryd.func86, Tryd.ntmps86
  go_wp2
  go_ret
  exact ⟨rfl, rfl⟩
theorem quot_some (a b : Int) (hb : (b == 0) = false) (hn : ¬ b = 0) (w : World) : Calls Tryd.prog 86 #[.int .i64 a, .int .i64 b] w fun e w' => e = .returned (.int .i64 (wrap64 (a.tdiv b))) ∧ w = w' := by
  go_enter Tryd.func86, Tryd.ntmps86
  go_wp2
  go_ret
  exact ⟨rfl, rfl⟩
theorem quot_any (a b : Int) (w : World) : Calls Tryd.prog 86 #[.int .i64 a, .int .i64 b] w fun e w' => e = .returned (.int .i64 (qt a b)) ∧ w = w' := by
  by_cases h : b = 0
  · subst h
    exact quot_zero a w
  · have h2 : qt a b = wrap64 (a.tdiv b) := if_neg h
    rw [h2]
    exact quot_some a b (by simp [h]) h w
theorem places_any (b : Int) (w : World) : Calls Tryd.prog 92 #[.int .i64 b] w fun e w' => e = .returned (.int .u64 (b % 64)) ∧ w = w' := by
  go_enter Tryd.func92, Tryd.ntmps92
  go_wp2
  go_ret
  refine ⟨?_, rfl⟩
  apply ret_int
  rw [i64_and63, IntKind.wrap_u64]
  omega
theorem f0_any (a b : Int) (w : World) : Calls Tryd.prog 82 #[.int .i64 a, .int .i64 b] w fun e w' => e = .returned (.int .i64 (wrap64 (a + b))) ∧ w = w' := by
  go_enter Tryd.func82, Tryd.ntmps82
  go_wp2
  go_ret
  exact ⟨rfl, rfl⟩
theorem f1_any (a b : Int) (w : World) : Calls Tryd.prog 83 #[.int .i64 a, .int .i64 b] w fun e w' => e = .returned (.int .i64 (wrap64 (a - b))) ∧ w = w' := by
  go_enter Tryd.func83, Tryd.ntmps83
  go_wp2
  go_ret
  exact ⟨rfl, rfl⟩
theorem f2_any (a b : Int) (w : World) : Calls Tryd.prog 84 #[.int .i64 a, .int .i64 b] w fun e w' => e = .returned (.int .i64 (wrap64 (a * b))) ∧ w = w' := by
  go_enter Tryd.func84, Tryd.ntmps84
  go_wp2
  go_ret
  exact ⟨rfl, rfl⟩
theorem f3_any (a b : Int) (w : World) : Calls Tryd.prog 85 #[.int .i64 a, .int .i64 b] w fun e w' => e = .returned (.int .i64 (qt a b)) ∧ w = w' := by
  go_enter Tryd.func85, Tryd.ntmps85
  go_wp2_with (go_at_call 86; refine (quot_any _ _ _).mono ?_; rintro e w' ⟨rfl, rfl⟩)
  go_ret
  exact ⟨rfl, rfl⟩
theorem f4_any (a b : Int) (w : World) : Calls Tryd.prog 87 #[.int .i64 a, .int .i64 b] w fun e w' => e = .returned (.int .i64 (wrap64 (a - wrap64 (b * qt a b)))) ∧ w = w' := by
  go_enter Tryd.func87, Tryd.ntmps87
  go_wp2_with (go_at_call 86; refine (quot_any _ _ _).mono ?_; rintro e w' ⟨rfl, rfl⟩)
  go_ret
  exact ⟨rfl, rfl⟩
theorem f5_any (a b : Int) (w : World) : Calls Tryd.prog 88 #[.int .i64 a, .int .i64 b] w fun e w' => e = .returned (.int .i64 (bits .and .i64 a b)) ∧ w = w' := by
  go_enter Tryd.func88, Tryd.ntmps88
  go_wp2
  go_ret
  exact ⟨rfl, rfl⟩
theorem f6_any (a b : Int) (w : World) : Calls Tryd.prog 89 #[.int .i64 a, .int .i64 b] w fun e w' => e = .returned (.int .i64 (bits .or .i64 a b)) ∧ w = w' := by
  go_enter Tryd.func89, Tryd.ntmps89
  go_wp2
  go_ret
  exact ⟨rfl, rfl⟩
theorem f7_any (a b : Int) (w : World) : Calls Tryd.prog 90 #[.int .i64 a, .int .i64 b] w fun e w' => e = .returned (.int .i64 (bits .xor .i64 a b)) ∧ w = w' := by
  go_enter Tryd.func90, Tryd.ntmps90
  go_wp2
  go_ret
  exact ⟨rfl, rfl⟩
theorem f8_any (a b : Int) (w : World) : Calls Tryd.prog 91 #[.int .i64 a, .int .i64 b] w fun e w' => e = .returned (.int .i64 (wrap64 (a * 2 ^ (b % 64).toNat))) ∧ w = w' := by
  have h0 : 0 ≤ b % 64 := by omega
  have h1 : b % 64 ≤ 63 := by omega
  go_enter Tryd.func91, Tryd.ntmps91
  go_wp2_with (go_at_call 92; refine (places_any _ _).mono ?_; rintro e w' ⟨rfl, rfl⟩)
  go_ret
  exact ⟨rfl, rfl⟩
theorem f9_any (a b : Int) (w : World) : Calls Tryd.prog 93 #[.int .i64 a, .int .i64 b] w fun e w' => e = .returned (.int .i64 (a / 2 ^ (b % 64).toNat)) ∧ w = w' := by
  have h0 : 0 ≤ b % 64 := by omega
  have h1 : b % 64 ≤ 63 := by omega
  go_enter Tryd.func93, Tryd.ntmps93
  go_wp2_with (go_at_call 92; refine (places_any _ _).mono ?_; rintro e w' ⟨rfl, rfl⟩)
  go_ret
  exact ⟨rfl, rfl⟩
theorem f10_any (a b : Int) (w : World) : Calls Tryd.prog 94 #[.int .i64 a, .int .i64 b] w fun e w' => e = .returned (.int .i64 (tr (a == b))) ∧ w = w' := by
  go_enter Tryd.func94, Tryd.ntmps94
  go_wp2_with (go_at_call 95; refine (truth_any _ _).mono ?_; rintro e w' ⟨rfl, rfl⟩)
  go_ret
  exact ⟨rfl, rfl⟩
theorem f11_any (a b : Int) (w : World) : Calls Tryd.prog 96 #[.int .i64 a, .int .i64 b] w fun e w' => e = .returned (.int .i64 (tr (a != b))) ∧ w = w' := by
  go_enter Tryd.func96, Tryd.ntmps96
  go_wp2_with (go_at_call 95; refine (truth_any _ _).mono ?_; rintro e w' ⟨rfl, rfl⟩)
  go_ret
  exact ⟨rfl, rfl⟩
theorem f12_any (a b : Int) (w : World) : Calls Tryd.prog 97 #[.int .i64 a, .int .i64 b] w fun e w' => e = .returned (.int .i64 (tr (decide (a < b)))) ∧ w = w' := by
  go_enter Tryd.func97, Tryd.ntmps97
  go_wp2_with (go_at_call 95; refine (truth_any _ _).mono ?_; rintro e w' ⟨rfl, rfl⟩)
  go_ret
  exact ⟨rfl, rfl⟩
theorem f13_any (a b : Int) (w : World) : Calls Tryd.prog 98 #[.int .i64 a, .int .i64 b] w fun e w' => e = .returned (.int .i64 (tr (decide (a ≤ b)))) ∧ w = w' := by
  go_enter Tryd.func98, Tryd.ntmps98
  go_wp2_with (go_at_call 95; refine (truth_any _ _).mono ?_; rintro e w' ⟨rfl, rfl⟩)
  go_ret
  exact ⟨rfl, rfl⟩
theorem f14_any (a b : Int) (w : World) : Calls Tryd.prog 99 #[.int .i64 a, .int .i64 b] w fun e w' => e = .returned (.int .i64 (tr (decide (b < a)))) ∧ w = w' := by
  go_enter Tryd.func99, Tryd.ntmps99
  go_wp2_with (go_at_call 95; refine (truth_any _ _).mono ?_; rintro e w' ⟨rfl, rfl⟩)
  go_ret
  exact ⟨rfl, rfl⟩
theorem f15_any (a b : Int) (w : World) : Calls Tryd.prog 100 #[.int .i64 a, .int .i64 b] w fun e w' => e = .returned (.int .i64 (tr (decide (b ≤ a)))) ∧ w = w' := by
  go_enter Tryd.func100, Tryd.ntmps100
  go_wp2_with (go_at_call 95; refine (truth_any _ _).mono ?_; rintro e w' ⟨rfl, rfl⟩)
  go_ret
  exact ⟨rfl, rfl⟩
theorem f16_any (a b : Int) (w : World) : Calls Tryd.prog 101 #[.int .i64 a, .int .i64 b] w fun e w' => e = .returned (.int .i64 (tr (decide (IntKind.u64.wrap a < IntKind.u64.wrap b)))) ∧ w = w' := by
  go_enter Tryd.func101, Tryd.ntmps101
  go_wp2_with (go_at_call 95; refine (truth_any _ _).mono ?_; rintro e w' ⟨rfl, rfl⟩)
  go_ret
  exact ⟨rfl, rfl⟩
theorem f17_any (a b : Int) (w : World) : Calls Tryd.prog 102 #[.int .i64 a, .int .i64 b] w fun e w' => e = .returned (.int .i64 (tr (a != 0 && b != 0))) ∧ w = w' := by
  go_enter Tryd.func102, Tryd.ntmps102
  go_wp2_with (go_at_call 95; refine (truth_any _ _).mono ?_; rintro e w' ⟨rfl, rfl⟩)
  all_goals go_ret
  all_goals refine ⟨?_, rfl⟩
  all_goals apply ret_int
  all_goals first | rfl | simp_all [tr]
theorem f18_any (a b : Int) (w : World) : Calls Tryd.prog 103 #[.int .i64 a, .int .i64 b] w fun e w' => e = .returned (.int .i64 (tr (a != 0 || b != 0))) ∧ w = w' := by
  go_enter Tryd.func103, Tryd.ntmps103
  go_wp2_with (go_at_call 95; refine (truth_any _ _).mono ?_; rintro e w' ⟨rfl, rfl⟩)
  all_goals go_ret
  all_goals refine ⟨?_, rfl⟩
  all_goals apply ret_int
  all_goals first | rfl | simp_all [tr]
end Go.Proofs.YtgdhgipofaaogaaDoor
namespace Go.Proofs.YtgdhgipofaaogaaDoor
open Gm
open Go.RowKit (wrap64)

/-- Registers that are known, and what they have. -/
abbrev Kl : Type := List (Int × Int)
def gt : Kl → Int → Option Int
  | [], _ => none
  | p :: l, r => if p.1 = r then some p.2 else gt l r
/-- None of the first ones is the register's. -/
def SK (l : Kl) (r : Int) (i : Nat) : Prop := ∀ j p, j < i → l[j]? = some p → p.1 ≠ r
theorem SK.zero (l : Kl) (r : Int) : SK l r 0 := fun _ _ h => absurd h (Nat.not_lt_zero _)
theorem SK.next {l : Kl} {r : Int} {i : Nat} {p : Int × Int} (h : SK l r i) (hp : l[i]? = some p) (hn : p.1 ≠ r) : SK l r (i + 1) := fun j q hj hq => by
  by_cases e : j = i
  · subst e; rw [hp] at hq; cases hq; exact hn
  · exact h j q (by omega) hq
theorem gt_hit : ∀ {l : Kl} {r : Int} {i : Nat} {p : Int × Int}, SK l r i → l[i]? = some p → p.1 = r → gt l r = some p.2
  | [], _, _, _, _, h, _ => by simp at h
  | q :: l, r, 0, p, _, h, e => by
    have : q = p := by simpa using h
    subst this
    simp only [gt]
    rw [if_pos e]
  | q :: l, r, i + 1, p, hs, h, e => by
    simp only [gt]
    rw [if_neg (hs 0 q (by omega) rfl)]
    exact gt_hit (i := i) (fun j t hj ht => hs (j + 1) t (by omega) (by simpa using ht)) (by simpa using h) e
theorem gt_miss : ∀ {l : Kl} {r : Int}, SK l r l.length → gt l r = none
  | [], _, _ => rfl
  | q :: l, r, hs => by
    simp only [gt]
    rw [if_neg (hs 0 q (by simp) rfl)]
    exact gt_miss fun j t hj ht => hs (j + 1) t (by simp; omega) (by simpa using ht)
theorem gt_mem : ∀ {l : Kl} {r n : Int}, gt l r = some n → (r, n) ∈ l
  | [], _, _, h => by cases h
  | q :: l, r, n, h => by
    simp only [gt] at h
    split at h
    · rename_i e
      cases h
      rw [← e]
      simp
    · exact List.mem_cons_of_mem _ (gt_mem h)
theorem mem_gt : ∀ {l : Kl} {p : Int × Int}, (l.map (·.1)).Nodup → p ∈ l → gt l p.1 = some p.2
  | [], _, _, h => by cases h
  | q :: l, p, hn, h => by
    simp only [List.map_cons, List.nodup_cons] at hn
    simp only [gt]
    rcases List.mem_cons.1 h with e | h
    · subst e; rw [if_pos rfl]
    · rw [if_neg fun (e : q.1 = p.1) => hn.1 (by rw [e]; exact List.mem_map.2 ⟨p, h, rfl⟩)]
      exact mem_gt hn.2 h
/-- .. but of a register. -/
def wo (l : Kl) (r : Int) : Kl := l.filter fun p => decide (p.1 ≠ r)
theorem gt_wo : ∀ (l : Kl) (r s : Int), gt (wo l r) s = if s = r then none else gt l s
  | [], r, s => by simp [wo, gt]
  | q :: l, r, s => by
    have ih := gt_wo l r s
    unfold wo at ih ⊢
    by_cases h : q.1 = r
    · rw [List.filter_cons_of_neg (by simp [h]), ih]
      by_cases e : s = r
      · rw [if_pos e, if_pos e]
      · rw [if_neg e, if_neg e]
        simp only [gt]
        rw [if_neg fun k => e (k.symm.trans h)]
    · rw [List.filter_cons_of_pos (by simp [h])]
      simp only [gt]
      by_cases e : q.1 = s
      · rw [if_pos e, if_neg fun k => h (e.trans k), if_pos e]
      · rw [if_neg e, ih, if_neg e]
theorem gt_app : ∀ (l : Kl) (d n s : Int), gt (l ++ [(d, n)]) s = match gt l s with | some m => some m | none => if d = s then some n else none
  | [], d, n, s => rfl
  | q :: l, d, n, s => by
    simp only [List.cons_append, gt]
    by_cases e : q.1 = s
    · rw [if_pos e, if_pos e]
    · rw [if_neg e, if_neg e]
      exact gt_app l d n s
/-- What D is known to be behind an instruction. -/
def vl (f : Int → Option Int) (x : Ic) : Option Int :=
  if x.k = 0 then some x.n
  else if x.k = 1 then f x.a
  else if x.k = 2 then (match f x.a, f x.b with | some a, some b => some (ev x.o a b) | _, _ => none)
  else if x.k = 3 then (match f x.a with
    | some a => if a ≠ 0 then f x.b else f x.d
    | none => (match f x.d, f x.b with | some d, some b => if d = b then some d else none | _, _ => none))
  else none
def bhF (f : Int → Option Int) (x : Ic) (r : Int) : Option Int := if 4 < x.k then f r else if r = x.d then vl f x else f r
def bhL (l : Kl) (x : Ic) : Kl := if 4 < x.k then l else wo l x.d ++ (match vl (gt l) x with | some n => [(x.d, n)] | none => [])
theorem gt_bhL (l : Kl) (x : Ic) (r : Int) : gt (bhL l x) r = bhF (gt l) x r := by
  unfold bhL bhF
  by_cases hk : 4 < x.k
  · rw [if_pos hk, if_pos hk]
  · rw [if_neg hk, if_neg hk]
    cases hv : vl (gt l) x with
    | none =>
      simp only [List.append_nil, gt_wo]
    | some n =>
      rw [gt_app, gt_wo]
      by_cases e : r = x.d
      · rw [if_pos e, if_pos e]
        simp [e]
      · rw [if_neg e, if_neg e]
        cases gt l r with
        | none => simp; exact fun k => e k.symm
        | some m => rfl
def kle (f g : Int → Option Int) : Prop := ∀ r n, f r = some n → g r = some n
theorem kle.refl (f : Int → Option Int) : kle f f := fun _ _ h => h
theorem kle.trans {f g h : Int → Option Int} (a : kle f g) (b : kle g h) : kle f h := fun r n k => b r n (a r n k)
theorem vl_mono {f g : Int → Option Int} (h : kle f g) {x : Ic} {n : Int} (hv : vl f x = some n) : vl g x = some n := by
  unfold vl at hv ⊢
  by_cases k0 : x.k = 0
  · rw [if_pos k0] at hv ⊢; exact hv
  rw [if_neg k0] at hv ⊢
  by_cases k1 : x.k = 1
  · rw [if_pos k1] at hv ⊢; exact h _ _ hv
  rw [if_neg k1] at hv ⊢
  by_cases k2 : x.k = 2
  · rw [if_pos k2] at hv ⊢
    cases ha : f x.a with
    | none => rw [ha] at hv; cases hv
    | some a =>
      cases hb : f x.b with
      | none => rw [ha, hb] at hv; cases hv
      | some b =>
        rw [ha, hb] at hv
        rw [h _ _ ha, h _ _ hb]
        exact hv
  rw [if_neg k2] at hv ⊢
  by_cases k3 : x.k = 3
  · rw [if_pos k3] at hv ⊢
    cases ha : f x.a with
    | some a =>
      rw [ha] at hv
      rw [h _ _ ha]
      simp only at hv ⊢
      by_cases h0 : a ≠ 0
      · rw [if_pos h0] at hv ⊢; exact h _ _ hv
      · rw [if_neg h0] at hv ⊢; exact h _ _ hv
    | none =>
      rw [ha] at hv
      simp only at hv
      cases hd : f x.d with
      | none => rw [hd] at hv; cases hv
      | some d =>
        cases hb : f x.b with
        | none => rw [hd, hb] at hv; cases hv
        | some b =>
          rw [hd, hb] at hv
          simp only at hv
          by_cases e : d = b
          · rw [if_pos e] at hv
            cases hv
            subst e
            cases g x.a with
            | some a =>
              simp only
              by_cases h0 : a ≠ 0
              · rw [if_pos h0]; exact h _ _ hb
              · rw [if_neg h0]; exact h _ _ hd
            | none => simp only [h _ _ hd, h _ _ hb, if_true]
          · rw [if_neg e] at hv; cases hv
  · rw [if_neg k3] at hv; cases hv
theorem bhF_mono {f g : Int → Option Int} (h : kle f g) (x : Ic) : kle (bhF f x) (bhF g x) := fun r n hv => by
  unfold bhF at hv ⊢
  by_cases hk : 4 < x.k
  · rw [if_pos hk] at hv ⊢; exact h _ _ hv
  · rw [if_neg hk] at hv ⊢
    by_cases e : r = x.d
    · rw [if_pos e] at hv ⊢; exact vl_mono h hv
    · rw [if_neg e] at hv ⊢; exact h _ _ hv
/-- What both agree in. -/
def mt (a b : Kl) : Kl := a.filter fun p => decide (gt b p.1 = some p.2)
theorem mt_sub (a b : Kl) : (mt a b).Sublist a := List.filter_sublist
theorem gt_mt {a b : Kl} (hn : (a.map (·.1)).Nodup) {r n : Int} : gt (mt a b) r = some n ↔ gt a r = some n ∧ gt b r = some n := by
  have hn2 : ((mt a b).map (·.1)).Nodup := hn.sublist ((mt_sub a b).map _)
  constructor
  · intro h
    have hm := gt_mem h
    have hm2 := List.mem_filter.1 hm
    exact ⟨mem_gt hn hm2.1, by simpa using hm2.2⟩
  · rintro ⟨h1, h2⟩
    have hm : (r, n) ∈ mt a b := List.mem_filter.2 ⟨gt_mem h1, by simpa using h2⟩
    exact mem_gt hn2 hm
theorem mt_all {a b : Kl} (h : ¬ (mt a b).length < a.length) : kle (gt a) (gt b) := fun r n hv => by
  have e : mt a b = a := (mt_sub a b).eq_of_length (Nat.le_antisymm (mt_sub a b).length_le (by omega))
  have hm := gt_mem hv
  rw [← e] at hm
  simpa using (List.mem_filter.1 hm).2
theorem sub_len : ∀ {l m : List Int}, l.Nodup → (∀ t, t ∈ l → t ∈ m) → l.length ≤ m.length
  | [], _, _, _ => Nat.zero_le _
  | a :: l, m, hn, h => by
    obtain ⟨h1, h2⟩ := List.nodup_cons.1 hn
    have := sub_len (m := m.erase a) h2 fun t ht => (List.mem_erase_of_ne fun (e : t = a) => h1 (e ▸ ht)).2 (h t (by simp [ht]))
    rw [List.length_erase_of_mem (h a (by simp))] at this
    have : 0 < m.length := List.length_pos_of_mem (h a (by simp))
    simp only [List.length_cons]
    omega
/-- What can be come to. -/
inductive Rc (c : List Ic) : Nat → Prop
  | zero (h : 0 < c.length) : Rc c 0
  | on {i j : Nat} (h : Rc c i) (hj : j ∈ outs c i) : Rc c j
theorem Rc.lt {c : List Ic} {i : Nat} (h : Rc c i) : i < c.length := by
  cases h with
  | zero h => exact h
  | on _ hj => exact (outs_lt hj).2
/-- What may be known: nothing at first, and else no more than what is known behind each place from which it is gone on. -/
def Cons (c : List Ic) (G : Nat → Int → Option Int) : Prop := (∀ r, G 0 r = none) ∧ ∀ i x j, c[i]? = some x → Rc c i → j ∈ outs c i → kle (G j) (bhF (G i) x)
/-- What is known: the most that can be. -/
def Kn (c : List Ic) (p : Nat) (r n : Int) : Prop := Rc c p ∧ ∃ G, Cons c G ∧ G p r = some n
/-- What was found so far. -/
structure FI (c : List Ic) (I : Nat → Bool) (L : Nat → Kl) : Prop where
  z : I 0 = true
  l0 : L 0 = []
  rc : ∀ i, I i = true → Rc c i
  up : ∀ G, Cons c G → ∀ i, I i = true → kle (G i) (gt (L i))
  nd : ∀ i, ((L i).map (·.1)).Nodup
  ks : ∀ i p, p ∈ L i → ∃ (j : Nat) (x : Ic), c[j]? = some x ∧ x.d = p.1
  no : ∀ i, I i = false → L i = []
  v6 : ∀ i p, p ∈ L i → In6 p.2
section
variable {c : List Ic} {I : Nat → Bool} {L : Nat → Kl} {i j k : Nat} {x : Ic}
theorem keys_len {l : Kl} (hn : (l.map (·.1)).Nodup) (hk : ∀ p, p ∈ l → ∃ (j : Nat) (x : Ic), c[j]? = some x ∧ x.d = p.1) : l.length ≤ c.length := by
  have := sub_len (m := c.map (·.d)) hn fun t ht => by
    obtain ⟨p, hp, rfl⟩ := List.mem_map.1 ht
    obtain ⟨j, x, hx, e⟩ := hk p hp
    exact List.mem_map.2 ⟨x, List.mem_of_getElem? hx, e⟩
  simpa using this
theorem FI.len (h : FI c I L) (i : Nat) : (L i).length ≤ c.length := keys_len (h.nd i) (h.ks i)
theorem bhL_nd {l : Kl} (hn : (l.map (·.1)).Nodup) (x : Ic) : ((bhL l x).map (·.1)).Nodup := by
  unfold bhL
  split
  · exact hn
  · have h1 : ((wo l x.d).map (·.1)).Nodup := hn.sublist (List.filter_sublist.map _)
    cases vl (gt l) x with
    | none => simpa using h1
    | some n =>
      simp only [List.map_append, List.map_cons, List.map_nil]
      rw [List.nodup_append]
      refine ⟨h1, by simp, fun a ha b hb => ?_⟩
      obtain ⟨p, hp, rfl⟩ := List.mem_map.1 ha
      have h2 := (List.mem_filter.1 hp).2
      have : b = x.d := by simpa using hb
      rw [this]
      simpa using h2
theorem bhL_ks {l : Kl} (hk : ∀ p, p ∈ l → ∃ (j : Nat) (x : Ic), c[j]? = some x ∧ x.d = p.1) (hx : c[i]? = some x) : ∀ p, p ∈ bhL l x → ∃ (j : Nat) (x : Ic), c[j]? = some x ∧ x.d = p.1 := fun p hp => by
  unfold bhL at hp
  split at hp
  · exact hk p hp
  · rcases List.mem_append.1 hp with hp | hp
    · exact hk p (List.mem_filter.1 hp).1
    · cases hv : vl (gt l) x with
      | none => rw [hv] at hp; simp at hp
      | some n =>
        rw [hv] at hp
        have : p = (x.d, n) := by simpa using hp
        exact ⟨i, x, hx, by rw [this]⟩
/-- What comes in at a place. -/
def inL (I : Nat → Bool) (L : Nat → Kl) (j : Nat) (l : Kl) : Kl := if I j then mt (L j) l else l
/-- A row that may come out of a place: it holds no less than is known. -/
structure Ot (c : List Ic) (i : Nat) (x : Ic) (l : Kl) : Prop where
  up : ∀ G, Cons c G → kle (bhF (G i) x) (gt l)
  nd : (l.map (·.1)).Nodup
  ks : ∀ p, p ∈ l → ∃ (j : Nat) (x : Ic), c[j]? = some x ∧ x.d = p.1
  v6 : ∀ p, p ∈ l → In6 p.2
theorem FI.new (h0 : 0 < c.length) : FI c (fun i => decide (i = 0)) (fun _ => []) where
  z := by simp
  l0 := rfl
  rc := fun i hi => by
    have : i = 0 := by simpa using hi
    subst this
    exact .zero h0
  up := fun G hG i hi r n hr => by
    have : i = 0 := by simpa using hi
    subst this
    rw [hG.1 r] at hr
    cases hr
  nd := fun _ => by simp
  ks := fun _ _ h => by cases h
  no := fun _ _ => rfl
  v6 := fun _ _ h => by cases h
theorem ev_in6 {o a b : Int} (ha : In6 a) : In6 (ev o a b) := by
  have hw : ∀ z : Int, In6 (wrap64 z) := fun z => by unfold In6 wrap64; omega
  have hb : ∀ (p : BinOp) (x y : Int), In6 (bits p .i64 x y) := fun p x y => by
    unfold bits In6
    simp only
    rw [IntKind.wrap_i64]
    omega
  have ht : ∀ t : Bool, In6 (tr t) := fun t => by cases t <;> simp [tr, In6]
  have hq : ∀ x y : Int, In6 (qt x y) := fun x y => by
    unfold qt
    split
    · simp [In6]
    · exact hw _
  have hs : ∀ n : Nat, In6 (a / 2 ^ n) := fun n => by
    have hp : (0 : Int) < 2 ^ n := Int.pow_pos (by decide)
    obtain ⟨h1, h2⟩ := ha
    have h3 : (-9223372036854775808 : Int) * 2 ^ n ≤ -9223372036854775808 * 1 := Int.mul_le_mul_of_nonpos_left (by omega) (by omega)
    have h4 : (9223372036854775808 : Int) * 1 ≤ 9223372036854775808 * 2 ^ n := Int.mul_le_mul_of_nonneg_left (by omega) (by omega)
    have h5 : (-9223372036854775808 : Int) ≤ a / 2 ^ n := Int.le_ediv_of_mul_le hp (by omega)
    have h6 : a / 2 ^ n < 9223372036854775808 := Int.ediv_lt_of_lt_mul hp (by omega)
    exact ⟨h5, by omega⟩
  have ite6 : ∀ {p : Prop} [Decidable p] {u v : Int}, In6 u → In6 v → In6 (if p then u else v) := fun {p} _ {u v} h1 h2 => by
    by_cases h : p
    · rw [if_pos h]; exact h1
    · rw [if_neg h]; exact h2
  unfold ev
  exact ite6 (hw _) (ite6 (hw _) (ite6 (hw _) (ite6 (hq _ _) (ite6 (hw _) (ite6 (hb _ _ _) (ite6 (hb _ _ _) (ite6 (hb _ _ _) (ite6 (hw _) (ite6 (hs _) (ite6 (ht _) (ite6 (ht _) (ite6 (ht _) (ite6 (ht _) (ite6 (ht _) (ite6 (ht _) (ite6 (ht _) (ite6 (ht _) (ite6 (ht _) (by simp [In6])))))))))))))))))))
theorem vl_in6 {l : Kl} (h6 : ∀ p, p ∈ l → In6 p.2) (hx : In6 x.n) {n : Int} (h : vl (gt l) x = some n) : In6 n := by
  have hg : ∀ r m, gt l r = some m → In6 m := fun r m h => h6 (r, m) (gt_mem h)
  unfold vl at h
  split at h
  · cases h; exact hx
  split at h
  · exact hg _ _ h
  split at h
  · split at h
    · rename_i a b ha hb
      cases h
      exact ev_in6 (hg _ _ ha)
    · cases h
  split at h
  · split at h
    · split at h
      · exact hg _ _ h
      · exact hg _ _ h
    · split at h
      · split at h
        · cases h; rename_i hd hb _; first | exact hg _ _ hd | exact hg _ _ hb
        · cases h
      · cases h
  · cases h
theorem FI.ot (h : FI c I L) (hx : c[i]? = some x) (h6 : In6 x.n) (hi : I i = true) : Ot c i x (bhL (L i) x) where
  up := fun G hG r n hr => by
    rw [gt_bhL]
    exact bhF_mono (h.up G hG i hi) x r n hr
  nd := bhL_nd (h.nd i) x
  ks := bhL_ks (h.ks i) hx
  v6 := fun p hp => by
    unfold bhL at hp
    split at hp
    · exact h.v6 i p hp
    · rcases List.mem_append.1 hp with hp | hp
      · exact h.v6 i p (List.mem_filter.1 hp).1
      · cases hv : vl (gt (L i)) x with
        | none => rw [hv] at hp; simp at hp
        | some n =>
          rw [hv] at hp
          have : p = (x.d, n) := by simpa using hp
          rw [this]
          exact vl_in6 (h.v6 i) h6 hv
theorem FI.in_kle (h : FI c I L) (hx : c[i]? = some x) (hi : I i = true) (hj : j ∈ outs c i) {l : Kl} (hl : Ot c i x l) {G : Nat → Int → Option Int} (hG : Cons c G) : kle (G j) (gt (inL I L j l)) := fun r n hr => by
  have h1 := hG.2 i x j hx (h.rc i hi) hj r n hr
  have h2 := hl.up G hG r n h1
  unfold inL
  by_cases hI : I j = true
  · rw [if_pos hI, gt_mt (h.nd j)]
    exact ⟨h.up G hG j hI r n hr, h2⟩
  · rw [if_neg hI]
    exact h2
theorem FI.step (h : FI c I L) (hx : c[i]? = some x) (hi : I i = true) (hj : j ∈ outs c i) {l : Kl} (hl : Ot c i x l) (hne : I j = false ∨ (inL I L j l).length < (L j).length) : FI c (upd I j true) (upd L j (inL I L j l)) := by
  have hj0 : j ≠ 0 := fun e => by
    subst e
    rcases hne with e | e
    · rw [h.z] at e; cases e
    · rw [h.l0] at e; exact absurd e (Nat.not_lt_zero _)
  have hin : (((inL I L j l).map (·.1)).Nodup) ∧ (∀ p, p ∈ inL I L j l → ∃ (j : Nat) (x : Ic), c[j]? = some x ∧ x.d = p.1) ∧ ∀ p, p ∈ inL I L j l → In6 p.2 := by
    unfold inL
    by_cases hI : I j = true
    · rw [if_pos hI]
      exact ⟨(h.nd j).sublist ((mt_sub _ _).map _), fun p hp => h.ks j p ((mt_sub _ _).subset hp), fun p hp => h.v6 j p ((mt_sub _ _).subset hp)⟩
    · rw [if_neg hI]
      exact ⟨hl.nd, hl.ks, hl.v6⟩
  refine ⟨?_, ?_, fun q hq => ?_, fun G hG q hq => ?_, fun q => ?_, fun q => ?_, fun q hq => ?_, fun q => ?_⟩
  · rw [upd_of (fun e => hj0 e.symm)]; exact h.z
  · rw [upd_of (fun e => hj0 e.symm)]; exact h.l0
  · by_cases e : q = j
    · subst e; exact .on (h.rc i hi) hj
    · rw [upd_of e] at hq; exact h.rc q hq
  · by_cases e : q = j
    · subst e; rw [upd_at]; exact h.in_kle hx hi hj hl hG
    · rw [upd_of e] at hq ⊢; exact h.up G hG q hq
  · by_cases e : q = j
    · subst e; rw [upd_at]; exact hin.1
    · rw [upd_of e]; exact h.nd q
  · by_cases e : q = j
    · subst e; rw [upd_at]; exact hin.2.1
    · rw [upd_of e]; exact h.ks q
  · by_cases e : q = j
    · subst e; rw [upd_at] at hq; cases hq
    · rw [upd_of e] at hq ⊢; exact h.no q hq
  · by_cases e : q = j
    · subst e; rw [upd_at]; exact hin.2.2
    · rw [upd_of e]; exact h.v6 q
/-- How much can be found yet. -/
def msr (n : Nat) (I : Nat → Bool) (L : Nat → Kl) : Nat := ((List.range n).map fun i => if I i then (L i).length else n + 1).sum
theorem sum_upd : ∀ (l : List Nat) (f g : Nat → Nat) (j : Nat), l.Nodup → j ∈ l → (∀ q, q ≠ j → f q = g q) → g j < f j → (l.map g).sum < (l.map f).sum
  | [], _, _, _, _, h, _, _ => by cases h
  | a :: l, f, g, j, hn, h, he, hl => by
    obtain ⟨h1, h2⟩ := List.nodup_cons.1 hn
    simp only [List.map_cons, List.sum_cons]
    by_cases e : a = j
    · subst e
      have : l.map g = l.map f := List.map_congr_left fun q hq => (he q fun (e : q = a) => h1 (e ▸ hq)).symm
      rw [this]
      omega
    · have := sum_upd l f g j h2 ((List.mem_cons.1 h).resolve_left fun k => e k.symm) he hl
      rw [he a e]
      omega
theorem FI.less (h : FI c I L) (hj : j ∈ outs c i) {l : Kl} (hl : Ot c i x l) (hne : I j = false ∨ (inL I L j l).length < (L j).length) : msr c.length (upd I j true) (upd L j (inL I L j l)) < msr c.length I L := by
  refine sum_upd _ _ _ j List.nodup_range (List.mem_range.2 (outs_lt hj).2) (fun q hq => by rw [upd_of hq, upd_of hq]) ?_
  rw [upd_at, upd_at, if_pos rfl]
  by_cases hI : I j = true
  · rw [if_pos hI]
    exact hne.resolve_left (by rw [hI]; simp)
  · rw [if_neg hI]
    unfold inL
    rw [if_neg hI]
    have := keys_len hl.nd hl.ks
    omega
/-- Nothing more comes of a way. -/
def Cl (c : List Ic) (I : Nat → Bool) (L : Nat → Kl) (i j : Nat) : Prop := I j = true ∧ ∀ x, c[i]? = some x → kle (gt (L j)) (bhF (gt (L i)) x)
theorem FI.closed (hx : c[i]? = some x) (hI : I j = true) (hn : ¬ (inL I L j (bhL (L i) x)).length < (L j).length) : Cl c I L i j := by
  refine ⟨hI, fun y hy => ?_⟩
  rw [hx] at hy
  cases hy
  unfold inL at hn
  rw [if_pos hI] at hn
  exact fun r n hr => by rw [← gt_bhL]; exact mt_all hn r n hr
/-- The first places are done. -/
def Dn (c : List Ic) (I : Nat → Bool) (L : Nat → Kl) (i : Nat) : Prop := ∀ q, q < i → I q = true → ∀ j, j ∈ outs c q → Cl c I L q j
theorem FI.rc_in (h : FI c I L) (hd : Dn c I L c.length) {p : Nat} (hp : Rc c p) : I p = true := by
  induction hp with
  | zero _ => exact h.z
  | on hr hj ih => exact (hd _ hr.lt ih _ hj).1
theorem FI.rc_iff (h : FI c I L) (hd : Dn c I L c.length) (p : Nat) : I p = true ↔ Rc c p := ⟨h.rc p, h.rc_in hd⟩
theorem FI.kn (h : FI c I L) (hd : Dn c I L c.length) (p : Nat) (r n : Int) : gt (L p) r = some n ↔ Kn c p r n := by
  constructor
  · intro hr
    have hI : I p = true := by
      cases hp : I p with
      | true => rfl
      | false => rw [h.no p hp] at hr; cases hr
    refine ⟨h.rc p hI, fun q r => gt (L q) r, ⟨fun r => by (show gt (L 0) r = none; rw [h.l0]; rfl), fun i x j hx hrc hj => ?_⟩, hr⟩
    exact (hd i hrc.lt (h.rc_in hd hrc) j hj).2 x hx
  · rintro ⟨hp, G, hG, hr⟩
    exact h.up G hG p (h.rc_in hd hp) r n hr
end
end Go.Proofs.YtgdhgipofaaogaaDoor
