/- Rows in memory as functions: rows of their full length, rows that grow, rows that are read; whose block is whose. -/
import Derived.Test.YtacgfjcdfgdpjaaDoorGib
import Derived.Laws.MakeOwn
import Derived.ProofKit
namespace Go.Proofs.YtacgfjcdfgdpjaaDoor
set_option linter.unusedSimpArgs false
set_option linter.unusedVariables false
open Go Go.RowKit

/-- All old blocks stand as they stood, but for those of S. -/
structure Ch (S : Nat → Prop) (W X : World) : Prop where
  os : X.os = W.os
  tape : X.tape = W.tape
  output : X.output = W.output
  size : W.heap.size ≤ X.heap.size
  block : ∀ k, k < W.heap.size → ¬ S k → X.heap[k]? = W.heap[k]?
section
variable {S T : Nat → Prop} {W X Y : World}
theorem Ch.refl (S : Nat → Prop) (W : World) : Ch S W W := ⟨rfl, rfl, rfl, Nat.le_refl _, fun _ _ _ => rfl⟩
theorem Ch.trans (h : Ch S W X) (k : Ch S X Y) : Ch S W Y :=
  ⟨k.os.trans h.os, k.tape.trans h.tape, k.output.trans h.output, Nat.le_trans h.size k.size, fun i hi hn => (k.block i (Nat.lt_of_lt_of_le hi h.size) hn).trans (h.block i hi hn)⟩
theorem Ch.of (h : Below W.heap.size W X) : Ch S W X := ⟨h.os, h.tape, h.output, h.size, fun k hk _ => h.block k hk⟩
theorem Ch.alloc (h : Ch S W X) (o : Obj) : Ch S W (X.alloc o) := h.trans (.of ((Below.refl _ _).alloc (Nat.le_refl _) o))
theorem Ch.drewN (h : Ch S W X) (n : Nat) : Ch S W (X.drewN n) := h.trans ⟨rfl, rfl, rfl, Nat.le_refl _, fun _ _ _ => rfl⟩
theorem Ch.stepB (h : Ch S W X) (k : Below X.heap.size X Y) : Ch S W Y := h.trans (.of k)
theorem Ch.set (h : Ch S W X) {b : Nat} (hb : S b ∨ W.heap.size ≤ b) (o : Nat) (v : Value) : Ch S W (X.setCell ⟨b, o, none⟩ v) := by
  refine ⟨h.os, h.tape, h.output, by simp [World.setCell]; exact h.size, fun k hk hn => ?_⟩
  rw [heap_setCell_other X ⟨b, o, none⟩ k v (by
    rintro rfl
    rcases hb with hb | hb
    · exact hn hb
    · exact absurd hk (by simpa using hb))]
  exact h.block k hk hn
theorem Ch.grown (h : Ch S W X) {o : Option Nat} (k : X.grownBy Y o) (hb : ∀ b, o = some b → S b ∨ W.heap.size ≤ b) : Ch S W Y :=
  ⟨k.os.trans h.os, k.tape.trans h.tape, k.output.trans h.output, Nat.le_trans h.size k.size, fun i hi hn => (k.block i (Nat.lt_of_lt_of_le hi h.size) (by
    intro e
    rcases hb i e.symm with hb | hb
    · exact hn hb
    · omega)).trans (h.block i hi hn)⟩
theorem Ch.mono (h : Ch S W X) (hs : ∀ k, k < W.heap.size → S k → T k) : Ch T W X := ⟨h.os, h.tape, h.output, h.size, fun k hk hn => h.block k hk fun e => hn (hs k hk e)⟩
/-- Seen from before that was there. -/
theorem Ch.fresh {V : World} (h : Ch T V W) (k : Ch S W X) (hs : ∀ b, b < V.heap.size → S b → T b) : Ch T V X :=
  ⟨k.os.trans h.os, k.tape.trans h.tape, k.output.trans h.output, Nat.le_trans h.size k.size, fun i hi hn => (k.block i (Nat.lt_of_lt_of_le hi h.size) fun e => hn (hs i hi e)).trans (h.block i hi hn)⟩
theorem Ch.below {B : Nat} (h : Ch S W X) (hB : B ≤ W.heap.size) (hs : ∀ b, b < B → ¬ S b) : Below B W X := ⟨h.os, h.tape, h.output, h.size, fun k hk => h.block k (Nat.lt_of_lt_of_le hk hB) (hs k hk)⟩
theorem Ch.cell (h : Ch S W X) {b o : Nat} (hb : b < W.heap.size) (hn : ¬ S b) : X.cell? ⟨b, o, none⟩ = W.cell? ⟨b, o, none⟩ := World.cell?_of_block (a := ⟨b, o, none⟩) (h.block b hb hn)
end

theorem Ch.like {S : Nat → Prop} {W X Y : World} (h : Ch S W X) (e : Y.heap = X.heap) (e1 : Y.os = X.os) (e2 : Y.tape = X.tape) (e3 : Y.output = X.output) : Ch S W Y := ⟨e1.trans h.os, e2.trans h.tape, e3.trans h.output, by rw [e]; exact h.size, fun k a b => by rw [e]; exact h.block k a b⟩
theorem below_like {B : Nat} {W X Y : World} (h : Below B W X) (e : Y.heap = X.heap) (e1 : Y.os = X.os) (e2 : Y.tape = X.tape) (e3 : Y.output = X.output) : Below B W Y := ⟨e1.trans h.os, e2.trans h.tape, e3.trans h.output, by rw [e]; exact h.size, fun k a => by rw [e]; exact h.block k a⟩
/-- A number of 64 bits. -/
def In6 (n : Int) : Prop := -9223372036854775808 ≤ n ∧ n ≤ 9223372036854775807
def Ok6 (x : Ic) : Prop := In6 x.k ∧ In6 x.o ∧ In6 x.d ∧ In6 x.a ∧ In6 x.b ∧ In6 x.n ∧ In6 x.t
/-- An instruction's seven cells, from one on. -/
structure At7 (w : World) (g q : Nat) (x : Ic) : Prop where
  k : w.cell? ⟨g, q, none⟩ = some (.int .i64 x.k)
  o : w.cell? ⟨g, q + 1, none⟩ = some (.int .i64 x.o)
  d : w.cell? ⟨g, q + 2, none⟩ = some (.int .i64 x.d)
  a : w.cell? ⟨g, q + 3, none⟩ = some (.int .i64 x.a)
  b : w.cell? ⟨g, q + 4, none⟩ = some (.int .i64 x.b)
  n : w.cell? ⟨g, q + 5, none⟩ = some (.int .i64 x.n)
  t : w.cell? ⟨g, q + 6, none⟩ = some (.int .i64 x.t)
theorem At7.stay {W W' : World} {g q B : Nat} {x : Ic} (h : At7 W g q x) (hg : g < B) (hb : Below B W W') : At7 W' g q x where
  k := (hb.cell (p := ⟨g, q, none⟩) hg).trans h.k
  o := (hb.cell (p := ⟨g, q + 1, none⟩) hg).trans h.o
  d := (hb.cell (p := ⟨g, q + 2, none⟩) hg).trans h.d
  a := (hb.cell (p := ⟨g, q + 3, none⟩) hg).trans h.a
  b := (hb.cell (p := ⟨g, q + 4, none⟩) hg).trans h.b
  n := (hb.cell (p := ⟨g, q + 5, none⟩) hg).trans h.n
  t := (hb.cell (p := ⟨g, q + 6, none⟩) hg).trans h.t
/-- A code in memory. -/
def CodeAt (w : World) (p : Option Addr) (c : List Ic) : Prop := ∀ i x, c[i]? = some x → ∃ g o, p = some ⟨g, o, none⟩ ∧ g < w.heap.size ∧ At7 w g (o + i * 7) x ∧ Ok6 x
theorem CodeAt.stay {W W' : World} {p : Option Addr} {c : List Ic} (h : CodeAt W p c) (hb : Below W.heap.size W W') : CodeAt W' p c := fun i x hx => by
  obtain ⟨g, o, h1, h2, h3, h4⟩ := h i x hx
  exact ⟨g, o, h1, Nat.lt_of_lt_of_le h2 hb.size, h3.stay h2 hb, h4⟩

/-- A function with another value at one place. -/
def upd {α : Type} (f : Nat → α) (i : Nat) (x : α) : Nat → α := fun j => if j = i then x else f j
section
variable {α : Type} {f : Nat → α} {i j : Nat} {x : α}
theorem upd_at (f : Nat → α) (i : Nat) (x : α) : upd f i x i = x := if_pos rfl
theorem upd_of (h : j ≠ i) : upd f i x j = f j := if_neg h
end
theorem upd_next {α : Type} (g : Nat → α) (z : α) (j : Nat) : upd (fun i => if i < j then g i else z) j (g j) = fun i => if i < j + 1 then g i else z := by
  funext i
  unfold upd
  rcases Nat.lt_trichotomy i j with h | h | h
  · simp only
    rw [if_neg (by omega), if_pos h, if_pos (by omega)]
  · subst h
    simp
  · simp only
    rw [if_neg (by omega), if_neg (by omega), if_neg (by omega)]
/-- Numbers, and truths, as values. -/
def iv (f : Nat → Int) : Nat → Value := fun i => .int .i64 (f i)
def bv (f : Nat → Bool) : Nat → Value := fun i => .bool (f i)
theorem iv_upd (f : Nat → Int) (i : Nat) (x : Int) : upd (iv f) i (.int .i64 x) = iv (upd f i x) := by
  funext j
  unfold upd iv
  split <;> simp [*]
theorem bv_upd (f : Nat → Bool) (i : Nat) (x : Bool) : upd (bv f) i (.bool x) = bv (upd f i x) := by
  funext j
  unfold upd bv
  split <;> simp [*]
/-- A row as a list. -/
def rw_ (m : Nat) (F : Nat → Value) : List Value := (List.range m).map F
theorem rw_len (m : Nat) (F : Nat → Value) : (rw_ m F).length = m := by simp [rw_]
theorem rw_get {m i : Nat} (F : Nat → Value) (h : i < m) : (rw_ m F)[i]? = some (F i) := by simp [rw_, h]
theorem rw_none {m i : Nat} (F : Nat → Value) (h : m ≤ i) : (rw_ m F)[i]? = none := by simp [rw_, h]
theorem rw_same {m : Nat} {F G : Nat → Value} (h : ∀ i, i < m → F i = G i) : rw_ m F = rw_ m G := List.map_congr_left fun i hi => h i (List.mem_range.1 hi)
theorem rw_succ (m : Nat) (F : Nat → Value) (x : Value) : rw_ m F ++ [x] = rw_ (m + 1) (upd F m x) := by
  apply List.ext_getElem?
  intro j
  rcases Nat.lt_trichotomy j m with h | h | h
  · rw [List.getElem?_append_left (by rw [rw_len]; exact h), rw_get _ h, rw_get _ (by omega), upd_of (by omega)]
  · subst h
    rw [List.getElem?_append_right (by rw [rw_len]; exact Nat.le_refl _), rw_len, rw_get _ (by omega), upd_at]
    simp
  · rw [List.getElem?_append_right (by rw [rw_len]; omega), rw_none _ (by omega), rw_len, List.getElem?_eq_none (by simp; omega)]
/-- A row of its full length. -/
def FV (T : TypeId) (W : World) (b m : Nat) (F : Nat → Value) : Prop := W.heap[b]? = some (.cells (rw_ m F).toArray T (0, 0))
section
variable {T : TypeId} {W X : World} {b m i : Nat} {F G : Nat → Value}
theorem FV.lt (h : FV T W b m F) : b < W.heap.size := (Array.getElem?_eq_some_iff.1 h).1
theorem FV.cell (h : FV T W b m F) (hi : i < m) : W.cell? ⟨b, i, none⟩ = some (F i) := by
  rw [cell_of_row W b i _ _ _ h]
  simp [rw_, hi]
theorem FV.frozen (h : FV T W b m F) (i : Nat) : W.frozen? ⟨b, i, none⟩ = false := frozen_of_row W b i _ _ h
theorem FV.of_heap (h : FV T W b m F) (e : X.heap[b]? = W.heap[b]?) : FV T X b m F := e.trans h
theorem FV.stay (h : FV T W b m F) (hb : Below W.heap.size W X) : FV T X b m F := (hb.block b h.lt).trans h
theorem FV.ch {S : Nat → Prop} (h : FV T W b m F) (hc : Ch S W X) (hn : ¬ S b) : FV T X b m F := (hc.block b h.lt hn).trans h
theorem FV.to (h : FV T W b m F) (e : ∀ i, i < m → F i = G i) : FV T W b m G := by
  unfold FV at h ⊢
  rw [h, rw_same e]
theorem FV.set (h : FV T W b m F) (i : Nat) (x : Value) : FV T (W.setCell ⟨b, i, none⟩ x) b m (upd F i x) := by
  have := heap_setCell_same W b i _ _ x h
  unfold FV
  rw [this]
  congr 2
  apply Array.ext_getElem?
  intro j
  simp only [Array.getElem?_setIfInBounds, List.size_toArray, rw_len, List.getElem?_toArray]
  by_cases e : i = j
  · subst e
    by_cases h1 : i < m
    · simp [h1, rw_get, upd_at]
    · simp only [if_true, if_neg h1]
      rw [rw_none _ (by omega)]
  · rw [if_neg e]
    by_cases h1 : j < m
    · rw [rw_get _ h1, rw_get _ h1, upd_of (fun h => e h.symm)]
    · rw [rw_none _ (by omega), rw_none _ (by omega)]
theorem FV.setO (h : FV T W b m F) {c : Nat} (hn : b ≠ c) (i : Nat) (x : Value) : FV T (W.setCell ⟨c, i, none⟩ x) b m F := (heap_setCell_other W ⟨c, i, none⟩ b x hn).trans h
theorem FV.alloc (h : FV T W b m F) (o : Obj) : FV T (W.alloc o) b m F := (Below.heap_alloc W o b h.lt).trans h
theorem FV.new {cs : Array Value} (hb : b = W.heap.size) (hc : cs.toList = rw_ m F) : FV T (W.alloc (.cells cs T)) b m F := by
  subst hb
  unfold FV
  rw [← hc]
  exact heap_alloc_new W _
end
/-- A row that grows. -/
def GV (T : TypeId) (B : Nat) (W : World) (v : Value) (k : Nat) (F : Nat → Value) : Prop := W.ownsRow B T 1 v k (rw_ k F)
section
variable {T : TypeId} {B : Nat} {W X : World} {v : Value} {k i : Nat} {F G : Nat → Value}
theorem GV.nil (T : TypeId) (B : Nat) (W : World) (F : Nat → Value) : GV T B W (.slice none 0 0) 0 F := World.ownsRow_nil W B _ _
theorem GV.lt (h : GV T B W v k F) : ∀ g, v.ownBlock = some g → B ≤ g ∧ g < W.heap.size := World.ownsRow.lt h
theorem GV.open (h : GV T B W v k F) : ∃ p cap, v = .slice p k cap ∧ ((p = none ∧ k = 0) ∨ ∃ g, p = some ⟨g, 0, none⟩ ∧ v.ownBlock = some g ∧ g < W.heap.size ∧ B ≤ g ∧ k ≤ cap ∧ (∀ i, W.frozen? ⟨g, i, none⟩ = false) ∧ ∀ i, i < k → W.cell? ⟨g, i, none⟩ = some (F i)) := by
  rcases h.2 with ⟨rfl, rfl⟩ | ⟨g, cap, cur, rfl, hB, hg, hc, _, _, ht⟩
  · exact ⟨none, 0, rfl, .inl ⟨rfl, rfl⟩⟩
  · refine ⟨_, cap, rfl, .inr ⟨g, rfl, rfl, (Array.getElem?_eq_some_iff.1 hg).1, hB, hc, fun i => frozen_of_row W g i _ _ hg, fun i hi => ?_⟩⟩
    rw [cell_of_row W g i cur _ _ hg]
    have h1 := congrArg (·[i]?) ht
    simp only [List.getElem?_take] at h1
    rw [if_pos (by omega), rw_get _ hi] at h1
    simpa using h1
theorem GV.of_heap (h : GV T B W v k F) (e : ∀ g, v.ownBlock = some g → X.heap[g]? = W.heap[g]?) : GV T B X v k F := by
  refine ⟨h.1, ?_⟩
  rcases h.2 with h0 | ⟨g, cap, cur, rfl, hB, hg, r⟩
  · exact .inl h0
  · exact .inr ⟨g, cap, cur, rfl, hB, (e g rfl).trans hg, r⟩
theorem GV.stay (h : GV T B W v k F) (hb : Below W.heap.size W X) : GV T B X v k F := h.of_heap fun g e => hb.block g (h.lt g e).2
theorem GV.ch {S : Nat → Prop} (h : GV T B W v k F) (hc : Ch S W X) (hn : ∀ g, v.ownBlock = some g → ¬ S g) : GV T B X v k F := h.of_heap fun g e => hc.block g (h.lt g e).2 (hn g e)
theorem GV.setO (h : GV T B W v k F) {c : Nat} (hn : v.ownBlock ≠ some c) (i : Nat) (x : Value) : GV T B (W.setCell ⟨c, i, none⟩ x) v k F := h.of_heap fun g e => heap_setCell_other W ⟨c, i, none⟩ g x (fun e2 => hn (e.trans (congrArg some e2)))
theorem GV.alloc (h : GV T B W v k F) (o : Obj) : GV T B (W.alloc o) v k F := World.ownsRow.alloc h o
theorem GV.to (h : GV T B W v k F) (e : ∀ i, i < k → F i = G i) : GV T B W v k G := by
  unfold GV at h ⊢
  rw [← rw_same e]
  exact h
theorem GV.mono {B' : Nat} (h : GV T B W v k F) (hb : B' ≤ B) : GV T B' W v k F := by
  refine ⟨h.1, ?_⟩
  rcases h.2 with h0 | ⟨g, cap, cur, hv, hB, r⟩
  · exact .inl h0
  · exact .inr ⟨g, cap, cur, hv, Nat.le_trans hb hB, r⟩
theorem GV.more {x : Value} (h : W.ownsRow B T 1 v (k + 1) (rw_ k F ++ [x])) : GV T B W v (k + 1) (upd F k x) := by
  unfold GV
  rw [← rw_succ]
  exact h
/-- Cut to fewer. -/
theorem GV.cut {k' : Nat} {p : Option Addr} {cap : Nat} (h : GV T B W (.slice p k cap) k F) (hk : k' ≤ k) : GV T B W (.slice p k' cap) k' F := by
  refine ⟨by simp [rw_], ?_⟩
  rcases h.2 with ⟨h0, h1⟩ | ⟨g, cap', cur, hv, hB, hg, hc, hm, hs, ht⟩
  · cases h0
    exact .inl ⟨by rw [show k' = 0 by omega], by omega⟩
  · cases hv
    refine .inr ⟨g, cap, cur, rfl, hB, hg, by omega, hm, hs, ?_⟩
    have h1 := congrArg (List.take k') ht
    rw [List.take_take, Nat.mul_one, Nat.min_eq_left hk] at h1
    rw [Nat.mul_one, h1]
    apply List.ext_getElem?
    intro j
    rw [List.getElem?_take]
    by_cases hj : j < k'
    · rw [if_pos hj, rw_get _ hj, rw_get _ (by omega)]
    · rw [if_neg hj, rw_none _ (by omega)]
end
/-- A row that is read. -/
def RV (W : World) (p : Option Addr) (k : Nat) (F : Nat → Value) : Prop := ∀ i, i < k → ∃ g o, p = some ⟨g, o, none⟩ ∧ g < W.heap.size ∧ W.cell? ⟨g, o + i, none⟩ = some (F i)
section
variable {W X : World} {p : Option Addr} {k : Nat} {F G : Nat → Value}
theorem RV.stay (h : RV W p k F) (hb : Below W.heap.size W X) : RV X p k F := fun i hi => by
  obtain ⟨g, o, e, hl, hc⟩ := h i hi
  exact ⟨g, o, e, Nat.lt_of_lt_of_le hl hb.size, (hb.cell (p := ⟨g, _, none⟩) hl).trans hc⟩
theorem RV.ch {S : Nat → Prop} (h : RV W p k F) (hc : Ch S W X) (hn : ∀ a, p = some a → ¬ S a.block) : RV X p k F := fun i hi => by
  obtain ⟨g, o, rfl, hl, h1⟩ := h i hi
  exact ⟨g, o, rfl, Nat.lt_of_lt_of_le hl hc.size, (hc.cell hl (hn _ rfl)).trans h1⟩
theorem RV.to (h : RV W p k F) (e : ∀ i, i < k → F i = G i) : RV W p k G := fun i hi => by
  obtain ⟨g, o, e1, hl, hc⟩ := h i hi
  exact ⟨g, o, e1, hl, by rw [hc, e i hi]⟩
theorem RV.none (W : World) (p : Option Addr) (F : Nat → Value) : RV W p 0 F := fun i hi => absurd hi (Nat.not_lt_zero _)
theorem RV.at {g o i : Nat} (h : RV W (some ⟨g, o, .none⟩) k F) (hi : i < k) : W.cell? ⟨g, o + i, .none⟩ = some (F i) := by
  obtain ⟨g', o', e, _, hc⟩ := h i hi
  cases e
  exact hc
theorem FV.rv {T : TypeId} {b : Nat} (h : FV T W b k F) : RV W (some ⟨b, 0, .none⟩) k F := fun i hi => ⟨b, 0, rfl, h.lt, by rw [Nat.zero_add]; exact h.cell hi⟩
theorem GV.rv {T : TypeId} {B : Nat} {v : Value} (h : GV T B W v k F) : ∃ p cap, v = .slice p k cap ∧ RV W p k F ∧ (∀ a, p = some a → B ≤ a.block ∧ a.block < W.heap.size) := by
  obtain ⟨p, cap, rfl, h1⟩ := h.open
  refine ⟨p, cap, rfl, ?_, ?_⟩
  · rcases h1 with ⟨_, rfl⟩ | ⟨g, rfl, _, hl, _, _, _, hc⟩
    · exact RV.none _ _ _
    · exact fun i hi => ⟨g, 0, rfl, hl, by rw [Nat.zero_add]; exact hc i hi⟩
  · rcases h1 with ⟨rfl, _⟩ | ⟨g, rfl, _, hl, hB, _⟩
    · intro a e; cases e
    · intro a e; cases e; exact ⟨hB, hl⟩
end
/-- What is made of zeros. -/
theorem made_one (z : Value) (hz : z.cells = #[z]) (n : Nat) : madeCells z.cells n = (rw_ n fun _ => z).toArray := by
  unfold madeCells
  rw [hz]
  apply Array.ext_getElem?
  intro j
  by_cases h : j < n
  · simp [rw_, h, Nat.mod_one]
  · simp [rw_, h, Nat.mod_one]
theorem info_int : (Tryd.prog.info? 3).map (fun i => (i.zero, i.size, i.bytes)) = some (some (.int .i64 0), 1, 8) := by kernel_rfl
theorem info_bool : (Tryd.prog.info? 4).map (fun i => (i.zero, i.size, i.bytes)) = some (some (.bool false), 1, 1) := by kernel_rfl
theorem info_ints : (Tryd.prog.info? 34).map (fun i => (i.zero, i.size, i.bytes)) = some (some (.slice none 0 0), 1, 24) := by kernel_rfl
theorem info_bools : (Tryd.prog.info? 25).map (fun i => (i.zero, i.size, i.bytes)) = some (some (.slice none 0 0), 1, 24) := by kernel_rfl
theorem make_of {t e : TypeId} {z : Value} {bytes : Nat} (ht : Tryd.prog.underlying t = some (.slice e)) (hi : (Tryd.prog.info? e).map (fun i => (i.zero, i.size, i.bytes)) = some (some z, 1, bytes)) (hz : z.cells = #[z]) (m : Nat) (hm : m ≤ 10000001) (hb : bytes ≤ 100) (W : World) :
    (Instr.makeSlice t (.int .i64 m) (.int .i64 m)).run Tryd.prog W = .ok (.slice (some ⟨W.heap.size, 0, none⟩) m m) (W.alloc (.cells (rw_ m fun _ => z).toArray e)) := by
  obtain ⟨i0, h1, h2, h3, h4⟩ := info_parts hi
  have hbm : (i0.bytes : Int) * m ≤ 281474976710656 := by
    rw [h4]
    have h5 : bytes * m ≤ 100 * 10000001 := Nat.mul_le_mul hb hm
    have h6 : ((bytes * m : Nat) : Int) ≤ 281474976710656 := by omega
    simpa using h6
  have := run_makeSlice (P := Tryd.prog) W t e i0 z ht h1 h2 .i64 .i64 m m (by omega) (by omega) (Nat.le_trans (by rw [h3]; simp; exact hm) (by decide)) hbm (by omega)
  rw [this, h3, made_one z hz]
  simp
theorem make_i (m : Nat) (hm : m ≤ 10000001) (W : World) : (Instr.makeSlice 34 (.int .i64 m) (.int .i64 m)).run Tryd.prog W = .ok (.slice (some ⟨W.heap.size, 0, none⟩) m m) (W.alloc (.cells (rw_ m fun _ => .int .i64 0).toArray 3)) := make_of Tryd.underlying34 info_int rfl m hm (by decide) W
theorem make_b (m : Nat) (hm : m ≤ 10000001) (W : World) : (Instr.makeSlice 25 (.int .i64 m) (.int .i64 m)).run Tryd.prog W = .ok (.slice (some ⟨W.heap.size, 0, none⟩) m m) (W.alloc (.cells (rw_ m fun _ => .bool false).toArray 4)) := make_of Tryd.underlying25 info_bool rfl m hm (by decide) W
theorem make_ii (m : Nat) (hm : m ≤ 10000001) (W : World) : (Instr.makeSlice 28 (.int .i64 m) (.int .i64 m)).run Tryd.prog W = .ok (.slice (some ⟨W.heap.size, 0, none⟩) m m) (W.alloc (.cells (rw_ m fun _ => .slice none 0 0).toArray 34)) := make_of Tryd.underlying28 info_ints rfl m hm (by decide) W
theorem make_bb (m : Nat) (hm : m ≤ 10000001) (W : World) : (Instr.makeSlice 31 (.int .i64 m) (.int .i64 m)).run Tryd.prog W = .ok (.slice (some ⟨W.heap.size, 0, none⟩) m m) (W.alloc (.cells (rw_ m fun _ => .slice none 0 0).toArray 25)) := make_of Tryd.underlying31 info_bools rfl m hm (by decide) W
/-- Whose a block is: its number's sign. -/
def Tg (own : Nat → Nat) (v : Value) (t : Nat) : Prop := ∀ g, v.ownBlock = some g → own g = t
/-- All blocks from C on bear sign t. -/
def tag (own : Nat → Nat) (C t : Nat) : Nat → Nat := fun b => if C ≤ b then t else own b
theorem tag_lt {own : Nat → Nat} {C t b : Nat} (h : b < C) : tag own C t b = own b := if_neg (by omega)
theorem tag_ge {own : Nat → Nat} {C t b : Nat} (h : C ≤ b) : tag own C t b = t := if_pos h
theorem Tg.old {own : Nat → Nat} {v : Value} {s t C : Nat} (h : Tg own v s) (hl : ∀ g, v.ownBlock = some g → g < C) : Tg (tag own C t) v s := fun g e => by rw [tag_lt (hl g e)]; exact h g e
theorem Tg.new {own : Nat → Nat} {v v' : Value} {t C : Nat} (h : Tg own v t) (hl : ∀ g, v.ownBlock = some g → g < C) (ha : v'.ownBlock = v.ownBlock ∨ ∃ g, v'.ownBlock = some g ∧ C ≤ g) : Tg (tag own C t) v' t := fun g e => by
  rcases ha with ha | ⟨g', ha, hC⟩
  · rw [ha] at e
    rw [tag_lt (hl g e)]
    exact h g e
  · rw [ha] at e
    cases e
    exact tag_ge hC
end Go.Proofs.YtacgfjcdfgdpjaaDoor
