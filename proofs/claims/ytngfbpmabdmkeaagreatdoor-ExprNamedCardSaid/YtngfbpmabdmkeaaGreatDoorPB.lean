/- What writes an expression, and expr.Show. -/
import Derived.Test.YtngfbpmabdmkeaaGreatDoorBld
import Derived.Test.YtngfbpmabdmkeaaGreatDoorSameR
import Derived.Test.YtngfbpmabdmkeaaGreatDoorNumB
import Derived.Test.YtngfbpmabdmkeaaGreatDoorTxt
import Derived.Test.YtngfbpmabdmkeaaGreatDoorPA
namespace Go.Proofs.YtngfbpmabdmkeaaGreatDoor
open Go Go.RowKit

/-- Every row of expressions stands as it stood. -/
def KeptE (w w' : World) : Prop := w.heap.size ≤ w'.heap.size ∧ ∀ (k : Nat) (cs : Array Value) (fr : Nat × Nat), w.heap[k]? = some (.cells cs 25 fr) → w'.heap[k]? = some (.cells cs 25 fr)
theorem KeptE.refl (w : World) : KeptE w w := ⟨Nat.le_refl _, fun _ _ _ h => h⟩
theorem KeptE.step {a b c : World} (h : KeptE a b) (k : KeptE b c) : KeptE a c := ⟨Nat.le_trans h.1 k.1, fun i cs fr hi => k.2 i cs fr (h.2 i cs fr hi)⟩
theorem KeptE.below {a b c : World} (h : KeptE a b) (k : Below b.heap.size b c) : KeptE a c := h.step ⟨k.size, fun i _ _ hi => (k.block i (Array.getElem?_eq_some_iff.1 hi).1).trans hi⟩
theorem KeptE.alloc {a b : World} (h : KeptE a b) (o : Obj) : KeptE a (b.alloc o) := h.below ((Below.refl _ _).alloc (Nat.le_refl _) _)
theorem KeptE.drew {a b : World} (h : KeptE a b) : KeptE a b.drew := h
theorem KeptE.drewN {a b : World} (h : KeptE a b) (n : Nat) : KeptE a (b.drewN n) := h
theorem KeptE.set {a b : World} (h : KeptE a b) {c : Nat} (hc : a.heap.size ≤ c) (o : Nat) (v : Value) : KeptE a (b.setCell ⟨c, o, none⟩ v) :=
  ⟨by simpa using h.1, fun i cs fr hi => (heap_setCell_other b ⟨c, o, none⟩ i v (by have := (Array.getElem?_eq_some_iff.1 hi).1; simp; omega)).trans (h.2 i cs fr hi)⟩
theorem KeptE.size {a b : World} (h : KeptE a b) : a.heap.size ≤ b.heap.size := h.1
theorem IsEx.ke {lo : Nat} {W X : World} {e : Ex} {v : Value} (h : IsEx lo W e v) (hk : KeptE W X) : IsEx lo X e v := by
  induction h with
  | leaf => exact .leaf
  | node g cap cs fr vs hg hb hne hc _ ih => exact .node g cap cs fr vs hg (hk.2 _ _ _ hb) hne hc ih
theorem Blk.ke {X Y : World} {n : Nat} {v0 v1 v2 v3 v4 v5 : Value} (h : Blk X n v0 v1 v2 v3 v4 v5) (hk : KeptE X Y) : Blk Y n v0 v1 v2 v3 v4 v5 := hk.2 _ _ _ h

theorem Bld.lt {B b : Nat} {bs : List Value} {w : World} (h : Bld B b bs w) : b < w.heap.size := h.elim (fun h => h.lt) fun h => h.lt
theorem Bld.alloc {B b : Nat} {bs : List Value} {w : World} (h : Bld B b bs w) (o : Obj) : Bld B b bs (w.alloc o) := h.imp (fun h => h.alloc o) fun h => h.alloc o
theorem Bld.drew {B b : Nat} {bs : List Value} {w : World} (h : Bld B b bs w) : Bld B b bs w.drew := h
theorem Bld.drewN {B b : Nat} {bs : List Value} {w : World} (h : Bld B b bs w) (n : Nat) : Bld B b bs (w.drewN n) := h
theorem bldAt_set {B b c : Nat} {p : Value} {bs : List Value} {w : World} (h : Lib.BuilderAtF 109 5 B b p bs w) {cs : Array Value} {fr : Nat × Nat} (hc : w.heap[c]? = some (.cells cs 25 fr)) (o : Nat) (x : Value) :
    Lib.BuilderAtF 109 5 B b p bs (w.setCell ⟨c, o, none⟩ x) := by
  obtain ⟨hB, v, hb, hown, hne⟩ := h
  have hbc : b ≠ c := by
    rintro rfl
    rw [hc] at hb
    cases hb
  refine ⟨hB, v, (heap_setCell_other w ⟨c, o, none⟩ b x hbc).trans hb, ?_, hne⟩
  exact hown.kept (row := some c) ⟨rfl, rfl, rfl, by simp [World.setCell], fun k _ hk => Below.heap_setCell _ _ _ _ (fun e => hk (by simp [e]))⟩ (Or.inr (Lib.ownBlock_neF hown hc (by decide)))
theorem Bld.set {B b c : Nat} {bs : List Value} {w : World} (h : Bld B b bs w) {v0 v1 v2 v3 v4 v5 : Value} (hc : Blk w c v0 v1 v2 v3 v4 v5) (o : Nat) (x : Value) : Bld B b bs (w.setCell ⟨c, o, none⟩ x) :=
  h.imp (fun h => bldAt_set h hc o x) fun h => bldAt_set h hc o x
theorem bld_ke {B b : Nat} {bs : List Value} {w w' : World} (h : Bld B b bs w) (hk : Lib.OthersKept 5 (some b) w w') (hs : w.heap.size ≤ w'.heap.size) : KeptE w w' := by
  refine ⟨hs, fun k cs fr hi => hk k _ hi (fun e => ?_) fun c fz e => by cases e⟩
  cases e
  rcases h with ⟨_, v, hbk, _⟩ | ⟨_, v, hbk, _⟩ <;> (rw [hi] at hbk; cases hbk)
/-- The package-level rows lie below B, as they were laid. -/
def LB (B : Nat) (w : World) : Prop := ∃ w0, Laid w0 ∧ w0.heap.size = B ∧ Below B w0 w
theorem LB.b {B : Nat} {w w' : World} (h : LB B w) (k : Below B w w') : LB B w' := by
  obtain ⟨w0, h1, h2, h3⟩ := h
  exact ⟨w0, h1, h2, h3.trans k⟩
theorem LB.laid {B : Nat} {w : World} (h : LB B w) : Laid w := by
  obtain ⟨w0, h1, rfl, h3⟩ := h
  exact h1.below h3
end Go.Proofs.YtngfbpmabdmkeaaGreatDoor
namespace Go.Proofs.YtngfbpmabdmkeaaGreatDoor
open Go Go.RowKit

/-- One piece is written. -/
theorem write_txt (B b : Nat) (l : List UInt8) (s : ByteArray) (w : World) (h : Bld B b (Lib.byteCells l) w) (hlen : l.length + s.data.toList.length ≤ 140737488355328) (hBw : B ≤ w.heap.size) :
    Calls Tryz.prog 75 #[.pointer (some ⟨b, 0, none⟩), .string s] w fun e w' => e = .returned (.tuple #[.int .i64 s.size, .nilIface]) ∧ Bld B b (Lib.byteCells (l ++ s.data.toList)) w' ∧ Below B w w' ∧ KeptE w w' :=
  (write_any B b _ s w (Lib.hid h) (by simpa [Lib.byteCells] using hlen) hBw).mono fun e w' ⟨h1, h2, h3, h4⟩ => ⟨h1, by simpa [Lib.byteCells, Lib.strCells] using h2, h3, bld_ke h h4 h3.size⟩
/-- What writing an expression does: its text stands behind what was there. -/
abbrev Shows (x : Ex) (t : List UInt8) (B b : Nat) : Prop := ∀ (p : Option Addr) (c : Nat) (l : List UInt8) (w : World), IsEx 0 w x (.slice p x.ks.length c) → Bld B b (Lib.byteCells l) w → B ≤ w.heap.size → LB B w → l.length + t.length ≤ 140737488355328 →
  Calls Tryz.prog 49 #[.pointer (some ⟨b, 0, none⟩), .agg #[.int .i64 x.k, .int .i64 x.op, .int .i64 x.n, .string (bstr x.nm), .slice p x.ks.length c, .int .i64 x.a]] w fun e w' => e = .returned (.tuple #[]) ∧ Bld B b (Lib.byteCells (l ++ t)) w' ∧ Below B w w' ∧ KeptE w w'

set_option maxRecDepth 100000 in
set_option maxHeartbeats 2000000 in
theorem part_any (x : Ex) (t : List UInt8) (B b : Nat) (k : Bool) (p : Option Addr) (c : Nat) (l : List UInt8) (w : World) (hS : Hid (Shows x t B b)) (hx : Hid (IsEx 0 w x (.slice p x.ks.length c))) (hb : Hid (Bld B b (Lib.byteCells l) w)) (hB : B ≤ w.heap.size) (hL : LB B w) (hl : l.length + (partT k t).length ≤ 140737488355328) :
    Calls Tryz.prog 125 #[.pointer (some ⟨b, 0, none⟩), .agg #[.int .i64 x.k, .int .i64 x.op, .int .i64 x.n, .string (bstr x.nm), .slice p x.ks.length c, .int .i64 x.a], .bool k] w fun e w' => e = .returned (.tuple #[]) ∧ Bld B b (Lib.byteCells (l ++ partT k t)) w' ∧ Below B w w' ∧ KeptE w w' := by
  cases k with
  | false =>
    go_enter Tryz.func125, Tryz.ntmps125
    go_wp2_with (go_at_call 49; (with_reducible refine (hS.out p c l _ (by (repeat (first | (with_reducible exact hx.out) | (with_reducible refine IsEx.alloc ?_ _) | (with_reducible refine IsEx.drewN ?_ _) | (with_reducible refine IsEx.drew ?_) | (with_reducible refine IsEx.set ?_ ?_ _ _; rotate_left; first | omega | (simp; done) | (simp; omega)) | (with_reducible refine IsEx.fr ?_ (by assumption) (by omega)) | (with_reducible refine IsEx.stay ?_ (by assumption))))) (by (repeat (first | (with_reducible exact hb.out) | (with_reducible refine Bld.alloc ?_ _) | (with_reducible refine Bld.drewN ?_ _) | (with_reducible refine Bld.drew ?_)))) (by first | omega | (simp; omega)) (hL.b (by (repeat (first | (with_reducible exact Below.refl _ _) | (with_reducible refine Below.alloc ?_ (by first | omega | (simp; omega)) _) | (with_reducible refine Below.drewN ?_ _) | (with_reducible refine Below.drew ?_) | (with_reducible refine Below.setCell ?_ (by first | omega | (simp; omega)) _) | (with_reducible refine Below.trans ?_ (by assumption)))))) (by simpa [partT] using hl)).mono ?_); rintro e' w1 ⟨rfl, hb1, hB1, hk1⟩)
    go_end0
    exact ⟨rfl, by simpa [partT] using hb1, by (repeat (first | (with_reducible exact Below.refl _ _) | (with_reducible refine Below.alloc ?_ (by first | omega | (simp; omega)) _) | (with_reducible refine Below.drewN ?_ _) | (with_reducible refine Below.drew ?_) | (with_reducible refine Below.setCell ?_ (by first | omega | (simp; omega)) _) | (with_reducible refine Below.trans ?_ (by assumption)))), by (repeat (first | (with_reducible exact KeptE.refl _) | (with_reducible refine KeptE.alloc ?_ _) | (with_reducible refine KeptE.drewN ?_ _) | (with_reducible refine KeptE.drew ?_) | (with_reducible refine KeptE.set ?_ (by first | omega | (simp; omega)) _ _) | (with_reducible refine KeptE.step ?_ (by assumption))))⟩
  | true =>
    have hl1 : l.length + 1 ≤ 140737488355328 := by (simp [partT] at hl; omega)
    have hl2 : (l ++ [40]).length + t.length ≤ 140737488355328 := by (simp [partT] at hl ⊢; omega)
    have hl3 : (l ++ [40] ++ t).length + 1 ≤ 140737488355328 := by (simp [partT] at hl ⊢; omega)
    go_enter Tryz.func125, Tryz.ntmps125
    go_wp2_with (first
      | (go_at_call 75; (with_reducible refine (write_txt B b l ⟨#[40]⟩ _ (by (repeat (first | (with_reducible exact hb.out) | (with_reducible refine Bld.alloc ?_ _) | (with_reducible refine Bld.drewN ?_ _) | (with_reducible refine Bld.drew ?_)))) (by simp; omega) (by first | omega | (simp; omega))).mono ?_); rintro e' w1 ⟨rfl, hb1, hB1, hk1⟩; have hz1 := hB1.size; (try simp at hz1); have BX1 : Blk w1 w.heap.size (.int .i64 x.k) (.int .i64 x.op) (.int .i64 x.n) (.string (bstr x.nm)) (.slice p x.ks.length c) (.int .i64 x.a) := (Blk.new rfl _ _ _ _ _ _).ke hk1; obtain ⟨blx, c0x, c1x, c2x, c3x, c4x, c5x, f0x, f1x, f2x, f3x, f4x, f5x⟩ := (BX1).facts)
      | (go_at_call 49; (with_reducible refine (hS.out p c (l ++ [40]) _ (by (refine IsEx.ke ?_ hk1; (repeat (first | (with_reducible exact hx.out) | (with_reducible refine IsEx.alloc ?_ _) | (with_reducible refine IsEx.drewN ?_ _) | (with_reducible refine IsEx.drew ?_) | (with_reducible refine IsEx.set ?_ ?_ _ _; rotate_left; first | omega | (simp; done) | (simp; omega)) | (with_reducible refine IsEx.fr ?_ (by assumption) (by omega)) | (with_reducible refine IsEx.stay ?_ (by assumption)))))) (by (repeat (first | (with_reducible exact hb1) | (with_reducible refine Bld.alloc ?_ _) | (with_reducible refine Bld.drewN ?_ _) | (with_reducible refine Bld.drew ?_)))) (by first | omega | (simp; omega)) (hL.b (by (repeat (first | (with_reducible exact Below.refl _ _) | (with_reducible refine Below.alloc ?_ (by first | omega | (simp; omega)) _) | (with_reducible refine Below.drewN ?_ _) | (with_reducible refine Below.drew ?_) | (with_reducible refine Below.setCell ?_ (by first | omega | (simp; omega)) _) | (with_reducible refine Below.trans ?_ (by assumption)))))) hl2).mono ?_); rintro e' w2 ⟨rfl, hb2, hB2, hk2⟩; have hz2 := hB2.size; (try simp at hz2))
      | (go_at_call 75; (with_reducible refine (write_txt B b (l ++ [40] ++ t) ⟨#[41]⟩ _ (by (repeat (first | (with_reducible exact hb2) | (with_reducible refine Bld.alloc ?_ _) | (with_reducible refine Bld.drewN ?_ _) | (with_reducible refine Bld.drew ?_)))) (by simp at hl3 ⊢; omega) (by first | omega | (simp; omega))).mono ?_); rintro e' w3 ⟨rfl, hb3, hB3, hk3⟩))
    go_end0
    exact ⟨rfl, by simpa [partT] using hb3, by (repeat (first | (with_reducible exact Below.refl _ _) | (with_reducible refine Below.alloc ?_ (by first | omega | (simp; omega)) _) | (with_reducible refine Below.drewN ?_ _) | (with_reducible refine Below.drew ?_) | (with_reducible refine Below.setCell ?_ (by first | omega | (simp; omega)) _) | (with_reducible refine Below.trans ?_ (by assumption)))), by (repeat (first | (with_reducible exact KeptE.refl _) | (with_reducible refine KeptE.alloc ?_ _) | (with_reducible refine KeptE.drewN ?_ _) | (with_reducible refine KeptE.drew ?_) | (with_reducible refine KeptE.set ?_ (by first | omega | (simp; omega)) _ _) | (with_reducible refine KeptE.step ?_ (by assumption))))⟩
end Go.Proofs.YtngfbpmabdmkeaaGreatDoor
namespace Go.Proofs.YtngfbpmabdmkeaaGreatDoor
open Go Go.RowKit

theorem take_len {α β : Type} (f : α → List β) (l : List α) (i : Nat) : ((l.take i).flatMap f).length ≤ (l.flatMap f).length := by
  conv => rhs; rw [← List.take_append_drop i l, List.flatMap_append, List.length_append]
  omega
theorem take_step {α β : Type} (f : α → List β) {l : List α} {i : Nat} {x : α} (h : l[i]? = some x) : (l.take (i + 1)).flatMap f = (l.take i).flatMap f ++ f x := by
  rw [List.take_add_one, h]
  simp

set_option maxRecDepth 100000 in
set_option maxHeartbeats 4000000 in
theorem one_any (x : Ex) (tx : Ex → List UInt8) (B b n : Nat) (p : Option Addr) (c : Nat) (l : List UInt8) (w : World) (hn : Hid (x.ks.length = n)) (hn9 : n < 1000000000) (hS : Hid (∀ y ∈ x.ks, Shows y (tx y) B b)) (hx : Hid (IsEx 0 w x (.slice p n c))) (hb : Hid (Bld B b (Lib.byteCells l) w)) (hB : B ≤ w.heap.size) (hL : LB B w)
    (sg : UInt8) (hk : sg = if x.k = 4 then 45 else 33) (f : Ex → List UInt8) (hf : Hid (f = fun y => partT (y.k == 6) (tx y))) (hl : l.length + 1 + (x.ks.flatMap f).length ≤ 140737488355328) :
    Calls Tryz.prog 79 #[.pointer (some ⟨b, 0, none⟩), .agg #[.int .i64 x.k, .int .i64 x.op, .int .i64 x.n, .string (bstr x.nm), .slice p n c, .int .i64 x.a]] w fun e w' => e = .returned (.tuple #[]) ∧ Bld B b (Lib.byteCells (l ++ sg :: x.ks.flatMap f)) w' ∧ Below B w w' ∧ KeptE w w' := by
  by_cases h4 : x.k = 4
  · have hkb : (x.k == 4) = true := by simpa using h4
    rw [if_pos h4] at hk
    clear h4
    subst hk
    go_enter Tryz.func79, Tryz.ntmps79
    go_wp2_with (go_at_call 75; (with_reducible refine (write_txt B b l ⟨#[45]⟩ _ (by (repeat (first | (with_reducible exact hb.out) | (with_reducible refine Bld.alloc ?_ _) | (with_reducible refine Bld.drewN ?_ _) | (with_reducible refine Bld.drew ?_)))) (by simp; omega) (by first | omega | (simp; omega))).mono ?_); rintro e' w1 ⟨rfl, hb1, hB1, hk1⟩; have hz1 := hB1.size; (try simp at hz1); have BX1 : Blk w1 w.heap.size (.int .i64 x.k) (.int .i64 x.op) (.int .i64 x.n) (.string (bstr x.nm)) (.slice p n c) (.int .i64 x.a) := (Blk.new rfl _ _ _ _ _ _).ke hk1; obtain ⟨blx, c0x, c1x, c2x, c3x, c4x, c5x, f0x, f1x, f2x, f3x, f4x, f5x⟩ := (BX1).facts)
    have hBw1 : Below B w w1 := by (repeat (first | (with_reducible exact Below.refl _ _) | (with_reducible refine Below.alloc ?_ (by first | omega | (simp; omega)) _) | (with_reducible refine Below.drewN ?_ _) | (with_reducible refine Below.drew ?_) | (with_reducible refine Below.setCell ?_ (by first | omega | (simp; omega)) _) | (with_reducible refine Below.trans ?_ (by assumption))))
    have hKw1 : KeptE w w1 := by (repeat (first | (with_reducible exact KeptE.refl _) | (with_reducible refine KeptE.alloc ?_ _) | (with_reducible refine KeptE.drewN ?_ _) | (with_reducible refine KeptE.drew ?_) | (with_reducible refine KeptE.set ?_ (by first | omega | (simp; omega)) _ _) | (with_reducible refine KeptE.step ?_ (by assumption))))
    go_loopw [16] (fun iv wr => ∃ i : Nat, iv = .int .i64 i ∧ i ≤ n ∧ Below B w1 wr ∧ KeptE w1 wr ∧ Hid (Bld B b (Lib.byteCells (l ++ 45 :: (x.ks.take i).flatMap f)) wr)) (fun iv _ => n - (intOf iv).toNat)
    case atStart => exact ⟨0, rfl, Nat.zero_le _, Below.refl _ _, KeptE.refl _, Lib.hid (by simpa using hb1)⟩
    case round =>
      obtain ⟨i, rfl, hi, hBr, hKr, hbr⟩ := hrel
      have hKw : KeptE w wr := hKw1.step hKr
      have hzr := hKr.size
      have hBwr : B ≤ wr.heap.size := by omega
      have hLr : LB B wr := hL.b (hBw1.trans hBr)
      by_cases hin : i < n
      · have hin2 : (i : Int) < n := by omega
        obtain ⟨y, hy⟩ : ∃ y, x.ks[i]? = some y := ⟨_, List.getElem?_eq_getElem (by rw [hn.out]; exact hin)⟩
        have hxr := hx.out.ke hKw
        rw [← hn.out] at hxr
        obtain ⟨g, cap, u, hp, -, hg, hyx, d0, d1, d2, d3, d4, d5⟩ := hxr.kid hy
        rw [hn.out] at hp
        obtain ⟨rfl, rfl⟩ : p = some ⟨g, 0, none⟩ ∧ c = cap := by simpa using hp
        obtain ⟨py, cy, rfl⟩ := hyx.form
        have hsy := Lib.hid (hS.out y (List.mem_of_getElem? hy))
        have hst := Lib.hid (take_step f hy)
        have hfy : Hid (f y = partT (y.k == 6) (tx y)) := Lib.hid (by rw [hf.out])
        have hle := take_len f x.ks (i + 1)
        rw [hst.out, hfy.out] at hle
        have hle2 : (l ++ 45 :: (x.ks.take i).flatMap f).length + (partT (y.k == 6) (tx y)).length ≤ 140737488355328 := by
          rw [List.length_append] at hle
          rw [List.length_append, List.length_cons]
          omega
        have HY := Lib.hid hyx
        clear hyx hxr hp hy hle
        go_wp2_with (go_at_call 125; (with_reducible refine (part_any y (tx y) B b (y.k == 6) py cy _ _ hsy (Lib.hid (by (repeat (first | (with_reducible exact HY.out) | (with_reducible refine IsEx.alloc ?_ _) | (with_reducible refine IsEx.drewN ?_ _) | (with_reducible refine IsEx.drew ?_) | (with_reducible refine IsEx.set ?_ ?_ _ _; rotate_left; first | omega | (simp; done) | (simp; omega)) | (with_reducible refine IsEx.fr ?_ (by assumption) (by omega)) | (with_reducible refine IsEx.stay ?_ (by assumption)))))) (Lib.hid (by (repeat (first | (with_reducible exact hbr.out) | (with_reducible refine Bld.alloc ?_ _) | (with_reducible refine Bld.drewN ?_ _) | (with_reducible refine Bld.drew ?_))))) (by first | omega | (simp; omega)) (hLr.b (by (repeat (first | (with_reducible exact Below.refl _ _) | (with_reducible refine Below.alloc ?_ (by first | omega | (simp; omega)) _) | (with_reducible refine Below.drewN ?_ _) | (with_reducible refine Below.drew ?_) | (with_reducible refine Below.setCell ?_ (by first | omega | (simp; omega)) _) | (with_reducible refine Below.trans ?_ (by assumption)))))) hle2).mono ?_); rintro e' w3 ⟨rfl, hb3, hB3, hk3⟩)
        clear hKw
        exact ⟨⟨i + 1, by simp, by omega, by (repeat (first | (with_reducible exact Below.refl _ _) | (with_reducible refine Below.alloc ?_ (by first | omega | (simp; omega)) _) | (with_reducible refine Below.drewN ?_ _) | (with_reducible refine Below.drew ?_) | (with_reducible refine Below.setCell ?_ (by first | omega | (simp; omega)) _) | (with_reducible refine Below.trans ?_ (by assumption)))), by (repeat (first | (with_reducible exact KeptE.refl _) | (with_reducible refine KeptE.alloc ?_ _) | (with_reducible refine KeptE.drewN ?_ _) | (with_reducible refine KeptE.drew ?_) | (with_reducible refine KeptE.set ?_ (by first | omega | (simp; omega)) _ _) | (with_reducible refine KeptE.step ?_ (by assumption)))), Lib.hid (by rw [hst.out, hfy.out]; simpa using hb3)⟩, by simp [intOf]; omega⟩
      · obtain rfl : i = n := by omega
        go_wp2
        go_end0
        exact ⟨rfl, by (have := hbr.out; rwa [← hn.out, List.take_length] at this), by (repeat (first | (with_reducible exact Below.refl _ _) | (with_reducible refine Below.alloc ?_ (by first | omega | (simp; omega)) _) | (with_reducible refine Below.drewN ?_ _) | (with_reducible refine Below.drew ?_) | (with_reducible refine Below.setCell ?_ (by first | omega | (simp; omega)) _) | (with_reducible refine Below.trans ?_ (by assumption)))), by (repeat (first | (with_reducible exact KeptE.refl _) | (with_reducible refine KeptE.alloc ?_ _) | (with_reducible refine KeptE.drewN ?_ _) | (with_reducible refine KeptE.drew ?_) | (with_reducible refine KeptE.set ?_ (by first | omega | (simp; omega)) _ _) | (with_reducible refine KeptE.step ?_ (by assumption))))⟩
  · have hkb : (x.k == 4) = false := by simpa using h4
    rw [if_neg h4] at hk
    clear h4
    subst hk
    go_enter Tryz.func79, Tryz.ntmps79
    go_wp2_with (go_at_call 75; (with_reducible refine (write_txt B b l ⟨#[33]⟩ _ (by (repeat (first | (with_reducible exact hb.out) | (with_reducible refine Bld.alloc ?_ _) | (with_reducible refine Bld.drewN ?_ _) | (with_reducible refine Bld.drew ?_)))) (by simp; omega) (by first | omega | (simp; omega))).mono ?_); rintro e' w1 ⟨rfl, hb1, hB1, hk1⟩; have hz1 := hB1.size; (try simp at hz1); have BX1 : Blk w1 w.heap.size (.int .i64 x.k) (.int .i64 x.op) (.int .i64 x.n) (.string (bstr x.nm)) (.slice p n c) (.int .i64 x.a) := (Blk.new rfl _ _ _ _ _ _).ke hk1; obtain ⟨blx, c0x, c1x, c2x, c3x, c4x, c5x, f0x, f1x, f2x, f3x, f4x, f5x⟩ := (BX1).facts)
    have hBw1 : Below B w w1 := by (repeat (first | (with_reducible exact Below.refl _ _) | (with_reducible refine Below.alloc ?_ (by first | omega | (simp; omega)) _) | (with_reducible refine Below.drewN ?_ _) | (with_reducible refine Below.drew ?_) | (with_reducible refine Below.setCell ?_ (by first | omega | (simp; omega)) _) | (with_reducible refine Below.trans ?_ (by assumption))))
    have hKw1 : KeptE w w1 := by (repeat (first | (with_reducible exact KeptE.refl _) | (with_reducible refine KeptE.alloc ?_ _) | (with_reducible refine KeptE.drewN ?_ _) | (with_reducible refine KeptE.drew ?_) | (with_reducible refine KeptE.set ?_ (by first | omega | (simp; omega)) _ _) | (with_reducible refine KeptE.step ?_ (by assumption))))
    go_loopw [16] (fun iv wr => ∃ i : Nat, iv = .int .i64 i ∧ i ≤ n ∧ Below B w1 wr ∧ KeptE w1 wr ∧ Hid (Bld B b (Lib.byteCells (l ++ 33 :: (x.ks.take i).flatMap f)) wr)) (fun iv _ => n - (intOf iv).toNat)
    case atStart => exact ⟨0, rfl, Nat.zero_le _, Below.refl _ _, KeptE.refl _, Lib.hid (by simpa using hb1)⟩
    case round =>
      obtain ⟨i, rfl, hi, hBr, hKr, hbr⟩ := hrel
      have hKw : KeptE w wr := hKw1.step hKr
      have hzr := hKr.size
      have hBwr : B ≤ wr.heap.size := by omega
      have hLr : LB B wr := hL.b (hBw1.trans hBr)
      by_cases hin : i < n
      · have hin2 : (i : Int) < n := by omega
        obtain ⟨y, hy⟩ : ∃ y, x.ks[i]? = some y := ⟨_, List.getElem?_eq_getElem (by rw [hn.out]; exact hin)⟩
        have hxr := hx.out.ke hKw
        rw [← hn.out] at hxr
        obtain ⟨g, cap, u, hp, -, hg, hyx, d0, d1, d2, d3, d4, d5⟩ := hxr.kid hy
        rw [hn.out] at hp
        obtain ⟨rfl, rfl⟩ : p = some ⟨g, 0, none⟩ ∧ c = cap := by simpa using hp
        obtain ⟨py, cy, rfl⟩ := hyx.form
        have hsy := Lib.hid (hS.out y (List.mem_of_getElem? hy))
        have hst := Lib.hid (take_step f hy)
        have hfy : Hid (f y = partT (y.k == 6) (tx y)) := Lib.hid (by rw [hf.out])
        have hle := take_len f x.ks (i + 1)
        rw [hst.out, hfy.out] at hle
        have hle2 : (l ++ 33 :: (x.ks.take i).flatMap f).length + (partT (y.k == 6) (tx y)).length ≤ 140737488355328 := by
          rw [List.length_append] at hle
          rw [List.length_append, List.length_cons]
          omega
        have HY := Lib.hid hyx
        clear hyx hxr hp hy hle
        go_wp2_with (go_at_call 125; (with_reducible refine (part_any y (tx y) B b (y.k == 6) py cy _ _ hsy (Lib.hid (by (repeat (first | (with_reducible exact HY.out) | (with_reducible refine IsEx.alloc ?_ _) | (with_reducible refine IsEx.drewN ?_ _) | (with_reducible refine IsEx.drew ?_) | (with_reducible refine IsEx.set ?_ ?_ _ _; rotate_left; first | omega | (simp; done) | (simp; omega)) | (with_reducible refine IsEx.fr ?_ (by assumption) (by omega)) | (with_reducible refine IsEx.stay ?_ (by assumption)))))) (Lib.hid (by (repeat (first | (with_reducible exact hbr.out) | (with_reducible refine Bld.alloc ?_ _) | (with_reducible refine Bld.drewN ?_ _) | (with_reducible refine Bld.drew ?_))))) (by first | omega | (simp; omega)) (hLr.b (by (repeat (first | (with_reducible exact Below.refl _ _) | (with_reducible refine Below.alloc ?_ (by first | omega | (simp; omega)) _) | (with_reducible refine Below.drewN ?_ _) | (with_reducible refine Below.drew ?_) | (with_reducible refine Below.setCell ?_ (by first | omega | (simp; omega)) _) | (with_reducible refine Below.trans ?_ (by assumption)))))) hle2).mono ?_); rintro e' w3 ⟨rfl, hb3, hB3, hk3⟩)
        clear hKw
        exact ⟨⟨i + 1, by simp, by omega, by (repeat (first | (with_reducible exact Below.refl _ _) | (with_reducible refine Below.alloc ?_ (by first | omega | (simp; omega)) _) | (with_reducible refine Below.drewN ?_ _) | (with_reducible refine Below.drew ?_) | (with_reducible refine Below.setCell ?_ (by first | omega | (simp; omega)) _) | (with_reducible refine Below.trans ?_ (by assumption)))), by (repeat (first | (with_reducible exact KeptE.refl _) | (with_reducible refine KeptE.alloc ?_ _) | (with_reducible refine KeptE.drewN ?_ _) | (with_reducible refine KeptE.drew ?_) | (with_reducible refine KeptE.set ?_ (by first | omega | (simp; omega)) _ _) | (with_reducible refine KeptE.step ?_ (by assumption)))), Lib.hid (by rw [hst.out, hfy.out]; simpa using hb3)⟩, by simp [intOf]; omega⟩
      · obtain rfl : i = n := by omega
        go_wp2
        go_end0
        exact ⟨rfl, by (have := hbr.out; rwa [← hn.out, List.take_length] at this), by (repeat (first | (with_reducible exact Below.refl _ _) | (with_reducible refine Below.alloc ?_ (by first | omega | (simp; omega)) _) | (with_reducible refine Below.drewN ?_ _) | (with_reducible refine Below.drew ?_) | (with_reducible refine Below.setCell ?_ (by first | omega | (simp; omega)) _) | (with_reducible refine Below.trans ?_ (by assumption)))), by (repeat (first | (with_reducible exact KeptE.refl _) | (with_reducible refine KeptE.alloc ?_ _) | (with_reducible refine KeptE.drewN ?_ _) | (with_reducible refine KeptE.drew ?_) | (with_reducible refine KeptE.set ?_ (by first | omega | (simp; omega)) _ _) | (with_reducible refine KeptE.step ?_ (by assumption))))⟩
end Go.Proofs.YtngfbpmabdmkeaaGreatDoor
namespace Go.Proofs.YtngfbpmabdmkeaaGreatDoor
open Go Go.RowKit

/-- Kids with commas between. -/
def rowT (f : Ex → List UInt8) : List Ex → List UInt8
  | [] => []
  | x :: r => f x ++ r.flatMap fun y => 44 :: 32 :: f y
theorem rowT_first (f : Ex → List UInt8) {l : List Ex} {x : Ex} (h : l[0]? = some x) : rowT f (l.take 1) = f x := by
  cases l with
  | nil => simp at h
  | cons a r =>
    simp at h
    subst h
    simp [rowT]
theorem rowT_step (f : Ex → List UInt8) {l : List Ex} {i : Nat} {x : Ex} (h : l[i]? = some x) (hi : 0 < i) : rowT f (l.take (i + 1)) = rowT f (l.take i) ++ (44 :: 32 :: f x) := by
  cases l with
  | nil => simp at h
  | cons a r =>
    obtain ⟨k, rfl⟩ : ∃ k, i = k + 1 := ⟨i - 1, by omega⟩
    have hk : r[k]? = some x := by simpa using h
    rw [List.take_succ_cons, List.take_succ_cons]
    show f a ++ _ = (f a ++ _) ++ _
    rw [take_step _ hk, List.append_assoc]
theorem rowT_le (f : Ex → List UInt8) (l : List Ex) (i : Nat) : (rowT f (l.take i)).length ≤ (rowT f l).length := by
  cases l with
  | nil => simp
  | cons a r =>
    cases i with
    | zero => simp [rowT]
    | succ k =>
      rw [List.take_succ_cons]
      have := take_len (fun y => 44 :: 32 :: f y) r k
      simp only [rowT, List.length_append]
      omega

set_option maxRecDepth 100000 in
set_option maxHeartbeats 4000000 in
theorem row_any (x : Ex) (f : Ex → List UInt8) (s1 s2 : ByteArray) (B b n : Nat) (p : Option Addr) (c : Nat) (l : List UInt8) (w : World) (hn : Hid (x.ks.length = n)) (hn9 : n < 1000000000) (hS : Hid (∀ y ∈ x.ks, Shows y (f y) B b)) (hx : Hid (IsEx 0 w x (.slice p n c))) (hb : Hid (Bld B b (Lib.byteCells l) w)) (hB : B ≤ w.heap.size) (hL : LB B w)
    (t1 t2 : List UInt8) (h1 : Hid ((bstr x.nm ++ s1).data.toList = t1)) (h2 : Hid (s2.data.toList = t2)) (hl : l.length + t1.length + (rowT f x.ks).length + t2.length ≤ 140737488355328) :
    Calls Tryz.prog 78 #[.pointer (some ⟨b, 0, none⟩), .agg #[.int .i64 x.k, .int .i64 x.op, .int .i64 x.n, .string (bstr x.nm), .slice p n c, .int .i64 x.a], .string s1, .string s2] w fun e w' => e = .returned (.tuple #[]) ∧ Bld B b (Lib.byteCells (l ++ t1 ++ rowT f x.ks ++ t2)) w' ∧ Below B w w' ∧ KeptE w w' := by
  have hcat : (bstr x.nm).size + s1.size ≤ 9223372036854775807 := by
    have e : (bstr x.nm ++ s1).size = (bstr x.nm).size + s1.size := ByteArray.size_append
    have e2 : (bstr x.nm ++ s1).size = t1.length := by rw [← h1.out]; simp
    omega
  have hcat2 : ¬ 9223372036854775807 < (bstr x.nm).size + s1.size := by omega
  go_enter Tryz.func78, Tryz.ntmps78
  go_wp2_with (go_at_call 75; (with_reducible refine (write_txt B b l (bstr x.nm ++ s1) _ (by (repeat (first | (with_reducible exact hb.out) | (with_reducible refine Bld.alloc ?_ _) | (with_reducible refine Bld.drewN ?_ _) | (with_reducible refine Bld.drew ?_)))) (by rw [h1.out]; omega) (by first | omega | (simp; omega))).mono ?_); rintro e' w1 ⟨rfl, hb1, hB1, hk1⟩; have hz1 := hB1.size; (try simp at hz1); have BX1 : Blk w1 w.heap.size (.int .i64 x.k) (.int .i64 x.op) (.int .i64 x.n) (.string (bstr x.nm)) (.slice p n c) (.int .i64 x.a) := (Blk.new rfl _ _ _ _ _ _).ke hk1; obtain ⟨blx, c0x, c1x, c2x, c3x, c4x, c5x, f0x, f1x, f2x, f3x, f4x, f5x⟩ := (BX1).facts)
  have hBw1 : Below B w w1 := by (repeat (first | (with_reducible exact Below.refl _ _) | (with_reducible refine Below.alloc ?_ (by first | omega | (simp; omega)) _) | (with_reducible refine Below.drewN ?_ _) | (with_reducible refine Below.drew ?_) | (with_reducible refine Below.setCell ?_ (by first | omega | (simp; omega)) _) | (with_reducible refine Below.trans ?_ (by assumption))))
  have hKw1 : KeptE w w1 := by (repeat (first | (with_reducible exact KeptE.refl _) | (with_reducible refine KeptE.alloc ?_ _) | (with_reducible refine KeptE.drewN ?_ _) | (with_reducible refine KeptE.drew ?_) | (with_reducible refine KeptE.set ?_ (by first | omega | (simp; omega)) _ _) | (with_reducible refine KeptE.step ?_ (by assumption))))
  rw [h1.out] at hb1
  go_loopw [19] (fun iv wr => ∃ i : Nat, iv = .int .i64 i ∧ i ≤ n ∧ Below B w1 wr ∧ KeptE w1 wr ∧ Hid (Bld B b (Lib.byteCells (l ++ t1 ++ rowT f (x.ks.take i))) wr)) (fun iv _ => n - (intOf iv).toNat)
  case atStart => exact ⟨0, rfl, Nat.zero_le _, Below.refl _ _, KeptE.refl _, Lib.hid (by simpa [rowT] using hb1)⟩
  case round =>
    obtain ⟨i, rfl, hi, hBr, hKr, hbr⟩ := hrel
    have hKw : KeptE w wr := hKw1.step hKr
    have hzr := hKr.size
    have hBwr : B ≤ wr.heap.size := by omega
    have hLr : LB B wr := hL.b (hBw1.trans hBr)
    by_cases hin : i < n
    · have hin2 : (i : Int) < n := by omega
      obtain ⟨y, hy⟩ : ∃ y, x.ks[i]? = some y := ⟨_, List.getElem?_eq_getElem (by rw [hn.out]; exact hin)⟩
      have hxr := hx.out.ke hKw
      rw [← hn.out] at hxr
      obtain ⟨g, cap, u, hp, -, hg, hyx, d0, d1, d2, d3, d4, d5⟩ := hxr.kid hy
      rw [hn.out] at hp
      obtain ⟨rfl, rfl⟩ : p = some ⟨g, 0, none⟩ ∧ c = cap := by simpa using hp
      obtain ⟨py, cy, rfl⟩ := hyx.form
      have hsy := Lib.hid (hS.out y (List.mem_of_getElem? hy))
      have HY := Lib.hid hyx
      have hle := rowT_le f x.ks (i + 1)
      by_cases h0 : i = 0
      · have hs0 : Hid (rowT f (x.ks.take (i + 1)) = rowT f (x.ks.take i) ++ f y) := Lib.hid (by rw [h0] at hy ⊢; rw [rowT_first f hy]; simp [rowT])
        have hi0 : ¬ ((0 : Int) < (i : Int)) := by omega
        rw [hs0.out, List.length_append] at hle
        have hle2 : (l ++ t1 ++ rowT f (x.ks.take i)).length + (f y).length ≤ 140737488355328 := by
          rw [List.length_append, List.length_append]
          omega
        clear hyx hxr hp hy hle h0
        go_wp2_with (go_at_call 49; (with_reducible refine (hsy.out py cy _ _ (by (repeat (first | (with_reducible exact HY.out) | (with_reducible refine IsEx.alloc ?_ _) | (with_reducible refine IsEx.drewN ?_ _) | (with_reducible refine IsEx.drew ?_) | (with_reducible refine IsEx.set ?_ ?_ _ _; rotate_left; first | omega | (simp; done) | (simp; omega)) | (with_reducible refine IsEx.fr ?_ (by assumption) (by omega)) | (with_reducible refine IsEx.stay ?_ (by assumption))))) (by (repeat (first | (with_reducible exact hbr.out) | (with_reducible refine Bld.alloc ?_ _) | (with_reducible refine Bld.drewN ?_ _) | (with_reducible refine Bld.drew ?_)))) (by first | omega | (simp; omega)) (hLr.b (by (repeat (first | (with_reducible exact Below.refl _ _) | (with_reducible refine Below.alloc ?_ (by first | omega | (simp; omega)) _) | (with_reducible refine Below.drewN ?_ _) | (with_reducible refine Below.drew ?_) | (with_reducible refine Below.setCell ?_ (by first | omega | (simp; omega)) _) | (with_reducible refine Below.trans ?_ (by assumption)))))) hle2).mono ?_); rintro e' w3 ⟨rfl, hb3, hB3, hk3⟩)
        clear hKw
        exact ⟨⟨i + 1, by simp, by omega, by (repeat (first | (with_reducible exact Below.refl _ _) | (with_reducible refine Below.alloc ?_ (by first | omega | (simp; omega)) _) | (with_reducible refine Below.drewN ?_ _) | (with_reducible refine Below.drew ?_) | (with_reducible refine Below.setCell ?_ (by first | omega | (simp; omega)) _) | (with_reducible refine Below.trans ?_ (by assumption)))), by (repeat (first | (with_reducible exact KeptE.refl _) | (with_reducible refine KeptE.alloc ?_ _) | (with_reducible refine KeptE.drewN ?_ _) | (with_reducible refine KeptE.drew ?_) | (with_reducible refine KeptE.set ?_ (by first | omega | (simp; omega)) _ _) | (with_reducible refine KeptE.step ?_ (by assumption)))), Lib.hid (by rw [hs0.out]; simpa using hb3)⟩, by simp [intOf]; omega⟩
      · have hs0 : Hid (rowT f (x.ks.take (i + 1)) = rowT f (x.ks.take i) ++ (44 :: 32 :: f y)) := Lib.hid (rowT_step f hy (by omega))
        have hi0 : (0 : Int) < (i : Int) := by omega
        rw [hs0.out, List.length_append, List.length_cons, List.length_cons] at hle
        have hle1 : (l ++ t1 ++ rowT f (x.ks.take i)).length + 2 ≤ 140737488355328 := by
          rw [List.length_append, List.length_append]
          omega
        have hle2 : (l ++ t1 ++ rowT f (x.ks.take i) ++ [44, 32]).length + (f y).length ≤ 140737488355328 := by
          rw [List.length_append, List.length_append, List.length_append]
          show _ + 2 + _ ≤ _
          omega
        clear hyx hxr hp hy hle h0
        go_wp2_with (first
          | (go_at_call 75; (with_reducible refine (write_txt B b _ ⟨#[44, 32]⟩ _ (by (repeat (first | (with_reducible exact hbr.out) | (with_reducible refine Bld.alloc ?_ _) | (with_reducible refine Bld.drewN ?_ _) | (with_reducible refine Bld.drew ?_)))) hle1 (by first | omega | (simp; omega))).mono ?_); rintro e' w2 ⟨rfl, hb2, hB2, hk2⟩; have hz2 := hB2.size; (try simp at hz2); have BY2 : Blk w2 wr.heap.size (.int .i64 y.k) (.int .i64 y.op) (.int .i64 y.n) (.string (bstr y.nm)) (.slice py y.ks.length cy) (.int .i64 y.a) := (Blk.new rfl _ _ _ _ _ _).ke hk2; obtain ⟨bly, c0y, c1y, c2y, c3y, c4y, c5y, f0y, f1y, f2y, f3y, f4y, f5y⟩ := (BY2).facts)
          | (go_at_call 49; (with_reducible refine (hsy.out py cy (l ++ t1 ++ rowT f (x.ks.take i) ++ [44, 32]) _ (by (refine IsEx.ke ?_ hk2; (repeat (first | (with_reducible exact HY.out) | (with_reducible refine IsEx.alloc ?_ _) | (with_reducible refine IsEx.drewN ?_ _) | (with_reducible refine IsEx.drew ?_) | (with_reducible refine IsEx.set ?_ ?_ _ _; rotate_left; first | omega | (simp; done) | (simp; omega)) | (with_reducible refine IsEx.fr ?_ (by assumption) (by omega)) | (with_reducible refine IsEx.stay ?_ (by assumption)))))) (by (repeat (first | (with_reducible exact hb2) | (with_reducible refine Bld.alloc ?_ _) | (with_reducible refine Bld.drewN ?_ _) | (with_reducible refine Bld.drew ?_)))) (by first | omega | (simp; omega)) (hLr.b (by (repeat (first | (with_reducible exact Below.refl _ _) | (with_reducible refine Below.alloc ?_ (by first | omega | (simp; omega)) _) | (with_reducible refine Below.drewN ?_ _) | (with_reducible refine Below.drew ?_) | (with_reducible refine Below.setCell ?_ (by first | omega | (simp; omega)) _) | (with_reducible refine Below.trans ?_ (by assumption)))))) hle2).mono ?_); rintro e' w3 ⟨rfl, hb3, hB3, hk3⟩))
        clear hKw
        exact ⟨⟨i + 1, by simp, by omega, by (repeat (first | (with_reducible exact Below.refl _ _) | (with_reducible refine Below.alloc ?_ (by first | omega | (simp; omega)) _) | (with_reducible refine Below.drewN ?_ _) | (with_reducible refine Below.drew ?_) | (with_reducible refine Below.setCell ?_ (by first | omega | (simp; omega)) _) | (with_reducible refine Below.trans ?_ (by assumption)))), by (repeat (first | (with_reducible exact KeptE.refl _) | (with_reducible refine KeptE.alloc ?_ _) | (with_reducible refine KeptE.drewN ?_ _) | (with_reducible refine KeptE.drew ?_) | (with_reducible refine KeptE.set ?_ (by first | omega | (simp; omega)) _ _) | (with_reducible refine KeptE.step ?_ (by assumption)))), Lib.hid (by rw [hs0.out]; simpa using hb3)⟩, by simp [intOf]; omega⟩
    · obtain rfl : i = n := by omega
      have hle : (l ++ t1 ++ rowT f (x.ks.take i)).length + s2.data.toList.length ≤ 140737488355328 := by
        rw [h2.out, ← hn.out, List.take_length, List.length_append, List.length_append]
        omega
      go_wp2_with (go_at_call 75; (with_reducible refine (write_txt B b _ s2 _ (by (repeat (first | (with_reducible exact hbr.out) | (with_reducible refine Bld.alloc ?_ _) | (with_reducible refine Bld.drewN ?_ _) | (with_reducible refine Bld.drew ?_)))) hle (by first | omega | (simp; omega))).mono ?_); rintro e' w2 ⟨rfl, hb2, hB2, hk2⟩)
      go_end0
      exact ⟨rfl, by (rw [h2.out, ← hn.out, List.take_length] at hb2; exact hb2), by (repeat (first | (with_reducible exact Below.refl _ _) | (with_reducible refine Below.alloc ?_ (by first | omega | (simp; omega)) _) | (with_reducible refine Below.drewN ?_ _) | (with_reducible refine Below.drew ?_) | (with_reducible refine Below.setCell ?_ (by first | omega | (simp; omega)) _) | (with_reducible refine Below.trans ?_ (by assumption)))), by (clear hKr; (repeat (first | (with_reducible exact KeptE.refl _) | (with_reducible refine KeptE.alloc ?_ _) | (with_reducible refine KeptE.drewN ?_ _) | (with_reducible refine KeptE.drew ?_) | (with_reducible refine KeptE.set ?_ (by first | omega | (simp; omega)) _ _) | (with_reducible refine KeptE.step ?_ (by assumption)))))⟩
end Go.Proofs.YtngfbpmabdmkeaaGreatDoor
namespace Go.Proofs.YtngfbpmabdmkeaaGreatDoor
open Go Go.RowKit

/-- The first kid, and the others. -/
def twoT (F0 F1 : Ex → List UInt8) : List Ex → List UInt8
  | [] => []
  | x :: r => F0 x ++ r.flatMap F1
theorem twoT_first (F0 F1 : Ex → List UInt8) {l : List Ex} {x : Ex} (h : l[0]? = some x) : twoT F0 F1 (l.take 1) = F0 x := by
  cases l with
  | nil => simp at h
  | cons a r =>
    simp at h
    subst h
    simp [twoT]
theorem twoT_step (F0 F1 : Ex → List UInt8) {l : List Ex} {i : Nat} {x : Ex} (h : l[i]? = some x) (hi : 0 < i) : twoT F0 F1 (l.take (i + 1)) = twoT F0 F1 (l.take i) ++ F1 x := by
  cases l with
  | nil => simp at h
  | cons a r =>
    obtain ⟨k, rfl⟩ : ∃ k, i = k + 1 := ⟨i - 1, by omega⟩
    have hk : r[k]? = some x := by simpa using h
    rw [List.take_succ_cons, List.take_succ_cons]
    show F0 a ++ _ = (F0 a ++ _) ++ _
    rw [take_step _ hk, List.append_assoc]
theorem twoT_le (F0 F1 : Ex → List UInt8) (l : List Ex) (i : Nat) : (twoT F0 F1 (l.take i)).length ≤ (twoT F0 F1 l).length := by
  cases l with
  | nil => simp
  | cons a r =>
    cases i with
    | zero => simp [twoT]
    | succ k =>
      rw [List.take_succ_cons]
      have := take_len F1 r k
      simp only [twoT, List.length_append]
      omega

theorem write_sp (B b : Nat) (l : List UInt8) (o : Int) (w : World) (h : Bld B b (Lib.byteCells l) w) (hlen : l.length + ((⟨#[32]⟩ : ByteArray) ++ sgnZ o ++ ⟨#[32]⟩).data.toList.length ≤ 140737488355328) (hBw : B ≤ w.heap.size) :
    Calls Tryz.prog 75 #[.pointer (some ⟨b, 0, none⟩), .string ((⟨#[32]⟩ : ByteArray) ++ sgnZ o ++ ⟨#[32]⟩)] w fun e w' => e = .returned (.tuple #[.int .i64 ((⟨#[32]⟩ : ByteArray) ++ sgnZ o ++ ⟨#[32]⟩).size, .nilIface]) ∧ Bld B b (Lib.byteCells (l ++ ((⟨#[32]⟩ : ByteArray) ++ sgnZ o ++ ⟨#[32]⟩).data.toList)) w' ∧ Below B w w' ∧ KeptE w w' := write_txt B b l _ w h hlen hBw

set_option maxRecDepth 100000 in
set_option maxHeartbeats 8000000 in
theorem two_any (x : Ex) (tx F0 F1 : Ex → List UInt8) (B b n : Nat) (p : Option Addr) (c : Nat) (l : List UInt8) (w : World) (hn : Hid (x.ks.length = n)) (hn9 : n < 1000000000) (hS : Hid (∀ y ∈ x.ks, Shows y (tx y) B b)) (hx : Hid (IsEx 0 w x (.slice p n c))) (hb : Hid (Bld B b (Lib.byteCells l) w)) (hB : B ≤ w.heap.size) (hL : LB B w)
    (t1 : List UInt8) (h1 : Hid (((⟨#[32]⟩ : ByteArray) ++ sgnZ x.op ++ ⟨#[32]⟩).data.toList = t1)) (hs : (sgnZ x.op).size ≤ 2)
    (h0 : Hid (F0 = fun y => partT ((y.k == 6) && decide (rnkZ y.op < rnkZ x.op)) (tx y))) (hF1 : Hid (F1 = fun y => t1 ++ partT ((y.k == 6) && decide (rnkZ y.op ≤ rnkZ x.op)) (tx y))) (hl : l.length + (twoT F0 F1 x.ks).length ≤ 140737488355328) :
    Calls Tryz.prog 80 #[.pointer (some ⟨b, 0, none⟩), .agg #[.int .i64 x.k, .int .i64 x.op, .int .i64 x.n, .string (bstr x.nm), .slice p n c, .int .i64 x.a]] w fun e w' => e = .returned (.tuple #[]) ∧ Bld B b (Lib.byteCells (l ++ twoT F0 F1 x.ks)) w' ∧ Below B w w' ∧ KeptE w w' := by
  have hsz : (sgnZ x.op).size < 1000 := by omega
  go_enter Tryz.func80, Tryz.ntmps80
  go_wp2_with (go_at_call 106; (with_reducible refine (rank_any x.op _ (LB.laid (hL.b (by (repeat (first | (with_reducible exact Below.refl _ _) | (with_reducible refine Below.alloc ?_ (by first | omega | (simp; omega)) _) | (with_reducible refine Below.drewN ?_ _) | (with_reducible refine Below.drew ?_) | (with_reducible refine Below.setCell ?_ (by first | omega | (simp; omega)) _) | (with_reducible refine Below.trans ?_ (by assumption))))))).tab).mono ?_); rintro e' w1 ⟨rfl, rfl⟩)
  obtain ⟨w1, hw1⟩ : ∃ w1, w1 = w.alloc (.cells #[.int .i64 x.k, .int .i64 x.op, .int .i64 x.n, .string (bstr x.nm), .slice p n c, .int .i64 x.a] 25) := ⟨_, rfl⟩
  rw [← hw1]
  have hBw1 : Below B w w1 := by (rw [hw1]; (repeat (first | (with_reducible exact Below.refl _ _) | (with_reducible refine Below.alloc ?_ (by first | omega | (simp; omega)) _) | (with_reducible refine Below.drewN ?_ _) | (with_reducible refine Below.drew ?_) | (with_reducible refine Below.setCell ?_ (by first | omega | (simp; omega)) _) | (with_reducible refine Below.trans ?_ (by assumption)))))
  have hKw1 : KeptE w w1 := by (rw [hw1]; (repeat (first | (with_reducible exact KeptE.refl _) | (with_reducible refine KeptE.alloc ?_ _) | (with_reducible refine KeptE.drewN ?_ _) | (with_reducible refine KeptE.drew ?_) | (with_reducible refine KeptE.set ?_ (by first | omega | (simp; omega)) _ _) | (with_reducible refine KeptE.step ?_ (by assumption)))))
  have hb1 : Bld B b (Lib.byteCells l) w1 := by (rw [hw1]; exact hb.out.alloc _)
  have BX1 : Hid (Blk w1 w.heap.size (.int .i64 x.k) (.int .i64 x.op) (.int .i64 x.n) (.string (bstr x.nm)) (.slice p n c) (.int .i64 x.a)) := Lib.hid (by rw [hw1]; exact Blk.new rfl _ _ _ _ _ _)
  have hz1 : w.heap.size < w1.heap.size := by (rw [hw1]; simp)
  clear hw1
  go_loopw [14] (fun iv wr => ∃ i : Nat, iv = .int .i64 i ∧ i ≤ n ∧ Below B w1 wr ∧ KeptE w1 wr ∧ Hid (Bld B b (Lib.byteCells (l ++ twoT F0 F1 (x.ks.take i))) wr)) (fun iv _ => n - (intOf iv).toNat)
  case atStart => exact ⟨0, rfl, Nat.zero_le _, Below.refl _ _, KeptE.refl _, Lib.hid (by simpa [twoT] using hb1)⟩
  case round =>
    obtain ⟨i, rfl, hi, hBr, hKr, hbr⟩ := hrel
    have hKw : KeptE w wr := hKw1.step hKr
    have hzr := hKr.size
    have hBwr : B ≤ wr.heap.size := by omega
    have hLr : LB B wr := hL.b (hBw1.trans hBr)
    have BXr := BX1.out.ke hKr
    obtain ⟨blx, c0x, c1x, c2x, c3x, c4x, c5x, f0x, f1x, f2x, f3x, f4x, f5x⟩ := (BXr).facts
    by_cases hin : i < n
    · have hin2 : (i : Int) < n := by omega
      obtain ⟨y, hy⟩ : ∃ y, x.ks[i]? = some y := ⟨_, List.getElem?_eq_getElem (by rw [hn.out]; exact hin)⟩
      have hxr := hx.out.ke hKw
      rw [← hn.out] at hxr
      obtain ⟨g, cap, u, hp, -, hg, hyx, d0, d1, d2, d3, d4, d5⟩ := hxr.kid hy
      rw [hn.out] at hp
      obtain ⟨rfl, rfl⟩ : p = some ⟨g, 0, none⟩ ∧ c = cap := by simpa using hp
      obtain ⟨py, cy, rfl⟩ := hyx.form
      have hsy := Lib.hid (hS.out y (List.mem_of_getElem? hy))
      have HY := Lib.hid hyx
      have hle := twoT_le F0 F1 x.ks (i + 1)
      have hx1 : w.heap.size ≠ wr.heap.size := by omega
      by_cases hz : i = 0
      · have hs0 : Hid (twoT F0 F1 (x.ks.take (i + 1)) = twoT F0 F1 (x.ks.take i) ++ F0 y) := Lib.hid (by rw [hz] at hy ⊢; rw [twoT_first F0 F1 hy]; simp [twoT])
        have hi0 : (((i : Int)) == 0) = true := by simp [hz]
        rw [hs0.out, List.length_append] at hle
        have hle2 : ∀ T, F0 y = T → (l ++ twoT F0 F1 (x.ks.take i)).length + T.length ≤ 140737488355328 := by
          rintro _ rfl
          rw [List.length_append]
          omega
        clear hyx hxr hp hy hle hz
        rcases (show (¬ y.k = 6) ∨ (y.k = 6 ∧ rnkZ y.op < rnkZ x.op) ∨ (y.k = 6 ∧ ¬ rnkZ y.op < rnkZ x.op) by omega) with hc | hc | hc
        · have hkb : (y.k == 6) = false := by simpa using hc
          have hF : F0 y = partT false (tx y) := by (rw [h0.out]; simp [hkb])
          clear hc
          go_wp2_with (first
            | (go_at_call 106; (with_reducible refine (rank_any y.op _ (LB.laid (hLr.b (by (repeat (first | (with_reducible exact Below.refl _ _) | (with_reducible refine Below.alloc ?_ (by first | omega | (simp; omega)) _) | (with_reducible refine Below.drewN ?_ _) | (with_reducible refine Below.drew ?_) | (with_reducible refine Below.setCell ?_ (by first | omega | (simp; omega)) _) | (with_reducible refine Below.trans ?_ (by assumption))))))).tab).mono ?_); rintro e' w5 ⟨rfl, rfl⟩)
            | (go_at_call 125; (with_reducible refine (part_any y (tx y) B b false py cy _ _ hsy (Lib.hid (by (repeat (first | (with_reducible exact HY.out) | (with_reducible refine IsEx.alloc ?_ _) | (with_reducible refine IsEx.drewN ?_ _) | (with_reducible refine IsEx.drew ?_) | (with_reducible refine IsEx.set ?_ ?_ _ _; rotate_left; first | omega | (simp; done) | (simp; omega)) | (with_reducible refine IsEx.fr ?_ (by assumption) (by omega)) | (with_reducible refine IsEx.stay ?_ (by assumption)))))) (Lib.hid (by (repeat (first | (with_reducible exact hbr.out) | (with_reducible refine Bld.alloc ?_ _) | (with_reducible refine Bld.drewN ?_ _) | (with_reducible refine Bld.drew ?_))))) (by first | omega | (simp; omega)) (hLr.b (by (repeat (first | (with_reducible exact Below.refl _ _) | (with_reducible refine Below.alloc ?_ (by first | omega | (simp; omega)) _) | (with_reducible refine Below.drewN ?_ _) | (with_reducible refine Below.drew ?_) | (with_reducible refine Below.setCell ?_ (by first | omega | (simp; omega)) _) | (with_reducible refine Below.trans ?_ (by assumption)))))) (hle2 _ hF)).mono ?_); rintro e' w3 ⟨rfl, hb3, hB3, hk3⟩))
          clear hKw
          exact ⟨⟨i + 1, by simp, by omega, by (repeat (first | (with_reducible exact Below.refl _ _) | (with_reducible refine Below.alloc ?_ (by first | omega | (simp; omega)) _) | (with_reducible refine Below.drewN ?_ _) | (with_reducible refine Below.drew ?_) | (with_reducible refine Below.setCell ?_ (by first | omega | (simp; omega)) _) | (with_reducible refine Below.trans ?_ (by assumption)))), by (repeat (first | (with_reducible exact KeptE.refl _) | (with_reducible refine KeptE.alloc ?_ _) | (with_reducible refine KeptE.drewN ?_ _) | (with_reducible refine KeptE.drew ?_) | (with_reducible refine KeptE.set ?_ (by first | omega | (simp; omega)) _ _) | (with_reducible refine KeptE.step ?_ (by assumption)))), Lib.hid (by rw [hs0.out, hF]; simpa using hb3)⟩, by simp [intOf]; omega⟩
        · have hkb : (y.k == 6) = true := by simpa using hc.1
          have hcm := hc.2
          have hF : F0 y = partT true (tx y) := by (rw [h0.out]; simp [hkb, hcm])
          clear hc
          go_wp2_with (first
            | (go_at_call 106; (with_reducible refine (rank_any y.op _ (LB.laid (hLr.b (by (repeat (first | (with_reducible exact Below.refl _ _) | (with_reducible refine Below.alloc ?_ (by first | omega | (simp; omega)) _) | (with_reducible refine Below.drewN ?_ _) | (with_reducible refine Below.drew ?_) | (with_reducible refine Below.setCell ?_ (by first | omega | (simp; omega)) _) | (with_reducible refine Below.trans ?_ (by assumption))))))).tab).mono ?_); rintro e' w5 ⟨rfl, rfl⟩)
            | (go_at_call 125; (with_reducible refine (part_any y (tx y) B b true py cy _ _ hsy (Lib.hid (by (repeat (first | (with_reducible exact HY.out) | (with_reducible refine IsEx.alloc ?_ _) | (with_reducible refine IsEx.drewN ?_ _) | (with_reducible refine IsEx.drew ?_) | (with_reducible refine IsEx.set ?_ ?_ _ _; rotate_left; first | omega | (simp; done) | (simp; omega)) | (with_reducible refine IsEx.fr ?_ (by assumption) (by omega)) | (with_reducible refine IsEx.stay ?_ (by assumption)))))) (Lib.hid (by (repeat (first | (with_reducible exact hbr.out) | (with_reducible refine Bld.alloc ?_ _) | (with_reducible refine Bld.drewN ?_ _) | (with_reducible refine Bld.drew ?_))))) (by first | omega | (simp; omega)) (hLr.b (by (repeat (first | (with_reducible exact Below.refl _ _) | (with_reducible refine Below.alloc ?_ (by first | omega | (simp; omega)) _) | (with_reducible refine Below.drewN ?_ _) | (with_reducible refine Below.drew ?_) | (with_reducible refine Below.setCell ?_ (by first | omega | (simp; omega)) _) | (with_reducible refine Below.trans ?_ (by assumption)))))) (hle2 _ hF)).mono ?_); rintro e' w3 ⟨rfl, hb3, hB3, hk3⟩))
          clear hKw
          exact ⟨⟨i + 1, by simp, by omega, by (repeat (first | (with_reducible exact Below.refl _ _) | (with_reducible refine Below.alloc ?_ (by first | omega | (simp; omega)) _) | (with_reducible refine Below.drewN ?_ _) | (with_reducible refine Below.drew ?_) | (with_reducible refine Below.setCell ?_ (by first | omega | (simp; omega)) _) | (with_reducible refine Below.trans ?_ (by assumption)))), by (repeat (first | (with_reducible exact KeptE.refl _) | (with_reducible refine KeptE.alloc ?_ _) | (with_reducible refine KeptE.drewN ?_ _) | (with_reducible refine KeptE.drew ?_) | (with_reducible refine KeptE.set ?_ (by first | omega | (simp; omega)) _ _) | (with_reducible refine KeptE.step ?_ (by assumption)))), Lib.hid (by rw [hs0.out, hF]; simpa using hb3)⟩, by simp [intOf]; omega⟩
        · have hkb : (y.k == 6) = true := by simpa using hc.1
          have hcm := hc.2
          have hF : F0 y = partT (decide (rnkZ y.op < rnkZ x.op)) (tx y) := by (rw [h0.out]; simp [hkb])
          clear hc hcm
          go_wp2_with (first
            | (go_at_call 106; (with_reducible refine (rank_any y.op _ (LB.laid (hLr.b (by (repeat (first | (with_reducible exact Below.refl _ _) | (with_reducible refine Below.alloc ?_ (by first | omega | (simp; omega)) _) | (with_reducible refine Below.drewN ?_ _) | (with_reducible refine Below.drew ?_) | (with_reducible refine Below.setCell ?_ (by first | omega | (simp; omega)) _) | (with_reducible refine Below.trans ?_ (by assumption))))))).tab).mono ?_); rintro e' w5 ⟨rfl, rfl⟩)
            | (go_at_call 125; (with_reducible refine (part_any y (tx y) B b (decide (rnkZ y.op < rnkZ x.op)) py cy _ _ hsy (Lib.hid (by (repeat (first | (with_reducible exact HY.out) | (with_reducible refine IsEx.alloc ?_ _) | (with_reducible refine IsEx.drewN ?_ _) | (with_reducible refine IsEx.drew ?_) | (with_reducible refine IsEx.set ?_ ?_ _ _; rotate_left; first | omega | (simp; done) | (simp; omega)) | (with_reducible refine IsEx.fr ?_ (by assumption) (by omega)) | (with_reducible refine IsEx.stay ?_ (by assumption)))))) (Lib.hid (by (repeat (first | (with_reducible exact hbr.out) | (with_reducible refine Bld.alloc ?_ _) | (with_reducible refine Bld.drewN ?_ _) | (with_reducible refine Bld.drew ?_))))) (by first | omega | (simp; omega)) (hLr.b (by (repeat (first | (with_reducible exact Below.refl _ _) | (with_reducible refine Below.alloc ?_ (by first | omega | (simp; omega)) _) | (with_reducible refine Below.drewN ?_ _) | (with_reducible refine Below.drew ?_) | (with_reducible refine Below.setCell ?_ (by first | omega | (simp; omega)) _) | (with_reducible refine Below.trans ?_ (by assumption)))))) (hle2 _ hF)).mono ?_); rintro e' w3 ⟨rfl, hb3, hB3, hk3⟩))
          clear hKw
          exact ⟨⟨i + 1, by simp, by omega, by (repeat (first | (with_reducible exact Below.refl _ _) | (with_reducible refine Below.alloc ?_ (by first | omega | (simp; omega)) _) | (with_reducible refine Below.drewN ?_ _) | (with_reducible refine Below.drew ?_) | (with_reducible refine Below.setCell ?_ (by first | omega | (simp; omega)) _) | (with_reducible refine Below.trans ?_ (by assumption)))), by (repeat (first | (with_reducible exact KeptE.refl _) | (with_reducible refine KeptE.alloc ?_ _) | (with_reducible refine KeptE.drewN ?_ _) | (with_reducible refine KeptE.drew ?_) | (with_reducible refine KeptE.set ?_ (by first | omega | (simp; omega)) _ _) | (with_reducible refine KeptE.step ?_ (by assumption)))), Lib.hid (by rw [hs0.out, hF]; simpa using hb3)⟩, by simp [intOf]; omega⟩
      · have hs0 : Hid (twoT F0 F1 (x.ks.take (i + 1)) = twoT F0 F1 (x.ks.take i) ++ F1 y) := Lib.hid (twoT_step F0 F1 hy (by omega))
        have hi0 : (((i : Int)) == 0) = false := by simpa using hz
        have hi1 : ¬ ((i : Int)) = 0 := by omega
        rw [hs0.out, List.length_append] at hle
        have hle2 : ∀ T, F1 y = t1 ++ T → (l ++ twoT F0 F1 (x.ks.take i)).length + t1.length ≤ 140737488355328 ∧ (l ++ twoT F0 F1 (x.ks.take i) ++ t1).length + T.length ≤ 140737488355328 := by
          intro T hT
          rw [hT, List.length_append] at hle
          simp only [List.length_append]
          omega
        clear hyx hxr hp hy hle hz
        rcases (show (¬ y.k = 6) ∨ (y.k = 6 ∧ rnkZ y.op ≤ rnkZ x.op) ∨ (y.k = 6 ∧ ¬ rnkZ y.op ≤ rnkZ x.op) by omega) with hc | hc | hc
        · have hkb : (y.k == 6) = false := by simpa using hc
          have hF : F1 y = t1 ++ partT false (tx y) := by (rw [hF1.out]; simp [hkb])
          have hle3 : (l ++ twoT F0 F1 (x.ks.take i)).length + ((⟨#[32]⟩ : ByteArray) ++ sgnZ x.op ++ ⟨#[32]⟩).data.toList.length ≤ 140737488355328 := by (rw [h1.out]; exact (hle2 _ hF).1)
          clear hc
          go_wp2_with (first
            | (go_at_call 106; (with_reducible refine (rank_any y.op _ (LB.laid (hLr.b (by (repeat (first | (with_reducible exact Below.refl _ _) | (with_reducible refine Below.alloc ?_ (by first | omega | (simp; omega)) _) | (with_reducible refine Below.drewN ?_ _) | (with_reducible refine Below.drew ?_) | (with_reducible refine Below.setCell ?_ (by first | omega | (simp; omega)) _) | (with_reducible refine Below.trans ?_ (by assumption))))))).tab).mono ?_); rintro e' w5 ⟨rfl, rfl⟩)
            | (go_at_call 126; (with_reducible refine (sign_any x.op _ (LB.laid (hLr.b (by (repeat (first | (with_reducible exact Below.refl _ _) | (with_reducible refine Below.alloc ?_ (by first | omega | (simp; omega)) _) | (with_reducible refine Below.drewN ?_ _) | (with_reducible refine Below.drew ?_) | (with_reducible refine Below.setCell ?_ (by first | omega | (simp; omega)) _) | (with_reducible refine Below.trans ?_ (by assumption))))))).tab).mono ?_); rintro e' w6 ⟨rfl, rfl⟩)
            | (go_at_call 75; go_loud ((with_reducible refine (write_sp B b (l ++ twoT F0 F1 (x.ks.take i)) x.op _ (by (repeat (first | (with_reducible exact hbr.out) | (with_reducible refine Bld.alloc ?_ _) | (with_reducible refine Bld.drewN ?_ _) | (with_reducible refine Bld.drew ?_)))) hle3 (by first | omega | (simp; omega))).mono ?_); rintro e' w2 ⟨rfl, hb2, hB2, hk2⟩; rw [h1.out] at hb2; have hz2 := hB2.size; (try simp at hz2); have BY2 : Blk w2 wr.heap.size (.int .i64 y.k) (.int .i64 y.op) (.int .i64 y.n) (.string (bstr y.nm)) (.slice py y.ks.length cy) (.int .i64 y.a) := (Blk.new rfl _ _ _ _ _ _).ke hk2; obtain ⟨bly, c0y, c1y, c2y, c3y, c4y, c5y, f0y, f1y, f2y, f3y, f4y, f5y⟩ := (BY2).facts))
            | (go_at_call 125; (with_reducible refine (part_any y (tx y) B b false py cy (l ++ twoT F0 F1 (x.ks.take i) ++ t1) _ hsy (Lib.hid (by (refine IsEx.ke ?_ hk2; (repeat (first | (with_reducible exact HY.out) | (with_reducible refine IsEx.alloc ?_ _) | (with_reducible refine IsEx.drewN ?_ _) | (with_reducible refine IsEx.drew ?_) | (with_reducible refine IsEx.set ?_ ?_ _ _; rotate_left; first | omega | (simp; done) | (simp; omega)) | (with_reducible refine IsEx.fr ?_ (by assumption) (by omega)) | (with_reducible refine IsEx.stay ?_ (by assumption))))))) (Lib.hid (by (repeat (first | (with_reducible exact hb2) | (with_reducible refine Bld.alloc ?_ _) | (with_reducible refine Bld.drewN ?_ _) | (with_reducible refine Bld.drew ?_))))) (by first | omega | (simp; omega)) (hLr.b (by (repeat (first | (with_reducible exact Below.refl _ _) | (with_reducible refine Below.alloc ?_ (by first | omega | (simp; omega)) _) | (with_reducible refine Below.drewN ?_ _) | (with_reducible refine Below.drew ?_) | (with_reducible refine Below.setCell ?_ (by first | omega | (simp; omega)) _) | (with_reducible refine Below.trans ?_ (by assumption)))))) (hle2 _ hF).2).mono ?_); rintro e' w3 ⟨rfl, hb3, hB3, hk3⟩))
          clear hKw
          exact ⟨⟨i + 1, by simp, by omega, by (repeat (first | (with_reducible exact Below.refl _ _) | (with_reducible refine Below.alloc ?_ (by first | omega | (simp; omega)) _) | (with_reducible refine Below.drewN ?_ _) | (with_reducible refine Below.drew ?_) | (with_reducible refine Below.setCell ?_ (by first | omega | (simp; omega)) _) | (with_reducible refine Below.trans ?_ (by assumption)))), by (repeat (first | (with_reducible exact KeptE.refl _) | (with_reducible refine KeptE.alloc ?_ _) | (with_reducible refine KeptE.drewN ?_ _) | (with_reducible refine KeptE.drew ?_) | (with_reducible refine KeptE.set ?_ (by first | omega | (simp; omega)) _ _) | (with_reducible refine KeptE.step ?_ (by assumption)))), Lib.hid (by rw [hs0.out, hF]; simpa using hb3)⟩, by simp [intOf]; omega⟩
        · have hkb : (y.k == 6) = true := by simpa using hc.1
          have hcm := hc.2
          have hF : F1 y = t1 ++ partT true (tx y) := by (rw [hF1.out]; simp [hkb, hcm])
          have hle3 : (l ++ twoT F0 F1 (x.ks.take i)).length + ((⟨#[32]⟩ : ByteArray) ++ sgnZ x.op ++ ⟨#[32]⟩).data.toList.length ≤ 140737488355328 := by (rw [h1.out]; exact (hle2 _ hF).1)
          clear hc
          go_wp2_with (first
            | (go_at_call 106; (with_reducible refine (rank_any y.op _ (LB.laid (hLr.b (by (repeat (first | (with_reducible exact Below.refl _ _) | (with_reducible refine Below.alloc ?_ (by first | omega | (simp; omega)) _) | (with_reducible refine Below.drewN ?_ _) | (with_reducible refine Below.drew ?_) | (with_reducible refine Below.setCell ?_ (by first | omega | (simp; omega)) _) | (with_reducible refine Below.trans ?_ (by assumption))))))).tab).mono ?_); rintro e' w5 ⟨rfl, rfl⟩)
            | (go_at_call 126; (with_reducible refine (sign_any x.op _ (LB.laid (hLr.b (by (repeat (first | (with_reducible exact Below.refl _ _) | (with_reducible refine Below.alloc ?_ (by first | omega | (simp; omega)) _) | (with_reducible refine Below.drewN ?_ _) | (with_reducible refine Below.drew ?_) | (with_reducible refine Below.setCell ?_ (by first | omega | (simp; omega)) _) | (with_reducible refine Below.trans ?_ (by assumption))))))).tab).mono ?_); rintro e' w6 ⟨rfl, rfl⟩)
            | (go_at_call 75; go_loud ((with_reducible refine (write_sp B b (l ++ twoT F0 F1 (x.ks.take i)) x.op _ (by (repeat (first | (with_reducible exact hbr.out) | (with_reducible refine Bld.alloc ?_ _) | (with_reducible refine Bld.drewN ?_ _) | (with_reducible refine Bld.drew ?_)))) hle3 (by first | omega | (simp; omega))).mono ?_); rintro e' w2 ⟨rfl, hb2, hB2, hk2⟩; rw [h1.out] at hb2; have hz2 := hB2.size; (try simp at hz2); have BY2 : Blk w2 wr.heap.size (.int .i64 y.k) (.int .i64 y.op) (.int .i64 y.n) (.string (bstr y.nm)) (.slice py y.ks.length cy) (.int .i64 y.a) := (Blk.new rfl _ _ _ _ _ _).ke hk2; obtain ⟨bly, c0y, c1y, c2y, c3y, c4y, c5y, f0y, f1y, f2y, f3y, f4y, f5y⟩ := (BY2).facts))
            | (go_at_call 125; (with_reducible refine (part_any y (tx y) B b true py cy (l ++ twoT F0 F1 (x.ks.take i) ++ t1) _ hsy (Lib.hid (by (refine IsEx.ke ?_ hk2; (repeat (first | (with_reducible exact HY.out) | (with_reducible refine IsEx.alloc ?_ _) | (with_reducible refine IsEx.drewN ?_ _) | (with_reducible refine IsEx.drew ?_) | (with_reducible refine IsEx.set ?_ ?_ _ _; rotate_left; first | omega | (simp; done) | (simp; omega)) | (with_reducible refine IsEx.fr ?_ (by assumption) (by omega)) | (with_reducible refine IsEx.stay ?_ (by assumption))))))) (Lib.hid (by (repeat (first | (with_reducible exact hb2) | (with_reducible refine Bld.alloc ?_ _) | (with_reducible refine Bld.drewN ?_ _) | (with_reducible refine Bld.drew ?_))))) (by first | omega | (simp; omega)) (hLr.b (by (repeat (first | (with_reducible exact Below.refl _ _) | (with_reducible refine Below.alloc ?_ (by first | omega | (simp; omega)) _) | (with_reducible refine Below.drewN ?_ _) | (with_reducible refine Below.drew ?_) | (with_reducible refine Below.setCell ?_ (by first | omega | (simp; omega)) _) | (with_reducible refine Below.trans ?_ (by assumption)))))) (hle2 _ hF).2).mono ?_); rintro e' w3 ⟨rfl, hb3, hB3, hk3⟩))
          clear hKw
          exact ⟨⟨i + 1, by simp, by omega, by (repeat (first | (with_reducible exact Below.refl _ _) | (with_reducible refine Below.alloc ?_ (by first | omega | (simp; omega)) _) | (with_reducible refine Below.drewN ?_ _) | (with_reducible refine Below.drew ?_) | (with_reducible refine Below.setCell ?_ (by first | omega | (simp; omega)) _) | (with_reducible refine Below.trans ?_ (by assumption)))), by (repeat (first | (with_reducible exact KeptE.refl _) | (with_reducible refine KeptE.alloc ?_ _) | (with_reducible refine KeptE.drewN ?_ _) | (with_reducible refine KeptE.drew ?_) | (with_reducible refine KeptE.set ?_ (by first | omega | (simp; omega)) _ _) | (with_reducible refine KeptE.step ?_ (by assumption)))), Lib.hid (by rw [hs0.out, hF]; simpa using hb3)⟩, by simp [intOf]; omega⟩
        · have hkb : (y.k == 6) = true := by simpa using hc.1
          have hcm := hc.2
          have hF : F1 y = t1 ++ partT (decide (rnkZ y.op ≤ rnkZ x.op)) (tx y) := by (rw [hF1.out]; simp [hkb])
          have hle3 : (l ++ twoT F0 F1 (x.ks.take i)).length + ((⟨#[32]⟩ : ByteArray) ++ sgnZ x.op ++ ⟨#[32]⟩).data.toList.length ≤ 140737488355328 := by (rw [h1.out]; exact (hle2 _ hF).1)
          clear hc hcm
          go_wp2_with (first
            | (go_at_call 106; (with_reducible refine (rank_any y.op _ (LB.laid (hLr.b (by (repeat (first | (with_reducible exact Below.refl _ _) | (with_reducible refine Below.alloc ?_ (by first | omega | (simp; omega)) _) | (with_reducible refine Below.drewN ?_ _) | (with_reducible refine Below.drew ?_) | (with_reducible refine Below.setCell ?_ (by first | omega | (simp; omega)) _) | (with_reducible refine Below.trans ?_ (by assumption))))))).tab).mono ?_); rintro e' w5 ⟨rfl, rfl⟩)
            | (go_at_call 126; (with_reducible refine (sign_any x.op _ (LB.laid (hLr.b (by (repeat (first | (with_reducible exact Below.refl _ _) | (with_reducible refine Below.alloc ?_ (by first | omega | (simp; omega)) _) | (with_reducible refine Below.drewN ?_ _) | (with_reducible refine Below.drew ?_) | (with_reducible refine Below.setCell ?_ (by first | omega | (simp; omega)) _) | (with_reducible refine Below.trans ?_ (by assumption))))))).tab).mono ?_); rintro e' w6 ⟨rfl, rfl⟩)
            | (go_at_call 75; go_loud ((with_reducible refine (write_sp B b (l ++ twoT F0 F1 (x.ks.take i)) x.op _ (by (repeat (first | (with_reducible exact hbr.out) | (with_reducible refine Bld.alloc ?_ _) | (with_reducible refine Bld.drewN ?_ _) | (with_reducible refine Bld.drew ?_)))) hle3 (by first | omega | (simp; omega))).mono ?_); rintro e' w2 ⟨rfl, hb2, hB2, hk2⟩; rw [h1.out] at hb2; have hz2 := hB2.size; (try simp at hz2); have BY2 : Blk w2 wr.heap.size (.int .i64 y.k) (.int .i64 y.op) (.int .i64 y.n) (.string (bstr y.nm)) (.slice py y.ks.length cy) (.int .i64 y.a) := (Blk.new rfl _ _ _ _ _ _).ke hk2; obtain ⟨bly, c0y, c1y, c2y, c3y, c4y, c5y, f0y, f1y, f2y, f3y, f4y, f5y⟩ := (BY2).facts))
            | (go_at_call 125; (with_reducible refine (part_any y (tx y) B b (decide (rnkZ y.op ≤ rnkZ x.op)) py cy (l ++ twoT F0 F1 (x.ks.take i) ++ t1) _ hsy (Lib.hid (by (refine IsEx.ke ?_ hk2; (repeat (first | (with_reducible exact HY.out) | (with_reducible refine IsEx.alloc ?_ _) | (with_reducible refine IsEx.drewN ?_ _) | (with_reducible refine IsEx.drew ?_) | (with_reducible refine IsEx.set ?_ ?_ _ _; rotate_left; first | omega | (simp; done) | (simp; omega)) | (with_reducible refine IsEx.fr ?_ (by assumption) (by omega)) | (with_reducible refine IsEx.stay ?_ (by assumption))))))) (Lib.hid (by (repeat (first | (with_reducible exact hb2) | (with_reducible refine Bld.alloc ?_ _) | (with_reducible refine Bld.drewN ?_ _) | (with_reducible refine Bld.drew ?_))))) (by first | omega | (simp; omega)) (hLr.b (by (repeat (first | (with_reducible exact Below.refl _ _) | (with_reducible refine Below.alloc ?_ (by first | omega | (simp; omega)) _) | (with_reducible refine Below.drewN ?_ _) | (with_reducible refine Below.drew ?_) | (with_reducible refine Below.setCell ?_ (by first | omega | (simp; omega)) _) | (with_reducible refine Below.trans ?_ (by assumption)))))) (hle2 _ hF).2).mono ?_); rintro e' w3 ⟨rfl, hb3, hB3, hk3⟩))
          clear hKw
          exact ⟨⟨i + 1, by simp, by omega, by (repeat (first | (with_reducible exact Below.refl _ _) | (with_reducible refine Below.alloc ?_ (by first | omega | (simp; omega)) _) | (with_reducible refine Below.drewN ?_ _) | (with_reducible refine Below.drew ?_) | (with_reducible refine Below.setCell ?_ (by first | omega | (simp; omega)) _) | (with_reducible refine Below.trans ?_ (by assumption)))), by (repeat (first | (with_reducible exact KeptE.refl _) | (with_reducible refine KeptE.alloc ?_ _) | (with_reducible refine KeptE.drewN ?_ _) | (with_reducible refine KeptE.drew ?_) | (with_reducible refine KeptE.set ?_ (by first | omega | (simp; omega)) _ _) | (with_reducible refine KeptE.step ?_ (by assumption)))), Lib.hid (by rw [hs0.out, hF]; simpa using hb3)⟩, by simp [intOf]; omega⟩
    · obtain rfl : i = n := by omega
      go_wp2
      go_end0
      exact ⟨rfl, by (have := hbr.out; rwa [← hn.out, List.take_length] at this), by (repeat (first | (with_reducible exact Below.refl _ _) | (with_reducible refine Below.alloc ?_ (by first | omega | (simp; omega)) _) | (with_reducible refine Below.drewN ?_ _) | (with_reducible refine Below.drew ?_) | (with_reducible refine Below.setCell ?_ (by first | omega | (simp; omega)) _) | (with_reducible refine Below.trans ?_ (by assumption)))), by (clear hKr; (repeat (first | (with_reducible exact KeptE.refl _) | (with_reducible refine KeptE.alloc ?_ _) | (with_reducible refine KeptE.drewN ?_ _) | (with_reducible refine KeptE.drew ?_) | (with_reducible refine KeptE.set ?_ (by first | omega | (simp; omega)) _ _) | (with_reducible refine KeptE.step ?_ (by assumption)))))⟩
end Go.Proofs.YtngfbpmabdmkeaaGreatDoor
namespace Go.Proofs.YtngfbpmabdmkeaaGreatDoor
open Go Go.RowKit

/-- All numbers in an expression are of 64 bits. -/
inductive Nums : Ex → Prop
  | mk {k o n : Int} {nm : List UInt8} {ks : List Ex} {a : Nat} : -9223372036854775808 ≤ n → n ≤ 9223372036854775807 → (∀ y, y ∈ ks → Nums y) → Nums (.mk k o n nm ks a)
theorem Nums.n {x : Ex} (h : Nums x) : -9223372036854775808 ≤ x.n ∧ x.n ≤ 9223372036854775807 := by
  cases h with
  | mk h1 h2 _ => exact ⟨h1, h2⟩
theorem Nums.kid {x y : Ex} (h : Nums x) (hy : y ∈ x.ks) : Nums y := by
  cases h with
  | mk _ _ h3 => exact h3 y hy
theorem Fit.nums {o : Nat} {r : Int} {x : Ex} (h : Fit o r x) : Nums x := by
  induction h with
  | num h1 h2 => exact .mk (by omega) h2 (by simp)
  | tru | fls => exact .mk (by decide) (by decide) (by simp)
  | var => exact .mk (by decide) (by decide) (by simp)
  | elem _ _ _ ih | neg _ _ ih | not _ _ ih => exact .mk (by decide) (by decide) (by simpa using ih)
  | two _ _ _ _ _ ih ih2 => exact .mk (by decide) (by decide) (by simp; exact ⟨ih, ih2⟩)
  | brk _ _ _ _ ih => exact ih
  | call _ _ _ ih => exact .mk (by decide) (by decide) ih

theorem bldAt_stay {B b : Nat} {p : Value} {bs : List Value} {w w' : World} (h : Lib.BuilderAtF 109 5 B b p bs w) (k : Below w.heap.size w w') : Lib.BuilderAtF 109 5 B b p bs w' := by
  have hlt := h.lt
  obtain ⟨hB, v, hb, hown, hne⟩ := h
  exact ⟨hB, v, (k.block b hlt).trans hb, hown.kept (row := none) ⟨k.os, k.tape, k.output, k.size, fun i hi _ => k.block i hi⟩ (by cases hv : v.ownBlock <;> simp), hne⟩
theorem Bld.stay {B b : Nat} {bs : List Value} {w w' : World} (h : Bld B b bs w) (k : Below w.heap.size w w') : Bld B b bs w' :=
  h.imp (fun h => bldAt_stay h k) fun h => bldAt_stay h k

theorem rowK_T (l : List Ex) : rowK (l.map fun y => (y.k, y.op, y.txt)) = rowT Ex.txt l := by
  cases l with
  | nil => rfl
  | cons x r => simp only [List.map_cons, rowK, rowT, List.flatMap_map]
theorem oneK_T (l : List Ex) : oneK (l.map fun y => (y.k, y.op, y.txt)) = l.flatMap fun y => partT (y.k == 6) y.txt := by simp only [oneK, List.flatMap_map]
theorem twoK_T (o : Int) (l : List Ex) : twoK o (l.map fun y => (y.k, y.op, y.txt)) = twoT (fun y => partT ((y.k == 6) && decide (rnkZ y.op < rnkZ o)) y.txt) (fun y => opT o ++ partT ((y.k == 6) && decide (rnkZ y.op ≤ rnkZ o)) y.txt) l := by
  cases l with
  | nil => rfl
  | cons x r => simp only [List.map_cons, twoK, twoT, List.flatMap_map]
theorem txt0 {x : Ex} (h : x.k = 0) : x.txt = Lib.itoa x.n := by rw [txt_parts, h]; rfl
theorem txt1 {x : Ex} (h : x.k = 1) : x.txt = if x.n = 0 then flsB else truB := by rw [txt_parts, h]; rfl
theorem txt2 {x : Ex} (h : x.k = 2) : x.txt = x.nm := by rw [txt_parts, h]; rfl
theorem txt3 {x : Ex} (h : x.k = 3) : x.txt = x.nm ++ [91] ++ rowT Ex.txt x.ks ++ [93] := by
  rw [txt_parts, h, ← rowK_T]
  show x.nm ++ 91 :: (_ ++ [93]) = _
  simp
theorem txt7 {x : Ex} (h : x.k = 7) : x.txt = x.nm ++ [40] ++ rowT Ex.txt x.ks ++ [41] := by
  rw [txt_parts, h, ← rowK_T]
  show x.nm ++ 40 :: (_ ++ [41]) = _
  simp
theorem txt4 {x : Ex} (h : x.k = 4) : x.txt = 45 :: x.ks.flatMap fun y => partT (y.k == 6) y.txt := by rw [txt_parts, h, ← oneK_T]; rfl
theorem txt5 {x : Ex} (h : x.k = 5) : x.txt = 33 :: x.ks.flatMap fun y => partT (y.k == 6) y.txt := by rw [txt_parts, h, ← oneK_T]; rfl
theorem txt6 {x : Ex} (h : x.k = 6) : x.txt = twoT (fun y => partT ((y.k == 6) && decide (rnkZ y.op < rnkZ x.op)) y.txt) (fun y => opT x.op ++ partT ((y.k == 6) && decide (rnkZ y.op ≤ rnkZ x.op)) y.txt) x.ks := by rw [txt_parts, h, ← twoK_T]; rfl
theorem txtN {x : Ex} (h : x.k ≠ 0 ∧ x.k ≠ 1 ∧ x.k ≠ 2 ∧ x.k ≠ 3 ∧ x.k ≠ 7 ∧ x.k ≠ 4 ∧ x.k ≠ 5 ∧ x.k ≠ 6) : x.txt = [] := by
  rw [txt_parts]
  unfold txtOf
  rw [if_neg h.1, if_neg h.2.1, if_neg h.2.2.1, if_neg h.2.2.2.1, if_neg h.2.2.2.2.1, if_neg h.2.2.2.2.2.1, if_neg h.2.2.2.2.2.2.1, if_neg h.2.2.2.2.2.2.2]
theorem sgn_short (o : Int) : (sgnZ o).size ≤ 2 := by
  unfold sgnZ
  split
  · rename_i h
    obtain ⟨n, rfl⟩ := Int.eq_ofNat_of_zero_le h.1
    have hn : n < 19 := by omega
    have : ∀ n : Nat, n < 19 → (sgn n).size ≤ 2 := by decide
    exact this n hn
  · decide

theorem truth_any (n : Int) (w : World) : Calls Tryz.prog 77 #[.int .i64 n] w fun e w' => e = .returned (.string (bstr (if n = 0 then flsB else truB))) ∧ w' = w := by
  by_cases h : n = 0
  · have hb : (n == 0) = true := by simpa using h
    rw [if_pos h]
    clear h
    go_enter Tryz.func77, Tryz.ntmps77
    go_wp2
    go_ret
    exact ⟨rfl, rfl⟩
  · have hb : (n == 0) = false := by simpa using h
    rw [if_neg h]
    clear h
    go_enter Tryz.func77, Tryz.ntmps77
    go_wp2
    go_ret
    exact ⟨rfl, rfl⟩

theorem bld_new (w : World) (B : Nat) (hB : B = w.heap.size) : Bld B B (Lib.byteCells []) (w.alloc (.cells #[.pointer none, .slice none 0 0] 109)) := by
  subst hB
  exact Lib.IsBuilderF.of (Lib.fresh_isBuilder _ _ w)

/-- What is owed of all that is smaller. -/
def ShowGoal (N : Nat) : Prop := ∀ x : Ex, x.cnt < N → x.cnt < 1000000000 → Nums x → ∀ B b, Shows x x.txt B b

set_option maxRecDepth 100000 in
set_option maxHeartbeats 4000000 in
theorem show_0 (N : Nat) (IH : Hid (ShowGoal N)) (x : Ex) (hN : x.cnt < N + 1) (h9 : x.cnt < 1000000000) (hnum : Hid (Nums x)) (B b : Nat) (hk : x.k = 0) : Shows x x.txt B b := by
  intro p c l w hx hb hB hL hl
  rw [txt0 hk] at hl ⊢
  have h0 : (x.k == 0) = true := by (rw [hk]; rfl)
  clear hk
  have HL := Lib.hid hl
  have HX := Lib.hid hx
  replace hb := Lib.hid hb
  obtain ⟨g0, g1⟩ := hnum.out.n
  have G0 := Lib.hid g0
  have G1 := Lib.hid g1
  have hd : Hid ((dig x.n).data.toList = Lib.itoa x.n) := Lib.hid rfl
  clear hx hl g0 g1 IH
  go_enter Tryz.func49, Tryz.ntmps49
  go_wp2_with (first
    | (go_at_call 76; (with_reducible refine (digits_any x.n _ (Lib.hid (LB.laid (hL.b (by (repeat (first | (with_reducible exact Below.refl _ _) | (with_reducible refine Below.alloc ?_ (by first | omega | (simp; omega)) _) | (with_reducible refine Below.drewN ?_ _) | (with_reducible refine Below.drew ?_) | (with_reducible refine Below.setCell ?_ (by first | omega | (simp; omega)) _) | (with_reducible refine Below.trans ?_ (by assumption)))))))) G0.out G1.out).mono ?_); rintro e' w1 ⟨rfl, hb1⟩; have hz1 := hb1.size; (try simp at hz1); have HB1 := Lib.hid ((hb.out.alloc _).stay hb1); have hB1 : Below B w w1 := ((Below.refl B w).alloc hB _).trans (hb1.mono (by simp; omega)); have hK1 : KeptE w w1 := ((KeptE.refl w).alloc _).below hb1; clear hb1)
    | (go_at_call 75; (with_reducible refine (write_txt B b l (dig x.n) _ (by (repeat (first | (with_reducible exact HB1.out) | (with_reducible refine Bld.alloc ?_ _) | (with_reducible refine Bld.drewN ?_ _) | (with_reducible refine Bld.drew ?_)))) (by rw [hd.out]; exact HL.out) (by first | omega | (simp; omega))).mono ?_); rintro e' w2 ⟨rfl, hb2, hB2, hk2⟩))
  go_end0
  exact ⟨rfl, by rw [← hd.out]; exact hb2, by (repeat (first | (with_reducible exact Below.refl _ _) | (with_reducible refine Below.alloc ?_ (by first | omega | (simp; omega)) _) | (with_reducible refine Below.drewN ?_ _) | (with_reducible refine Below.drew ?_) | (with_reducible refine Below.setCell ?_ (by first | omega | (simp; omega)) _) | (with_reducible refine Below.trans ?_ (by assumption)))), by (repeat (first | (with_reducible exact KeptE.refl _) | (with_reducible refine KeptE.alloc ?_ _) | (with_reducible refine KeptE.drewN ?_ _) | (with_reducible refine KeptE.drew ?_) | (with_reducible refine KeptE.set ?_ (by first | omega | (simp; omega)) _ _) | (with_reducible refine KeptE.step ?_ (by assumption))))⟩

set_option maxRecDepth 100000 in
set_option maxHeartbeats 4000000 in
theorem show_1 (N : Nat) (IH : Hid (ShowGoal N)) (x : Ex) (hN : x.cnt < N + 1) (h9 : x.cnt < 1000000000) (hnum : Hid (Nums x)) (B b : Nat) (hk : x.k = 1) : Shows x x.txt B b := by
  intro p c l w hx hb hB hL hl
  rw [txt1 hk] at hl ⊢
  have h0 : (x.k == 0) = false := by (rw [hk]; rfl)
  have h1 : (x.k == 1) = true := by (rw [hk]; rfl)
  clear hk
  obtain ⟨T, hT⟩ : ∃ T, T = if x.n = 0 then flsB else truB := ⟨_, rfl⟩
  rw [← hT] at hl ⊢
  have HT := Lib.hid hT
  have HL := Lib.hid hl
  have HX := Lib.hid hx
  replace hb := Lib.hid hb
  have ht : ∀ W, Calls Tryz.prog 77 #[.int .i64 x.n] W fun e w' => e = .returned (.string (bstr T)) ∧ w' = W := fun W => by rw [hT]; exact truth_any x.n W
  have HC := Lib.hid ht
  have hd : Hid ((bstr T).data.toList = T) := Lib.hid rfl
  clear hx hl IH hT ht
  go_enter Tryz.func49, Tryz.ntmps49
  go_wp2_with (first
    | (go_at_call 77; (with_reducible refine (HC.out _).mono ?_); rintro e' w1 ⟨rfl, rfl⟩)
    | (go_at_call 75; (with_reducible refine (write_txt B b l (bstr T) _ (by (repeat (first | (with_reducible exact hb.out) | (with_reducible refine Bld.alloc ?_ _) | (with_reducible refine Bld.drewN ?_ _) | (with_reducible refine Bld.drew ?_)))) (by rw [hd.out]; exact HL.out) (by first | omega | (simp; omega))).mono ?_); rintro e' w2 ⟨rfl, hb2, hB2, hk2⟩))
  go_end0
  exact ⟨rfl, by (rw [hd.out] at hb2; exact hb2), by (repeat (first | (with_reducible exact Below.refl _ _) | (with_reducible refine Below.alloc ?_ (by first | omega | (simp; omega)) _) | (with_reducible refine Below.drewN ?_ _) | (with_reducible refine Below.drew ?_) | (with_reducible refine Below.setCell ?_ (by first | omega | (simp; omega)) _) | (with_reducible refine Below.trans ?_ (by assumption)))), by (repeat (first | (with_reducible exact KeptE.refl _) | (with_reducible refine KeptE.alloc ?_ _) | (with_reducible refine KeptE.drewN ?_ _) | (with_reducible refine KeptE.drew ?_) | (with_reducible refine KeptE.set ?_ (by first | omega | (simp; omega)) _ _) | (with_reducible refine KeptE.step ?_ (by assumption))))⟩

set_option maxRecDepth 100000 in
set_option maxHeartbeats 4000000 in
theorem show_2 (N : Nat) (IH : Hid (ShowGoal N)) (x : Ex) (hN : x.cnt < N + 1) (h9 : x.cnt < 1000000000) (hnum : Hid (Nums x)) (B b : Nat) (hk : x.k = 2) : Shows x x.txt B b := by
  intro p c l w hx hb hB hL hl
  rw [txt2 hk] at hl ⊢
  have h0 : (x.k == 0) = false := by (rw [hk]; rfl)
  have h1 : (x.k == 1) = false := by (rw [hk]; rfl)
  have h2 : (x.k == 2) = true := by (rw [hk]; rfl)
  clear hk
  have HL := Lib.hid hl
  have HX := Lib.hid hx
  replace hb := Lib.hid hb
  have hd : Hid ((bstr x.nm).data.toList = x.nm) := Lib.hid rfl
  clear hx hl IH
  go_enter Tryz.func49, Tryz.ntmps49
  go_wp2_with (go_at_call 75; (with_reducible refine (write_txt B b l (bstr x.nm) _ (by (repeat (first | (with_reducible exact hb.out) | (with_reducible refine Bld.alloc ?_ _) | (with_reducible refine Bld.drewN ?_ _) | (with_reducible refine Bld.drew ?_)))) (by rw [hd.out]; exact HL.out) (by first | omega | (simp; omega))).mono ?_); rintro e' w2 ⟨rfl, hb2, hB2, hk2⟩)
  go_end0
  exact ⟨rfl, by (rw [hd.out] at hb2; exact hb2), by (repeat (first | (with_reducible exact Below.refl _ _) | (with_reducible refine Below.alloc ?_ (by first | omega | (simp; omega)) _) | (with_reducible refine Below.drewN ?_ _) | (with_reducible refine Below.drew ?_) | (with_reducible refine Below.setCell ?_ (by first | omega | (simp; omega)) _) | (with_reducible refine Below.trans ?_ (by assumption)))), by (repeat (first | (with_reducible exact KeptE.refl _) | (with_reducible refine KeptE.alloc ?_ _) | (with_reducible refine KeptE.drewN ?_ _) | (with_reducible refine KeptE.drew ?_) | (with_reducible refine KeptE.set ?_ (by first | omega | (simp; omega)) _ _) | (with_reducible refine KeptE.step ?_ (by assumption))))⟩

set_option maxRecDepth 100000 in
set_option maxHeartbeats 4000000 in
theorem show_3 (N : Nat) (IH : Hid (ShowGoal N)) (x : Ex) (hN : x.cnt < N + 1) (h9 : x.cnt < 1000000000) (hnum : Hid (Nums x)) (B b : Nat) (hk : x.k = 3) : Shows x x.txt B b := by
  intro p c l w hx hb hB hL hl
  rw [txt3 hk] at hl ⊢
  have h0 : (x.k == 0) = false := by (rw [hk]; rfl)
  have h1 : (x.k == 1) = false := by (rw [hk]; rfl)
  have h2 : (x.k == 2) = false := by (rw [hk]; rfl)
  have h3 : (x.k == 3) = true := by (rw [hk]; rfl)
  clear hk
  have hkn := ks_lt x
  have hn9 : x.ks.length < 1000000000 := by omega
  have hS : Hid (∀ y ∈ x.ks, Shows y y.txt B b) := Lib.hid fun y hy => by
    have h1 := cntL_mem hy
    have h2 : x.cnt = 1 + Ex.cntL x.ks := by cases x; simp only [Ex.cnt, Ex.ks]
    exact IH.out y (by omega) (by omega) (hnum.out.kid hy) B b
  obtain ⟨n, hn'⟩ : ∃ n, n = x.ks.length := ⟨_, rfl⟩
  rw [← hn'] at hx hn9 ⊢
  have hn : Hid (x.ks.length = n) := Lib.hid hn'.symm
  have HX := Lib.hid hx
  replace hb := Lib.hid hb
  have h1 : Hid ((bstr x.nm ++ ⟨#[91]⟩).data.toList = x.nm ++ [91]) := Lib.hid (by simp [bstr])
  have h2 : Hid ((⟨#[93]⟩ : ByteArray).data.toList = [93]) := Lib.hid rfl
  have HL : Hid (l.length + (x.nm ++ [91]).length + (rowT Ex.txt x.ks).length + ([93] : List UInt8).length ≤ 140737488355328) := Lib.hid (by simp only [List.length_append] at hl ⊢; omega)
  clear hx hl IH hn' hkn
  go_enter Tryz.func49, Tryz.ntmps49
  go_wp2_with (go_at_call 78; (with_reducible refine (row_any x Ex.txt ⟨#[91]⟩ ⟨#[93]⟩ B b n p c l _ hn hn9 hS (Lib.hid (by (repeat (first | (with_reducible exact HX.out) | (with_reducible refine IsEx.alloc ?_ _) | (with_reducible refine IsEx.drewN ?_ _) | (with_reducible refine IsEx.drew ?_) | (with_reducible refine IsEx.set ?_ ?_ _ _; rotate_left; first | omega | (simp; done) | (simp; omega)) | (with_reducible refine IsEx.fr ?_ (by assumption) (by omega)) | (with_reducible refine IsEx.stay ?_ (by assumption)))))) (Lib.hid (by (repeat (first | (with_reducible exact hb.out) | (with_reducible refine Bld.alloc ?_ _) | (with_reducible refine Bld.drewN ?_ _) | (with_reducible refine Bld.drew ?_))))) (by first | omega | (simp; omega)) (hL.b (by (repeat (first | (with_reducible exact Below.refl _ _) | (with_reducible refine Below.alloc ?_ (by first | omega | (simp; omega)) _) | (with_reducible refine Below.drewN ?_ _) | (with_reducible refine Below.drew ?_) | (with_reducible refine Below.setCell ?_ (by first | omega | (simp; omega)) _) | (with_reducible refine Below.trans ?_ (by assumption)))))) _ _ h1 h2 HL.out).mono ?_); rintro e' w2 ⟨rfl, hb2, hB2, hk2⟩)
  go_end0
  exact ⟨rfl, by simpa [List.append_assoc] using hb2, by (repeat (first | (with_reducible exact Below.refl _ _) | (with_reducible refine Below.alloc ?_ (by first | omega | (simp; omega)) _) | (with_reducible refine Below.drewN ?_ _) | (with_reducible refine Below.drew ?_) | (with_reducible refine Below.setCell ?_ (by first | omega | (simp; omega)) _) | (with_reducible refine Below.trans ?_ (by assumption)))), by (repeat (first | (with_reducible exact KeptE.refl _) | (with_reducible refine KeptE.alloc ?_ _) | (with_reducible refine KeptE.drewN ?_ _) | (with_reducible refine KeptE.drew ?_) | (with_reducible refine KeptE.set ?_ (by first | omega | (simp; omega)) _ _) | (with_reducible refine KeptE.step ?_ (by assumption))))⟩

set_option maxRecDepth 100000 in
set_option maxHeartbeats 4000000 in
theorem show_7 (N : Nat) (IH : Hid (ShowGoal N)) (x : Ex) (hN : x.cnt < N + 1) (h9 : x.cnt < 1000000000) (hnum : Hid (Nums x)) (B b : Nat) (hk : x.k = 7) : Shows x x.txt B b := by
  intro p c l w hx hb hB hL hl
  rw [txt7 hk] at hl ⊢
  have h0 : (x.k == 0) = false := by (rw [hk]; rfl)
  have h1 : (x.k == 1) = false := by (rw [hk]; rfl)
  have h2 : (x.k == 2) = false := by (rw [hk]; rfl)
  have h3 : (x.k == 3) = false := by (rw [hk]; rfl)
  have h7 : (x.k == 7) = true := by (rw [hk]; rfl)
  clear hk
  have hkn := ks_lt x
  have hn9 : x.ks.length < 1000000000 := by omega
  have hS : Hid (∀ y ∈ x.ks, Shows y y.txt B b) := Lib.hid fun y hy => by
    have h1 := cntL_mem hy
    have h2 : x.cnt = 1 + Ex.cntL x.ks := by cases x; simp only [Ex.cnt, Ex.ks]
    exact IH.out y (by omega) (by omega) (hnum.out.kid hy) B b
  obtain ⟨n, hn'⟩ : ∃ n, n = x.ks.length := ⟨_, rfl⟩
  rw [← hn'] at hx hn9 ⊢
  have hn : Hid (x.ks.length = n) := Lib.hid hn'.symm
  have HX := Lib.hid hx
  replace hb := Lib.hid hb
  have h1 : Hid ((bstr x.nm ++ ⟨#[40]⟩).data.toList = x.nm ++ [40]) := Lib.hid (by simp [bstr])
  have h2 : Hid ((⟨#[41]⟩ : ByteArray).data.toList = [41]) := Lib.hid rfl
  have HL : Hid (l.length + (x.nm ++ [40]).length + (rowT Ex.txt x.ks).length + ([41] : List UInt8).length ≤ 140737488355328) := Lib.hid (by simp only [List.length_append] at hl ⊢; omega)
  clear hx hl IH hn' hkn
  go_enter Tryz.func49, Tryz.ntmps49
  go_wp2_with (go_at_call 78; (with_reducible refine (row_any x Ex.txt ⟨#[40]⟩ ⟨#[41]⟩ B b n p c l _ hn hn9 hS (Lib.hid (by (repeat (first | (with_reducible exact HX.out) | (with_reducible refine IsEx.alloc ?_ _) | (with_reducible refine IsEx.drewN ?_ _) | (with_reducible refine IsEx.drew ?_) | (with_reducible refine IsEx.set ?_ ?_ _ _; rotate_left; first | omega | (simp; done) | (simp; omega)) | (with_reducible refine IsEx.fr ?_ (by assumption) (by omega)) | (with_reducible refine IsEx.stay ?_ (by assumption)))))) (Lib.hid (by (repeat (first | (with_reducible exact hb.out) | (with_reducible refine Bld.alloc ?_ _) | (with_reducible refine Bld.drewN ?_ _) | (with_reducible refine Bld.drew ?_))))) (by first | omega | (simp; omega)) (hL.b (by (repeat (first | (with_reducible exact Below.refl _ _) | (with_reducible refine Below.alloc ?_ (by first | omega | (simp; omega)) _) | (with_reducible refine Below.drewN ?_ _) | (with_reducible refine Below.drew ?_) | (with_reducible refine Below.setCell ?_ (by first | omega | (simp; omega)) _) | (with_reducible refine Below.trans ?_ (by assumption)))))) _ _ h1 h2 HL.out).mono ?_); rintro e' w2 ⟨rfl, hb2, hB2, hk2⟩)
  go_end0
  exact ⟨rfl, by simpa [List.append_assoc] using hb2, by (repeat (first | (with_reducible exact Below.refl _ _) | (with_reducible refine Below.alloc ?_ (by first | omega | (simp; omega)) _) | (with_reducible refine Below.drewN ?_ _) | (with_reducible refine Below.drew ?_) | (with_reducible refine Below.setCell ?_ (by first | omega | (simp; omega)) _) | (with_reducible refine Below.trans ?_ (by assumption)))), by (repeat (first | (with_reducible exact KeptE.refl _) | (with_reducible refine KeptE.alloc ?_ _) | (with_reducible refine KeptE.drewN ?_ _) | (with_reducible refine KeptE.drew ?_) | (with_reducible refine KeptE.set ?_ (by first | omega | (simp; omega)) _ _) | (with_reducible refine KeptE.step ?_ (by assumption))))⟩

set_option maxRecDepth 100000 in
set_option maxHeartbeats 4000000 in
theorem show_4 (N : Nat) (IH : Hid (ShowGoal N)) (x : Ex) (hN : x.cnt < N + 1) (h9 : x.cnt < 1000000000) (hnum : Hid (Nums x)) (B b : Nat) (hk : x.k = 4) : Shows x x.txt B b := by
  intro p c l w hx hb hB hL hl
  rw [txt4 hk] at hl ⊢
  have h0 : (x.k == 0) = false := by (rw [hk]; rfl)
  have h1 : (x.k == 1) = false := by (rw [hk]; rfl)
  have h2 : (x.k == 2) = false := by (rw [hk]; rfl)
  have h3 : (x.k == 3) = false := by (rw [hk]; rfl)
  have h7 : (x.k == 7) = false := by (rw [hk]; rfl)
  have h4 : (x.k == 4) = true := by (rw [hk]; rfl)
  have HS : 45 = if x.k = 4 then (45 : UInt8) else 33 := by (rw [hk]; rfl)
  have HSG := Lib.hid HS
  clear hk HS
  have hkn := ks_lt x
  have hn9 : x.ks.length < 1000000000 := by omega
  have hS : Hid (∀ y ∈ x.ks, Shows y y.txt B b) := Lib.hid fun y hy => by
    have h1 := cntL_mem hy
    have h2 : x.cnt = 1 + Ex.cntL x.ks := by cases x; simp only [Ex.cnt, Ex.ks]
    exact IH.out y (by omega) (by omega) (hnum.out.kid hy) B b
  obtain ⟨n, hn'⟩ : ∃ n, n = x.ks.length := ⟨_, rfl⟩
  rw [← hn'] at hx hn9 ⊢
  have hn : Hid (x.ks.length = n) := Lib.hid hn'.symm
  have HX := Lib.hid hx
  replace hb := Lib.hid hb
  have HL : Hid (l.length + 1 + (x.ks.flatMap fun y => partT (y.k == 6) y.txt).length ≤ 140737488355328) := Lib.hid (by simp only [List.length_cons] at hl; omega)
  clear hx hl IH hn' hkn
  go_enter Tryz.func49, Tryz.ntmps49
  go_wp2_with (go_at_call 79; (with_reducible refine (one_any x Ex.txt B b n p c l _ hn hn9 hS (Lib.hid (by (repeat (first | (with_reducible exact HX.out) | (with_reducible refine IsEx.alloc ?_ _) | (with_reducible refine IsEx.drewN ?_ _) | (with_reducible refine IsEx.drew ?_) | (with_reducible refine IsEx.set ?_ ?_ _ _; rotate_left; first | omega | (simp; done) | (simp; omega)) | (with_reducible refine IsEx.fr ?_ (by assumption) (by omega)) | (with_reducible refine IsEx.stay ?_ (by assumption)))))) (Lib.hid (by (repeat (first | (with_reducible exact hb.out) | (with_reducible refine Bld.alloc ?_ _) | (with_reducible refine Bld.drewN ?_ _) | (with_reducible refine Bld.drew ?_))))) (by first | omega | (simp; omega)) (hL.b (by (repeat (first | (with_reducible exact Below.refl _ _) | (with_reducible refine Below.alloc ?_ (by first | omega | (simp; omega)) _) | (with_reducible refine Below.drewN ?_ _) | (with_reducible refine Below.drew ?_) | (with_reducible refine Below.setCell ?_ (by first | omega | (simp; omega)) _) | (with_reducible refine Below.trans ?_ (by assumption)))))) 45 HSG.out _ (Lib.hid rfl) HL.out).mono ?_); rintro e' w2 ⟨rfl, hb2, hB2, hk2⟩)
  go_end0
  exact ⟨rfl, hb2, by (repeat (first | (with_reducible exact Below.refl _ _) | (with_reducible refine Below.alloc ?_ (by first | omega | (simp; omega)) _) | (with_reducible refine Below.drewN ?_ _) | (with_reducible refine Below.drew ?_) | (with_reducible refine Below.setCell ?_ (by first | omega | (simp; omega)) _) | (with_reducible refine Below.trans ?_ (by assumption)))), by (repeat (first | (with_reducible exact KeptE.refl _) | (with_reducible refine KeptE.alloc ?_ _) | (with_reducible refine KeptE.drewN ?_ _) | (with_reducible refine KeptE.drew ?_) | (with_reducible refine KeptE.set ?_ (by first | omega | (simp; omega)) _ _) | (with_reducible refine KeptE.step ?_ (by assumption))))⟩

set_option maxRecDepth 100000 in
set_option maxHeartbeats 4000000 in
theorem show_5 (N : Nat) (IH : Hid (ShowGoal N)) (x : Ex) (hN : x.cnt < N + 1) (h9 : x.cnt < 1000000000) (hnum : Hid (Nums x)) (B b : Nat) (hk : x.k = 5) : Shows x x.txt B b := by
  intro p c l w hx hb hB hL hl
  rw [txt5 hk] at hl ⊢
  have h0 : (x.k == 0) = false := by (rw [hk]; rfl)
  have h1 : (x.k == 1) = false := by (rw [hk]; rfl)
  have h2 : (x.k == 2) = false := by (rw [hk]; rfl)
  have h3 : (x.k == 3) = false := by (rw [hk]; rfl)
  have h7 : (x.k == 7) = false := by (rw [hk]; rfl)
  have h4 : (x.k == 4) = false := by (rw [hk]; rfl)
  have h5 : (x.k == 5) = true := by (rw [hk]; rfl)
  have HS : 33 = if x.k = 4 then (45 : UInt8) else 33 := by (rw [hk]; rfl)
  have HSG := Lib.hid HS
  clear hk HS
  have hkn := ks_lt x
  have hn9 : x.ks.length < 1000000000 := by omega
  have hS : Hid (∀ y ∈ x.ks, Shows y y.txt B b) := Lib.hid fun y hy => by
    have h1 := cntL_mem hy
    have h2 : x.cnt = 1 + Ex.cntL x.ks := by cases x; simp only [Ex.cnt, Ex.ks]
    exact IH.out y (by omega) (by omega) (hnum.out.kid hy) B b
  obtain ⟨n, hn'⟩ : ∃ n, n = x.ks.length := ⟨_, rfl⟩
  rw [← hn'] at hx hn9 ⊢
  have hn : Hid (x.ks.length = n) := Lib.hid hn'.symm
  have HX := Lib.hid hx
  replace hb := Lib.hid hb
  have HL : Hid (l.length + 1 + (x.ks.flatMap fun y => partT (y.k == 6) y.txt).length ≤ 140737488355328) := Lib.hid (by simp only [List.length_cons] at hl; omega)
  clear hx hl IH hn' hkn
  go_enter Tryz.func49, Tryz.ntmps49
  go_wp2_with (go_at_call 79; (with_reducible refine (one_any x Ex.txt B b n p c l _ hn hn9 hS (Lib.hid (by (repeat (first | (with_reducible exact HX.out) | (with_reducible refine IsEx.alloc ?_ _) | (with_reducible refine IsEx.drewN ?_ _) | (with_reducible refine IsEx.drew ?_) | (with_reducible refine IsEx.set ?_ ?_ _ _; rotate_left; first | omega | (simp; done) | (simp; omega)) | (with_reducible refine IsEx.fr ?_ (by assumption) (by omega)) | (with_reducible refine IsEx.stay ?_ (by assumption)))))) (Lib.hid (by (repeat (first | (with_reducible exact hb.out) | (with_reducible refine Bld.alloc ?_ _) | (with_reducible refine Bld.drewN ?_ _) | (with_reducible refine Bld.drew ?_))))) (by first | omega | (simp; omega)) (hL.b (by (repeat (first | (with_reducible exact Below.refl _ _) | (with_reducible refine Below.alloc ?_ (by first | omega | (simp; omega)) _) | (with_reducible refine Below.drewN ?_ _) | (with_reducible refine Below.drew ?_) | (with_reducible refine Below.setCell ?_ (by first | omega | (simp; omega)) _) | (with_reducible refine Below.trans ?_ (by assumption)))))) 33 HSG.out _ (Lib.hid rfl) HL.out).mono ?_); rintro e' w2 ⟨rfl, hb2, hB2, hk2⟩)
  go_end0
  exact ⟨rfl, hb2, by (repeat (first | (with_reducible exact Below.refl _ _) | (with_reducible refine Below.alloc ?_ (by first | omega | (simp; omega)) _) | (with_reducible refine Below.drewN ?_ _) | (with_reducible refine Below.drew ?_) | (with_reducible refine Below.setCell ?_ (by first | omega | (simp; omega)) _) | (with_reducible refine Below.trans ?_ (by assumption)))), by (repeat (first | (with_reducible exact KeptE.refl _) | (with_reducible refine KeptE.alloc ?_ _) | (with_reducible refine KeptE.drewN ?_ _) | (with_reducible refine KeptE.drew ?_) | (with_reducible refine KeptE.set ?_ (by first | omega | (simp; omega)) _ _) | (with_reducible refine KeptE.step ?_ (by assumption))))⟩

set_option maxRecDepth 100000 in
set_option maxHeartbeats 4000000 in
theorem show_6 (N : Nat) (IH : Hid (ShowGoal N)) (x : Ex) (hN : x.cnt < N + 1) (h9 : x.cnt < 1000000000) (hnum : Hid (Nums x)) (B b : Nat) (hk : x.k = 6) : Shows x x.txt B b := by
  intro p c l w hx hb hB hL hl
  rw [txt6 hk] at hl ⊢
  have h0 : (x.k == 0) = false := by (rw [hk]; rfl)
  have h1 : (x.k == 1) = false := by (rw [hk]; rfl)
  have h2 : (x.k == 2) = false := by (rw [hk]; rfl)
  have h3 : (x.k == 3) = false := by (rw [hk]; rfl)
  have h7 : (x.k == 7) = false := by (rw [hk]; rfl)
  have h4 : (x.k == 4) = false := by (rw [hk]; rfl)
  have h5 : (x.k == 5) = false := by (rw [hk]; rfl)
  have h6 : (x.k == 6) = true := by (rw [hk]; rfl)
  clear hk
  have hkn := ks_lt x
  have hn9 : x.ks.length < 1000000000 := by omega
  have hS : Hid (∀ y ∈ x.ks, Shows y y.txt B b) := Lib.hid fun y hy => by
    have h1 := cntL_mem hy
    have h2 : x.cnt = 1 + Ex.cntL x.ks := by cases x; simp only [Ex.cnt, Ex.ks]
    exact IH.out y (by omega) (by omega) (hnum.out.kid hy) B b
  obtain ⟨n, hn'⟩ : ∃ n, n = x.ks.length := ⟨_, rfl⟩
  rw [← hn'] at hx hn9 ⊢
  have hn : Hid (x.ks.length = n) := Lib.hid hn'.symm
  have HX := Lib.hid hx
  replace hb := Lib.hid hb
  have h1 : Hid (((⟨#[32]⟩ : ByteArray) ++ sgnZ x.op ++ ⟨#[32]⟩).data.toList = opT x.op) := Lib.hid (by simp [opT])
  have HL := Lib.hid hl
  clear hx hl IH hn' hkn
  go_enter Tryz.func49, Tryz.ntmps49
  go_wp2_with (go_at_call 80; (with_reducible refine (two_any x Ex.txt _ _ B b n p c l _ hn hn9 hS (Lib.hid (by (repeat (first | (with_reducible exact HX.out) | (with_reducible refine IsEx.alloc ?_ _) | (with_reducible refine IsEx.drewN ?_ _) | (with_reducible refine IsEx.drew ?_) | (with_reducible refine IsEx.set ?_ ?_ _ _; rotate_left; first | omega | (simp; done) | (simp; omega)) | (with_reducible refine IsEx.fr ?_ (by assumption) (by omega)) | (with_reducible refine IsEx.stay ?_ (by assumption)))))) (Lib.hid (by (repeat (first | (with_reducible exact hb.out) | (with_reducible refine Bld.alloc ?_ _) | (with_reducible refine Bld.drewN ?_ _) | (with_reducible refine Bld.drew ?_))))) (by first | omega | (simp; omega)) (hL.b (by (repeat (first | (with_reducible exact Below.refl _ _) | (with_reducible refine Below.alloc ?_ (by first | omega | (simp; omega)) _) | (with_reducible refine Below.drewN ?_ _) | (with_reducible refine Below.drew ?_) | (with_reducible refine Below.setCell ?_ (by first | omega | (simp; omega)) _) | (with_reducible refine Below.trans ?_ (by assumption)))))) _ h1 (sgn_short _) (Lib.hid rfl) (Lib.hid rfl) HL.out).mono ?_); rintro e' w2 ⟨rfl, hb2, hB2, hk2⟩)
  go_end0
  exact ⟨rfl, hb2, by (repeat (first | (with_reducible exact Below.refl _ _) | (with_reducible refine Below.alloc ?_ (by first | omega | (simp; omega)) _) | (with_reducible refine Below.drewN ?_ _) | (with_reducible refine Below.drew ?_) | (with_reducible refine Below.setCell ?_ (by first | omega | (simp; omega)) _) | (with_reducible refine Below.trans ?_ (by assumption)))), by (repeat (first | (with_reducible exact KeptE.refl _) | (with_reducible refine KeptE.alloc ?_ _) | (with_reducible refine KeptE.drewN ?_ _) | (with_reducible refine KeptE.drew ?_) | (with_reducible refine KeptE.set ?_ (by first | omega | (simp; omega)) _ _) | (with_reducible refine KeptE.step ?_ (by assumption))))⟩

set_option maxRecDepth 100000 in
set_option maxHeartbeats 4000000 in
theorem show_N (N : Nat) (IH : Hid (ShowGoal N)) (x : Ex) (hN : x.cnt < N + 1) (h9 : x.cnt < 1000000000) (hnum : Hid (Nums x)) (B b : Nat) (hk : x.k ≠ 0 ∧ x.k ≠ 1 ∧ x.k ≠ 2 ∧ x.k ≠ 3 ∧ x.k ≠ 7 ∧ x.k ≠ 4 ∧ x.k ≠ 5 ∧ x.k ≠ 6) : Shows x x.txt B b := by
  intro p c l w hx hb hB hL hl
  rw [txtN hk, List.append_nil]
  have h0 : (x.k == 0) = false := by simpa using hk.1
  have h1 : (x.k == 1) = false := by simpa using hk.2.1
  have h2 : (x.k == 2) = false := by simpa using hk.2.2.1
  have h3 : (x.k == 3) = false := by simpa using hk.2.2.2.1
  have h7 : (x.k == 7) = false := by simpa using hk.2.2.2.2.1
  have h4 : (x.k == 4) = false := by simpa using hk.2.2.2.2.2.1
  have h5 : (x.k == 5) = false := by simpa using hk.2.2.2.2.2.2.1
  have h6 : (x.k == 6) = false := by simpa using hk.2.2.2.2.2.2.2
  replace hb := Lib.hid hb
  clear hk hx hl IH
  go_enter Tryz.func49, Tryz.ntmps49
  go_wp2
  go_end0
  exact ⟨rfl, by (repeat (first | (with_reducible exact hb.out) | (with_reducible refine Bld.alloc ?_ _) | (with_reducible refine Bld.drewN ?_ _) | (with_reducible refine Bld.drew ?_))), by (repeat (first | (with_reducible exact Below.refl _ _) | (with_reducible refine Below.alloc ?_ (by first | omega | (simp; omega)) _) | (with_reducible refine Below.drewN ?_ _) | (with_reducible refine Below.drew ?_) | (with_reducible refine Below.setCell ?_ (by first | omega | (simp; omega)) _) | (with_reducible refine Below.trans ?_ (by assumption)))), by (repeat (first | (with_reducible exact KeptE.refl _) | (with_reducible refine KeptE.alloc ?_ _) | (with_reducible refine KeptE.drewN ?_ _) | (with_reducible refine KeptE.drew ?_) | (with_reducible refine KeptE.set ?_ (by first | omega | (simp; omega)) _ _) | (with_reducible refine KeptE.step ?_ (by assumption))))⟩

theorem show_any : ∀ N, ShowGoal N
  | 0 => fun _ h => absurd h (by omega)
  | N + 1 => fun x hN h9 hnum B b => by
    have IH := Lib.hid (show_any N)
    by_cases h0 : x.k = 0
    · exact show_0 N IH x hN h9 (Lib.hid hnum) B b h0
    by_cases h1 : x.k = 1
    · exact show_1 N IH x hN h9 (Lib.hid hnum) B b h1
    by_cases h2 : x.k = 2
    · exact show_2 N IH x hN h9 (Lib.hid hnum) B b h2
    by_cases h3 : x.k = 3
    · exact show_3 N IH x hN h9 (Lib.hid hnum) B b h3
    by_cases h7 : x.k = 7
    · exact show_7 N IH x hN h9 (Lib.hid hnum) B b h7
    by_cases h4 : x.k = 4
    · exact show_4 N IH x hN h9 (Lib.hid hnum) B b h4
    by_cases h5 : x.k = 5
    · exact show_5 N IH x hN h9 (Lib.hid hnum) B b h5
    by_cases h6 : x.k = 6
    · exact show_6 N IH x hN h9 (Lib.hid hnum) B b h6
    exact show_N N IH x hN h9 (Lib.hid hnum) B b ⟨h0, h1, h2, h3, h7, h4, h5, h6⟩

set_option maxRecDepth 100000 in
set_option maxHeartbeats 4000000 in
/-- expr.Show hands back an expression's text. -/
theorem shows_any (x : Ex) (h9 : x.cnt < 1000000000) (hnum : Hid (Nums x)) (p : Option Addr) (c : Nat) (w : World) (hx : Hid (IsEx 0 w x (.slice p x.ks.length c))) (L : Hid (Laid w)) (T : List UInt8) (hT : Hid (T = x.txt)) (hl : Hid (T.length ≤ 1000000000)) :
    Calls Tryz.prog 23 #[.agg #[.int .i64 x.k, .int .i64 x.op, .int .i64 x.n, .string (bstr x.nm), .slice p x.ks.length c, .int .i64 x.a]] w fun e w' => e = .returned (.string (bstr T)) ∧ Below w.heap.size w w' := by
  have hS : ∀ B b, Shows x T B b := by (rw [hT.out]; exact show_any (x.cnt + 1) x (by omega) h9 hnum.out)
  have HS := Lib.hid hS
  clear hS
  go_enter Tryz.func23, Tryz.ntmps23
  have HL1 : Hid (LB (w.heap.size + 1) (w.alloc (.cells #[.int .i64 x.k, .int .i64 x.op, .int .i64 x.n, .string (bstr x.nm), .slice p x.ks.length c, .int .i64 x.a] 25))) := Lib.hid ⟨_, L.out.below ((Below.refl _ _).alloc (Nat.le_refl _) _), by simp, Below.refl _ _⟩
  have hl0 : ([] : List UInt8).length + T.length ≤ 140737488355328 := by (have := hl.out; simp; omega)
  go_wp2_with (first
    | (go_at_call 49; go_loud ((with_reducible refine ((HS.out (w.heap.size + 1) (w.heap.size + 1)) p c [] _ (by (repeat (first | (with_reducible exact hx.out) | (with_reducible refine IsEx.alloc ?_ _) | (with_reducible refine IsEx.drewN ?_ _) | (with_reducible refine IsEx.drew ?_) | (with_reducible refine IsEx.set ?_ ?_ _ _; rotate_left; first | omega | (simp; done) | (simp; omega)) | (with_reducible refine IsEx.fr ?_ (by assumption) (by omega)) | (with_reducible refine IsEx.stay ?_ (by assumption))))) (bld_new _ _ (by simp)) (by simp) (HL1.out.b ((Below.refl _ _).alloc (by simp) _)) hl0).mono ?_); rintro e' w1 ⟨rfl, hb1, hB1, hk1⟩; have hz1 := hB1.size; (try simp at hz1)))
    | (go_at_call 50; (with_reducible refine (Tryz.Builder_String_any_k (w.heap.size + 1) (w.heap.size + 1) T _ (by simpa using hb1) (by omega)).mono ?_); rintro e' w2 ⟨rfl, -, hB2, -⟩; have hz2 := hB2.size))
  go_ret
  have hBa : Below w.heap.size w w1 := (((Below.refl _ w).alloc (Nat.le_refl _) _).alloc (by simp) _).trans (hB1.mono (by omega))
  exact ⟨rfl, hBa.trans (hB2.mono (by omega))⟩
end Go.Proofs.YtngfbpmabdmkeaaGreatDoor
