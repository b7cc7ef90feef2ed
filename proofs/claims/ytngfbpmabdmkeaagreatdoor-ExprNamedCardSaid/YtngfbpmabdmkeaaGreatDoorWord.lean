/- The reader's own state in memory, and its small methods. -/
import Derived.Test.YtngfbpmabdmkeaaGreatDoorFrame
import Derived.Test.YtngfbpmabdmkeaaGreatDoorGram
import Derived.Test.YtngfbpmabdmkeaaGreatDoorWords
import Derived.Deep.QuietTactic
import Derived.BigQuiet
import Derived.RegionTactic
import Derived.BigRegion
import Derived.ChangeAlike
namespace Go.Proofs.YtngfbpmabdmkeaaGreatDoor
open Go Go.RowKit

def bstr (t : List UInt8) : ByteArray := ⟨t.toArray⟩
theorem bstr_eq {a b : List UInt8} : ((bstr a).toList == (bstr b).toList) = decide (a = b) := by
  rw [ByteArray.toList_eq, ByteArray.toList_eq]
  show (a == b) = _
  by_cases h : a = b <;> simp [h]
/-- A reader's own cells: its words, the next one, how many are open, what begins things, the error, and its place. -/
def rdCells (sl mp : Value) (nx op bad at' : Int) : Array Value := #[sl, .int .i64 nx, .int .i64 op, mp, .int .i64 bad, .int .i64 at']
def RdAt (W : World) (rb : Nat) (sl mp : Value) (nx op bad at' : Int) : Prop := W.heap[rb]? = some (.cells (rdCells sl mp nx op bad at') 124 (0, 0))
theorem RdAt.cells {W : World} {rb : Nat} {sl mp : Value} {nx op bad at' : Int} (h : RdAt W rb sl mp nx op bad at') :
    W.cell? ⟨rb, 0, none⟩ = some sl ∧ W.cell? ⟨rb, 1, none⟩ = some (.int .i64 nx) ∧ W.cell? ⟨rb, 2, none⟩ = some (.int .i64 op) ∧ W.cell? ⟨rb, 3, none⟩ = some mp ∧ W.cell? ⟨rb, 4, none⟩ = some (.int .i64 bad) ∧ W.cell? ⟨rb, 5, none⟩ = some (.int .i64 at') := by
  refine ⟨?_, ?_, ?_, ?_, ?_, ?_⟩ <;> rw [cell_of_row _ _ _ _ _ _ h] <;> rfl
theorem RdAt.lt {W : World} {rb : Nat} {sl mp : Value} {nx op bad at' : Int} (h : RdAt W rb sl mp nx op bad at') : rb < W.heap.size := (Array.getElem?_eq_some_iff.1 h).1
theorem RdAt.frozen {W : World} {rb : Nat} {sl mp : Value} {nx op bad at' : Int} (h : RdAt W rb sl mp nx op bad at') (o : Nat) : W.frozen? ⟨rb, o, none⟩ = false := frozen_of_row W rb o _ _ h
theorem RdAt.kept {W X : World} {rb : Nat} {sl mp : Value} {nx op bad at' : Int} (h : RdAt W rb sl mp nx op bad at') (hb : Below W.heap.size W X) : RdAt X rb sl mp nx op bad at' := (hb.block rb h.lt).trans h
theorem RdAt.set1 {W : World} {rb : Nat} {sl mp : Value} {nx op bad at' : Int} (h : RdAt W rb sl mp nx op bad at') (v : Int) : RdAt (W.setCell ⟨rb, 1, none⟩ (.int .i64 v)) rb sl mp v op bad at' := heap_setCell_same W rb 1 _ _ _ h
theorem RdAt.set2 {W : World} {rb : Nat} {sl mp : Value} {nx op bad at' : Int} (h : RdAt W rb sl mp nx op bad at') (v : Int) : RdAt (W.setCell ⟨rb, 2, none⟩ (.int .i64 v)) rb sl mp nx v bad at' := heap_setCell_same W rb 2 _ _ _ h
theorem RdAt.set4 {W : World} {rb : Nat} {sl mp : Value} {nx op bad at' : Int} (h : RdAt W rb sl mp nx op bad at') (v : Int) : RdAt (W.setCell ⟨rb, 4, none⟩ (.int .i64 v)) rb sl mp nx op v at' := heap_setCell_same W rb 4 _ _ _ h
theorem RdAt.set5 {W : World} {rb : Nat} {sl mp : Value} {nx op bad at' : Int} (h : RdAt W rb sl mp nx op bad at') (v : Int) : RdAt (W.setCell ⟨rb, 5, none⟩ (.int .i64 v)) rb sl mp nx op bad v := heap_setCell_same W rb 5 _ _ _ h
theorem RdAt.setO {W : World} {rb b : Nat} {sl mp : Value} {nx op bad at' : Int} (h : RdAt W rb sl mp nx op bad at') (hne : rb ≠ b) (o : Nat) (v : Value) : RdAt (W.setCell ⟨b, o, none⟩ v) rb sl mp nx op bad at' := (heap_setCell_other W ⟨b, o, none⟩ rb v hne).trans h
theorem RdAt.alloc {W : World} {rb : Nat} {sl mp : Value} {nx op bad at' : Int} (h : RdAt W rb sl mp nx op bad at') (o : Obj) : RdAt (W.alloc o) rb sl mp nx op bad at' := (Below.heap_alloc W o rb h.lt).trans h
theorem RdAt.drewN {W : World} {rb : Nat} {sl mp : Value} {nx op bad at' : Int} (h : RdAt W rb sl mp nx op bad at') (n : Nat) : RdAt (W.drewN n) rb sl mp nx op bad at' := h
theorem RdAt.drew {W : World} {rb : Nat} {sl mp : Value} {nx op bad at' : Int} (h : RdAt W rb sl mp nx op bad at') : RdAt W.drew rb sl mp nx op bad at' := h

theorem field_a (x0 x1 x2 x3 : Value) (w : World) : (Instr.field 68 (.agg #[x0, x1, x2, x3]) 3).run Tryz.prog w = .ok x3 w := by
  simp [Instr.field, run_underlying Tryz.underlying68, part, asAgg, Tryz.isAgg3]
theorem field_n (x0 x1 x2 x3 : Value) (w : World) : (Instr.field 68 (.agg #[x0, x1, x2, x3]) 2).run Tryz.prog w = .ok x2 w := by
  simp [Instr.field, run_underlying Tryz.underlying68, part, asAgg, Tryz.isAgg2]

/-- A word's value. -/
abbrev wdV (x : Wd) : Value := wordV x.k (bstr x.t) x.n x.a

/-- The words' cells. -/
structure WCells (W : World) (g : Nat) (ws : List Wd) : Prop where
  lt : g < W.heap.size
  at_ : ∀ i x, ws[i]? = some x → W.cell? ⟨g, i * 4, none⟩ = some (.int .i64 x.k) ∧ W.cell? ⟨g, i * 4 + 1, none⟩ = some (.string (bstr x.t)) ∧ W.cell? ⟨g, i * 4 + 2, none⟩ = some (.int .i64 x.n) ∧ W.cell? ⟨g, i * 4 + 3, none⟩ = some (.int .i64 x.a)
theorem WCells.kept {W X : World} {g : Nat} {ws : List Wd} (h : WCells W g ws) (hb : ∀ k, k = g → X.heap[k]? = W.heap[k]?) (hs : W.heap.size ≤ X.heap.size) : WCells X g ws where
  lt := Nat.lt_of_lt_of_le h.lt hs
  at_ i x hx := by
    have hk : ∀ o, X.cell? ⟨g, o, none⟩ = W.cell? ⟨g, o, none⟩ := fun o => World.cell?_of_block (a := ⟨g, o, none⟩) (hb g rfl)
    rw [hk, hk, hk, hk]
    exact h.at_ i x hx

theorem word_walk (rb g i n cap : Nat) (mp : Value) (op bad at' : Int) (k v a : Int) (t : ByteArray) (w : World) (hr : Hid (RdAt w rb (.slice (some ⟨g, 0, none⟩) n cap) mp i op bad at')) (hi : i < n)
    (c0 : w.cell? ⟨g, i * 4, none⟩ = some (.int .i64 k)) (c1 : w.cell? ⟨g, i * 4 + 1, none⟩ = some (.string t)) (c2 : w.cell? ⟨g, i * 4 + 2, none⟩ = some (.int .i64 v)) (c3 : w.cell? ⟨g, i * 4 + 3, none⟩ = some (.int .i64 a)) :
    Calls Tryz.prog 99 #[.pointer (some ⟨rb, 0, none⟩)] w fun e w' => e = .returned (wordV k t v a) ∧ Below w.heap.size w w' := by
  obtain ⟨r0, r1, _, _, _, _⟩ := hr.out.cells
  have hi1 : (i : Int) < n := by omega
  have hi2 : (0 : Int) ≤ i := by omega
  have hrl := block_lt_of_cell r0
  have hgl := block_lt_of_cell c0
  simp only [] at hrl hgl
  have hn1 : rb ≠ w.heap.size := by omega
  have hn2 : g ≠ w.heap.size := by omega
  go_enter Tryz.func99, Tryz.ntmps99
  go_wp2
  go_quiet (fail)
  go_wp2
  go_region
  all_goals go_wp2
  all_goals exact bodyPost_ret (v := wordV k t v a) (by simp [results, Tryz.results99, go_sem]) rfl ⟨rfl, by (refine Fr.below ?_; (repeat (first | (with_reducible exact Fr.refl _ _) | (with_reducible refine Fr.alloc ?_ _) | (with_reducible refine Fr.drewN ?_ _) | (with_reducible refine Fr.drew ?_) | (with_reducible refine Fr.set ?_ ?_ _ _; rotate_left; first | exact .inl rfl | (right; simp; done) | (right; simp; omega) | (right; omega)) | (with_reducible refine Fr.step ?_ (by assumption)) | (with_reducible refine Fr.stepB ?_ (by assumption)))))⟩

/-- What a reader stands on: its row of words, the number of the block of its map, and whether it is at word i. -/
structure Rdr (W : World) (rb g cap mb : Nat) (ws : List Wd) (i : Nat) (x : Wd) (op bad at' : Int) : Prop where
  rd : RdAt W rb (.slice (some ⟨g, 0, none⟩) ws.length cap) (.map (some mb)) i op bad at'
  wc : WCells W g ws
  ne : g ≠ rb
  at_ : ws[i]? = some x
theorem word_any (rb g cap mb : Nat) (ws : List Wd) (i : Nat) (x : Wd) (op bad at' : Int) (w : World) (R : Rdr w rb g cap mb ws i x op bad at') :
    Calls Tryz.prog 99 #[.pointer (some ⟨rb, 0, none⟩)] w fun e w' => e = .returned (.agg #[.int .i64 x.k, .string (bstr x.t), .int .i64 x.n, .int .i64 x.a]) ∧ Below w.heap.size w w' := by
  obtain ⟨h0, h1, h2, h3⟩ := R.wc.at_ i x R.at_
  exact word_walk rb g i ws.length cap _ op bad at' x.k x.n x.a (bstr x.t) w (Lib.hid R.rd) (List.getElem?_eq_some_iff.1 R.at_).1 h0 h1 h2 h3
theorem Rdr.kept {W X : World} {rb g cap mb : Nat} {ws : List Wd} {i : Nat} {x : Wd} {op bad at' : Int} (R : Rdr W rb g cap mb ws i x op bad at') (hb : Below W.heap.size W X) : Rdr X rb g cap mb ws i x op bad at' :=
  ⟨R.rd.kept hb, R.wc.kept (fun k e => hb.block k (by rw [e]; exact R.wc.lt)) hb.size, R.ne, R.at_⟩
theorem Rdr.alloc {W : World} {rb g cap mb : Nat} {ws : List Wd} {i : Nat} {x : Wd} {op bad at' : Int} (R : Rdr W rb g cap mb ws i x op bad at') (o : Obj) : Rdr (W.alloc o) rb g cap mb ws i x op bad at' :=
  R.kept ((Below.refl _ _).alloc (Nat.le_refl _) _)

/-- Is the word a sign. -/
theorem is_any (rb g cap mb : Nat) (ws : List Wd) (i : Nat) (x : Wd) (op bad at' : Int) (t : List UInt8) (w : World) (R : Hid (Rdr w rb g cap mb ws i x op bad at')) (b : Bool) (hb : Hid (b = true ↔ Sg x t)) :
    Calls Tryz.prog 132 #[.pointer (some ⟨rb, 0, none⟩), .string (bstr t)] w fun e w' => e = .returned (.bool b) ∧ Below w.heap.size w w' := by
  by_cases hk : x.k = 2
  · have hk' : (x.k == 2) = true := by simp [hk]
    have hbb : ((bstr x.t).toList == (bstr t).toList) = b := by
      rw [bstr_eq, Bool.eq_iff_iff, hb.out]
      simp [Sg, hk]
    have HB := Lib.hid hbb
    clear hk hbb
    go_enter Tryz.func132, Tryz.ntmps132
    go_wp2_with (go_at_call 99; (with_reducible refine (word_any rb g cap mb ws i x op bad at' _ R.out).mono ?_); rintro e' w1 ⟨rfl, hb1⟩)
    go_ret
    exact ⟨by first | rfl | (rw [HB.out]; rfl), by (refine Fr.below ?_; (repeat (first | (with_reducible exact Fr.refl _ _) | (with_reducible refine Fr.alloc ?_ _) | (with_reducible refine Fr.drewN ?_ _) | (with_reducible refine Fr.drew ?_) | (with_reducible refine Fr.set ?_ ?_ _ _; rotate_left; first | exact .inl rfl | (right; simp; done) | (right; simp; omega) | (right; omega)) | (with_reducible refine Fr.step ?_ (by assumption)) | (with_reducible refine Fr.stepB ?_ (by assumption)))))⟩
  · have hk' : (x.k == 2) = false := by simp [hk]
    have hbb : b = false := by
      cases b
      · rfl
      · exact absurd (hb.out.1 rfl).1 hk
    subst hbb
    clear hk
    go_enter Tryz.func132, Tryz.ntmps132
    go_wp2_with (go_at_call 99; (with_reducible refine (word_any rb g cap mb ws i x op bad at' _ R.out).mono ?_); rintro e' w1 ⟨rfl, hb1⟩)
    go_ret
    exact ⟨rfl, by (refine Fr.below ?_; (repeat (first | (with_reducible exact Fr.refl _ _) | (with_reducible refine Fr.alloc ?_ _) | (with_reducible refine Fr.drewN ?_ _) | (with_reducible refine Fr.drew ?_) | (with_reducible refine Fr.set ?_ ?_ _ _; rotate_left; first | exact .inl rfl | (right; simp; done) | (right; simp; omega) | (right; omega)) | (with_reducible refine Fr.step ?_ (by assumption)) | (with_reducible refine Fr.stepB ?_ (by assumption)))))⟩
theorem is_yes (rb g cap mb : Nat) (ws : List Wd) (i : Nat) (x : Wd) (op bad at' : Int) (t : List UInt8) (w : World) (R : Rdr w rb g cap mb ws i x op bad at') (h : Sg x t) :
    Calls Tryz.prog 132 #[.pointer (some ⟨rb, 0, none⟩), .string (bstr t)] w fun e w' => e = .returned (.bool true) ∧ Below w.heap.size w w' :=
  is_any rb g cap mb ws i x op bad at' t w (Lib.hid R) true (Lib.hid (by simp [h]))
theorem is_no (rb g cap mb : Nat) (ws : List Wd) (i : Nat) (x : Wd) (op bad at' : Int) (t : List UInt8) (w : World) (R : Rdr w rb g cap mb ws i x op bad at') (h : ¬ Sg x t) :
    Calls Tryz.prog 132 #[.pointer (some ⟨rb, 0, none⟩), .string (bstr t)] w fun e w' => e = .returned (.bool false) ∧ Below w.heap.size w w' :=
  is_any rb g cap mb ws i x op bad at' t w (Lib.hid R) false (Lib.hid (by simp [h]))

set_option maxRecDepth 100000 in
/-- What is failed. -/
theorem fail_any (rb g cap mb : Nat) (ws : List Wd) (i : Nat) (x : Wd) (op bad at' e0 : Int) (w : World) (R : Hid (Rdr w rb g cap mb ws i x op bad at')) :
    Calls Tryz.prog 135 #[.pointer (some ⟨rb, 0, none⟩), .int .i64 e0] w fun e w' => e = .returned (.bool false) ∧ RdAt w' rb (.slice (some ⟨g, 0, none⟩) ws.length cap) (.map (some mb)) i op e0 x.a ∧ Fr (some rb) w w' := by
  have hfd := field_a
  go_enter Tryz.func135, Tryz.ntmps135
  go_wp2_with (go_at_call 99; (with_reducible refine (word_any rb g cap mb ws i x op bad at' _ R.out).mono ?_); rintro e' w1 ⟨rfl, hb1⟩; have hR1 := Lib.hid (R.out.rd.kept hb1); have hl1 := hR1.out.lt; obtain ⟨q0, q1, q2, q3, q4, q5⟩ := hR1.out.cells; have hf4 := hR1.out.frozen 4; have hf5 := hR1.out.frozen 5)
  go_ret
  exact ⟨rfl, ((hR1.out.set4 _).set5 _), by (repeat (first | (with_reducible exact Fr.refl _ _) | (with_reducible refine Fr.alloc ?_ _) | (with_reducible refine Fr.drewN ?_ _) | (with_reducible refine Fr.drew ?_) | (with_reducible refine Fr.set ?_ ?_ _ _; rotate_left; first | exact .inl rfl | (right; simp; done) | (right; simp; omega) | (right; omega)) | (with_reducible refine Fr.step ?_ (by assumption)) | (with_reducible refine Fr.stepB ?_ (by assumption))))⟩
end Go.Proofs.YtngfbpmabdmkeaaGreatDoor
