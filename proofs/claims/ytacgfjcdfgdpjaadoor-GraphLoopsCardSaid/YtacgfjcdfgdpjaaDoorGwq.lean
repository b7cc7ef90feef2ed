/- The ways of any code, once more: they are as the counting wants them; graph's Preds. -/
import Derived.Test.YtacgfjcdfgdpjaaDoorGns
import Derived.Test.YtacgfjcdfgdpjaaDoorGrw
namespace Go.Proofs.YtacgfjcdfgdpjaaDoor
set_option linter.unusedSimpArgs false
set_option linter.unusedVariables false
open Go Go.RowKit Gm

def WaysQ (W : World) (c : List Ic) (e : Ending) (w' : World) : Prop := ∃ own d y, e = .returned (.pointer (some ⟨d.a, 0, none⟩)) ∧ Ws w' own W.heap.size d y y.m y.m y.m ∧ y.n = c.length ∧ Nums c y ∧ Sok y ∧ Below W.heap.size W w'
theorem ways_q {W : World} {c : List Ic} (p : Option Addr) (cap : Nat) (hn : c.length ≤ 1000000) (hc : Hid (CodeAt W p c)) (T : Hid (Kinds W)) : Calls Tryd.prog 21 #[.slice p c.length cap] W (WaysQ W c) := by
  refine (ways_any p cap hn hc T).mono ?_
  rintro e w' ⟨own, d, y, rfl, hw, hyn, hm0, hwf, hb⟩
  by_cases h : c = []
  · have hm := hm0 h
    have hn0 : y.n = 0 := by rw [hyn, h]; rfl
    refine ⟨own, d, { y with num := fun _ => none }, rfl, ?_, hyn, ⟨fun _ => hm, fun e => absurd h e⟩, sok_nil hn0 hm fun _ => rfl, hb⟩
    exact ⟨hw.blk, hw.num.to fun i hi => by omega, hw.pla, hw.fro, hw.tor, hw.row, hw.aB, hw.nB, hw.ta, hw.t1, hw.t2, hw.t3, hw.t4, hw.t7⟩
  · exact ⟨own, d, y, rfl, hw, hyn, ⟨hm0, hwf⟩, (hwf h).nb.sok, hb⟩
theorem Nums.wf {c : List Ic} {y : Wm} (h : Nums c y) (hm : 0 < y.m) : Wf c y := h.2 fun e => by have := h.1 e; omega
/-- A row of numbers, as rows has them. -/
def RI (len : Nat → Nat) (F : Nat → Nat → Value) (i B : Nat) (X : World) (v : Value) : Prop := GV 3 B X v (len i) (F i)
theorem keeps_ri (len : Nat → Nat) (F : Nat → Nat → Value) : Keeps (RI len F) := fun _ _ _ _ _ h hc => GV.ch h hc fun g e e2 => by have := (GV.lt h g e).1; omega
/-- A row of truths, as rows has them. -/
def RB (n : Nat) (T : Nat → Nat → Prop) (i B : Nat) (X : World) (v : Value) : Prop := ∃ q g, v = .slice (some ⟨q, 0, none⟩) n n ∧ B ≤ q ∧ FV 4 X q n (bv g) ∧ ∀ j, g j = true ↔ T i j
theorem keeps_rb (n : Nat) (T : Nat → Nat → Prop) : Keeps (RB n T) := fun _ _ _ _ _ h hc => by
  obtain ⟨q, g, e, hq, hf, ht⟩ := h
  exact ⟨q, g, e, hq, hf.ch hc (by omega), ht⟩
/-- What Preds gives. -/
def PredsP (W : World) (c : List Ic) (e : Ending) (w' : World) : Prop := ∃ y, y.n = c.length ∧ Nums c y ∧ Sok y ∧ RowsP 34 (RI (fun t => (y.src t).length) fun t => lv (y.src t)) W c.length e w'
theorem RowsP.from {T : TypeId} {R : Nat → Nat → World → Value → Prop} {V W X : World} {m : Nat} {e : Ending} (h : RowsP T R W m e X) (hb : Below V.heap.size V W) : RowsP T R V m e X := by
  obtain ⟨b, S, h1, h2, h3, h4, h5⟩ := h
  exact ⟨b, S, h1, h2, h3, Nat.le_trans hb.size h4, hb.trans (h5.mono hb.size)⟩
set_option maxRecDepth 100000 in
set_option maxHeartbeats 4000000 in
theorem preds_any {W : World} {p : Option Addr} {cap : Nat} {c : List Ic} (hn : c.length ≤ 1000000) (hc : Hid (CodeAt W p c)) (T : Hid (Kinds W)) : Calls Tryd.prog 12 #[.slice p c.length cap] W (PredsP W c) := by
  have hst : ∀ (w : World) (a : Addr) (fn : Fn) (f c : Array Value), (store a (.func fn f c)).run Tryd.prog w = stored Tryd.prog w a (.func fn f c) .plain := fun w a fn f c => run_store Tryd.prog w a _ _ rfl
  go_enter Tryd.func12, Tryd.ntmps12
  go_upto_region 2 with (first
    | (go_at_call 21; ((with_reducible refine (ways_q p cap hn hc T).mono ?_); rintro e1 w1 ⟨own, d, y, rfl, hw, hyn, hnu, hso, hb⟩; have HW := Lib.hid hw; have HN := Lib.hid (And.intro hyn hnu); have HS := Lib.hid hso; have HB := Lib.hid hb; have hy6 : y.n ≤ 1000000 := (by omega); clear hw hnu hso hb))
    | (go_at_call 23; ((with_reducible refine (sources_any HW HS hy6).mono ?_); rintro e2 w2 ⟨ba, bf, b9, b3, rfl, hs3, hb3, g1, g2, g3, g4⟩; have H2 := Lib.hid (And.intro hs3 hb3); clear hs3 hb3 g1 g2 g3 g4)))
  refine name_world ?_
  intro V hV
  obtain ⟨f, hf⟩ : ∃ f, w2.heap.size = f := ⟨_, rfl⟩
  have HV : Hid (Below w2.heap.size w2 V ∧ V.cell? ⟨f, 0, none⟩ = some (.func (.func 39) #[] #[.pointer (some ⟨b9, 0, none⟩), .pointer (some ⟨b3, 0, none⟩)]) ∧ f < V.heap.size) := Lib.hid (by
    rw [hV, ← hf]
    refine ⟨below1 _ _, ?_, by simp⟩
    rw [cell_of_row _ _ _ _ _ _ (heap_alloc_new w2 _)]
    rfl)
  try rw [hf]
  have HR : Hid (∀ i : Nat, i < c.length → ∀ X, Below V.heap.size V X → Calls Tryd.prog 25 #[.int .i64 i, .pointer (some ⟨f, 0, none⟩)] X (RowQ (RI (fun t => (y.src t).length) fun t => lv (y.src t)) i X)) := Lib.hid fun i hi X hX => by
    refine (preds1_any (Lib.hid ((H2.out.1.stay HV.out.1).stay hX)) ((hX.cell (p := ⟨f, 0, none⟩) HV.out.2.2).trans HV.out.2.1) (by have := HN.out.1; omega) (by have := HN.out.1; omega)).mono ?_
    rintro e w' ⟨v, rfl, hg, hb⟩
    obtain ⟨q, cq, rfl, -⟩ := hg.open
    exact ⟨q, _, cq, rfl, hg, hb⟩
  clear hV hf
  go_wp2_with (go_at_call 24; ((with_reducible refine (rowsP_any hn (Lib.hid (keeps_ri _ _)) HR).mono ?_); rintro e3 w3 h3; obtain ⟨b, S, rfl, h4⟩ := h3; have H3 := Lib.hid h4; clear h4))
  go_ret
  exact ⟨y, HN.out.1, HN.out.2, HS.out, RowsP.from ⟨b, S, rfl, H3.out⟩ (HB.out.trans ((H2.out.2.trans (HV.out.1.mono H2.out.2.size)).mono HB.out.size))⟩
end Go.Proofs.YtacgfjcdfgdpjaaDoor
