/- Joined texts: Par4 Gr Pp Pms Aw5 Facts Ge Fw Pg2 AwA Aw Tab TabM TabL Pall Say OrdL Laid: lemmas for the law; each says its own conditions. -/
import Derived.Test.YtkhbbapocamlmaaDoorQ10
import Derived.Test.YtkhbbapocamlmaaDoorQ11
import Derived.Test.YtkhbbapocamlmaaDoorQ02
import Derived.Test.YtkhbbapocamlmaaDoorQ08
import Derived.Test.YtkhbbapocamlmaaDoorQ07
import Derived.Laws.AppendOwn
import Derived.Laws.AppendOwnNone
import Derived.Test.YtkhbbapocamlmaaDoorQ01
import Derived.Test.YtkhbbapocamlmaaDoorRows
import Derived.ProofKit
import Derived.LaidMore
import Derived.OpenShut
import Derived.Stop.Joined
import Derived.Stop.LaidErr
import Derived.LaidLaws
set_option linter.unusedSimpArgs false
set_option linter.unusedVariables false
namespace Go.Proofs.YtkhbbapocamlmaaDoor
open Go Go.RowKit

theorem own_wcellsR {w : World} {B g cap n : Nat} {Wf : List Wd} (h : w.ownsRow B 57 4 (.slice (some ⟨g, 0, none⟩) n cap) Wf.length (cellsW Wf)) : WCells w g Wf ∧ B ≤ g ∧ n = Wf.length := by
  rcases h.2 with ⟨h1, _⟩ | ⟨g', cap', cur, hv, hB, hg, rest⟩
  · cases h1
  · cases hv
    exact ⟨⟨(Array.getElem?_eq_some_iff.1 hg).1, fun i x hx => row_at h hx⟩, hB, rfl⟩
/-- A word begins with a letter, or it does not, by its kind. -/
theorem Sc.kok {num : List UInt8 → Option Int} {l : List UInt8} {a : Nat} {ws : List Wd} {r : Option (Int × Nat)} (h : Sc num l a ws r) : ∀ w ∈ ws, KOk w := by
  induction h with
  | done a => intro w hw; simp at hw; subst hw; exact ⟨fun h => absurd (show (3 : Int) = 0 from h) (by decide), fun h => absurd (show (3 : Int) = 2 from h) (by decide)⟩
  | bad => intro w hw; simp at hw
  | gap _ _ _ _ _ _ _ _ ih => exact ih
  | word l a n k v ws r hl ht hs ih =>
    intro w hw
    rcases List.mem_cons.1 hw with rfl | hw
    · have hn := tok_word hl ht
      obtain ⟨c, q, rfl⟩ := List.exists_cons_of_ne_nil hl
      obtain ⟨m, rfl⟩ : ∃ m, n = m + 1 := ⟨n - 1, by omega⟩
      refine ⟨fun hk => ⟨c, q.take m, rfl, ?_⟩, fun hk => ⟨c, q.take m, rfl, ?_⟩⟩
      · obtain rfl : k = 0 := hk
        simp only [tok] at ht
        repeat' split at ht
        all_goals first
          | assumption
          | (cases ht; done)
      · obtain rfl : k = 2 := hk
        simp only [tok] at ht
        repeat' split at ht
        all_goals first
          | (rename_i h1 h2 h3 h4 h5; simpa using h3)
          | (cases ht; done)
          | simp_all
    · exact ih w hw
/-- What the words of a text come to as a program. -/
noncomputable def parF (ws : List Wd) : Pg × RS := wholeF (3 * ws.length + 2) (ws.length + 1) ⟨[], [], [], []⟩ (.ok ws)
/-- How the reading of a program ends. -/
def ParEnd (B : Nat) (q : Pg × RS) (e : Ending) (w' : World) : Prop := ∃ v0 v1 v2 v3 c a, e = .returned (.tuple #[.agg #[v0, v1, v2, v3], .int .i64 c, .int .i64 a]) ∧
  (∀ t, q.2 = .ok t → c = 0 ∧ a = 0 ∧ ∃ rf rt, PRows B w' q.1 v0 v1 v2 v3 rf rt) ∧ (∀ c' a', q.2 = .bad c' a' → c = c' ∧ a = (a' : Int) ∧ c ≠ 0 ∧ v0 = .slice none 0 0 ∧ v1 = .slice none 0 0 ∧ v2 = .slice none 0 0 ∧ v3 = .slice none 0 0)
/-- A program's variable. -/
def PgBlk (X : World) (n : Nat) (p0 p1 p2 p3 : Value) : Prop := X.heap[n]? = some (.cells #[p0, p1, p2, p3] 28 (0, 0))
section
variable {X Y : World} {n : Nat} {p0 p1 p2 p3 : Value}
theorem PgBlk.facts (h : PgBlk X n p0 p1 p2 p3) : n < X.heap.size ∧ (X.cell? ⟨n, 0, none⟩ = some p0 ∧ X.cell? ⟨n, 1, none⟩ = some p1 ∧ X.cell? ⟨n, 2, none⟩ = some p2 ∧ X.cell? ⟨n, 3, none⟩ = some p3) ∧ (X.frozen? ⟨n, 0, none⟩ = false ∧ X.frozen? ⟨n, 1, none⟩ = false ∧ X.frozen? ⟨n, 2, none⟩ = false ∧ X.frozen? ⟨n, 3, none⟩ = false) := by
  refine ⟨(Array.getElem?_eq_some_iff.1 h).1, ⟨?_, ?_, ?_, ?_⟩, frozen_of_row X n _ _ _ h, frozen_of_row X n _ _ _ h, frozen_of_row X n _ _ _ h, frozen_of_row X n _ _ _ h⟩ <;> rw [cell_of_row _ _ _ _ _ _ h] <;> rfl
theorem PgBlk.new (hn : n = X.heap.size) : PgBlk (X.alloc (.cells #[p0, p1, p2, p3] 28)) n p0 p1 p2 p3 := hn ▸ heap_alloc_new X _
theorem PgBlk.of (h : PgBlk X n p0 p1 p2 p3) (hf : Y.heap[n]? = X.heap[n]?) : PgBlk Y n p0 p1 p2 p3 := hf.trans h
theorem PgBlk.all (h : PgBlk X n p0 p1 p2 p3) (q0 q1 q2 q3 : Value) : PgBlk ((((X.setCell ⟨n, 0, none⟩ q0).setCell ⟨n, 1, none⟩ q1).setCell ⟨n, 2, none⟩ q2).setCell ⟨n, 3, none⟩ q3) n q0 q1 q2 q3 :=
  heap_setCell_same _ n 3 _ _ _ (heap_setCell_same _ n 2 _ _ _ (heap_setCell_same _ n 1 _ _ _ (heap_setCell_same X n 0 _ _ _ h)))
theorem results_pg {fn : Func} {p q r : Tmp} (hfn : fn.results = #[.cell p 28, .tmp q, .tmp r]) (tmps : Array Value) (u u' : Value) (hp : tmps.getD p undef = .pointer (some ⟨n, 0, none⟩)) (hq : tmps.getD q undef = u) (hr : tmps.getD r undef = u') (h : PgBlk X n p0 p1 p2 p3) :
    (results fn tmps).run Tryd.prog X = .ok (.tuple #[.agg #[p0, p1, p2, p3], u, u']) X := by
  have hp' : tmps[p]?.getD undef = .pointer (some ⟨n, 0, none⟩) := by simpa using hp
  have hq' : tmps[q]?.getD undef = u := by simpa using hq
  have hr' : tmps[r]?.getD undef = u' := by simpa using hr
  simp [results, hfn, hp', hq', hr', asAddr, run_loadVar_row X n 28 28 _ (0, 0) _ h Tryd.underlying28 rfl (by kernel_rfl)]
end
theorem PRows.stay {B : Nat} {W X : World} {p : Pg} {v0 v1 v2 v3 : Value} {rf : List (Fn × FV)} {rt : List (List Stm × Value)} (R : PRows B W p v0 v1 v2 v3 rf rt) (hb : Below W.heap.size W X) : PRows B X p v0 v1 v2 v3 rf rt := by
  have hk : KeptT B W X := ⟨hb.size, fun g _ _ _ _ hg _ => hb.block g (Array.getElem?_eq_some_iff.1 hg).1⟩
  exact ⟨own_below R.g hb, own_below R.l hb, own_below R.f hb, own_below R.t hb, R.ef, R.et, fun q hq => (R.xf q hq).keptT hk, fun q hq => (R.xt q hq).keptT hk⟩
theorem own_keptB {B T k n : Nat} {W X : World} {v : Value} {xs : List Value} (h : W.ownsRow B T k v n xs) (hk : ∀ g, B ≤ g → g < W.heap.size → X.heap[g]? = W.heap[g]?) : X.ownsRow B T k v n xs := by
  refine ⟨h.1, ?_⟩
  rcases h.2 with h0 | ⟨g, cap, cur, rfl, hb, hg, rest⟩
  · exact .inl h0
  · exact .inr ⟨g, cap, cur, rfl, hb, (hk g hb (Array.getElem?_eq_some_iff.1 hg).1).trans hg, rest⟩
theorem own_lower {B B' T k n : Nat} {W : World} {v : Value} {xs : List Value} (h : W.ownsRow B T k v n xs) (hl : B' ≤ B) : W.ownsRow B' T k v n xs := by
  refine ⟨h.1, ?_⟩
  rcases h.2 with h0 | ⟨g, cap, cur, rfl, hb, rest⟩
  · exact .inl h0
  · exact .inr ⟨g, cap, cur, rfl, Nat.le_trans hl hb, rest⟩
theorem PRows.keptB {B : Nat} {W X : World} {p : Pg} {v0 v1 v2 v3 : Value} {rf : List (Fn × FV)} {rt : List (List Stm × Value)} (R : PRows B W p v0 v1 v2 v3 rf rt) (hk : ∀ g, B ≤ g → g < W.heap.size → X.heap[g]? = W.heap[g]?) (hs : W.heap.size ≤ X.heap.size) : PRows B X p v0 v1 v2 v3 rf rt := by
  have hT : KeptT B W X := ⟨hs, fun g _ _ _ hg hb _ => hk g hg (Array.getElem?_eq_some_iff.1 hb).1⟩
  exact ⟨own_keptB R.g hk, own_keptB R.l hk, own_keptB R.f hk, own_keptB R.t hk, R.ef, R.et, fun q hq => (R.xf q hq).keptT hT, fun q hq => (R.xt q hq).keptT hT⟩
theorem PRows.lower {B B' : Nat} {W : World} {p : Pg} {v0 v1 v2 v3 : Value} {rf : List (Fn × FV)} {rt : List (List Stm × Value)} (R : PRows B W p v0 v1 v2 v3 rf rt) (hl : B' ≤ B) : PRows B' W p v0 v1 v2 v3 rf rt :=
  ⟨own_lower R.g hl, own_lower R.l hl, own_lower R.f hl, own_lower R.t hl, R.ef, R.et, fun q hq => (R.xf q hq).low hl, fun q hq => (R.xt q hq).lo hl⟩
/-- At the head of a round. -/
def PRel (B : Nat) (ws : List Wd) (wr : World) (σ : RS) (m : Nat) (p : Pg) (v0 v1 v2 v3 : Value) : Prop :=
  parF ws = wholeF (3 * ws.length + 2) m p σ ∧ ∀ t, σ = .ok t → (∃ rf rt, PRows B wr p v0 v1 v2 v3 rf rt) ∧ t.length < m ∧ p.gs.length + t.length ≤ ws.length ∧ p.ls.length + t.length ≤ ws.length ∧ p.fs.length + t.length ≤ ws.length ∧ p.ths.length + t.length ≤ ws.length
theorem whole_stop {n m : Nat} {p : Pg} {x : Wd} {tt : List Wd} (h : x.k = 3) : wholeF n m p (.ok (x :: tt)) = (p, .ok (x :: tt)) := by
  cases m with
  | zero => rfl
  | succ m => simp [wholeF, RS.hd, h]
theorem whole_bad {n m : Nat} {p : Pg} {c : Int} {a : Nat} : wholeF n m p (.bad c a) = (p, .bad c a) := by
  cases m with
  | zero => rfl
  | succ m => simp [wholeF, RS.good]
theorem whole_more {n m : Nat} {p : Pg} {x : Wd} {tt : List Wd} (h : x.k ≠ 3) : wholeF n (m + 1) p (.ok (x :: tt)) = wholeF n m (thingF n p (.ok (x :: tt))).1 (thingF n p (.ok (x :: tt))).2 := by
  simp [wholeF, RS.hd, RS.good, h]
theorem below_set4 {w X : World} (h : Below w.heap.size w X) (q0 q1 q2 q3 : Value) : Below w.heap.size w ((((X.setCell ⟨w.heap.size, 0, none⟩ q0).setCell ⟨w.heap.size, 1, none⟩ q1).setCell ⟨w.heap.size, 2, none⟩ q2).setCell ⟨w.heap.size, 3, none⟩ q3) :=
  (((h.setCell (p := ⟨w.heap.size, 0, none⟩) (Nat.le_refl _) _).setCell (p := ⟨w.heap.size, 1, none⟩) (Nat.le_refl _) _).setCell (p := ⟨w.heap.size, 2, none⟩) (Nat.le_refl _) _).setCell (p := ⟨w.heap.size, 3, none⟩) (Nat.le_refl _) _
theorem rfield_k (x0 x1 x2 x3 : Value) (w : World) : (Instr.field 57 (.agg #[x0, x1, x2, x3]) 0).run Tryd.prog w = .ok x0 w := by
  simp [Instr.field, run_underlying Tryd.underlying57, part, asAgg, Tryd.isAgg3]
set_option maxRecDepth 100000 in
set_option maxHeartbeats 4000000 in
theorem r4_parse (s : ByteArray) (w : World) (hs : s.size ≤ 16384) (ws : List Wd) (hS : Hid (Sc numO s.data.toList 0 ws none)) :
    Calls Tryd.prog 8 #[.string s] w fun e w' => ParEnd w.heap.size (parF ws) e w' ∧ Below w.heap.size w w' := by
  have hfin : Fin ws := hS.out.fin rfl
  have hfew : ws.length ≤ 16385 := by (have := hS.out.few rfl; have e : s.data.toList.length = s.size := (by simp); omega)
  have hlong : Hid (∀ x ∈ ws, x.t.length ≤ 100000) := Lib.hid fun x hx => by (have := hS.out.short x hx; have e : s.data.toList.length = s.size := (by simp); omega)
  have HK := Lib.hid hS.out.kok
  have HF := Lib.hid hfin
  clear hfin
  go_enter Tryd.func8, Tryd.ntmps8
  go_upto_region 4 with (go_at_call 16; (with_reducible refine (rwords_ok s _ hs ws hS).mono ?_); rintro e1 w1 ⟨⟨g, cap, rfl, ho1⟩, hb1⟩)
  have B1 : Hid (Below w.heap.size w w1) := Lib.hid ((((Below.refl w.heap.size w).alloc (Nat.le_refl _) _)).trans (hb1.mono (by simp)))
  have GP1 : Hid (PgBlk w1 w.heap.size (.slice none 0 0) (.slice none 0 0) (.slice none 0 0) (.slice none 0 0)) := Lib.hid ((PgBlk.new rfl).of (hb1.block _ (by simp)))
  obtain ⟨hwc, hgB, _⟩ := own_wcellsR ho1
  have hgB' : w.heap.size + 1 ≤ g := by simpa using hgB
  have HWC := Lib.hid hwc
  have hgl := hwc.lt
  clear hwc hgB ho1 hb1
  obtain ⟨hgp, _⟩ := GP1.out.facts
  have hz1 : w.heap.size < w1.heap.size := hgp
  clear hgp
  go_wp2
  refine name_world ?_
  intro W2 hW2
  have R2 : RrAt W2 w1.heap.size (.slice (some ⟨g, 0, none⟩) ws.length cap) ((0 : Nat) : Int) 0 0 0 := by (rw [hW2]; exact (RrAt.alloc (W := w1.alloc _) (heap_alloc_new _ _) _))
  have hz2 : W2.heap.size = w1.heap.size + 2 := by (rw [hW2]; simp)
  have BW2 : Below w1.heap.size w1 W2 := by (rw [hW2]; exact ((Below.refl _ _).alloc (Nat.le_refl _) _).alloc (by simp) _)
  have S2 : Hid (A4 W2 (w1.heap.size + 1) w1.heap.size g cap ws ((0 : Nat) : Int) (.slice none 0 0) (.slice none 0 0) (.slice none 0 0) (.slice none 0 0) (.ok ws)) := Lib.hid
    ⟨by (rw [hW2]; exact alloc2_new _ _ _), StR.mk_ok R2 (by simp) (List.suffix_refl _) HF.out, ⟨HWC.out.kept (fun k e => BW2.block k (by rw [e]; exact hgl)) BW2.size, by omega, by omega, hlong.out, HK.out⟩, by omega, by omega⟩
  have HB2 := Lib.hid BW2
  have HP2 : Hid (PRel (w1.heap.size + 2) ws W2 (.ok ws) (ws.length + 1) ⟨[], [], [], []⟩ (.slice none 0 0) (.slice none 0 0) (.slice none 0 0) (.slice none 0 0)) := Lib.hid ⟨rfl, fun t e => by
    cases e
    exact ⟨⟨[], [], PRows.nil _ _⟩, by omega, by simp, by simp, by simp, by simp⟩⟩
  clear hW2 R2 BW2
  go_loopw [] (fun wr => ∃ σ p v0 v1 v2 v3 m, A4 wr (w1.heap.size + 1) w1.heap.size g cap ws ((0 : Nat) : Int) v0 v1 v2 v3 σ ∧ Low (w1.heap.size + 1) w1.heap.size (w1.heap.size + 2) W2 wr ∧ PRel (w1.heap.size + 2) ws wr σ m p v0 v1 v2 v3) (fun wr => msR wr w1.heap.size ws.length)
  case atStart => exact ⟨_, _, _, _, _, _, _, S2.out, ⟨⟨Nat.le_refl _, rfl, rfl, rfl⟩, fun _ _ _ _ => rfl⟩, HP2.out⟩
  case round =>
    obtain ⟨σ, p, v0, v1, v2, v3, m, hS, hL, hR1, hR2⟩ := hrel
    have hPB : PgBlk wr w.heap.size (.slice none 0 0) (.slice none 0 0) (.slice none 0 0) (.slice none 0 0) := (GP1.out.of (HB2.out.block _ (by omega))).of (hL.2 _ (by omega) (by omega) (by omega))
    have hBel : Hid (∀ X, Below wr.heap.size wr X → Below w.heap.size w X) := Lib.hid fun X hX => by
      have h1 := B1.out
      have h2 := HB2.out
      refine ⟨hX.os.trans (hL.1.2.1.trans (h2.os.trans h1.os)), hX.tape.trans (hL.1.2.2.1.trans (h2.tape.trans h1.tape)), hX.output.trans (hL.1.2.2.2.trans (h2.output.trans h1.output)), by (have := hX.size; have := hL.1.1; omega), fun k hk => ?_⟩
      have hl := hL.1.1
      rw [hX.block k (by omega), hL.2 k (by omega) (by omega) (by omega), h2.block k (by omega), h1.block k hk]
    have S1 := Lib.hid hS
    have HPB := Lib.hid hPB
    have HL := Lib.hid hL
    have HR1 := Lib.hid hR1
    have HR2 := Lib.hid hR2
    cases σ with
    | bad c a =>
      have hw2 : parF ws = (p, .bad c a) := by (rw [hR1, whole_bad])
      have HW2 := Lib.hid hw2
      clear hS hPB hL hR1 hR2 hw2
      go_upto_region 8 with (first
        | (go_at_call 17; (with_reducible refine (r4_ok S1 false rfl).mono ?_); rintro e1 x1 ⟨rfl, hb1⟩; have T1 := Lib.hid (S1.out.stay hb1))
        | (go_at_call 17; (with_reducible refine (r4_ok T1 false rfl).mono ?_); rintro e2 x2 ⟨rfl, hb2⟩; have T2 := Lib.hid (T1.out.stay hb2)))
      have hPB2 : PgBlk x2 w.heap.size (.slice none 0 0) (.slice none 0 0) (.slice none 0 0) (.slice none 0 0) := (HPB.out.of (hb1.block _ HPB.out.facts.1)).of (hb2.block _ (Nat.lt_of_lt_of_le HPB.out.facts.1 hb1.size))
      have HPB2 := Lib.hid hPB2
      obtain ⟨gpl, ⟨pc0, pc1, pc2, pc3⟩, pf0, pf1, pf2, pf3⟩ := hPB2.facts
      obtain ⟨hc0, i, hi, hrr⟩ : c ≠ 0 ∧ ∃ i : Nat, i < ws.length ∧ RrAt x2 w1.heap.size (.slice (some ⟨g, 0, none⟩) ws.length cap) i 0 c a := T2.out.st
      obtain ⟨q0, q1, q2, q3, q4⟩ := hrr.cells
      have hrl := hrr.lt
      obtain ⟨m0, m1, m2, m3, m4, m5⟩ := T2.out.at4.cells
      have ml := T2.out.at4.lt
      have HBB := Lib.hid (hBel.out x2 (below_dual hb1 hb2))
      have HC0 := Lib.hid hc0
      clear hPB2 hrr hb1 hb2 hc0 hi
      go_region
      all_goals go_wp2
      all_goals refine bodyPost_ret (results_pg rfl _ (.int .i64 c) (.int .i64 a) rfl rfl rfl (PgBlk.all (X := x2) HPB2.out _ _ _ _)) rfl ⟨⟨_, _, _, _, c, (a : Int), rfl, ?_, ?_⟩, ?_⟩
      · intro t ht
        rw [HW2.out] at ht
        cases ht
      · intro c' a' h
        rw [HW2.out] at h
        cases h
        exact ⟨rfl, rfl, HC0.out, rfl, rfl, rfl, rfl⟩
      · first | exact below_set4 HBB.out _ _ _ _ | exact below_set4 HBB.out.drew _ _ _ _ | exact below_set4 (below_drewN HBB.out _) _ _ _ _
    | ok t =>
      obtain ⟨x, tt, rfl⟩ := hS.st.2.1.ne
      have hfd := rfield_k
      cases hx : (x.k != 3) with
      | false =>
        have hx3 : x.k = 3 := by simpa using hx
        have hw2 : parF ws = (p, .ok (x :: tt)) := by (rw [hR1, whole_stop hx3])
        obtain ⟨⟨rf, rt, hPR⟩, _⟩ := hR2 _ rfl
        obtain ⟨z0, y0, rfl⟩ := own_form hPR.g
        obtain ⟨z1, y1, rfl⟩ := own_form hPR.l
        obtain ⟨z2, y2, rfl⟩ := own_form hPR.f
        obtain ⟨z3, y3, rfl⟩ := own_form hPR.t
        have HW2 := Lib.hid hw2
        have HPR := Lib.hid hPR
        clear hS hPB hL hR1 hR2 hw2 hPR
        go_upto_region 9 with (first
          | (go_at_call 17; (with_reducible refine (r4_ok S1 true rfl).mono ?_); rintro e1 x1 ⟨rfl, hb1⟩; have T1 := Lib.hid (S1.out.stay hb1))
          | (go_at_call 18; (with_reducible refine (r4_wordOk T1).mono ?_); rintro e2 x2 ⟨rfl, hb2⟩; have T2 := Lib.hid (T1.out.stay hb2))
          | (go_at_call 17; (with_reducible refine (r4_ok T2 true rfl).mono ?_); rintro e3 x3 ⟨rfl, hb3⟩; have T3 := Lib.hid (T2.out.stay hb3)))
        have hPB2 : PgBlk x3 w.heap.size (.slice none 0 0) (.slice none 0 0) (.slice none 0 0) (.slice none 0 0) := ((HPB.out.of (hb1.block _ HPB.out.facts.1)).of (hb2.block _ (Nat.lt_of_lt_of_le HPB.out.facts.1 hb1.size))).of (hb3.block _ (Nat.lt_of_lt_of_le HPB.out.facts.1 (Nat.le_trans hb1.size hb2.size)))
        have HPB2 := Lib.hid hPB2
        obtain ⟨gpl, ⟨pc0, pc1, pc2, pc3⟩, pf0, pf1, pf2, pf3⟩ := hPB2.facts
        obtain ⟨m0, m1, m2, m3, m4, m5⟩ := T3.out.at4.cells
        have ml := T3.out.at4.lt
        have hB3 := below_dual (below_dual hb1 hb2) hb3
        have HBB := Lib.hid (hBel.out x3 hB3)
        have HPR3 := Lib.hid (HPR.out.stay hB3)
        clear hPB2 hb1 hb2 hb3 hB3
        go_wp2
        refine bodyPost_ret (results_pg rfl _ (.int .i64 0) (.int .i64 0) rfl rfl rfl (PgBlk.all (X := x3) HPB2.out _ _ _ _)) rfl ⟨⟨_, _, _, _, 0, 0, rfl, ?_, ?_⟩, ?_⟩
        · intro t ht
          rw [HW2.out] at ht ⊢
          refine ⟨rfl, rfl, rf, rt, (HPR3.out.keptB (fun g hg hl => ?_) (by simp)).lower (by omega)⟩
          rw [heap_setCell_other _ ⟨w.heap.size, 3, none⟩ g _ (by simp; omega), heap_setCell_other _ ⟨w.heap.size, 2, none⟩ g _ (by simp; omega), heap_setCell_other _ ⟨w.heap.size, 1, none⟩ g _ (by simp; omega), heap_setCell_other _ ⟨w.heap.size, 0, none⟩ g _ (by simp; omega)]
        · intro c' a' h
          rw [HW2.out] at h
          cases h
        · exact below_set4 HBB.out _ _ _ _
      | true =>
        have hx3 : x.k ≠ 3 := by simpa using hx
        obtain ⟨⟨rf, rt, hPR⟩, hm, h1, h2, h3, h4⟩ := hR2 _ rfl
        have HPR := Lib.hid hPR
        have HM := Lib.hid (And.intro hm (And.intro h1 (And.intro h2 (And.intro h3 h4))))
        have HLEN : Hid ((p.gs.length ≤ 1000000 ∧ p.ls.length ≤ 1000000 ∧ p.fs.length ≤ 1000000 ∧ p.ths.length ≤ 1000000) ∧ 3 * tt.length + 2 ≤ 3 * ws.length + 2) := Lib.hid (by (simp only [List.length_cons] at h1 h2 h3 h4; refine ⟨⟨?_, ?_, ?_, ?_⟩, ?_⟩ <;> omega))
        clear hS hPB hL hR1 hR2 hPR hm h1 h2 h3 h4
        go_wp2_with (first
          | (go_at_call 17; (with_reducible refine (r4_ok S1 true rfl).mono ?_); rintro e1 x1 ⟨rfl, hb1⟩; have T1 := Lib.hid (S1.out.stay hb1))
          | (go_at_call 18; (with_reducible refine (r4_wordOk T1).mono ?_); rintro e2 x2 ⟨rfl, hb2⟩; have T2 := Lib.hid (T1.out.stay hb2); have HB12 := Lib.hid (below_dual hb1 hb2); have hsz2 : w1.heap.size + 2 ≤ x2.heap.size := Nat.le_trans (by (have := HL.out.1.1; omega)) HB12.out.size)
          | (go_at_call 19; (with_reducible refine (rth_any T2.out (HPR.out.stay HB12.out) ⟨by omega, by omega, by omega, hsz2⟩ HLEN.out.1 hx3 HLEN.out.2).mono ?_); rintro e3 x3 ⟨rfl, hlow3, q0, q1, q2, q3, hs3, hrow3⟩))
        refine ⟨⟨_, (thingF (3 * ws.length + 2) p (.ok (x :: tt))).1, q0, q1, q2, q3, m - 1, hs3, ?_, ?_, ?_⟩, ?_⟩
        · refine HL.out.trans (Low.trans ⟨⟨HB12.out.size, HB12.out.os, HB12.out.tape, HB12.out.output⟩, fun b hb _ _ => HB12.out.block b (by (have := HL.out.1.1; omega))⟩ hlow3)
        · obtain ⟨m', rfl⟩ : ∃ m', m = m' + 1 := ⟨m - 1, by (have := HM.out.1; omega)⟩
          rw [HR1.out, whole_more hx3]
          rfl
        · intro t ht
          have hle := (thing_le (3 * ws.length + 2) p (fun t e => by (cases e; exact S1.out.st.2.1)) hx3).1
          obtain ⟨g1, g2, g3, g4⟩ := thing_more (3 * ws.length + 2) p (.ok (x :: tt))
          obtain ⟨hm, h1, h2, h3, h4⟩ := HM.out
          have hlt : t.length ≤ tt.length := by (rw [ht] at hle; exact hle)
          simp only [List.length_cons] at hm h1 h2 h3 h4
          exact ⟨hrow3 t ht, by omega, by omega, by omega, by omega, by omega⟩
        · have hle := (thing_le (3 * ws.length + 2) p (fun t e => by (cases e; exact S1.out.st.2.1)) hx3).1
          rw [hs3.st.ms, S1.out.st.ms]
          have hle' : (thingF (3 * ws.length + 2) p (.ok (x :: tt))).2.len ≤ tt.length := hle
          cases hq : (thingF (3 * ws.length + 2) p (.ok (x :: tt))).2 with
          | ok t2 => rw [hq] at hle'; simp only [RS.ms, RS.len, List.length_cons] at hle' ⊢; omega
          | bad c a => simp only [RS.ms, List.length_cons]; omega
set_option maxRecDepth 100000 in
/-- A text that is too long has no words. -/
theorem rwords_long (s : ByteArray) (w : World) (hs : 16384 < s.size) :
    Calls Tryd.prog 16 #[.string s] w fun e w' => e = .returned (.tuple #[.slice none 0 0, .int .i64 2, .int .i64 0]) ∧ Below w.heap.size w w' := by
  have h1 : decide ((s.size : Int) > 16384) = true := by simp; omega
  go_enter Tryd.func16, Tryd.ntmps16
  go_wp2
  go_ret3
  exact ⟨rfl, by (refine Fr.below ?_; (repeat (first | (with_reducible exact Fr.refl _ _) | (with_reducible refine Fr.alloc ?_ _) | (with_reducible refine Fr.drewN ?_ _) | (with_reducible refine Fr.drew ?_) | (with_reducible refine Fr.set ?_ ?_ _ _; rotate_left; first | exact .inl rfl | (right; simp; done) | (right; simp; omega) | (right; omega)) | (with_reducible refine Fr.step ?_ (by assumption)) | (with_reducible refine Fr.stepB ?_ (by assumption)))))⟩
/-- A text without words is no program. -/
theorem r4_parse_no (s : ByteArray) (w : World) (e0 a0 : Int) (he : e0 ≠ 0) (hW : ∀ W, Calls Tryd.prog 16 #[.string s] W fun e w' => e = .returned (.tuple #[.slice none 0 0, .int .i64 e0, .int .i64 a0]) ∧ Below W.heap.size W w') :
    Calls Tryd.prog 8 #[.string s] w fun e w' => e = .returned (.tuple #[.agg #[.slice none 0 0, .slice none 0 0, .slice none 0 0, .slice none 0 0], .int .i64 e0, .int .i64 a0]) ∧ Below w.heap.size w w' := by
  have HW := Lib.hid hW
  have k : (e0 != 0) = true := by simpa using he
  clear hW he
  go_enter Tryd.func8, Tryd.ntmps8
  go_upto_region 3 with (go_at_call 16; (with_reducible refine (HW.out _).mono ?_); rintro e1 w1 ⟨rfl, hb1⟩)
  have B1 : Hid (Below w.heap.size w w1) := Lib.hid ((((Below.refl w.heap.size w).alloc (Nat.le_refl _) _)).trans (hb1.mono (by simp)))
  have GP1 : Hid (PgBlk w1 w.heap.size (.slice none 0 0) (.slice none 0 0) (.slice none 0 0) (.slice none 0 0)) := Lib.hid ((PgBlk.new rfl).of (hb1.block _ (by simp)))
  obtain ⟨gpl, ⟨pc0, pc1, pc2, pc3⟩, pf0, pf1, pf2, pf3⟩ := GP1.out.facts
  clear hb1
  go_wp2
  exact bodyPost_ret (results_pg rfl _ (.int .i64 e0) (.int .i64 a0) rfl rfl rfl (PgBlk.all (X := w1) GP1.out _ _ _ _)) rfl ⟨rfl, below_set4 B1.out _ _ _ _⟩
/-- Any text: its program, or an error. -/
theorem r4_parse_any (s : ByteArray) (w : World) :
    Calls Tryd.prog 8 #[.string s] w fun e w' => Below w.heap.size w w' ∧ ∃ v0 v1 v2 v3 c a, e = .returned (.tuple #[.agg #[v0, v1, v2, v3], .int .i64 c, .int .i64 a]) ∧
      ((c ≠ 0 ∧ v0 = .slice none 0 0 ∧ v1 = .slice none 0 0 ∧ v2 = .slice none 0 0 ∧ v3 = .slice none 0 0) ∨ (c = 0 ∧ s.size ≤ 16384 ∧ ∃ ws p t rf rt, Sc numO s.data.toList 0 ws none ∧ parF ws = (p, .ok t) ∧ PRows w.heap.size w' p v0 v1 v2 v3 rf rt)) := by
  by_cases hs : s.size ≤ 16384
  · obtain ⟨ws, r, hS⟩ := Sc.total numO s.data.toList.length s.data.toList 0 (Nat.le_refl _)
    cases r with
    | none =>
      refine (r4_parse s w hs ws (Lib.hid hS)).mono ?_
      rintro e w' ⟨⟨v0, v1, v2, v3, c, a, rfl, h1, h2⟩, hb⟩
      refine ⟨hb, v0, v1, v2, v3, c, a, rfl, ?_⟩
      obtain ⟨⟨p, σ⟩, hq⟩ : ∃ q, parF ws = q := ⟨_, rfl⟩
      rw [hq] at h1 h2
      cases σ with
      | ok t =>
        obtain ⟨e1, _, rf, rt, h3⟩ := h1 t rfl
        exact .inr ⟨e1, hs, ws, p, t, rf, rt, hS, hq, h3⟩
      | bad c' a' =>
        obtain ⟨_, _, e1, e2⟩ := h2 c' a' rfl
        exact .inl ⟨e1, e2⟩
    | some q =>
      obtain ⟨e0, a0⟩ := q
      have he : e0 ≠ 0 := by rcases hS.bad_code e0 a0 rfl with h | h <;> omega
      refine (r4_parse_no s w e0 a0 he fun W => rwords_err s W hs ws e0 a0 (Lib.hid hS)).mono ?_
      rintro e w' ⟨rfl, hb⟩
      exact ⟨hb, _, _, _, _, _, _, rfl, .inl ⟨he, rfl, rfl, rfl, rfl⟩⟩
  · refine (r4_parse_no s w 2 0 (by decide) fun W => rwords_long s W (by omega)).mono ?_
    rintro e w' ⟨rfl, hb⟩
    exact ⟨hb, _, _, _, _, _, _, rfl, .inl ⟨by decide, rfl, rfl, rfl, rfl⟩⟩
end Go.Proofs.YtkhbbapocamlmaaDoor
namespace Go.Proofs.YtkhbbapocamlmaaDoor
open Go Go.RowKit

def dstG (k : Nat) : Nat := 31 + k
section
variable {vs : List (Option Value)} {t0 : Array Value} {listed : Array Bool} {a : Act} {B b : Nat} {W1 X X' : World} {cs : Array Value} {R : World → Prop}
theorem putG (h : Ins 11 66 dstG vs t0 listed a) (k d : Nat) (v : Value) (hk : k < 11) (hd : dstG k = d) (hv : ∀ u, vs[k]? = some (some u) → u = v) : Ins 11 66 dstG vs t0 (listed.setIfInBounds k true) (a.put (some d) v) := by
  subst hd
  exact h.put hk (by unfold dstG; omega) (fun i hi e => by unfold dstG at e; omega) hv
theorem noneG : ∀ k, k < 11 → (Array.replicate 11 false).getD k false = false := by decide
/-- What holds while the parts come: until the line is written all stands; behind it R. -/
structure GI (vs : List (Option Value)) (t0 : Array Value) (W1 : World) (cs : Array Value) (R : World → Prop) (listed : Array Bool) (a : Act) (X : World) : Prop where
  ins : Ins 11 66 dstG vs t0 listed a
  wd : (listed.getD 10 false = false ∧ Below W1.heap.size W1 X ∧ (listed.getD 9 false = true → ∃ g, a.tmps.getD 40 undef = .slice (some ⟨g, 0, none⟩) 6 6 ∧ X.heap[g]? = some (.cells cs 9 (0, 0)))) ∨ (listed.getD 10 false = true ∧ R X)
theorem getD_other {k j : Nat} (h : j ≠ k) : (listed.setIfInBounds k true).getD j false = listed.getD j false := by
  simp only [Array.getD_eq_getD_getElem?, Array.getElem?_setIfInBounds]
  rw [if_neg (Ne.symm h)]
/-- A part comes. -/
theorem GI.put (h : GI vs t0 W1 cs R listed a X) (k d : Nat) (v : Value) (hk : k < 9) (hd : dstG k = d) (hv : ∀ u, vs[k]? = some (some u) → u = v) (hb : Below X.heap.size X X') (hR : R X → R X') : GI vs t0 W1 cs R (listed.setIfInBounds k true) (a.put (some d) v) X' := by
  refine ⟨putG h.ins k d v (by omega) hd hv, ?_⟩
  rw [getD_other (by omega : 10 ≠ k), getD_other (by omega : 9 ≠ k)]
  rcases h.wd with ⟨h1, h2, h3⟩ | ⟨h1, h2⟩
  · refine .inl ⟨h1, below_dual h2 hb, fun h9 => ?_⟩
    obtain ⟨g, e1, e2⟩ := h3 h9
    refine ⟨g, ?_, (hb.block g (Array.getElem?_eq_some_iff.1 e2).1).trans e2⟩
    subst hd
    rw [getD_put a _ _ _ (by rw [h.ins.tsz]; unfold dstG; omega), if_neg (by unfold dstG; omega)]
    exact e1
  · exact .inr ⟨h1, hR h2⟩
/-- The row of the parts is made. -/
theorem GI.nine (h : GI vs t0 W1 cs R listed a X) (hl : listed.size = 11) (hv : vs[9]? = some none) (hR : R X → R (X.alloc (.cells cs 9))) : GI vs t0 W1 cs R (listed.setIfInBounds 9 true) (a.put (some 40) (.slice (some ⟨X.heap.size, 0, none⟩) 6 6)) (X.alloc (.cells cs 9)) := by
  refine ⟨putG h.ins 9 40 _ (by omega) rfl (fun u e => by rw [hv] at e; cases e), ?_⟩
  rw [getD_other (by omega : 10 ≠ 9)]
  rcases h.wd with ⟨h1, h2, _⟩ | ⟨h1, h2⟩
  · refine .inl ⟨h1, h2.alloc h2.size _, fun _ => ⟨X.heap.size, ?_, heap_alloc_new _ _⟩⟩
    rw [getD_put a _ _ _ (by rw [h.ins.tsz]; omega), if_pos rfl]
  · exact .inr ⟨h1, hR h2⟩
/-- The line is written. -/
theorem GI.ten (h : GI vs t0 W1 cs R listed a X) (hl : listed.size = 11) (v : Value) (hv : vs[10]? = some none) (hR : R X') : GI vs t0 W1 cs R (listed.setIfInBounds 10 true) (a.put (some 41) v) X' :=
  ⟨putG h.ins 10 41 _ (by omega) rfl (fun u e => by rw [hv] at e; cases e), .inr ⟨getD_set_self (by omega), hR⟩⟩
end
theorem wpOp_of {P : Program} {ops : Array Oper} {Q : Exit → Act → World → Prop} {i : Nat} {K : Act → World → Prop} {a : Act} {w : World} {o : Oper} (ho : ops[i]? = some o) (hg : o.guard = none) (h : o.wp P a w K Q) : wpOp P ops Q i K a w := by
  unfold wpOp
  rw [ho]
  simp only [Region.wanted, hg, if_true]
  exact .inl h
theorem run_fieldAddr {P : Program} {o : Oper} {w : World} {ev : Operand → Value} {t : TypeId} {i : Nat} {s : Operand} {u v : Value} (ho : o.op = .fieldAddr t s i) (h : ev s = u) (hv : (Instr.fieldAt t u i).run P w = .ok v w) : (execOp ev o).run P w = .ok (.value v) w := by
  subst h
  unfold execOp
  rw [ho]
  simp [hv, Result.andThen]
theorem run_build {P : Program} {o : Oper} {w w' : World} {ev : Operand → Value} {t : TypeId} {n : Nat} {ps : Array (Nat × Operand)} {v : Value} (ho : o.op = .buildSlice t n ps) (hv : (Instr.buildSlice t n (ps.map fun p => (p.1, ev p.2))).run P w = .ok v w') : (execOp ev o).run P w = .ok (.value v) w' := by
  unfold execOp
  rw [ho]
  simp [hv, Result.andThen]
theorem wp_val9 {P : Program} {Q : Exit → Act → World → Prop} {K : Act → World → Prop} {a : Act} {w w' : World} {o : Oper} {v : Value} (h : (execOp a.eval o).run P w = .ok (.value v) w') (hk : K (a.put o.dst v) w') : o.wp P a w K Q := by
  unfold Oper.wp
  rw [h]
  exact hk
set_option maxRecDepth 100000 in
/-- Slots, one by one. -/
theorem arr66 (tm : Array Value) (h : tm.size = 66) : tm = #[tm.getD 0 undef, tm.getD 1 undef, tm.getD 2 undef, tm.getD 3 undef, tm.getD 4 undef, tm.getD 5 undef, tm.getD 6 undef, tm.getD 7 undef, tm.getD 8 undef, tm.getD 9 undef, tm.getD 10 undef, tm.getD 11 undef, tm.getD 12 undef, tm.getD 13 undef, tm.getD 14 undef, tm.getD 15 undef, tm.getD 16 undef, tm.getD 17 undef, tm.getD 18 undef, tm.getD 19 undef, tm.getD 20 undef, tm.getD 21 undef, tm.getD 22 undef, tm.getD 23 undef, tm.getD 24 undef, tm.getD 25 undef, tm.getD 26 undef, tm.getD 27 undef, tm.getD 28 undef, tm.getD 29 undef, tm.getD 30 undef, tm.getD 31 undef, tm.getD 32 undef, tm.getD 33 undef, tm.getD 34 undef, tm.getD 35 undef, tm.getD 36 undef, tm.getD 37 undef, tm.getD 38 undef, tm.getD 39 undef, tm.getD 40 undef, tm.getD 41 undef, tm.getD 42 undef, tm.getD 43 undef, tm.getD 44 undef, tm.getD 45 undef, tm.getD 46 undef, tm.getD 47 undef, tm.getD 48 undef, tm.getD 49 undef, tm.getD 50 undef, tm.getD 51 undef, tm.getD 52 undef, tm.getD 53 undef, tm.getD 54 undef, tm.getD 55 undef, tm.getD 56 undef, tm.getD 57 undef, tm.getD 58 undef, tm.getD 59 undef, tm.getD 60 undef, tm.getD 61 undef, tm.getD 62 undef, tm.getD 63 undef, tm.getD 64 undef, tm.getD 65 undef] := by
  obtain ⟨l⟩ := tm
  replace h : l.length = 66 := h
  rcases l with _ | ⟨a0, l⟩
  · cases h
  replace h : l.length = 65 := Nat.succ.inj h
  rcases l with _ | ⟨a1, l⟩
  · cases h
  replace h : l.length = 64 := Nat.succ.inj h
  rcases l with _ | ⟨a2, l⟩
  · cases h
  replace h : l.length = 63 := Nat.succ.inj h
  rcases l with _ | ⟨a3, l⟩
  · cases h
  replace h : l.length = 62 := Nat.succ.inj h
  rcases l with _ | ⟨a4, l⟩
  · cases h
  replace h : l.length = 61 := Nat.succ.inj h
  rcases l with _ | ⟨a5, l⟩
  · cases h
  replace h : l.length = 60 := Nat.succ.inj h
  rcases l with _ | ⟨a6, l⟩
  · cases h
  replace h : l.length = 59 := Nat.succ.inj h
  rcases l with _ | ⟨a7, l⟩
  · cases h
  replace h : l.length = 58 := Nat.succ.inj h
  rcases l with _ | ⟨a8, l⟩
  · cases h
  replace h : l.length = 57 := Nat.succ.inj h
  rcases l with _ | ⟨a9, l⟩
  · cases h
  replace h : l.length = 56 := Nat.succ.inj h
  rcases l with _ | ⟨a10, l⟩
  · cases h
  replace h : l.length = 55 := Nat.succ.inj h
  rcases l with _ | ⟨a11, l⟩
  · cases h
  replace h : l.length = 54 := Nat.succ.inj h
  rcases l with _ | ⟨a12, l⟩
  · cases h
  replace h : l.length = 53 := Nat.succ.inj h
  rcases l with _ | ⟨a13, l⟩
  · cases h
  replace h : l.length = 52 := Nat.succ.inj h
  rcases l with _ | ⟨a14, l⟩
  · cases h
  replace h : l.length = 51 := Nat.succ.inj h
  rcases l with _ | ⟨a15, l⟩
  · cases h
  replace h : l.length = 50 := Nat.succ.inj h
  rcases l with _ | ⟨a16, l⟩
  · cases h
  replace h : l.length = 49 := Nat.succ.inj h
  rcases l with _ | ⟨a17, l⟩
  · cases h
  replace h : l.length = 48 := Nat.succ.inj h
  rcases l with _ | ⟨a18, l⟩
  · cases h
  replace h : l.length = 47 := Nat.succ.inj h
  rcases l with _ | ⟨a19, l⟩
  · cases h
  replace h : l.length = 46 := Nat.succ.inj h
  rcases l with _ | ⟨a20, l⟩
  · cases h
  replace h : l.length = 45 := Nat.succ.inj h
  rcases l with _ | ⟨a21, l⟩
  · cases h
  replace h : l.length = 44 := Nat.succ.inj h
  rcases l with _ | ⟨a22, l⟩
  · cases h
  replace h : l.length = 43 := Nat.succ.inj h
  rcases l with _ | ⟨a23, l⟩
  · cases h
  replace h : l.length = 42 := Nat.succ.inj h
  rcases l with _ | ⟨a24, l⟩
  · cases h
  replace h : l.length = 41 := Nat.succ.inj h
  rcases l with _ | ⟨a25, l⟩
  · cases h
  replace h : l.length = 40 := Nat.succ.inj h
  rcases l with _ | ⟨a26, l⟩
  · cases h
  replace h : l.length = 39 := Nat.succ.inj h
  rcases l with _ | ⟨a27, l⟩
  · cases h
  replace h : l.length = 38 := Nat.succ.inj h
  rcases l with _ | ⟨a28, l⟩
  · cases h
  replace h : l.length = 37 := Nat.succ.inj h
  rcases l with _ | ⟨a29, l⟩
  · cases h
  replace h : l.length = 36 := Nat.succ.inj h
  rcases l with _ | ⟨a30, l⟩
  · cases h
  replace h : l.length = 35 := Nat.succ.inj h
  rcases l with _ | ⟨a31, l⟩
  · cases h
  replace h : l.length = 34 := Nat.succ.inj h
  rcases l with _ | ⟨a32, l⟩
  · cases h
  replace h : l.length = 33 := Nat.succ.inj h
  rcases l with _ | ⟨a33, l⟩
  · cases h
  replace h : l.length = 32 := Nat.succ.inj h
  rcases l with _ | ⟨a34, l⟩
  · cases h
  replace h : l.length = 31 := Nat.succ.inj h
  rcases l with _ | ⟨a35, l⟩
  · cases h
  replace h : l.length = 30 := Nat.succ.inj h
  rcases l with _ | ⟨a36, l⟩
  · cases h
  replace h : l.length = 29 := Nat.succ.inj h
  rcases l with _ | ⟨a37, l⟩
  · cases h
  replace h : l.length = 28 := Nat.succ.inj h
  rcases l with _ | ⟨a38, l⟩
  · cases h
  replace h : l.length = 27 := Nat.succ.inj h
  rcases l with _ | ⟨a39, l⟩
  · cases h
  replace h : l.length = 26 := Nat.succ.inj h
  rcases l with _ | ⟨a40, l⟩
  · cases h
  replace h : l.length = 25 := Nat.succ.inj h
  rcases l with _ | ⟨a41, l⟩
  · cases h
  replace h : l.length = 24 := Nat.succ.inj h
  rcases l with _ | ⟨a42, l⟩
  · cases h
  replace h : l.length = 23 := Nat.succ.inj h
  rcases l with _ | ⟨a43, l⟩
  · cases h
  replace h : l.length = 22 := Nat.succ.inj h
  rcases l with _ | ⟨a44, l⟩
  · cases h
  replace h : l.length = 21 := Nat.succ.inj h
  rcases l with _ | ⟨a45, l⟩
  · cases h
  replace h : l.length = 20 := Nat.succ.inj h
  rcases l with _ | ⟨a46, l⟩
  · cases h
  replace h : l.length = 19 := Nat.succ.inj h
  rcases l with _ | ⟨a47, l⟩
  · cases h
  replace h : l.length = 18 := Nat.succ.inj h
  rcases l with _ | ⟨a48, l⟩
  · cases h
  replace h : l.length = 17 := Nat.succ.inj h
  rcases l with _ | ⟨a49, l⟩
  · cases h
  replace h : l.length = 16 := Nat.succ.inj h
  rcases l with _ | ⟨a50, l⟩
  · cases h
  replace h : l.length = 15 := Nat.succ.inj h
  rcases l with _ | ⟨a51, l⟩
  · cases h
  replace h : l.length = 14 := Nat.succ.inj h
  rcases l with _ | ⟨a52, l⟩
  · cases h
  replace h : l.length = 13 := Nat.succ.inj h
  rcases l with _ | ⟨a53, l⟩
  · cases h
  replace h : l.length = 12 := Nat.succ.inj h
  rcases l with _ | ⟨a54, l⟩
  · cases h
  replace h : l.length = 11 := Nat.succ.inj h
  rcases l with _ | ⟨a55, l⟩
  · cases h
  replace h : l.length = 10 := Nat.succ.inj h
  rcases l with _ | ⟨a56, l⟩
  · cases h
  replace h : l.length = 9 := Nat.succ.inj h
  rcases l with _ | ⟨a57, l⟩
  · cases h
  replace h : l.length = 8 := Nat.succ.inj h
  rcases l with _ | ⟨a58, l⟩
  · cases h
  replace h : l.length = 7 := Nat.succ.inj h
  rcases l with _ | ⟨a59, l⟩
  · cases h
  replace h : l.length = 6 := Nat.succ.inj h
  rcases l with _ | ⟨a60, l⟩
  · cases h
  replace h : l.length = 5 := Nat.succ.inj h
  rcases l with _ | ⟨a61, l⟩
  · cases h
  replace h : l.length = 4 := Nat.succ.inj h
  rcases l with _ | ⟨a62, l⟩
  · cases h
  replace h : l.length = 3 := Nat.succ.inj h
  rcases l with _ | ⟨a63, l⟩
  · cases h
  replace h : l.length = 2 := Nat.succ.inj h
  rcases l with _ | ⟨a64, l⟩
  · cases h
  replace h : l.length = 1 := Nat.succ.inj h
  rcases l with _ | ⟨a65, l⟩
  · cases h
  replace h : l.length = 0 := Nat.succ.inj h
  obtain rfl := List.eq_nil_of_length_eq_zero h
  rfl
end Go.Proofs.YtkhbbapocamlmaaDoor
namespace Go.Proofs.YtkhbbapocamlmaaDoor
open Go Go.RowKit

/-- What the writing of a function owes. -/
def GFn (fnT : Fn → List UInt8) (f : Fn) : Prop := ∀ (B b : Nat) (fv : FV) (bs : List UInt8) (W : World), Wr B b (Lib.byteCells bs) ((0 : Nat) : Int) W → LB B W → B ≤ W.heap.size → IsFn1 (fun g => 0 ≤ g) W f fv → bs.length + (fnT f).length ≤ 100000000000000 →
  Calls Tryd.prog 23 #[.pointer (some ⟨b, 0, none⟩), .agg #[.int .i64 f.a, .string (bstr f.nm), fv.p, .bool f.tr, .bool f.sc, fv.b, .int .i64 f.ret.k, .int .i64 f.ret.op, .int .i64 f.ret.n, .string (bstr f.ret.nm), fv.k, .int .i64 f.ret.a]] W fun e w' => e = .returned (.tuple #[]) ∧ Wr B b (Lib.byteCells (bs ++ fnT f)) ((0 : Nat) : Int) w' ∧ KW B b W w'
def progT (fnT : Fn → List UInt8) (p : Pg) : List UInt8 := p.ls.flatMap lkT ++ (p.gs.flatMap glT ++ (p.fs.flatMap fnT ++ p.ths.flatMap thT))
theorem flat_succ {α : Type} (f : α → List UInt8) (l : List α) (k : Nat) (x : α) (h : l[k]? = some x) : (l.take (k + 1)).flatMap f = (l.take k).flatMap f ++ f x := by
  rw [List.take_add_one, h]
  simp
theorem flat_le {α : Type} (f : α → List UInt8) (l : List α) (k : Nat) : ((l.take k).flatMap f).length ≤ (l.flatMap f).length := by
  have h := congrArg List.length (congrArg (List.flatMap f) (List.take_append_drop k l))
  rw [List.flatMap_append, List.length_append] at h
  omega
theorem own_some {B T k n : Nat} {w : World} {v : Value} {xs : List Value} (h : w.ownsRow B T k v n xs) (hn : 0 < n) : ∃ g c, v = .slice (some ⟨g, 0, none⟩) n c ∧ g < w.heap.size ∧ ∀ j u, xs[j]? = some u → w.cell? ⟨g, j, none⟩ = some u := by
  have hc := fun g hg => h.cells (g := g) hg
  rcases h.2 with ⟨_, h0⟩ | ⟨g, cap, cur, rfl, _, hg, _⟩
  · omega
  · exact ⟨g, cap, rfl, (Array.getElem?_eq_some_iff.1 hg).1, fun j u hu => by
      have h1 := hc g rfl j u hu
      by_cases hj : j = 0
      · subst hj
        simpa [Addr.add] using h1
      · simpa [Addr.add, hj] using h1⟩
set_option maxRecDepth 100000 in
set_option maxHeartbeats 8000000 in
theorem prog_any (fnT : Fn → List UInt8) (p : Pg) (BB : Nat) (W : World) (v0 v1 v2 v3 : Value) (rf : List (Fn × FV)) (rt : List (List Stm × Value)) (R : PRows BB W p v0 v1 v2 v3 rf rt) (L : Laid W) (hgs : ∀ g ∈ p.gs, g.nm.length ≤ 100000 ∧ g.by_.length ≤ 100000 ∧ 0 ≤ g.len ∧ g.len ≤ 64) (hth : ∀ l ∈ p.ths, (∀ s ∈ l, GoodS s) ∧ 1 + cntS l ≤ 1000000) (hfn : ∀ f ∈ p.fs, GFn fnT f)
    (hcn : p.gs.length ≤ 1000000 ∧ p.ls.length ≤ 1000000 ∧ p.fs.length ≤ 1000000 ∧ p.ths.length ≤ 1000000) (T : List UInt8) (hT : progT fnT p = T) (hlen : T.length ≤ 100000000000000) :
    Calls Tryd.prog 9 #[.agg #[v0, v1, v2, v3]] W fun e w' => e = .returned (.string (bstr T)) ∧ Below W.heap.size W w' := by
  obtain ⟨z0, c0, rfl⟩ := own_form R.g
  obtain ⟨z1, c1, rfl⟩ := own_form R.l
  obtain ⟨z2, c2, rfl⟩ := own_form R.f
  obtain ⟨z3, c3, rfl⟩ := own_form R.t
  obtain ⟨A1, hA1⟩ : ∃ A, p.ls.flatMap lkT = A := ⟨_, rfl⟩
  obtain ⟨A2, hA2⟩ : ∃ A, p.gs.flatMap glT = A := ⟨_, rfl⟩
  obtain ⟨A3, hA3⟩ : ∃ A, p.fs.flatMap fnT = A := ⟨_, rfl⟩
  obtain ⟨A4, hA4⟩ : ∃ A, p.ths.flatMap thT = A := ⟨_, rfl⟩
  have hT' : T = A1 ++ (A2 ++ (A3 ++ A4)) := by (rw [← hT, ← hA1, ← hA2, ← hA3, ← hA4]; rfl)
  have hle : A1.length + (A2.length + (A3.length + A4.length)) ≤ 100000000000000 := by (rw [hT'] at hlen; simp only [List.length_append] at hlen; exact hlen)
  have HT' := Lib.hid hT'
  have HA1 := Lib.hid hA1
  have HA2 := Lib.hid hA2
  have HA3 := Lib.hid hA3
  have HA4 := Lib.hid hA4
  have hB2 : Below W.heap.size W ((W.alloc (.cells #[.slice z0 p.gs.length c0, .slice z1 p.ls.length c1, .slice z2 p.fs.length c2, .slice z3 p.ths.length c3] 28)).alloc (.cells #[.pointer none, .slice none 0 0, .int .i64 0] 64)) := ((Below.refl _ _).alloc (Nat.le_refl _) _).alloc (by simp) _
  have hPB := PgBlk.new (X := W) (n := W.heap.size) (p0 := .slice z0 p.gs.length c0) (p1 := .slice z1 p.ls.length c1) (p2 := .slice z2 p.fs.length c2) (p3 := .slice z3 p.ths.length c3) rfl
  have hWN := wr_new (W.alloc (.cells #[.slice z0 p.gs.length c0, .slice z1 p.ls.length c1, .slice z2 p.fs.length c2, .slice z3 p.ths.length c3] 28)) 0
  have hLN := lb_new (L.below (below_of_alloc W (.cells #[.slice z0 p.gs.length c0, .slice z1 p.ls.length c1, .slice z2 p.fs.length c2, .slice z3 p.ths.length c3] 28))) (.cells #[.pointer none, .slice none 0 0, .int .i64 0] 64)
  obtain ⟨ng, hng⟩ : ∃ n, p.gs.length = n := ⟨_, rfl⟩
  obtain ⟨nl, hnl⟩ : ∃ n, p.ls.length = n := ⟨_, rfl⟩
  obtain ⟨nf, hnf⟩ : ∃ n, p.fs.length = n := ⟨_, rfl⟩
  obtain ⟨nt, hnt⟩ : ∃ n, p.ths.length = n := ⟨_, rfl⟩
  have Rg := R.g
  have Rl := R.l
  have Rf := R.f
  have Rt := R.t
  rw [hng] at Rg
  rw [hnl] at Rl
  rw [hnf] at Rf
  rw [hnt] at Rt
  rw [hng, hnl, hnf, hnt] at hB2 hPB hWN hLN ⊢
  simp only [World.size_alloc] at hWN hLN
  have hPB0 : PgBlk (W.alloc (.cells #[.slice z0 ng c0, .slice z1 nl c1, .slice z2 nf c2, .slice z3 nt c3] 28)) W.heap.size _ _ _ _ := hPB
  obtain ⟨gpl, ⟨pc0, pc1, pc2, pc3⟩, _⟩ := hPB0.facts
  have HRX : Hid ((∀ q ∈ rf, IsFn1 (fun g => 0 ≤ g) W q.1 q.2) ∧ (∀ q ∈ rt, IsSts (fun g => 0 ≤ g) W q.1 q.2) ∧ rf.map (·.1) = p.fs ∧ rt.map (·.1) = p.ths) := Lib.hid ⟨fun q hq => (R.xf q hq).low (Nat.zero_le _), fun q hq => (R.xt q hq).lo (Nat.zero_le _), R.ef, R.et⟩
  have HHY := Lib.hid (And.intro hgs (And.intro hth hfn))
  have HN := Lib.hid (And.intro hng (And.intro hnl (And.intro hnf hnt)))
  rw [hng, hnl, hnf, hnt] at hcn
  have hPB0' := hPB0
  clear R hT hT' hA1 hA2 hA3 hA4 L hgs hth hfn hlen hng hnl hnf hnt hPB0
  go_enter Tryd.func9, Tryd.ntmps9
  go_wp2
  refine name_world ?_
  intro W2 hW2
  rw [← hW2] at hB2 hWN hLN
  have HB2 := Lib.hid hB2
  have HW2 : Hid (Wr (W.heap.size + 1) (W.heap.size + 1) (Lib.byteCells []) ((0 : Nat) : Int) W2) := Lib.hid hWN
  have HL2 := Lib.hid hLN
  have HPB : Hid (PgBlk W2 W.heap.size (.slice z0 ng c0) (.slice z1 nl c1) (.slice z2 nf c2) (.slice z3 nt c3)) := Lib.hid (by (rw [hW2]; exact (hPB0'.of (Below.heap_alloc _ _ _ (by simp)))))
  have hs2 : W.heap.size + 2 = W2.heap.size := by (rw [hW2]; simp)
  have HRg := Lib.hid (own_below Rg hB2)
  have HRl := Lib.hid (own_below Rl hB2)
  have HRf := Lib.hid (own_below Rf hB2)
  have HRt := Lib.hid (own_below Rt hB2)
  clear hW2 hB2 hPB hWN hLN Rg Rl Rf Rt hPB0' gpl pc0 pc1 pc2 pc3
  go_loopw [15] (fun i wr => ∃ k : Nat, i = .int .i64 k ∧ k ≤ nl ∧ Wr (W.heap.size + 1) (W.heap.size + 1) (Lib.byteCells ([] ++ (p.ls.take k).flatMap lkT)) ((0 : Nat) : Int) wr ∧ KW (W.heap.size + 1) (W.heap.size + 1) W2 wr) (fun i _ => nl - (intOf i).toNat)
  case atStart => exact ⟨0, rfl, Nat.zero_le _, by simpa using HW2.out, KW.refl _ _ _⟩
  case round =>
    obtain ⟨k0, rfl, hk, hX, hKx⟩ := hrel
    have HX0 := Lib.hid hX
    have HK0 := Lib.hid hKx
    have hz0 := hKx.size
    have HLX0 := Lib.hid (HL2.out.b hKx.1)
    have hfl0 := flat_le lkT p.ls k0
    have hrow := hKx.row HW2.out HRl.out (by decide)
    by_cases hkl : k0 < nl
    · obtain ⟨g, cg, hv, hgl, hcell⟩ := own_some hrow (by omega)
      cases hv
      have hlt : (k0 : Int) < (nl : Int) := by omega
      have hk0 : (0 : Int) ≤ (k0 : Int) := Int.natCast_nonneg _
      obtain ⟨x, hx⟩ : ∃ x, p.ls[k0]? = some x := ⟨_, List.getElem?_eq_getElem (by (have := HN.out; omega))⟩
      have hxm := List.mem_of_getElem? hx
      have hsu := flat_succ lkT p.ls k0 x hx
      have hfs := flat_le lkT p.ls (k0 + 1)
      rw [hsu, List.length_append, HA1.out] at hfs
      have HSU := Lib.hid hsu
      have hln : ([] ++ (p.ls.take k0).flatMap lkT).length + (lkT x).length ≤ 100000000000000 := by (simp only [List.length_append, List.length_nil]; omega)
      have d0 := hcell (k0 * 2 + 0) (.int .i64 x.a) (plain_at (f := lkCells) (n := 2) (fun _ => rfl) p.ls k0 x 0 _ hx rfl)
      rw [Nat.add_zero] at d0
      have d1 := hcell (k0 * 2 + 1) (.string (bstr x.nm)) (plain_at (f := lkCells) (n := 2) (fun _ => rfl) p.ls k0 x 1 _ hx rfl)
      have hA := below_of_alloc wr (.cells #[.int .i64 x.a, .string (bstr x.nm)] 66)
      obtain ⟨_, ⟨bc0, bc1⟩, _⟩ := (KBlk.new (X := wr) (n := wr.heap.size) (a := x.a) (nm := bstr x.nm) rfl).facts
      have HCS : Hid ((#[.string ⟨#[108, 111, 99, 107, 32]⟩, .string (bstr (x.nm)), .string ⟨#[59]⟩] : Array Value) = ([tLock, x.nm, [59]].map fun p => Value.string (bstr p)).toArray) := Lib.hid (by rfl)
      have HTL : lineT 0 [tLock, x.nm, [59]] = lkT x := rfl
      have HBS := Lib.hid (HX0.out.stay hA)
      have hB9 : W.heap.size + 1 ≤ (wr.alloc (.cells #[.int .i64 x.a, .string (bstr x.nm)] 66)).heap.size := by (simp; omega)
      clear hX hKx hrow hcell hsu hx hxm hA
      go_wp2_with (go_at_call 20; (with_reducible refine (line_at _ _ _ _ 3 _ 0 [tLock, x.nm, [59]] rfl (lkT x) HTL _ HCS _ (Lib.hid (HBS.out.alloc _)) (alloc2_new _ _ _) hln (by (simp; omega)) (by decide)).mono ?_); rintro e9 w9 ⟨rfl, hw9, hk9⟩)
      go_roundw
      case rel =>
        refine ⟨k0 + 1, by go_num, Nat.succ_le_of_lt hkl, ?_, HK0.out.trans ((KW.below (by omega) (below_of_alloc wr (.cells #[.int .i64 x.a, .string (bstr x.nm)] 66))).trans ((KW.alloc (.refl _ _ _) hB9 _).trans hk9))⟩
        rw [HSU.out, ← List.append_assoc]
        exact hw9
      case measure =>
        simp [intOf]
        omega
    · have hlt : ¬ ((k0 : Int) < (nl : Int)) := by omega
      obtain rfl : nl = k0 := by omega
      have hXe : Wr (W.heap.size + 1) (W.heap.size + 1) (Lib.byteCells A1) ((0 : Nat) : Int) wr := by (have e : p.ls.take nl = p.ls := (by rw [← HN.out.2.1]; exact List.take_length); rw [e, HA1.out] at hX; first | exact hX | simpa using hX)
      have HE0 := Lib.hid hXe
      have HPX0 : Hid (PgBlk wr W.heap.size (.slice z0 ng c0) (.slice z1 nl c1) (.slice z2 nf c2) (.slice z3 nt c3)) := Lib.hid (hKx.keep HW2.out HPB.out (by decide))
      obtain ⟨gpl, ⟨pc0, pc1, pc2, pc3⟩, _⟩ := HPX0.out.facts
      clear hX hKx hrow hkl hk hXe hfl0
      go_wp2
      go_loopw [27] (fun i wr => ∃ k : Nat, i = .int .i64 k ∧ k ≤ ng ∧ Wr (W.heap.size + 1) (W.heap.size + 1) (Lib.byteCells (A1 ++ (p.gs.take k).flatMap glT)) ((0 : Nat) : Int) wr ∧ KW (W.heap.size + 1) (W.heap.size + 1) W2 wr) (fun i _ => ng - (intOf i).toNat)
      case atStart => exact ⟨0, rfl, Nat.zero_le _, by simpa using HE0.out, HK0.out⟩
      case round =>
        obtain ⟨k1, rfl, hk, hX, hKx⟩ := hrel
        have HX1 := Lib.hid hX
        have HK1 := Lib.hid hKx
        have hz1 := hKx.size
        have HLX1 := Lib.hid (HL2.out.b hKx.1)
        have hfl1 := flat_le glT p.gs k1
        have hrow := hKx.row HW2.out HRg.out (by decide)
        by_cases hkl : k1 < ng
        · obtain ⟨g, cg, hv, hgl, hcell⟩ := own_some hrow (by omega)
          cases hv
          have hlt : (k1 : Int) < (ng : Int) := by omega
          have hk0 : (0 : Int) ≤ (k1 : Int) := Int.natCast_nonneg _
          obtain ⟨x, hx⟩ : ∃ x, p.gs[k1]? = some x := ⟨_, List.getElem?_eq_getElem (by (have := HN.out; omega))⟩
          have hxm := List.mem_of_getElem? hx
          have hsu := flat_succ glT p.gs k1 x hx
          have hfs := flat_le glT p.gs (k1 + 1)
          rw [hsu, List.length_append, HA2.out] at hfs
          have HSU := Lib.hid hsu
          have hln : (A1 ++ (p.gs.take k1).flatMap glT).length + (glT x).length ≤ 100000000000000 := by (simp only [List.length_append, List.length_nil]; omega)
          have d0 := hcell (k1 * 6 + 0) (.int .i64 x.a) (plain_at (f := glCells) (n := 6) (fun _ => rfl) p.gs k1 x 0 _ hx rfl)
          rw [Nat.add_zero] at d0
          have d1 := hcell (k1 * 6 + 1) (.string (bstr x.nm)) (plain_at (f := glCells) (n := 6) (fun _ => rfl) p.gs k1 x 1 _ hx rfl)
          have d2 := hcell (k1 * 6 + 2) (.bool x.tr) (plain_at (f := glCells) (n := 6) (fun _ => rfl) p.gs k1 x 2 _ hx rfl)
          have d3 := hcell (k1 * 6 + 3) (.bool x.sc) (plain_at (f := glCells) (n := 6) (fun _ => rfl) p.gs k1 x 3 _ hx rfl)
          have d4 := hcell (k1 * 6 + 4) (.int .i64 x.len) (plain_at (f := glCells) (n := 6) (fun _ => rfl) p.gs k1 x 4 _ hx rfl)
          have d5 := hcell (k1 * 6 + 5) (.string (bstr x.by_)) (plain_at (f := glCells) (n := 6) (fun _ => rfl) p.gs k1 x 5 _ hx rfl)
          have hA := below_of_alloc wr (.cells #[.int .i64 x.a, .string (bstr x.nm), .bool x.tr, .bool x.sc, .int .i64 x.len, .string (bstr x.by_)] 39)
          have hgg := HHY.out.1 x hxm
          obtain ⟨_, ⟨bc0, bc1, bc2, bc3, bc4, bc5⟩, _⟩ := (GBlk.new (X := wr) (n := wr.heap.size) (a := x.a) (nm := bstr x.nm) (tr := x.tr) (sc := x.sc) (ln := x.len) (yy := bstr x.by_) rfl).facts
          have hG0 := GBlk.new (X := wr) (n := wr.heap.size) (a := x.a) (nm := bstr x.nm) (tr := x.tr) (sc := x.sc) (ln := x.len) (yy := bstr x.by_) rfl
          have HCS : Hid ((#[.string (bstr (typeT x.tr x.sc)), .string ⟨#[32]⟩, .string (bstr (x.nm)), .string (bstr (lenT x.len)), .string (bstr (byT x.by_)), .string ⟨#[59]⟩] : Array Value) = ([typeT x.tr x.sc, [32], x.nm, lenT x.len, byT x.by_, [59]].map fun p => Value.string (bstr p)).toArray) := Lib.hid (by rfl)
          have HTG : lineT 0 [typeT x.tr x.sc, [32], x.nm, lenT x.len, byT x.by_, [59]] = glT x := rfl
          have HBS := Lib.hid (HX1.out.stay hA)
          have HLL := Lib.hid (HLX1.out.laid.below hA)
          clear hX hKx hrow hcell hsu hx hxm
          go_upto_region 10 with (fail)
          clear bc0 bc1 bc2 bc3 bc4 bc5 d0 d1 d2 d3 d4 d5
          refine name_world ?_
          intro W1 hW1
          rw [← hW1] at hG0 HBS HLL hA
          clear hW1
          have SB := Lib.hid hG0
          have HAA := Lib.hid hA
          have hB9 : W.heap.size + 1 ≤ W1.heap.size := Nat.le_trans (by omega) hA.size
          clear hG0 hA
          refine name_act ?_
          intro a0 ha0
          have p7 : a0.tmps.getD 7 undef = .pointer (some ⟨wr.heap.size, 0, none⟩) := by (rw [ha0]; rfl)
          have p3 : a0.tmps.getD 3 undef = .pointer (some ⟨W.heap.size + 1, 0, none⟩) := by (rw [ha0]; rfl)
          have q1 : a0.tmps.size = 66 := by (rw [ha0]; rfl)
          have q2 : a0.defers = [] := by (rw [ha0])
          have HA0 := Lib.hid ha0
          clear ha0
          obtain ⟨VS, hVS⟩ : ∃ VS : List (Option Value), VS = [some (.pointer (some ⟨wr.heap.size, 2, none⟩)), some (.agg #[.bool x.tr, .bool x.sc]), some (.string (bstr (typeT x.tr x.sc))), some (.pointer (some ⟨wr.heap.size, 1, none⟩)), some (.string (bstr x.nm)), some (.agg #[.int .i64 x.a, .string (bstr x.nm), .bool x.tr, .bool x.sc, .int .i64 x.len, .string (bstr x.by_)]), some (.string (bstr (lenT x.len))), some (.agg #[.int .i64 x.a, .string (bstr x.nm), .bool x.tr, .bool x.sc, .int .i64 x.len, .string (bstr x.by_)]), some (.string (bstr (byT x.by_))), none, none] := ⟨_, rfl⟩
          obtain ⟨ARR, hARR⟩ : ∃ A : Array Value, A = #[.string (bstr (typeT x.tr x.sc)), .string ⟨#[32]⟩, .string (bstr (x.nm)), .string (bstr (lenT x.len)), .string (bstr (byT x.by_)), .string ⟨#[59]⟩] := ⟨_, rfl⟩
          have HCSA : Hid (ARR = ([typeT x.tr x.sc, [32], x.nm, lenT x.len, byT x.by_, [59]].map fun p => Value.string (bstr p)).toArray) := Lib.hid (hARR.trans HCS.out)
          have hRst : ∀ X X' : World, Below X.heap.size X X' → (Wr (W.heap.size + 1) (W.heap.size + 1) (Lib.byteCells (A1 ++ (p.gs.take k1).flatMap glT ++ glT x)) ((0 : Nat) : Int) X ∧ KW (W.heap.size + 1) (W.heap.size + 1) W1 X) → (Wr (W.heap.size + 1) (W.heap.size + 1) (Lib.byteCells (A1 ++ (p.gs.take k1).flatMap glT ++ glT x)) ((0 : Nat) : Int) X' ∧ KW (W.heap.size + 1) (W.heap.size + 1) W1 X') := fun X X' hb h => ⟨h.1.stay hb, h.2.stay (Nat.le_trans hB9 h.2.size) hb⟩
          refine wp_region_any (by kernel_rfl) ?_
          refine wpAny_inv (fun listed a X => GI VS a0.tmps W1 ARR (fun X => Wr (W.heap.size + 1) (W.heap.size + 1) (Lib.byteCells (A1 ++ (p.gs.take k1).flatMap glT ++ glT x)) ((0 : Nat) : Int) X ∧ KW (W.heap.size + 1) (W.heap.size + 1) W1 X) listed a X) ?step ?fin _ _ _ _ ⟨⟨rfl, q1, q2, fun d _ => rfl, fun k v hk _ hl => absurd ((noneG k hk).symm.trans hl) (by simp)⟩, .inl ⟨by rfl, (Below.refl _ _).drew, fun h => absurd ((noneG 9 (by decide)).symm.trans h) (by simp)⟩⟩ (by rfl) (by decide)
          case fin =>
            intro listed a X hI hr
            have hl := all_came (by rw [hI.ins.size]; rfl) hr (by decide +kernel)
            have hR := hI.wd.elim (fun h => absurd (h.1.symm.trans (hl 10 (by decide))) (by simp)) (fun h => h.2)
            have hold := hI.ins.old
            have hsz := hI.ins.tsz
            have hdf := hI.ins.defs
            obtain ⟨hw9, hk9⟩ := hR
            have hlit := arr66 a.tmps hsz
            have t0 : a.tmps.getD 0 undef = .agg #[.slice (some ⟨g, 0, none⟩) ng c0, .slice z1 nl c1, .slice z2 nf c2, .slice z3 nt c3] := (hold 0 (by intro k hk; unfold dstG; omega)).trans (by rw [HA0.out]; rfl)
            have t1 : a.tmps.getD 1 undef = .pointer (some ⟨W.heap.size, 0, none⟩) := (hold 1 (by intro k hk; unfold dstG; omega)).trans (by rw [HA0.out]; rfl)
            have t2 : a.tmps.getD 2 undef = .string ⟨#[]⟩ := (hold 2 (by intro k hk; unfold dstG; omega)).trans (by rw [HA0.out]; rfl)
            have t3 : a.tmps.getD 3 undef = .pointer (some ⟨W.heap.size + 1, 0, none⟩) := (hold 3 (by intro k hk; unfold dstG; omega)).trans (by rw [HA0.out]; rfl)
            have t4 : a.tmps.getD 4 undef = undef := (hold 4 (by intro k hk; unfold dstG; omega)).trans (by rw [HA0.out]; rfl)
            have t5 : a.tmps.getD 5 undef = u5 := (hold 5 (by intro k hk; unfold dstG; omega)).trans (by rw [HA0.out]; rfl)
            have t6 : a.tmps.getD 6 undef = undef := (hold 6 (by intro k hk; unfold dstG; omega)).trans (by rw [HA0.out]; rfl)
            have t7 : a.tmps.getD 7 undef = .pointer (some ⟨wr.heap.size, 0, none⟩) := (hold 7 (by intro k hk; unfold dstG; omega)).trans (by rw [HA0.out]; rfl)
            have t8 : a.tmps.getD 8 undef = undef := (hold 8 (by intro k hk; unfold dstG; omega)).trans (by rw [HA0.out]; rfl)
            have t9 : a.tmps.getD 9 undef = undef := (hold 9 (by intro k hk; unfold dstG; omega)).trans (by rw [HA0.out]; rfl)
            have t10 : a.tmps.getD 10 undef = undef := (hold 10 (by intro k hk; unfold dstG; omega)).trans (by rw [HA0.out]; rfl)
            have t11 : a.tmps.getD 11 undef = undef := (hold 11 (by intro k hk; unfold dstG; omega)).trans (by rw [HA0.out]; rfl)
            have t12 : a.tmps.getD 12 undef = .pointer (some ⟨W.heap.size, 1, none⟩) := (hold 12 (by intro k hk; unfold dstG; omega)).trans (by rw [HA0.out]; rfl)
            have t13 : a.tmps.getD 13 undef = .slice z1 nl c1 := (hold 13 (by intro k hk; unfold dstG; omega)).trans (by rw [HA0.out]; rfl)
            have t14 : a.tmps.getD 14 undef = .int .i64 nl := (hold 14 (by intro k hk; unfold dstG; omega)).trans (by rw [HA0.out]; rfl)
            have t15 : a.tmps.getD 15 undef = .int .i64 nl := (hold 15 (by intro k hk; unfold dstG; omega)).trans (by rw [HA0.out]; rfl)
            have t16 : a.tmps.getD 16 undef = .bool false := (hold 16 (by intro k hk; unfold dstG; omega)).trans (by rw [HA0.out]; rfl)
            have t17 : a.tmps.getD 17 undef = u17 := (hold 17 (by intro k hk; unfold dstG; omega)).trans (by rw [HA0.out]; rfl)
            have t18 : a.tmps.getD 18 undef = u18 := (hold 18 (by intro k hk; unfold dstG; omega)).trans (by rw [HA0.out]; rfl)
            have t19 : a.tmps.getD 19 undef = u19 := (hold 19 (by intro k hk; unfold dstG; omega)).trans (by rw [HA0.out]; rfl)
            have t20 : a.tmps.getD 20 undef = u20 := (hold 20 (by intro k hk; unfold dstG; omega)).trans (by rw [HA0.out]; rfl)
            have t21 : a.tmps.getD 21 undef = u21 := (hold 21 (by intro k hk; unfold dstG; omega)).trans (by rw [HA0.out]; rfl)
            have t22 : a.tmps.getD 22 undef = u22 := (hold 22 (by intro k hk; unfold dstG; omega)).trans (by rw [HA0.out]; rfl)
            have t23 : a.tmps.getD 23 undef = u23 := (hold 23 (by intro k hk; unfold dstG; omega)).trans (by rw [HA0.out]; rfl)
            have t24 : a.tmps.getD 24 undef = .pointer (some ⟨W.heap.size, 0, none⟩) := (hold 24 (by intro k hk; unfold dstG; omega)).trans (by rw [HA0.out]; rfl)
            have t25 : a.tmps.getD 25 undef = .slice (some ⟨g, 0, none⟩) ng c0 := (hold 25 (by intro k hk; unfold dstG; omega)).trans (by rw [HA0.out]; rfl)
            have t26 : a.tmps.getD 26 undef = .int .i64 ng := (hold 26 (by intro k hk; unfold dstG; omega)).trans (by rw [HA0.out]; rfl)
            have t27 : a.tmps.getD 27 undef = .int .i64 k1 := (hold 27 (by intro k hk; unfold dstG; omega)).trans (by rw [HA0.out]; rfl)
            have t28 : a.tmps.getD 28 undef = .bool true := (hold 28 (by intro k hk; unfold dstG; omega)).trans (by rw [HA0.out]; rfl)
            have t29 : a.tmps.getD 29 undef = .pointer (some ⟨g, k1 * 6, none⟩) := (hold 29 (by intro k hk; unfold dstG; omega)).trans (by rw [HA0.out]; rfl)
            have t30 : a.tmps.getD 30 undef = .agg #[.int .i64 x.a, .string (bstr x.nm), .bool x.tr, .bool x.sc, .int .i64 x.len, .string (bstr x.by_)] := (hold 30 (by intro k hk; unfold dstG; omega)).trans (by rw [HA0.out]; rfl)
            have t42 : a.tmps.getD 42 undef = u42 := (hold 42 (by intro k hk; unfold dstG; omega)).trans (by rw [HA0.out]; rfl)
            have t43 : a.tmps.getD 43 undef = undef := (hold 43 (by intro k hk; unfold dstG; omega)).trans (by rw [HA0.out]; rfl)
            have t44 : a.tmps.getD 44 undef = undef := (hold 44 (by intro k hk; unfold dstG; omega)).trans (by rw [HA0.out]; rfl)
            have t45 : a.tmps.getD 45 undef = undef := (hold 45 (by intro k hk; unfold dstG; omega)).trans (by rw [HA0.out]; rfl)
            have t46 : a.tmps.getD 46 undef = undef := (hold 46 (by intro k hk; unfold dstG; omega)).trans (by rw [HA0.out]; rfl)
            have t47 : a.tmps.getD 47 undef = undef := (hold 47 (by intro k hk; unfold dstG; omega)).trans (by rw [HA0.out]; rfl)
            have t48 : a.tmps.getD 48 undef = undef := (hold 48 (by intro k hk; unfold dstG; omega)).trans (by rw [HA0.out]; rfl)
            have t49 : a.tmps.getD 49 undef = undef := (hold 49 (by intro k hk; unfold dstG; omega)).trans (by rw [HA0.out]; rfl)
            have t50 : a.tmps.getD 50 undef = undef := (hold 50 (by intro k hk; unfold dstG; omega)).trans (by rw [HA0.out]; rfl)
            have t51 : a.tmps.getD 51 undef = undef := (hold 51 (by intro k hk; unfold dstG; omega)).trans (by rw [HA0.out]; rfl)
            have t52 : a.tmps.getD 52 undef = undef := (hold 52 (by intro k hk; unfold dstG; omega)).trans (by rw [HA0.out]; rfl)
            have t53 : a.tmps.getD 53 undef = undef := (hold 53 (by intro k hk; unfold dstG; omega)).trans (by rw [HA0.out]; rfl)
            have t54 : a.tmps.getD 54 undef = undef := (hold 54 (by intro k hk; unfold dstG; omega)).trans (by rw [HA0.out]; rfl)
            have t55 : a.tmps.getD 55 undef = undef := (hold 55 (by intro k hk; unfold dstG; omega)).trans (by rw [HA0.out]; rfl)
            have t56 : a.tmps.getD 56 undef = undef := (hold 56 (by intro k hk; unfold dstG; omega)).trans (by rw [HA0.out]; rfl)
            have t57 : a.tmps.getD 57 undef = undef := (hold 57 (by intro k hk; unfold dstG; omega)).trans (by rw [HA0.out]; rfl)
            have t58 : a.tmps.getD 58 undef = undef := (hold 58 (by intro k hk; unfold dstG; omega)).trans (by rw [HA0.out]; rfl)
            have t59 : a.tmps.getD 59 undef = undef := (hold 59 (by intro k hk; unfold dstG; omega)).trans (by rw [HA0.out]; rfl)
            have t60 : a.tmps.getD 60 undef = undef := (hold 60 (by intro k hk; unfold dstG; omega)).trans (by rw [HA0.out]; rfl)
            have t61 : a.tmps.getD 61 undef = undef := (hold 61 (by intro k hk; unfold dstG; omega)).trans (by rw [HA0.out]; rfl)
            have t62 : a.tmps.getD 62 undef = undef := (hold 62 (by intro k hk; unfold dstG; omega)).trans (by rw [HA0.out]; rfl)
            have t63 : a.tmps.getD 63 undef = undef := (hold 63 (by intro k hk; unfold dstG; omega)).trans (by rw [HA0.out]; rfl)
            have t64 : a.tmps.getD 64 undef = undef := (hold 64 (by intro k hk; unfold dstG; omega)).trans (by rw [HA0.out]; rfl)
            have t65 : a.tmps.getD 65 undef = undef := (hold 65 (by intro k hk; unfold dstG; omega)).trans (by rw [HA0.out]; rfl)
            rw [t0, t1, t2, t3, t4, t5, t6, t7, t8, t9, t10, t11, t12, t13, t14, t15, t16, t17, t18, t19, t20, t21, t22, t23, t24, t25, t26, t27, t28, t29, t30, t42, t43, t44, t45, t46, t47, t48, t49, t50, t51, t52, t53, t54, t55, t56, t57, t58, t59, t60, t61, t62, t63, t64, t65] at hlit
            clear t0 t1 t2 t3 t4 t5 t6 t7 t8 t9 t10 t11 t12 t13 t14 t15 t16 t17 t18 t19 t20 t21 t22 t23 t24 t25 t26 t27 t28 t29 t30 t42 t43 t44 t45 t46 t47 t48 t49 t50 t51 t52 t53 t54 t55 t56 t57 t58 t59 t60 t61 t62 t63 t64 t65 hold
            generalize a.tmps.getD 31 undef = r31 at hlit
            generalize a.tmps.getD 32 undef = r32 at hlit
            generalize a.tmps.getD 33 undef = r33 at hlit
            generalize a.tmps.getD 34 undef = r34 at hlit
            generalize a.tmps.getD 35 undef = r35 at hlit
            generalize a.tmps.getD 36 undef = r36 at hlit
            generalize a.tmps.getD 37 undef = r37 at hlit
            generalize a.tmps.getD 38 undef = r38 at hlit
            generalize a.tmps.getD 39 undef = r39 at hlit
            generalize a.tmps.getD 40 undef = r40 at hlit
            generalize a.tmps.getD 41 undef = r41 at hlit
            have ha : a = { tmps := #[.agg #[.slice (some ⟨g, 0, none⟩) ng c0, .slice z1 nl c1, .slice z2 nf c2, .slice z3 nt c3], .pointer (some ⟨W.heap.size, 0, none⟩), .string ⟨#[]⟩, .pointer (some ⟨W.heap.size + 1, 0, none⟩), undef, u5, undef, .pointer (some ⟨wr.heap.size, 0, none⟩), undef, undef, undef, undef, .pointer (some ⟨W.heap.size, 1, none⟩), .slice z1 nl c1, .int .i64 nl, .int .i64 nl, .bool false, u17, u18, u19, u20, u21, u22, u23, .pointer (some ⟨W.heap.size, 0, none⟩), .slice (some ⟨g, 0, none⟩) ng c0, .int .i64 ng, .int .i64 k1, .bool true, .pointer (some ⟨g, k1 * 6, none⟩), .agg #[.int .i64 x.a, .string (bstr x.nm), .bool x.tr, .bool x.sc, .int .i64 x.len, .string (bstr x.by_)], r31, r32, r33, r34, r35, r36, r37, r38, r39, r40, r41, u42, undef, undef, undef, undef, undef, undef, undef, undef, undef, undef, undef, undef, undef, undef, undef, undef, undef, undef, undef, undef, undef, undef, undef], defers := [] } := by (cases a; simp only at hlit hdf; rw [hlit, hdf])
            rw [ha]
            clear ha hlit hdf hsz hl hr hI HA0 p7 p3 q1 q2 hVS hARR HCSA hRst
            go_wp2
            go_roundw
            case rel =>
              refine ⟨k1 + 1, by go_num, Nat.succ_le_of_lt hkl, ?_, HK1.out.trans ((KW.below (by omega) HAA.out).trans hk9)⟩
              rw [HSU.out, ← List.append_assoc]
              exact hw9
            case measure =>
              simp [intOf]
              omega
          case step =>
            intro listed a X k hI hk
            have hlt : k < 11 := List.mem_range.1 (List.mem_filter.1 hk).1
            have hk2 := (List.mem_filter.1 hk).2
            have hls : listed.size = 11 := hI.ins.size
            have o7 : a.eval (.tmp 7) = .pointer (some ⟨wr.heap.size, 0, none⟩) := (hI.ins.old 7 (by intro k hk; unfold dstG; omega)).trans p7
            have o3 : a.eval (.tmp 3) = .pointer (some ⟨W.heap.size + 1, 0, none⟩) := (hI.ins.old 3 (by intro k hk; unfold dstG; omega)).trans p3
            have hBX : GBlk X wr.heap.size x.a (bstr x.nm) x.tr x.sc x.len (bstr x.by_) := hI.wd.elim (fun h => SB.out.stay h.2.1) (fun h => h.2.2.keep HBS.out SB.out (by decide))
            obtain ⟨gl9, ⟨bc0, bc1, bc2, bc3, bc4, bc5⟩, _⟩ := hBX.facts
            have hLX : Laid X := hI.wd.elim (fun h => HLL.out.below h.2.1) (fun h => ((HLX1.out.b (HAA.out.mono (by omega))).b h.2.2.1).laid)
            have hcase : k = 0 ∨ k = 1 ∨ k = 2 ∨ k = 3 ∨ k = 4 ∨ k = 5 ∨ k = 6 ∨ k = 7 ∨ k = 8 ∨ k = 9 ∨ k = 10 := by omega
            rcases hcase with rfl | rfl | rfl | rfl | rfl | rfl | rfl | rfl | rfl | rfl | rfl
            · refine wpOp_of rfl rfl ?_
              exact wp_val (v := .pointer (some ⟨wr.heap.size, 2, none⟩)) (run_fieldAddr rfl o7 (by go_simp)) (hI.put 0 31 _ (by decide) rfl (fun u e => by (rw [hVS] at e; cases e; rfl)) (Below.refl _ _) id)
            · have hd0 : listed.getD 0 false = true := by simp [Region.binds] at hk2; simp only [Array.getD_eq_getD_getElem?]; simp [hk2]
              have e0 : a.eval (.tmp 31) = .pointer (some ⟨wr.heap.size, 2, none⟩) := hI.ins.new 0 _ (by decide) (by rw [hVS]; rfl) hd0
              refine wpOp_of rfl rfl ?_
              exact wp_val (v := .agg #[.bool x.tr, .bool x.sc]) (run_load rfl e0 (by go_simp)) (hI.put 1 32 _ (by decide) rfl (fun u e => by (rw [hVS] at e; cases e; rfl)) (Below.refl _ _) id)
            · have hd1 : listed.getD 1 false = true := by simp [Region.binds] at hk2; simp only [Array.getD_eq_getD_getElem?]; simp [hk2]
              have e1 : a.eval (.tmp 32) = .agg #[.bool x.tr, .bool x.sc] := hI.ins.new 1 _ (by decide) (by rw [hVS]; rfl) hd1
              refine wpOp_of rfl rfl ?_
              refine wp_enter (f := 13) (args := #[a.eval (.tmp 32)]) ((Go.Conc.run_call_body rfl Tryd.func13 (by kernel_rfl) (by kernel_rfl)).trans (by simp)) ?_
              rw [e1]
              refine (type_any x.tr x.sc X).mono ?_
              rintro e w' ⟨rfl, hb⟩
              exact ⟨.string (bstr (typeT x.tr x.sc)), rfl, hI.put 2 33 _ (by decide) rfl (fun u e => by (rw [hVS] at e; cases e; rfl)) hb (hRst _ _ hb)⟩
            · refine wpOp_of rfl rfl ?_
              exact wp_val (v := .pointer (some ⟨wr.heap.size, 1, none⟩)) (run_fieldAddr rfl o7 (by go_simp)) (hI.put 3 34 _ (by decide) rfl (fun u e => by (rw [hVS] at e; cases e; rfl)) (Below.refl _ _) id)
            · have hd3 : listed.getD 3 false = true := by simp [Region.binds] at hk2; simp only [Array.getD_eq_getD_getElem?]; simp [hk2]
              have e3 : a.eval (.tmp 34) = .pointer (some ⟨wr.heap.size, 1, none⟩) := hI.ins.new 3 _ (by decide) (by rw [hVS]; rfl) hd3
              refine wpOp_of rfl rfl ?_
              exact wp_val (v := .string (bstr x.nm)) (run_load rfl e3 (by go_simp)) (hI.put 4 35 _ (by decide) rfl (fun u e => by (rw [hVS] at e; cases e; rfl)) (Below.refl _ _) id)
            · refine wpOp_of rfl rfl ?_
              exact wp_val (v := .agg #[.int .i64 x.a, .string (bstr x.nm), .bool x.tr, .bool x.sc, .int .i64 x.len, .string (bstr x.by_)]) (run_load rfl o7 (by go_simp)) (hI.put 5 36 _ (by decide) rfl (fun u e => by (rw [hVS] at e; cases e; rfl)) (Below.refl _ _) id)
            · have hd5 : listed.getD 5 false = true := by simp [Region.binds] at hk2; simp only [Array.getD_eq_getD_getElem?]; simp [hk2]
              have e5 : a.eval (.tmp 36) = .agg #[.int .i64 x.a, .string (bstr x.nm), .bool x.tr, .bool x.sc, .int .i64 x.len, .string (bstr x.by_)] := hI.ins.new 5 _ (by decide) (by rw [hVS]; rfl) hd5
              refine wpOp_of rfl rfl ?_
              refine wp_enter (f := 21) (args := #[a.eval (.tmp 36)]) ((Go.Conc.run_call_body rfl Tryd.func21 (by kernel_rfl) (by kernel_rfl)).trans (by simp)) ?_
              rw [e5]
              refine (length_any x.a (bstr x.nm) x.tr x.sc x.len (bstr x.by_) hgg.2.2.1 hgg.2.2.2 X (Lib.hid hLX)).mono ?_
              rintro e w' ⟨rfl, hb⟩
              exact ⟨.string (bstr (lenT x.len)), rfl, hI.put 6 37 _ (by decide) rfl (fun u e => by (rw [hVS] at e; cases e; rfl)) hb (hRst _ _ hb)⟩
            · refine wpOp_of rfl rfl ?_
              exact wp_val (v := .agg #[.int .i64 x.a, .string (bstr x.nm), .bool x.tr, .bool x.sc, .int .i64 x.len, .string (bstr x.by_)]) (run_load rfl o7 (by go_simp)) (hI.put 7 38 _ (by decide) rfl (fun u e => by (rw [hVS] at e; cases e; rfl)) (Below.refl _ _) id)
            · have hd7 : listed.getD 7 false = true := by simp [Region.binds] at hk2; simp only [Array.getD_eq_getD_getElem?]; simp [hk2]
              have e7 : a.eval (.tmp 38) = .agg #[.int .i64 x.a, .string (bstr x.nm), .bool x.tr, .bool x.sc, .int .i64 x.len, .string (bstr x.by_)] := hI.ins.new 7 _ (by decide) (by rw [hVS]; rfl) hd7
              refine wpOp_of rfl rfl ?_
              refine wp_enter (f := 22) (args := #[a.eval (.tmp 38)]) ((Go.Conc.run_call_body rfl Tryd.func22 (by kernel_rfl) (by kernel_rfl)).trans (by simp)) ?_
              rw [e7]
              refine (guard_any x.a (bstr x.nm) x.tr x.sc x.len x.by_ hgg.2.1 X).mono ?_
              rintro e w' ⟨rfl, hb⟩
              exact ⟨.string (bstr (byT x.by_)), rfl, hI.put 8 39 _ (by decide) rfl (fun u e => by (rw [hVS] at e; cases e; rfl)) hb (hRst _ _ hb)⟩
            · have hd2 : listed.getD 2 false = true := by simp [Region.binds] at hk2; simp only [Array.getD_eq_getD_getElem?]; simp [hk2]
              have e2 : a.eval (.tmp 33) = .string (bstr (typeT x.tr x.sc)) := hI.ins.new 2 _ (by decide) (by rw [hVS]; rfl) hd2
              have hd4 : listed.getD 4 false = true := by simp [Region.binds] at hk2; simp only [Array.getD_eq_getD_getElem?]; simp [hk2]
              have e4 : a.eval (.tmp 35) = .string (bstr x.nm) := hI.ins.new 4 _ (by decide) (by rw [hVS]; rfl) hd4
              have hd6 : listed.getD 6 false = true := by simp [Region.binds] at hk2; simp only [Array.getD_eq_getD_getElem?]; simp [hk2]
              have e6 : a.eval (.tmp 37) = .string (bstr (lenT x.len)) := hI.ins.new 6 _ (by decide) (by rw [hVS]; rfl) hd6
              have hd8 : listed.getD 8 false = true := by simp [Region.binds] at hk2; simp only [Array.getD_eq_getD_getElem?]; simp [hk2]
              have e8 : a.eval (.tmp 39) = .string (bstr (byT x.by_)) := hI.ins.new 8 _ (by decide) (by rw [hVS]; rfl) hd8
              refine wpOp_of rfl rfl ?_
              refine wp_val9 ?_ (hI.nine hls (by rw [hVS]; rfl) (hRst _ _ (below_of_alloc _ _)))
              refine run_build (t := 95) (n := 6) rfl ?_
              rw [hARR]
              simp [e2, e4, e6, e8]
              go_simp
            · have hd9 : listed.getD 9 false = true := by simp [Region.binds] at hk2; simp only [Array.getD_eq_getD_getElem?]; simp [hk2]
              refine wpOp_of rfl rfl ?_
              have hl10 : listed.getD 10 false = false := by (have h9 := (mem_ready.1 hk).1; rw [Array.getD_eq_getD_getElem?] at h9 ⊢; rw [Array.getElem?_eq_getElem (by omega)] at h9 ⊢; exact h9)
              obtain ⟨hXb, g9, e9, hrow9⟩ : Below W1.heap.size W1 X ∧ ∃ g, a.tmps.getD 40 undef = .slice (some ⟨g, 0, none⟩) 6 6 ∧ X.heap[g]? = some (.cells ARR 9 (0, 0)) := hI.wd.elim (fun h => ⟨h.2.1, h.2.2 hd9⟩) (fun h => absurd (hl10.symm.trans h.1) (by simp))
              have e40 : a.eval (.tmp 40) = .slice (some ⟨g9, 0, none⟩) 6 6 := e9
              refine wp_enter (f := 20) (args := #[a.eval (.tmp 3), a.eval (.tmp 40)]) ((Go.Conc.run_call_body rfl Tryd.func20 (by kernel_rfl) (by kernel_rfl)).trans (by simp)) ?_
              rw [o3, e40]
              refine (line_at _ _ g9 6 6 _ 0 [typeT x.tr x.sc, [32], x.nm, lenT x.len, byT x.by_, [59]] rfl (glT x) HTG ARR HCSA X (Lib.hid (HBS.out.stay hXb)) hrow9 hln (Nat.le_trans hB9 hXb.size) (by decide)).mono ?_
              rintro e w' ⟨rfl, hw, hk⟩
              exact ⟨_, rfl, hI.ten hls _ (by rw [hVS]; rfl) ⟨hw, (KW.below hB9 hXb).trans hk⟩⟩
        · have hlt : ¬ ((k1 : Int) < (ng : Int)) := by omega
          obtain rfl : ng = k1 := by omega
          have hXe : Wr (W.heap.size + 1) (W.heap.size + 1) (Lib.byteCells (A1 ++ A2)) ((0 : Nat) : Int) wr := by (have e : p.gs.take ng = p.gs := (by rw [← HN.out.1]; exact List.take_length); rw [e, HA2.out] at hX; first | exact hX | simpa using hX)
          have HE1 := Lib.hid hXe
          have HPX1 : Hid (PgBlk wr W.heap.size (.slice z0 ng c0) (.slice z1 nl c1) (.slice z2 nf c2) (.slice z3 nt c3)) := Lib.hid (hKx.keep HW2.out HPB.out (by decide))
          obtain ⟨gpl, ⟨pc0, pc1, pc2, pc3⟩, _⟩ := HPX1.out.facts
          clear hX hKx hrow hkl hk hXe hfl1
          go_wp2
          go_loopw [46] (fun i wr => ∃ k : Nat, i = .int .i64 k ∧ k ≤ nf ∧ Wr (W.heap.size + 1) (W.heap.size + 1) (Lib.byteCells ((A1 ++ A2) ++ (p.fs.take k).flatMap fnT)) ((0 : Nat) : Int) wr ∧ KW (W.heap.size + 1) (W.heap.size + 1) W2 wr) (fun i _ => nf - (intOf i).toNat)
          case atStart => exact ⟨0, rfl, Nat.zero_le _, by simpa using HE1.out, HK1.out⟩
          case round =>
            obtain ⟨k2, rfl, hk, hX, hKx⟩ := hrel
            have HX2 := Lib.hid hX
            have HK2 := Lib.hid hKx
            have hz2 := hKx.size
            have HLX2 := Lib.hid (HL2.out.b hKx.1)
            have hfl2 := flat_le fnT p.fs k2
            have hrow := hKx.row HW2.out HRf.out (by decide)
            by_cases hkl : k2 < nf
            · obtain ⟨g, cg, hv, hgl, hcell⟩ := own_some hrow (by omega)
              cases hv
              have hlt : (k2 : Int) < (nf : Int) := by omega
              have hk0 : (0 : Int) ≤ (k2 : Int) := Int.natCast_nonneg _
              obtain ⟨q, hq⟩ : ∃ q, rf[k2]? = some q := ⟨_, List.getElem?_eq_getElem (by (have := HN.out; have e := congrArg List.length HRX.out.2.2.1; rw [List.length_map] at e; omega))⟩
              obtain ⟨x, fv⟩ := q
              have hx : p.fs[k2]? = some x := by (rw [← HRX.out.2.2.1, List.getElem?_map, hq]; rfl)
              have hxm := List.mem_of_getElem? hx
              have hsu := flat_succ fnT p.fs k2 x hx
              have hfs := flat_le fnT p.fs (k2 + 1)
              rw [hsu, List.length_append, HA3.out] at hfs
              have HSU := Lib.hid hsu
              have hln : ((A1 ++ A2) ++ (p.fs.take k2).flatMap fnT).length + (fnT x).length ≤ 100000000000000 := by (simp only [List.length_append, List.length_nil]; omega)
              have hI := HRX.out.1 _ (List.mem_of_getElem? hq)
              obtain ⟨⟨fz0, fk0, e0⟩, _⟩ := hI.1
              obtain ⟨fz1, fk1, e1⟩ := hI.2.1.form
              obtain ⟨fz2, fk2, e2⟩ := hI.2.2.form
              obtain ⟨fy0, hy0⟩ : ∃ y, x.ps.length = y := ⟨_, rfl⟩
              obtain ⟨fy1, hy1⟩ : ∃ y, x.bd.length = y := ⟨_, rfl⟩
              obtain ⟨fy2, hy2⟩ : ∃ y, x.ret.ks.length = y := ⟨_, rfl⟩
              simp only at e0 e1 e2 hI
              rw [hy0] at e0
              rw [hy1] at e1
              rw [hy2] at e2
              obtain ⟨fp, fb, fk⟩ := fv
              simp only at e0 e1 e2
              subst e0 e1 e2
              have d0 := hcell (k2 * 12 + 0) (.int .i64 x.a) (plain_at (f := fun p : Fn × FV => fnCells p.1 p.2) (n := 12) (fun _ => rfl) rf k2 _ 0 _ hq rfl)
              rw [Nat.add_zero] at d0
              have d1 := hcell (k2 * 12 + 1) (.string (bstr x.nm)) (plain_at (f := fun p : Fn × FV => fnCells p.1 p.2) (n := 12) (fun _ => rfl) rf k2 _ 1 _ hq rfl)
              have d2 := hcell (k2 * 12 + 2) (.slice fz0 fy0 fk0) (plain_at (f := fun p : Fn × FV => fnCells p.1 p.2) (n := 12) (fun _ => rfl) rf k2 _ 2 _ hq rfl)
              have d3 := hcell (k2 * 12 + 3) (.bool x.tr) (plain_at (f := fun p : Fn × FV => fnCells p.1 p.2) (n := 12) (fun _ => rfl) rf k2 _ 3 _ hq rfl)
              have d4 := hcell (k2 * 12 + 4) (.bool x.sc) (plain_at (f := fun p : Fn × FV => fnCells p.1 p.2) (n := 12) (fun _ => rfl) rf k2 _ 4 _ hq rfl)
              have d5 := hcell (k2 * 12 + 5) (.slice fz1 fy1 fk1) (plain_at (f := fun p : Fn × FV => fnCells p.1 p.2) (n := 12) (fun _ => rfl) rf k2 _ 5 _ hq rfl)
              have d6 := hcell (k2 * 12 + 6) (.int .i64 x.ret.k) (plain_at (f := fun p : Fn × FV => fnCells p.1 p.2) (n := 12) (fun _ => rfl) rf k2 _ 6 _ hq rfl)
              have d7 := hcell (k2 * 12 + 7) (.int .i64 x.ret.op) (plain_at (f := fun p : Fn × FV => fnCells p.1 p.2) (n := 12) (fun _ => rfl) rf k2 _ 7 _ hq rfl)
              have d8 := hcell (k2 * 12 + 8) (.int .i64 x.ret.n) (plain_at (f := fun p : Fn × FV => fnCells p.1 p.2) (n := 12) (fun _ => rfl) rf k2 _ 8 _ hq rfl)
              have d9 := hcell (k2 * 12 + 9) (.string (bstr x.ret.nm)) (plain_at (f := fun p : Fn × FV => fnCells p.1 p.2) (n := 12) (fun _ => rfl) rf k2 _ 9 _ hq rfl)
              have d10 := hcell (k2 * 12 + 10) (.slice fz2 fy2 fk2) (plain_at (f := fun p : Fn × FV => fnCells p.1 p.2) (n := 12) (fun _ => rfl) rf k2 _ 10 _ hq rfl)
              have d11 := hcell (k2 * 12 + 11) (.int .i64 x.ret.a) (plain_at (f := fun p : Fn × FV => fnCells p.1 p.2) (n := 12) (fun _ => rfl) rf k2 _ 11 _ hq rfl)
              have hA := below_of_alloc wr (.cells #[.int .i64 x.a, .string (bstr x.nm), .slice fz0 fy0 fk0, .bool x.tr, .bool x.sc, .slice fz1 fy1 fk1, .int .i64 x.ret.k, .int .i64 x.ret.op, .int .i64 x.ret.n, .string (bstr x.ret.nm), .slice fz2 fy2 fk2, .int .i64 x.ret.a] 73)
              obtain ⟨_, ⟨bc0, bc1, bc2, bc3, bc4, bc5, bc6, bc7, bc8, bc9, bc10, bc11⟩, _⟩ := (FBlk.new (X := wr) (b := wr.heap.size) (a := x.a) (nm := bstr x.nm) (pv := .slice fz0 fy0 fk0) (tr := x.tr) (sc := x.sc) (bv := .slice fz1 fy1 fk1) (k := x.ret.k) (q := x.ret.op) (n := x.ret.n) (s := bstr x.ret.nm) (kv := .slice fz2 fy2 fk2) (xa := x.ret.a) rfl).facts
              have hKT : KeptT 0 W wr := (KeptT.hi ⟨HB2.out.size, fun g _ hl => HB2.out.block g hl⟩).trans (hKx.tree HW2.out)
              have HFC := Lib.hid ((HHY.out.2.2 x hxm) (W.heap.size + 1) (W.heap.size + 1) ⟨.slice fz0 fy0 fk0, .slice fz1 fy1 fk1, .slice fz2 fy2 fk2⟩ _ (wr.alloc (.cells #[.int .i64 x.a, .string (bstr x.nm), .slice fz0 fy0 fk0, .bool x.tr, .bool x.sc, .slice fz1 fy1 fk1, .int .i64 x.ret.k, .int .i64 x.ret.op, .int .i64 x.ret.n, .string (bstr x.ret.nm), .slice fz2 fy2 fk2, .int .i64 x.ret.a] 73)) (hX.stay hA) (HLX2.out.b (hA.mono (by omega))) (by (simp; omega)) ((hI.keptT hKT).keptT (.hi ⟨hA.size, fun g _ hl => hA.block g hl⟩)) hln)
              have hB9 : W.heap.size + 1 ≤ wr.heap.size := by omega
              clear hX hKx hrow hcell hsu hx hxm hq hI hKT hA
              go_wp2_with (go_at_call 23; (with_reducible refine (HFC.out).mono ?_); rintro e9 w9 ⟨rfl, hw9, hk9⟩)
              go_roundw
              case rel =>
                refine ⟨k2 + 1, by go_num, Nat.succ_le_of_lt hkl, ?_, HK2.out.trans ((KW.below hB9 (below_of_alloc wr (.cells #[.int .i64 x.a, .string (bstr x.nm), .slice fz0 fy0 fk0, .bool x.tr, .bool x.sc, .slice fz1 fy1 fk1, .int .i64 x.ret.k, .int .i64 x.ret.op, .int .i64 x.ret.n, .string (bstr x.ret.nm), .slice fz2 fy2 fk2, .int .i64 x.ret.a] 73))).trans hk9)⟩
                rw [HSU.out, ← List.append_assoc]
                exact hw9
              case measure =>
                simp [intOf]
                omega
            · have hlt : ¬ ((k2 : Int) < (nf : Int)) := by omega
              obtain rfl : nf = k2 := by omega
              have hXe : Wr (W.heap.size + 1) (W.heap.size + 1) (Lib.byteCells (A1 ++ A2 ++ A3)) ((0 : Nat) : Int) wr := by (have e : p.fs.take nf = p.fs := (by rw [← HN.out.2.2.1]; exact List.take_length); rw [e, HA3.out] at hX; first | exact hX | simpa using hX)
              have HE2 := Lib.hid hXe
              have HPX2 : Hid (PgBlk wr W.heap.size (.slice z0 ng c0) (.slice z1 nl c1) (.slice z2 nf c2) (.slice z3 nt c3)) := Lib.hid (hKx.keep HW2.out HPB.out (by decide))
              obtain ⟨gpl, ⟨pc0, pc1, pc2, pc3⟩, _⟩ := HPX2.out.facts
              clear hX hKx hrow hkl hk hXe hfl2
              go_wp2
              go_loopw [56] (fun i wr => ∃ k : Nat, i = .int .i64 k ∧ k ≤ nt ∧ Wr (W.heap.size + 1) (W.heap.size + 1) (Lib.byteCells ((A1 ++ A2 ++ A3) ++ (p.ths.take k).flatMap thT)) ((0 : Nat) : Int) wr ∧ KW (W.heap.size + 1) (W.heap.size + 1) W2 wr) (fun i _ => nt - (intOf i).toNat)
              case atStart => exact ⟨0, rfl, Nat.zero_le _, by simpa using HE2.out, HK2.out⟩
              case round =>
                obtain ⟨k3, rfl, hk, hX, hKx⟩ := hrel
                have HX3 := Lib.hid hX
                have HK3 := Lib.hid hKx
                have hz3 := hKx.size
                have HLX3 := Lib.hid (HL2.out.b hKx.1)
                have hfl3 := flat_le thT p.ths k3
                have hrow := hKx.row HW2.out HRt.out (by decide)
                by_cases hkl : k3 < nt
                · obtain ⟨g, cg, hv, hgl, hcell⟩ := own_some hrow (by omega)
                  cases hv
                  have hlt : (k3 : Int) < (nt : Int) := by omega
                  have hk0 : (0 : Int) ≤ (k3 : Int) := Int.natCast_nonneg _
                  obtain ⟨q, hq⟩ : ∃ q, rt[k3]? = some q := ⟨_, List.getElem?_eq_getElem (by (have := HN.out; have e := congrArg List.length HRX.out.2.2.2; rw [List.length_map] at e; omega))⟩
                  obtain ⟨x, tv⟩ := q
                  have hx : p.ths[k3]? = some x := by (rw [← HRX.out.2.2.2, List.getElem?_map, hq]; rfl)
                  have hxm := List.mem_of_getElem? hx
                  have hsu := flat_succ thT p.ths k3 x hx
                  have hfs := flat_le thT p.ths (k3 + 1)
                  rw [hsu, List.length_append, HA4.out] at hfs
                  have HSU := Lib.hid hsu
                  have hln : ((A1 ++ A2 ++ A3) ++ (p.ths.take k3).flatMap thT).length + (thT x).length ≤ 100000000000000 := by (simp only [List.length_append, List.length_nil]; omega)
                  have hI := HRX.out.2.1 _ (List.mem_of_getElem? hq)
                  simp only at hI
                  obtain ⟨tz, tk, e0⟩ := hI.form
                  obtain ⟨ty, hy0⟩ : ∃ y, x.length = y := ⟨_, rfl⟩
                  rw [hy0] at e0
                  subst e0
                  have d0 := hcell (k3) (.slice tz ty tk) ((by (simp [thRow, hq])))
                  have hKT : KeptT 0 W wr := (KeptT.hi ⟨HB2.out.size, fun g _ hl => HB2.out.block g hl⟩).trans (hKx.tree HW2.out)
                  have HCS : Hid ((#[.string ⟨#[116, 104, 114, 101, 97, 100, 32, 123]⟩] : Array Value) = ([tThr].map fun p => Value.string (bstr p)).toArray) := Lib.hid (by rfl)
                  have hth := HHY.out.2.1 x hxm
                  have HGG := Lib.hid (stmts_all (cntS x))
                  have HG4 := Lib.hid hth.1
                  have HI4 := Lib.hid (hI.keptT hKT)
                  have hB9 : W.heap.size + 1 ≤ wr.heap.size := by omega
                  have hln2 : ((A1 ++ A2 ++ A3) ++ (p.ths.take k3).flatMap thT).length + ((lineT 0 [tThr]).length + ((stsT x (0 + 1)).length + (lineT 0 [[125]]).length)) ≤ 100000000000000 := by (have e : (thT x).length = (lineT 0 [tThr]).length + ((stsT x (0 + 1)).length + (lineT 0 [[125]]).length) := (by simp only [thT, List.length_append, Nat.zero_add]); omega)
                  have ht2 : 0 + 1 + cntS x ≤ 1000000 := by (have := hth.2; omega)
                  clear hX hKx hrow hcell hsu hx hxm hq hI hKT
                  go_wp2_with (go_at_call 24; (with_reducible refine (block_any (n := 1) HGG [tThr] rfl _ HCS _ _ _ (Lib.hid rfl) (Lib.hid rfl) (Lib.hid rfl) (Nat.le_refl _) HG4 (Lib.hid (HX3.out.alloc _)) (Lib.hid (HLX3.out.b ((Below.refl _ _).alloc (by omega) _))) (by (simp; omega)) (Lib.hid (HI4.out.kept fun g hg hl => ⟨Below.heap_alloc _ _ g hl, hg⟩)) (heap_alloc_new _ _) ht2 hln2 (by decide)).mono ?_); rintro e9 w9 ⟨rfl, hw9, hk9⟩)
                  go_roundw
                  case rel =>
                    refine ⟨k3 + 1, by go_num, Nat.succ_le_of_lt hkl, ?_, HK3.out.trans ((KW.alloc (.refl _ _ _) hB9 _).trans hk9)⟩
                    rw [HSU.out, ← List.append_assoc]
                    exact hw9
                  case measure =>
                    simp [intOf]
                    omega
                · have hlt : ¬ ((k3 : Int) < (nt : Int)) := by omega
                  obtain rfl : nt = k3 := by omega
                  have hXe : Wr (W.heap.size + 1) (W.heap.size + 1) (Lib.byteCells (A1 ++ A2 ++ A3 ++ A4)) ((0 : Nat) : Int) wr := by (have e : p.ths.take nt = p.ths := (by rw [← HN.out.2.2.2]; exact List.take_length); rw [e, HA4.out] at hX; first | exact hX | simpa using hX)
                  have HE3 := Lib.hid hXe
                  clear hX hKx hrow hkl hk hXe hfl3
                  go_wp2_with (go_at_call 25; (with_reducible refine (wr_text _ _ _ _ _ HE3).mono ?_); rintro e2 w2 ⟨rfl, hb2⟩)
                  go_ret
                  refine ⟨by (rw [HT'.out]; simp only [List.append_assoc]; rfl), ?_⟩
                  exact (HB2.out.trans (HK3.out.1.mono (by omega))).trans (hb2.mono (by omega))
end Go.Proofs.YtkhbbapocamlmaaDoor
namespace Go.Proofs.YtkhbbapocamlmaaDoor
open Go Go.RowKit

def pmT (q : Pm) : List UInt8 := typeT q.tr q.sc ++ 32 :: q.nm
def paramsT (l : List Pm) : List UInt8 := Lib.join (l.map pmT) [44, 32]
theorem infoStr : (Tryd.prog.info? 9).map (fun i => (i.zero, i.size, i.bytes)) = some (some (.string ⟨#[]⟩), 1, 16) := by kernel_rfl
theorem str_one {s : ByteArray} : ∀ u ∈ ([.string s] : List Value), u.oneCell' = true := by
  intro u hu
  simp at hu
  rcases hu with rfl
  rfl
theorem type_len9 (tr sc : Bool) : (typeT tr sc).length ≤ 20 := by cases tr <;> cases sc <;> decide
def pmV (q : Pm) : Value := .string (bstr (pmT q))
theorem pmV_at (l : List Pm) {w : World} {B g n c : Nat} (h : w.ownsRow B 9 1 (.slice (some ⟨g, 0, none⟩) n c) n (l.map pmV)) : ∀ (j : Nat) x, (l.map fun q => bstr (pmT q))[j]? = some x → w.cell? ⟨g, 0 + j, none⟩ = some (.string x) := by
  intro j x hx
  rw [List.getElem?_map] at hx
  obtain ⟨q, hq, rfl⟩ := Option.map_eq_some_iff.1 hx
  rcases h.2 with ⟨e, _⟩ | ⟨g', cap, cur, e, _, hg, _, _, _, ht⟩
  · cases e
  · cases e
    rw [Nat.zero_add, Lib.cell_of_heap hg j]
    have h1 : (l.map pmV)[j]? = some (.string (bstr (pmT q))) := by (rw [List.getElem?_map, hq]; rfl)
    rw [← ht, List.getElem?_take] at h1
    split at h1
    · simpa using h1
    · cases h1
theorem join_len (ts : List (List UInt8)) (K : Nat) (h : ∀ t ∈ ts, t.length ≤ K) : (Lib.join ts [44, 32]).length ≤ ts.length * (K + 2) := by
  induction ts with
  | nil => simp [Lib.join]
  | cons t r ih =>
    have h1 := h t (.head _)
    have h2 := ih fun x hx => h x (.tail _ hx)
    cases r with
    | nil => simp [Lib.join]; omega
    | cons y r =>
      have e : Lib.join (t :: y :: r) [44, 32] = t ++ ([44, 32] ++ Lib.join (y :: r) [44, 32]) := by simp [Lib.join, List.intercalate]
      have e2 : (t :: y :: r).length * (K + 2) = (y :: r).length * (K + 2) + (K + 2) := by simp [Nat.succ_mul]
      rw [e, e2]
      simp only [List.length_append, List.length_cons, List.length_nil] at h2 ⊢
      omega
theorem params_len {l : List Pm} (hn : l.length ≤ 6) (hm : ∀ q ∈ l, NameB q.nm) : (paramsT l).length ≤ 1000 := by
  have h := join_len (l.map pmT) 45 (fun t ht => by
    obtain ⟨q, hq, rfl⟩ := List.mem_map.1 ht
    obtain ⟨_, _, _, _, _, h24, _⟩ := hm q hq
    have := type_len9 q.tr q.sc
    simp only [pmT, List.length_append, List.length_cons]
    omega)
  have : (l.map pmT).length * (45 + 2) ≤ 6 * 47 := by (rw [List.length_map]; exact Nat.mul_le_mul_right _ hn)
  unfold paramsT
  omega
theorem bstr_cat (a b : List UInt8) : bstr a ++ bstr b = bstr (a ++ b) := by
  apply ByteArray.ext
  simp [bstr]
theorem own_mem {B T k n : Nat} {w : World} {v : Value} {xs : List Value} (h : w.ownsRow B T k v n xs) : ∀ j, v.ownBlock = some j → B ≤ j := by
  rcases h.2 with ⟨rfl, _⟩ | ⟨g, cap, cur, rfl, hB, _⟩
  · simp [Value.ownBlock]
  · intro j e
    have : g = j := by simpa [Value.ownBlock] using e
    omega
theorem own_cap {B T k n : Nat} {w : World} {v : Value} {xs : List Value} (h : w.ownsRow B T k v n xs) (hn : 0 < n) : ∃ g c, v = .slice (some ⟨g, 0, none⟩) n c ∧ g < w.heap.size ∧ n ≤ c := by
  rcases h.2 with ⟨_, h0⟩ | ⟨g, cap, cur, rfl, _, hg, hc, _⟩
  · omega
  · exact ⟨g, cap, rfl, (Array.getElem?_eq_some_iff.1 hg).1, hc⟩
set_option maxRecDepth 100000 in
set_option maxHeartbeats 4000000 in
theorem params_any {l : List Pm} {v : Value} (w : World) (hi : Hid (IsPl (fun g => 0 ≤ g) 106 3 pmCells w l v)) (hn : l.length ≤ 6) (hm : ∀ q ∈ l, NameB q.nm) (T : List UInt8) (hT : Hid (paramsT l = T)) :
    Calls Tryd.prog 49 #[v] w fun e w' => e = .returned (.string (bstr T)) ∧ Below w.heap.size w w' := by
  obtain ⟨i0, hinf, hzi0, hzi1, hzi2⟩ := info_parts infoStr
  obtain ⟨⟨z, c, rfl⟩, hi2⟩ := hi.out
  obtain ⟨n, hln⟩ : ∃ n, l.length = n := ⟨_, rfl⟩
  have HI := Lib.hid hi2
  have HM := Lib.hid hm
  have HN := Lib.hid hln
  rw [hln] at hn ⊢
  clear hi hi2 hm hln
  go_enter Tryd.func49, Tryd.ntmps49
  go_wp2
  go_loopw [3, 8] (fun tv iv wr => ∃ (k : Nat) (p : Option Addr) (d : Nat), tv = .slice p k d ∧ iv = .int .i64 k ∧ k ≤ n ∧ Below w.heap.size w wr ∧ wr.ownsRow w.heap.size 9 1 (.slice p k d) k ((l.take k).map pmV)) (fun _ iv _ => n - (intOf iv).toNat)
  case atStart => exact ⟨0, none, 0, rfl, rfl, Nat.zero_le _, Below.refl _ _, World.ownsRow_nil _ _ _ _⟩
  case round =>
    obtain ⟨k, p, d, rfl, rfl, hk, hbr, hown⟩ := hrel
    have HB := Lib.hid hbr
    have HO := Lib.hid hown
    by_cases hkl : k < n
    · obtain ⟨x, hx⟩ : ∃ x, l[k]? = some x := ⟨_, List.getElem?_eq_getElem (by (have := HN.out; omega))⟩
      obtain ⟨g, cap, cs, fr, e, _, hg, hcs⟩ := HI.out (by rintro rfl; simp at hx)
      cases e
      have hgr := (hbr.block g (Array.getElem?_eq_some_iff.1 hg).1).trans hg
      have hgl : g < wr.heap.size := (Array.getElem?_eq_some_iff.1 hgr).1
      have d0 : wr.cell? ⟨g, k * 3, none⟩ = some (.string (bstr x.nm)) := (Lib.cell_of_heap hgr _).trans (hcs k x hx 0 _ rfl)
      have d1 : wr.cell? ⟨g, k * 3 + 1, none⟩ = some (.bool x.tr) := (Lib.cell_of_heap hgr _).trans (hcs k x hx 1 _ rfl)
      have d2 : wr.cell? ⟨g, k * 3 + 2, none⟩ = some (.bool x.sc) := (Lib.cell_of_heap hgr _).trans (hcs k x hx 2 _ rfl)
      have hlt : (k : Int) < (n : Int) := by omega
      have hk0 : (0 : Int) ≤ (k : Int) := Int.natCast_nonneg _
      have HX := Lib.hid hx
      have hnb := HM.out x (List.mem_of_getElem? hx)
      have hnl : (bstr x.nm).size ≤ 24 := by (obtain ⟨_, _, _, _, _, h24, _⟩ := hnb; exact h24)
      have hA := below_of_alloc wr (.cells #[.string (bstr x.nm), .bool x.tr, .bool x.sc] 106)
      have hP := PBlk.new (X := wr) (n := wr.heap.size) (s := bstr x.nm) (tr := x.tr) (sc := x.sc) rfl
      clear hbr hown hcs hg hgr hx hnb
      go_upto_region 5 with (fail)
      clear d0 d1 d2
      refine name_world ?_
      intro W1 hW1
      rw [← hW1] at hA hP
      clear hW1
      have HA := Lib.hid hA
      have HP := Lib.hid hP
      have HC : Hid (Below W1.heap.size W1 W1.drew) := Lib.hid ((Below.refl _ _).drew)
      have HO1 := Lib.hid (own_below HO.out HA.out)
      obtain ⟨pl, pc0, pc1, pc2, _⟩ := (HP.out.stay HC.out).facts
      clear hA hP
      obtain ⟨T0, hT0⟩ : ∃ T0, typeT x.tr x.sc = T0 := ⟨_, rfl⟩
      have hs0 : (bstr T0).size ≤ 20 := by (rw [← hT0]; exact type_len9 _ _)
      have e1 : (⟨#[32]⟩ : ByteArray).size = 1 := rfl
      have hc1 : (bstr T0).size + (⟨#[32]⟩ : ByteArray).size ≤ 9223372036854775807 := by omega
      have hc2 : ((bstr T0) ++ (⟨#[32]⟩ : ByteArray)).size + (bstr x.nm).size ≤ 9223372036854775807 := by (rw [ByteArray.size_append]; omega)
      have hc3 : ¬ 9223372036854775807 < (bstr T0).size + (⟨#[32]⟩ : ByteArray).size := by omega
      have hc4 : ¬ 9223372036854775807 < ((bstr T0) ++ (⟨#[32]⟩ : ByteArray)).size + (bstr x.nm).size := by (rw [ByteArray.size_append]; omega)
      have hc5 : ¬ 9223372036854775807 < (bstr T0).size + 1 := by omega
      have hc6 : ¬ 9223372036854775807 < (bstr T0).size + 1 + (bstr x.nm).size := by omega
      have hc7 : ¬ 9223372036854775807 < ((bstr T0) ++ (⟨#[32]⟩ : ByteArray)).size + (bstr x.nm).size := hc4
      have HT0 := Lib.hid hT0
      clear hT0 e1
      go_region_law (first
        | (go_simp; go_at_call 13; (with_reducible refine (type_any _ _ _).mono ?_); rintro e1 wt ⟨rfl, hbt⟩; rw [HT0.out]; replace HC := Lib.hid (below_ch HC.out hbt); obtain ⟨pl, pc0, pc1, pc2, _⟩ := (HP.out.stay HC.out).facts; clear hbt)
        | (refine step_append_lies _ (by rfl) _ _ _ (by rfl) w.heap.size 9 i0 _ 1 16 Tryd.underlying95 hinf hzi0 hzi1 hzi2 rfl (by decide) (.slice p k d) k ((l.take k).map pmV) (by rfl) (own_below HO1.out (HC.out.alloc HC.out.size _)) ⟨_, 0, none⟩ 1 1 [.string (bstr T0 ++ ⟨#[32]⟩ ++ bstr x.nm)] (by rfl) (by rfl) (World.news_of_block (heap_alloc_new _ _)) str_one (by decide) (by unfold maxLen; omega) (by omega) (by (have := HC.out.size; have := HA.out.size; have := HB.out.size; simp; omega)) _ rfl ?_; intro gg cap6 w9 hown9 hgrow9 hor9 hlt9))
      all_goals
        go_wp2
        go_roundw
        case rel =>
          refine ⟨k + 1, _, _, rfl, by go_num, Nat.succ_le_of_lt hkl, ((below_ch HB.out (below_ch HA.out HC.out)).alloc (by (have := HC.out.size; have := HA.out.size; have := HB.out.size; omega)) _).grown hgrow9 (by (have := HC.out.size; have := HA.out.size; have := HB.out.size; simp; omega)) (own_mem HO.out), ?_⟩
          have e : (l.take (k + 1)).map pmV = (l.take k).map pmV ++ [.string (bstr T0 ++ ⟨#[32]⟩ ++ bstr x.nm)] := by
            rw [List.take_add_one, HX.out, ← HT0.out]
            simp only [List.map_append, Option.toList, List.map_cons, List.map_nil, pmV, pmT]
            congr 3
            rw [show (⟨#[32]⟩ : ByteArray) = bstr [32] from rfl, bstr_cat, bstr_cat]
            simp
          rw [e]
          exact hown9
        case measure =>
          simp [intOf]
          omega
    · have hlt : ¬ ((k : Int) < (n : Int)) := by omega
      obtain rfl : n = k := by omega
      have et : l.take n = l := by (rw [← HN.out]; exact List.take_length)
      rw [et] at hown
      have HO2 := Lib.hid hown
      clear hown HO et hkl hk
      by_cases h0 : n = 0
      · subst h0
        have hl0 : l = [] := List.eq_nil_of_length_eq_zero HN.out
        have hT0 : T = [] := by (rw [← hT.out, hl0]; rfl)
        go_wp2_with (go_at_call 65; (with_reducible refine (Tryd.strings_Join_none _ _ _ _).mono ?_); rintro e9 w9 ⟨rfl, rfl⟩)
        go_ret
        exact ⟨by rw [hT0]; rfl, HB.out⟩
      · obtain ⟨g, cg, e, hgl, hgc⟩ := own_cap HO2.out (by omega)
        cases e
        obtain ⟨XS, hXS⟩ : ∃ XS, (l.map fun q => bstr (pmT q)) = XS := ⟨_, rfl⟩
        have hXl : XS.length = n := by (rw [← hXS, List.length_map]; exact HN.out)
        have hXd : XS.map (·.data.toList) = l.map pmT := by (rw [← hXS, List.map_map]; apply List.map_congr_left; intro q _; rfl)
        have hj : (⟨(Lib.join (XS.map (·.data.toList)) (⟨#[44, 32]⟩ : ByteArray).data.toList).toArray⟩ : ByteArray) = bstr T := by (rw [hXd, ← hT.out]; rfl)
        have hjl : (Lib.join (XS.map (·.data.toList)) (⟨#[44, 32]⟩ : ByteArray).data.toList).length ≤ 140737488355328 := by
          rw [hXd]
          exact Nat.le_trans (params_len (by (rw [HN.out]; exact hn)) HM.out) (by decide)
        have HJ := Tryd.strings_Join g 0 d XS ⟨#[44, 32]⟩ wr (fun j x hx => pmV_at l HO2.out j x (by rw [hXS]; exact hx)) hgl (by omega) (by omega) hjl
        rw [hXl, hj] at HJ
        have HJJ := Lib.hid HJ
        clear HJ hj hjl hXd hXS
        go_wp2_with (go_at_call 65; (with_reducible refine (HJJ.out).mono ?_); rintro e9 w9 ⟨rfl, hb9⟩)
        go_ret
        exact ⟨rfl, below_ch HB.out hb9⟩
end Go.Proofs.YtkhbbapocamlmaaDoor
namespace Go.Proofs.YtkhbbapocamlmaaDoor
open Go

def aw5T : List UInt8 := [116, 104, 114, 101, 97, 100, 123, 105, 102, 40, 97, 41, 123, 111, 117, 116, 32, 49, 59, 125, 101, 108, 115, 101, 123, 98, 91, 50, 93, 61, 51, 59, 125, 125, 112, 117, 98, 108, 105, 99, 32, 105, 110, 116, 32, 103, 91, 50, 93, 98, 121, 32, 109, 59, 108, 111, 99, 107, 32, 109, 59]
def aw5W : List Wd := [⟨0, [116, 104, 114, 101, 97, 100], 0, 0⟩, ⟨2, [123], 0, 6⟩, ⟨0, [105, 102], 0, 7⟩, ⟨2, [40], 0, 9⟩, ⟨0, [97], 0, 10⟩, ⟨2, [41], 0, 11⟩, ⟨2, [123], 0, 12⟩, ⟨0, [111, 117, 116], 0, 13⟩, ⟨1, [49], 1, 17⟩, ⟨2, [59], 0, 18⟩, ⟨2, [125], 0, 19⟩, ⟨0, [101, 108, 115, 101], 0, 20⟩, ⟨2, [123], 0, 24⟩, ⟨0, [98], 0, 25⟩, ⟨2, [91], 0, 26⟩, ⟨1, [50], 2, 27⟩, ⟨2, [93], 0, 28⟩, ⟨2, [61], 0, 29⟩, ⟨1, [51], 3, 30⟩, ⟨2, [59], 0, 31⟩, ⟨2, [125], 0, 32⟩, ⟨2, [125], 0, 33⟩, ⟨0, [112, 117, 98, 108, 105, 99], 0, 34⟩, ⟨0, [105, 110, 116], 0, 41⟩, ⟨0, [103], 0, 45⟩, ⟨2, [91], 0, 46⟩, ⟨1, [50], 2, 47⟩, ⟨2, [93], 0, 48⟩, ⟨0, [98, 121], 0, 49⟩, ⟨0, [109], 0, 52⟩, ⟨2, [59], 0, 53⟩, ⟨0, [108, 111, 99, 107], 0, 54⟩, ⟨0, [109], 0, 59⟩, ⟨2, [59], 0, 60⟩, ⟨3, [], 0, 61⟩]
theorem numO_itoa {n : Int} (h0 : 0 ≤ n) (h1 : n ≤ 9223372036854775807) : numO (Lib.itoa n) = some n := by
  have e : (⟨(Lib.itoa n).toArray⟩ : ByteArray) = dig n := rfl
  unfold numO
  rw [e, num_dig h0 h1]
theorem numO_inv {t : List UInt8} {v : Int} (h : numO t = some v) : 0 ≤ v ∧ v ≤ 9223372036854775807 ∧ t = Lib.itoa v := by
  unfold numO at h
  split at h
  · rename_i u hu
    cases h
    unfold numM at hu
    split at hu
    · cases hu
    · split at hu
      · rename_i x hx
        split at hu
        · cases hu
        · split at hu
          · rename_i hneg hs
            cases hu
            have hb := (Lib.parseIntB_bounds hx).2
            refine ⟨by omega, by simp at hb; omega, ?_⟩
            have := by simpa [ByteArray.toList_eq] using hs
            rw [← this]
            rfl
          · cases hu
      · cases hu
  · cases h

/-- A text that is an expression. -/
theorem num_1 : numO [49] = some 1 := by
  have h := numO_itoa (n := 1) (by decide) (by decide)
  rwa [show Lib.itoa 1 = [49] by (rw [show (1 : Int) = ((1 : Nat) : Int) from rfl, Lib.itoa_nonneg]; simp [Lib.decDigits])] at h
theorem num_2 : numO [50] = some 2 := by
  have h := numO_itoa (n := 2) (by decide) (by decide)
  rwa [show Lib.itoa 2 = [50] by (rw [show (2 : Int) = ((2 : Nat) : Int) from rfl, Lib.itoa_nonneg]; simp [Lib.decDigits])] at h
theorem num_3 : numO [51] = some 3 := by
  have h := numO_itoa (n := 3) (by decide) (by decide)
  rwa [show Lib.itoa 3 = [51] by (rw [show (3 : Int) = ((3 : Nat) : Int) from rfl, Lib.itoa_nonneg]; simp [Lib.decDigits])] at h
theorem aw5_sc : Sc numO aw5T 0 aw5W none := by
  refine .word _ 0 6 0 0 _ _ (by simp [aw5T]) rfl ?_
  refine .word _ 6 1 2 0 _ _ (by simp [aw5T]) rfl ?_
  refine .word _ 7 2 0 0 _ _ (by simp [aw5T]) rfl ?_
  refine .word _ 9 1 2 0 _ _ (by simp [aw5T]) rfl ?_
  refine .word _ 10 1 0 0 _ _ (by simp [aw5T]) rfl ?_
  refine .word _ 11 1 2 0 _ _ (by simp [aw5T]) rfl ?_
  refine .word _ 12 1 2 0 _ _ (by simp [aw5T]) rfl ?_
  refine .word _ 13 3 0 0 _ _ (by simp [aw5T]) rfl ?_
  refine .gap _ 16 1 _ _ (by simp [aw5T]) rfl ?_
  refine .word _ 17 1 1 1 _ _ (by simp [aw5T]) ?_ ?_
  · show (match numO [49] with | some v => Tok.word 1 1 v | none => .bad 10) = _
    rw [num_1]
  refine .word _ 18 1 2 0 _ _ (by simp [aw5T]) rfl ?_
  refine .word _ 19 1 2 0 _ _ (by simp [aw5T]) rfl ?_
  refine .word _ 20 4 0 0 _ _ (by simp [aw5T]) rfl ?_
  refine .word _ 24 1 2 0 _ _ (by simp [aw5T]) rfl ?_
  refine .word _ 25 1 0 0 _ _ (by simp [aw5T]) rfl ?_
  refine .word _ 26 1 2 0 _ _ (by simp [aw5T]) rfl ?_
  refine .word _ 27 1 1 2 _ _ (by simp [aw5T]) ?_ ?_
  · show (match numO [50] with | some v => Tok.word 1 1 v | none => .bad 10) = _
    rw [num_2]
  refine .word _ 28 1 2 0 _ _ (by simp [aw5T]) rfl ?_
  refine .word _ 29 1 2 0 _ _ (by simp [aw5T]) rfl ?_
  refine .word _ 30 1 1 3 _ _ (by simp [aw5T]) ?_ ?_
  · show (match numO [51] with | some v => Tok.word 1 1 v | none => .bad 10) = _
    rw [num_3]
  refine .word _ 31 1 2 0 _ _ (by simp [aw5T]) rfl ?_
  refine .word _ 32 1 2 0 _ _ (by simp [aw5T]) rfl ?_
  refine .word _ 33 1 2 0 _ _ (by simp [aw5T]) rfl ?_
  refine .word _ 34 6 0 0 _ _ (by simp [aw5T]) rfl ?_
  refine .gap _ 40 1 _ _ (by simp [aw5T]) rfl ?_
  refine .word _ 41 3 0 0 _ _ (by simp [aw5T]) rfl ?_
  refine .gap _ 44 1 _ _ (by simp [aw5T]) rfl ?_
  refine .word _ 45 1 0 0 _ _ (by simp [aw5T]) rfl ?_
  refine .word _ 46 1 2 0 _ _ (by simp [aw5T]) rfl ?_
  refine .word _ 47 1 1 2 _ _ (by simp [aw5T]) ?_ ?_
  · show (match numO [50] with | some v => Tok.word 1 1 v | none => .bad 10) = _
    rw [num_2]
  refine .word _ 48 1 2 0 _ _ (by simp [aw5T]) rfl ?_
  refine .word _ 49 2 0 0 _ _ (by simp [aw5T]) rfl ?_
  refine .gap _ 51 1 _ _ (by simp [aw5T]) rfl ?_
  refine .word _ 52 1 0 0 _ _ (by simp [aw5T]) rfl ?_
  refine .word _ 53 1 2 0 _ _ (by simp [aw5T]) rfl ?_
  refine .word _ 54 4 0 0 _ _ (by simp [aw5T]) rfl ?_
  refine .gap _ 58 1 _ _ (by simp [aw5T]) rfl ?_
  refine .word _ 59 1 0 0 _ _ (by simp [aw5T]) rfl ?_
  refine .word _ 60 1 2 0 _ _ (by simp [aw5T]) rfl ?_
  exact .done 61
def aw5S : Stm := .mk 2 7 false false [] [] [.mk 2 0 0 [97] [] 10] [.mk 5 13 false false [] [] [.mk 0 0 1 [] [] 17] [] []] [.mk 1 25 false false [98] [.mk 0 0 2 [] [] 27] [.mk 0 0 3 [] [] 30] [] []]
def aw5P : Pg := ⟨[⟨45, [103], false, false, 2, [109]⟩], [⟨59, [109]⟩], [], [[aw5S]]⟩
theorem exv {t : List UInt8} {a : Nat} {c : Wd} {r : List Wd} (h : keyB t = false) (h1 : ¬ Sg c [91]) (h2 : ¬ Sg c [40]) (h3 : rkW c < 1) : exF (.ok (⟨0, t, 0, a⟩ :: c :: r)) = (.mk 2 0 0 t [] a, .ok (c :: r)) :=
  exF_ok (.expr (.name rfl h (.namVar h1 h2)) (.loopEnd h3))
theorem exn {t : List UInt8} {n : Int} {a : Nat} {c : Wd} {r : List Wd} (h3 : rkW c < 1) : exF (.ok (⟨1, t, n, a⟩ :: c :: r)) = (.mk 0 0 n [] [] a, .ok (c :: r)) :=
  exF_ok (.expr (.num rfl) (.loopEnd h3))
theorem op5_none : opB [41] = -1 ∧ opB [93] = -1 ∧ opB [59] = -1 := by
  refine ⟨?_, ?_, ?_⟩ <;> simp [opB, opM, opGo, sgn, sgnL, ByteArray.toList_eq]
theorem rk5_rb (v : Int) (a : Nat) : rkW ⟨2, [41], v, a⟩ < 1 := by unfold rkW; rw [if_pos rfl, op5_none.1]; decide
theorem rk5_sb (v : Int) (a : Nat) : rkW ⟨2, [93], v, a⟩ < 1 := by unfold rkW; rw [if_pos rfl, op5_none.2.1]; decide
theorem rk5_se (v : Int) (a : Nat) : rkW ⟨2, [59], v, a⟩ < 1 := by unfold rkW; rw [if_pos rfl, op5_none.2.2]; decide
theorem aw5_a (r : List Wd) : exF (.ok (⟨0, [97], 0, 10⟩ :: ⟨2, [41], 0, 11⟩ :: r)) = (.mk 2 0 0 [97] [] 10, .ok (⟨2, [41], 0, 11⟩ :: r)) := exv (by decide) (fun e => absurd e.2 (by decide)) (fun e => absurd e.2 (by decide)) (rk5_rb _ _)
theorem aw5_1 (r : List Wd) : exF (.ok (⟨1, [49], 1, 17⟩ :: ⟨2, [59], 0, 18⟩ :: r)) = (.mk 0 0 1 [] [] 17, .ok (⟨2, [59], 0, 18⟩ :: r)) := exn (rk5_se _ _)
theorem aw5_2 (r : List Wd) : exF (.ok (⟨1, [50], 2, 27⟩ :: ⟨2, [93], 0, 28⟩ :: r)) = (.mk 0 0 2 [] [] 27, .ok (⟨2, [93], 0, 28⟩ :: r)) := exn (rk5_sb _ _)
theorem aw5_3 (r : List Wd) : exF (.ok (⟨1, [51], 3, 30⟩ :: ⟨2, [59], 0, 31⟩ :: r)) = (.mk 0 0 3 [] [] 30, .ok (⟨2, [59], 0, 31⟩ :: r)) := exn (rk5_se _ _)
theorem aw5_o (n d : Nat) (r : List Wd) : stmtF (n + 1) d (.ok (⟨0, [111, 117, 116], 0, 13⟩ :: ⟨1, [49], 1, 17⟩ :: ⟨2, [59], 0, 18⟩ :: r)) = ((.mk 5 13 false false [] [] [.mk 0 0 1 [] [] 17] [] []), .ok r) := by
  unfold stmtF
  simp (config := { decide := true }) [RS.is, RS.good, RS.adv, RS.hd, RS.need, RS.fail, nameF, kindF, eithF, kVar, kIf, kWhile, kLock, kOut, kPublic, kSecret, kInt, kBool, kElse, kBy, kFunc, kThread, kReturn, aw5_1]
theorem aw5_s (n d : Nat) (r : List Wd) : stmtF (n + 1) d (.ok (⟨0, [98], 0, 25⟩ :: ⟨2, [91], 0, 26⟩ :: ⟨1, [50], 2, 27⟩ :: ⟨2, [93], 0, 28⟩ :: ⟨2, [61], 0, 29⟩ :: ⟨1, [51], 3, 30⟩ :: ⟨2, [59], 0, 31⟩ :: r)) = ((.mk 1 25 false false [98] [.mk 0 0 2 [] [] 27] [.mk 0 0 3 [] [] 30] [] []), .ok r) := by
  unfold stmtF
  simp (config := { decide := true }) [RS.is, RS.good, RS.adv, RS.hd, RS.need, RS.fail, nameF, kindF, eithF, kVar, kIf, kWhile, kLock, kOut, kPublic, kSecret, kInt, kBool, kElse, kBy, kFunc, kThread, kReturn, aw5_2, aw5_3]
theorem aw5_b1 (n : Nat) (r : List Wd) : blockF (n + 4) 1 (.ok (⟨2, [123], 0, 12⟩ :: ⟨0, [111, 117, 116], 0, 13⟩ :: ⟨1, [49], 1, 17⟩ :: ⟨2, [59], 0, 18⟩ :: ⟨2, [125], 0, 19⟩ :: r)) = ([(.mk 5 13 false false [] [] [.mk 0 0 1 [] [] 17] [] [])], .ok r) := by
  have h : stmtsF (n + 3) 2 [125] (.ok (⟨0, [111, 117, 116], 0, 13⟩ :: ⟨1, [49], 1, 17⟩ :: ⟨2, [59], 0, 18⟩ :: ⟨2, [125], 0, 19⟩ :: r)) = ([(.mk 5 13 false false [] [] [.mk 0 0 1 [] [] 17] [] [])], .ok (⟨2, [125], 0, 19⟩ :: r)) := by
    unfold stmtsF
    rw [aw5_o]
    unfold stmtsF
    simp (config := { decide := true }) [RS.is, RS.good, RS.adv, RS.hd, RS.need, RS.fail, nameF, kindF, eithF, kVar, kIf, kWhile, kLock, kOut, kPublic, kSecret, kInt, kBool, kElse, kBy, kFunc, kThread, kReturn]
  unfold blockF
  simp (config := { decide := true }) [RS.is, RS.good, RS.adv, RS.hd, RS.need, RS.fail, nameF, kindF, eithF, kVar, kIf, kWhile, kLock, kOut, kPublic, kSecret, kInt, kBool, kElse, kBy, kFunc, kThread, kReturn, h]
theorem aw5_b2 (n : Nat) (r : List Wd) : blockF (n + 4) 1 (.ok (⟨2, [123], 0, 24⟩ :: ⟨0, [98], 0, 25⟩ :: ⟨2, [91], 0, 26⟩ :: ⟨1, [50], 2, 27⟩ :: ⟨2, [93], 0, 28⟩ :: ⟨2, [61], 0, 29⟩ :: ⟨1, [51], 3, 30⟩ :: ⟨2, [59], 0, 31⟩ :: ⟨2, [125], 0, 32⟩ :: r)) = ([(.mk 1 25 false false [98] [.mk 0 0 2 [] [] 27] [.mk 0 0 3 [] [] 30] [] [])], .ok r) := by
  have h : stmtsF (n + 3) 2 [125] (.ok (⟨0, [98], 0, 25⟩ :: ⟨2, [91], 0, 26⟩ :: ⟨1, [50], 2, 27⟩ :: ⟨2, [93], 0, 28⟩ :: ⟨2, [61], 0, 29⟩ :: ⟨1, [51], 3, 30⟩ :: ⟨2, [59], 0, 31⟩ :: ⟨2, [125], 0, 32⟩ :: r)) = ([(.mk 1 25 false false [98] [.mk 0 0 2 [] [] 27] [.mk 0 0 3 [] [] 30] [] [])], .ok (⟨2, [125], 0, 32⟩ :: r)) := by
    unfold stmtsF
    rw [aw5_s]
    unfold stmtsF
    simp (config := { decide := true }) [RS.is, RS.good, RS.adv, RS.hd, RS.need, RS.fail, nameF, kindF, eithF, kVar, kIf, kWhile, kLock, kOut, kPublic, kSecret, kInt, kBool, kElse, kBy, kFunc, kThread, kReturn]
  unfold blockF
  simp (config := { decide := true }) [RS.is, RS.good, RS.adv, RS.hd, RS.need, RS.fail, nameF, kindF, eithF, kVar, kIf, kWhile, kLock, kOut, kPublic, kSecret, kInt, kBool, kElse, kBy, kFunc, kThread, kReturn, h]
theorem aw5_if (n : Nat) (r : List Wd) : stmtF (n + 5) 1 (.ok (⟨0, [105, 102], 0, 7⟩ :: ⟨2, [40], 0, 9⟩ :: ⟨0, [97], 0, 10⟩ :: ⟨2, [41], 0, 11⟩ :: ⟨2, [123], 0, 12⟩ :: ⟨0, [111, 117, 116], 0, 13⟩ :: ⟨1, [49], 1, 17⟩ :: ⟨2, [59], 0, 18⟩ :: ⟨2, [125], 0, 19⟩ :: ⟨0, [101, 108, 115, 101], 0, 20⟩ :: ⟨2, [123], 0, 24⟩ :: ⟨0, [98], 0, 25⟩ :: ⟨2, [91], 0, 26⟩ :: ⟨1, [50], 2, 27⟩ :: ⟨2, [93], 0, 28⟩ :: ⟨2, [61], 0, 29⟩ :: ⟨1, [51], 3, 30⟩ :: ⟨2, [59], 0, 31⟩ :: ⟨2, [125], 0, 32⟩ :: r)) = (aw5S, .ok r) := by
  have hb : boundF (.ok (⟨2, [40], 0, 9⟩ :: ⟨0, [97], 0, 10⟩ :: ⟨2, [41], 0, 11⟩ :: ⟨2, [123], 0, 12⟩ :: ⟨0, [111, 117, 116], 0, 13⟩ :: ⟨1, [49], 1, 17⟩ :: ⟨2, [59], 0, 18⟩ :: ⟨2, [125], 0, 19⟩ :: ⟨0, [101, 108, 115, 101], 0, 20⟩ :: ⟨2, [123], 0, 24⟩ :: ⟨0, [98], 0, 25⟩ :: ⟨2, [91], 0, 26⟩ :: ⟨1, [50], 2, 27⟩ :: ⟨2, [93], 0, 28⟩ :: ⟨2, [61], 0, 29⟩ :: ⟨1, [51], 3, 30⟩ :: ⟨2, [59], 0, 31⟩ :: ⟨2, [125], 0, 32⟩ :: r)) = (.mk 2 0 0 [97] [] 10, .ok (⟨2, [123], 0, 12⟩ :: ⟨0, [111, 117, 116], 0, 13⟩ :: ⟨1, [49], 1, 17⟩ :: ⟨2, [59], 0, 18⟩ :: ⟨2, [125], 0, 19⟩ :: ⟨0, [101, 108, 115, 101], 0, 20⟩ :: ⟨2, [123], 0, 24⟩ :: ⟨0, [98], 0, 25⟩ :: ⟨2, [91], 0, 26⟩ :: ⟨1, [50], 2, 27⟩ :: ⟨2, [93], 0, 28⟩ :: ⟨2, [61], 0, 29⟩ :: ⟨1, [51], 3, 30⟩ :: ⟨2, [59], 0, 31⟩ :: ⟨2, [125], 0, 32⟩ :: r)) := by
    unfold boundF
    simp (config := { decide := true }) [RS.is, RS.good, RS.adv, RS.hd, RS.need, RS.fail, nameF, kindF, eithF, kVar, kIf, kWhile, kLock, kOut, kPublic, kSecret, kInt, kBool, kElse, kBy, kFunc, kThread, kReturn, aw5_a]
  have h1 := aw5_b1 n (⟨0, [101, 108, 115, 101], 0, 20⟩ :: ⟨2, [123], 0, 24⟩ :: ⟨0, [98], 0, 25⟩ :: ⟨2, [91], 0, 26⟩ :: ⟨1, [50], 2, 27⟩ :: ⟨2, [93], 0, 28⟩ :: ⟨2, [61], 0, 29⟩ :: ⟨1, [51], 3, 30⟩ :: ⟨2, [59], 0, 31⟩ :: ⟨2, [125], 0, 32⟩ :: r)
  have h2 := aw5_b2 n r
  unfold stmtF
  rw [show (RS.ok (⟨0, [105, 102], 0, 7⟩ :: ⟨2, [40], 0, 9⟩ :: ⟨0, [97], 0, 10⟩ :: ⟨2, [41], 0, 11⟩ :: ⟨2, [123], 0, 12⟩ :: ⟨0, [111, 117, 116], 0, 13⟩ :: ⟨1, [49], 1, 17⟩ :: ⟨2, [59], 0, 18⟩ :: ⟨2, [125], 0, 19⟩ :: ⟨0, [101, 108, 115, 101], 0, 20⟩ :: ⟨2, [123], 0, 24⟩ :: ⟨0, [98], 0, 25⟩ :: ⟨2, [91], 0, 26⟩ :: ⟨1, [50], 2, 27⟩ :: ⟨2, [93], 0, 28⟩ :: ⟨2, [61], 0, 29⟩ :: ⟨1, [51], 3, 30⟩ :: ⟨2, [59], 0, 31⟩ :: ⟨2, [125], 0, 32⟩ :: r)).adv = .ok (⟨2, [40], 0, 9⟩ :: ⟨0, [97], 0, 10⟩ :: ⟨2, [41], 0, 11⟩ :: ⟨2, [123], 0, 12⟩ :: ⟨0, [111, 117, 116], 0, 13⟩ :: ⟨1, [49], 1, 17⟩ :: ⟨2, [59], 0, 18⟩ :: ⟨2, [125], 0, 19⟩ :: ⟨0, [101, 108, 115, 101], 0, 20⟩ :: ⟨2, [123], 0, 24⟩ :: ⟨0, [98], 0, 25⟩ :: ⟨2, [91], 0, 26⟩ :: ⟨1, [50], 2, 27⟩ :: ⟨2, [93], 0, 28⟩ :: ⟨2, [61], 0, 29⟩ :: ⟨1, [51], 3, 30⟩ :: ⟨2, [59], 0, 31⟩ :: ⟨2, [125], 0, 32⟩ :: r) from rfl, hb]
  simp only [h1]
  simp (config := { decide := true }) [RS.is, RS.good, RS.adv, RS.hd, RS.need, RS.fail, nameF, kindF, eithF, kVar, kIf, kWhile, kLock, kOut, kPublic, kSecret, kInt, kBool, kElse, kBy, kFunc, kThread, kReturn, h2, aw5S]
theorem aw5_th (n : Nat) (r : List Wd) : blockF (n + 7) 0 (.ok (⟨2, [123], 0, 6⟩ :: ⟨0, [105, 102], 0, 7⟩ :: ⟨2, [40], 0, 9⟩ :: ⟨0, [97], 0, 10⟩ :: ⟨2, [41], 0, 11⟩ :: ⟨2, [123], 0, 12⟩ :: ⟨0, [111, 117, 116], 0, 13⟩ :: ⟨1, [49], 1, 17⟩ :: ⟨2, [59], 0, 18⟩ :: ⟨2, [125], 0, 19⟩ :: ⟨0, [101, 108, 115, 101], 0, 20⟩ :: ⟨2, [123], 0, 24⟩ :: ⟨0, [98], 0, 25⟩ :: ⟨2, [91], 0, 26⟩ :: ⟨1, [50], 2, 27⟩ :: ⟨2, [93], 0, 28⟩ :: ⟨2, [61], 0, 29⟩ :: ⟨1, [51], 3, 30⟩ :: ⟨2, [59], 0, 31⟩ :: ⟨2, [125], 0, 32⟩ :: ⟨2, [125], 0, 33⟩ :: r)) = ([aw5S], .ok r) := by
  have h : stmtsF (n + 6) 1 [125] (.ok (⟨0, [105, 102], 0, 7⟩ :: ⟨2, [40], 0, 9⟩ :: ⟨0, [97], 0, 10⟩ :: ⟨2, [41], 0, 11⟩ :: ⟨2, [123], 0, 12⟩ :: ⟨0, [111, 117, 116], 0, 13⟩ :: ⟨1, [49], 1, 17⟩ :: ⟨2, [59], 0, 18⟩ :: ⟨2, [125], 0, 19⟩ :: ⟨0, [101, 108, 115, 101], 0, 20⟩ :: ⟨2, [123], 0, 24⟩ :: ⟨0, [98], 0, 25⟩ :: ⟨2, [91], 0, 26⟩ :: ⟨1, [50], 2, 27⟩ :: ⟨2, [93], 0, 28⟩ :: ⟨2, [61], 0, 29⟩ :: ⟨1, [51], 3, 30⟩ :: ⟨2, [59], 0, 31⟩ :: ⟨2, [125], 0, 32⟩ :: ⟨2, [125], 0, 33⟩ :: r)) = ([aw5S], .ok (⟨2, [125], 0, 33⟩ :: r)) := by
    unfold stmtsF
    rw [aw5_if]
    unfold stmtsF
    simp (config := { decide := true }) [RS.is, RS.good, RS.adv, RS.hd, RS.need, RS.fail, nameF, kindF, eithF, kVar, kIf, kWhile, kLock, kOut, kPublic, kSecret, kInt, kBool, kElse, kBy, kFunc, kThread, kReturn]
  unfold blockF
  show ((stmtsF (n + 6) 1 [125] (RS.ok (⟨0, [105, 102], 0, 7⟩ :: ⟨2, [40], 0, 9⟩ :: ⟨0, [97], 0, 10⟩ :: ⟨2, [41], 0, 11⟩ :: ⟨2, [123], 0, 12⟩ :: ⟨0, [111, 117, 116], 0, 13⟩ :: ⟨1, [49], 1, 17⟩ :: ⟨2, [59], 0, 18⟩ :: ⟨2, [125], 0, 19⟩ :: ⟨0, [101, 108, 115, 101], 0, 20⟩ :: ⟨2, [123], 0, 24⟩ :: ⟨0, [98], 0, 25⟩ :: ⟨2, [91], 0, 26⟩ :: ⟨1, [50], 2, 27⟩ :: ⟨2, [93], 0, 28⟩ :: ⟨2, [61], 0, 29⟩ :: ⟨1, [51], 3, 30⟩ :: ⟨2, [59], 0, 31⟩ :: ⟨2, [125], 0, 32⟩ :: ⟨2, [125], 0, 33⟩ :: r))).1, (stmtsF (n + 6) 1 [125] (RS.ok (⟨0, [105, 102], 0, 7⟩ :: ⟨2, [40], 0, 9⟩ :: ⟨0, [97], 0, 10⟩ :: ⟨2, [41], 0, 11⟩ :: ⟨2, [123], 0, 12⟩ :: ⟨0, [111, 117, 116], 0, 13⟩ :: ⟨1, [49], 1, 17⟩ :: ⟨2, [59], 0, 18⟩ :: ⟨2, [125], 0, 19⟩ :: ⟨0, [101, 108, 115, 101], 0, 20⟩ :: ⟨2, [123], 0, 24⟩ :: ⟨0, [98], 0, 25⟩ :: ⟨2, [91], 0, 26⟩ :: ⟨1, [50], 2, 27⟩ :: ⟨2, [93], 0, 28⟩ :: ⟨2, [61], 0, 29⟩ :: ⟨1, [51], 3, 30⟩ :: ⟨2, [59], 0, 31⟩ :: ⟨2, [125], 0, 32⟩ :: ⟨2, [125], 0, 33⟩ :: r))).2.need [125]) = _
  rw [h]
  rfl
theorem aw5_gl (n : Nat) (r : List Wd) : globF n (.ok (⟨0, [112, 117, 98, 108, 105, 99], 0, 34⟩ :: ⟨0, [105, 110, 116], 0, 41⟩ :: ⟨0, [103], 0, 45⟩ :: ⟨2, [91], 0, 46⟩ :: ⟨1, [50], 2, 47⟩ :: ⟨2, [93], 0, 48⟩ :: ⟨0, [98, 121], 0, 49⟩ :: ⟨0, [109], 0, 52⟩ :: ⟨2, [59], 0, 53⟩ :: r)) = if 32 ≤ n then globF n (.ok (⟨0, [112, 117, 98, 108, 105, 99], 0, 34⟩ :: ⟨0, [105, 110, 116], 0, 41⟩ :: ⟨0, [103], 0, 45⟩ :: ⟨2, [91], 0, 46⟩ :: ⟨1, [50], 2, 47⟩ :: ⟨2, [93], 0, 48⟩ :: ⟨0, [98, 121], 0, 49⟩ :: ⟨0, [109], 0, 52⟩ :: ⟨2, [59], 0, 53⟩ :: r)) else (⟨45, [103], false, false, 2, [109]⟩, .ok r) := by
  by_cases h : 32 ≤ n
  · rw [if_pos h]
  · rw [if_neg h]
    unfold globF
    rw [show limF n 32 (.ok (⟨0, [112, 117, 98, 108, 105, 99], 0, 34⟩ :: ⟨0, [105, 110, 116], 0, 41⟩ :: ⟨0, [103], 0, 45⟩ :: ⟨2, [91], 0, 46⟩ :: ⟨1, [50], 2, 47⟩ :: ⟨2, [93], 0, 48⟩ :: ⟨0, [98, 121], 0, 49⟩ :: ⟨0, [109], 0, 52⟩ :: ⟨2, [59], 0, 53⟩ :: r)) = .ok (⟨0, [112, 117, 98, 108, 105, 99], 0, 34⟩ :: ⟨0, [105, 110, 116], 0, 41⟩ :: ⟨0, [103], 0, 45⟩ :: ⟨2, [91], 0, 46⟩ :: ⟨1, [50], 2, 47⟩ :: ⟨2, [93], 0, 48⟩ :: ⟨0, [98, 121], 0, 49⟩ :: ⟨0, [109], 0, 52⟩ :: ⟨2, [59], 0, 53⟩ :: r) from if_neg h]
    rfl
theorem aw5_par : parF aw5W = (aw5P, .ok [⟨3, [], 0, 61⟩]) := by
  have h1 := aw5_th 100 (⟨0, [112, 117, 98, 108, 105, 99], 0, 34⟩ :: ⟨0, [105, 110, 116], 0, 41⟩ :: ⟨0, [103], 0, 45⟩ :: ⟨2, [91], 0, 46⟩ :: ⟨1, [50], 2, 47⟩ :: ⟨2, [93], 0, 48⟩ :: ⟨0, [98, 121], 0, 49⟩ :: ⟨0, [109], 0, 52⟩ :: ⟨2, [59], 0, 53⟩ :: ⟨0, [108, 111, 99, 107], 0, 54⟩ :: ⟨0, [109], 0, 59⟩ :: ⟨2, [59], 0, 60⟩ :: [⟨3, [], 0, 61⟩])
  have t1 : thingF 107 ⟨[], [], [], []⟩ (.ok aw5W) = (⟨[], [], [], [[aw5S]]⟩, .ok (⟨0, [112, 117, 98, 108, 105, 99], 0, 34⟩ :: ⟨0, [105, 110, 116], 0, 41⟩ :: ⟨0, [103], 0, 45⟩ :: ⟨2, [91], 0, 46⟩ :: ⟨1, [50], 2, 47⟩ :: ⟨2, [93], 0, 48⟩ :: ⟨0, [98, 121], 0, 49⟩ :: ⟨0, [109], 0, 52⟩ :: ⟨2, [59], 0, 53⟩ :: ⟨0, [108, 111, 99, 107], 0, 54⟩ :: ⟨0, [109], 0, 59⟩ :: ⟨2, [59], 0, 60⟩ :: [⟨3, [], 0, 61⟩])) := by
    unfold thingF
    rw [if_neg (by decide), if_neg (by decide), if_pos (by decide)]
    rw [show limF ([] : List (List Stm)).length 4 (.ok aw5W) = .ok aw5W from rfl]
    rw [if_pos (by decide)]
    rw [show (RS.ok aw5W).adv = .ok (⟨2, [123], 0, 6⟩ :: ⟨0, [105, 102], 0, 7⟩ :: ⟨2, [40], 0, 9⟩ :: ⟨0, [97], 0, 10⟩ :: ⟨2, [41], 0, 11⟩ :: ⟨2, [123], 0, 12⟩ :: ⟨0, [111, 117, 116], 0, 13⟩ :: ⟨1, [49], 1, 17⟩ :: ⟨2, [59], 0, 18⟩ :: ⟨2, [125], 0, 19⟩ :: ⟨0, [101, 108, 115, 101], 0, 20⟩ :: ⟨2, [123], 0, 24⟩ :: ⟨0, [98], 0, 25⟩ :: ⟨2, [91], 0, 26⟩ :: ⟨1, [50], 2, 27⟩ :: ⟨2, [93], 0, 28⟩ :: ⟨2, [61], 0, 29⟩ :: ⟨1, [51], 3, 30⟩ :: ⟨2, [59], 0, 31⟩ :: ⟨2, [125], 0, 32⟩ :: ⟨2, [125], 0, 33⟩ :: ⟨0, [112, 117, 98, 108, 105, 99], 0, 34⟩ :: ⟨0, [105, 110, 116], 0, 41⟩ :: ⟨0, [103], 0, 45⟩ :: ⟨2, [91], 0, 46⟩ :: ⟨1, [50], 2, 47⟩ :: ⟨2, [93], 0, 48⟩ :: ⟨0, [98, 121], 0, 49⟩ :: ⟨0, [109], 0, 52⟩ :: ⟨2, [59], 0, 53⟩ :: ⟨0, [108, 111, 99, 107], 0, 54⟩ :: ⟨0, [109], 0, 59⟩ :: ⟨2, [59], 0, 60⟩ :: [⟨3, [], 0, 61⟩]) from rfl]
    rw [h1]
    rfl
  have t2 : thingF 107 ⟨[], [], [], [[aw5S]]⟩ (.ok (⟨0, [112, 117, 98, 108, 105, 99], 0, 34⟩ :: ⟨0, [105, 110, 116], 0, 41⟩ :: ⟨0, [103], 0, 45⟩ :: ⟨2, [91], 0, 46⟩ :: ⟨1, [50], 2, 47⟩ :: ⟨2, [93], 0, 48⟩ :: ⟨0, [98, 121], 0, 49⟩ :: ⟨0, [109], 0, 52⟩ :: ⟨2, [59], 0, 53⟩ :: ⟨0, [108, 111, 99, 107], 0, 54⟩ :: ⟨0, [109], 0, 59⟩ :: ⟨2, [59], 0, 60⟩ :: [⟨3, [], 0, 61⟩])) = (⟨[⟨45, [103], false, false, 2, [109]⟩], [], [], [[aw5S]]⟩, .ok (⟨0, [108, 111, 99, 107], 0, 54⟩ :: ⟨0, [109], 0, 59⟩ :: ⟨2, [59], 0, 60⟩ :: [⟨3, [], 0, 61⟩])) := by
    unfold thingF
    rw [if_neg (by decide), if_neg (by decide), if_neg (by decide), if_pos (by decide)]
    have g := aw5_gl 0 (⟨0, [108, 111, 99, 107], 0, 54⟩ :: ⟨0, [109], 0, 59⟩ :: ⟨2, [59], 0, 60⟩ :: [⟨3, [], 0, 61⟩])
    rw [if_neg (by decide)] at g
    rw [show (⟨[], [], [], [[aw5S]]⟩ : Pg).gs.length = 0 from rfl, g]
    rfl
  have t3 : thingF 107 ⟨[⟨45, [103], false, false, 2, [109]⟩], [], [], [[aw5S]]⟩ (.ok (⟨0, [108, 111, 99, 107], 0, 54⟩ :: ⟨0, [109], 0, 59⟩ :: ⟨2, [59], 0, 60⟩ :: [⟨3, [], 0, 61⟩])) = (aw5P, .ok [⟨3, [], 0, 61⟩]) := by
    unfold thingF
    rw [if_pos (by decide)]
    rfl
  have w1 : ∀ m p, wholeF 107 (m + 1) p (.ok aw5W) = wholeF 107 m (thingF 107 p (.ok aw5W)).1 (thingF 107 p (.ok aw5W)).2 := fun m p => whole_more (by decide)
  show wholeF 107 36 ⟨[], [], [], []⟩ (.ok aw5W) = _
  rw [w1 35, t1]
  show wholeF 107 (34 + 1) _ (.ok (_ :: _)) = _
  rw [whole_more (by decide), t2]
  show wholeF 107 (33 + 1) _ (.ok (_ :: _)) = _
  rw [whole_more (by decide), t3]
  exact whole_stop rfl
end Go.Proofs.YtkhbbapocamlmaaDoor
namespace Go.Proofs.YtkhbbapocamlmaaDoor
open Go

section
variable {num : List UInt8 → Option Int}

theorem mem_tw {p : UInt8 → Bool} : ∀ (l : List UInt8) (c : UInt8), c ∈ l.takeWhile p → p c = true
  | [], c, h => by simp at h
  | x :: r, c, h => by
    rw [List.takeWhile_cons] at h
    split at h
    · rcases List.mem_cons.1 h with rfl | h
      · assumption
      · exact mem_tw r c h
    · simp at h
theorem all_take {p : UInt8 → Bool} : ∀ l : List UInt8, ∀ c ∈ l.take (l.takeWhile p).length, p c = true := by
  intro l
  rw [take_takeWhile]
  intro c hc
  exact mem_tw l c hc
theorem Sc.wd_ok (hnum : ∀ t v, num t = some v → 0 ≤ v ∧ v ≤ 9223372036854775807 ∧ t = Lib.itoa v) {l : List UInt8} {a : Nat} {ws : List Wd} {r : Option (Int × Nat)} (h : Sc num l a ws r) : ∀ w ∈ ws, WdOk w := by
  induction h with
  | done a => intro w hw; simp at hw; subst hw; exact ⟨fun h => absurd (show (3 : Int) = 0 from h) (by decide), fun h => absurd (show (3 : Int) = 1 from h) (by decide), fun h => absurd rfl h⟩
  | bad => intro w hw; simp at hw
  | gap _ _ _ _ _ _ _ _ ih => exact ih
  | word l a n k v ws r hl ht hs ih =>
    intro w hw
    rcases List.mem_cons.1 hw with rfl | hw
    · have hn := tok_word hl ht
      refine ⟨fun hk hy => ?_, fun hk => ?_, fun _ => by show 1 ≤ (l.take n).length; rw [List.length_take]; omega⟩
      · obtain rfl : k = 0 := hk
        obtain ⟨c, q, rfl⟩ := List.exists_cons_of_ne_nil hl
        simp only [tok] at ht
        split at ht
        · cases ht
        split at ht
        · cases ht
        split at ht
        · rename_i hc
          split at ht
          · cases ht
          · rename_i hs24
            injection ht with e1 e2 e3
            subst e2
            have hall := all_take (p := isPart) (c :: q)
            obtain ⟨m, hm⟩ : ∃ m, spanL (c :: q) = m + 1 := ⟨spanL (c :: q) - 1, by have := hn.1; omega⟩
            refine ⟨c, q.take m, by rw [hm]; rfl, hc, fun d hd => hall d ?_, by rw [List.length_take]; omega, hy⟩
            show d ∈ (c :: q).take (spanL (c :: q))
            rw [hm, List.take_succ_cons]
            exact List.mem_cons_of_mem _ hd
        · split at ht
          · split at ht
            · injection ht with e1; cases e1
            · cases ht
          · split at ht
            · cases ht
            · injection ht with e1; cases e1
      · obtain rfl : k = 1 := hk
        obtain ⟨c, q, rfl⟩ := List.exists_cons_of_ne_nil hl
        simp only [tok] at ht
        split at ht
        · cases ht
        split at ht
        · cases ht
        split at ht
        · split at ht
          · cases ht
          · injection ht with e1; cases e1
        · split at ht
          · split at ht
            · rename_i v' hv
              injection ht with e1 e2 e3
              subst e3
              rw [e2] at hv
              exact hnum _ _ hv
            · cases ht
          · split at ht
            · cases ht
            · injection ht with e1; cases e1
    · exact ih w hw
theorem Sc.lens_le {l : List UInt8} {a : Nat} {ws : List Wd} {r : Option (Int × Nat)} (h : Sc num l a ws r) : lens ws ≤ l.length := by
  induction h with
  | done a => simp [lens]
  | bad => simp [lens]
  | gap l a n ws r _ _ _ ih =>
    rw [List.length_drop] at ih
    omega
  | word l a n k v ws r hl ht _ ih =>
    have := tok_word hl ht
    simp only [lens, List.length_take]
    rw [List.length_drop] at ih
    omega
/-- Where words stand. -/
theorem Sc.place {l : List UInt8} {a : Nat} {ws : List Wd} {r : Option (Int × Nat)} (h : Sc num l a ws r) : ∀ w ∈ ws, w.a ≤ a + l.length ∧ (w.k ≠ 3 → w.a < a + l.length) := by
  induction h with
  | done a => intro w hw; simp at hw; subst hw; exact ⟨Nat.le_refl _, fun h => absurd rfl h⟩
  | bad => intro w hw; simp at hw
  | gap l a n ws r hl ht _ ih =>
    intro w hw
    have h1 := tok_gap hl ht
    have := ih w hw
    rw [List.length_drop] at this
    exact ⟨by omega, fun h => by have := this.2 h; omega⟩
  | word l a n k v ws r hl ht _ ih =>
    intro w hw
    have h1 := tok_word hl ht
    rcases List.mem_cons.1 hw with rfl | hw
    · exact ⟨by show a ≤ _; omega, fun _ => by show a < _; omega⟩
    · have := ih w hw
      rw [List.length_drop] at this
      exact ⟨by omega, fun h => by have := this.2 h; omega⟩
/-- The last word alone is the end. -/
theorem Sc.ends {l : List UInt8} {a : Nat} {ws : List Wd} {r : Option (Int × Nat)} (h : Sc num l a ws r) (hr : r = none) : ∃ ws0 e, ws = ws0 ++ [e] ∧ e.k = 3 ∧ ∀ w ∈ ws0, w.k ≠ 3 := by
  induction h with
  | done a => exact ⟨[], _, rfl, rfl, by simp⟩
  | bad => cases hr
  | gap _ _ _ _ _ _ _ _ ih => exact ih hr
  | word l a n k v ws r hl ht _ ih =>
    obtain ⟨w0, e, h1, h2, h3⟩ := ih hr
    exact ⟨_ :: w0, e, by rw [h1]; rfl, h2, fun w hw => by
      rcases List.mem_cons.1 hw with rfl | hw
      · exact tok_kind ht
      · exact h3 w hw⟩
end

theorem P.ne {o : Nat} {j : Job} {ts : List Wd} {r : Res} (h : P o j ts r) : ts ≠ [] := by
  induction h with
  | lstMore _ _ _ ih _ => exact ih
  | lstEnd _ _ ih => exact ih
  | lstBad _ ih => exact ih
  | expr _ _ ih _ => exact ih
  | exprBad _ ih => exact ih
  | _ => simp

/-- No thing begins with the end. -/
theorem P.begins {o : Nat} {j : Job} {ts : List Wd} {r : Res} (h : P o j ts r) : (j = .thing ∨ (∃ q, j = .expr q) ∨ ∃ acc, j = .list acc) → (∀ c a, r ≠ .bad c a) → ∀ w t, ts = w :: t → w.k ≠ 3 := by
  induction h with
  | num h => rintro _ _ w t e; cases e; rw [h]; decide
  | tru h _ | fls h _ => rintro _ _ w t e; cases e; rw [h]; decide
  | neg h _ _ | not h _ _ | par h _ _ => rintro _ _ w t e; cases e; exact h.ne
  | name h _ _ _ => rintro _ _ w t e; cases e; rw [h]; decide
  | stray | behLim | behBad | wthLim | wthNo | wthBad | namElemBad | namCallBad | givLim | givNo | givBad | lstBad | exprBad | loopBad => intro _ h; exact absurd rfl (h _ _)
  | behOk | wthOk | namVar | namElem | namCall | givNone | givSome | loopEnd | loopMore => intro h; rcases h with h | ⟨_, h⟩ | ⟨_, h⟩ <;> cases h
  | lstMore _ _ _ ih _ => intro _ _; exact ih (.inr (.inl ⟨_, rfl⟩)) (by intros; simp)
  | lstEnd _ _ ih => intro _ _; exact ih (.inr (.inl ⟨_, rfl⟩)) (by intros; simp)
  | expr _ _ ih _ => intro _ _; exact ih (.inl rfl) (by intros; simp)
end Go.Proofs.YtkhbbapocamlmaaDoor
namespace Go.Proofs.YtkhbbapocamlmaaDoor
open Go Go.RowKit

structure NiceP (p : Pg) : Prop where
  nl : p.ls.length ≤ 8
  ng : p.gs.length ≤ 32
  nf : p.fs.length ≤ 16
  nt : p.ths.length ≤ 4
  ls : ∀ l ∈ p.ls, NameB l.nm
  gs : ∀ g ∈ p.gs, NameB g.nm ∧ (g.len = 0 ∨ 1 ≤ g.len ∧ g.len ≤ 64) ∧ NmOk g.by_
  fs : ∀ f ∈ p.fs, NameB f.nm ∧ f.ps.length ≤ 6 ∧ ∀ q ∈ f.ps, NameB q.nm
theorem name_nb {s : RS} (hf : s.fin) {tt : List Wd} (hh : (nameF s).2 = .ok tt) {ss : List Wd} (hs : s = .ok ss) (ho : OkW ss) : NameB (nameF s).1.1 := by
  subst hs
  obtain ⟨w, r, rfl⟩ := (hf ss rfl).ne
  rw [nameF_cons] at hh ⊢
  by_cases h : w.k ≠ 0 ∨ keyB w.t = true
  · rw [if_pos h] at hh
    cases hh
  · rw [if_neg h]
    have hk : w.k = 0 := by (cases Classical.em (w.k = 0) with | inl e => exact e | inr e => exact absurd (.inl e) h)
    have hy : keyB w.t = false := by (cases e : keyB w.t with | false => rfl | true => exact absurd (.inr e) h)
    exact (ho.1 w (.head _)).1 hk hy
theorem lim_lt {n m : Nat} {s : RS} {u : List Wd} (hf : s.fin) (h : limF n m s = .ok u) : n < m ∧ s = .ok u := by
  unfold limF at h
  split at h
  · cases s with
    | bad c a => cases h
    | ok ss =>
      obtain ⟨w, r, rfl⟩ := (hf ss rfl).ne
      cases h
  · exact ⟨by omega, h⟩
theorem pars_nice : ∀ (n k : Nat) (s : RS), k ≤ 6 → s.fin → ∀ (ss : List Wd), s = .ok ss → OkW ss → ∀ tt, (parsF n k s).2 = .ok tt → (∀ q ∈ (parsF n k s).1, NameB q.nm) ∧ k + (parsF n k s).1.length ≤ 6
  | 0, k, s, hk, _, _, _, _, _, _ => ⟨by simp [parsF], by simpa [parsF] using hk⟩
  | n + 1, k, s, hk, hf, ss, hs, ho, tt, ht => by
    subst hs
    have hg : (RS.ok ss).good = true := rfl
    have l1 := lim_le hf k 6
    have l2 := kind_le l1.2
    have l3 := name_le l2.2
    unfold parsF at ht ⊢
    simp only [hg, if_true] at ht ⊢
    cases b : (nameF (kindF (limF k 6 (.ok ss))).2).2.is [44] with
    | false =>
      simp only [b, Bool.false_eq_true, if_false] at ht ⊢
      obtain ⟨u1, e1, s1⟩ := (name_sb _).1 tt ht
      obtain ⟨u0, e0, s0⟩ := kind_sb _ u1 e1
      obtain ⟨hlt, es⟩ := lim_lt hf e0
      cases es
      have hn := name_nb l2.2 ht e1 (ho.suf s0)
      refine ⟨fun q hq => ?_, ?_⟩
      · simp only [List.mem_singleton] at hq
        subst hq
        exact hn
      · simp only [List.length_cons, List.length_nil]
        omega
    | true =>
      simp only [b, if_true] at ht ⊢
      have l4 := (is_adv b l3.2).1
      have k5 := pars_sb n (k + 1) (nameF (kindF (limF k 6 (.ok ss))).2).2.adv
      obtain ⟨u4, e4, s4⟩ := k5 tt ht
      obtain ⟨u3, e3, s3⟩ := adv_sb _ u4 e4
      obtain ⟨u1, e1, s1⟩ := (name_sb _).1 u3 e3
      obtain ⟨u0, e0, s0⟩ := kind_sb _ u1 e1
      obtain ⟨hlt, es⟩ := lim_lt hf e0
      cases es
      have hn := name_nb l2.2 e3 e1 (ho.suf s0)
      obtain ⟨i1, i2⟩ := pars_nice n (k + 1) _ (by omega) l4.2 u4 e4 (ho.suf (s3.trans (s1.trans s0))) tt ht
      refine ⟨fun q hq => ?_, ?_⟩
      · rcases List.mem_cons.1 hq with rfl | hq
        · exact hn
        · exact i1 q hq
      · simp only [List.length_cons]
        omega
theorem params_nice {s : RS} (hf : s.fin) {ss : List Wd} (hs : s = .ok ss) (ho : OkW ss) {tt : List Wd} (ht : (paramsF s).2 = .ok tt) : (∀ q ∈ (paramsF s).1, NameB q.nm) ∧ (paramsF s).1.length ≤ 6 := by
  have e : paramsF s = if (s.need [40]).is [41] then ([], (s.need [40]).adv) else ((parsF 8 0 (s.need [40])).1, (parsF 8 0 (s.need [40])).2.need [41]) := rfl
  rw [e] at ht ⊢
  have l1 := need_le hf [40]
  cases b : (s.need [40]).is [41] with
  | true => simp
  | false =>
    simp only [b, Bool.false_eq_true, if_false] at ht ⊢
    obtain ⟨u2, e2, s2⟩ := need_sb [41] _ tt ht
    obtain ⟨u1, e1, s1⟩ := pars_sb 8 0 _ u2 e2
    obtain ⟨u0, e0, s0⟩ := need_sb [40] _ u1 e1
    rw [hs] at e0
    cases e0
    have h := pars_nice 8 0 _ (by omega) l1.2 u1 e1 (ho.suf s0) u2 e2
    exact ⟨h.1, by simpa using h.2⟩
theorem lenF_nice {s : RS} (hf : s.fin) {tt : List Wd} (ht : (lenF s).2 = .ok tt) : 1 ≤ (lenF s).1 ∧ (lenF s).1 ≤ 64 := by
  cases s with
  | bad c a => cases ht
  | ok ss =>
    obtain ⟨w, r, rfl⟩ := (hf ss rfl).ne
    have e : lenF (.ok (w :: r)) = if w.k ≠ 1 then (0, .bad 11 w.a) else if w.n < 1 ∨ 64 < w.n then (0, .bad 2 w.a) else (w.n, .ok r) := rfl
    rw [e] at ht ⊢
    by_cases h1 : w.k ≠ 1
    · rw [if_pos h1] at ht
      cases ht
    · rw [if_neg h1] at ht ⊢
      by_cases h2 : w.n < 1 ∨ 64 < w.n
      · rw [if_pos h2] at ht
        cases ht
      · rw [if_neg h2]
        show 1 ≤ w.n ∧ w.n ≤ 64
        omega
theorem glob_nice {n : Nat} {s : RS} (hf : s.fin) {ss : List Wd} (hs : s = .ok ss) (ho : OkW ss) {tt : List Wd} (ht : (globF n s).2 = .ok tt) : n < 32 ∧ NameB (globF n s).1.nm ∧ ((globF n s).1.len = 0 ∨ 1 ≤ (globF n s).1.len ∧ (globF n s).1.len ≤ 64) ∧ NmOk (globF n s).1.by_ := by
  obtain ⟨τ0, h0⟩ : ∃ q, limF n 32 s = q := ⟨_, rfl⟩
  obtain ⟨⟨⟨tr, sc⟩, τ1⟩, h1⟩ : ∃ q, kindF τ0 = q := ⟨_, rfl⟩
  obtain ⟨⟨⟨nm, a⟩, τ2⟩, h2⟩ : ∃ q, nameF τ1 = q := ⟨_, rfl⟩
  obtain ⟨⟨l, τ3⟩, h3⟩ : ∃ q, (if τ2.is [91] then (let q := lenF τ2.adv; (q.1, q.2.need [93])) else ((0 : Int), τ2)) = q := ⟨_, rfl⟩
  obtain ⟨⟨y, τ4⟩, h4⟩ : ∃ q, (if τ3.is kBy then (let q := nameF τ3.adv; (q.1.1, q.2)) else (([] : List UInt8), τ3)) = q := ⟨_, rfl⟩
  have eG : globF n s = (⟨a, nm, tr, sc, l, y⟩, τ4.need [59]) := by
    simp only [globF, h0, h1, h2]
    rw [h3]
    simp only [h4]
  rw [eG] at ht ⊢
  have l0 : Le τ0 s := by (have := lim_le hf n 32; rwa [h0] at this)
  have l1 : Le τ1 τ0 := by (have := kind_le l0.2; rwa [h1] at this)
  have l2 : Le τ2 τ1 := by (have := name_le l1.2; rwa [h2] at this)
  obtain ⟨u4, e4, s4⟩ := need_sb [59] _ tt ht
  have k0 : Sb τ0 s := by (have := lim_sb n 32 s; rwa [h0] at this)
  have k1 : Sb τ1 τ0 := by (have := kind_sb τ0; rwa [h1] at this)
  have k2 : Sb τ2 τ1 := by (have := (name_sb τ1).1; rwa [h2] at this)
  have q3 : Sb τ3 τ2 ∧ τ3.fin ∧ ((∃ u, τ3 = .ok u) → l = 0 ∨ 1 ≤ l ∧ l ≤ 64) := by
    cases b : τ2.is [91] with
    | false =>
      rw [b] at h3
      cases h3
      exact ⟨.refl _, l2.2, fun _ => .inl rfl⟩
    | true =>
      rw [b] at h3
      cases h3
      have m1 := (is_adv b l2.2).1
      have m2 : Sb (lenF τ2.adv).2 τ2.adv := lenF_sb _
      have m3 : (lenF τ2.adv).2.fin := by
        cases ha : τ2.adv with
        | bad c a => exact bad_fin _ _
        | ok q =>
          obtain ⟨w, r, rfl⟩ := (m1.2 q ha).ne
          have e : lenF (.ok (w :: r)) = if w.k ≠ 1 then (0, .bad 11 w.a) else if w.n < 1 ∨ 64 < w.n then (0, .bad 2 w.a) else (w.n, .ok r) := rfl
          rw [e]
          by_cases p1 : w.k ≠ 1
          · rw [if_pos p1]
            exact bad_fin _ _
          · rw [if_neg p1]
            by_cases p2 : w.n < 1 ∨ 64 < w.n
            · rw [if_pos p2]
              exact bad_fin _ _
            · rw [if_neg p2]
              have hf2 : (RS.ok (w :: r)).fin := fun t e => by cases e; exact m1.2 _ ha
              exact (adv_le hf2 (by omega)).1.2
      refine ⟨(need_sb _ _).trans (m2.trans (adv_sb _)), (need_le m3 [93]).2, fun ⟨u, hu⟩ => .inr ?_⟩
      obtain ⟨v, hv, _⟩ := need_sb [93] _ u hu
      exact lenF_nice m1.2 hv
  have q4 : Sb τ4 τ3 ∧ ∀ u v, τ4 = .ok u → τ3 = .ok v → OkW v → NmOk y := by
    cases b : τ3.is kBy with
    | false =>
      rw [b] at h4
      cases h4
      exact ⟨.refl _, fun _ _ _ _ _ => .inl rfl⟩
    | true =>
      rw [b] at h4
      cases h4
      refine ⟨(name_sb _).1.trans (adv_sb _), fun u v hu hv hov => ?_⟩
      obtain ⟨w, hw, _⟩ := (name_sb τ3.adv).1 u hu
      obtain ⟨x, hx, sx⟩ := adv_sb τ3 w hw
      rw [hv] at hx
      cases hx
      exact name_nm _ u hu w hw (hov.suf sx)
  obtain ⟨u3, e3, s3⟩ := q4.1 u4 e4
  obtain ⟨u2, e2, s2⟩ := q3.1 u3 e3
  obtain ⟨u1, e1, s1⟩ := k2 u2 e2
  obtain ⟨u0, e0, s0⟩ := k1 u1 e1
  obtain ⟨hlt, es⟩ := lim_lt hf (h0.trans e0)
  rw [hs] at es
  cases es
  have hn := name_nb l1.2 (by rw [h2]; exact e2) e1 (ho.suf s0)
  rw [h2] at hn
  exact ⟨hlt, hn, q3.2.2 ⟨u3, e3⟩, q4.2 u4 u3 e4 e3 (ho.suf (s2.trans (s1.trans s0)))⟩
theorem func_nice (n : Nat) {x : Wd} {tt : List Wd} (hft : (RS.ok tt).fin) (hn : 3 * tt.length + 2 ≤ n) (ho : OkW tt) {t' : List Wd} (ht : (funcF n (.ok (x :: tt))).2 = .ok t') : NameB (funcF n (.ok (x :: tt))).1.nm ∧ (funcF n (.ok (x :: tt))).1.ps.length ≤ 6 ∧ ∀ q ∈ (funcF n (.ok (x :: tt))).1.ps, NameB q.nm := by
  obtain ⟨⟨⟨nm, a⟩, τ1⟩, h1⟩ : ∃ q, nameF (.ok tt) = q := ⟨_, rfl⟩
  obtain ⟨⟨lp, τ2⟩, h2⟩ : ∃ q, paramsF τ1 = q := ⟨_, rfl⟩
  obtain ⟨⟨⟨tr, sc⟩, τ3⟩, h3⟩ : ∃ q, kindF τ2 = q := ⟨_, rfl⟩
  obtain ⟨τ4, h4⟩ : ∃ q, τ3.need [123] = q := ⟨_, rfl⟩
  obtain ⟨⟨lb, τ5⟩, h5⟩ : ∃ q, stmtsF n 1 kReturn τ4 = q := ⟨_, rfl⟩
  obtain ⟨τ6, h6⟩ : ∃ q, τ5.need kReturn = q := ⟨_, rfl⟩
  obtain ⟨⟨ex, τ7⟩, h7⟩ : ∃ q, exF τ6 = q := ⟨_, rfl⟩
  obtain ⟨τ8, h8⟩ : ∃ q, τ7.need [59] = q := ⟨_, rfl⟩
  obtain ⟨τ9, h9⟩ : ∃ q, τ8.need [125] = q := ⟨_, rfl⟩
  have eF : funcF n (.ok (x :: tt)) = (⟨a, nm, lp, tr, sc, lb, ex⟩, τ9) := by simp only [funcF, RS.adv, h1, h2, h3, h4, h5, h6, h7, h8, h9]
  rw [eF] at ht ⊢
  have k1 := (name_sb (.ok tt)).1
  have k2 := params_sb τ1
  have k3 := kind_sb τ2
  have k4 := need_sb [123] τ3
  have l1 : Le τ1 (.ok tt) := by (have := name_le hft; rwa [h1] at this)
  have l2 : Le τ2 (.ok tt) := by (have := params_le l1.2; rw [h2] at this; exact this.trans l1)
  have l3 : Le τ3 (.ok tt) := by (have := kind_le l2.2; rw [h3] at this; exact this.trans l2)
  have l4 : Le τ4 (.ok tt) := by (have := need_le l3.2 [123]; rw [h4] at this; exact this.trans l3)
  have k5 := ((rd_all n).2.2 1 kReturn τ4 l4.2 (by (have h44 : τ4.len ≤ tt.length := l4.1; omega))).1
  have k6 := need_sb kReturn τ5
  have k7 := (ex_sb τ6).1
  have k8 := need_sb [59] τ7
  have k9 := need_sb [125] τ8
  rw [h1] at k1
  rw [h2] at k2
  rw [h3] at k3
  rw [h4] at k4
  rw [h5] at k5
  rw [h6] at k6
  rw [h7] at k7
  rw [h8] at k8
  rw [h9] at k9
  obtain ⟨u8, e8, s8⟩ := k9 t' ht
  obtain ⟨u7, e7, s7⟩ := k8 u8 e8
  obtain ⟨u6, e6, s6⟩ := k7 u7 e7
  obtain ⟨u5, e5, s5⟩ := k6 u6 e6
  obtain ⟨u4, e4, s4⟩ := k5 u5 e5
  obtain ⟨u3, e3, s3⟩ := k4 u4 e4
  obtain ⟨u2, e2, s2⟩ := k3 u3 e3
  obtain ⟨u1, e1, s1⟩ := k2 u2 e2
  obtain ⟨u0, e0, s0⟩ := k1 u1 e1
  cases e0
  have g1 := name_nb hft (by rw [h1]; exact e1) rfl ho
  have g2 := params_nice l1.2 e1 (ho.suf s0) (by rw [h2]; exact e2)
  rw [h1] at g1
  rw [h2] at g2
  exact ⟨g1, g2.2, g2.1⟩
theorem thing_nice {n : Nat} {p : Pg} {x : Wd} {tt : List Wd} (hf : (RS.ok (x :: tt)).fin) (hx : x.k ≠ 3) (hn : 3 * tt.length + 2 ≤ n) (ho : OkW (x :: tt)) (hG : NiceP p) {t' : List Wd} (ht : (thingF n p (.ok (x :: tt))).2 = .ok t') : NiceP (thingF n p (.ok (x :: tt))).1 := by
  have hft : (RS.ok tt).fin := (adv_le hf hx).1.2
  have hot : OkW tt := ho.suf (List.suffix_cons _ _)
  obtain ⟨q1, q2, q3, q4, q5, q6, q7⟩ := hG
  cases b1 : (RS.ok (x :: tt)).is kLock with
  | true =>
    rcases limF_cases p.ls.length 8 x tt with e | e
    · have eT : thingF n p (.ok (x :: tt)) = ({ p with ls := p.ls ++ [⟨(nameF (.ok tt)).1.2, (nameF (.ok tt)).1.1⟩] }, (nameF (.ok tt)).2.need [59]) := by simp [thingF, b1, e, RS.good, RS.adv]
      rw [eT] at ht ⊢
      have hl := (lim_lt hf e).1
      obtain ⟨u1, e1, s1⟩ := need_sb [59] _ t' ht
      have hnm := name_nb hft e1 rfl hot
      refine ⟨by (simp only [List.length_append, List.length_cons, List.length_nil]; omega), q2, q3, q4, fun l hl => ?_, q6, q7⟩
      rcases List.mem_append.1 hl with hl | hl
      · exact q5 l hl
      · simp only [List.mem_singleton] at hl
        subst hl
        exact hnm
    · have eT : thingF n p (.ok (x :: tt)) = (p, .bad 2 x.a) := by simp [thingF, b1, e, RS.good]
      rw [eT] at ht
      cases ht
  | false =>
    cases b2 : (RS.ok (x :: tt)).is kFunc with
    | true =>
      rcases limF_cases p.fs.length 16 x tt with e | e
      · have eT : thingF n p (.ok (x :: tt)) = ({ p with fs := p.fs ++ [(funcF n (.ok (x :: tt))).1] }, (funcF n (.ok (x :: tt))).2) := by simp [thingF, b1, b2, e, RS.good]
        rw [eT] at ht ⊢
        have hl := (lim_lt hf e).1
        have hg := func_nice n hft hn hot ht
        refine ⟨q1, q2, by (simp only [List.length_append, List.length_cons, List.length_nil]; omega), q4, q5, q6, fun f hf => ?_⟩
        rcases List.mem_append.1 hf with hf | hf
        · exact q7 f hf
        · simp only [List.mem_singleton] at hf
          subst hf
          exact hg
      · have eT : thingF n p (.ok (x :: tt)) = (p, .bad 2 x.a) := by simp [thingF, b1, b2, e, RS.good]
        rw [eT] at ht
        cases ht
    | false =>
      cases b3 : (RS.ok (x :: tt)).is kThread with
      | true =>
        rcases limF_cases p.ths.length 4 x tt with e | e
        · have eT : thingF n p (.ok (x :: tt)) = ({ p with ths := p.ths ++ [(blockF n 0 (.ok tt)).1] }, (blockF n 0 (.ok tt)).2) := by simp [thingF, b1, b2, b3, e, RS.good, RS.adv]
          rw [eT] at ht ⊢
          have hl := (lim_lt hf e).1
          exact ⟨q1, q2, q3, by (simp only [List.length_append, List.length_cons, List.length_nil]; omega), q5, q6, q7⟩
        · have eT : thingF n p (.ok (x :: tt)) = (p, .bad 2 x.a) := by simp [thingF, b1, b2, b3, e, RS.good]
          rw [eT] at ht
          cases ht
      | false =>
        cases b4 : ((RS.ok (x :: tt)).is kPublic || (RS.ok (x :: tt)).is kSecret) with
        | true =>
          have eT : thingF n p (.ok (x :: tt)) = ({ p with gs := p.gs ++ [(globF p.gs.length (.ok (x :: tt))).1] }, (globF p.gs.length (.ok (x :: tt))).2) := by simp [thingF, b1, b2, b3, b4]
          rw [eT] at ht ⊢
          obtain ⟨hl, hg⟩ := glob_nice hf rfl ho ht
          refine ⟨q1, by (simp only [List.length_append, List.length_cons, List.length_nil]; omega), q3, q4, q5, fun g hg2 => ?_, q7⟩
          rcases List.mem_append.1 hg2 with hg2 | hg2
          · exact q6 g hg2
          · simp only [List.mem_singleton] at hg2
            subst hg2
            exact hg
        | false =>
          have eT : thingF n p (.ok (x :: tt)) = (p, (RS.ok (x :: tt)).fail 11) := by simp [thingF, b1, b2, b3, b4]
          rw [eT] at ht
          cases ht
theorem whole_nice (n : Nat) : ∀ (m : Nat) (p : Pg) (tt : List Wd), (RS.ok tt).fin → 3 * tt.length ≤ n + 1 → OkW tt → GoodP p 16385 → NiceP p → ∀ q t', wholeF n m p (.ok tt) = (q, .ok t') → NiceP q
  | 0, p, tt, _, _, _, _, hN, q, t', h => by
    have : wholeF n 0 p (.ok tt) = (p, .ok tt) := rfl
    rw [this] at h
    cases h
    exact hN
  | m + 1, p, tt, hf, hn, ho, hG, hN, q, t', h => by
    obtain ⟨x, r, rfl⟩ := (hf tt rfl).ne
    by_cases hx : x.k = 3
    · have e : wholeF n (m + 1) p (.ok (x :: r)) = (p, .ok (x :: r)) := by simp [wholeF, RS.hd, hx]
      rw [e] at h
      cases h
      exact hN
    · have e : wholeF n (m + 1) p (.ok (x :: r)) = wholeF n m (thingF n p (.ok (x :: r))).1 (thingF n p (.ok (x :: r))).2 := by simp [wholeF, RS.hd, RS.good, hx]
      rw [e] at h
      have hlen : 3 * r.length + 2 ≤ n := by (simp only [List.length_cons] at hn; omega)
      have hle := thing_le n p hf hx
      cases hq : (thingF n p (.ok (x :: r))).2 with
      | ok t2 =>
        have hg := thing_good hf hx hlen ho hG hq
        have hi := thing_nice hf hx hlen ho hN hq
        rw [hq] at h hle
        have h2 : t2.length ≤ r.length := hg.2.length_le
        exact whole_nice n m _ t2 hle.2 (by omega) ((ho.suf (List.suffix_cons _ _)).suf hg.2) hg.1 hi q t' h
      | bad c a =>
        rw [hq] at h
        have e2 : wholeF n m (thingF n p (.ok (x :: r))).1 (.bad c a) = ((thingF n p (.ok (x :: r))).1, .bad c a) := by
          cases m with
          | zero => rfl
          | succ m => simp [wholeF, RS.good]
        rw [e2] at h
        cases h
theorem par_nice {s : ByteArray} {ws t : List Wd} {p : Pg} (hS : Sc numO s.data.toList 0 ws none) (hs : s.size ≤ 16384) (hp : parF ws = (p, .ok t)) : NiceP p := by
  have hl : s.data.toList.length ≤ 16384 := by simpa using hs
  have h1 := hS.lens_le
  have h2 := hS.few rfl
  have hw := hS.wd_ok fun t v h => numO_inv h
  refine whole_nice (3 * ws.length + 2) (ws.length + 1) ⟨[], [], [], []⟩ ws (fun _ e => by cases e; exact hS.fin rfl) (by omega) ⟨hw, by omega, by omega⟩ ?_ ?_ p t hp
  · exact ⟨by simp, by simp⟩
  · exact ⟨by simp, by simp, by simp, by simp, by simp, by simp, by simp⟩
end Go.Proofs.YtkhbbapocamlmaaDoor
namespace Go.Proofs.YtkhbbapocamlmaaDoor
open Go Go.RowKit

def tFunc : List UInt8 := [102, 117, 110, 99, 32]
def tRet : List UInt8 := [114, 101, 116, 117, 114, 110, 32]
def fnA (tabs : Nat) (f : Fn) : List UInt8 := lineT tabs [tFunc, f.nm, [40], paramsT f.ps, [41, 32], typeT f.tr f.sc, [32, 123]]
def fnC (tabs : Nat) (f : Fn) : List UInt8 := lineT (tabs + 1) [tRet, f.ret.txt, [59]]
def fnT (f : Fn) : List UInt8 := fnA 0 f ++ (stsT f.bd (0 + 1) ++ (fnC 0 f ++ lineT 0 [[125]]))
theorem IsPl.stay {l : List Pm} {v : Value} {W X : World} (h : IsPl (fun g => 0 ≤ g) 106 3 pmCells W l v) (hb : Below W.heap.size W X) : IsPl (fun g => 0 ≤ g) 106 3 pmCells X l v := h.kept fun g hg hl => ⟨hb.block g hl, hg⟩
theorem FBlk.lt {X : World} {b : Nat} {a : Int} {nm : ByteArray} {pv : Value} {tr sc : Bool} {bv : Value} {k q n : Int} {s : ByteArray} {kv : Value} {xa : Int} (h : FBlk X b a nm pv tr sc bv k q n s kv xa) : b < X.heap.size := (Array.getElem?_eq_some_iff.1 h).1
theorem FBlk.kw2 {X Y : World} {b : Nat} {a : Int} {nm : ByteArray} {pv : Value} {tr sc : Bool} {bv : Value} {k q n : Int} {s : ByteArray} {kv : Value} {xa : Int} (h : FBlk X b a nm pv tr sc bv k q n s kv xa) (e : Y.heap[b]? = X.heap[b]?) : FBlk Y b a nm pv tr sc bv k q n s kv xa := e.trans h
set_option maxRecDepth 100000 in
set_option maxHeartbeats 8000000 in
theorem fn_any (f : Fn) (tabs : Nat) (htabs : tabs ≤ 1000) (hg1 : ∀ s ∈ f.bd, GoodS s) (hg2 : cntS f.bd ≤ 16385) (hg3 : GoodE f.ret) (hn1 : f.ps.length ≤ 6) (hn2 : ∀ q ∈ f.ps, NameB q.nm) (T1 T2 T3 T4 : List UInt8) (HT1 : Hid (fnA tabs f = T1)) (HT2 : Hid (stsT f.bd (tabs + 1) = T2)) (HT3 : Hid (fnC tabs f = T3)) (HT4 : Hid (lineT tabs [[125]] = T4))
    (B b : Nat) (fv : FV) (bs : List UInt8) (W : World) (hw : Wr B b (Lib.byteCells bs) ((tabs : Nat) : Int) W) (hL : LB B W) (hBW : B ≤ W.heap.size) (hI : IsFn1 (fun g => 0 ≤ g) W f fv) (hlen : bs.length + (T1.length + (T2.length + (T3.length + T4.length))) ≤ 100000000000000) :
    Calls Tryd.prog 23 #[.pointer (some ⟨b, 0, none⟩), .agg #[.int .i64 f.a, .string (bstr f.nm), fv.p, .bool f.tr, .bool f.sc, fv.b, .int .i64 f.ret.k, .int .i64 f.ret.op, .int .i64 f.ret.n, .string (bstr f.ret.nm), fv.k, .int .i64 f.ret.a]] W fun e w' => e = .returned (.tuple #[]) ∧ Wr B b (Lib.byteCells (bs ++ (T1 ++ (T2 ++ (T3 ++ T4))))) ((tabs : Nat) : Int) w' ∧ KW B b W w' := by
  obtain ⟨hp, hb, hk⟩ := hI
  obtain ⟨zp, cp, ep⟩ := hp.1
  obtain ⟨zb, cb, eb⟩ := hb.form
  obtain ⟨zk, ck, ek⟩ := hk.form
  obtain ⟨pv, bv, kv⟩ := fv
  obtain ⟨P, hP⟩ : ∃ P, paramsT f.ps = P := ⟨_, rfl⟩
  obtain ⟨Y, hY⟩ : ∃ Y, typeT f.tr f.sc = Y := ⟨_, rfl⟩
  obtain ⟨R, hR⟩ : ∃ R, f.ret.txt = R := ⟨_, rfl⟩
  have HP := Lib.hid hP
  have HYY := Lib.hid hY
  have HR := Lib.hid hR
  have H3 := Lib.hid hg3
  have HN1 := Lib.hid hn1
  have HN2 := Lib.hid hn2
  have HG1 := Lib.hid hg1
  have hL1 : lineT tabs [tFunc, f.nm, [40], P, [41, 32], Y, [32, 123]] = T1 := by (rw [← hP, ← hY]; exact HT1.out)
  have hL3 : lineT (tabs + 1) [tRet, R, [59]] = T3 := by (rw [← hR]; exact HT3.out)
  have HL1 := Lib.hid hL1
  have HL3 := Lib.hid hL3
  obtain ⟨a, nm, ps, tr, sc, bd, ret⟩ := f
  simp only at ep eb ek HP HYY HR H3 HN1 HN2 HG1 HL1 hg2 HT2 hp hb hk ⊢
  subst ep eb ek
  obtain ⟨yp, hyp⟩ : ∃ y, ps.length = y := ⟨_, rfl⟩
  obtain ⟨yb, hyb⟩ : ∃ y, bd.length = y := ⟨_, rfl⟩
  obtain ⟨yk, hyk⟩ : ∃ y, ret.ks.length = y := ⟨_, rfl⟩
  have HYK := Lib.hid hyk
  rw [hyp] at hp
  rw [hyb] at hb
  rw [hyk] at hk
  rw [hyp, hyb, hyk]
  have HCS1 : Hid ((#[.string ⟨#[102, 117, 110, 99, 32]⟩, .string (bstr nm), .string ⟨#[40]⟩, .string (bstr P), .string ⟨#[41, 32]⟩, .string (bstr Y), .string ⟨#[32, 123]⟩] : Array Value) = ([tFunc, nm, [40], P, [41, 32], Y, [32, 123]].map fun p => Value.string (bstr p)).toArray) := Lib.hid (by rfl)
  have HCS3 : Hid ((#[.string ⟨#[114, 101, 116, 117, 114, 110, 32]⟩, .string (bstr R), .string ⟨#[59]⟩] : Array Value) = ([tRet, R, [59]].map fun p => Value.string (bstr p)).toArray) := Lib.hid (by rfl)
  have HCS4 : Hid ((#[.string ⟨#[125]⟩] : Array Value) = ([[125]].map fun p => Value.string (bstr p)).toArray) := Lib.hid (by rfl)
  have hln1 : bs.length + T1.length ≤ 100000000000000 := by omega
  have hln2 : (bs ++ T1).length + T2.length ≤ 100000000000000 := by (rw [List.length_append]; omega)
  have hln3 : (bs ++ T1 ++ T2).length + T3.length ≤ 100000000000000 := by (rw [List.length_append, List.length_append]; omega)
  have hln4 : (bs ++ T1 ++ T2 ++ T3).length + T4.length ≤ 100000000000000 := by (rw [List.length_append, List.length_append, List.length_append]; omega)
  have hA := below_of_alloc W (.cells #[.int .i64 a, .string (bstr nm), .slice zp yp cp, .bool tr, .bool sc, .slice zb yb cb, .int .i64 ret.k, .int .i64 ret.op, .int .i64 ret.n, .string (bstr ret.nm), .slice zk yk ck, .int .i64 ret.a] 73)
  have hF := FBlk.new (X := W) (b := W.heap.size) (a := a) (nm := bstr nm) (pv := .slice zp yp cp) (tr := tr) (sc := sc) (bv := .slice zb yb cb) (k := ret.k) (q := ret.op) (n := ret.n) (s := bstr ret.nm) (kv := .slice zk yk ck) (xa := ret.a) rfl
  have HG : Hid (GSts 16385) := Lib.hid (stmts_all 16385)
  have HW0 := Lib.hid hw
  have HLB0 := Lib.hid hL
  have HI0 := Lib.hid (And.intro hp (And.intro hb hk))
  clear hP hY hR hg3 hn1 hn2 hg1 hL1 hL3 hp hb hk hyp hyb hyk hw hL
  go_enter Tryd.func23, Tryd.ntmps23
  go_upto_region 1 with (fail)
  refine name_world ?_
  intro W1 hW1
  rw [← hW1] at hA hF
  clear hW1
  have HA := Lib.hid hA
  have HF := Lib.hid hF
  have HW1 := Lib.hid (HW0.out.stay HA.out)
  have HK1 : Hid (KW B b W W1) := Lib.hid (KW.below hBW HA.out)
  have HLB1 := Lib.hid (HLB0.out.b HK1.out.1)
  have HI1 : Hid (IsPl (fun g => 0 ≤ g) 106 3 pmCells W1 ps (.slice zp yp cp) ∧ IsSts (fun g => 0 ≤ g) W1 bd (.slice zb yb cb) ∧ IsExP (fun g => 0 ≤ g) W1 ret (.slice zk yk ck)) := Lib.hid ⟨HI0.out.1.stay HA.out, HI0.out.2.1.keptT (HK1.out.tree HW0.out), HI0.out.2.2.keptT (HK1.out.tree HW0.out)⟩
  have hB1 : B ≤ W1.heap.size := Nat.le_trans hBW HA.out.size
  have HC : Hid (Below W1.heap.size W1 W1.drew) := Lib.hid ((Below.refl _ _).drew)
  obtain ⟨fl, ⟨fc0, fc1, fc2, fc3, fc4, fc5, fc6, fc7, fc8, fc9, fc10, fc11⟩, _⟩ := (HF.out.kw2 (HC.out.block _ HF.out.lt)).facts
  clear hA hF
  go_cut [] from 4 (fun X => Wr B b (Lib.byteCells (bs ++ T1)) ((tabs : Nat) : Int) X ∧ KW B b W1 X)
  case first =>
    go_region_law (first
      | (go_simp; go_at_call 13; (with_reducible refine (type_any _ _ _).mono ?_); rintro e1 wt ⟨rfl, hbt⟩; rw [HYY.out]; replace HC := Lib.hid (below_ch HC.out hbt); obtain ⟨fl, ⟨fc0, fc1, fc2, fc3, fc4, fc5, fc6, fc7, fc8, fc9, fc10, fc11⟩, _⟩ := (HF.out.kw2 (HC.out.block _ HF.out.lt)).facts; clear hbt)
      | (go_simp; go_at_call 49; (with_reducible refine (params_any _ (Lib.hid (HI1.out.1.stay HC.out)) HN1.out HN2.out P HP).mono ?_); rintro e1 wt ⟨rfl, hbt⟩; replace HC := Lib.hid (below_ch HC.out hbt); obtain ⟨fl, ⟨fc0, fc1, fc2, fc3, fc4, fc5, fc6, fc7, fc8, fc9, fc10, fc11⟩, _⟩ := (HF.out.kw2 (HC.out.block _ HF.out.lt)).facts; clear hbt)
      | (go_simp; go_at_call 20; (with_reducible refine (line_at B b _ _ 7 bs tabs [tFunc, nm, [40], P, [41, 32], Y, [32, 123]] rfl T1 HL1.out _ HCS1 _ (Lib.hid ((HW1.out.stay HC.out).alloc _)) (heap_alloc_new _ _) hln1 (by (have := HC.out.size; simp; omega)) (by decide)).mono ?_); rintro e9 w9 ⟨rfl, hw9, hk9⟩))
    all_goals (go_wp2_with fail; go_meet)
    all_goals exact ⟨hw9, (KW.below hB1 HC.out).trans ((KW.alloc (.refl _ _ _) (by (have := HC.out.size; omega)) _).trans hk9)⟩
  case rest =>
    obtain ⟨hw1, hk1⟩ := hcut
    have HW2 := Lib.hid hw1
    have HK2 := Lib.hid hk1
    have HF2 : Hid (FBlk wc W.heap.size a (bstr nm) (.slice zp yp cp) tr sc (.slice zb yb cb) ret.k ret.op ret.n (bstr ret.nm) (.slice zk yk ck) ret.a) := Lib.hid (hk1.keep HW1.out HF.out (by decide))
    have HI2 : Hid (IsSts (fun g => 0 ≤ g) wc bd (.slice zb yb cb)) := Lib.hid (HI1.out.2.1.keptT (hk1.tree HW1.out))
    have HE2 : Hid (IsExP (fun g => 0 ≤ g) wc ret (.slice zk yk ck)) := Lib.hid (HI1.out.2.2.keptT (hk1.tree HW1.out))
    have HLB2 := Lib.hid (HLB1.out.b hk1.1)
    have hB2 : B ≤ wc.heap.size := Nat.le_trans hB1 hk1.size
    clear fl fc0 fc1 fc2 fc3 fc4 fc5 fc6 fc7 fc8 fc9 fc10 fc11 HC hw1 hk1
    obtain ⟨fl, ⟨fc0, fc1, fc2, fc3, fc4, fc5, fc6, fc7, fc8, fc9, fc10, fc11⟩, _⟩ := HF2.out.facts
    go_upto_region 3 with (go_at_call 50; (with_reducible refine (within_any HG T2 HT2 hg2 HG1 HW2 HLB2 hB2 HI2 (by omega) hln2).mono ?_); rintro e2 w2 ⟨rfl, hw2, hk2⟩)
    obtain ⟨c2, f2⟩ := hw2.facts
    have hbl2 := hw2.lt
    clear fl fc0 fc1 fc2 fc3 fc4 fc5 fc6 fc7 fc8 fc9 fc10 fc11
    go_upto_region 4 with (fail)
    refine name_world ?_
    intro W3 hW3
    obtain ⟨hs1, hs2⟩ := hw2.set2 (((tabs + 1 : Nat) : Int))
    have HW3 : Hid (Wr B b (Lib.byteCells (bs ++ T1 ++ T2)) ((tabs + 1 : Nat) : Int) W3) := Lib.hid (by (rw [hW3]; exact hs1))
    have HK3 : Hid (KW B b wc W3) := Lib.hid (hk2.trans (by (rw [hW3]; exact hs2)))
    clear hW3 hs1 hs2 c2 f2 hw2 hk2 hbl2
    have HF3 : Hid (FBlk W3 W.heap.size a (bstr nm) (.slice zp yp cp) tr sc (.slice zb yb cb) ret.k ret.op ret.n (bstr ret.nm) (.slice zk yk ck) ret.a) := Lib.hid (HK3.out.keep HW2.out HF2.out (by decide))
    have hE3 : IsExP (fun g => 0 ≤ g) W3 ret (.slice zk yk ck) := HE2.out.keptT (HK3.out.tree HW2.out)
    have HLB3 := Lib.hid (HLB2.out.b HK3.out.1)
    have hB3 : B ≤ W3.heap.size := Nat.le_trans hB2 HK3.out.size
    have HSH : Hid (Calls Tryd.prog 51 #[.agg #[.int .i64 ret.k, .int .i64 ret.op, .int .i64 ret.n, .string (bstr ret.nm), .slice zk yk ck, .int .i64 ret.a]] W3 fun e w' => e = .returned (.string (bstr R)) ∧ Below W3.heap.size W3 w') := Lib.hid (by
      have h := shows_any ret (Nat.lt_of_lt_of_le H3.out.1 (by decide)) (Lib.hid H3.out.2.1) zk ck W3 (Lib.hid (by (rw [HYK.out]; exact hE3.toEx fun _ _ => Nat.zero_le _))) (Lib.hid HLB3.out.laid) R (Lib.hid HR.out.symm) (Lib.hid (by (rw [← HR.out]; exact Nat.le_trans H3.out.2.2.1 (by decide))))
      rwa [HYK.out] at h)
    clear hE3
    obtain ⟨fl, ⟨fc0, fc1, fc2, fc3, fc4, fc5, fc6, fc7, fc8, fc9, fc10, fc11⟩, _⟩ := HF3.out.facts
    go_upto_region 5 with (first
      | (go_at_call 51; (with_reducible refine (HSH.out).mono ?_); rintro e4 w4 ⟨rfl, hb4⟩)
      | (go_at_call 20; (with_reducible refine (line_at B b _ _ 3 (bs ++ T1 ++ T2) (tabs + 1) [tRet, R, [59]] rfl T3 HL3.out _ HCS3 _ (Lib.hid ((HW3.out.stay hb4).alloc _)) (heap_alloc_new _ _) hln3 (by (have := hb4.size; simp; omega)) (by decide)).mono ?_); rintro e5 w5 ⟨rfl, hw5, hk5⟩))
    have HK5 : Hid (KW B b W3 w5) := Lib.hid ((KW.below hB3 hb4).trans ((KW.alloc (.refl _ _ _) (Nat.le_trans hB3 hb4.size) _).trans hk5))
    obtain ⟨O, hO⟩ : ∃ O : Int, O = ((tabs + 1 : Nat) : Int) := ⟨_, rfl⟩
    have HW5 : Hid (Wr B b (Lib.byteCells (bs ++ T1 ++ T2 ++ T3)) O w5) := Lib.hid (hO ▸ hw5)
    have HO := Lib.hid hO
    clear hO hw5 hk5 hb4 fl fc0 fc1 fc2 fc3 fc4 fc5 fc6 fc7 fc8 fc9 fc10 fc11
    obtain ⟨c2, f2⟩ := HW5.out.facts
    have hbl5 := HW5.out.lt
    go_upto_region 6 with (fail)
    refine name_world ?_
    intro W6 hW6
    have hwd : wrap64 (O - 1) = (tabs : Int) := by (rw [HO.out]; unfold wrap64; omega)
    obtain ⟨hs1, hs2⟩ := HW5.out.set2 (wrap64 (O - 1))
    rw [← hW6] at hs1 hs2
    rw [hwd] at hs1
    have HW6 := Lib.hid hs1
    have HK6 := Lib.hid (HK5.out.trans hs2)
    have hB6 : B ≤ W6.heap.size := Nat.le_trans hB3 HK6.out.size
    clear hW6 hs1 hs2 hwd c2 f2 hbl5
    go_wp2_with (go_at_call 20; (with_reducible refine (line_at B b _ _ 1 (bs ++ T1 ++ T2 ++ T3) tabs [[125]] rfl T4 HT4.out _ HCS4 _ (Lib.hid (HW6.out.alloc _)) (heap_alloc_new _ _) hln4 (by (simp; omega)) (by decide)).mono ?_); rintro e7 w7 ⟨rfl, hw7, hk7⟩)
    go_end0
    refine ⟨rfl, ?_, HK1.out.trans (HK2.out.trans (HK3.out.trans (HK6.out.trans ((KW.alloc (.refl _ _ _) hB6 _).trans hk7))))⟩
    have e : bs ++ (T1 ++ (T2 ++ (T3 ++ T4))) = bs ++ T1 ++ T2 ++ T3 ++ T4 := by simp
    rw [e]
    exact hw7
/-- What the writing of a function owes, of any that is parsed. -/
theorem fn_owes (f : Fn) (hg : (∀ s ∈ f.bd, GoodS s) ∧ cntS f.bd ≤ 16385 ∧ GoodE f.ret ∧ f.nm.length ≤ 100000) (hn : NameB f.nm ∧ f.ps.length ≤ 6 ∧ ∀ q ∈ f.ps, NameB q.nm) : GFn fnT f := by
  intro B b fv bs W hw hL hB hI hlen
  exact fn_any f 0 (by decide) hg.1 hg.2.1 hg.2.2.1 hn.2.1 hn.2.2 _ _ _ _ (Lib.hid rfl) (Lib.hid rfl) (Lib.hid rfl) (Lib.hid rfl) B b fv bs W hw hL hB hI (by simpa [fnT] using hlen)
end Go.Proofs.YtkhbbapocamlmaaDoor
namespace Go.Proofs.YtkhbbapocamlmaaDoor
open Go Go.RowKit

theorem par_good {s : ByteArray} {ws t : List Wd} {p : Pg} (hS : Sc numO s.data.toList 0 ws none) (hs : s.size ≤ 16384) (hp : parF ws = (p, .ok t)) : GoodP p 16385 := by
  have hl : s.data.toList.length ≤ 16384 := by simpa using hs
  have h1 := hS.lens_le
  have h2 := hS.few rfl
  have hw := hS.wd_ok fun t v h => numO_inv h
  refine whole_good (3 * ws.length + 2) (ws.length + 1) ⟨[], [], [], []⟩ ws (fun _ e => by cases e; exact hS.fin rfl) (by omega) ⟨hw, by omega, by omega⟩ ?_ p t hp
  exact ⟨by simp, by simp⟩
end Go.Proofs.YtkhbbapocamlmaaDoor
namespace Go.Proofs.YtkhbbapocamlmaaDoor
open Go Go.RowKit

def aw5O : List UInt8 := [108, 111, 99, 107, 32, 109, 59, 10, 112, 117, 98, 108, 105, 99, 32, 105, 110, 116, 32, 103, 91, 50, 93, 32, 98, 121, 32, 109, 59, 10, 116, 104, 114, 101, 97, 100, 32, 123, 10, 9, 105, 102, 32, 40, 97, 41, 32, 123, 10, 9, 9, 111, 117, 116, 32, 49, 59, 10, 9, 125, 32, 101, 108, 115, 101, 32, 123, 10, 9, 9, 98, 91, 50, 93, 32, 61, 32, 51, 59, 10, 9, 125, 10, 125, 10]
def aw5V : List UInt8 := [9, 9, 111, 117, 116, 32, 49, 59, 10]
theorem it_1 : Lib.itoa 1 = [49] := by simp [Lib.itoa, Lib.decDigits]
theorem it_2 : Lib.itoa 2 = [50] := by simp [Lib.itoa, Lib.decDigits]
theorem it_3 : Lib.itoa 3 = [51] := by simp [Lib.itoa, Lib.decDigits]
theorem aw5_v : stsT [.mk 5 13 false false [] [] [.mk 0 0 1 [] [] 17] [] []] 2 = aw5V := by
  simp [stsT, stT, lineT, onlyT, Ex.txt, Ex.kds, txtOf, it_1, aw5V, tOut]
theorem aw5_t : progT (fun _ => []) aw5P = aw5O := by
  simp [progT, aw5P, aw5S, lkT, glT, thT, lenT, byT, typeT, stsT, stT, lineT, onlyT, indexT, Ex.txt, Ex.kds, txtOf, it_1, it_2, it_3, aw5O, tOut, tLock, tThr, tIf, tBr, tElse, tEq, kInt]
theorem aw5_good : GoodP aw5P 16385 := par_good (s := ⟨#[116, 104, 114, 101, 97, 100, 123, 105, 102, 40, 97, 41, 123, 111, 117, 116, 32, 49, 59, 125, 101, 108, 115, 101, 123, 98, 91, 50, 93, 61, 51, 59, 125, 125, 112, 117, 98, 108, 105, 99, 32, 105, 110, 116, 32, 103, 91, 50, 93, 98, 121, 32, 109, 59, 108, 111, 99, 107, 32, 109, 59]⟩) (ws := aw5W) aw5_sc (by decide) aw5_par
/-- The example in memory. -/
structure Aw5 (W : World) (b : Nat) (p0 p1 p2 : Value) (g3 c3 gs cs : Nat) (p5 : Option Addr) (c5 : Nat) : Prop where
  blk : PgBlk W b p0 p1 p2 (.slice (some ⟨g3, 0, none⟩) 1 c3)
  th : W.cell? ⟨g3, 0, none⟩ = some (.slice (some ⟨gs, 0, none⟩) 1 cs)
  bd : W.cell? ⟨gs, 7, none⟩ = some (.slice p5 1 c5)
  l3 : g3 < W.heap.size
  ls : gs < W.heap.size
  is : IsSts (fun g => 0 ≤ g) W [.mk 5 13 false false [] [] [.mk 0 0 1 [] [] 17] [] []] (.slice p5 1 c5)
theorem Aw5.stay {W X : World} {b g3 c3 gs cs c5 : Nat} {p0 p1 p2 : Value} {p5 : Option Addr} (h : Aw5 W b p0 p1 p2 g3 c3 gs cs p5 c5) (k : Below W.heap.size W X) : Aw5 X b p0 p1 p2 g3 c3 gs cs p5 c5 :=
  ⟨h.blk.of (k.block b h.blk.facts.1), (k.cell (p := ⟨g3, 0, none⟩) h.l3).trans h.th, (k.cell (p := ⟨gs, 7, none⟩) h.ls).trans h.bd, Nat.lt_of_lt_of_le h.l3 k.size, Nat.lt_of_lt_of_le h.ls k.size, h.is.kept fun g hg hl => ⟨k.block g hl, hg⟩⟩
theorem aw5_mem {W : World} {B b : Nat} {v0 v1 v2 v3 : Value} {rf : List (Fn × FV)} {rt : List (List Stm × Value)} (R : PRows B W aw5P v0 v1 v2 v3 rf rt) (hb : PgBlk W b v0 v1 v2 v3) : ∃ g3 c3 gs cs p5 c5, v3 = .slice (some ⟨g3, 0, none⟩) 1 c3 ∧ Aw5 W b v0 v1 v2 g3 c3 gs cs p5 c5 := by
  obtain ⟨g3, c3, rfl, hg, hc⟩ := own_some R.t (by decide)
  have hrt := R.et
  obtain ⟨⟨l, tv⟩, rfl⟩ : ∃ q, rt = [q] := by
    match rt, hrt with
    | [q], _ => exact ⟨q, rfl⟩
  obtain rfl : l = [aw5S] := by simpa [aw5P] using hrt
  have hI : IsSts (fun g => 0 ≤ g) W [aw5S] tv := (R.xt _ (List.mem_singleton.2 rfl)).lo (Nat.zero_le B)
  have h0 := hc 0 tv rfl
  cases hI with
  | node gs cap cs fr vs hok hbk hne hcc hi he hbd hel =>
    have hB := hbd 0 aw5S rfl
    obtain ⟨p5, c5, e5⟩ := hB.form
    have h7 := hcc 0 aw5S rfl 7 (vs 0).b rfl
    refine ⟨g3, c3, gs, cap, p5, c5, rfl, hb, h0, ?_, hg, (Array.getElem?_eq_some_iff.1 hbk).1, ?_⟩
    · rw [cell_of_row _ _ _ _ _ _ hbk]
      rw [e5] at h7
      exact h7
    · rw [e5] at hB
      exact hB
theorem aw5_parse (w : World) : Calls Tryd.prog 8 #[.string ⟨#[116, 104, 114, 101, 97, 100, 123, 105, 102, 40, 97, 41, 123, 111, 117, 116, 32, 49, 59, 125, 101, 108, 115, 101, 123, 98, 91, 50, 93, 61, 51, 59, 125, 125, 112, 117, 98, 108, 105, 99, 32, 105, 110, 116, 32, 103, 91, 50, 93, 98, 121, 32, 109, 59, 108, 111, 99, 107, 32, 109, 59]⟩] w fun e w' => (∃ v0 v1 v2 v3 rf rt, e = .returned (.tuple #[.agg #[v0, v1, v2, v3], .int .i64 0, .int .i64 0]) ∧ PRows w.heap.size w' aw5P v0 v1 v2 v3 rf rt) ∧ Below w.heap.size w w' :=
  (r4_parse ⟨#[116, 104, 114, 101, 97, 100, 123, 105, 102, 40, 97, 41, 123, 111, 117, 116, 32, 49, 59, 125, 101, 108, 115, 101, 123, 98, 91, 50, 93, 61, 51, 59, 125, 125, 112, 117, 98, 108, 105, 99, 32, 105, 110, 116, 32, 103, 91, 50, 93, 98, 121, 32, 109, 59, 108, 111, 99, 107, 32, 109, 59]⟩ w (by decide) aw5W (Lib.hid aw5_sc)).mono fun e w' ⟨⟨v0, v1, v2, v3, c, a, h1, h2, _⟩, h3⟩ => by
    rw [aw5_par] at h2
    obtain ⟨rfl, rfl, rf, rt, R⟩ := h2 _ rfl
    exact ⟨⟨v0, v1, v2, v3, rf, rt, h1, R⟩, h3⟩
theorem aw5_prog {B : Nat} {W : World} {v0 v1 v2 v3 : Value} {rf : List (Fn × FV)} {rt : List (List Stm × Value)} (R : PRows B W aw5P v0 v1 v2 v3 rf rt) (L : Laid W) :
    Calls Tryd.prog 9 #[.agg #[v0, v1, v2, v3]] W fun e w' => e = .returned (.string (bstr aw5O)) ∧ Below W.heap.size W w' :=
  prog_any (fun _ => []) aw5P B W v0 v1 v2 v3 rf rt R L (by decide) (fun l hl => ⟨(aw5_good.th l hl).1, by have := (aw5_good.th l hl).2; omega⟩) (by simp [aw5P]) (by decide) aw5O aw5_t (by decide)
theorem aw5_sts {W : World} {p5 : Option Addr} {c5 : Nat} (L : Laid W) (h : IsSts (fun g => 0 ≤ g) W [.mk 5 13 false false [] [] [.mk 0 0 1 [] [] 17] [] []] (.slice p5 1 c5)) :
    Calls Tryd.prog 11 #[.slice p5 1 c5, .int .i64 2] W fun e w' => e = .returned (.string (bstr aw5V)) ∧ Below W.heap.size W w' :=
  stmtsT_any _ 2 W _ aw5V aw5_v (fun s hs => by
    have hg := (aw5_good.th [aw5S] (.head _)).1 aw5S (.head _)
    cases hg with
    | mk _ _ _ _ _ h1 _ => exact h1 s hs) L h (by decide) (by decide)
end Go.Proofs.YtkhbbapocamlmaaDoor
namespace Go.Proofs.YtkhbbapocamlmaaDoor
open Go Go.RowKit

theorem aw5_ty : (bstr (typeT true true)).toList = [115, 101, 99, 114, 101, 116, 32, 98, 111, 111, 108] := by simp [bstr, ByteArray.toList_eq, typeT, kBool]
theorem aw5_vv : (bstr aw5V).toList = [9, 9, 111, 117, 116, 32, 49, 59, 10] := by simp [bstr, ByteArray.toList_eq, aw5V]
theorem aw5_oo : (bstr aw5O).toList = [108, 111, 99, 107, 32, 109, 59, 10, 112, 117, 98, 108, 105, 99, 32, 105, 110, 116, 32, 103, 91, 50, 93, 32, 98, 121, 32, 109, 59, 10, 116, 104, 114, 101, 97, 100, 32, 123, 10, 9, 105, 102, 32, 40, 97, 41, 32, 123, 10, 9, 9, 111, 117, 116, 32, 49, 59, 10, 9, 125, 32, 101, 108, 115, 101, 32, 123, 10, 9, 9, 98, 91, 50, 93, 32, 61, 32, 51, 59, 10, 9, 125, 10, 125, 10] := by simp [bstr, ByteArray.toList_eq, aw5O]
theorem aw5_n0 : aw5P.gs.length = 1 := rfl
theorem aw5_n1 : aw5P.ls.length = 1 := rfl
theorem aw5_n2 : aw5P.fs.length = 0 := rfl
set_option maxRecDepth 100000 in
set_option maxHeartbeats 8000000 in
theorem awake_any (w : World) (L : Hid (Laid w)) : Calls Tryd.prog 7 #[] w fun e w' => e = .returned (.bool true) ∧ Below w.heap.size w w' := by
  go_enter Tryd.func7, Tryd.ntmps7
  have hoo := aw5_oo
  have hty := aw5_ty
  have hvv := aw5_vv
  go_wp2_with (first
    | (go_at_call 8; (with_reducible refine (aw5_parse _).mono ?_); rintro e w1 ⟨⟨v0, v1, v2, v3, rf, rt, rfl, R1⟩, hb1⟩; have hz1 := hb1.size;
       obtain ⟨z0, y0, rfl⟩ := own_form R1.g; obtain ⟨z1, y1, rfl⟩ := own_form R1.l; obtain ⟨z2, y2, rfl⟩ := own_form R1.f; simp only [aw5_n0, aw5_n1, aw5_n2] at R1 ⊢;
       have R2 := Lib.hid (R1.stay ((Below.refl _ w1).alloc (Nat.le_refl _) (.cells #[(.slice z0 1 y0), (.slice z1 1 y1), (.slice z2 0 y2), v3] 28)));
       have PB : PgBlk (w1.alloc (.cells #[(.slice z0 1 y0), (.slice z1 1 y1), (.slice z2 0 y2), v3] 28)) w1.heap.size (.slice z0 1 y0) (.slice z1 1 y1) (.slice z2 0 y2) v3 := PgBlk.new rfl;
       obtain ⟨g3, c3, gs, cs, p5, c5, rfl, A1⟩ := aw5_mem R2.out PB;
       have HA1 := Lib.hid A1;
       have HL1 := Lib.hid (L.out.below (show Below w.heap.size w (w1.alloc (.cells #[(.slice z0 1 y0), (.slice z1 1 y1), (.slice z2 0 y2), .slice (some ⟨g3, 0, none⟩) 1 c3] 28)) by (refine Fr.below ?_; (repeat (first | (with_reducible exact Fr.refl _ _) | (with_reducible refine Fr.alloc ?_ _) | (with_reducible refine Fr.drewN ?_ _) | (with_reducible refine Fr.drew ?_) | (with_reducible refine Fr.set ?_ ?_ _ _; rotate_left; first | exact .inl rfl | (right; simp; done) | (right; simp; omega) | (right; omega)) | (with_reducible refine Fr.step ?_ (by assumption)) | (with_reducible refine Fr.stepB ?_ (by assumption)))))));
       obtain ⟨la, ⟨ca0, ca1, ca2, ca3⟩, ⟨fa0, fa1, fa2, fa3⟩⟩ := PB.facts; clear PB A1 R1)
    | (go_at_call 9; (with_reducible refine (aw5_prog R2.out HL1.out).mono ?_); rintro e w2 ⟨rfl, hb2⟩; have HA2 := Lib.hid (HA1.out.stay hb2); have HL2 := Lib.hid (HL1.out.below hb2); have hz2 := hb2.size; clear R2)
    | (go_at_call 13; (with_reducible refine (type_any true true _).mono ?_); rintro e w3 ⟨rfl, hb3⟩;  have HA3 := Lib.hid (HA2.out.stay hb3); have HL3 := Lib.hid (HL2.out.below hb3); have hz3 := hb3.size;
       obtain ⟨lb, ⟨cb0, cb1, cb2, cb3⟩, ⟨fb0, fb1, fb2, fb3⟩⟩ := HA3.out.blk.facts; have th3 := HA3.out.th; have bd3 := HA3.out.bd; have l33 := HA3.out.l3; have ls3 := HA3.out.ls)
    | (go_at_call 11; (with_reducible refine (aw5_sts HL3.out HA3.out.is).mono ?_); rintro e w4 ⟨rfl, hb4⟩))
  all_goals go_ret
  all_goals exact ⟨by simp, by (refine Fr.below ?_; (repeat (first | (with_reducible exact Fr.refl _ _) | (with_reducible refine Fr.alloc ?_ _) | (with_reducible refine Fr.drewN ?_ _) | (with_reducible refine Fr.drew ?_) | (with_reducible refine Fr.set ?_ ?_ _ _; rotate_left; first | exact .inl rfl | (right; simp; done) | (right; simp; omega) | (right; omega)) | (with_reducible refine Fr.step ?_ (by assumption)) | (with_reducible refine Fr.stepB ?_ (by assumption)))))⟩
end Go.Proofs.YtkhbbapocamlmaaDoor
namespace Go.Proofs.YtkhbbapocamlmaaDoor
open Go

theorem part_no {c : UInt8} (h : isPart c = true) : c ≠ 10 := by rintro rfl; exact absurd h (by decide)
theorem letter_no {c : UInt8} (h : isLetter c = true) : c ≠ 10 := by rintro rfl; exact absurd h (by decide)
theorem NameB.no {t : List UInt8} (h : NameB t) : (10 : UInt8) ∉ t := by
  obtain ⟨c, r, rfl, h1, h2, _, _⟩ := h
  intro hm
  rcases List.mem_cons.1 hm with e | hm
  · exact letter_no h1 e.symm
  · exact part_no (h2 _ hm) rfl
theorem NmOk.no {t : List UInt8} (h : NmOk t) : (10 : UInt8) ∉ t := by
  rcases h with rfl | h
  · simp
  · exact h.no
theorem part10 {k : Bool} {t : List UInt8} (h : (10 : UInt8) ∉ t) : (10 : UInt8) ∉ partT k t := by
  cases k <;> simp [partT, h]
theorem op10 : ∀ j : Nat, j < 19 → (10 : UInt8) ∉ opT (j : Int) := by decide
theorem dec_digits5 (u : Nat) : ∀ c ∈ Lib.decDigits u, isDigit c = true := by
  induction u using Nat.strongRecOn with
  | _ u ih =>
    rw [Lib.decDigits]
    split
    · intro c hc
      rw [List.mem_singleton] at hc
      subst hc
      have : (UInt8.ofNat (48 + u)).toNat = 48 + u := by rw [UInt8.toNat_ofNat']; omega
      simp only [isDigit, this, Bool.and_eq_true, decide_eq_true_eq]
      omega
    · intro c hc
      rcases List.mem_append.1 hc with hc | hc
      · exact ih (u / 10) (by omega) c hc
      · rw [List.mem_singleton] at hc
        subst hc
        have : (UInt8.ofNat (48 + u % 10)).toNat = 48 + u % 10 := by rw [UInt8.toNat_ofNat']; omega
        simp only [isDigit, this, Bool.and_eq_true, decide_eq_true_eq]
        omega
theorem itoa10 {n : Int} (h : 0 ≤ n) : (10 : UInt8) ∉ Lib.itoa n := by
  obtain ⟨m, rfl⟩ := Int.eq_ofNat_of_zero_le h
  rw [Lib.itoa_nonneg]
  intro hm
  exact absurd (dec_digits5 m _ hm) (by decide)
theorem Fit.no10 {o : Nat} {r : Int} {x : Ex} (h : Fit o r x) : (10 : UInt8) ∉ x.txt := by
  induction h with
  | num h1 _ => simpa [Ex.txt, txtOf] using itoa10 h1
  | tru => simp [Ex.txt, txtOf, truB]
  | fls => simp [Ex.txt, txtOf, flsB]
  | var h => simpa [Ex.txt, txtOf] using h.no
  | elem h _ _ ih => simp [Ex.txt, Ex.kds, txtOf, rowK, h.no, ih]
  | neg _ _ ih => simp [Ex.txt, Ex.kds, txtOf, oneK, part10 ih]
  | not _ _ ih => simp [Ex.txt, Ex.kds, txtOf, oneK, part10 ih]
  | two h1 _ _ _ _ ih1 ih2 => simp [Ex.txt, Ex.kds, txtOf, twoK, part10 ih1, part10 ih2, op10 _ h1]
  | brk _ _ _ _ ih => exact ih
  | @call o r nm es a h _ _ ih =>
    have hk : (10 : UInt8) ∉ rowK (Ex.kds es) := by
      rw [kds_map]
      cases es with
      | nil => simp [rowK]
      | cons y r =>
        simp only [List.map_cons, rowK, List.mem_append, List.mem_flatMap, not_or]
        refine ⟨ih y (.head _), ?_⟩
        rintro ⟨z, hz, hm⟩
        obtain ⟨q, hq, rfl⟩ := List.mem_map.1 hz
        have := ih q (.tail _ hq)
        simp [this] at hm
    simp [Ex.txt, txtOf, h.no, hk]
theorem GoodE.no {x : Ex} (h : GoodE x) : (10 : UInt8) ∉ x.txt := h.2.2.2.no10
theorem only_no {l : List Ex} (h : ∀ x ∈ l, GoodE x) : (10 : UInt8) ∉ onlyT l := by
  cases l with
  | nil => simp [onlyT]
  | cons x r => exact (h x (.head _)).no
theorem index_no {l : List Ex} (h : ∀ x ∈ l, GoodE x) : (10 : UInt8) ∉ indexT l := by
  cases l with
  | nil => simp [indexT]
  | cons x r => simp [indexT, (h x (.head _)).no]
theorem type_no (tr sc : Bool) : (10 : UInt8) ∉ typeT tr sc := by cases tr <;> cases sc <;> decide
/-- Lines, with n tabs ahead of each. -/
def linesT (n : Nat) (ls : List (List UInt8)) : List UInt8 := ls.flatMap fun x => List.replicate n 9 ++ (x ++ [10])
/-- What f shows at n tabs is lines with n tabs ahead, none of them empty. -/
def Tabbed (f : Nat → List UInt8) : Prop := ∃ ls : List (List UInt8), (∀ x ∈ ls, x ≠ [] ∧ (10 : UInt8) ∉ x) ∧ ∀ n, f n = linesT n ls
theorem Tabbed.nil : Tabbed fun _ => [] := ⟨[], by simp, fun _ => rfl⟩
theorem Tabbed.app {f g : Nat → List UInt8} (h : Tabbed f) (k : Tabbed g) : Tabbed fun n => f n ++ g n := by
  obtain ⟨a, h1, h2⟩ := h
  obtain ⟨b, k1, k2⟩ := k
  refine ⟨a ++ b, fun x hx => (List.mem_append.1 hx).elim (h1 x) (k1 x), fun n => ?_⟩
  show f n ++ g n = _
  rw [h2, k2]
  simp [linesT]
theorem Tabbed.line (k : Nat) {ps : List (List UInt8)} (hn : ps.flatten ≠ []) (h10 : (10 : UInt8) ∉ ps.flatten) : Tabbed fun n => lineT (n + k) ps := by
  refine ⟨[List.replicate k 9 ++ ps.flatten], fun x hx => ?_, fun n => ?_⟩
  · obtain rfl := List.mem_singleton.1 hx
    refine ⟨fun e => hn (List.append_eq_nil_iff.1 e).2, fun hm => ?_⟩
    rcases List.mem_append.1 hm with e | e
    · exact absurd (List.mem_replicate.1 e).2 (by decide)
    · exact h10 e
  · simp [linesT, lineT, ← List.replicate_append_replicate]
mutual
theorem st_tab : ∀ (s : Stm) (k : Nat), GoodS s → Tabbed fun n => stT s (n + k)
  | .mk q a tr sc nm ix es bd el, k, h => by
    have hb : (∀ s ∈ bd, GoodS s) → Tabbed fun n => stsT bd (n + (k + 1)) := sts_tab bd (k + 1)
    have he : (∀ s ∈ el, GoodS s) → Tabbed fun n => stsT el (n + (k + 1)) := sts_tab el (k + 1)
    cases h with
    | mk h0 h5 g1 g2 g3 g4 g5 =>
      have hq : q = 0 ∨ q = 1 ∨ q = 2 ∨ q = 3 ∨ q = 4 ∨ q = 5 := by omega
      have i1 := index_no g1
      have i2 := only_no g2
      have i3 := g3.no
      have i4 := type_no tr sc
      have hB := hb g4
      have hE := he g5
      have hend : Tabbed fun n => lineT (n + k) [[125]] := .line k (by decide) (by decide)
      rcases hq with rfl | rfl | rfl | rfl | rfl | rfl
      · simp only [stT, if_true]
        exact .line k (by simp [tVar]) (by simp [tVar, tEq, i2, i3, i4])
      · simp only [stT]
        exact .line k (by simp [tEq]) (by simp [tEq, i1, i2, i3])
      · simp only [stT]
        refine (Tabbed.line k (ps := [tIf, onlyT es, tBr]) (by simp [tIf]) (by simp [tIf, tBr, i2])).app (hB.app (Tabbed.app ?_ hend))
        cases el with
        | nil => exact .nil
        | cons y r => exact (Tabbed.line k (ps := [tElse]) (by simp [tElse]) (by simp [tElse])).app hE
      · simp only [stT]
        exact (Tabbed.line k (ps := [tWhile, onlyT es, tBr]) (by simp [tWhile]) (by simp [tWhile, tBr, i2])).app (hB.app hend)
      · simp only [stT]
        exact (Tabbed.line k (ps := [tLock, nm, tOpen]) (by simp [tLock]) (by simp [tLock, tOpen, i3])).app (hB.app hend)
      · simp only [stT]
        exact .line k (by simp [tOut]) (by simp [tOut, i2])
theorem sts_tab : ∀ (l : List Stm) (k : Nat), (∀ s ∈ l, GoodS s) → Tabbed fun n => stsT l (n + k)
  | [], _, _ => by simp only [stsT]; exact .nil
  | s :: r, k, h => by
    simp only [stsT]
    exact (st_tab s k (h s (.head _))).app (sts_tab r k fun x hx => h x (.tail _ hx))
end
end Go.Proofs.YtkhbbapocamlmaaDoor
namespace Go.Proofs.YtkhbbapocamlmaaDoor
open Go

/-- What stands in the text with tabs, from here on; st: a line begins here. -/
def tb (n : Nat) : Bool → List UInt8 → List UInt8
  | _, [] => []
  | st, c :: r => (if st then List.replicate n 9 else []) ++ c :: tb n (c == 10) r
/-- No line is empty, and the last one has an end. -/
def NE : Bool → List UInt8 → Prop
  | st, [] => st = true
  | st, c :: r => (st = true → c ≠ 10) ∧ NE (c == 10) r
/-- Where two indices stand: what is left of b is what is left of a, with tabs. -/
structure At (n : Nat) (a b : List UInt8) (j k : Nat) : Prop where
  ja : j ≤ a.length
  kb : k ≤ b.length
  tb : b.drop k = tb n (decide (j = 0 ∨ a[j - 1]? = some 10)) (a.drop j)
  ne : NE (decide (j = 0 ∨ a[j - 1]? = some 10)) (a.drop j)
theorem At.stop {n : Nat} {a b : List UInt8} {k : Nat} (h : At n a b a.length k) : k = b.length ∧ (0 < a.length → a[a.length - 1]? = some 10) := by
  have h1 := h.tb
  have h2 := h.ne
  rw [List.drop_length] at h1 h2
  have h3 := congrArg List.length h1
  rw [List.length_drop] at h3
  have := h.kb
  refine ⟨by simp [Go.Proofs.YtkhbbapocamlmaaDoor.tb] at h3; omega, fun h0 => ?_⟩
  have h4 : a.length = 0 ∨ a[a.length - 1]? = some 10 := by simpa [NE] using h2
  exact h4.resolve_left (by omega)
/-- At a line's begin: the tabs stand in b, then the byte; it ends no line. -/
theorem At.tabs {n : Nat} {a b : List UInt8} {j k : Nat} (h : At n a b j k) (hj : j < a.length) (hs : j = 0 ∨ a[j - 1]? = some 10) : k + n < b.length ∧ (∀ t, t < n → b[k + t]? = some 9) ∧ b[k + n]? = a[j]? ∧ a[j]? ≠ some 10 ∧ At n a b (j + 1) (k + n + 1) := by
  have h1 := h.tb
  have h2 := h.ne
  rw [decide_eq_true hs, List.drop_eq_getElem_cons hj] at h1 h2
  obtain ⟨h3, h4⟩ := h2
  simp only [Go.Proofs.YtkhbbapocamlmaaDoor.tb, if_true] at h1
  have hl := congrArg List.length h1
  simp only [List.length_drop, List.length_append, List.length_replicate, List.length_cons] at hl
  have hb : ∀ i, b[k + i]? = (List.replicate n 9 ++ a[j] :: Go.Proofs.YtkhbbapocamlmaaDoor.tb n (a[j] == 10) (a.drop (j + 1)))[i]? := fun i => by rw [← h1, List.getElem?_drop]
  have hd : decide (j + 1 = 0 ∨ a[j + 1 - 1]? = some 10) = (a[j] == 10) := by
    rw [Nat.add_sub_cancel, List.getElem?_eq_getElem hj]
    by_cases h9 : a[j] = 10 <;> simp [h9]
  refine ⟨by omega, fun t ht => ?_, ?_, ?_, by omega, by omega, ?_, ?_⟩
  · rw [hb, List.getElem?_append_left (by simpa using ht)]
    simp [ht]
  · rw [hb, List.getElem?_append_right (by simp)]
    simp [List.getElem?_eq_getElem hj]
  · rw [List.getElem?_eq_getElem hj]
    intro e
    exact h3 rfl (Option.some.inj e)
  · rw [hd, show k + n + 1 = k + (n + 1) from Nat.add_assoc _ _ _, ← List.drop_drop, h1]
    rw [← List.drop_drop, List.drop_append_of_le_length (by simp)]
    simp
  · rw [hd]
    exact h4
/-- Inside a line: the byte. -/
theorem At.byte {n : Nat} {a b : List UInt8} {j k : Nat} (h : At n a b j k) (hj : j < a.length) (hs : ¬ (j = 0 ∨ a[j - 1]? = some 10)) : k < b.length ∧ b[k]? = a[j]? ∧ At n a b (j + 1) (k + 1) := by
  have h1 := h.tb
  have h2 := h.ne
  rw [decide_eq_false hs, List.drop_eq_getElem_cons hj] at h1 h2
  simp only [Go.Proofs.YtkhbbapocamlmaaDoor.tb, Bool.false_eq_true, if_false, List.nil_append] at h1
  have hl := congrArg List.length h1
  simp only [List.length_drop, List.length_cons] at hl
  have hd : decide (j + 1 = 0 ∨ a[j + 1 - 1]? = some 10) = (a[j] == 10) := by
    rw [Nat.add_sub_cancel, List.getElem?_eq_getElem hj]
    by_cases h9 : a[j] = 10 <;> simp [h9]
  refine ⟨by omega, ?_, by omega, by omega, ?_, ?_⟩
  · have := congrArg (·[0]?) h1
    simpa [List.getElem?_drop, List.getElem?_eq_getElem hj] using this
  · rw [hd, ← List.drop_drop, h1]
    rfl
  · rw [hd]
    exact h2.2
end Go.Proofs.YtkhbbapocamlmaaDoor
namespace Go.Proofs.YtkhbbapocamlmaaDoor
open Go

theorem only_len {l : List Ex} (h : ∀ x ∈ l, GoodE x) : (onlyT l).length ≤ 1000000 := by
  cases l with
  | nil => simp [onlyT]
  | cons x r => exact (h x (.head _)).2.2.1
theorem index_len {l : List Ex} (h : ∀ x ∈ l, GoodE x) : (indexT l).length ≤ 1000002 := by
  cases l with
  | nil => simp [indexT]
  | cons x r =>
    have := (h x (.head _)).2.2.1
    simp only [indexT, List.length_cons, List.length_append, List.length_nil]
    omega
theorem type_len (tr sc : Bool) : (typeT tr sc).length ≤ 20 := by cases tr <;> cases sc <;> decide
theorem line_len (n : Nat) (ps : List (List UInt8)) : (lineT n ps).length = n + ps.flatten.length + 1 := by
  simp only [lineT, List.length_append, List.length_replicate, List.length_cons, List.length_nil]
  omega
mutual
theorem st_len : ∀ (s : Stm) (n K : Nat), GoodS s → 3 * (n + s.cnt) + 9000000 ≤ K → (stT s n).length ≤ s.cnt * K
  | .mk q a tr sc nm ix es bd el, n, K, h, hK => by
    have hb : (∀ s ∈ bd, GoodS s) → 3 * (n + 1 + cntS bd) + 9000000 ≤ K → (stsT bd (n + 1)).length ≤ cntS bd * K := sts_len bd (n + 1) K
    have he : (∀ s ∈ el, GoodS s) → 3 * (n + 1 + cntS el) + 9000000 ≤ K → (stsT el (n + 1)).length ≤ cntS el * K := sts_len el (n + 1) K
    cases h with
    | mk h0 h5 g1 g2 g3 g4 g5 =>
      have hq : q = 0 ∨ q = 1 ∨ q = 2 ∨ q = 3 ∨ q = 4 ∨ q = 5 := by omega
      have i1 := index_len g1
      have i2 := only_len g2
      have i3 := g3.len
      have i4 := type_len tr sc
      simp only [Stm.cnt] at hK ⊢
      have hB := hb g4 (by omega)
      have hE := he g5 (by omega)
      rw [Nat.add_mul, Nat.add_mul, Nat.one_mul]
      rcases hq with rfl | rfl | rfl | rfl | rfl | rfl
      · simp only [stT, if_true, line_len, List.flatten_cons, List.flatten_nil, List.length_append, List.length_cons, List.length_nil, tVar, tEq]
        omega
      · simp only [stT]
        simp [line_len, tEq]
        omega
      · simp only [stT]
        simp [line_len, tIf, tBr]
        split
        · simp
          omega
        · simp [line_len, tElse]
          omega
      · simp only [stT]
        simp [line_len, tWhile, tBr]
        omega
      · simp only [stT]
        simp [line_len, tLock, tOpen]
        omega
      · simp only [stT]
        simp [line_len, tOut]
        omega
theorem sts_len : ∀ (l : List Stm) (n K : Nat), (∀ s ∈ l, GoodS s) → 3 * (n + cntS l) + 9000000 ≤ K → (stsT l n).length ≤ cntS l * K
  | [], _, _, _, _ => by simp [stsT]
  | s :: r, n, K, h, hK => by
    simp only [cntS] at hK
    have h1 := st_len s n K (h s (.head _)) (by omega)
    have h2 := sts_len r n K (fun x hx => h x (.tail _ hx)) (by omega)
    simp only [stsT, cntS, List.length_append, Nat.add_mul]
    omega
end
/-- What a thread comes to is not too long. -/
theorem sts_short {l : List Stm} (h : ∀ s ∈ l, GoodS s) (hc : cntS l ≤ 16385) {n : Nat} (hn : n ≤ 1000) : (stsT l n).length ≤ 1000000000000 := by
  have h1 := sts_len l n 10000000 h (by omega)
  have h2 : cntS l * 10000000 ≤ 16385 * 10000000 := Nat.mul_le_mul_right _ hc
  omega
end Go.Proofs.YtkhbbapocamlmaaDoor
namespace Go.Proofs.YtkhbbapocamlmaaDoor
open Go Go.RowKit

/-- What Parse gave: an error, or a program that can be shown. -/
def Parsed (s : ByteArray) (B : Nat) (w' : World) (c : Int) (v0 v1 v2 v3 : Value) : Prop := c ≠ 0 ∨ (c = 0 ∧ s.size ≤ 16384 ∧ ∃ p rf rt, GoodP p 16385 ∧ NiceP p ∧ PRows B w' p v0 v1 v2 v3 rf rt)
theorem r4_parse_all (s : ByteArray) (w : World) :
    Calls Tryd.prog 8 #[.string s] w fun e w' => Below w.heap.size w w' ∧ ∃ z0 n0 c0 z1 n1 c1 z2 n2 c2 z3 n3 c3 c a, e = .returned (.tuple #[.agg #[.slice z0 n0 c0, .slice z1 n1 c1, .slice z2 n2 c2, .slice z3 n3 c3], .int .i64 c, .int .i64 a]) ∧
      Parsed s w.heap.size w' c (.slice z0 n0 c0) (.slice z1 n1 c1) (.slice z2 n2 c2) (.slice z3 n3 c3) :=
  (r4_parse_any s w).mono fun e w' ⟨hb, v0, v1, v2, v3, c, a, he, h⟩ => by
    rcases h with ⟨hc, rfl, rfl, rfl, rfl⟩ | ⟨hc, hs, ws, p, t, rf, rt, hS, hp, R⟩
    · exact ⟨hb, _, _, _, _, _, _, _, _, _, _, _, _, c, a, he, .inl hc⟩
    · have hG := par_good hS hs hp
      have hN := par_nice hS hs hp
      obtain ⟨z0, c0, rfl⟩ := own_form R.g
      obtain ⟨z1, c1, rfl⟩ := own_form R.l
      obtain ⟨z2, c2, rfl⟩ := own_form R.f
      obtain ⟨z3, c3, rfl⟩ := own_form R.t
      exact ⟨hb, _, _, _, _, _, _, _, _, _, _, _, _, c, a, he, .inr ⟨hc, hs, p, rf, rt, hG, hN, R⟩⟩
end Go.Proofs.YtkhbbapocamlmaaDoor
namespace Go.Proofs.YtkhbbapocamlmaaDoor
open Go Go.RowKit

/-- Things that can be shown. -/
structure SayP (p : Pg) : Prop where
  gs : ∀ g ∈ p.gs, g.nm.length ≤ 24 ∧ g.by_.length ≤ 24 ∧ 0 ≤ g.len ∧ g.len ≤ 64
  ls : ∀ l ∈ p.ls, l.nm.length ≤ 24
  fs : ∀ f ∈ p.fs, ((∀ s ∈ f.bd, GoodS s) ∧ cntS f.bd ≤ 16385 ∧ GoodE f.ret ∧ f.nm.length ≤ 100000) ∧ NameB f.nm ∧ f.ps.length ≤ 6 ∧ ∀ q ∈ f.ps, NameB q.nm
  ths : ∀ l ∈ p.ths, (∀ s ∈ l, GoodS s) ∧ cntS l ≤ 16385
/-- Not too many. -/
structure FewP (p : Pg) : Prop where
  nl : p.ls.length ≤ 16
  ng : p.gs.length ≤ 64
  nf : p.fs.length ≤ 32
  nt : p.ths.length ≤ 8
theorem NameB.len {t : List UInt8} (h : NameB t) : t.length ≤ 24 := by
  obtain ⟨_, _, _, _, _, h24, _⟩ := h
  exact h24
theorem say_of {p : Pg} (h : GoodP p 16385) (k : NiceP p) : SayP p where
  gs g hg := by
    obtain ⟨h1, h2, h3⟩ := k.gs g hg
    refine ⟨h1.len, ?_, by omega, by omega⟩
    rcases h3 with e | e
    · rw [e]
      simp
    · exact e.len
  ls l hl := (k.ls l hl).len
  fs f hf := ⟨h.fn f hf, k.fs f hf⟩
  ths l hl := h.th l hl
theorem few_of {p : Pg} (k : NiceP p) : FewP p := ⟨by (have := k.nl; omega), by (have := k.ng; omega), by (have := k.nf; omega), by (have := k.nt; omega)⟩
theorem flat_len {α : Type} (f : α → List UInt8) (K : Nat) : ∀ l : List α, (∀ x ∈ l, (f x).length ≤ K) → (l.flatMap f).length ≤ l.length * K
  | [], _ => by simp
  | x :: r, h => by
    have h1 := h x (.head _)
    have h2 := flat_len f K r fun y hy => h y (.tail _ hy)
    simp only [List.flatMap_cons, List.length_append, List.length_cons, Nat.succ_mul]
    omega
theorem lenT_len (n : Int) (h0 : 0 ≤ n) (h1 : n ≤ 64) : (lenT n).length ≤ 22 := by
  unfold lenT
  split
  · simp
  · have e : n = ((n.toNat : Nat) : Int) := by omega
    have := itoa_len n.toNat (by omega)
    rw [← e] at this
    simp only [List.length_cons, List.length_append, List.length_nil]
    omega
theorem byT_len (t : List UInt8) (h : t.length ≤ 24) : (byT t).length ≤ 28 := by
  unfold byT
  split
  · simp
  · simp only [List.length_cons]
    omega
theorem lkT_len {x : Lk} (h : x.nm.length ≤ 24) : (lkT x).length ≤ 1000 := by
  simp only [lkT, lineT_len, List.flatten_cons, List.flatten_nil, List.length_append, List.length_cons, List.length_nil, tLock]
  omega
theorem glT_len {x : Gl} (h : x.nm.length ≤ 24 ∧ x.by_.length ≤ 24 ∧ 0 ≤ x.len ∧ x.len ≤ 64) : (glT x).length ≤ 1000 := by
  have h1 := type_len9 x.tr x.sc
  have h2 := lenT_len x.len h.2.2.1 h.2.2.2
  have h3 := byT_len x.by_ h.2.1
  have h4 := h.1
  simp only [glT, lineT_len, List.flatten_cons, List.flatten_nil, List.length_append, List.length_cons, List.length_nil]
  omega
theorem thT_len {l : List Stm} (h : (∀ s ∈ l, GoodS s) ∧ cntS l ≤ 16385) : (thT l).length ≤ 1100000000000 := by
  have h1 := sts_short h.1 h.2 (n := 1) (by omega)
  simp only [thT, lineT_len, List.flatten_cons, List.flatten_nil, List.length_append, List.length_cons, List.length_nil, tThr]
  omega
theorem fnT_len {f : Fn} (h : ((∀ s ∈ f.bd, GoodS s) ∧ cntS f.bd ≤ 16385 ∧ GoodE f.ret ∧ f.nm.length ≤ 100000) ∧ NameB f.nm ∧ f.ps.length ≤ 6 ∧ ∀ q ∈ f.ps, NameB q.nm) : (fnT f).length ≤ 1100000000000 := by
  have h1 := sts_short h.1.1 h.1.2.1 (n := 0 + 1) (by omega)
  have h2 := params_len h.2.2.1 h.2.2.2
  have h3 := h.2.1.len
  have h4 := h.1.2.2.1.2.2.1
  have h5 := type_len9 f.tr f.sc
  simp only [fnT, fnA, fnC, lineT_len, List.flatten_cons, List.flatten_nil, List.length_append, List.length_cons, List.length_nil, tFunc, tRet]
  omega
theorem say_len {p : Pg} (h : SayP p) (k : FewP p) : (progT fnT p).length ≤ 50000000000000 := by
  have h1 := flat_len lkT 1000 p.ls fun x hx => lkT_len (h.ls x hx)
  have h2 := flat_len glT 1000 p.gs fun x hx => glT_len (h.gs x hx)
  have h3 := flat_len fnT 1100000000000 p.fs fun x hx => fnT_len (h.fs x hx)
  have h4 := flat_len thT 1100000000000 p.ths fun x hx => thT_len (h.ths x hx)
  have k1 : p.ls.length * 1000 ≤ 16 * 1000 := Nat.mul_le_mul_right _ k.nl
  have k2 : p.gs.length * 1000 ≤ 64 * 1000 := Nat.mul_le_mul_right _ k.ng
  have k3 : p.fs.length * 1100000000000 ≤ 32 * 1100000000000 := Nat.mul_le_mul_right _ k.nf
  have k4 : p.ths.length * 1100000000000 ≤ 8 * 1100000000000 := Nat.mul_le_mul_right _ k.nt
  simp only [progT, List.length_append]
  omega
/-- show.Program. -/
theorem prog_say {p : Pg} {BB : Nat} {W : World} {v0 v1 v2 v3 : Value} {rf : List (Fn × FV)} {rt : List (List Stm × Value)} (R : PRows BB W p v0 v1 v2 v3 rf rt) (L : Laid W) (h : SayP p) (k : FewP p) (T : List UInt8) (hT : progT fnT p = T) :
    Calls Tryd.prog 9 #[.agg #[v0, v1, v2, v3]] W fun e w' => e = .returned (.string (bstr T)) ∧ Below W.heap.size W w' :=
  prog_any fnT p BB W v0 v1 v2 v3 rf rt R L
    (fun g hg => by (obtain ⟨h1, h2, h3, h4⟩ := h.gs g hg; exact ⟨by omega, by omega, h3, h4⟩))
    (fun l hl => ⟨(h.ths l hl).1, by (have := (h.ths l hl).2; omega)⟩)
    (fun f hf => fn_owes f (h.fs f hf).1 (h.fs f hf).2)
    ⟨by (have := k.ng; omega), by (have := k.nl; omega), by (have := k.nf; omega), by (have := k.nt; omega)⟩ T hT (by (have := say_len h k; rw [hT] at this; omega))
section
variable {B : Nat} {W : World} {p : Pg} {v0 v1 v2 v3 : Value} {rf : List (Fn × FV)} {rt : List (List Stm × Value)}
theorem PRows.onlyL (R : PRows B W p v0 v1 v2 v3 rf rt) : PRows B W ⟨[], p.ls, [], []⟩ (.slice none 0 0) v1 (.slice none 0 0) (.slice none 0 0) [] [] :=
  ⟨World.ownsRow_nil W B _ 6, R.l, World.ownsRow_nil W B _ 12, World.ownsRow_nil W B _ 1, rfl, rfl, by simp, by simp⟩
theorem PRows.onlyG (R : PRows B W p v0 v1 v2 v3 rf rt) : PRows B W ⟨p.gs, [], [], []⟩ v0 (.slice none 0 0) (.slice none 0 0) (.slice none 0 0) [] [] :=
  ⟨R.g, World.ownsRow_nil W B _ 2, World.ownsRow_nil W B _ 12, World.ownsRow_nil W B _ 1, rfl, rfl, by simp, by simp⟩
theorem PRows.onlyF (R : PRows B W p v0 v1 v2 v3 rf rt) : PRows B W ⟨[], [], p.fs, []⟩ (.slice none 0 0) (.slice none 0 0) v2 (.slice none 0 0) rf [] :=
  ⟨World.ownsRow_nil W B _ 6, World.ownsRow_nil W B _ 2, R.f, World.ownsRow_nil W B _ 1, R.ef, rfl, R.xf, by simp⟩
theorem PRows.onlyT (R : PRows B W p v0 v1 v2 v3 rf rt) : PRows B W ⟨[], [], [], p.ths⟩ (.slice none 0 0) (.slice none 0 0) (.slice none 0 0) v3 [] rt :=
  ⟨World.ownsRow_nil W B _ 6, World.ownsRow_nil W B _ 2, World.ownsRow_nil W B _ 12, R.t, rfl, R.et, by simp, R.xt⟩
theorem SayP.onlyL (h : SayP p) : SayP ⟨[], p.ls, [], []⟩ := ⟨by simp, h.ls, by simp, by simp⟩
theorem SayP.onlyG (h : SayP p) : SayP ⟨p.gs, [], [], []⟩ := ⟨h.gs, by simp, by simp, by simp⟩
theorem SayP.onlyF (h : SayP p) : SayP ⟨[], [], p.fs, []⟩ := ⟨by simp, by simp, h.fs, by simp⟩
theorem SayP.onlyT (h : SayP p) : SayP ⟨[], [], [], p.ths⟩ := ⟨by simp, by simp, by simp, h.ths⟩
theorem FewP.onlyL (h : FewP p) : FewP ⟨[], p.ls, [], []⟩ := ⟨h.nl, by simp, by simp, by simp⟩
theorem FewP.onlyG (h : FewP p) : FewP ⟨p.gs, [], [], []⟩ := ⟨by simp, h.ng, by simp, by simp⟩
theorem FewP.onlyF (h : FewP p) : FewP ⟨[], [], p.fs, []⟩ := ⟨by simp, by simp, h.nf, by simp⟩
theorem FewP.onlyT (h : FewP p) : FewP ⟨[], [], [], p.ths⟩ := ⟨by simp, by simp, by simp, h.nt⟩
end
/-- Two programs' things, kind by kind. -/
def Pg.both (p q : Pg) : Pg := ⟨p.gs ++ q.gs, p.ls ++ q.ls, p.fs ++ q.fs, p.ths ++ q.ths⟩
theorem SayP.both {p q : Pg} (h : SayP p) (k : SayP q) : SayP (p.both q) :=
  ⟨fun x hx => (List.mem_append.1 hx).elim (h.gs x) (k.gs x), fun x hx => (List.mem_append.1 hx).elim (h.ls x) (k.ls x), fun x hx => (List.mem_append.1 hx).elim (h.fs x) (k.fs x), fun x hx => (List.mem_append.1 hx).elim (h.ths x) (k.ths x)⟩
theorem few_both {p q : Pg} (h : NiceP p) (k : NiceP q) : FewP (p.both q) := by
  have := h.nl; have := h.ng; have := h.nf; have := h.nt
  have := k.nl; have := k.ng; have := k.nf; have := k.nt
  refine ⟨?_, ?_, ?_, ?_⟩ <;> simp only [Pg.both, List.length_append] <;> omega
theorem progT_both (p q : Pg) : progT fnT (p.both q) = ((((progT fnT ⟨[], p.ls, [], []⟩ ++ progT fnT ⟨[], q.ls, [], []⟩) ++ (progT fnT ⟨p.gs, [], [], []⟩ ++ progT fnT ⟨q.gs, [], [], []⟩)) ++ (progT fnT ⟨[], [], p.fs, []⟩ ++ progT fnT ⟨[], [], q.fs, []⟩)) ++ (progT fnT ⟨[], [], [], p.ths⟩ ++ progT fnT ⟨[], [], [], q.ths⟩)) := by
  simp [progT, Pg.both, List.flatMap_append]
theorem IsFn1.lo0 {lo : Nat} {W : World} {f : Fn} {v : FV} (h : IsFn1 (fun g => lo ≤ g) W f v) : IsFn1 (fun g => 0 ≤ g) W f v := h.low (Nat.zero_le _)
theorem own_zero {B T k n : Nat} {w : World} {v : Value} {xs : List Value} (h : w.ownsRow B T k v n xs) : w.ownsRow 0 T k v n xs := by
  refine ⟨h.1, ?_⟩
  rcases h.2 with h0 | ⟨g, cap, cur, e, _, rest⟩
  · exact .inl h0
  · exact .inr ⟨g, cap, cur, e, Nat.zero_le _, rest⟩
/-- The things of two programs in rows of their own. -/
theorem PRows.both {B1 B2 n : Nat} {Z : World} {p q : Pg} {a0 a1 a2 a3 b0 b1 b2 b3 c0 c1 c2 c3 : Value} {rf rf2 : List (Fn × FV)} {rt rt2 : List (List Stm × Value)} (R : PRows B1 Z p a0 a1 a2 a3 rf rt) (S : PRows B2 Z q b0 b1 b2 b3 rf2 rt2)
    (h0 : Z.ownsRow n 39 6 c0 (p.gs.length + q.gs.length) (p.gs.flatMap glCells ++ q.gs.flatMap glCells)) (h1 : Z.ownsRow n 66 2 c1 (p.ls.length + q.ls.length) (p.ls.flatMap lkCells ++ q.ls.flatMap lkCells))
    (h2 : Z.ownsRow n 73 12 c2 (p.fs.length + q.fs.length) (fnRow rf ++ fnRow rf2)) (h3 : Z.ownsRow n 34 1 c3 (p.ths.length + q.ths.length) (thRow rt ++ thRow rt2)) : PRows 0 Z (p.both q) c0 c1 c2 c3 (rf ++ rf2) (rt ++ rt2) := by
  refine ⟨?_, ?_, ?_, ?_, ?_, ?_, ?_, ?_⟩
  · simpa [Pg.both, List.flatMap_append] using own_zero h0
  · simpa [Pg.both, List.flatMap_append] using own_zero h1
  · simpa [Pg.both, fnRow, List.flatMap_append] using own_zero h2
  · simpa [Pg.both, thRow] using own_zero h3
  · simp [Pg.both, R.ef, S.ef]
  · simp [Pg.both, R.et, S.et]
  · exact fun x hx => (List.mem_append.1 hx).elim (fun h => (R.xf x h).lo0) (fun h => (S.xf x h).lo0)
  · exact fun x hx => (List.mem_append.1 hx).elim (fun h => (R.xt x h).lo (Nat.zero_le _)) (fun h => (S.xt x h).lo (Nat.zero_le _))
end Go.Proofs.YtkhbbapocamlmaaDoor
namespace Go.Proofs.YtkhbbapocamlmaaDoor
open Go Go.RowKit

/-- 'append(v, x...)' of two rows. -/
theorem wpList_append_rows {P : Program} {w : World} {ops : Array Oper} {rest : List Oper} {o : Oper} {a : Act} {Q : Exit → Act → World → Prop} (hgd : o.guard = none) (s x : Operand) (t : TypeId)
    (ho : o.op = .call { callee := .builtin .append, args := #[s, x], argTypes := #[t, t] })
    (base base2 : Nat) (e : TypeId) (i : TypeInfo) (z : Value) (size bytes : Nat) (ht : P.underlying t = some (.slice e)) (hi : P.info? e = some i) (hz : i.zero = some z)
    (hsize : i.size = size) (hby : i.bytes = bytes) (hzs : z.cells.size = size) (hsz : 0 < size)
    (v : Value) (n : Nat) (xs : List Value) (hs : a.eval s = v) (hown : w.ownsRow base e size v n xs)
    (v2 : Value) (m : Nat) (ys : List Value) (hx : a.eval x = v2) (hown2 : w.ownsRow base2 e size v2 m ys) (h1 : ∀ u ∈ ys, u.oneCell' = true)
    (hbd : n + m ≤ 1000000) (hby2 : bytes ≤ 1000) (hbase : base ≤ w.heap.size)
    (h : ∀ z' c' k w', k = n + m → w'.ownsRow base e size (.slice z' k c') k (xs ++ ys) → w.grownBy w' v.ownBlock → wpList P ops Q rest (a.put o.dst (.slice z' k c')) w') : wpList P ops Q (o :: rest) a w := by
  rcases hown2.2 with ⟨rfl, rfl⟩ | ⟨g, cap, cur, rfl, _⟩
  · have hy : ys = [] := List.eq_nil_of_length_eq_zero (by simpa using hown2.1)
    subst hy
    obtain ⟨p, c, rfl⟩ := own_form hown
    refine wpList_append_own_none hgd s x t ho base e i size ht hi _ n xs hs hown hx ?_
    exact h p c _ w rfl (by simpa using hown) ⟨rfl, rfl, rfl, Nat.le_refl _, fun _ _ _ => rfl⟩
  · have hb : (n + m) * bytes ≤ 1000000 * 1000 := Nat.mul_le_mul hbd hby2
    refine wpList_append_own w hgd s x t ho base e i z size bytes ht hi hz hsize hby hzs hsz v n xs hs hown ⟨g, 0, none⟩ m cap ys hx hown2.1 (hown2.cells (g := g) rfl) h1 (by unfold maxLen; omega) (by omega) hbase ?_
    intro v' w' h2 h3 _
    obtain ⟨p, c, rfl⟩ := own_form h2
    exact h p c _ w' rfl h2 h3
theorem own_neB9 {B T k n b : Nat} {w : World} {v : Value} {xs : List Value} {cs : Array Value} {U : Nat} {fr : Nat × Nat} (h : w.ownsRow B T k v n xs) (hb : w.heap[b]? = some (.cells cs U fr)) (hT : T ≠ U) : v.ownBlock ≠ some b := by
  rcases h.2 with ⟨rfl, _⟩ | ⟨g, cap, cur, rfl, _, hg, _⟩
  · simp [Value.ownBlock]
  · intro e
    have : g = b := by simpa [Value.ownBlock] using e
    subst this
    rw [hg] at hb
    simp only [Option.some.injEq, Obj.cells.injEq] at hb
    exact hT hb.2.1
theorem own_grown9 {B B' T T' k n k' n' : Nat} {w w' : World} {v v' : Value} {xs xs' : List Value} (h : w.ownsRow B T k v n xs) (h' : w.ownsRow B' T' k' v' n' xs') (hT : T ≠ T') (hg : w.grownBy w' v'.ownBlock) : w'.ownsRow B T k v n xs := by
  refine ⟨h.1, ?_⟩
  rcases h.2 with h0 | ⟨g, cap, cur, rfl, hb, hgg, rest⟩
  · exact .inl h0
  · exact .inr ⟨g, cap, cur, rfl, hb, (hg.block g (Array.getElem?_eq_some_iff.1 hgg).1 (fun e => own_neB9 h' hgg (Ne.symm hT) e.symm)).trans hgg, rest⟩
theorem own_set9 {B T k n b o : Nat} {w : World} {v u : Value} {xs : List Value} {cs : Array Value} {U : Nat} {fr : Nat × Nat} (h : w.ownsRow B T k v n xs) (hb : w.heap[b]? = some (.cells cs U fr)) (hT : T ≠ U) : (w.setCell ⟨b, o, none⟩ u).ownsRow B T k v n xs := by
  refine ⟨h.1, ?_⟩
  have hne := own_neB9 h hb hT
  rcases h.2 with h0 | ⟨g, cap, cur, rfl, hB, hg, rest⟩
  · exact .inl h0
  · refine .inr ⟨g, cap, cur, rfl, hB, (heap_setCell_other w ⟨b, o, none⟩ g u ?_).trans hg, rest⟩
    rintro rfl
    exact hne rfl
/-- The program that is put together. -/
structure OS (X0 Z : World) (n : Nat) (a0 a1 a2 a3 : Value) (c0 c1 c2 c3 : Nat) (l0 l1 l2 l3 : List Value) : Prop where
  hn : n = X0.heap.size
  lt : n < Z.heap.size
  below : Below n X0 Z
  blk : PgBlk Z n a0 a1 a2 a3
  g : Z.ownsRow n 39 6 a0 c0 l0
  l : Z.ownsRow n 66 2 a1 c1 l1
  f : Z.ownsRow n 73 12 a2 c2 l2
  t : Z.ownsRow n 34 1 a3 c3 l3
section
variable {X0 Z w' : World} {n : Nat} {a0 a1 a2 a3 v : Value} {c0 c1 c2 c3 c : Nat} {l0 l1 l2 l3 xs : List Value}
theorem OS.set0 (h : OS X0 Z n a0 a1 a2 a3 c0 c1 c2 c3 l0 l1 l2 l3) (hown : w'.ownsRow n 39 6 v c xs) (hg : Z.grownBy w' a0.ownBlock) : OS X0 (w'.setCell ⟨n, 0, none⟩ v) n v a1 a2 a3 c c1 c2 c3 xs l1 l2 l3 := by
  have hb : PgBlk w' n a0 a1 a2 a3 := (hg.block n h.lt (fun e => own_neB9 h.g h.blk (by decide) e.symm)).trans h.blk
  have hb9 : w'.heap[n]? = some (.cells #[a0, a1, a2, a3] 28 (0, 0)) := hb
  refine ⟨h.hn, by (have := hg.size; have := h.lt; simp; omega), (h.below.grown hg (Nat.le_of_lt h.lt) (fun k e => own_mem h.g k e.symm.symm)).setCell (p := ⟨n, 0, none⟩) (Nat.le_refl _) _, heap_setCell_same w' n 0 _ _ _ hb, own_set9 hown hb9 (by decide), own_set9 (own_grown9 h.l h.g (by decide) hg) hb9 (by decide), own_set9 (own_grown9 h.f h.g (by decide) hg) hb9 (by decide), own_set9 (own_grown9 h.t h.g (by decide) hg) hb9 (by decide)⟩
theorem OS.set1 (h : OS X0 Z n a0 a1 a2 a3 c0 c1 c2 c3 l0 l1 l2 l3) (hown : w'.ownsRow n 66 2 v c xs) (hg : Z.grownBy w' a1.ownBlock) : OS X0 (w'.setCell ⟨n, 1, none⟩ v) n a0 v a2 a3 c0 c c2 c3 l0 xs l2 l3 := by
  have hb : PgBlk w' n a0 a1 a2 a3 := (hg.block n h.lt (fun e => own_neB9 h.l h.blk (by decide) e.symm)).trans h.blk
  have hb9 : w'.heap[n]? = some (.cells #[a0, a1, a2, a3] 28 (0, 0)) := hb
  refine ⟨h.hn, by (have := hg.size; have := h.lt; simp; omega), (h.below.grown hg (Nat.le_of_lt h.lt) (fun k e => own_mem h.l k e.symm.symm)).setCell (p := ⟨n, 1, none⟩) (Nat.le_refl _) _, heap_setCell_same w' n 1 _ _ _ hb, own_set9 (own_grown9 h.g h.l (by decide) hg) hb9 (by decide), own_set9 hown hb9 (by decide), own_set9 (own_grown9 h.f h.l (by decide) hg) hb9 (by decide), own_set9 (own_grown9 h.t h.l (by decide) hg) hb9 (by decide)⟩
theorem OS.set2 (h : OS X0 Z n a0 a1 a2 a3 c0 c1 c2 c3 l0 l1 l2 l3) (hown : w'.ownsRow n 73 12 v c xs) (hg : Z.grownBy w' a2.ownBlock) : OS X0 (w'.setCell ⟨n, 2, none⟩ v) n a0 a1 v a3 c0 c1 c c3 l0 l1 xs l3 := by
  have hb : PgBlk w' n a0 a1 a2 a3 := (hg.block n h.lt (fun e => own_neB9 h.f h.blk (by decide) e.symm)).trans h.blk
  have hb9 : w'.heap[n]? = some (.cells #[a0, a1, a2, a3] 28 (0, 0)) := hb
  refine ⟨h.hn, by (have := hg.size; have := h.lt; simp; omega), (h.below.grown hg (Nat.le_of_lt h.lt) (fun k e => own_mem h.f k e.symm.symm)).setCell (p := ⟨n, 2, none⟩) (Nat.le_refl _) _, heap_setCell_same w' n 2 _ _ _ hb, own_set9 (own_grown9 h.g h.f (by decide) hg) hb9 (by decide), own_set9 (own_grown9 h.l h.f (by decide) hg) hb9 (by decide), own_set9 hown hb9 (by decide), own_set9 (own_grown9 h.t h.f (by decide) hg) hb9 (by decide)⟩
theorem OS.set3 (h : OS X0 Z n a0 a1 a2 a3 c0 c1 c2 c3 l0 l1 l2 l3) (hown : w'.ownsRow n 34 1 v c xs) (hg : Z.grownBy w' a3.ownBlock) : OS X0 (w'.setCell ⟨n, 3, none⟩ v) n a0 a1 a2 v c0 c1 c2 c l0 l1 l2 xs := by
  have hb : PgBlk w' n a0 a1 a2 a3 := (hg.block n h.lt (fun e => own_neB9 h.t h.blk (by decide) e.symm)).trans h.blk
  have hb9 : w'.heap[n]? = some (.cells #[a0, a1, a2, a3] 28 (0, 0)) := hb
  refine ⟨h.hn, by (have := hg.size; have := h.lt; simp; omega), (h.below.grown hg (Nat.le_of_lt h.lt) (fun k e => own_mem h.t k e.symm.symm)).setCell (p := ⟨n, 3, none⟩) (Nat.le_refl _) _, heap_setCell_same w' n 3 _ _ _ hb, own_set9 (own_grown9 h.g h.t (by decide) hg) hb9 (by decide), own_set9 (own_grown9 h.l h.t (by decide) hg) hb9 (by decide), own_set9 (own_grown9 h.f h.t (by decide) hg) hb9 (by decide), own_set9 hown hb9 (by decide)⟩
theorem OS.gb0 (h : OS X0 Z n a0 a1 a2 a3 c0 c1 c2 c3 l0 l1 l2 l3) (hg : Z.grownBy w' a0.ownBlock) : PgBlk w' n a0 a1 a2 a3 := (hg.block n h.lt (fun e => own_neB9 h.g h.blk (by decide) e.symm)).trans h.blk
theorem OS.gb1 (h : OS X0 Z n a0 a1 a2 a3 c0 c1 c2 c3 l0 l1 l2 l3) (hg : Z.grownBy w' a1.ownBlock) : PgBlk w' n a0 a1 a2 a3 := (hg.block n h.lt (fun e => own_neB9 h.l h.blk (by decide) e.symm)).trans h.blk
theorem OS.gb2 (h : OS X0 Z n a0 a1 a2 a3 c0 c1 c2 c3 l0 l1 l2 l3) (hg : Z.grownBy w' a2.ownBlock) : PgBlk w' n a0 a1 a2 a3 := (hg.block n h.lt (fun e => own_neB9 h.f h.blk (by decide) e.symm)).trans h.blk
theorem OS.gb3 (h : OS X0 Z n a0 a1 a2 a3 c0 c1 c2 c3 l0 l1 l2 l3) (hg : Z.grownBy w' a3.ownBlock) : PgBlk w' n a0 a1 a2 a3 := (hg.block n h.lt (fun e => own_neB9 h.t h.blk (by decide) e.symm)).trans h.blk
theorem OS.new (X0 : World) : OS X0 (X0.alloc (.cells #[.slice none 0 0, .slice none 0 0, .slice none 0 0, .slice none 0 0] 28)) X0.heap.size (.slice none 0 0) (.slice none 0 0) (.slice none 0 0) (.slice none 0 0) 0 0 0 0 [] [] [] [] :=
  ⟨rfl, by simp, below_of_alloc _ _, PgBlk.new rfl, World.ownsRow_nil _ _ _ 6, World.ownsRow_nil _ _ _ 2, World.ownsRow_nil _ _ _ 12, World.ownsRow_nil _ _ _ 1⟩
end
theorem one_gl (l : List Gl) : ∀ u ∈ l.flatMap glCells, u.oneCell' = true := by
  intro u hu
  obtain ⟨x, _, hx⟩ := List.mem_flatMap.1 hu
  simp [glCells] at hx
  rcases hx with rfl | rfl | rfl | rfl | rfl | rfl <;> rfl
theorem one_lk (l : List Lk) : ∀ u ∈ l.flatMap lkCells, u.oneCell' = true := by
  intro u hu
  obtain ⟨x, _, hx⟩ := List.mem_flatMap.1 hu
  simp [lkCells] at hx
  rcases hx with rfl | rfl <;> rfl
theorem one_fn {ok : Nat → Prop} {W : World} (l : List (Fn × FV)) (h : ∀ q ∈ l, IsFn1 ok W q.1 q.2) : ∀ u ∈ fnRow l, u.oneCell' = true := by
  intro u hu
  obtain ⟨x, hx, hu⟩ := List.mem_flatMap.1 hu
  obtain ⟨h1, h2, h3⟩ := h x hx
  obtain ⟨⟨p1, k1, e1⟩, _⟩ := h1
  obtain ⟨p2, k2, e2⟩ := h2.form
  obtain ⟨p3, k3, e3⟩ := h3.form
  simp only [fnCells, e1, e2, e3] at hu
  exact raw12_one u hu
theorem one_th {ok : Nat → Prop} {W : World} (l : List (List Stm × Value)) (h : ∀ q ∈ l, IsSts ok W q.1 q.2) : ∀ u ∈ thRow l, u.oneCell' = true := by
  intro u hu
  obtain ⟨x, hx, rfl⟩ := List.mem_map.1 hu
  obtain ⟨p, k, e⟩ := (h x hx).form
  rw [e]
  rfl
end Go.Proofs.YtkhbbapocamlmaaDoor
namespace Go.Proofs.YtkhbbapocamlmaaDoor
open Go Go.ChangeShapes Go.WideShapes Go.ChangeAt Go.WideMaps Go.WideElems Go.RowKit Go.Sort

theorem own : ownKnob Tryd.prog.godebug = none := by kernel_rfl
theorem gSigns : Tryd.prog.globalNamed "paling/calc.signs" = some 1 := by kernel_rfl
theorem tSigns : (Tryd.prog.globals[1]?).map (·.type) = some 148 := by kernel_rfl
theorem tPow : (Tryd.prog.globals[0]?).map (·.type) = some 139 := by kernel_rfl
theorem cPow : Tryd.prog.cellsOf 139 = 20 := by kernel_rfl
theorem cU64 : Tryd.prog.cellsOf 132 = 1 := by kernel_rfl
theorem cStr : Tryd.prog.cellsOf 9 = 1 := by kernel_rfl
theorem cInt : Tryd.prog.cellsOf 3 = 1 := by kernel_rfl
theorem cWritten : Tryd.prog.cellsOf 147 = 2 := by kernel_rfl

theorem signs_eq : (Rows.laid_paling_calc_signs : DataW Unit) = .agg ((List.range 19).map fun i => .agg [.lit (.string (sgn i).data.toList), .lit (.int .i64 (rnk i))]) := by rfl

theorem lt_of_var {w : World} {n : String} {g : Nat} {cs : Array Value} (hg : Tryd.prog.globalNamed n = some g) (h : w.var? Tryd.prog n = some cs) : g < w.heap.size := by
  unfold World.var? at h
  simp only [hg, Option.bind_some] at h
  cases hh : w.heap[g]? with
  | none => simp [hh] at h
  | some o => exact (Array.getElem?_eq_some_iff.1 hh).1

theorem table_of {W : World} {r : List (String × DataW Unit)} (h : laidMet Tryd.prog (("paling/calc.signs", Rows.laid_paling_calc_signs) :: r) W) : Table W := by
  obtain ⟨ps, ⟨g0, t0, cs0, f0, p0, q0, hg0, ht0, hv0, hd0, _, _⟩, _⟩ := h
  obtain rfl := Option.some.inj (gSigns.symm.trans hg0)
  obtain rfl := Option.some.inj (tSigns.symm.trans ht0)
  obtain ⟨xs, m, rfl, hx, hlen, hn, hel⟩ := DataW.trod_array Tryd.underlying148 hd0
  rw [signs_eq] at hx
  simp only [Prod.mk.injEq, DataW.agg.injEq] at hx
  have key : ∀ n, n < 19 → cs0.toList[n * 2]? = some (.string (sgn n)) ∧ cs0.toList[n * 2 + 1]? = some (.int .i64 (rnk n)) := by
    intro n hn19
    have h0 := hel n hn19
    have hxs : xs[n]? = some xs[n] := List.getElem?_eq_getElem (by omega)
    rw [hxs] at h0
    have hx1 : (xs.map (·.1))[n]? = some xs[n].1 := by rw [List.getElem?_map, hxs]; rfl
    rw [← hx.1, List.getElem?_map, List.getElem?_range hn19] at hx1
    simp only [Option.map_some, Option.some.injEq] at hx1
    obtain ⟨y0, y1, k, e0, _, e1, e2⟩ := trod_struct2 Tryd.underlying147 h0
    obtain ⟨s, c1, d1, _⟩ := DataW.trod_string Tryd.underlying9 e1
    obtain ⟨v, c2, d2, _⟩ := DataW.trod_int Tryd.underlying3 e2
    rw [e0, d1, d2] at hx1
    simp only [DataW.agg.injEq, List.cons.injEq, DataW.lit.injEq, Lit.string.injEq, Lit.int.injEq, true_and, and_true] at hx1
    rw [cWritten] at c1 c2
    constructor
    · have := bytes_inj hx1.1
      rw [this]
      have c3 := congrArg (·[0]?) c1
      simpa [List.getElem?_take, List.getElem?_drop, cStr] using c3
    · rw [hx1.2]
      have c3 := congrArg (·[0]?) c2
      simpa [List.getElem?_take, List.getElem?_drop, cInt, Nat.add_assoc] using c3
  refine ⟨lt_of_var gSigns hv0, fun n hn => ?_, fun n hn => ?_⟩
  · rw [World.var?_cell gSigns hv0]
    simpa using (key n hn).1
  · rw [World.var?_cell gSigns hv0]
    simpa using (key n hn).2

def laidL : List (String × DataW Unit) := Rows.showTellsRow.laid

theorem of_laid {W : World} (h : laidMetH Tryd.prog laidL W) : Laid W := by
  rw [MakeChecks.laidMetH_plain _ _ _ (by kernel_rfl)] at h
  have hp := h.tail.tail
  have ht := table_of hp.tail
  have hpow : Lib.TabIs Tryd.prog W "internal/strconv.uint64pow10" .u64 Lib.pow10Tab := Lib.tabIs_of_head gPow tPow Tryd.underlying139 Tryd.underlying132 cU64 cPow hp
  exact ⟨ht, lt_of_var gPow hpow, hpow⟩

/-- The door's own heap meets the condition: three closed facts. -/
theorem door_met (os : Os) (args : Array Value) : laidMetH Tryd.prog laidL ((World.doorLaid Tryd.prog 400 os).forCall (fun _ _ => 0) ⟨#[], args, []⟩).memory :=
  laidMetH_of_parts3 (fuel := 8) (laidMet_of_run' 8 (by kernel_rfl) (by kernel_rfl)) (by kernel_rfl) (by kernel_rfl)
end Go.Proofs.YtkhbbapocamlmaaDoor
