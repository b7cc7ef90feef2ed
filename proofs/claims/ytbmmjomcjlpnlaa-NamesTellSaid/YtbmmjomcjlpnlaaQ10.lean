/- Joined texts: Par4 Tc Sh2 Nw Rx RxG RxL RxO RxF Ra RxK: lemmas for the law; each says its own conditions. -/
import Derived.Test.YtbmmjomcjlpnlaaQ09
import Derived.Test.YtbmmjomcjlpnlaaQ07
import Derived.Deep.RegionHeld3
import Derived.Deep.AppendLies
set_option linter.unusedSimpArgs false
set_option linter.unusedVariables false
set_option maxRecDepth 100000
set_option maxHeartbeats 8000000
open Go.Lib (hid)
namespace Go.Proofs.Ytbmmjomcjlpnlaa
open Go Go.RowKit
theorem own_wcellsR {w : World} {B g cap n : Nat} {Wf : List Wd} (h : w.ownsRow B 82 4 (.slice (some ⟨g,0,none⟩) n cap) Wf.length (cellsW Wf)) : WCells w g Wf ∧ B ≤ g ∧ n = Wf.length:=by
 rcases h.2 with ⟨h1,_⟩ | ⟨g',cap',cur,hv,hB,hg,rest⟩
 · cases h1
 · cases hv
   exact ⟨⟨(Array.getElem?_eq_some_iff.1 hg).1,fun i x hx => row_at h hx⟩,hB,rfl⟩
theorem Sc.kok {num : List UInt8 → Option Int} {l : List UInt8} {a : Nat} {ws : List Wd} {r : Option (Int × Nat)} (h : Sc num l a ws r) : ∀ w ∈ ws,KOk w:=by
 induction h with
 | done a => intro w hw;simp at hw;subst hw;exact ⟨fun h => absurd (show (3 : Int) = 0 from h) (by decide),fun h => absurd (show (3 : Int) = 2 from h) (by decide)⟩
 | bad => intro w hw;simp at hw
 | gap _ _ _ _ _ _ _ _ ih => exact ih
 | word l a n k v ws r hl ht hs ih =>
  intro w hw
  rcases List.mem_cons.1 hw with rfl | hw
  · have hn:=tok_word hl ht
    obtain ⟨c,q,rfl⟩:=List.exists_cons_of_ne_nil hl
    obtain ⟨m,rfl⟩ : ∃ m,n = m + 1:=⟨n - 1,by omega⟩
    refine ⟨fun hk => ⟨c,q.take m,rfl,?_⟩,fun hk => ⟨c,q.take m,rfl,?_⟩⟩
    · obtain rfl : k = 0:=hk
      simp only [tok] at ht
      repeat' split at ht
      all_goals first
       | assumption
       | (cases ht;done)
    · obtain rfl : k = 2:=hk
      simp only [tok] at ht
      repeat' split at ht
      all_goals first
       | (rename_i h1 h2 h3 h4 h5;simpa using h3)
       | (cases ht;done)
       | simp_all
  · exact ih w hw
noncomputable def parF (ws : List Wd) : Pg × RS:=wholeF (3 * ws.length + 2) (ws.length + 1) ⟨[],[],[],[]⟩ (.ok ws)
def ParEnd (B : Nat) (q : Pg × RS) (e : Ending) (w' : World) : Prop:=∃ v0 v1 v2 v3 c a,e = .returned (.tuple #[.agg #[v0,v1,v2,v3],.int .i64 c,.int .i64 a]) ∧
 (∀ t,q.2 = .ok t → c = 0 ∧ a = 0 ∧ ∃ rf rt,PRows B w' q.1 v0 v1 v2 v3 rf rt) ∧ (∀ c' a',q.2 = .bad c' a' → c = c' ∧ a = (a' : Int) ∧ c ≠ 0 ∧ v0 = .slice none 0 0 ∧ v1 = .slice none 0 0 ∧ v2 = .slice none 0 0 ∧ v3 = .slice none 0 0)
def PgBlk (X : World) (n : Nat) (p0 p1 p2 p3 : Value) : Prop:=X.heap[n]? = some (.cells #[p0,p1,p2,p3] 29 (0,0))
section
variable {X Y : World} {n : Nat} {p0 p1 p2 p3 : Value}
theorem PgBlk.facts (h : PgBlk X n p0 p1 p2 p3) : n < X.heap.size ∧ (X.cell? ⟨n,0,none⟩ = some p0 ∧ X.cell? ⟨n,1,none⟩ = some p1 ∧ X.cell? ⟨n,2,none⟩ = some p2 ∧ X.cell? ⟨n,3,none⟩ = some p3) ∧ (X.frozen? ⟨n,0,none⟩ = false ∧ X.frozen? ⟨n,1,none⟩ = false ∧ X.frozen? ⟨n,2,none⟩ = false ∧ X.frozen? ⟨n,3,none⟩ = false):=by
 refine ⟨(Array.getElem?_eq_some_iff.1 h).1,⟨?_,?_,?_,?_⟩,frozen_of_row X n _ _ _ h,frozen_of_row X n _ _ _ h,frozen_of_row X n _ _ _ h,frozen_of_row X n _ _ _ h⟩ <;> rw [cell_of_row _ _ _ _ _ _ h] <;> rfl
theorem PgBlk.new (hn : n = X.heap.size) : PgBlk (X.alloc (.cells #[p0,p1,p2,p3] 29)) n p0 p1 p2 p3:=hn ▸ heap_alloc_new X _
theorem PgBlk.of (h : PgBlk X n p0 p1 p2 p3) (hf : Y.heap[n]? = X.heap[n]?) : PgBlk Y n p0 p1 p2 p3:=hf.trans h
theorem PgBlk.all (h : PgBlk X n p0 p1 p2 p3) (q0 q1 q2 q3 : Value) : PgBlk ((((X.setCell ⟨n,0,none⟩ q0).setCell ⟨n,1,none⟩ q1).setCell ⟨n,2,none⟩ q2).setCell ⟨n,3,none⟩ q3) n q0 q1 q2 q3 :=
 heap_setCell_same _ n 3 _ _ _ (heap_setCell_same _ n 2 _ _ _ (heap_setCell_same _ n 1 _ _ _ (heap_setCell_same X n 0 _ _ _ h)))
theorem results_pg {fn : Func} {p q r : Tmp} (hfn : fn.results = #[.cell p 29,.tmp q,.tmp r]) (tmps : Array Value) (u u' : Value) (hp : tmps.getD p undef = .pointer (some ⟨n,0,none⟩)) (hq : tmps.getD q undef = u) (hr : tmps.getD r undef = u') (h : PgBlk X n p0 p1 p2 p3) :
 (results fn tmps).run Try.prog X = .ok (.tuple #[.agg #[p0,p1,p2,p3],u,u']) X:=by
 have hp' : tmps[p]?.getD undef = .pointer (some ⟨n,0,none⟩):=by simpa using hp
 have hq' : tmps[q]?.getD undef = u:=by simpa using hq
 have hr' : tmps[r]?.getD undef = u':=by simpa using hr
 simp [results,hfn,hp',hq',hr',asAddr,run_loadVar_row X n 29 29 _ (0,0) _ h Try.underlying29 rfl (by kernel_rfl)]
end
theorem PRows.stay {B : Nat} {W X : World} {p : Pg} {v0 v1 v2 v3 : Value} {rf : List (Fn × FV)} {rt : List (List Stm × Value)} (R : PRows B W p v0 v1 v2 v3 rf rt) (hb : Below W.heap.size W X) : PRows B X p v0 v1 v2 v3 rf rt:=by
 have hk : KeptT B W X:=⟨hb.size,fun g _ _ _ _ hg _ => hb.block g (Array.getElem?_eq_some_iff.1 hg).1⟩
 exact ⟨own_below R.g hb,own_below R.l hb,own_below R.f hb,own_below R.t hb,R.ef,R.et,fun q hq => (R.xf q hq).keptT hk,fun q hq => (R.xt q hq).keptT hk⟩
theorem own_keptB {B T k n : Nat} {W X : World} {v : Value} {xs : List Value} (h : W.ownsRow B T k v n xs) (hk : ∀ g,B ≤ g → g < W.heap.size → X.heap[g]? = W.heap[g]?) : X.ownsRow B T k v n xs:=by
 refine ⟨h.1,?_⟩
 rcases h.2 with h0 | ⟨g,cap,cur,rfl,hb,hg,rest⟩
 · exact .inl h0
 · exact .inr ⟨g,cap,cur,rfl,hb,(hk g hb (Array.getElem?_eq_some_iff.1 hg).1).trans hg,rest⟩
theorem own_lower {B B' T k n : Nat} {W : World} {v : Value} {xs : List Value} (h : W.ownsRow B T k v n xs) (hl : B' ≤ B) : W.ownsRow B' T k v n xs:=by
 refine ⟨h.1,?_⟩
 rcases h.2 with h0 | ⟨g,cap,cur,rfl,hb,rest⟩
 · exact .inl h0
 · exact .inr ⟨g,cap,cur,rfl,Nat.le_trans hl hb,rest⟩
theorem PRows.keptB {B : Nat} {W X : World} {p : Pg} {v0 v1 v2 v3 : Value} {rf : List (Fn × FV)} {rt : List (List Stm × Value)} (R : PRows B W p v0 v1 v2 v3 rf rt) (hk : ∀ g,B ≤ g → g < W.heap.size → X.heap[g]? = W.heap[g]?) (hs : W.heap.size ≤ X.heap.size) : PRows B X p v0 v1 v2 v3 rf rt:=by
 have hT : KeptT B W X:=⟨hs,fun g _ _ _ hg hb _ => hk g hg (Array.getElem?_eq_some_iff.1 hb).1⟩
 exact ⟨own_keptB R.g hk,own_keptB R.l hk,own_keptB R.f hk,own_keptB R.t hk,R.ef,R.et,fun q hq => (R.xf q hq).keptT hT,fun q hq => (R.xt q hq).keptT hT⟩
theorem PRows.lower {B B' : Nat} {W : World} {p : Pg} {v0 v1 v2 v3 : Value} {rf : List (Fn × FV)} {rt : List (List Stm × Value)} (R : PRows B W p v0 v1 v2 v3 rf rt) (hl : B' ≤ B) : PRows B' W p v0 v1 v2 v3 rf rt :=
 ⟨own_lower R.g hl,own_lower R.l hl,own_lower R.f hl,own_lower R.t hl,R.ef,R.et,fun q hq => (R.xf q hq).low hl,fun q hq => (R.xt q hq).lo hl⟩
def PRel (B : Nat) (ws : List Wd) (wr : World) (σ : RS) (m : Nat) (p : Pg) (v0 v1 v2 v3 : Value) : Prop :=
 parF ws = wholeF (3 * ws.length + 2) m p σ ∧ ∀ t,σ = .ok t → (∃ rf rt,PRows B wr p v0 v1 v2 v3 rf rt) ∧ t.length < m ∧ p.gs.length + t.length ≤ ws.length ∧ p.ls.length + t.length ≤ ws.length ∧ p.fs.length + t.length ≤ ws.length ∧ p.ths.length + t.length ≤ ws.length
theorem whole_stop {n m : Nat} {p : Pg} {x : Wd} {tt : List Wd} (h : x.k = 3) : wholeF n m p (.ok (x :: tt)) = (p,.ok (x :: tt)):=by
 cases m with
 | zero => rfl
 | succ m => simp [wholeF,RS.hd,h]
theorem whole_bad {n m : Nat} {p : Pg} {c : Int} {a : Nat} : wholeF n m p (.bad c a) = (p,.bad c a):=by
 cases m with
 | zero => rfl
 | succ m => simp [wholeF,RS.good]
theorem whole_more {n m : Nat} {p : Pg} {x : Wd} {tt : List Wd} (h : x.k ≠ 3) : wholeF n (m + 1) p (.ok (x :: tt)) = wholeF n m (thingF n p (.ok (x :: tt))).1 (thingF n p (.ok (x :: tt))).2:=by
 simp [wholeF,RS.hd,RS.good,h]
theorem below_set4 {w X : World} (h : Below w.heap.size w X) (q0 q1 q2 q3 : Value) : Below w.heap.size w ((((X.setCell ⟨w.heap.size,0,none⟩ q0).setCell ⟨w.heap.size,1,none⟩ q1).setCell ⟨w.heap.size,2,none⟩ q2).setCell ⟨w.heap.size,3,none⟩ q3) :=
 (((h.setCell (p:=⟨w.heap.size,0,none⟩) (Nat.le_refl _) _).setCell (p:=⟨w.heap.size,1,none⟩) (Nat.le_refl _) _).setCell (p:=⟨w.heap.size,2,none⟩) (Nat.le_refl _) _).setCell (p:=⟨w.heap.size,3,none⟩) (Nat.le_refl _) _
theorem rfield_k (x0 x1 x2 x3 : Value) (w : World) : (Instr.field 82 (.agg #[x0,x1,x2,x3]) 0).run Try.prog w = .ok x0 w:=by
 simp [Instr.field,run_underlying Try.underlying82,part,asAgg,Try.isAgg3]
theorem r4_parse (s : ByteArray) (w : World) (hs : s.size ≤ 16384) (ws : List Wd) (hS : Hid (Sc numO s.data.toList 0 ws none)) :
 Calls Try.prog 7 #[.string s] w fun e w' => ParEnd w.heap.size (parF ws) e w' ∧ Below w.heap.size w w':=by
 have hfin : Fin ws:=hS.out.fin rfl
 have hfew : ws.length ≤ 16385:=by (have:=hS.out.few rfl;have e : s.data.toList.length = s.size:=(by simp);omega)
 have hlong : Hid (∀ x ∈ ws,x.t.length ≤ 100000):=hid fun x hx => by (have:=hS.out.short x hx;have e : s.data.toList.length = s.size:=(by simp);omega)
 have HK:=hid hS.out.kok
 have HF:=hid hfin
 clear hfin
 go_enter Try.func7,Try.ntmps7
 go_upto_region 4 with (go_at_call 22;(with_reducible refine (rwords_ok s _ hs ws hS).mono ?_);rintro e1 w1 ⟨⟨g,cap,rfl,ho1⟩,hb1⟩)
 have B1 : Hid (Below w.heap.size w w1):=hid ((((Below.refl w.heap.size w).alloc (Nat.le_refl _) _)).trans (hb1.mono (by simp)))
 have GP1 : Hid (PgBlk w1 w.heap.size (.slice none 0 0) (.slice none 0 0) (.slice none 0 0) (.slice none 0 0)):=hid ((PgBlk.new rfl).of (hb1.block _ (by simp)))
 obtain ⟨hwc,hgB,_⟩:=own_wcellsR ho1
 have hgB' : w.heap.size + 1 ≤ g:=by simpa using hgB
 have HWC:=hid hwc
 have hgl:=hwc.lt
 clear hwc hgB ho1 hb1
 obtain ⟨hgp,_⟩:=GP1.out.facts
 have hz1 : w.heap.size < w1.heap.size:=hgp
 clear hgp
 go_wp2
 refine name_world ?_
 intro W2 hW2
 have R2 : RrAt W2 w1.heap.size (.slice (some ⟨g,0,none⟩) ws.length cap) ((0 : Nat) : Int) 0 0 0:=by (rw [hW2];exact (RrAt.alloc (W:=w1.alloc _) (heap_alloc_new _ _) _))
 have hz2 : W2.heap.size = w1.heap.size + 2:=by (rw [hW2];simp)
 have BW2 : Below w1.heap.size w1 W2:=by (rw [hW2];exact ((Below.refl _ _).alloc (Nat.le_refl _) _).alloc (by simp) _)
 have S2 : Hid (A4 W2 (w1.heap.size + 1) w1.heap.size g cap ws ((0 : Nat) : Int) (.slice none 0 0) (.slice none 0 0) (.slice none 0 0) (.slice none 0 0) (.ok ws)):=hid
  ⟨by (rw [hW2];exact alloc2_new _ _ _),StR.mk_ok R2 (by simp) (List.suffix_refl _) HF.out,⟨HWC.out.kept (fun k e => BW2.block k (by rw [e];exact hgl)) BW2.size,by omega,by omega,hlong.out,HK.out⟩,by omega,by omega⟩
 have HB2:=hid BW2
 have HP2 : Hid (PRel (w1.heap.size + 2) ws W2 (.ok ws) (ws.length + 1) ⟨[],[],[],[]⟩ (.slice none 0 0) (.slice none 0 0) (.slice none 0 0) (.slice none 0 0)):=hid ⟨rfl,fun t e => by
  cases e
  exact ⟨⟨[],[],PRows.nil _ _⟩,by omega,by simp,by simp,by simp,by simp⟩⟩
 clear hW2 R2 BW2
 go_loopw [] (fun wr => ∃ σ p v0 v1 v2 v3 m,A4 wr (w1.heap.size + 1) w1.heap.size g cap ws ((0 : Nat) : Int) v0 v1 v2 v3 σ ∧ Low (w1.heap.size + 1) w1.heap.size (w1.heap.size + 2) W2 wr ∧ PRel (w1.heap.size + 2) ws wr σ m p v0 v1 v2 v3) (fun wr => msR wr w1.heap.size ws.length)
 case atStart => exact ⟨_,_,_,_,_,_,_,S2.out,⟨⟨Nat.le_refl _,rfl,rfl,rfl⟩,fun _ _ _ _ => rfl⟩,HP2.out⟩
 case round =>
  obtain ⟨σ,p,v0,v1,v2,v3,m,hS,hL,hR1,hR2⟩:=hrel
  have hPB : PgBlk wr w.heap.size (.slice none 0 0) (.slice none 0 0) (.slice none 0 0) (.slice none 0 0):=(GP1.out.of (HB2.out.block _ (by omega))).of (hL.2 _ (by omega) (by omega) (by omega))
  have hBel : Hid (∀ X,Below wr.heap.size wr X → Below w.heap.size w X):=hid fun X hX => by
   have h1:=B1.out
   have h2:=HB2.out
   refine ⟨hX.os.trans (hL.1.2.1.trans (h2.os.trans h1.os)),hX.tape.trans (hL.1.2.2.1.trans (h2.tape.trans h1.tape)),hX.output.trans (hL.1.2.2.2.trans (h2.output.trans h1.output)),by (have:=hX.size;have:=hL.1.1;omega),fun k hk => ?_⟩
   have hl:=hL.1.1
   rw [hX.block k (by omega),hL.2 k (by omega) (by omega) (by omega),h2.block k (by omega),h1.block k hk]
  have S1:=hid hS
  have HPB:=hid hPB
  have HL:=hid hL
  have HR1:=hid hR1
  have HR2:=hid hR2
  cases σ with
  | bad c a =>
   have hw2 : parF ws = (p,.bad c a):=by (rw [hR1,whole_bad])
   have HW2:=hid hw2
   clear hS hPB hL hR1 hR2 hw2
   go_upto_region 8 with (first
    | (go_at_call 23;(with_reducible refine (r4_ok S1 false rfl).mono ?_);rintro e1 x1 ⟨rfl,hb1⟩;have T1:=hid (S1.out.stay hb1))
    | (go_at_call 23;(with_reducible refine (r4_ok T1 false rfl).mono ?_);rintro e2 x2 ⟨rfl,hb2⟩;have T2:=hid (T1.out.stay hb2)))
   have hPB2 : PgBlk x2 w.heap.size (.slice none 0 0) (.slice none 0 0) (.slice none 0 0) (.slice none 0 0):=(HPB.out.of (hb1.block _ HPB.out.facts.1)).of (hb2.block _ (Nat.lt_of_lt_of_le HPB.out.facts.1 hb1.size))
   have HPB2:=hid hPB2
   obtain ⟨gpl,⟨pc0,pc1,pc2,pc3⟩,pf0,pf1,pf2,pf3⟩:=hPB2.facts
   obtain ⟨hc0,i,hi,hrr⟩ : c ≠ 0 ∧ ∃ i : Nat,i < ws.length ∧ RrAt x2 w1.heap.size (.slice (some ⟨g,0,none⟩) ws.length cap) i 0 c a:=T2.out.st
   obtain ⟨q0,q1,q2,q3,q4⟩:=hrr.cells
   have hrl:=hrr.lt
   obtain ⟨m0,m1,m2,m3,m4,m5⟩:=T2.out.at4.cells
   have ml:=T2.out.at4.lt
   have HBB:=hid (hBel.out x2 (below_dual hb1 hb2))
   have HC0:=hid hc0
   clear hPB2 hrr hb1 hb2 hc0 hi
   go_region
   all_goals go_wp2
   all_goals refine bodyPost_ret (results_pg rfl _ (.int .i64 c) (.int .i64 a) rfl rfl rfl (PgBlk.all (X:=x2) HPB2.out _ _ _ _)) rfl ⟨⟨_,_,_,_,c,(a : Int),rfl,?_,?_⟩,?_⟩
   · intro t ht
     rw [HW2.out] at ht
     cases ht
   · intro c' a' h
     rw [HW2.out] at h
     cases h
     exact ⟨rfl,rfl,HC0.out,rfl,rfl,rfl,rfl⟩
   · first | exact below_set4 HBB.out _ _ _ _ | exact below_set4 HBB.out.drew _ _ _ _ | exact below_set4 (below_drewN HBB.out _) _ _ _ _
  | ok t =>
   obtain ⟨x,tt,rfl⟩:=hS.st.2.1.ne
   have hfd:=rfield_k
   cases hx : (x.k != 3) with
   | false =>
    have hx3 : x.k = 3:=by simpa using hx
    have hw2 : parF ws = (p,.ok (x :: tt)):=by (rw [hR1,whole_stop hx3])
    obtain ⟨⟨rf,rt,hPR⟩,_⟩:=hR2 _ rfl
    obtain ⟨z0,y0,rfl⟩:=own_form hPR.g
    obtain ⟨z1,y1,rfl⟩:=own_form hPR.l
    obtain ⟨z2,y2,rfl⟩:=own_form hPR.f
    obtain ⟨z3,y3,rfl⟩:=own_form hPR.t
    have HW2:=hid hw2
    have HPR:=hid hPR
    clear hS hPB hL hR1 hR2 hw2 hPR
    go_upto_region 9 with (first
     | (go_at_call 23;(with_reducible refine (r4_ok S1 true rfl).mono ?_);rintro e1 x1 ⟨rfl,hb1⟩;have T1:=hid (S1.out.stay hb1))
     | (go_at_call 24;(with_reducible refine (r4_wordOk T1).mono ?_);rintro e2 x2 ⟨rfl,hb2⟩;have T2:=hid (T1.out.stay hb2))
     | (go_at_call 23;(with_reducible refine (r4_ok T2 true rfl).mono ?_);rintro e3 x3 ⟨rfl,hb3⟩;have T3:=hid (T2.out.stay hb3)))
    have hPB2 : PgBlk x3 w.heap.size (.slice none 0 0) (.slice none 0 0) (.slice none 0 0) (.slice none 0 0):=((HPB.out.of (hb1.block _ HPB.out.facts.1)).of (hb2.block _ (Nat.lt_of_lt_of_le HPB.out.facts.1 hb1.size))).of (hb3.block _ (Nat.lt_of_lt_of_le HPB.out.facts.1 (Nat.le_trans hb1.size hb2.size)))
    have HPB2:=hid hPB2
    obtain ⟨gpl,⟨pc0,pc1,pc2,pc3⟩,pf0,pf1,pf2,pf3⟩:=hPB2.facts
    obtain ⟨m0,m1,m2,m3,m4,m5⟩:=T3.out.at4.cells
    have ml:=T3.out.at4.lt
    have hB3:=below_dual (below_dual hb1 hb2) hb3
    have HBB:=hid (hBel.out x3 hB3)
    have HPR3:=hid (HPR.out.stay hB3)
    clear hPB2 hb1 hb2 hb3 hB3
    go_wp2
    refine bodyPost_ret (results_pg rfl _ (.int .i64 0) (.int .i64 0) rfl rfl rfl (PgBlk.all (X:=x3) HPB2.out _ _ _ _)) rfl ⟨⟨_,_,_,_,0,0,rfl,?_,?_⟩,?_⟩
    · intro t ht
      rw [HW2.out] at ht ⊢
      refine ⟨rfl,rfl,rf,rt,(HPR3.out.keptB (fun g hg hl => ?_) (by simp)).lower (by omega)⟩
      rw [heap_setCell_other _ ⟨w.heap.size,3,none⟩ g _ (by simp;omega),heap_setCell_other _ ⟨w.heap.size,2,none⟩ g _ (by simp;omega),heap_setCell_other _ ⟨w.heap.size,1,none⟩ g _ (by simp;omega),heap_setCell_other _ ⟨w.heap.size,0,none⟩ g _ (by simp;omega)]
    · intro c' a' h
      rw [HW2.out] at h
      cases h
    · exact below_set4 HBB.out _ _ _ _
   | true =>
    have hx3 : x.k ≠ 3:=by simpa using hx
    obtain ⟨⟨rf,rt,hPR⟩,hm,h1,h2,h3,h4⟩:=hR2 _ rfl
    have HPR:=hid hPR
    have HM:=hid (And.intro hm (And.intro h1 (And.intro h2 (And.intro h3 h4))))
    have HLEN : Hid ((p.gs.length ≤ 1000000 ∧ p.ls.length ≤ 1000000 ∧ p.fs.length ≤ 1000000 ∧ p.ths.length ≤ 1000000) ∧ 3 * tt.length + 2 ≤ 3 * ws.length + 2):=hid (by (simp only [List.length_cons] at h1 h2 h3 h4;refine ⟨⟨?_,?_,?_,?_⟩,?_⟩ <;> omega))
    clear hS hPB hL hR1 hR2 hPR hm h1 h2 h3 h4
    go_wp2_with (first
     | (go_at_call 23;(with_reducible refine (r4_ok S1 true rfl).mono ?_);rintro e1 x1 ⟨rfl,hb1⟩;have T1:=hid (S1.out.stay hb1))
     | (go_at_call 24;(with_reducible refine (r4_wordOk T1).mono ?_);rintro e2 x2 ⟨rfl,hb2⟩;have T2:=hid (T1.out.stay hb2);have HB12:=hid (below_dual hb1 hb2);have hsz2 : w1.heap.size + 2 ≤ x2.heap.size:=Nat.le_trans (by (have:=HL.out.1.1;omega)) HB12.out.size)
     | (go_at_call 25;(with_reducible refine (rth_any T2.out (HPR.out.stay HB12.out) ⟨by omega,by omega,by omega,hsz2⟩ HLEN.out.1 hx3 HLEN.out.2).mono ?_);rintro e3 x3 ⟨rfl,hlow3,q0,q1,q2,q3,hs3,hrow3⟩))
    refine ⟨⟨_,(thingF (3 * ws.length + 2) p (.ok (x :: tt))).1,q0,q1,q2,q3,m - 1,hs3,?_,?_,?_⟩,?_⟩
    · refine HL.out.trans (Low.trans ⟨⟨HB12.out.size,HB12.out.os,HB12.out.tape,HB12.out.output⟩,fun b hb _ _ => HB12.out.block b (by (have:=HL.out.1.1;omega))⟩ hlow3)
    · obtain ⟨m',rfl⟩ : ∃ m',m = m' + 1:=⟨m - 1,by (have:=HM.out.1;omega)⟩
      rw [HR1.out,whole_more hx3]
      rfl
    · intro t ht
      have hle:=(thing_le (3 * ws.length + 2) p (fun t e => by (cases e;exact S1.out.st.2.1)) hx3).1
      obtain ⟨g1,g2,g3,g4⟩:=thing_more (3 * ws.length + 2) p (.ok (x :: tt))
      obtain ⟨hm,h1,h2,h3,h4⟩:=HM.out
      have hlt : t.length ≤ tt.length:=by (rw [ht] at hle;exact hle)
      simp only [List.length_cons] at hm h1 h2 h3 h4
      exact ⟨hrow3 t ht,by omega,by omega,by omega,by omega,by omega⟩
    · have hle:=(thing_le (3 * ws.length + 2) p (fun t e => by (cases e;exact S1.out.st.2.1)) hx3).1
      rw [hs3.st.ms,S1.out.st.ms]
      have hle' : (thingF (3 * ws.length + 2) p (.ok (x :: tt))).2.len ≤ tt.length:=hle
      cases hq : (thingF (3 * ws.length + 2) p (.ok (x :: tt))).2 with
      | ok t2 => rw [hq] at hle';simp only [RS.ms,RS.len,List.length_cons] at hle' ⊢;omega
      | bad c a => simp only [RS.ms,List.length_cons];omega
theorem rwords_long (s : ByteArray) (w : World) (hs : 16384 < s.size) :
 Calls Try.prog 22 #[.string s] w fun e w' => e = .returned (.tuple #[.slice none 0 0,.int .i64 2,.int .i64 0]) ∧ Below w.heap.size w w':=by
 have h1 : decide ((s.size : Int) > 16384) = true:=by simp;omega
 go_enter Try.func22,Try.ntmps22
 go_wp2
 go_ret3
 exact ⟨rfl,by (refine Fr.below ?_;(with_reducible repeat first | exact Fr.refl _ _ | refine Fr.alloc ?_ _ | refine Fr.drewN ?_ _ | refine Fr.drew ?_ | (refine Fr.set ?_ ?_ _ _;rotate_left;first | exact .inl rfl | (right;simp;done) | (right;simp;omega) | (right;omega)) | refine Fr.step ?_ (by assumption) | refine Fr.stepB ?_ (by assumption)))⟩
theorem r4_parse_no (s : ByteArray) (w : World) (e0 a0 : Int) (he : e0 ≠ 0) (hW : ∀ W,Calls Try.prog 22 #[.string s] W fun e w' => e = .returned (.tuple #[.slice none 0 0,.int .i64 e0,.int .i64 a0]) ∧ Below W.heap.size W w') :
 Calls Try.prog 7 #[.string s] w fun e w' => e = .returned (.tuple #[.agg #[.slice none 0 0,.slice none 0 0,.slice none 0 0,.slice none 0 0],.int .i64 e0,.int .i64 a0]) ∧ Below w.heap.size w w':=by
 have HW:=hid hW
 have k : (e0 != 0) = true:=by simpa using he
 clear hW he
 go_enter Try.func7,Try.ntmps7
 go_upto_region 3 with (go_at_call 22;(with_reducible refine (HW.out _).mono ?_);rintro e1 w1 ⟨rfl,hb1⟩)
 have B1 : Hid (Below w.heap.size w w1):=hid ((((Below.refl w.heap.size w).alloc (Nat.le_refl _) _)).trans (hb1.mono (by simp)))
 have GP1 : Hid (PgBlk w1 w.heap.size (.slice none 0 0) (.slice none 0 0) (.slice none 0 0) (.slice none 0 0)):=hid ((PgBlk.new rfl).of (hb1.block _ (by simp)))
 obtain ⟨gpl,⟨pc0,pc1,pc2,pc3⟩,pf0,pf1,pf2,pf3⟩:=GP1.out.facts
 clear hb1
 go_wp2
 exact bodyPost_ret (results_pg rfl _ (.int .i64 e0) (.int .i64 a0) rfl rfl rfl (PgBlk.all (X:=w1) GP1.out _ _ _ _)) rfl ⟨rfl,below_set4 B1.out _ _ _ _⟩
theorem r4_parse_any (s : ByteArray) (w : World) :
 Calls Try.prog 7 #[.string s] w fun e w' => Below w.heap.size w w' ∧ ∃ v0 v1 v2 v3 c a,e = .returned (.tuple #[.agg #[v0,v1,v2,v3],.int .i64 c,.int .i64 a]) ∧
  ((c ≠ 0 ∧ v0 = .slice none 0 0 ∧ v1 = .slice none 0 0 ∧ v2 = .slice none 0 0 ∧ v3 = .slice none 0 0) ∨ (c = 0 ∧ s.size ≤ 16384 ∧ ∃ ws p t rf rt,Sc numO s.data.toList 0 ws none ∧ parF ws = (p,.ok t) ∧ PRows w.heap.size w' p v0 v1 v2 v3 rf rt)):=by
 by_cases hs : s.size ≤ 16384
 · obtain ⟨ws,r,hS⟩:=Sc.total numO s.data.toList.length s.data.toList 0 (Nat.le_refl _)
   cases r with
   | none =>
    refine (r4_parse s w hs ws (hid hS)).mono ?_
    rintro e w' ⟨⟨v0,v1,v2,v3,c,a,rfl,h1,h2⟩,hb⟩
    refine ⟨hb,v0,v1,v2,v3,c,a,rfl,?_⟩
    obtain ⟨⟨p,σ⟩,hq⟩ : ∃ q,parF ws = q:=⟨_,rfl⟩
    rw [hq] at h1 h2
    cases σ with
    | ok t =>
     obtain ⟨e1,_,rf,rt,h3⟩:=h1 t rfl
     exact .inr ⟨e1,hs,ws,p,t,rf,rt,hS,hq,h3⟩
    | bad c' a' =>
     obtain ⟨_,_,e1,e2⟩:=h2 c' a' rfl
     exact .inl ⟨e1,e2⟩
   | some q =>
    obtain ⟨e0,a0⟩:=q
    have he : e0 ≠ 0:=by rcases hS.bad_code e0 a0 rfl with h | h <;> omega
    refine (r4_parse_no s w e0 a0 he fun W => rwords_err s W hs ws e0 a0 (hid hS)).mono ?_
    rintro e w' ⟨rfl,hb⟩
    exact ⟨hb,_,_,_,_,_,_,rfl,.inl ⟨he,rfl,rfl,rfl,rfl⟩⟩
 · refine (r4_parse_no s w 2 0 (by decide) fun W => rwords_long s W (by omega)).mono ?_
   rintro e w' ⟨rfl,hb⟩
   exact ⟨hb,_,_,_,_,_,_,rfl,.inl ⟨by decide,rfl,rfl,rfl,rfl⟩⟩
end Go.Proofs.Ytbmmjomcjlpnlaa
namespace Go.Proofs.Ytbmmjomcjlpnlaa
open Go Go.RowKit Go.ChangeMaps Go.MapKept Go.WideElems Go.Maps
abbrev IF : Type:=List UInt8 → Option Int
def IF.kf (f : IF) : KF:=fun t => (f t).map (Value.int .i64)
def IF.upd (f : IF) (s : List UInt8) (a : Int) : IF:=fun t => if t = s then some a else f t
def fstep (f : IF) (x : ByteArray × Int) : IF:=match f x.1.data.toList with
 | none => f.upd x.1.data.toList x.2
 | some a => if x.2 < a then f.upd x.1.data.toList x.2 else f
def lstep (f : IF) (st : Int × Bool) (x : ByteArray × Int) : Int × Bool:=if (f x.1.data.toList).getD 0 < x.2 ∧ (st.2 = false ∨ x.2 < st.1) then (x.2,true) else st
def firstF (l : List (ByteArray × Int)) : IF:=l.foldl fstep fun _ => none
def twiceF (l : List (ByteArray × Int)) : Int × Bool:=l.foldl (lstep (firstF l)) (0,false)
theorem IF.kf_upd (f : IF) (s : List UInt8) (a : Int) : (f.upd s a).kf = f.kf.upd s (.int .i64 a):=by
 funext t
 unfold IF.kf IF.upd KF.upd
 by_cases e : t = s <;> simp [e]
theorem zeroInt (W : World) : (zeroValue 3).run Try.prog W = .ok (.int .i64 0) W:=by kernel_rfl
section
variable {W : World} {b n : Nat} {f : KF}
theorem KMap.look_ok (h : KMap W b n f) {s : ByteArray} (hs : s.size ≤ maxLen) : (Instr.lookup 132 (.map (some b)) (.string s) true).run Try.prog W = .ok (.tuple #[(f s.data.toList).getD (.int .i64 0),.bool (f s.data.toList).isSome]) W:=by
 obtain ⟨D,h1,h2⟩:=h
 obtain ⟨v,ps,hr,hv⟩:=h1.look_ok keyedM Try.underlying132 (zeroInt W) (zd:=.held (.int .i64 0)) (zp:=[]) rfl (keyOfS hs)
 rw [h2] at hv
 cases hf : f s.data.toList with
 | none =>
  rw [hf] at hv
  have e : v = .int .i64 0:=(by simpa [RV] using hv : _ ∧ _).1
  have hh : Maps.has D (.string s.data.toList) = false:=Maps.has_false_of_atKey fun z => by rw [h2,hf]
  rw [hr,hh,e]
  rfl
 | some u =>
  rw [hf] at hv
  have e : v = u:=(by simpa [RV] using hv : _ ∧ _).1
  have hh : Maps.has D (.string s.data.toList) = true:=Maps.has_true_of_atKey (y:=.held u) fun z => by rw [h2,hf]
  rw [hr,hh,e]
  rfl
theorem KMap.look_int (h : KMap W b n f) {s : ByteArray} (hs : s.size ≤ maxLen) : (Instr.lookup 132 (.map (some b)) (.string s) false).run Try.prog W = .ok ((f s.data.toList).getD (.int .i64 0)) W:=by
 obtain ⟨D,h1,h2⟩:=h
 obtain ⟨v,ps,hr,hv⟩:=h1.lookup keyedM Try.underlying132 (zeroInt W) (zd:=.held (.int .i64 0)) (zp:=[]) rfl (keyOfS hs)
 rw [h2] at hv
 have e : v = (f s.data.toList).getD (.int .i64 0):=by
  cases hf : f s.data.toList with
  | none =>
   rw [hf] at hv
   exact (by simpa [RV] using hv : _ ∧ _).1
  | some u =>
   rw [hf] at hv
   exact (by simpa [RV] using hv : _ ∧ _).1
 rw [hr,e]
theorem KMap.run_putI (h : KMap W b n f) (hn : n < maxLen) {s : ByteArray} (hs : s.size ≤ maxLen) (val : Value) :
 ∃ w',(Instr.mapUpdate 132 (.map (some b)) (.string s) val).run Try.prog W = .ok () w' ∧ KMap w' b (n + 1) (f.upd s.data.toList val) ∧ W.grownBy w' (some b):=by
 obtain ⟨D,h1,h2⟩:=h
 obtain ⟨w',hrun,r1,r2⟩:=h1.update keyedM Try.underlying132 hn (keyOfS hs) (val:=val) rfl
 exact ⟨w',hrun,⟨_,r1,KMap.put_ h1.isMap h2⟩,r2⟩
end
theorem twice_any {B : Nat} {W : World} {p : Pg} {v0 v1 v2 v3 : Value} {rf : List (Fn × FV)} {rt : List (List Stm × Value)} (R : Hid (PRows B W p v0 v1 v2 v3 rf rt)) (hg : p.gs.length ≤ 1000) (hl : p.ls.length ≤ 1000) (hf : p.fs.length ≤ 1000) (hx : ∀ x ∈ thingsL p,x.1.size ≤ 140737488355328) :
 Calls Try.prog 26 #[.agg #[v0,v1,v2,v3]] W fun e w' => Below W.heap.size W w' ∧ e = .returned (.tuple #[.int .i64 (twiceF (thingsL p)).1,.bool (twiceF (thingsL p)).2]):=by
 obtain ⟨z0,k0,rfl⟩:=own_form R.out.g
 obtain ⟨z1,k1,rfl⟩:=own_form R.out.l
 obtain ⟨z2,k2,rfl⟩:=own_form R.out.f
 obtain ⟨z3,k3,rfl⟩:=own_form R.out.t
 have HT : Hid (∀ X,Below W.heap.size W X → Calls Try.prog 53 #[.agg #[.slice z0 p.gs.length k0,.slice z1 p.ls.length k1,.slice z2 p.fs.length k2,.slice z3 p.ths.length k3]] X fun e w' => Below X.heap.size X w' ∧ ∃ v,e = .returned v ∧ w'.ownsRow X.heap.size 134 2 v (thingsL p).length ((thingsL p).flatMap nmCells)):=hid fun X hX => things_any (hid (R.out.stay hX)) hg hl hf
 obtain ⟨l,hll⟩ : ∃ l,thingsL p = l:=⟨_,rfl⟩
 have hlen : l.length ≤ 3000:=by (rw [← hll];unfold thingsL;simp only [List.length_append,List.length_map];omega)
 rw [hll] at HT hx ⊢
 obtain ⟨n0,hn0⟩ : ∃ n,p.gs.length = n:=⟨_,rfl⟩
 obtain ⟨n1,hn1⟩ : ∃ n,p.ls.length = n:=⟨_,rfl⟩
 obtain ⟨n2,hn2⟩ : ∃ n,p.fs.length = n:=⟨_,rfl⟩
 obtain ⟨n3,hn3⟩ : ∃ n,p.ths.length = n:=⟨_,rfl⟩
 rw [hn0,hn1,hn2,hn3] at HT
 rw [hn0,hn1,hn2,hn3]
 obtain ⟨n,hn⟩ : ∃ n,l.length = n:=⟨_,rfl⟩
 rw [hn] at HT hlen
 have HX:=hid hx
 have HN:=hid hn
 clear hn0 hn1 hn2 hn3 hg hl hf R hll hx hn
 go_enter Try.func26,Try.ntmps26
 go_upto_region 1 with (fail)
 refine name_world ?_
 intro W1 hW1
 have HB1 : Hid (Below W.heap.size W W1):=hid (by (rw [hW1];exact below_of_alloc _ _))
 have hm1 : W1.heap[W.heap.size]? = some (.cells #[.slice z0 n0 k0,.slice z1 n1 k1,.slice z2 n2 k2,.slice z3 n3 k3] 29 (0,0)):=by (rw [hW1];exact heap_alloc_new _ _)
 have hml : W.heap.size < W1.heap.size:=(Array.getElem?_eq_some_iff.1 hm1).1
 have m0 : W1.cell? ⟨W.heap.size,0,none⟩ = some (.slice z0 n0 k0):=cell_of_row _ _ _ _ _ _ hm1
 have m1 : W1.cell? ⟨W.heap.size,1,none⟩ = some (.slice z1 n1 k1):=cell_of_row _ _ _ _ _ _ hm1
 have m2 : W1.cell? ⟨W.heap.size,2,none⟩ = some (.slice z2 n2 k2):=cell_of_row _ _ _ _ _ _ hm1
 have m3 : W1.cell? ⟨W.heap.size,3,none⟩ = some (.slice z3 n3 k3):=cell_of_row _ _ _ _ _ _ hm1
 clear hW1 hm1
 go_upto_region 2 with (go_at_call 53;(with_reducible refine (HT.out _ HB1.out).mono ?_);rintro e1 w2 ⟨hb2,v,rfl,ho2⟩;obtain ⟨zv,cv,rfl⟩:=own_form ho2;have HB2:=hid (below_ch HB1.out hb2);have HO2:=hid ho2;clear hb2 ho2)
 clear m0 m1 m2 m3
 have hmk : (Instr.makeMap 132 none).run Try.prog w2 = .ok (.map (some w2.heap.size)) (w2.alloc (.map #[] 0)):=rfl
 go_upto_region 4 with (fail)
 clear hmk
 refine name_world ?_
 intro W3 hW3
 have HK3 : Hid (KMap W3 w2.heap.size 0 (IF.kf fun _ => none)):=hid (by (rw [hW3];exact KMap.made w2))
 have HA3 : Hid (Below w2.heap.size w2 W3):=hid (by (rw [hW3];exact below_of_alloc _ _))
 have HO3:=hid (own_below HO2.out HA3.out)
 clear hW3
 go_loopw [19] (fun iv wr => ∃ (i : Nat),iv = .int .i64 i ∧ i ≤ n ∧ Below w2.heap.size w2 wr ∧ KMap wr w2.heap.size i (IF.kf ((l.take i).foldl fstep fun _ => none))) (fun iv _ => n - (intOf iv).toNat)
 case atStart => exact ⟨0,rfl,Nat.zero_le _,HA3.out,HK3.out⟩
 case round =>
  obtain ⟨i,rfl,hi,hbr,hkr⟩:=hrel
  have HBR:=hid hbr
  have HKR:=hid hkr
  by_cases hin : i < n
  · obtain ⟨x,hx⟩ : ∃ x,l[i]? = some x:=⟨_,List.getElem?_eq_getElem (by (have:=HN.out;omega))⟩
    have HO5 : Hid (w2.ownsRow W1.heap.size 134 2 (.slice zv n cv) n (l.flatMap nmCells)):=hid HO2.out
    obtain ⟨gx,cx,ez,hgx,_⟩:=row_some HO5.out (show 0 < n by omega)
    cases ez
    have hrw:=own_below HO5.out hbr
    have d0 : wr.cell? ⟨gx,i * 2,none⟩ = some (.string x.1):=plain_cell (K:=2) (f:=nmCells) (fun _ => rfl) hrw hx (j:=0) rfl
    have d1 : wr.cell? ⟨gx,i * 2 + 1,none⟩ = some (.int .i64 x.2):=plain_cell (K:=2) (f:=nmCells) (fun _ => rfl) hrw hx (j:=1) rfl
    have hgw : gx < wr.heap.size:=Nat.lt_of_lt_of_le hgx hbr.size
    have hlt : (i : Int) < (n : Int):=by omega
    have hi0 : (0 : Int) ≤ (i : Int):=Int.natCast_nonneg _
    have HXX:=hid hx
    have hxs : x.1.size ≤ maxLen:=Nat.le_trans (HX.out x (List.mem_of_getElem? hx)) (by decide)
    clear hrw hx hbr hkr HO5
    go_upto_region 6 with (fail)
    clear d0 d1
    refine name_world ?_
    intro W4 hW4
    have hP : W4.heap[wr.heap.size]? = some (.cells #[.string x.1,.int .i64 x.2] 134 (0,0)):=by (rw [hW4];exact heap_alloc_new _ _)
    have HA : Hid (Below wr.heap.size wr W4):=hid (by (rw [hW4];exact below_of_alloc _ _))
    have hpl : wr.heap.size < W4.heap.size:=(Array.getElem?_eq_some_iff.1 hP).1
    have p0 : W4.cell? ⟨wr.heap.size,0,none⟩ = some (.string x.1):=cell_of_row _ _ _ _ _ _ hP
    have p1 : W4.cell? ⟨wr.heap.size,1,none⟩ = some (.int .i64 x.2):=cell_of_row _ _ _ _ _ _ hP
    have hk4:=HKR.out.stay HA.out
    have HK4:=hid hk4
    have HB4:=hid (below_ch HBR.out HA.out)
    have HP:=hid hP
    clear hW4 hP
    have et : ∀ g : IF,(l.take (i + 1)).foldl fstep g = fstep ((l.take i).foldl fstep g) x:=fun g => by rw [List.take_add_one,HXX.out,List.foldl_append];rfl
    have HET:=hid et
    obtain ⟨f,hf⟩ : ∃ f,(l.take i).foldl fstep (fun _ => none) = f:=⟨_,rfl⟩
    have HF:=hid hf
    rw [hf] at hk4 HK4
    have hlk:=hk4.look_ok hxs
    obtain ⟨w5,hrun,hk5,hg5⟩:=hk4.run_putI (by (have : i ≤ 3000:=by omega);exact Nat.lt_of_le_of_lt this (by decide)) hxs (.int .i64 x.2)
    have HK5:=hid hk5
    have HG5:=hid hg5
    have HB5 : Hid (Below w2.heap.size w2 w5):=hid (HB4.out.grown hg5 HB4.out.size (fun k e => by cases e;exact Nat.le_refl _))
    clear et hf hk4 hk5 hg5
    cases ha : f x.1.data.toList with
    | none =>
     have hv : IF.kf f x.1.data.toList = none:=by (unfold IF.kf;rw [ha];rfl)
     rw [hv] at hlk
     simp only [Option.getD_none,Option.isSome_none] at hlk
     clear hv
     have HAA:=hid ha
     clear ha
     go_wp2
     go_roundw
     case rel =>
      refine ⟨i + 1,by go_num,by omega,HB5.out,?_⟩
      rw [HET.out,HF.out]
      unfold fstep
      rw [HAA.out]
      rw [IF.kf_upd]
      exact HK5.out
     case measure =>
      simp [intOf]
      omega
    | some a =>
     have hv : IF.kf f x.1.data.toList = some (.int .i64 a):=by (unfold IF.kf;rw [ha];rfl)
     rw [hv] at hlk
     simp only [Option.getD_some,Option.isSome_some] at hlk
     clear hv
     have HAA:=hid ha
     clear ha
     by_cases hxa : x.2 < a
     · go_wp2
       go_roundw
       case rel =>
        refine ⟨i + 1,by go_num,by omega,HB5.out,?_⟩
        rw [HET.out,HF.out]
        unfold fstep
        rw [HAA.out]
        simp only [hxa,if_true]
        rw [IF.kf_upd]
        exact HK5.out
       case measure =>
        simp [intOf]
        omega
     · go_wp2
       go_roundw
       case rel =>
        refine ⟨i + 1,by go_num,by omega,HB4.out,?_⟩
        rw [HET.out,HF.out]
        unfold fstep
        rw [HAA.out]
        simp only [hxa,if_false]
        exact HK4.out.mono (Nat.le_succ _)
       case measure =>
        simp [intOf]
        omega
  · have hlt : ¬ (i : Int) < (n : Int):=by omega
    obtain rfl : n = i:=by omega
    have et : l.take n = l:=by (rw [← HN.out];exact List.take_length)
    rw [et] at HKR
    clear et hkr hbr
    have hff : (l.foldl fstep fun _ => none) = firstF l:=rfl
    rw [hff] at HKR
    clear hff
    have HBA:=HBR
    have HKA:=HKR
    clear HBR HKR
    obtain ⟨w6,rfl⟩ : ∃ w,w = wr:=⟨_,rfl⟩
    go_upto_region 12 with (fail)
    go_loopw [46,10,11] (fun iv av bv wr => ∃ (i : Nat),iv = .int .i64 i ∧ i ≤ n ∧ Below w6.heap.size w6 wr ∧ av = .int .i64 ((l.take i).foldl (lstep (firstF l)) (0,false)).1 ∧ bv = .bool ((l.take i).foldl (lstep (firstF l)) (0,false)).2) (fun iv _ _ _ => n - (intOf iv).toNat)
    case atStart => exact ⟨0,rfl,Nat.zero_le _,Below.refl _ _,rfl,rfl⟩
    case round =>
     obtain ⟨i,rfl,hi,hbr,rfl,rfl⟩:=hrel
     by_cases hin : i < n
     · obtain ⟨x,hx⟩ : ∃ x,l[i]? = some x:=⟨_,List.getElem?_eq_getElem (by (have:=HN.out;omega))⟩
       have HO5 : Hid (w2.ownsRow W1.heap.size 134 2 (.slice zv n cv) n (l.flatMap nmCells)):=hid HO2.out
       obtain ⟨gx,cx,ez,hgx,_⟩:=row_some HO5.out (show 0 < n by omega)
       cases ez
       have hbq:=below_ch HBA.out hbr
       have hrw:=own_below HO5.out hbq
       have d0 : wr.cell? ⟨gx,i * 2,none⟩ = some (.string x.1):=plain_cell (K:=2) (f:=nmCells) (fun _ => rfl) hrw hx (j:=0) rfl
       have d1 : wr.cell? ⟨gx,i * 2 + 1,none⟩ = some (.int .i64 x.2):=plain_cell (K:=2) (f:=nmCells) (fun _ => rfl) hrw hx (j:=1) rfl
       have hgw : gx < wr.heap.size:=Nat.lt_of_lt_of_le hgx hbq.size
       have hlt : (i : Int) < (n : Int):=by omega
       have hi0 : (0 : Int) ≤ (i : Int):=Int.natCast_nonneg _
       have HXX:=hid hx
       have HBR:=hid hbr
       have hxs : x.1.size ≤ maxLen:=Nat.le_trans (HX.out x (List.mem_of_getElem? hx)) (by decide)
       have HET : Hid ((l.take (i + 1)).foldl (lstep (firstF l)) (0,false) = lstep (firstF l) ((l.take i).foldl (lstep (firstF l)) (0,false)) x):=hid (by rw [List.take_add_one,hx,List.foldl_append];rfl)
       obtain ⟨⟨least,isb⟩,hst⟩ : ∃ q,(l.take i).foldl (lstep (firstF l)) (0,false) = q:=⟨_,rfl⟩
       rw [hst]
       rw [hst] at HET
       clear hrw hx hbr hbq HO5 hst
       go_upto_region 14 with (fail)
       clear d0 d1
       refine name_world ?_
       intro W4 hW4
       have hP : W4.heap[wr.heap.size]? = some (.cells #[.string x.1,.int .i64 x.2] 134 (0,0)):=by (rw [hW4];exact heap_alloc_new _ _)
       have HA : Hid (Below wr.heap.size wr W4):=hid (by (rw [hW4];exact below_of_alloc _ _))
       have hpl : wr.heap.size < W4.heap.size:=(Array.getElem?_eq_some_iff.1 hP).1
       have p0 : W4.cell? ⟨wr.heap.size,0,none⟩ = some (.string x.1):=cell_of_row _ _ _ _ _ _ hP
       have p1 : W4.cell? ⟨wr.heap.size,1,none⟩ = some (.int .i64 x.2):=cell_of_row _ _ _ _ _ _ hP
       have HB4 : Hid (Below w6.heap.size w6 W4):=hid (below_ch HBR.out HA.out)
       have hlk:=(HKA.out.stay HB4.out).look_int hxs
       obtain ⟨fa,hfa⟩ : ∃ fa,(firstF l x.1.data.toList).getD 0 = fa:=⟨_,rfl⟩
       have hv : (IF.kf (firstF l) x.1.data.toList).getD (.int .i64 0) = .int .i64 fa:=by
        rw [← hfa]
        unfold IF.kf
        cases firstF l x.1.data.toList <;> rfl
       rw [hv] at hlk
       have HFA:=hid hfa
       clear hW4 hP hv hfa
       by_cases hc1 : fa < x.2
       · cases isb with
         | false =>
          go_wp2
          go_roundw
          case rel =>
           have e : lstep (firstF l) (least,false) x = (x.2,true):=by (unfold lstep;rw [HFA.out];simp [hc1])
           refine ⟨i + 1,by go_num,by omega,HB4.out,?_,?_⟩
           · rw [HET.out,e]
           · rw [HET.out,e]
          case measure =>
           simp [intOf]
           omega
         | true =>
          by_cases hc2 : x.2 < least
          · go_wp2
            go_roundw
            case rel =>
             have e : lstep (firstF l) (least,true) x = (x.2,true):=by (unfold lstep;rw [HFA.out];simp [hc1,hc2])
             refine ⟨i + 1,by go_num,by omega,HB4.out,?_,?_⟩
             · rw [HET.out,e]
             · rw [HET.out,e]
            case measure =>
             simp [intOf]
             omega
          · go_wp2
            go_roundw
            case rel =>
             have e : lstep (firstF l) (least,true) x = (least,true):=by (unfold lstep;rw [HFA.out];simp [hc2])
             refine ⟨i + 1,by go_num,by omega,HB4.out,?_,?_⟩
             · rw [HET.out,e]
             · rw [HET.out,e]
            case measure =>
             simp [intOf]
             omega
       · go_wp2
         go_roundw
         case rel =>
          have e : lstep (firstF l) (least,isb) x = (least,isb):=by (unfold lstep;rw [HFA.out];simp [hc1])
          refine ⟨i + 1,by go_num,by omega,HB4.out,?_,?_⟩
          · rw [HET.out,e]
          · rw [HET.out,e]
         case measure =>
          simp [intOf]
          omega
     · have hlt : ¬ (i : Int) < (n : Int):=by omega
       obtain rfl : n = i:=by omega
       have et : l.take n = l:=by (rw [← HN.out];exact List.take_length)
       rw [et]
       have hbw:=below_ch HB2.out (below_ch HBA.out hbr)
       have HBW:=hid hbw
       have hq : l.foldl (lstep (firstF l)) (0,false) = twiceF l:=rfl
       rw [hq]
       obtain ⟨⟨qa,qb⟩,hqq⟩ : ∃ q,twiceF l = q:=⟨_,rfl⟩
       rw [hqq]
       have HQQ:=hid hqq
       clear et hbw hbr hq hqq
       go_wp2
       go_ret2
       refine ⟨HBW.out,?_⟩
       rw [HQQ.out]
       rfl
end Go.Proofs.Ytbmmjomcjlpnlaa
namespace Go.Proofs.Ytbmmjomcjlpnlaa
open Go Go.RowKit
theorem below_tr {B : Nat} {W X Y : World} (h : Below B W X) (k : Below B X Y) : Below B W Y:=⟨k.os.trans h.os,k.tape.trans h.tape,k.output.trans h.output,Nat.le_trans h.size k.size,fun i hi => (k.block i hi).trans (h.block i hi)⟩
theorem neq_thing (x : Option Th) (W : World) : (binOp .neq 20 ((x.map Th.val).getD .nilIface) .nilIface).run Try.prog W = .ok (.bool x.isSome) W:=by
 cases x with
 | none =>
  have h:=run_eql_nil_nil (P:=Try.prog) W 20 (by kernel_rfl)
  simp only [binOp] at h ⊢
  simp [run_equal_nil_nil (P:=Try.prog) W 20 (by kernel_rfl)]
 | some x =>
  obtain ⟨T,v,e⟩ : ∃ T v,x.val = .iface T v:=by (cases x <;> exact ⟨_,_,rfl⟩)
  simp only [Option.map_some,Option.getD_some,e,binOp]
  simp [run_equal_held_nil (P:=Try.prog) W 20 T v (by kernel_rfl)]
theorem eqg_thing (op : BinOp) (x : Option Th) (a : Operand) (W : World) : (eqGuard op 20 a (.const .nilIface) ((x.map Th.val).getD .nilIface) .nilIface).run Try.prog W = .ok () W:=by
 cases x with
 | none => cases op <;> simp [eqGuard]
 | some x =>
  obtain ⟨T,v,e⟩ : ∃ T v,x.val = .iface T v:=by (cases x <;> exact ⟨_,_,rfl⟩)
  simp only [Option.map_some,Option.getD_some,e]
  cases op <;> simp [eqGuard]
section
variable {B : Nat} {W X : World} {s n : Nat} {F : TF} {L L' : List ByteArray} {bl bl' : List Nat} {m lv bv lv' bv' : Value}
theorem let_no0 (h : Hid (Scp B W s n F L [] m lv bv)) (t : ByteArray) (tr sc : Bool) :
 Calls Try.prog 13 #[.pointer (some ⟨s,0,none⟩),.string t,.agg #[.bool tr,.bool sc]] W fun e w' => e = .returned (.int .i64 12) ∧ Below W.heap.size W w':=by
 obtain ⟨mm,p,c,q,d,rfl,rfl,rfl⟩:=h.out.forms
 have HA:=hid (below_of_alloc W (.cells #[.bool tr,.bool sc] 42))
 obtain ⟨W1,hW1⟩ : ∃ X,W.alloc (.cells #[.bool tr,.bool sc] 42) = X:=⟨_,rfl⟩
 rw [hW1] at HA
 have heq:=eql_ptr_some ⟨s,0,none⟩ W1
 obtain ⟨sl,⟨c0,c1,c2⟩,f0,f1,f2⟩:=(h.out.stay HA.out).facts
 go_enter Try.func13,Try.ntmps13
 go_wp2
 go_ret
 exact ⟨rfl,HA.out⟩
theorem let_no1 (h : Hid (Scp B W s n F L bl m lv bv)) (hbl : bl ≠ []) (tr sc : Bool) :
 Calls Try.prog 13 #[.pointer (some ⟨s,0,none⟩),.string ⟨#[]⟩,.agg #[.bool tr,.bool sc]] W fun e w' => e = .returned (.int .i64 12) ∧ Below W.heap.size W w':=by
 obtain ⟨mm,p,c,q,d,rfl,rfl,rfl⟩:=h.out.forms
 have HA:=hid (below_of_alloc W (.cells #[.bool tr,.bool sc] 42))
 obtain ⟨W1,hW1⟩ : ∃ X,W.alloc (.cells #[.bool tr,.bool sc] 42) = X:=⟨_,rfl⟩
 rw [hW1] at HA
 have heq:=eql_ptr_some ⟨s,0,none⟩ W1
 obtain ⟨sl,⟨c0,c1,c2⟩,f0,f1,f2⟩:=(h.out.stay HA.out).facts
 obtain ⟨k,hk⟩ : ∃ k,bl.length = k:=⟨_,rfl⟩
 have hk0 : 0 < k:=by (rw [← hk];exact List.length_pos_iff.2 hbl)
 have hkn : ¬ (k : Int) = 0:=by omega
 rw [hk] at c2
 clear hk
 go_enter Try.func13,Try.ntmps13
 go_wp2
 all_goals go_ret
 all_goals exact ⟨rfl,HA.out⟩
theorem let_no2 (h : Hid (Scp B W s n F L bl m lv bv)) (hbl : bl ≠ []) (t : ByteArray) (ht : t.size ≤ 140737488355328) (ht0 : t.data.toList ≠ []) (tr sc : Bool) (hF : (F t.data.toList).isSome = true) :
 Calls Try.prog 13 #[.pointer (some ⟨s,0,none⟩),.string t,.agg #[.bool tr,.bool sc]] W fun e w' => e = .returned (.int .i64 12) ∧ Below W.heap.size W w':=by
 obtain ⟨x,hx⟩ : ∃ x,F t.data.toList = x:=⟨_,rfl⟩
 have HT:=thing_x h t ht hx
 rw [hx] at hF
 obtain ⟨mm,p,c,q,d,rfl,rfl,rfl⟩:=h.out.forms
 have HA:=hid (below_of_alloc W (.cells #[.bool tr,.bool sc] 42))
 obtain ⟨W1,hW1⟩ : ∃ X,W.alloc (.cells #[.bool tr,.bool sc] 42) = X:=⟨_,rfl⟩
 rw [hW1] at HA
 have heq:=eql_ptr_some ⟨s,0,none⟩ W1
 have hnq:=neq_thing x W1
 rw [hF] at hnq
 obtain ⟨u,hu⟩ : ∃ u,(x.map Th.val).getD .nilIface = u:=⟨_,rfl⟩
 have hqg:=fun a => eqg_thing .neq x a W1
 rw [hu] at HT hnq
 simp only [hu] at hqg
 have hte : t.toList.isEmpty = false:=by (rw [ByteArray.toList_eq];simpa using ht0)
 obtain ⟨sl,⟨c0,c1,c2⟩,f0,f1,f2⟩:=(h.out.stay HA.out).facts
 obtain ⟨k,hk⟩ : ∃ k,bl.length = k:=⟨_,rfl⟩
 have hk0 : 0 < k:=by (rw [← hk];exact List.length_pos_iff.2 hbl)
 have hkn : ¬ (k : Int) = 0:=by omega
 have hkb : ((k : Int) == 0) = false:=by simpa using hkn
 rw [hk] at c2
 clear hk hu hx hF
 go_enter Try.func13,Try.ntmps13
 go_wp2_with (go_at_call 32;refine (HT.out _ HA.out).mono ?_;rintro e1 w1 ⟨rfl,rfl⟩)
 go_ret
 exact ⟨rfl,HA.out⟩
theorem let_yes (h : Hid (Scp B W s n F L bl m lv bv)) (hbl : bl ≠ []) (t : ByteArray) (ht : t.size ≤ 140737488355328) (ht0 : t.data.toList ≠ []) (tr sc : Bool) (hF : F t.data.toList = none) (hn : n < 1000000) (hL : L.length ≤ 1000000) :
 Calls Try.prog 13 #[.pointer (some ⟨s,0,none⟩),.string t,.agg #[.bool tr,.bool sc]] W fun e w' => e = .returned (.int .i64 0) ∧ ∃ b' lv',Scp B w' s (n + 1) (F.upd t.data.toList (.lo tr sc)) (L ++ [t]) bl (.map (some b')) lv' bv ∧ Below B W w' ∧ Oth W w' ∧ Apx W w' s m lv bv (.map (some b')) lv' bv:=by
 have HT:=thing_x h t ht hF
 obtain ⟨i0,hinf,hzi0,hzi1,hzi2⟩:=info_parts infoS1
 have hsz : t.size ≤ 281474976710656:=by omega
 obtain ⟨mm,p,c,q,d,rfl,rfl,rfl⟩:=h.out.forms
 have hA:=below_of_alloc W (.cells #[.bool tr,.bool sc] 42)
 have hZ:=ZBlk.new (X:=W) (n:=W.heap.size) (tr:=tr) (sc:=sc) rfl
 obtain ⟨W1,hW1⟩ : ∃ X,W.alloc (.cells #[.bool tr,.bool sc] 42) = X:=⟨_,rfl⟩
 rw [hW1] at hA hZ
 have HA:=hid hA
 have heq:=eql_ptr_some ⟨s,0,none⟩ W1
 have hnq:=neq_thing none W1
 have hqg:=fun a => eqg_thing .neq none a W1
 simp only [Option.map_none,Option.getD_none,Option.isSome_none] at HT hnq hqg
 have hte : t.toList.isEmpty = false:=by (rw [ByteArray.toList_eq];simpa using ht0)
 have HS:=hid (h.out.stay hA)
 obtain ⟨sl,⟨c0,c1,c2⟩,f0,f1,f2⟩:=HS.out.facts
 obtain ⟨zl,⟨z0,z1⟩,_⟩:=hZ.facts
 have hBW : B ≤ W.heap.size:=Nat.le_of_lt (Nat.lt_of_le_of_lt h.out.hs h.out.facts.1)
 obtain ⟨k,hk⟩ : ∃ k,bl.length = k:=⟨_,rfl⟩
 obtain ⟨l,hl⟩ : ∃ l,L.length = l:=⟨_,rfl⟩
 have hk0 : 0 < k:=by (rw [← hk];exact List.length_pos_iff.2 hbl)
 have hkn : ¬ (k : Int) = 0:=by omega
 have hkb : ((k : Int) == 0) = false:=by simpa using hkn
 rw [hk] at c2
 rw [hl] at c1 hL
 have HK : Hid (L.length = l ∧ bl.length = k):=hid ⟨hl,hk⟩
 have HKN : Hid (∀ X,X = W1 → Calls Try.prog 27 #[.pointer (some ⟨s,0,none⟩),.string t,.iface 108 (.agg #[.bool tr,.bool sc])] X fun e w' => e = .returned (.tuple #[]) ∧ ∃ b,Scp B w' s (n + 1) (F.upd t.data.toList (.lo tr sc)) L bl (.map (some b)) (.slice p l c) (.slice q k d) ∧ Below B X w' ∧ B ≤ b ∧ Oth X w' ∧ Apx X w' s (.map mm) (.slice p l c) (.slice q k d) (.map (some b)) (.slice p l c) (.slice q k d)):=hid fun X hX => by
  have h1:=know_any HS hn t ht (.lo tr sc) trivial
  rw [hl,hk] at h1
  rw [hX]
  exact h1
 clear hk hl hF hA hZ
 go_enter Try.func13,Try.ntmps13
 go_upto_region 3 with (go_at_call 32;refine (HT.out _ HA.out).mono ?_;rintro e1 w1 ⟨rfl,rfl⟩)
 clear hW1
 go_upto_region 4 with (go_at_call 27;refine (HKN.out _ rfl).mono ?_;rintro e1 w2 ⟨rfl,b,hS2,hB2,hBb,hO2,hX2⟩;have HS2:=hid hS2;have HB2:=hid hB2;have HO2':=hid hO2;have HX2:=hid hX2;clear hS2 hB2 hO2 hX2)
 clear c0 c1 c2 f0 f1 f2 sl z0 z1 zl heq hnq hqg
 obtain ⟨sl,⟨c0,c1,c2⟩,f0,f1,f2⟩:=HS2.out.facts
 have HO : Hid (w2.ownsRow B 9 1 (.slice p l c) l (L.map Value.string)):=hid (by (have:=HS2.out.lo;rwa [HK.out.1] at this))
 have hBW2 : B ≤ w2.heap.size:=Nat.le_of_lt (Nat.lt_of_le_of_lt h.out.hs sl)
 have hne : (Value.slice p l c).ownBlock ≠ some s:=own_ne HO.out HS2.out.blk (by decide)
 have HNE:=hid hne
 clear hne
 go_region_law (first
  | (go_simp;go_at_call 33;(with_reducible refine (clone_any _ _ hsz).mono ?_);rintro e2 w3 ⟨rfl,hb3⟩;replace hb3:=below_ch ((Below.refl w2.heap.size w2).drew) hb3;have HB3:=hid hb3;have sl3:=Nat.lt_of_lt_of_le sl hb3.size;have c13:=(hb3.cell (p:=⟨s,1,none⟩) sl).trans c1)
  | (refine step_append_lies _ (by rfl) _ _ _ (by rfl) B 9 i0 _ 1 16 Try.underlying50 hinf hzi0 hzi1 hzi2 rfl (by decide) (.slice p l c) l (L.map Value.string) (by rfl) (own_below HO.out (HB3.out.alloc HB3.out.size _)) ⟨_,0,none⟩ 1 1 [.string t] (by rfl) (by rfl) (World.news_of_block (heap_alloc_new _ _)) str_one1 (by decide) (by unfold maxLen;omega) (by omega) (by (have:=HB3.out.size;simp;omega)) _ rfl ?_;intro gg cap6 w9 hown9 hgrow9 hor9 hlt9;have hs9 : w9.heap[s]? = some (.cells #[.map (some b),.slice p l c,.slice q k d] 89 (0,0)):=(hgrow9.block s (by simp;omega) (fun e => HNE.out e.symm)).trans ((Below.heap_alloc _ _ s sl3).trans ((HB3.out.block s sl).trans HS2.out.blk));have s92 : w9.cell? ⟨s,1,none⟩ = some (.slice p l c):=cell_of_row _ _ _ _ _ _ hs9;have sf9 : w9.frozen? ⟨s,1,none⟩ = false:=frozen_of_row _ _ _ _ _ hs9;have sl9 : s < w9.heap.size:=(Array.getElem?_eq_some_iff.1 hs9).1;have HS9:=hid hs9;have HGE : Hid ((Value.slice p l c).ownBlock = some gg ∨ w2.heap.size ≤ gg):=hid (hor9.imp id (fun e => by rw [e];have:=HB3.out.size;simp;omega));clear hor9;have HG9:=hid hgrow9;have HO9:=hid hown9;clear hs9 hgrow9 hown9))
 all_goals go_wp2
 all_goals go_ret
 all_goals
  have hfr : Fr2 s (rowB (.slice p l c) s) w2 (w9.setCell ⟨s,1,none⟩ (.slice (some ⟨gg,0,none⟩) (l + 1) cap6)):=(Fr2.growRow (((Fr2.refl _ _ w2).below HB3.out).alloc _) HG9.out).set (.inl rfl) _ _
  have hsX:=heap_setCell_same w9 s 1 _ _ (.slice (some ⟨gg,0,none⟩) (l + 1) cap6) HS9.out
  have hlo : (w9.setCell ⟨s,1,none⟩ (.slice (some ⟨gg,0,none⟩) (l + 1) cap6)).ownsRow B 9 1 (.slice (some ⟨gg,0,none⟩) (l + 1) cap6) (L ++ [t]).length ((L ++ [t]).map Value.string):=by
   rw [List.length_append,List.map_append,HK.out.1]
   exact own_setN HO9.out (own_ne HO9.out HS9.out (by decide)) _ _
  have hbk:=own_turn HS2.out HO.out HS2.out.bk (by decide) (by decide) hfr
  obtain ⟨h1,h2⟩:=HS2.out.turn HO.out (.inl rfl) hfr hsX hlo hbk
  exact ⟨rfl,_,_,(by rw [HK.out.2];exact h1),below_tr (below_tr (HA.out.mono hBW) HB2.out) h2,((Oth.of HA.out).trans HO2'.out).trans (Oth.turn HS2.out HO.out (.inl rfl) hfr),by (rw [HK.out.1,HK.out.2];exact ((Apx.of HA.out s _ _ _).trans HA.out.size HX2.out).trans (Nat.le_trans HA.out.size HB2.out.size) (apx_lv hfr HGE.out))⟩
end
end Go.Proofs.Ytbmmjomcjlpnlaa
namespace Go.Proofs.Ytbmmjomcjlpnlaa
open Go Go.RowKit
def Th.er : Th → Th
 | .fn y _ i => .fn y ⟨undef,undef,undef⟩ i
 | x => x
def TF.er (F : TF) : TF:=fun t => (F t).map Th.er
theorem TF.er_upd (F : TF) (s : List UInt8) (x : Th) : (F.upd s x).er = F.er.upd s x.er:=by
 funext t
 unfold TF.er TF.upd
 by_cases e : t = s <;> simp [e]
def tagG (l : List Gl) (F : TF) : TF:=l.zipIdx.foldl (fun G q => G.upd q.1.nm (.gl q.1 q.2)) F
def tagL (l : List Lk) (F : TF) : TF:=l.zipIdx.foldl (fun G q => G.upd q.1.nm (.lk q.2)) F
def tagN (l : List Fn) (F : TF) : TF:=l.zipIdx.foldl (fun G q => G.upd q.1.nm (.fn q.1 ⟨undef,undef,undef⟩ q.2)) F
def tagP (p : Pg) : TF:=tagN p.fs (tagL p.ls (tagG p.gs fun _ => none))
theorem tagG_snoc (l : List Gl) (x : Gl) (F : TF) : tagG (l ++ [x]) F = (tagG l F).upd x.nm (.gl x l.length):=by
 simp [tagG,List.zipIdx_append]
theorem tagL_snoc (l : List Lk) (x : Lk) (F : TF) : tagL (l ++ [x]) F = (tagL l F).upd x.nm (.lk l.length):=by
 simp [tagL,List.zipIdx_append]
theorem tagN_snoc (l : List Fn) (x : Fn) (F : TF) : tagN (l ++ [x]) F = (tagN l F).upd x.nm (.fn x ⟨undef,undef,undef⟩ l.length):=by
 simp [tagN,List.zipIdx_append]
theorem bstr_list (t : List UInt8) : (bstr t).data.toList = t:=by simp [bstr]
def NewOk (W w' : World) (p : Pg) (s : Nat) : Prop:=∃ F m n,n ≤ 3000 ∧ F.er = tagP p ∧ Scp W.heap.size w' s n F [] [] m (.slice none 0 0) (.slice none 0 0)
structure ShP (p : Pg) : Prop where
 gs : p.gs.length ≤ 1000 ∧ ∀ y ∈ p.gs,y.nm.length ≤ 100000 ∧ y.by_.length ≤ 100000
 ls : p.ls.length ≤ 1000 ∧ ∀ y ∈ p.ls,y.nm.length ≤ 100000
 fs : p.fs.length ≤ 1000 ∧ ∀ y ∈ p.fs,ShF y
theorem ShP.things {p : Pg} (h : ShP p) : ∀ x ∈ thingsL p,x.1.size ≤ 140737488355328:=by
 intro x hx
 unfold thingsL at hx
 rcases List.mem_append.1 hx with hx | hx
 · rcases List.mem_append.1 hx with hx | hx
   · obtain ⟨y,hy,rfl⟩:=List.mem_map.1 hx
     have:=(h.gs.2 y hy).1
     show y.nm.length ≤ _
     omega
   · obtain ⟨y,hy,rfl⟩:=List.mem_map.1 hx
     have:=h.ls.2 y hy
     show y.nm.length ≤ _
     omega
 · obtain ⟨y,hy,rfl⟩:=List.mem_map.1 hx
   have:=(h.fs.2 y hy).nm
   show y.nm.length ≤ _
   omega
theorem Scp.low {B B' : Nat} {W : World} {s n : Nat} {F : TF} {L : List ByteArray} {bl : List Nat} {m lv bv : Value} (h : Scp B W s n F L bl m lv bv) (hb : B' ≤ B) : Scp B' W s n F L bl m lv bv:=by
 obtain ⟨h1,h2,h3,h4,h5,h6⟩:=h
 refine ⟨h1,Nat.le_trans hb h2,?_,own_base h4 hb,own_base h5 hb,fun t x hx => ?_⟩
 · rcases h3 with h3 | ⟨b,e,hb',hk⟩
   · exact .inl h3
   · exact .inr ⟨b,e,Nat.le_trans hb hb',hk⟩
 · have:=h6 t x hx
   cases x with
   | fn y v i => exact ⟨this.1,this.2.low hb⟩
   | _ => exact this
theorem new_bad {B : Nat} {W : World} {p : Pg} {v0 v1 v2 v3 : Value} {rf : List (Fn × FV)} {rt : List (List Stm × Value)} (R : Hid (PRows B W p v0 v1 v2 v3 rf rt)) (hp : ShP p) (hb : (twiceF (thingsL p)).2 = true) :
 Calls Try.prog 8 #[.agg #[v0,v1,v2,v3]] W fun e w' => Below W.heap.size W w' ∧ e = .returned (.tuple #[.pointer none,.int .i64 12,.int .i64 (twiceF (thingsL p)).1]):=by
 obtain ⟨z0,k0,rfl⟩:=own_form R.out.g
 obtain ⟨z1,k1,rfl⟩:=own_form R.out.l
 obtain ⟨z2,k2,rfl⟩:=own_form R.out.f
 obtain ⟨z3,k3,rfl⟩:=own_form R.out.t
 have HT : Hid (∀ X,Below W.heap.size W X → Calls Try.prog 26 #[.agg #[.slice z0 p.gs.length k0,.slice z1 p.ls.length k1,.slice z2 p.fs.length k2,.slice z3 p.ths.length k3]] X fun e w' => Below X.heap.size X w' ∧ e = .returned (.tuple #[.int .i64 (twiceF (thingsL p)).1,.bool (twiceF (thingsL p)).2])):=hid fun X hX => twice_any (hid (R.out.stay hX)) hp.gs.1 hp.ls.1 hp.fs.1 hp.things
 obtain ⟨⟨qa,qb⟩,hq⟩ : ∃ q,twiceF (thingsL p) = q:=⟨_,rfl⟩
 rw [hq] at HT hb
 simp only at hb
 subst hb
 obtain ⟨n0,hn0⟩ : ∃ n,p.gs.length = n:=⟨_,rfl⟩
 obtain ⟨n1,hn1⟩ : ∃ n,p.ls.length = n:=⟨_,rfl⟩
 obtain ⟨n2,hn2⟩ : ∃ n,p.fs.length = n:=⟨_,rfl⟩
 obtain ⟨n3,hn3⟩ : ∃ n,p.ths.length = n:=⟨_,rfl⟩
 rw [hn0,hn1,hn2,hn3] at HT
 rw [hn0,hn1,hn2,hn3,hq]
 have HPS:=hid hp
 have HN : Hid (p.gs.length = n0 ∧ p.ls.length = n1 ∧ p.fs.length = n2 ∧ p.ths.length = n3):=hid ⟨hn0,hn1,hn2,hn3⟩
 have hb0 : n0 ≤ 1000:=by (rw [← hn0];exact hp.gs.1)
 have hb1 : n1 ≤ 1000:=by (rw [← hn1];exact hp.ls.1)
 have hb2 : n2 ≤ 1000:=by (rw [← hn2];exact hp.fs.1)
 have HR0 : Hid (W.ownsRow B 56 6 (.slice z0 n0 k0) n0 (p.gs.flatMap glCells)):=hid (by (have:=R.out.g;rwa [hn0] at this))
 have HR1 : Hid (W.ownsRow B 95 2 (.slice z1 n1 k1) n1 (p.ls.flatMap lkCells)):=hid (by (have:=R.out.l;rwa [hn1] at this))
 have HR2 : Hid (W.ownsRow B 65 12 (.slice z2 n2 k2) n2 (rf.flatMap fnF)):=hid (by (have:=R.out.f;rwa [hn2] at this))
 have HRL : Hid (rf.length = n2):=hid (by (have h:=congrArg List.length R.out.ef;rw [List.length_map] at h;exact h.trans hn2))
 clear hn0 hn1 hn2 hn3 hq hp
 go_enter Try.func8,Try.ntmps8
 go_upto_region 1 with (fail)
 refine name_world ?_
 intro W1 hW1
 have HB1 : Hid (Below W.heap.size W W1):=hid (by (rw [hW1];exact below_of_alloc _ _))
 have hm1 : W1.heap[W.heap.size]? = some (.cells #[.slice z0 n0 k0,.slice z1 n1 k1,.slice z2 n2 k2,.slice z3 n3 k3] 29 (0,0)):=by (rw [hW1];exact heap_alloc_new _ _)
 have hml : W.heap.size < W1.heap.size:=(Array.getElem?_eq_some_iff.1 hm1).1
 have m0 : W1.cell? ⟨W.heap.size,0,none⟩ = some (.slice z0 n0 k0):=cell_of_row _ _ _ _ _ _ hm1
 have m1 : W1.cell? ⟨W.heap.size,1,none⟩ = some (.slice z1 n1 k1):=cell_of_row _ _ _ _ _ _ hm1
 have m2 : W1.cell? ⟨W.heap.size,2,none⟩ = some (.slice z2 n2 k2):=cell_of_row _ _ _ _ _ _ hm1
 have m3 : W1.cell? ⟨W.heap.size,3,none⟩ = some (.slice z3 n3 k3):=cell_of_row _ _ _ _ _ _ hm1
 have HM1:=hid hm1
 clear hW1 hm1
 go_upto_region 2 with (go_at_call 26;(with_reducible refine (HT.out _ HB1.out).mono ?_);rintro e1 w2 ⟨hb2,rfl⟩;have HB2:=hid (below_ch HB1.out hb2);clear hb2)
 go_wp2
 go_ret3
 exact ⟨HB2.out,rfl⟩
theorem new_good {B : Nat} {W : World} {p : Pg} {v0 v1 v2 v3 : Value} {rf : List (Fn × FV)} {rt : List (List Stm × Value)} (R : Hid (PRows B W p v0 v1 v2 v3 rf rt)) (hp : ShP p) (hb : (twiceF (thingsL p)).2 = false) :
 Calls Try.prog 8 #[.agg #[v0,v1,v2,v3]] W fun e w' => Below W.heap.size W w' ∧ ∃ s,e = .returned (.tuple #[.pointer (some ⟨s,0,none⟩),.int .i64 0,.int .i64 0]) ∧ W.heap.size ≤ s ∧ NewOk W w' p s:=by
 obtain ⟨z0,k0,rfl⟩:=own_form R.out.g
 obtain ⟨z1,k1,rfl⟩:=own_form R.out.l
 obtain ⟨z2,k2,rfl⟩:=own_form R.out.f
 obtain ⟨z3,k3,rfl⟩:=own_form R.out.t
 have HT : Hid (∀ X,Below W.heap.size W X → Calls Try.prog 26 #[.agg #[.slice z0 p.gs.length k0,.slice z1 p.ls.length k1,.slice z2 p.fs.length k2,.slice z3 p.ths.length k3]] X fun e w' => Below X.heap.size X w' ∧ e = .returned (.tuple #[.int .i64 (twiceF (thingsL p)).1,.bool (twiceF (thingsL p)).2])):=hid fun X hX => twice_any (hid (R.out.stay hX)) hp.gs.1 hp.ls.1 hp.fs.1 hp.things
 obtain ⟨⟨qa,qb⟩,hq⟩ : ∃ q,twiceF (thingsL p) = q:=⟨_,rfl⟩
 rw [hq] at HT hb
 simp only at hb
 subst hb
 obtain ⟨n0,hn0⟩ : ∃ n,p.gs.length = n:=⟨_,rfl⟩
 obtain ⟨n1,hn1⟩ : ∃ n,p.ls.length = n:=⟨_,rfl⟩
 obtain ⟨n2,hn2⟩ : ∃ n,p.fs.length = n:=⟨_,rfl⟩
 obtain ⟨n3,hn3⟩ : ∃ n,p.ths.length = n:=⟨_,rfl⟩
 rw [hn0,hn1,hn2,hn3] at HT
 rw [hn0,hn1,hn2,hn3]
 have HPS:=hid hp
 have HN : Hid (p.gs.length = n0 ∧ p.ls.length = n1 ∧ p.fs.length = n2 ∧ p.ths.length = n3):=hid ⟨hn0,hn1,hn2,hn3⟩
 have hb0 : n0 ≤ 1000:=by (rw [← hn0];exact hp.gs.1)
 have hb1 : n1 ≤ 1000:=by (rw [← hn1];exact hp.ls.1)
 have hb2 : n2 ≤ 1000:=by (rw [← hn2];exact hp.fs.1)
 have HR0 : Hid (W.ownsRow B 56 6 (.slice z0 n0 k0) n0 (p.gs.flatMap glCells)):=hid (by (have:=R.out.g;rwa [hn0] at this))
 have HR1 : Hid (W.ownsRow B 95 2 (.slice z1 n1 k1) n1 (p.ls.flatMap lkCells)):=hid (by (have:=R.out.l;rwa [hn1] at this))
 have HR2 : Hid (W.ownsRow B 65 12 (.slice z2 n2 k2) n2 (rf.flatMap fnF)):=hid (by (have:=R.out.f;rwa [hn2] at this))
 have HRL : Hid (rf.length = n2):=hid (by (have h:=congrArg List.length R.out.ef;rw [List.length_map] at h;exact h.trans hn2))
 clear hn0 hn1 hn2 hn3 hq hp
 go_enter Try.func8,Try.ntmps8
 go_upto_region 1 with (fail)
 refine name_world ?_
 intro W1 hW1
 have HB1 : Hid (Below W.heap.size W W1):=hid (by (rw [hW1];exact below_of_alloc _ _))
 have hm1 : W1.heap[W.heap.size]? = some (.cells #[.slice z0 n0 k0,.slice z1 n1 k1,.slice z2 n2 k2,.slice z3 n3 k3] 29 (0,0)):=by (rw [hW1];exact heap_alloc_new _ _)
 have hml : W.heap.size < W1.heap.size:=(Array.getElem?_eq_some_iff.1 hm1).1
 have m0 : W1.cell? ⟨W.heap.size,0,none⟩ = some (.slice z0 n0 k0):=cell_of_row _ _ _ _ _ _ hm1
 have m1 : W1.cell? ⟨W.heap.size,1,none⟩ = some (.slice z1 n1 k1):=cell_of_row _ _ _ _ _ _ hm1
 have m2 : W1.cell? ⟨W.heap.size,2,none⟩ = some (.slice z2 n2 k2):=cell_of_row _ _ _ _ _ _ hm1
 have m3 : W1.cell? ⟨W.heap.size,3,none⟩ = some (.slice z3 n3 k3):=cell_of_row _ _ _ _ _ _ hm1
 have HM1:=hid hm1
 clear hW1 hm1
 go_upto_region 2 with (go_at_call 26;(with_reducible refine (HT.out _ HB1.out).mono ?_);rintro e1 w2 ⟨hb2,rfl⟩;have HB2:=hid hb2;clear hb2)
 have hm2 : w2.heap[W.heap.size]? = some (.cells #[.slice z0 n0 k0,.slice z1 n1 k1,.slice z2 n2 k2,.slice z3 n3 k3] 29 (0,0)):=(HB2.out.block _ hml).trans HM1.out
 clear m0 m1 m2 m3 hml
 have HM2:=hid hm2
 have hml : W.heap.size < w2.heap.size:=(Array.getElem?_eq_some_iff.1 hm2).1
 have m0 : w2.cell? ⟨W.heap.size,0,none⟩ = some (.slice z0 n0 k0):=cell_of_row _ _ _ _ _ _ hm2
 have HBW:=hid (below_ch HB1.out HB2.out)
 have HS0 : Hid (w2.ownsRow B 56 6 (.slice z0 n0 k0) n0 (p.gs.flatMap glCells)):=hid (own_below HR0.out HBW.out)
 have HS1 : Hid (w2.ownsRow B 95 2 (.slice z1 n1 k1) n1 (p.ls.flatMap lkCells)):=hid (own_below HR1.out HBW.out)
 have HS2 : Hid (w2.ownsRow B 65 12 (.slice z2 n2 k2) n2 (rf.flatMap fnF)):=hid (own_below HR2.out HBW.out)
 clear hm2
 go_upto_region 6 with (fail)
 clear m0
 refine name_world ?_
 intro W3 hW3
 have HA3 : Hid (Below w2.heap.size w2 W3):=hid (by (rw [hW3];exact below_of_alloc _ _))
 have HC3 : Hid (Scp w2.heap.size W3 w2.heap.size 0 (fun _ => none) [] [] (.map none) (.slice none 0 0) (.slice none 0 0)):=hid (by (rw [hW3];exact ⟨heap_alloc_new _ _,Nat.le_refl _,.inl ⟨rfl,fun _ => rfl⟩,World.ownsRow_nil _ _ _ _,World.ownsRow_nil _ _ _ _,fun t x h => by cases h⟩))
 clear hW3
 go_loopw [26] (fun iv wr => ∃ (i : Nat) (m : Value) (F : TF),iv = .int .i64 i ∧ i ≤ n0 ∧ Below w2.heap.size w2 wr ∧ F.er = tagG (p.gs.take i) (fun _ => none) ∧ Scp w2.heap.size wr w2.heap.size i F [] [] m (.slice none 0 0) (.slice none 0 0)) (fun iv _ => n0 - (intOf iv).toNat)
 case atStart => exact ⟨0,_,_,rfl,Nat.zero_le _,HA3.out,rfl,HC3.out⟩
 case round =>
  obtain ⟨i,m,F,rfl,hi,hbr,hFe,hsc⟩:=hrel
  have HBR:=hid hbr
  have HFE:=hid hFe
  have HSC:=hid hsc
  by_cases hin : i < n0
  · obtain ⟨x,hx⟩ : ∃ x,p.gs[i]? = some x:=⟨_,List.getElem?_eq_getElem (by (have:=HN.out.1;omega))⟩
    obtain ⟨gx,cx,ez,hgx,_⟩:=row_some HS0.out (show 0 < n0 by omega)
    cases ez
    have hrw:=own_below HS0.out hbr
    have d0 : wr.cell? ⟨gx,i * 6,none⟩ = some (.int .i64 x.a):=plain_cell (K:=6) (f:=glCells) (fun _ => rfl) hrw hx (j:=0) rfl
    have d1 : wr.cell? ⟨gx,i * 6 + 1,none⟩ = some (.string (bstr x.nm)):=plain_cell (K:=6) (f:=glCells) (fun _ => rfl) hrw hx (j:=1) rfl
    have d2 : wr.cell? ⟨gx,i * 6 + 2,none⟩ = some (.bool x.tr):=plain_cell (K:=6) (f:=glCells) (fun _ => rfl) hrw hx (j:=2) rfl
    have d3 : wr.cell? ⟨gx,i * 6 + 3,none⟩ = some (.bool x.sc):=plain_cell (K:=6) (f:=glCells) (fun _ => rfl) hrw hx (j:=3) rfl
    have d4 : wr.cell? ⟨gx,i * 6 + 4,none⟩ = some (.int .i64 x.len):=plain_cell (K:=6) (f:=glCells) (fun _ => rfl) hrw hx (j:=4) rfl
    have d5 : wr.cell? ⟨gx,i * 6 + 5,none⟩ = some (.string (bstr x.by_)):=plain_cell (K:=6) (f:=glCells) (fun _ => rfl) hrw hx (j:=5) rfl
    have hgw : gx < wr.heap.size:=Nat.lt_of_lt_of_le hgx hbr.size
    have hlt : (i : Int) < (n0 : Int):=by omega
    have hi0 : (0 : Int) ≤ (i : Int):=Int.natCast_nonneg _
    have HXX:=hid hx
    obtain ⟨hnm,hby⟩:=HPS.out.gs.2 x (List.mem_of_getElem? hx)
    have hsz : (bstr x.nm).size ≤ 140737488355328:=by (show x.nm.length ≤ _;omega)
    clear hrw hx hbr hFe hsc
    go_upto_region 8 with (fail)
    clear d0 d1 d2 d3 d4 d5
    refine name_world ?_
    intro W4 hW4
    have hP : W4.heap[wr.heap.size]? = some (.cells #[.int .i64 x.a,.string (bstr x.nm),.bool x.tr,.bool x.sc,.int .i64 x.len,.string (bstr x.by_)] 56 (0,0)):=by (rw [hW4];exact heap_alloc_new _ _)
    have HA : Hid (Below wr.heap.size wr W4):=hid (by (rw [hW4];exact below_of_alloc _ _))
    have hpl : wr.heap.size < W4.heap.size:=(Array.getElem?_eq_some_iff.1 hP).1
    have p0 : W4.cell? ⟨wr.heap.size,0,none⟩ = some (.int .i64 x.a):=cell_of_row _ _ _ _ _ _ hP
    have p1 : W4.cell? ⟨wr.heap.size,1,none⟩ = some (.string (bstr x.nm)):=cell_of_row _ _ _ _ _ _ hP
    have p2 : W4.cell? ⟨wr.heap.size,2,none⟩ = some (.bool x.tr):=cell_of_row _ _ _ _ _ _ hP
    have p3 : W4.cell? ⟨wr.heap.size,3,none⟩ = some (.bool x.sc):=cell_of_row _ _ _ _ _ _ hP
    have p4 : W4.cell? ⟨wr.heap.size,4,none⟩ = some (.int .i64 x.len):=cell_of_row _ _ _ _ _ _ hP
    have p5 : W4.cell? ⟨wr.heap.size,5,none⟩ = some (.string (bstr x.by_)):=cell_of_row _ _ _ _ _ _ hP
    have HP:=hid hP
    have HSC4:=hid (HSC.out.stay HA.out)
    have HKN : Hid (∀ X,Below W4.heap.size W4 X → Calls Try.prog 27 #[.pointer (some ⟨w2.heap.size,0,none⟩),.string (bstr x.nm),.iface 93 (.agg #[.int .i64 x.a,.string (bstr x.nm),.bool x.tr,.bool x.sc,.int .i64 x.len,.string (bstr x.by_),.int .i64 i])] X fun e w' => e = .returned (.tuple #[]) ∧ ∃ b,Scp w2.heap.size w' w2.heap.size (i + 1) (F.upd x.nm (.gl x i)) [] [] (.map (some b)) (.slice none 0 0) (.slice none 0 0) ∧ Below w2.heap.size X w'):=hid fun X hX => by
     have h:=know_any (hid (HSC4.out.stay hX)) (by omega) (bstr x.nm) hsz (.gl x i) ⟨hnm,hby⟩
     rw [bstr_list] at h
     exact h.mono fun e w' ⟨h1,b,h2,h3,_⟩ => ⟨h1,b,h2,h3⟩
    clear hW4 hP
    go_region_law (first
     | (go_simp;go_at_call 28;(with_reducible refine (cglobal_any x _ hnm hby).mono ?_);rintro e2 w5 ⟨rfl,hb5⟩;replace hb5:=below_ch ((Below.refl W4.heap.size W4).drew) hb5;have HB5:=hid hb5;have p15 : w5.cell? ⟨wr.heap.size,1,none⟩ = some (.string (bstr x.nm)):=(hb5.cell (p:=⟨wr.heap.size,1,none⟩) hpl).trans (cell_of_row _ _ _ _ _ _ HP.out);have hpl5:=Nat.lt_of_lt_of_le hpl hb5.size)
     | (go_simp;go_at_call 27;(with_reducible refine (HKN.out _ HB5.out).mono ?_);rintro e3 w6 ⟨rfl,b6,hs6,hb6⟩;have HS6:=hid hs6;have HB6:=hid hb6;clear hs6 hb6))
    all_goals go_wp2
    all_goals
     refine ⟨⟨i + 1,_,F.upd x.nm (.gl x i),by go_num,by omega,below_tr (below_ch HBR.out (below_ch HA.out HB5.out)) HB6.out,?_,HS6.out⟩,?_⟩
     · rw [TF.er_upd,HFE.out,List.take_add_one,HXX.out]
       show _ = tagG (p.gs.take i ++ [x]) _
       rw [tagG_snoc,List.length_take,Nat.min_eq_left (by have:=HN.out.1;omega)]
       rfl
     · simp [intOf]
       omega
  · have hlt : ¬ (i : Int) < (n0 : Int):=by omega
    obtain rfl : n0 = i:=by omega
    have et : p.gs.take n0 = p.gs:=by (rw [← HN.out.1];exact List.take_length)
    have HFA : Hid (F.er = tagG p.gs fun _ => none):=hid (by rw [hFe,et])
    have HSA:=HSC
    have HBA:=HBR
    clear et HFE HSC HBR hFe hsc hbr
    have hmx : wr.heap[W.heap.size]? = some (.cells #[.slice z0 n0 k0,.slice z1 n1 k1,.slice z2 n2 k2,.slice z3 n3 k3] 29 (0,0)):=(HBA.out.block _ hml).trans HM2.out
    have hmlx : W.heap.size < wr.heap.size:=(Array.getElem?_eq_some_iff.1 hmx).1
    have m1 : wr.cell? ⟨W.heap.size,1,none⟩ = some (.slice z1 n1 k1):=cell_of_row _ _ _ _ _ _ hmx
    have m2 : wr.cell? ⟨W.heap.size,2,none⟩ = some (.slice z2 n2 k2):=cell_of_row _ _ _ _ _ _ hmx
    clear hmx
    go_upto_region 11 with (fail)
    clear m1 m2 hmlx
    go_loopw [44] (fun iv wr => ∃ (i : Nat) (m : Value) (F : TF),iv = .int .i64 i ∧ i ≤ n1 ∧ Below w2.heap.size w2 wr ∧ F.er = tagL (p.ls.take i) (tagG p.gs fun _ => none) ∧ Scp w2.heap.size wr w2.heap.size (n0 + i) F [] [] m (.slice none 0 0) (.slice none 0 0)) (fun iv _ => n1 - (intOf iv).toNat)
    case atStart => exact ⟨0,_,_,rfl,Nat.zero_le _,HBA.out,HFA.out,HSA.out⟩
    case round =>
     obtain ⟨i,m,F,rfl,hi,hbr,hFe,hsc⟩:=hrel
     have HBR:=hid hbr
     have HFE:=hid hFe
     have HSC:=hid hsc
     by_cases hin : i < n1
     · obtain ⟨x,hx⟩ : ∃ x,p.ls[i]? = some x:=⟨_,List.getElem?_eq_getElem (by (have:=HN.out.2.1;omega))⟩
       obtain ⟨gx,cx,ez,hgx,_⟩:=row_some HS1.out (show 0 < n1 by omega)
       cases ez
       have hrw:=own_below HS1.out hbr
       have d0 : wr.cell? ⟨gx,i * 2,none⟩ = some (.int .i64 x.a):=plain_cell (K:=2) (f:=lkCells) (fun _ => rfl) hrw hx (j:=0) rfl
       have d1 : wr.cell? ⟨gx,i * 2 + 1,none⟩ = some (.string (bstr x.nm)):=plain_cell (K:=2) (f:=lkCells) (fun _ => rfl) hrw hx (j:=1) rfl
       have hgw : gx < wr.heap.size:=Nat.lt_of_lt_of_le hgx hbr.size
       have hlt : (i : Int) < (n1 : Int):=by omega
       have hi0 : (0 : Int) ≤ (i : Int):=Int.natCast_nonneg _
       have HXX:=hid hx
       have hnm:=HPS.out.ls.2 x (List.mem_of_getElem? hx)
       have hsz : (bstr x.nm).size ≤ 140737488355328:=by (show x.nm.length ≤ _;omega)
       clear hrw hx hbr hFe hsc
       go_upto_region 13 with (fail)
       clear d0 d1
       refine name_world ?_
       intro W4 hW4
       have hP : W4.heap[wr.heap.size]? = some (.cells #[.int .i64 x.a,.string (bstr x.nm)] 95 (0,0)):=by (rw [hW4];exact heap_alloc_new _ _)
       have HA : Hid (Below wr.heap.size wr W4):=hid (by (rw [hW4];exact below_of_alloc _ _))
       have hpl : wr.heap.size < W4.heap.size:=(Array.getElem?_eq_some_iff.1 hP).1
       have p0 : W4.cell? ⟨wr.heap.size,0,none⟩ = some (.int .i64 x.a):=cell_of_row _ _ _ _ _ _ hP
       have p1 : W4.cell? ⟨wr.heap.size,1,none⟩ = some (.string (bstr x.nm)):=cell_of_row _ _ _ _ _ _ hP
       have HSC4:=hid (HSC.out.stay HA.out)
       have HKN : Hid (∀ X,Below W4.heap.size W4 X → Calls Try.prog 27 #[.pointer (some ⟨w2.heap.size,0,none⟩),.string (bstr x.nm),.iface 97 (.agg #[.int .i64 i])] X fun e w' => e = .returned (.tuple #[]) ∧ ∃ b,Scp w2.heap.size w' w2.heap.size (n0 + (i + 1)) (F.upd x.nm (.lk i)) [] [] (.map (some b)) (.slice none 0 0) (.slice none 0 0) ∧ Below w2.heap.size X w'):=hid fun X hX => by
        have h:=know_any (hid (HSC4.out.stay hX)) (by omega) (bstr x.nm) hsz (.lk i) trivial
        rw [bstr_list] at h
        exact h.mono fun e w' ⟨h1,b,h2,h3,_⟩ => ⟨h1,b,h2,h3⟩
       have H44:=hid (Below.refl W4.heap.size W4)
       clear hW4 hP
       go_wp2_with (go_at_call 27;(with_reducible refine (HKN.out _ H44.out).mono ?_);rintro e3 w6 ⟨rfl,b6,hs6,hb6⟩;have HS6:=hid hs6;have HB6:=hid hb6;clear hs6 hb6)
       all_goals
        refine ⟨⟨i + 1,_,F.upd x.nm (.lk i),by go_num,by omega,below_tr (below_ch HBR.out HA.out) HB6.out,?_,HS6.out⟩,?_⟩
        · rw [TF.er_upd,HFE.out,List.take_add_one,HXX.out]
          show _ = tagL (p.ls.take i ++ [x]) _
          rw [tagL_snoc,List.length_take,Nat.min_eq_left (by have:=HN.out.2.1;omega)]
          rfl
        · simp [intOf]
          omega
     · have hlt : ¬ (i : Int) < (n1 : Int):=by omega
       obtain rfl : n1 = i:=by omega
       have et : p.ls.take n1 = p.ls:=by (rw [← HN.out.2.1];exact List.take_length)
       clear HFA HSA HBA
       have HFA : Hid (F.er = tagL p.ls (tagG p.gs fun _ => none)):=hid (by rw [hFe,et])
       have HSA:=HSC
       have HBA:=HBR
       clear et HFE HSC HBR hFe hsc hbr
       have hmx : wr.heap[W.heap.size]? = some (.cells #[.slice z0 n0 k0,.slice z1 n1 k1,.slice z2 n2 k2,.slice z3 n3 k3] 29 (0,0)):=(HBA.out.block _ hml).trans HM2.out
       have hmlx : W.heap.size < wr.heap.size:=(Array.getElem?_eq_some_iff.1 hmx).1
       have m1 : wr.cell? ⟨W.heap.size,1,none⟩ = some (.slice z1 n1 k1):=cell_of_row _ _ _ _ _ _ hmx
       have m2 : wr.cell? ⟨W.heap.size,2,none⟩ = some (.slice z2 n2 k2):=cell_of_row _ _ _ _ _ _ hmx
       clear hmx
       go_upto_region 16 with (fail)
       clear m1 m2 hmlx
       go_loopw [60] (fun iv wr => ∃ (i : Nat) (m : Value) (F : TF),iv = .int .i64 i ∧ i ≤ n2 ∧ Below w2.heap.size w2 wr ∧ F.er = tagN (p.fs.take i) (tagL p.ls (tagG p.gs fun _ => none)) ∧ Scp w2.heap.size wr w2.heap.size (n0 + n1 + i) F [] [] m (.slice none 0 0) (.slice none 0 0)) (fun iv _ => n2 - (intOf iv).toNat)
       case atStart => exact ⟨0,_,_,rfl,Nat.zero_le _,HBA.out,HFA.out,HSA.out⟩
       case round =>
        obtain ⟨i,m,F,rfl,hi,hbr,hFe,hsc⟩:=hrel
        have HBR:=hid hbr
        have HFE:=hid hFe
        have HSC:=hid hsc
        by_cases hin : i < n2
        · obtain ⟨⟨y,fv⟩,hx⟩ : ∃ x,rf[i]? = some x:=⟨_,List.getElem?_eq_getElem (by (have:=HRL.out;omega))⟩
          have hmem:=List.mem_of_getElem? hx
          have hfn:=R.out.xf _ hmem
          have hyf : p.fs[i]? = some y:=by (rw [← R.out.ef,List.getElem?_map,hx];rfl)
          have hsh:=HPS.out.fs.2 y (List.mem_of_getElem? hyf)
          obtain ⟨⟨p0,c0,ef0⟩,_⟩:=hfn.1
          obtain ⟨p1,c1,ef1⟩:=hfn.2.1.form
          obtain ⟨p2,c2,ef2⟩:=hfn.2.2.form
          obtain ⟨vp,vb,vk⟩:=fv
          simp only at ef0 ef1 ef2
          subst ef0 ef1 ef2
          obtain ⟨y0,hy0⟩ : ∃ q,y.ps.length = q:=⟨_,rfl⟩
          obtain ⟨y1,hy1⟩ : ∃ q,y.bd.length = q:=⟨_,rfl⟩
          obtain ⟨y2,hy2⟩ : ∃ q,y.ret.ks.length = q:=⟨_,rfl⟩
          have HFN : Hid (IsFn1 (fun g => 0 ≤ g) wr y ⟨.slice p0 y0 c0,.slice p1 y1 c1,.slice p2 y2 c2⟩):=hid (by
           rw [← hy0,← hy1,← hy2]
           have h:=(hfn.stay HBW.out).stay hbr
           exact ⟨h.1.kept fun g _ _ => ⟨rfl,Nat.zero_le g⟩,h.2.1.kept fun g _ _ => ⟨rfl,Nat.zero_le g⟩,h.2.2.kept fun g _ _ => ⟨rfl,Nat.zero_le g⟩⟩)
          simp only [hy0,hy1,hy2] at hx
          obtain ⟨gx,cx,ez,hgx,_⟩:=row_some HS2.out (show 0 < n2 by omega)
          cases ez
          have hrw:=own_below HS2.out hbr
          have d0 : wr.cell? ⟨gx,i * 12,none⟩ = some (.int .i64 y.a):=plain_cell (K:=12) (f:=fnF) (fun _ => rfl) hrw hx (j:=0) rfl
          have d1 : wr.cell? ⟨gx,i * 12 + 1,none⟩ = some (.string (bstr y.nm)):=plain_cell (K:=12) (f:=fnF) (fun _ => rfl) hrw hx (j:=1) rfl
          have d2 : wr.cell? ⟨gx,i * 12 + 2,none⟩ = some (.slice p0 y0 c0):=plain_cell (K:=12) (f:=fnF) (fun _ => rfl) hrw hx (j:=2) rfl
          have d3 : wr.cell? ⟨gx,i * 12 + 3,none⟩ = some (.bool y.tr):=plain_cell (K:=12) (f:=fnF) (fun _ => rfl) hrw hx (j:=3) rfl
          have d4 : wr.cell? ⟨gx,i * 12 + 4,none⟩ = some (.bool y.sc):=plain_cell (K:=12) (f:=fnF) (fun _ => rfl) hrw hx (j:=4) rfl
          have d5 : wr.cell? ⟨gx,i * 12 + 5,none⟩ = some (.slice p1 y1 c1):=plain_cell (K:=12) (f:=fnF) (fun _ => rfl) hrw hx (j:=5) rfl
          have d6 : wr.cell? ⟨gx,i * 12 + 6,none⟩ = some (.int .i64 y.ret.k):=plain_cell (K:=12) (f:=fnF) (fun _ => rfl) hrw hx (j:=6) rfl
          have d7 : wr.cell? ⟨gx,i * 12 + 7,none⟩ = some (.int .i64 y.ret.op):=plain_cell (K:=12) (f:=fnF) (fun _ => rfl) hrw hx (j:=7) rfl
          have d8 : wr.cell? ⟨gx,i * 12 + 8,none⟩ = some (.int .i64 y.ret.n):=plain_cell (K:=12) (f:=fnF) (fun _ => rfl) hrw hx (j:=8) rfl
          have d9 : wr.cell? ⟨gx,i * 12 + 9,none⟩ = some (.string (bstr y.ret.nm)):=plain_cell (K:=12) (f:=fnF) (fun _ => rfl) hrw hx (j:=9) rfl
          have d10 : wr.cell? ⟨gx,i * 12 + 10,none⟩ = some (.slice p2 y2 c2):=plain_cell (K:=12) (f:=fnF) (fun _ => rfl) hrw hx (j:=10) rfl
          have d11 : wr.cell? ⟨gx,i * 12 + 11,none⟩ = some (.int .i64 y.ret.a):=plain_cell (K:=12) (f:=fnF) (fun _ => rfl) hrw hx (j:=11) rfl
          have hgw : gx < wr.heap.size:=Nat.lt_of_lt_of_le hgx hbr.size
          have hlt : (i : Int) < (n2 : Int):=by omega
          have hi0 : (0 : Int) ≤ (i : Int):=Int.natCast_nonneg _
          have HXX:=hid hyf
          have hsz : (bstr y.nm).size ≤ 140737488355328:=by (have:=hsh.nm;show y.nm.length ≤ _;omega)
          have HSH:=hid hsh
          have HYN : Hid (y.ps.length = y0 ∧ y.bd.length = y1 ∧ y.ret.ks.length = y2):=hid ⟨hy0,hy1,hy2⟩
          clear hrw hx hbr hFe hsc hfn hmem hyf hsh hy0 hy1 hy2
          go_upto_region 18 with (fail)
          clear d0 d1 d2 d3 d4 d5 d6 d7 d8 d9 d10 d11
          refine name_world ?_
          intro W4 hW4
          have hP : W4.heap[wr.heap.size]? = some (.cells #[.int .i64 y.a,.string (bstr y.nm),.slice p0 y0 c0,.bool y.tr,.bool y.sc,.slice p1 y1 c1,.int .i64 y.ret.k,.int .i64 y.ret.op,.int .i64 y.ret.n,.string (bstr y.ret.nm),.slice p2 y2 c2,.int .i64 y.ret.a] 65 (0,0)):=by (rw [hW4];exact heap_alloc_new _ _)
          have HA : Hid (Below wr.heap.size wr W4):=hid (by (rw [hW4];exact below_of_alloc _ _))
          have hpl : wr.heap.size < W4.heap.size:=(Array.getElem?_eq_some_iff.1 hP).1
          have pp0 : W4.cell? ⟨wr.heap.size,0,none⟩ = some (.int .i64 y.a):=cell_of_row _ _ _ _ _ _ hP
          have pp1 : W4.cell? ⟨wr.heap.size,1,none⟩ = some (.string (bstr y.nm)):=cell_of_row _ _ _ _ _ _ hP
          have pp2 : W4.cell? ⟨wr.heap.size,2,none⟩ = some (.slice p0 y0 c0):=cell_of_row _ _ _ _ _ _ hP
          have pp3 : W4.cell? ⟨wr.heap.size,3,none⟩ = some (.bool y.tr):=cell_of_row _ _ _ _ _ _ hP
          have pp4 : W4.cell? ⟨wr.heap.size,4,none⟩ = some (.bool y.sc):=cell_of_row _ _ _ _ _ _ hP
          have pp5 : W4.cell? ⟨wr.heap.size,5,none⟩ = some (.slice p1 y1 c1):=cell_of_row _ _ _ _ _ _ hP
          have pp6 : W4.cell? ⟨wr.heap.size,6,none⟩ = some (.int .i64 y.ret.k):=cell_of_row _ _ _ _ _ _ hP
          have pp7 : W4.cell? ⟨wr.heap.size,7,none⟩ = some (.int .i64 y.ret.op):=cell_of_row _ _ _ _ _ _ hP
          have pp8 : W4.cell? ⟨wr.heap.size,8,none⟩ = some (.int .i64 y.ret.n):=cell_of_row _ _ _ _ _ _ hP
          have pp9 : W4.cell? ⟨wr.heap.size,9,none⟩ = some (.string (bstr y.ret.nm)):=cell_of_row _ _ _ _ _ _ hP
          have pp10 : W4.cell? ⟨wr.heap.size,10,none⟩ = some (.slice p2 y2 c2):=cell_of_row _ _ _ _ _ _ hP
          have pp11 : W4.cell? ⟨wr.heap.size,11,none⟩ = some (.int .i64 y.ret.a):=cell_of_row _ _ _ _ _ _ hP
          have HP:=hid hP
          have HSC4:=hid (HSC.out.stay HA.out)
          have hW24 : w2.heap.size ≤ W4.heap.size:=Nat.le_trans HBR.out.size HA.out.size
          have HCF : Hid (∀ X,Below W4.heap.size W4 X → Calls Try.prog 29 #[.agg #[.int .i64 y.a,.string (bstr y.nm),.slice p0 y0 c0,.bool y.tr,.bool y.sc,.slice p1 y1 c1,.int .i64 y.ret.k,.int .i64 y.ret.op,.int .i64 y.ret.n,.string (bstr y.ret.nm),.slice p2 y2 c2,.int .i64 y.ret.a]] X fun r w' => Below X.heap.size X w' ∧ ∃ q0 e0 q1 e1 q2 e2,r = .returned (.agg #[.int .i64 y.a,.string (bstr y.nm),.slice q0 y0 e0,.bool y.tr,.bool y.sc,.slice q1 y1 e1,.int .i64 y.ret.k,.int .i64 y.ret.op,.int .i64 y.ret.n,.string (bstr y.ret.nm),.slice q2 y2 e2,.int .i64 y.ret.a]) ∧ IsFn1 (fun g => w2.heap.size ≤ g) w' y ⟨.slice q0 y0 e0,.slice q1 y1 e1,.slice q2 y2 e2⟩):=hid fun X hX => by
           have h:=cfunc_any y X ⟨.slice p0 y0 c0,.slice p1 y1 c1,.slice p2 y2 c2⟩ (hid ((HFN.out.stay HA.out).stay hX)) HSH.out
           unfold CpF at h
           rw [HYN.out.1,HYN.out.2.1,HYN.out.2.2] at h
           exact h.mono fun r w' ⟨hb,q0,e0,q1,e1,q2,e2,er,hf⟩ => ⟨hb,q0,e0,q1,e1,q2,e2,er,hf.1.kept fun g hg _ => ⟨rfl,Nat.le_trans (Nat.le_trans hW24 hX.size) hg⟩,hf.2.1.kept fun g hg _ => ⟨rfl,Nat.le_trans (Nat.le_trans hW24 hX.size) hg⟩,hf.2.2.kept fun g hg _ => ⟨rfl,Nat.le_trans (Nat.le_trans hW24 hX.size) hg⟩⟩
          have HKN : Hid (∀ X,Below W4.heap.size W4 X → ∀ q0 e0 q1 e1 q2 e2,IsFn1 (fun g => w2.heap.size ≤ g) X y ⟨.slice q0 y0 e0,.slice q1 y1 e1,.slice q2 y2 e2⟩ → Calls Try.prog 27 #[.pointer (some ⟨w2.heap.size,0,none⟩),.string (bstr y.nm),.iface 100 (.agg #[.int .i64 y.a,.string (bstr y.nm),.slice q0 y0 e0,.bool y.tr,.bool y.sc,.slice q1 y1 e1,.int .i64 y.ret.k,.int .i64 y.ret.op,.int .i64 y.ret.n,.string (bstr y.ret.nm),.slice q2 y2 e2,.int .i64 y.ret.a,.int .i64 i])] X fun e w' => e = .returned (.tuple #[]) ∧ ∃ b,Scp w2.heap.size w' w2.heap.size (n0 + n1 + (i + 1)) (F.upd y.nm (.fn y ⟨.slice q0 y0 e0,.slice q1 y1 e1,.slice q2 y2 e2⟩ i)) [] [] (.map (some b)) (.slice none 0 0) (.slice none 0 0) ∧ Below w2.heap.size X w'):=hid fun X hX q0 e0 q1 e1 q2 e2 hf => by
           have h:=know_any (hid (HSC4.out.stay hX)) (by omega) (bstr y.nm) hsz (.fn y ⟨.slice q0 y0 e0,.slice q1 y1 e1,.slice q2 y2 e2⟩ i) ⟨HSH.out,hf⟩
           rw [bstr_list] at h
           exact h.mono fun e w' ⟨h1,b,h2,h3,_⟩ => ⟨h1,b,h2,h3⟩
          clear hW4 hP
          go_region_law (first
           | (go_simp;go_at_call 29;(with_reducible refine (HCF.out _ ((Below.refl W4.heap.size W4).drew)).mono ?_);rintro e2 w5 ⟨hb5,q0,e0,q1,e1,q2,e2',rfl,hf5⟩;replace hb5:=below_ch ((Below.refl W4.heap.size W4).drew) hb5;have HB5:=hid hb5;have HF5:=hid hf5;have p15 : w5.cell? ⟨wr.heap.size,1,none⟩ = some (.string (bstr y.nm)):=(hb5.cell (p:=⟨wr.heap.size,1,none⟩) hpl).trans (cell_of_row _ _ _ _ _ _ HP.out);have hpl5:=Nat.lt_of_lt_of_le hpl hb5.size;clear hf5)
           | (go_simp;go_at_call 27;(with_reducible refine (HKN.out _ HB5.out _ _ _ _ _ _ HF5.out).mono ?_);rintro e3 w6 ⟨rfl,b6,hs6,hb6⟩;have HS6:=hid hs6;have HB6:=hid hb6;clear hs6 hb6))
          all_goals go_wp2
          all_goals
           refine ⟨⟨i + 1,_,_,by go_num,by omega,below_tr (below_ch HBR.out (below_ch HA.out HB5.out)) HB6.out,?_,HS6.out⟩,?_⟩
           · rw [TF.er_upd,HFE.out,List.take_add_one,HXX.out]
             show _ = tagN (p.fs.take i ++ [y]) _
             rw [tagN_snoc,List.length_take,Nat.min_eq_left (by have:=HN.out.2.2.1;omega)]
             rfl
           · simp [intOf]
             omega
        · have hlt : ¬ (i : Int) < (n2 : Int):=by omega
          obtain rfl : n2 = i:=by omega
          have et : p.fs.take n2 = p.fs:=by (rw [← HN.out.2.2.1];exact List.take_length)
          clear HFA HSA HBA
          have HFA : Hid (F.er = tagP p):=hid (by rw [hFe,et];rfl)
          have HSA:=HSC
          have HBA:=HBR
          clear et HFE HSC HBR hFe hsc hbr
          go_wp2
          go_ret3
          have hnok : NewOk W wr p w2.heap.size:=⟨F,m,n0 + n1 + n2,by omega,HFA.out,HSA.out.low HBW.out.size⟩
          exact ⟨below_ch HBW.out HBA.out,w2.heap.size,rfl,HBW.out.size,hnok⟩
structure Lc where
 (nm : ByteArray) (tr sc : Bool) (dp : Nat)
def lcCells (x : Lc) : List Value:=[.string x.nm,.bool x.tr,.bool x.sc,.int .i64 x.dp]
theorem infoLc : (Try.prog.info? 53).map (fun i => (i.zero,i.size,i.bytes)) = some (some (.agg #[.string ⟨#[]⟩,.bool false,.bool false,.int .i64 0]),4,32):=by kernel_rfl
def findK {α : Type} (f : α → List UInt8) (t : List UInt8) : Nat → List α → Option (α × Nat)
 | _,[] => none
 | k,x :: r => if f x = t then some (x,k) else findK f t (k + 1) r
theorem findK_hit {α : Type} (f : α → List UInt8) (t : List UInt8) : ∀ (l : List α) (k i : Nat) (x : α),l[i]? = some x → f x = t → (∀ j y,j < i → l[j]? = some y → f y ≠ t) → findK f t k l = some (x,k + i)
 | [],_,_,_,h,_,_ => by simp at h
 | y :: r,k,0,x,h,hx,_ => by
  simp at h
  subst h
  simp [findK,hx]
 | y :: r,k,i + 1,x,h,hx,hn => by
  have h0 : f y ≠ t:=hn 0 y (Nat.succ_pos _) rfl
  have h1:=findK_hit f t r (k + 1) i x (by simpa using h) hx (fun j z hj hz => hn (j + 1) z (by omega) (by simpa using hz))
  simp only [findK,if_neg h0,h1]
  congr 2
  omega
theorem findK_miss {α : Type} (f : α → List UInt8) (t : List UInt8) : ∀ (l : List α) (k : Nat),(∀ (j : Nat) (y : α),l[j]? = some y → f y ≠ t) → findK f t k l = none
 | [],_,_ => rfl
 | y :: r,k,h => by
  have h0 : f y ≠ t:=h 0 y rfl
  simp only [findK,if_neg h0]
  exact findK_miss f t r (k + 1) (fun j z hz => h (j + 1) z (by simpa using hz))
theorem findK_none {α : Type} {f : α → List UInt8} {t : List UInt8} : ∀ {l : List α} {k : Nat},findK f t k l = none → ∀ y ∈ l,f y ≠ t
 | [],_,_,y,hy => by cases hy
 | x :: r,k,h,y,hy => by
  by_cases hx : f x = t
  · simp [findK,hx] at h
  · simp only [findK,if_neg hx] at h
    rcases List.mem_cons.1 hy with rfl | hy
    · exact hx
    · exact findK_none h y hy
theorem findK_some {α : Type} {f : α → List UInt8} {t : List UInt8} : ∀ {l : List α} {k : Nat} {q : α × Nat},findK f t k l = some q → ∃ i,q.2 = k + i ∧ l[i]? = some q.1 ∧ f q.1 = t ∧ ∀ j y,j < i → l[j]? = some y → f y ≠ t
 | [],_,_,h => by cases h
 | x :: r,k,q,h => by
  by_cases hx : f x = t
  · simp [findK,hx] at h
    subst h
    exact ⟨0,rfl,rfl,hx,fun j y hj => by omega⟩
  · simp only [findK,if_neg hx] at h
    obtain ⟨i,h1,h2,h3,h4⟩:=findK_some h
    refine ⟨i + 1,by omega,by simpa using h2,h3,fun j y hj hy => ?_⟩
    cases j with
    | zero =>
     simp at hy
     subst hy
     exact hx
    | succ j => exact h4 j y (by omega) (by simpa using hy)
theorem own_len {W : World} {B T k n m c : Nat} {z : Option Addr} {xs : List Value} (h : W.ownsRow B T k (.slice z m c) n xs) : n = m:=by
 obtain ⟨p,c',e⟩:=own_form h
 cases e
 rfl
theorem bs_ne {s t : ByteArray} (h : s.data.toList ≠ t.data.toList) : (s.toList == t.toList) = false:=by
 rw [ByteArray.toList_eq,ByteArray.toList_eq]
 simpa using h
theorem bs_same {s t : ByteArray} (h : s.data.toList = t.data.toList) : (s.toList == t.toList) = true:=by
 rw [ByteArray.toList_eq,ByteArray.toList_eq,h]
 simp
def rGl (l : List Gl) (t : List UInt8) : Gl × Int:=match findK (fun y => y.nm) t 0 l with
 | some q => (q.1,q.2)
 | none => (gl00,-1)
def rLk (l : List Lk) (t : List UInt8) : Int:=match findK (fun y => y.nm) t 0 l with
 | some q => q.2
 | none => -1
def rLo (l : List Lc) (t : List UInt8) : Int:=match findK (fun y => y.nm.data.toList) t 0 l with
 | some q => q.2
 | none => -1
def rFn (l : List Fn) (t : List UInt8) : Fn × Int:=match findK (fun y => y.nm) t 0 l with
 | some q => (q.1,q.2)
 | none => (fn00,-1)
theorem rGl_hit {l : List Gl} {t : List UInt8} {i : Nat} {x : Gl} (h : l[i]? = some x) (hx : x.nm = t) (hn : ∀ j y,j < i → l[j]? = some y → y.nm ≠ t) : rGl l t = (x,(i : Int)):=by
 simp [rGl,findK_hit (fun y : Gl => y.nm) t l 0 i x h hx hn]
theorem rGl_miss {l : List Gl} {t : List UInt8} (hn : ∀ (j : Nat) (y : Gl),l[j]? = some y → y.nm ≠ t) : rGl l t = (gl00,-1):=by
 simp [rGl,findK_miss (fun y : Gl => y.nm) t l 0 hn]
theorem rLk_hit {l : List Lk} {t : List UInt8} {i : Nat} {x : Lk} (h : l[i]? = some x) (hx : x.nm = t) (hn : ∀ j y,j < i → l[j]? = some y → y.nm ≠ t) : rLk l t = (i : Int):=by
 simp [rLk,findK_hit (fun y : Lk => y.nm) t l 0 i x h hx hn]
theorem rLk_miss {l : List Lk} {t : List UInt8} (hn : ∀ (j : Nat) (y : Lk),l[j]? = some y → y.nm ≠ t) : rLk l t = -1:=by
 simp [rLk,findK_miss (fun y : Lk => y.nm) t l 0 hn]
theorem rLo_hit {l : List Lc} {t : List UInt8} {i : Nat} {x : Lc} (h : l[i]? = some x) (hx : x.nm.data.toList = t) (hn : ∀ j y,j < i → l[j]? = some y → y.nm.data.toList ≠ t) : rLo l t = (i : Int):=by
 simp [rLo,findK_hit (fun y : Lc => y.nm.data.toList) t l 0 i x h hx hn]
theorem rLo_miss {l : List Lc} {t : List UInt8} (hn : ∀ (j : Nat) (y : Lc),l[j]? = some y → y.nm.data.toList ≠ t) : rLo l t = -1:=by
 simp [rLo,findK_miss (fun y : Lc => y.nm.data.toList) t l 0 hn]
theorem rFn_hit {l : List (Fn × FV)} {m : List Fn} (hm : l.map (·.1) = m) {t : List UInt8} {i : Nat} {x : Fn × FV} (h : l[i]? = some x) (hx : x.1.nm = t) (hn : ∀ j y,j < i → l[j]? = some y → y.1.nm ≠ t) : rFn m t = (x.1,(i : Int)):=by
 subst hm
 have h1 : (l.map (·.1))[i]? = some x.1:=by simp [h]
 have h2:=findK_hit (fun y : Fn => y.nm) t (l.map (·.1)) 0 i x.1 h1 hx (fun j y hj hy => by
  rw [List.getElem?_map] at hy
  cases hl : l[j]? with
  | none => simp [hl] at hy
  | some z =>
   simp [hl] at hy
   subst hy
   exact hn j z hj hl)
 simp [rFn,h2]
theorem rFn_miss {l : List (Fn × FV)} {m : List Fn} (hm : l.map (·.1) = m) {t : List UInt8} (hn : ∀ (j : Nat) (y : Fn × FV),l[j]? = some y → y.1.nm ≠ t) : rFn m t = (fn00,-1):=by
 subst hm
 have h2:=findK_miss (fun y : Fn => y.nm) t (l.map (·.1)) 0 (fun j y hy => by
  rw [List.getElem?_map] at hy
  cases hl : l[j]? with
  | none => simp [hl] at hy
  | some z =>
   simp [hl] at hy
   subst hy
   exact hn j z hl)
 simp [rFn,h2]
theorem rglob_any {W : World} {B : Nat} {p : Pg} {v0 v1 v2 v3 : Value} {rf : List (Fn × FV)} {rt : List (List Stm × Value)} (R : Hid (PRows B W p v0 v1 v2 v3 rf rt)) (d : Int) (zl : Option Addr) (nl kl : Nat) (t : ByteArray) (hg : p.gs.length ≤ 1000) :
 Calls Try.prog 35 #[.agg #[v0,v1,v2,v3,.int .i64 d,.slice zl nl kl],.string t] W fun e w' => Below W.heap.size W w' ∧ e = .returned (.tuple #[glVal (rGl p.gs t.data.toList).1,.int .i64 (rGl p.gs t.data.toList).2]):=by
 obtain ⟨z0,k0,rfl⟩:=own_form R.out.g
 obtain ⟨z1,k1,rfl⟩:=own_form R.out.l
 obtain ⟨z2,k2,rfl⟩:=own_form R.out.f
 obtain ⟨z3,k3,rfl⟩:=own_form R.out.t
 obtain ⟨n0,hn0⟩ : ∃ n,p.gs.length = n:=⟨_,rfl⟩
 obtain ⟨n1,hn1⟩ : ∃ n,p.ls.length = n:=⟨_,rfl⟩
 obtain ⟨n2,hn2⟩ : ∃ n,p.fs.length = n:=⟨_,rfl⟩
 obtain ⟨n3,hn3⟩ : ∃ n,p.ths.length = n:=⟨_,rfl⟩
 have HN : Hid (p.gs.length = n0):=hid hn0
 have HR0 : Hid (W.ownsRow B 56 6 (.slice z0 n0 k0) n0 (p.gs.flatMap glCells)):=hid (by (have:=R.out.g;rwa [hn0] at this))
 rw [hn0] at hg
 rw [hn0,hn1,hn2,hn3]
 clear hn0 hn1 hn2 hn3 R
 go_enter Try.func35,Try.ntmps35
 go_upto_region 2 with (fail)
 refine name_world ?_
 intro W1 hW1
 have HB1 : Hid (Below W.heap.size W W1):=hid (by (rw [hW1];exact (below_of_alloc _ _).alloc (by simp) _))
 have hm1 : W1.heap[W.heap.size]? = some (.cells #[.slice z0 n0 k0,.slice z1 n1 k1,.slice z2 n2 k2,.slice z3 n3 k3,.int .i64 d,.slice zl nl kl] 38 (0,0)):=by (rw [hW1];exact (Below.heap_alloc _ _ _ (by simp)).trans (heap_alloc_new _ _))
 have HZ1 : Hid (GBlk W1 (W.heap.size + 1) 0 ⟨#[]⟩ false false 0 ⟨#[]⟩):=hid (by (rw [hW1];exact GBlk.new (by simp)))
 have HM1:=hid hm1
 have HS0:=hid (own_below HR0.out HB1.out)
 have hM : W.heap.size < W1.heap.size:=(Array.getElem?_eq_some_iff.1 hm1).1
 clear hW1 hm1 HR0
 go_loopw [6] (fun iv wr => ∃ i : Nat,iv = .int .i64 i ∧ i ≤ n0 ∧ Below W1.heap.size W1 wr ∧ ∀ (j : Nat) y,j < i → p.gs[j]? = some y → y.nm ≠ t.data.toList) (fun iv _ => n0 - (intOf iv).toNat)
 case atStart => exact ⟨0,rfl,Nat.zero_le _,Below.refl _ _,fun j y hj => absurd hj (Nat.not_lt_zero _)⟩
 case round =>
  obtain ⟨i,rfl,hi,hbr,hno⟩:=hrel
  have HBR:=hid hbr
  have HNO:=hid hno
  have hm : wr.heap[W.heap.size]? = some (.cells #[.slice z0 n0 k0,.slice z1 n1 k1,.slice z2 n2 k2,.slice z3 n3 k3,.int .i64 d,.slice zl nl kl] 38 (0,0)):=(hbr.block _ hM).trans HM1.out
  have hml : W.heap.size < wr.heap.size:=(Array.getElem?_eq_some_iff.1 hm).1
  have m0 : wr.cell? ⟨W.heap.size,0,none⟩ = some (.slice z0 n0 k0):=cell_of_row _ _ _ _ _ _ hm
  clear hm hno
  by_cases hin : i < n0
  · obtain ⟨x,hx⟩ : ∃ x,p.gs[i]? = some x:=⟨_,List.getElem?_eq_getElem (by (have:=HN.out;omega))⟩
    obtain ⟨gx,cx,ez,hgx,_⟩:=row_some HS0.out (show 0 < n0 by omega)
    cases ez
    have hrw:=own_below HS0.out hbr
    have d0 : wr.cell? ⟨gx,i * 6,none⟩ = some (.int .i64 x.a):=plain_cell (K:=6) (f:=glCells) (fun _ => rfl) hrw hx (j:=0) rfl
    have d1 : wr.cell? ⟨gx,i * 6 + 1,none⟩ = some (.string (bstr x.nm)):=plain_cell (K:=6) (f:=glCells) (fun _ => rfl) hrw hx (j:=1) rfl
    have d2 : wr.cell? ⟨gx,i * 6 + 2,none⟩ = some (.bool x.tr):=plain_cell (K:=6) (f:=glCells) (fun _ => rfl) hrw hx (j:=2) rfl
    have d3 : wr.cell? ⟨gx,i * 6 + 3,none⟩ = some (.bool x.sc):=plain_cell (K:=6) (f:=glCells) (fun _ => rfl) hrw hx (j:=3) rfl
    have d4 : wr.cell? ⟨gx,i * 6 + 4,none⟩ = some (.int .i64 x.len):=plain_cell (K:=6) (f:=glCells) (fun _ => rfl) hrw hx (j:=4) rfl
    have d5 : wr.cell? ⟨gx,i * 6 + 5,none⟩ = some (.string (bstr x.by_)):=plain_cell (K:=6) (f:=glCells) (fun _ => rfl) hrw hx (j:=5) rfl
    have hgw : gx < wr.heap.size:=Nat.lt_of_lt_of_le hgx hbr.size
    have hlt : (i : Int) < (n0 : Int):=by omega
    have hi0 : (0 : Int) ≤ (i : Int):=Int.natCast_nonneg _
    have HX:=hid hx
    clear hrw hx hbr
    by_cases hq : x.nm = t.data.toList
    · have hqb : ((bstr x.nm).toList == t.toList) = true:=bs_same (by (rw [bstr_list];exact hq))
      have HQ:=hid hq
      clear hq
      have hZ:=HZ1.out.stay HBR.out
      have HZ:=hid hZ
      obtain ⟨yl,⟨y0,y1,y2,y3,y4,y5⟩,yf0,yf1,yf2,yf3,yf4,yf5⟩:=hZ.facts
      go_wp2
      refine bodyPost_ret (results_gn rfl _ rfl rfl HZ.out.all) rfl ⟨?_,?_⟩
      · exact (((((((below_ch HB1.out HBR.out).setCell (by simp) _).setCell (by simp) _).setCell (by simp) _).setCell (by simp) _).setCell (by simp) _).setCell (by simp) _)
      · rw [rGl_hit HX.out HQ.out HNO.out]
        rfl
    · have hqb : ((bstr x.nm).toList == t.toList) = false:=bs_ne (by (rw [bstr_list];exact hq))
      have HQ:=hid hq
      clear hq
      go_wp2
      go_roundw
      case rel =>
       refine ⟨i + 1,by go_num,by omega,HBR.out,fun j y hj hy => ?_⟩
       by_cases hji : j < i
       · exact HNO.out j y hji hy
       · obtain rfl : j = i:=by omega
         have e:=HX.out.symm.trans hy
         cases e
         exact HQ.out
      case measure =>
       simp [intOf]
       omega
  · have hlt : ¬ (i : Int) < (n0 : Int):=by omega
    obtain rfl : n0 = i:=by omega
    have HMI : Hid (∀ (j : Nat) y,p.gs[j]? = some y → y.nm ≠ t.data.toList):=hid fun j y hy => HNO.out j y (by (have:=(List.getElem?_eq_some_iff.1 hy).1;have:=HN.out;omega)) hy
    have hZ:=HZ1.out.stay HBR.out
    have HZ:=hid hZ
    obtain ⟨yl,⟨y0,y1,y2,y3,y4,y5⟩,yf0,yf1,yf2,yf3,yf4,yf5⟩:=hZ.facts
    go_wp2
    refine bodyPost_ret (results_gn rfl _ rfl rfl HZ.out.all) rfl ⟨?_,?_⟩
    · exact (((((((below_ch HB1.out HBR.out).setCell (by simp) _).setCell (by simp) _).setCell (by simp) _).setCell (by simp) _).setCell (by simp) _).setCell (by simp) _)
    · rw [rGl_miss HMI.out]
      rfl
theorem rlock_any {W : World} {B : Nat} {p : Pg} {v0 v1 v2 v3 : Value} {rf : List (Fn × FV)} {rt : List (List Stm × Value)} (R : Hid (PRows B W p v0 v1 v2 v3 rf rt)) (d : Int) (zl : Option Addr) (nl kl : Nat) (t : ByteArray) (hg : p.ls.length ≤ 1000) :
 Calls Try.prog 38 #[.agg #[v0,v1,v2,v3,.int .i64 d,.slice zl nl kl],.string t] W fun e w' => Below W.heap.size W w' ∧ e = .returned (.int .i64 (rLk p.ls t.data.toList)):=by
 obtain ⟨z0,k0,rfl⟩:=own_form R.out.g
 obtain ⟨z1,k1,rfl⟩:=own_form R.out.l
 obtain ⟨z2,k2,rfl⟩:=own_form R.out.f
 obtain ⟨z3,k3,rfl⟩:=own_form R.out.t
 obtain ⟨n0,hn0⟩ : ∃ n,p.gs.length = n:=⟨_,rfl⟩
 obtain ⟨n1,hn1⟩ : ∃ n,p.ls.length = n:=⟨_,rfl⟩
 obtain ⟨n2,hn2⟩ : ∃ n,p.fs.length = n:=⟨_,rfl⟩
 obtain ⟨n3,hn3⟩ : ∃ n,p.ths.length = n:=⟨_,rfl⟩
 have HN : Hid (p.ls.length = n1):=hid hn1
 have HR0 : Hid (W.ownsRow B 95 2 (.slice z1 n1 k1) n1 (p.ls.flatMap lkCells)):=hid (by (have:=R.out.l;rwa [hn1] at this))
 rw [hn1] at hg
 rw [hn0,hn1,hn2,hn3]
 clear hn0 hn1 hn2 hn3 R
 go_enter Try.func38,Try.ntmps38
 go_upto_region 2 with (fail)
 refine name_world ?_
 intro W1 hW1
 have HB1 : Hid (Below W.heap.size W W1):=hid (by (rw [hW1];exact below_of_alloc _ _))
 have hm1 : W1.heap[W.heap.size]? = some (.cells #[.slice z0 n0 k0,.slice z1 n1 k1,.slice z2 n2 k2,.slice z3 n3 k3,.int .i64 d,.slice zl nl kl] 38 (0,0)):=by (rw [hW1];exact heap_alloc_new _ _)
 have HM1:=hid hm1
 have HS0:=hid (own_below HR0.out HB1.out)
 have hM : W.heap.size < W1.heap.size:=(Array.getElem?_eq_some_iff.1 hm1).1
 clear hW1 hm1 HR0
 go_loopw [5] (fun iv wr => ∃ i : Nat,iv = .int .i64 i ∧ i ≤ n1 ∧ Below W1.heap.size W1 wr ∧ ∀ (j : Nat) y,j < i → p.ls[j]? = some y → y.nm ≠ t.data.toList) (fun iv _ => n1 - (intOf iv).toNat)
 case atStart => exact ⟨0,rfl,Nat.zero_le _,Below.refl _ _,fun j y hj => absurd hj (Nat.not_lt_zero _)⟩
 case round =>
  obtain ⟨i,rfl,hi,hbr,hno⟩:=hrel
  have HBR:=hid hbr
  have HNO:=hid hno
  have hm : wr.heap[W.heap.size]? = some (.cells #[.slice z0 n0 k0,.slice z1 n1 k1,.slice z2 n2 k2,.slice z3 n3 k3,.int .i64 d,.slice zl nl kl] 38 (0,0)):=(hbr.block _ hM).trans HM1.out
  have hml : W.heap.size < wr.heap.size:=(Array.getElem?_eq_some_iff.1 hm).1
  have m1 : wr.cell? ⟨W.heap.size,1,none⟩ = some (.slice z1 n1 k1):=cell_of_row _ _ _ _ _ _ hm
  clear hm hno
  by_cases hin : i < n1
  · obtain ⟨x,hx⟩ : ∃ x,p.ls[i]? = some x:=⟨_,List.getElem?_eq_getElem (by (have:=HN.out;omega))⟩
    obtain ⟨gx,cx,ez,hgx,_⟩:=row_some HS0.out (show 0 < n1 by omega)
    cases ez
    have hrw:=own_below HS0.out hbr
    have d0 : wr.cell? ⟨gx,i * 2,none⟩ = some (.int .i64 x.a):=plain_cell (K:=2) (f:=lkCells) (fun _ => rfl) hrw hx (j:=0) rfl
    have d1 : wr.cell? ⟨gx,i * 2 + 1,none⟩ = some (.string (bstr x.nm)):=plain_cell (K:=2) (f:=lkCells) (fun _ => rfl) hrw hx (j:=1) rfl
    have hgw : gx < wr.heap.size:=Nat.lt_of_lt_of_le hgx hbr.size
    have hlt : (i : Int) < (n1 : Int):=by omega
    have hi0 : (0 : Int) ≤ (i : Int):=Int.natCast_nonneg _
    have HX:=hid hx
    clear hrw hx hbr
    by_cases hq : x.nm = t.data.toList
    · have hqb : ((bstr x.nm).toList == t.toList) = true:=bs_same (by (rw [bstr_list];exact hq))
      have HQ:=hid hq
      clear hq
      go_wp2
      go_ret
      exact ⟨below_ch HB1.out HBR.out,by (rw [rLk_hit HX.out HQ.out HNO.out];rfl)⟩
    · have hqb : ((bstr x.nm).toList == t.toList) = false:=bs_ne (by (rw [bstr_list];exact hq))
      have HQ:=hid hq
      clear hq
      go_wp2
      go_roundw
      case rel =>
       refine ⟨i + 1,by go_num,by omega,HBR.out,fun j y hj hy => ?_⟩
       by_cases hji : j < i
       · exact HNO.out j y hji hy
       · obtain rfl : j = i:=by omega
         have e:=HX.out.symm.trans hy
         cases e
         exact HQ.out
      case measure =>
       simp [intOf]
       omega
  · have hlt : ¬ (i : Int) < (n1 : Int):=by omega
    obtain rfl : n1 = i:=by omega
    have HMI : Hid (∀ (j : Nat) y,p.ls[j]? = some y → y.nm ≠ t.data.toList):=hid fun j y hy => HNO.out j y (by (have:=(List.getElem?_eq_some_iff.1 hy).1;have:=HN.out;omega)) hy
    go_wp2
    go_ret
    exact ⟨below_ch HB1.out HBR.out,by (rw [rLk_miss HMI.out];rfl)⟩
theorem rloc_any {W : World} {B2 : Nat} {ls : List Lc} {B : Nat} {p : Pg} {v0 v1 v2 v3 : Value} {rf : List (Fn × FV)} {rt : List (List Stm × Value)} (R : Hid (PRows B W p v0 v1 v2 v3 rf rt)) (d : Int) {zl : Option Addr} {nl kl : Nat} (hl : Hid (W.ownsRow B2 53 4 (.slice zl nl kl) ls.length (ls.flatMap lcCells))) (hll : ls.length ≤ 1000000) (t : ByteArray) :
 Calls Try.prog 60 #[.agg #[v0,v1,v2,v3,.int .i64 d,.slice zl nl kl],.string t] W fun e w' => Below W.heap.size W w' ∧ e = .returned (.int .i64 (rLo ls t.data.toList)):=by
 obtain ⟨z0,k0,rfl⟩:=own_form R.out.g
 obtain ⟨z1,k1,rfl⟩:=own_form R.out.l
 obtain ⟨z2,k2,rfl⟩:=own_form R.out.f
 obtain ⟨z3,k3,rfl⟩:=own_form R.out.t
 obtain ⟨n0,hn0⟩ : ∃ n,p.gs.length = n:=⟨_,rfl⟩
 obtain ⟨n1,hn1⟩ : ∃ n,p.ls.length = n:=⟨_,rfl⟩
 obtain ⟨n2,hn2⟩ : ∃ n,p.fs.length = n:=⟨_,rfl⟩
 obtain ⟨n3,hn3⟩ : ∃ n,p.ths.length = n:=⟨_,rfl⟩
 have enl : ls.length = nl:=own_len hl.out
 have HN : Hid (ls.length = nl):=hid enl
 have HR0 : Hid (W.ownsRow B2 53 4 (.slice zl nl kl) nl (ls.flatMap lcCells)):=hid (by (have:=hl.out;rwa [enl] at this))
 have hg : nl ≤ 1000000:=by (rw [← enl];exact hll)
 clear enl hl hll
 rw [hn0,hn1,hn2,hn3]
 clear hn0 hn1 hn2 hn3 R
 go_enter Try.func60,Try.ntmps60
 go_upto_region 2 with (fail)
 refine name_world ?_
 intro W1 hW1
 have HB1 : Hid (Below W.heap.size W W1):=hid (by (rw [hW1];exact below_of_alloc _ _))
 have hm1 : W1.heap[W.heap.size]? = some (.cells #[.slice z0 n0 k0,.slice z1 n1 k1,.slice z2 n2 k2,.slice z3 n3 k3,.int .i64 d,.slice zl nl kl] 38 (0,0)):=by (rw [hW1];exact heap_alloc_new _ _)
 have HM1:=hid hm1
 have HS0:=hid (own_below HR0.out HB1.out)
 have hM : W.heap.size < W1.heap.size:=(Array.getElem?_eq_some_iff.1 hm1).1
 clear hW1 hm1 HR0
 go_loopw [5] (fun iv wr => ∃ i : Nat,iv = .int .i64 i ∧ i ≤ nl ∧ Below W1.heap.size W1 wr ∧ ∀ (j : Nat) y,j < i → ls[j]? = some y → y.nm.data.toList ≠ t.data.toList) (fun iv _ => nl - (intOf iv).toNat)
 case atStart => exact ⟨0,rfl,Nat.zero_le _,Below.refl _ _,fun j y hj => absurd hj (Nat.not_lt_zero _)⟩
 case round =>
  obtain ⟨i,rfl,hi,hbr,hno⟩:=hrel
  have HBR:=hid hbr
  have HNO:=hid hno
  have hm : wr.heap[W.heap.size]? = some (.cells #[.slice z0 n0 k0,.slice z1 n1 k1,.slice z2 n2 k2,.slice z3 n3 k3,.int .i64 d,.slice zl nl kl] 38 (0,0)):=(hbr.block _ hM).trans HM1.out
  have hml : W.heap.size < wr.heap.size:=(Array.getElem?_eq_some_iff.1 hm).1
  have m5 : wr.cell? ⟨W.heap.size,5,none⟩ = some (.slice zl nl kl):=cell_of_row _ _ _ _ _ _ hm
  clear hm hno
  by_cases hin : i < nl
  · obtain ⟨x,hx⟩ : ∃ x,ls[i]? = some x:=⟨_,List.getElem?_eq_getElem (by (have:=HN.out;omega))⟩
    obtain ⟨gx,cx,ez,hgx,_⟩:=row_some HS0.out (show 0 < nl by omega)
    cases ez
    have hrw:=own_below HS0.out hbr
    have d0 : wr.cell? ⟨gx,i * 4,none⟩ = some (.string x.nm):=plain_cell (K:=4) (f:=lcCells) (fun _ => rfl) hrw hx (j:=0) rfl
    have d1 : wr.cell? ⟨gx,i * 4 + 1,none⟩ = some (.bool x.tr):=plain_cell (K:=4) (f:=lcCells) (fun _ => rfl) hrw hx (j:=1) rfl
    have d2 : wr.cell? ⟨gx,i * 4 + 2,none⟩ = some (.bool x.sc):=plain_cell (K:=4) (f:=lcCells) (fun _ => rfl) hrw hx (j:=2) rfl
    have d3 : wr.cell? ⟨gx,i * 4 + 3,none⟩ = some (.int .i64 x.dp):=plain_cell (K:=4) (f:=lcCells) (fun _ => rfl) hrw hx (j:=3) rfl
    have hgw : gx < wr.heap.size:=Nat.lt_of_lt_of_le hgx hbr.size
    have hlt : (i : Int) < (nl : Int):=by omega
    have hi0 : (0 : Int) ≤ (i : Int):=Int.natCast_nonneg _
    have HX:=hid hx
    clear hrw hx hbr
    by_cases hq : x.nm.data.toList = t.data.toList
    · have hqb : (x.nm.toList == t.toList) = true:=bs_same hq
      have HQ:=hid hq
      clear hq
      go_wp2
      go_ret
      exact ⟨below_ch HB1.out HBR.out,by (rw [rLo_hit HX.out HQ.out HNO.out];rfl)⟩
    · have hqb : (x.nm.toList == t.toList) = false:=bs_ne hq
      have HQ:=hid hq
      clear hq
      go_wp2
      go_roundw
      case rel =>
       refine ⟨i + 1,by go_num,by omega,HBR.out,fun j y hj hy => ?_⟩
       by_cases hji : j < i
       · exact HNO.out j y hji hy
       · obtain rfl : j = i:=by omega
         have e:=HX.out.symm.trans hy
         cases e
         exact HQ.out
      case measure =>
       simp [intOf]
       omega
  · have hlt : ¬ (i : Int) < (nl : Int):=by omega
    obtain rfl : nl = i:=by omega
    have HMI : Hid (∀ (j : Nat) y,ls[j]? = some y → y.nm.data.toList ≠ t.data.toList):=hid fun j y hy => HNO.out j y (by (have:=(List.getElem?_eq_some_iff.1 hy).1;have:=HN.out;omega)) hy
    go_wp2
    go_ret
    exact ⟨below_ch HB1.out HBR.out,by (rw [rLo_miss HMI.out];rfl)⟩
theorem rfunc_any {W : World} {B : Nat} {p : Pg} {v0 v1 v2 v3 : Value} {rf : List (Fn × FV)} {rt : List (List Stm × Value)} (R : Hid (PRows B W p v0 v1 v2 v3 rf rt)) (d : Int) (zl : Option Addr) (nl kl : Nat) (t : ByteArray) (hg : p.fs.length ≤ 1000) :
 Calls Try.prog 36 #[.agg #[v0,v1,v2,v3,.int .i64 d,.slice zl nl kl],.string t] W fun e w' => Below W.heap.size W w' ∧ ∃ z0 k0 z1 k1 z2 k2,e = .returned (.tuple #[fnVal (rFn p.fs t.data.toList).1 ⟨.slice z0 (rFn p.fs t.data.toList).1.ps.length k0,.slice z1 (rFn p.fs t.data.toList).1.bd.length k1,.slice z2 (rFn p.fs t.data.toList).1.ret.ks.length k2⟩,.int .i64 (rFn p.fs t.data.toList).2]):=by
 obtain ⟨z0,k0,rfl⟩:=own_form R.out.g
 obtain ⟨z1,k1,rfl⟩:=own_form R.out.l
 obtain ⟨z2,k2,rfl⟩:=own_form R.out.f
 obtain ⟨z3,k3,rfl⟩:=own_form R.out.t
 obtain ⟨n0,hn0⟩ : ∃ n,p.gs.length = n:=⟨_,rfl⟩
 obtain ⟨n1,hn1⟩ : ∃ n,p.ls.length = n:=⟨_,rfl⟩
 obtain ⟨n2,hn2⟩ : ∃ n,p.fs.length = n:=⟨_,rfl⟩
 obtain ⟨n3,hn3⟩ : ∃ n,p.ths.length = n:=⟨_,rfl⟩
 have HN : Hid (rf.length = n2):=hid (by (have h:=congrArg List.length R.out.ef;rw [List.length_map] at h;exact h.trans hn2))
 have HR0 : Hid (W.ownsRow B 65 12 (.slice z2 n2 k2) n2 (rf.flatMap fnF)):=hid (by (have:=R.out.f;rwa [hn2] at this))
 have HXF:=hid R.out.xf
 have HEF:=hid R.out.ef
 rw [hn2] at hg
 rw [hn0,hn1,hn2,hn3]
 clear hn0 hn1 hn2 hn3 R
 go_enter Try.func36,Try.ntmps36
 go_upto_region 2 with (fail)
 refine name_world ?_
 intro W1 hW1
 have HB1 : Hid (Below W.heap.size W W1):=hid (by (rw [hW1];exact (below_of_alloc _ _).alloc (by simp) _))
 have hm1 : W1.heap[W.heap.size]? = some (.cells #[.slice z0 n0 k0,.slice z1 n1 k1,.slice z2 n2 k2,.slice z3 n3 k3,.int .i64 d,.slice zl nl kl] 38 (0,0)):=by (rw [hW1];exact (Below.heap_alloc _ _ _ (by simp)).trans (heap_alloc_new _ _))
 have HZ1 : Hid (FBlk W1 (W.heap.size + 1) 0 ⟨#[]⟩ (.slice none 0 0) false false (.slice none 0 0) 0 0 0 ⟨#[]⟩ (.slice none 0 0) 0):=hid (by (rw [hW1];exact FBlk.new (by simp)))
 have HM1:=hid hm1
 have HS0:=hid (own_below HR0.out HB1.out)
 have hM : W.heap.size < W1.heap.size:=(Array.getElem?_eq_some_iff.1 hm1).1
 clear hW1 hm1 HR0
 go_loopw [6] (fun iv wr => ∃ i : Nat,iv = .int .i64 i ∧ i ≤ n2 ∧ Below W1.heap.size W1 wr ∧ ∀ (j : Nat) y,j < i → rf[j]? = some y → y.1.nm ≠ t.data.toList) (fun iv _ => n2 - (intOf iv).toNat)
 case atStart => exact ⟨0,rfl,Nat.zero_le _,Below.refl _ _,fun j y hj => absurd hj (Nat.not_lt_zero _)⟩
 case round =>
  obtain ⟨i,rfl,hi,hbr,hno⟩:=hrel
  have HBR:=hid hbr
  have HNO:=hid hno
  have hm : wr.heap[W.heap.size]? = some (.cells #[.slice z0 n0 k0,.slice z1 n1 k1,.slice z2 n2 k2,.slice z3 n3 k3,.int .i64 d,.slice zl nl kl] 38 (0,0)):=(hbr.block _ hM).trans HM1.out
  have hml : W.heap.size < wr.heap.size:=(Array.getElem?_eq_some_iff.1 hm).1
  have m2 : wr.cell? ⟨W.heap.size,2,none⟩ = some (.slice z2 n2 k2):=cell_of_row _ _ _ _ _ _ hm
  clear hm hno
  by_cases hin : i < n2
  · obtain ⟨x,hx⟩ : ∃ x,rf[i]? = some x:=⟨_,List.getElem?_eq_getElem (by (have:=HN.out;omega))⟩
    obtain ⟨gx,cx,ez,hgx,_⟩:=row_some HS0.out (show 0 < n2 by omega)
    cases ez
    have hrw:=own_below HS0.out hbr
    obtain ⟨⟨p0,c0,e0⟩,_⟩:=(HXF.out x (List.mem_of_getElem? hx)).1
    obtain ⟨p1,c1,e1⟩:=(HXF.out x (List.mem_of_getElem? hx)).2.1.form
    obtain ⟨p2,c2,e2⟩:=(HXF.out x (List.mem_of_getElem? hx)).2.2.form
    obtain ⟨y,vp,vb,vk⟩:=x
    simp only at e0 e1 e2
    subst e0 e1 e2
    have d0 : wr.cell? ⟨gx,i * 12,none⟩ = some (.int .i64 y.a):=plain_cell (K:=12) (f:=fnF) (fun _ => rfl) hrw hx (j:=0) rfl
    have d1 : wr.cell? ⟨gx,i * 12 + 1,none⟩ = some (.string (bstr y.nm)):=plain_cell (K:=12) (f:=fnF) (fun _ => rfl) hrw hx (j:=1) rfl
    have d2 : wr.cell? ⟨gx,i * 12 + 2,none⟩ = some (.slice p0 y.ps.length c0):=plain_cell (K:=12) (f:=fnF) (fun _ => rfl) hrw hx (j:=2) rfl
    have d3 : wr.cell? ⟨gx,i * 12 + 3,none⟩ = some (.bool y.tr):=plain_cell (K:=12) (f:=fnF) (fun _ => rfl) hrw hx (j:=3) rfl
    have d4 : wr.cell? ⟨gx,i * 12 + 4,none⟩ = some (.bool y.sc):=plain_cell (K:=12) (f:=fnF) (fun _ => rfl) hrw hx (j:=4) rfl
    have d5 : wr.cell? ⟨gx,i * 12 + 5,none⟩ = some (.slice p1 y.bd.length c1):=plain_cell (K:=12) (f:=fnF) (fun _ => rfl) hrw hx (j:=5) rfl
    have d6 : wr.cell? ⟨gx,i * 12 + 6,none⟩ = some (.int .i64 y.ret.k):=plain_cell (K:=12) (f:=fnF) (fun _ => rfl) hrw hx (j:=6) rfl
    have d7 : wr.cell? ⟨gx,i * 12 + 7,none⟩ = some (.int .i64 y.ret.op):=plain_cell (K:=12) (f:=fnF) (fun _ => rfl) hrw hx (j:=7) rfl
    have d8 : wr.cell? ⟨gx,i * 12 + 8,none⟩ = some (.int .i64 y.ret.n):=plain_cell (K:=12) (f:=fnF) (fun _ => rfl) hrw hx (j:=8) rfl
    have d9 : wr.cell? ⟨gx,i * 12 + 9,none⟩ = some (.string (bstr y.ret.nm)):=plain_cell (K:=12) (f:=fnF) (fun _ => rfl) hrw hx (j:=9) rfl
    have d10 : wr.cell? ⟨gx,i * 12 + 10,none⟩ = some (.slice p2 y.ret.ks.length c2):=plain_cell (K:=12) (f:=fnF) (fun _ => rfl) hrw hx (j:=10) rfl
    have d11 : wr.cell? ⟨gx,i * 12 + 11,none⟩ = some (.int .i64 y.ret.a):=plain_cell (K:=12) (f:=fnF) (fun _ => rfl) hrw hx (j:=11) rfl
    have hgw : gx < wr.heap.size:=Nat.lt_of_lt_of_le hgx hbr.size
    have hlt : (i : Int) < (n2 : Int):=by omega
    have hi0 : (0 : Int) ≤ (i : Int):=Int.natCast_nonneg _
    have HX:=hid hx
    clear hrw hx hbr
    by_cases hq : y.nm = t.data.toList
    · have hqb : ((bstr y.nm).toList == t.toList) = true:=bs_same (by (rw [bstr_list];exact hq))
      have HQ:=hid hq
      clear hq
      have hZ:=HZ1.out.stay HBR.out
      have HZ:=hid hZ
      obtain ⟨yl,⟨y0,y1,y2,y3,y4,y5,y6,y7,y8,y9,y10,y11⟩,⟨yf0,yf1,yf2,yf3,yf4,yf5,yf6,yf7,yf8,yf9,yf10,yf11⟩⟩:=hZ.facts
      go_wp2
      refine bodyPost_ret (results_fnn rfl _ rfl rfl HZ.out.all) rfl ⟨?_,?_⟩
      · exact (((((((((((((below_ch HB1.out HBR.out).setCell (by simp) _).setCell (by simp) _).setCell (by simp) _).setCell (by simp) _).setCell (by simp) _).setCell (by simp) _).setCell (by simp) _).setCell (by simp) _).setCell (by simp) _).setCell (by simp) _).setCell (by simp) _).setCell (by simp) _)
      · rw [rFn_hit HEF.out HX.out HQ.out HNO.out]
        exact ⟨p0,c0,p1,c1,p2,c2,rfl⟩
    · have hqb : ((bstr y.nm).toList == t.toList) = false:=bs_ne (by (rw [bstr_list];exact hq))
      have HQ:=hid hq
      clear hq
      go_wp2
      go_roundw
      case rel =>
       refine ⟨i + 1,by go_num,by omega,HBR.out,fun j y hj hy => ?_⟩
       by_cases hji : j < i
       · exact HNO.out j y hji hy
       · obtain rfl : j = i:=by omega
         have e:=HX.out.symm.trans hy
         cases e
         exact HQ.out
      case measure =>
       simp [intOf]
       omega
  · have hlt : ¬ (i : Int) < (n2 : Int):=by omega
    obtain rfl : n2 = i:=by omega
    have HMI : Hid (∀ (j : Nat) y,rf[j]? = some y → y.1.nm ≠ t.data.toList):=hid fun j y hy => HNO.out j y (by (have:=(List.getElem?_eq_some_iff.1 hy).1;have:=HN.out;omega)) hy
    have hZ:=HZ1.out.stay HBR.out
    have HZ:=hid hZ
    obtain ⟨yl,⟨y0,y1,y2,y3,y4,y5,y6,y7,y8,y9,y10,y11⟩,⟨yf0,yf1,yf2,yf3,yf4,yf5,yf6,yf7,yf8,yf9,yf10,yf11⟩⟩:=hZ.facts
    go_wp2
    refine bodyPost_ret (results_fnn rfl _ rfl rfl HZ.out.all) rfl ⟨?_,?_⟩
    · exact (((((((((((((below_ch HB1.out HBR.out).setCell (by simp) _).setCell (by simp) _).setCell (by simp) _).setCell (by simp) _).setCell (by simp) _).setCell (by simp) _).setCell (by simp) _).setCell (by simp) _).setCell (by simp) _).setCell (by simp) _).setCell (by simp) _).setCell (by simp) _)
    · rw [rFn_miss HEF.out HMI.out]
      exact ⟨none,0,none,0,none,0,rfl⟩
theorem infoTd : (Try.prog.info? 104).map (fun i => (i.zero,i.size,i.bytes)) = some (some (.agg #[.string ⟨#[]⟩,.int .i64 0]),2,24):=by kernel_rfl
theorem rall_any {B : Nat} {W : World} {p : Pg} {v0 v1 v2 v3 : Value} {rf : List (Fn × FV)} {rt : List (List Stm × Value)} (R : Hid (PRows B W p v0 v1 v2 v3 rf rt)) (hg : p.gs.length ≤ 1000) (hl : p.ls.length ≤ 1000) (hf : p.fs.length ≤ 1000) :
 Calls Try.prog 30 #[.agg #[v0,v1,v2,v3]] W fun e w' => Below W.heap.size W w' ∧ ∃ v,e = .returned v ∧ w'.ownsRow W.heap.size 104 2 v (thingsL p).length ((thingsL p).flatMap nmCells):=by
 obtain ⟨i0,hinf,hzi0,hzi1,hzi2⟩:=info_parts infoTd
 obtain ⟨z0,k0,rfl⟩:=own_form R.out.g
 obtain ⟨z1,k1,rfl⟩:=own_form R.out.l
 obtain ⟨z2,k2,rfl⟩:=own_form R.out.f
 obtain ⟨z3,k3,rfl⟩:=own_form R.out.t
 obtain ⟨n0,hn0⟩ : ∃ n,p.gs.length = n:=⟨_,rfl⟩
 obtain ⟨n1,hn1⟩ : ∃ n,p.ls.length = n:=⟨_,rfl⟩
 obtain ⟨n2,hn2⟩ : ∃ n,p.fs.length = n:=⟨_,rfl⟩
 obtain ⟨n3,hn3⟩ : ∃ n,p.ths.length = n:=⟨_,rfl⟩
 have HN : Hid (p.gs.length = n0 ∧ p.ls.length = n1 ∧ rf.length = n2):=hid ⟨hn0,hn1,by (have h:=congrArg List.length R.out.ef;rw [List.length_map] at h;exact h.trans hn2)⟩
 have HR0 : Hid (W.ownsRow B 56 6 (.slice z0 n0 k0) n0 (p.gs.flatMap glCells)):=hid (by (have:=R.out.g;rwa [hn0] at this))
 have HR1 : Hid (W.ownsRow B 95 2 (.slice z1 n1 k1) n1 (p.ls.flatMap lkCells)):=hid (by (have:=R.out.l;rwa [hn1] at this))
 have HR2 : Hid (W.ownsRow B 65 12 (.slice z2 n2 k2) n2 (rf.flatMap fnF)):=hid (by (have:=R.out.f;rwa [hn2] at this))
 have HEF:=hid R.out.ef
 rw [hn0] at hg
 rw [hn1] at hl
 rw [hn2] at hf
 rw [hn0,hn1,hn2,hn3]
 clear hn0 hn1 hn2 hn3 R
 obtain ⟨bs,hbs⟩ : ∃ n,W.heap.size = n:=⟨_,rfl⟩
 go_enter Try.func30,Try.ntmps30
 go_upto_region 3 with (fail)
 refine name_world ?_
 intro W1 hW1
 have HB1 : Hid (Below W.heap.size W W1):=hid (by (rw [hW1];exact below_of_alloc _ _))
 have hm1 : W1.heap[bs]? = some (.cells #[.slice z0 n0 k0,.slice z1 n1 k1,.slice z2 n2 k2,.slice z3 n3 k3] 29 (0,0)):=by (rw [hW1,← hbs];exact heap_alloc_new _ _)
 have HM1:=hid hm1
 have HS0 : Hid (W1.ownsRow B 56 6 (.slice z0 n0 k0) n0 (p.gs.flatMap glCells)):=hid (own_below HR0.out HB1.out)
 have HS1 : Hid (W1.ownsRow B 95 2 (.slice z1 n1 k1) n1 (p.ls.flatMap lkCells)):=hid (own_below HR1.out HB1.out)
 have HS2 : Hid (W1.ownsRow B 65 12 (.slice z2 n2 k2) n2 (rf.flatMap fnF)):=hid (own_below HR2.out HB1.out)
 have hM : bs < W1.heap.size:=(Array.getElem?_eq_some_iff.1 hm1).1
 have HBS:=hid hbs
 try simp only [hbs]
 clear hW1 hm1 HR0 HR1 HR2 hbs
 go_loopw [3,4] (fun tv iv wr => ∃ (i : Nat) (v : Value),tv = v ∧ iv = .int .i64 i ∧ i ≤ n0 ∧ Below W1.heap.size W1 wr ∧ wr.ownsRow W1.heap.size 104 2 v (([] : List (ByteArray × Int)) ++ (p.gs.take i).map glNm).length ((([] : List (ByteArray × Int)) ++ (p.gs.take i).map glNm).flatMap nmCells)) (fun _ iv _ => n0 - (intOf iv).toNat)
 case atStart => exact ⟨0,_,rfl,rfl,Nat.zero_le _,Below.refl _ _,World.ownsRow_nil _ _ _ _⟩
 case round =>
  obtain ⟨i,v,rfl,rfl,hi,hbr,hown⟩:=hrel
  have HBR:=hid hbr
  have HOW:=hid hown
  have hm : wr.heap[bs]? = some (.cells #[.slice z0 n0 k0,.slice z1 n1 k1,.slice z2 n2 k2,.slice z3 n3 k3] 29 (0,0)):=(HBR.out.block _ hM).trans HM1.out
  have hml : bs < wr.heap.size:=(Array.getElem?_eq_some_iff.1 hm).1
  by_cases hin : i < n0
  · obtain ⟨x,hx⟩ : ∃ x,p.gs[i]? = some x:=⟨_,List.getElem?_eq_getElem (by (have:=HN.out.1;omega))⟩
    obtain ⟨gx,cx,ez,hgx,_⟩:=row_some HS0.out (show 0 < n0 by omega)
    cases ez
    have mk : wr.cell? ⟨bs,0,none⟩ = some (.slice (some ⟨gx,0,none⟩) n0 k0):=cell_of_row _ _ _ _ _ _ hm
    have hrw:=own_below HS0.out (hbr.mono (Nat.le_refl _))
    have d0 : wr.cell? ⟨gx,i * 6,none⟩ = some (.int .i64 x.a):=plain_cell (K:=6) (f:=glCells) (fun _ => rfl) hrw hx (j:=0) rfl
    have d1 : wr.cell? ⟨gx,i * 6 + 1,none⟩ = some (.string (bstr x.nm)):=plain_cell (K:=6) (f:=glCells) (fun _ => rfl) hrw hx (j:=1) rfl
    have hgw : gx < wr.heap.size:=Nat.lt_of_lt_of_le hgx hbr.size
    have hlt : (i : Int) < (n0 : Int):=by omega
    have hi0 : (0 : Int) ≤ (i : Int):=Int.natCast_nonneg _
    have HX:=hid hx
    have hcnt : (([] : List (ByteArray × Int)) ++ (p.gs.take i).map glNm).length ≤ 3000:=by (have:=HN.out;have hc1 : (p.gs.take i).length ≤ i:=List.length_take_le _ _;simp only [List.length_append,List.length_map,List.length_nil];omega)
    have hBW2 : W1.heap.size ≤ wr.heap.size:=hbr.size
    have ag : u3.ownBlock ≠ some gx:=fun h => by (have:=own_memN HOW.out gx h;omega)
    have ab : u3.ownBlock ≠ some bs:=fun h => by (have:=own_memN HOW.out bs h;omega)
    obtain ⟨tl,etl⟩ : ∃ l,(([] : List (ByteArray × Int)) ++ (p.gs.take i).map glNm) = l:=⟨_,rfl⟩
    have HTL:=hid etl
    rw [etl] at hcnt HOW hown
    obtain ⟨tn,etn⟩ : ∃ n,tl.length = n:=⟨_,rfl⟩
    have HTN:=hid etn
    rw [etn] at hcnt HOW hown
    clear hrw hx hbr hm etl etn
    go_upto_region 5 with (fail)
    go_region_held3 (fun w' => w'.cell? ⟨bs,0,none⟩ = some (.slice (some ⟨gx,0,none⟩) n0 k0) ∧ w'.cell? ⟨gx,i * 6,none⟩ = some (.int .i64 x.a) ∧ w'.cell? ⟨gx,i * 6 + 1,none⟩ = some (.string (bstr x.nm)))
     (first
       | go_keep
       | (go_split_ands
          refine ⟨?_,?_,?_⟩
          · (rw [hgrow.cell_far _ (by simp;omega) (Ne.symm ab)];assumption)
          · (rw [hgrow.cell_far _ (by simp;omega) (Ne.symm ag)];assumption)
          · (rw [hgrow.cell_far _ (by simp;omega) (Ne.symm ag)];assumption)))
     ((refine step_append_lies _ (by rfl) _ _ _ (by rfl) W1.heap.size 104 i0 _ 2 24 Try.underlying101 hinf hzi0 hzi1 hzi2 rfl (by omega) _ tn (tl.flatMap nmCells) (by rfl) ((hown.alloc _).drew)
        ⟨wr.heap.size,0,none⟩ 1 1 [.string (bstr x.nm),.int .i64 x.a] (by rfl) (by rfl) (World.news_of_block (cs:=#[.string (bstr x.nm),.int .i64 x.a]) (t:=104) (fr:=(0,0)) (heap_alloc_new wr _)) nm_one
        (by omega) (by unfold maxLen;omega) (by omega) (by simp;omega) (wr.heap.size + 1) (by simp) ?_;intro gg cap2 w1 hown3 hgrow hat hlt3))
    go_wp2
    go_roundw
    case rel =>
     have e : ([] : List (ByteArray × Int)) ++ (p.gs.take (i + 1)).map glNm = tl ++ [glNm x]:=by
      rw [List.take_add_one,HX.out,← HTL.out]
      simp
     refine ⟨i + 1,_,rfl,by go_num,by omega,(((HBR.out.alloc hBW2 _).drew).grown hgrow (by simp;omega) (own_memN HOW.out)),?_⟩
     rw [e,List.length_append,List.flatMap_append,HTN.out]
     exact hown3
    case measure =>
     simp [intOf]
     omega
  · have hlt : ¬ (i : Int) < (n0 : Int):=by omega
    obtain rfl : n0 = i:=by omega
    have et : p.gs.take n0 = p.gs:=by (rw [← HN.out.1];exact List.take_length)
    rw [et] at HOW
    have mk : wr.cell? ⟨bs,0,none⟩ = some (.slice z0 n0 k0):=cell_of_row _ _ _ _ _ _ hm
    clear et hbr hown hm
    have m1 : wr.cell? ⟨bs,1,none⟩ = some (.slice z1 n1 k1):=cell_of_row _ _ _ _ _ _ ((HBR.out.block _ hM).trans HM1.out)
    go_upto_region 7 with (fail)
    have HBA:=HBR
    have HOA:=HOW
    clear HOW HBR mk m1
    go_loopw [3,5] (fun tv iv wr => ∃ (i : Nat) (v : Value),tv = v ∧ iv = .int .i64 i ∧ i ≤ n1 ∧ Below W1.heap.size W1 wr ∧ wr.ownsRow W1.heap.size 104 2 v ((p.gs.map glNm) ++ (p.ls.take i).map lkNm).length (((p.gs.map glNm) ++ (p.ls.take i).map lkNm).flatMap nmCells)) (fun _ iv _ => n1 - (intOf iv).toNat)
    case atStart => exact ⟨0,_,rfl,rfl,Nat.zero_le _,HBA.out,by (rw [List.take_zero,List.map_nil,List.append_nil];exact HOA.out)⟩
    case round =>
     obtain ⟨i,v,rfl,rfl,hi,hbr,hown⟩:=hrel
     have HBR:=hid hbr
     have HOW:=hid hown
     have hm : wr.heap[bs]? = some (.cells #[.slice z0 n0 k0,.slice z1 n1 k1,.slice z2 n2 k2,.slice z3 n3 k3] 29 (0,0)):=(HBR.out.block _ hM).trans HM1.out
     have hml : bs < wr.heap.size:=(Array.getElem?_eq_some_iff.1 hm).1
     by_cases hin : i < n1
     · obtain ⟨x,hx⟩ : ∃ x,p.ls[i]? = some x:=⟨_,List.getElem?_eq_getElem (by (have:=HN.out.2.1;omega))⟩
       obtain ⟨gx,cx,ez,hgx,_⟩:=row_some HS1.out (show 0 < n1 by omega)
       cases ez
       have mk : wr.cell? ⟨bs,1,none⟩ = some (.slice (some ⟨gx,0,none⟩) n1 k1):=cell_of_row _ _ _ _ _ _ hm
       have hrw:=own_below HS1.out (hbr.mono (Nat.le_refl _))
       have d0 : wr.cell? ⟨gx,i * 2,none⟩ = some (.int .i64 x.a):=plain_cell (K:=2) (f:=lkCells) (fun _ => rfl) hrw hx (j:=0) rfl
       have d1 : wr.cell? ⟨gx,i * 2 + 1,none⟩ = some (.string (bstr x.nm)):=plain_cell (K:=2) (f:=lkCells) (fun _ => rfl) hrw hx (j:=1) rfl
       have hgw : gx < wr.heap.size:=Nat.lt_of_lt_of_le hgx hbr.size
       have hlt : (i : Int) < (n1 : Int):=by omega
       have hi0 : (0 : Int) ≤ (i : Int):=Int.natCast_nonneg _
       have HX:=hid hx
       have hcnt : ((p.gs.map glNm) ++ (p.ls.take i).map lkNm).length ≤ 3000:=by (have:=HN.out;have hc1 : (p.ls.take i).length ≤ i:=List.length_take_le _ _;simp only [List.length_append,List.length_map,List.length_nil];omega)
       have hBW2 : W1.heap.size ≤ wr.heap.size:=hbr.size
       have ag : u3.ownBlock ≠ some gx:=fun h => by (have:=own_memN HOW.out gx h;omega)
       have ab : u3.ownBlock ≠ some bs:=fun h => by (have:=own_memN HOW.out bs h;omega)
       obtain ⟨tl,etl⟩ : ∃ l,((p.gs.map glNm) ++ (p.ls.take i).map lkNm) = l:=⟨_,rfl⟩
       have HTL:=hid etl
       rw [etl] at hcnt HOW hown
       obtain ⟨tn,etn⟩ : ∃ n,tl.length = n:=⟨_,rfl⟩
       have HTN:=hid etn
       rw [etn] at hcnt HOW hown
       clear hrw hx hbr hm etl etn
       go_upto_region 9 with (fail)
       go_region_held3 (fun w' => w'.cell? ⟨bs,1,none⟩ = some (.slice (some ⟨gx,0,none⟩) n1 k1) ∧ w'.cell? ⟨gx,i * 2,none⟩ = some (.int .i64 x.a) ∧ w'.cell? ⟨gx,i * 2 + 1,none⟩ = some (.string (bstr x.nm)))
        (first
          | go_keep
          | (go_split_ands
             refine ⟨?_,?_,?_⟩
             · (rw [hgrow.cell_far _ (by simp;omega) (Ne.symm ab)];assumption)
             · (rw [hgrow.cell_far _ (by simp;omega) (Ne.symm ag)];assumption)
             · (rw [hgrow.cell_far _ (by simp;omega) (Ne.symm ag)];assumption)))
        ((refine step_append_lies _ (by rfl) _ _ _ (by rfl) W1.heap.size 104 i0 _ 2 24 Try.underlying101 hinf hzi0 hzi1 hzi2 rfl (by omega) _ tn (tl.flatMap nmCells) (by rfl) ((hown.alloc _).drew)
           ⟨wr.heap.size,0,none⟩ 1 1 [.string (bstr x.nm),.int .i64 x.a] (by rfl) (by rfl) (World.news_of_block (cs:=#[.string (bstr x.nm),.int .i64 x.a]) (t:=104) (fr:=(0,0)) (heap_alloc_new wr _)) nm_one
           (by omega) (by unfold maxLen;omega) (by omega) (by simp;omega) (wr.heap.size + 1) (by simp) ?_;intro gg cap2 w1 hown3 hgrow hat hlt3))
       go_wp2
       go_roundw
       case rel =>
        have e : (p.gs.map glNm) ++ (p.ls.take (i + 1)).map lkNm = tl ++ [lkNm x]:=by
         rw [List.take_add_one,HX.out,← HTL.out]
         simp
        refine ⟨i + 1,_,rfl,by go_num,by omega,(((HBR.out.alloc hBW2 _).drew).grown hgrow (by simp;omega) (own_memN HOW.out)),?_⟩
        rw [e,List.length_append,List.flatMap_append,HTN.out]
        exact hown3
       case measure =>
        simp [intOf]
        omega
     · have hlt : ¬ (i : Int) < (n1 : Int):=by omega
       obtain rfl : n1 = i:=by omega
       have et : p.ls.take n1 = p.ls:=by (rw [← HN.out.2.1];exact List.take_length)
       rw [et] at HOW
       have mk : wr.cell? ⟨bs,1,none⟩ = some (.slice z1 n1 k1):=cell_of_row _ _ _ _ _ _ hm
       clear et hbr hown hm
       have m2 : wr.cell? ⟨bs,2,none⟩ = some (.slice z2 n2 k2):=cell_of_row _ _ _ _ _ _ ((HBR.out.block _ hM).trans HM1.out)
       go_upto_region 11 with (fail)
       have HBA:=HBR
       have HOA:=HOW
       clear HOW HBR mk m2
       go_loopw [3,6] (fun tv iv wr => ∃ (i : Nat) (v : Value),tv = v ∧ iv = .int .i64 i ∧ i ≤ n2 ∧ Below W1.heap.size W1 wr ∧ wr.ownsRow W1.heap.size 104 2 v ((p.gs.map glNm ++ p.ls.map lkNm) ++ (rf.take i).map rfNm).length (((p.gs.map glNm ++ p.ls.map lkNm) ++ (rf.take i).map rfNm).flatMap nmCells)) (fun _ iv _ => n2 - (intOf iv).toNat)
       case atStart => exact ⟨0,_,rfl,rfl,Nat.zero_le _,HBA.out,by (rw [List.take_zero,List.map_nil,List.append_nil];exact HOA.out)⟩
       case round =>
        obtain ⟨i,v,rfl,rfl,hi,hbr,hown⟩:=hrel
        have HBR:=hid hbr
        have HOW:=hid hown
        have hm : wr.heap[bs]? = some (.cells #[.slice z0 n0 k0,.slice z1 n1 k1,.slice z2 n2 k2,.slice z3 n3 k3] 29 (0,0)):=(HBR.out.block _ hM).trans HM1.out
        have hml : bs < wr.heap.size:=(Array.getElem?_eq_some_iff.1 hm).1
        by_cases hin : i < n2
        · obtain ⟨x,hx⟩ : ∃ x,rf[i]? = some x:=⟨_,List.getElem?_eq_getElem (by (have:=HN.out.2.2;omega))⟩
          obtain ⟨gx,cx,ez,hgx,_⟩:=row_some HS2.out (show 0 < n2 by omega)
          cases ez
          have mk : wr.cell? ⟨bs,2,none⟩ = some (.slice (some ⟨gx,0,none⟩) n2 k2):=cell_of_row _ _ _ _ _ _ hm
          have hrw:=own_below HS2.out (hbr.mono (Nat.le_refl _))
          have d0 : wr.cell? ⟨gx,i * 12,none⟩ = some (.int .i64 x.1.a):=plain_cell (K:=12) (f:=fnF) (fun _ => rfl) hrw hx (j:=0) rfl
          have d1 : wr.cell? ⟨gx,i * 12 + 1,none⟩ = some (.string (bstr x.1.nm)):=plain_cell (K:=12) (f:=fnF) (fun _ => rfl) hrw hx (j:=1) rfl
          have hgw : gx < wr.heap.size:=Nat.lt_of_lt_of_le hgx hbr.size
          have hlt : (i : Int) < (n2 : Int):=by omega
          have hi0 : (0 : Int) ≤ (i : Int):=Int.natCast_nonneg _
          have HX:=hid hx
          have hcnt : ((p.gs.map glNm ++ p.ls.map lkNm) ++ (rf.take i).map rfNm).length ≤ 3000:=by (have:=HN.out;have hc1 : (rf.take i).length ≤ i:=List.length_take_le _ _;simp only [List.length_append,List.length_map,List.length_nil];omega)
          have hBW2 : W1.heap.size ≤ wr.heap.size:=hbr.size
          have ag : u3.ownBlock ≠ some gx:=fun h => by (have:=own_memN HOW.out gx h;omega)
          have ab : u3.ownBlock ≠ some bs:=fun h => by (have:=own_memN HOW.out bs h;omega)
          obtain ⟨tl,etl⟩ : ∃ l,((p.gs.map glNm ++ p.ls.map lkNm) ++ (rf.take i).map rfNm) = l:=⟨_,rfl⟩
          have HTL:=hid etl
          rw [etl] at hcnt HOW hown
          obtain ⟨tn,etn⟩ : ∃ n,tl.length = n:=⟨_,rfl⟩
          have HTN:=hid etn
          rw [etn] at hcnt HOW hown
          clear hrw hx hbr hm etl etn
          go_upto_region 13 with (fail)
          go_region_held3 (fun w' => w'.cell? ⟨bs,2,none⟩ = some (.slice (some ⟨gx,0,none⟩) n2 k2) ∧ w'.cell? ⟨gx,i * 12,none⟩ = some (.int .i64 x.1.a) ∧ w'.cell? ⟨gx,i * 12 + 1,none⟩ = some (.string (bstr x.1.nm)))
           (first
             | go_keep
             | (go_split_ands
                refine ⟨?_,?_,?_⟩
                · (rw [hgrow.cell_far _ (by simp;omega) (Ne.symm ab)];assumption)
                · (rw [hgrow.cell_far _ (by simp;omega) (Ne.symm ag)];assumption)
                · (rw [hgrow.cell_far _ (by simp;omega) (Ne.symm ag)];assumption)))
           ((refine step_append_lies _ (by rfl) _ _ _ (by rfl) W1.heap.size 104 i0 _ 2 24 Try.underlying101 hinf hzi0 hzi1 hzi2 rfl (by omega) _ tn (tl.flatMap nmCells) (by rfl) ((hown.alloc _).drew)
              ⟨wr.heap.size,0,none⟩ 1 1 [.string (bstr x.1.nm),.int .i64 x.1.a] (by rfl) (by rfl) (World.news_of_block (cs:=#[.string (bstr x.1.nm),.int .i64 x.1.a]) (t:=104) (fr:=(0,0)) (heap_alloc_new wr _)) nm_one
              (by omega) (by unfold maxLen;omega) (by omega) (by simp;omega) (wr.heap.size + 1) (by simp) ?_;intro gg cap2 w1 hown3 hgrow hat hlt3))
          go_wp2
          go_roundw
          case rel =>
           have e : (p.gs.map glNm ++ p.ls.map lkNm) ++ (rf.take (i + 1)).map rfNm = tl ++ [rfNm x]:=by
            rw [List.take_add_one,HX.out,← HTL.out]
            simp
           refine ⟨i + 1,_,rfl,by go_num,by omega,(((HBR.out.alloc hBW2 _).drew).grown hgrow (by simp;omega) (own_memN HOW.out)),?_⟩
           rw [e,List.length_append,List.flatMap_append,HTN.out]
           exact hown3
          case measure =>
           simp [intOf]
           omega
        · have hlt : ¬ (i : Int) < (n2 : Int):=by omega
          obtain rfl : n2 = i:=by omega
          have et : rf.take n2 = rf:=by (rw [← HN.out.2.2];exact List.take_length)
          rw [et] at HOW
          have mk : wr.cell? ⟨bs,2,none⟩ = some (.slice z2 n2 k2):=cell_of_row _ _ _ _ _ _ hm
          clear et hbr hown hm
          go_wp2
          go_ret
          have e3 : p.gs.map glNm ++ p.ls.map lkNm ++ rf.map rfNm = thingsL p:=by
           unfold thingsL
           rw [← HEF.out,List.map_map]
           rfl
          rw [e3] at HOW
          exact ⟨below_ch HB1.out HBR.out,_,rfl,own_base HOW.out HB1.out.size⟩
end Go.Proofs.Ytbmmjomcjlpnlaa
namespace Go.Proofs.Ytbmmjomcjlpnlaa
open Go Go.RowKit
def rKd (p : Pg) (ls : List Lc) (t : List UInt8) : Int :=
 if 0 ≤ (rGl p.gs t).2 then 1 else if 0 ≤ rLk p.ls t then 2 else if 0 ≤ (rFn p.fs t).2 then 3 else if 0 ≤ rLo ls t then 4 else 0
def ZSb (X : World) (n : Nat) (v0 v1 v2 v3 : Value) (d : Int) (lv : Value) : Prop:=X.heap[n]? = some (.cells #[v0,v1,v2,v3,.int .i64 d,lv] 38 (0,0))
section
variable {X Y : World} {n : Nat} {v0 v1 v2 v3 lv : Value} {d : Int}
theorem ZSb.facts (h : ZSb X n v0 v1 v2 v3 d lv) : n < X.heap.size ∧ (X.cell? ⟨n,0,none⟩ = some v0 ∧ X.cell? ⟨n,1,none⟩ = some v1 ∧ X.cell? ⟨n,2,none⟩ = some v2 ∧ X.cell? ⟨n,3,none⟩ = some v3 ∧ X.cell? ⟨n,4,none⟩ = some (.int .i64 d) ∧ X.cell? ⟨n,5,none⟩ = some lv) ∧ X.frozen? ⟨n,0,none⟩ = false ∧ X.frozen? ⟨n,1,none⟩ = false ∧ X.frozen? ⟨n,2,none⟩ = false ∧ X.frozen? ⟨n,3,none⟩ = false ∧ X.frozen? ⟨n,4,none⟩ = false ∧ X.frozen? ⟨n,5,none⟩ = false :=
 ⟨(Array.getElem?_eq_some_iff.1 h).1,⟨cell_of_row _ _ _ _ _ _ h,cell_of_row _ _ _ _ _ _ h,cell_of_row _ _ _ _ _ _ h,cell_of_row _ _ _ _ _ _ h,cell_of_row _ _ _ _ _ _ h,cell_of_row _ _ _ _ _ _ h⟩,frozen_of_row X n _ _ _ h,frozen_of_row X n _ _ _ h,frozen_of_row X n _ _ _ h,frozen_of_row X n _ _ _ h,frozen_of_row X n _ _ _ h,frozen_of_row X n _ _ _ h⟩
theorem ZSb.new (hn : n = X.heap.size) : ZSb (X.alloc (.cells #[v0,v1,v2,v3,.int .i64 d,lv] 38)) n v0 v1 v2 v3 d lv:=hn ▸ heap_alloc_new X _
theorem ZSb.alloc (h : ZSb X n v0 v1 v2 v3 d lv) (o : Obj) : ZSb (X.alloc o) n v0 v1 v2 v3 d lv:=(Below.heap_alloc X o n (Array.getElem?_eq_some_iff.1 h).1).trans h
theorem ZSb.stay (h : ZSb X n v0 v1 v2 v3 d lv) (hf : Below X.heap.size X Y) : ZSb Y n v0 v1 v2 v3 d lv:=(hf.block n (Array.getElem?_eq_some_iff.1 h).1).trans h
theorem ZSb.setO (h : ZSb X n v0 v1 v2 v3 d lv) {b : Nat} (hne : n ≠ b) (o : Nat) (v : Value) : ZSb (X.setCell ⟨b,o,none⟩ v) n v0 v1 v2 v3 d lv:=(heap_setCell_other X ⟨b,o,none⟩ n v hne).trans h
theorem ZSb.set4 (h : ZSb X n v0 v1 v2 v3 d lv) (e : Int) : ZSb (X.setCell ⟨n,4,none⟩ (.int .i64 e)) n v0 v1 v2 v3 e lv:=heap_setCell_same X n 4 _ _ _ h
theorem ZSb.set5 (h : ZSb X n v0 v1 v2 v3 d lv) (e : Value) : ZSb (X.setCell ⟨n,5,none⟩ e) n v0 v1 v2 v3 d e:=heap_setCell_same X n 5 _ _ _ h
theorem ZSb.all (h : ZSb X n v0 v1 v2 v3 d lv) {u0 u1 u2 u3 u5 : Value} {e : Int} : ZSb ((((((X.setCell ⟨n,0,none⟩ u0).setCell ⟨n,1,none⟩ u1).setCell ⟨n,2,none⟩ u2).setCell ⟨n,3,none⟩ u3).setCell ⟨n,4,none⟩ (.int .i64 e)).setCell ⟨n,5,none⟩ u5) n u0 u1 u2 u3 e u5 :=
 heap_setCell_same _ n 5 _ _ _ (heap_setCell_same _ n 4 _ _ _ (heap_setCell_same _ n 3 _ _ _ (heap_setCell_same _ n 2 _ _ _ (heap_setCell_same _ n 1 _ _ _ (heap_setCell_same X n 0 _ _ _ h)))))
end
theorem rkind_any {W : World} {B B2 : Nat} {ls : List Lc} {p : Pg} {v0 v1 v2 v3 : Value} {rf : List (Fn × FV)} {rt : List (List Stm × Value)} (R : Hid (PRows B W p v0 v1 v2 v3 rf rt)) (d : Int) {zl : Option Addr} {nl kl : Nat} (hl : Hid (W.ownsRow B2 53 4 (.slice zl nl kl) ls.length (ls.flatMap lcCells))) (hll : ls.length ≤ 1000000) (hp : p.gs.length ≤ 1000 ∧ p.ls.length ≤ 1000 ∧ p.fs.length ≤ 1000) (t : ByteArray) :
 Calls Try.prog 34 #[.agg #[v0,v1,v2,v3,.int .i64 d,.slice zl nl kl],.string t] W fun e w' => Below W.heap.size W w' ∧ e = .returned (.int .i64 (rKd p ls t.data.toList)):=by
 obtain ⟨z0,n0,k0,rfl⟩ : ∃ z n k,v0 = .slice z n k:=(own_form R.out.g).elim fun z h => h.elim fun k h => ⟨z,_,k,h⟩
 obtain ⟨z1,n1,k1,rfl⟩ : ∃ z n k,v1 = .slice z n k:=(own_form R.out.l).elim fun z h => h.elim fun k h => ⟨z,_,k,h⟩
 obtain ⟨z2,n2,k2,rfl⟩ : ∃ z n k,v2 = .slice z n k:=(own_form R.out.f).elim fun z h => h.elim fun k h => ⟨z,_,k,h⟩
 obtain ⟨z3,n3,k3,rfl⟩ : ∃ z n k,v3 = .slice z n k:=(own_form R.out.t).elim fun z h => h.elim fun k h => ⟨z,_,k,h⟩
 obtain ⟨g,ng,eg⟩ : ∃ g ng,rGl p.gs t.data.toList = (g,ng):=⟨_,_,rfl⟩
 obtain ⟨nk,ek⟩ : ∃ nk,rLk p.ls t.data.toList = nk:=⟨_,rfl⟩
 obtain ⟨q,nf,ef⟩ : ∃ q nf,rFn p.fs t.data.toList = (q,nf):=⟨_,_,rfl⟩
 obtain ⟨no,eo⟩ : ∃ no,rLo ls t.data.toList = no:=⟨_,rfl⟩
 have CG : Hid (∀ X,Below W.heap.size W X → Calls Try.prog 35 #[.agg #[.slice z0 n0 k0,.slice z1 n1 k1,.slice z2 n2 k2,.slice z3 n3 k3,.int .i64 d,.slice zl nl kl],.string t] X fun e w' => Below X.heap.size X w' ∧ e = .returned (.tuple #[glVal g,.int .i64 ng])):=hid fun X hX => by
  have h:=rglob_any (hid (R.out.stay hX)) d zl nl kl t hp.1
  rw [eg] at h
  exact h
 have CL : Hid (∀ X,Below W.heap.size W X → Calls Try.prog 38 #[.agg #[.slice z0 n0 k0,.slice z1 n1 k1,.slice z2 n2 k2,.slice z3 n3 k3,.int .i64 d,.slice zl nl kl],.string t] X fun e w' => Below X.heap.size X w' ∧ e = .returned (.int .i64 nk)):=hid fun X hX => by
  have h:=rlock_any (hid (R.out.stay hX)) d zl nl kl t hp.2.1
  rw [ek] at h
  exact h
 have CF : Hid (∀ X,Below W.heap.size W X → Calls Try.prog 36 #[.agg #[.slice z0 n0 k0,.slice z1 n1 k1,.slice z2 n2 k2,.slice z3 n3 k3,.int .i64 d,.slice zl nl kl],.string t] X fun e w' => Below X.heap.size X w' ∧ ∃ z0 k0 z1 k1 z2 k2,e = .returned (.tuple #[fnVal q ⟨.slice z0 q.ps.length k0,.slice z1 q.bd.length k1,.slice z2 q.ret.ks.length k2⟩,.int .i64 nf])):=hid fun X hX => by
  have h:=rfunc_any (hid (R.out.stay hX)) d zl nl kl t hp.2.2
  rw [ef] at h
  exact h
 have CO : Hid (∀ X,Below W.heap.size W X → Calls Try.prog 60 #[.agg #[.slice z0 n0 k0,.slice z1 n1 k1,.slice z2 n2 k2,.slice z3 n3 k3,.int .i64 d,.slice zl nl kl],.string t] X fun e w' => Below X.heap.size X w' ∧ e = .returned (.int .i64 no)):=hid fun X hX => by
  have h:=rloc_any (hid (R.out.stay hX)) d (hid (own_below hl.out hX)) hll t
  rw [eo] at h
  exact h
 unfold rKd
 rw [eg,ek,ef,eo]
 obtain ⟨r,hr⟩ : ∃ r,(if 0 ≤ (g,ng).2 then (1 : Int) else if 0 ≤ nk then 2 else if 0 ≤ (q,nf).2 then 3 else if 0 ≤ no then 4 else 0) = r:=⟨_,rfl⟩
 rw [hr]
 have HRR:=hid hr
 clear eg ek ef eo R hl hll hp hr
 go_enter Try.func34,Try.ntmps34
 go_upto_region 1 with (fail)
 refine name_world ?_
 intro W1 hW1
 have HB1 : Hid (Below W.heap.size W W1):=hid (by (rw [hW1];exact below_of_alloc _ _))
 have HS1 : Hid (ZSb W1 W.heap.size (.slice z0 n0 k0) (.slice z1 n1 k1) (.slice z2 n2 k2) (.slice z3 n3 k3) d (.slice zl nl kl)):=hid (by (rw [hW1];exact ZSb.new rfl))
 obtain ⟨bs,ebs⟩ : ∃ n,W.heap.size = n:=⟨_,rfl⟩
 rw [ebs] at HS1
 have HBS:=hid ebs
 simp only [ebs]
 clear hW1 ebs
 obtain ⟨sl,⟨m0,m1,m2,m3,m4,m5⟩,_⟩:=HS1.out.facts
 go_upto_region 2 with (go_at_call 35;refine (CG.out _ HB1.out).mono ?_;rintro e1 w1 ⟨hb1,rfl⟩;have HC1:=hid hb1;clear hb1;simp only [glVal])
 refine name_world ?_
 intro W2 hW2
 have HQ2 : Hid (Below W1.heap.size W1 W2):=hid (by (rw [hW2];exact (below_ch HC1.out (below_of_alloc _ _))))
 have HB2 : Hid (Below W.heap.size W W2):=hid (below_ch HB1.out HQ2.out)
 have HS2:=hid (HS1.out.stay HQ2.out)
 clear hW2 m0 m1 m2 m3 m4 m5 sl
 obtain ⟨sl,⟨m0,m1,m2,m3,m4,m5⟩,_⟩:=HS2.out.facts
 go_upto_region 3 with (go_at_call 36;refine (CF.out _ HB2.out).mono ?_;rintro e2 w2 ⟨hb2,a0,b0,a1,b1,a2,b2,rfl⟩;have HC2:=hid hb2;clear hb2;simp only [fnVal])
 refine name_world ?_
 intro W3 hW3
 have HQ3 : Hid (Below W2.heap.size W2 W3):=hid (by (rw [hW3];exact (below_ch HC2.out (below_of_alloc _ _))))
 have HB3 : Hid (Below W.heap.size W W3):=hid (below_ch HB2.out HQ3.out)
 have HS3:=hid (HS2.out.stay HQ3.out)
 clear hW3 m0 m1 m2 m3 m4 m5 sl
 obtain ⟨sl,⟨m0,m1,m2,m3,m4,m5⟩,_⟩:=HS3.out.facts
 by_cases c1 : 0 ≤ ng
 · have C1:=hid c1
   clear c1
   have c1:=C1.out
   go_wp2
   go_ret
   exact ⟨HB3.out,by (rw [← HRR.out,if_pos C1.out];rfl)⟩
 have C1:=hid c1
 by_cases c2 : 0 ≤ nk
 · have D1:=hid c2
   go_wp2_with (go_at_call 38;refine (CL.out _ HB3.out).mono ?_;rintro e3 w3 ⟨hb3,rfl⟩;have HB4:=hid (below_ch HB3.out hb3);clear hb3)
   go_ret
   exact ⟨HB4.out,by (rw [← HRR.out,if_neg (by (have:=C1.out;omega)),if_pos D1.out];rfl)⟩
 have C2:=hid c2
 by_cases c3 : 0 ≤ nf
 · have D1:=hid c3
   go_wp2_with (go_at_call 38;refine (CL.out _ HB3.out).mono ?_;rintro e3 w3 ⟨hb3,rfl⟩;have HB4:=hid (below_ch HB3.out hb3);clear hb3)
   go_ret
   exact ⟨HB4.out,by (rw [← HRR.out,if_neg (by (have:=C1.out;omega)),if_neg (by (have:=C2.out;omega)),if_pos D1.out];rfl)⟩
 have C3:=hid c3
 go_upto_region 7 with (go_at_call 38;refine (CL.out _ HB3.out).mono ?_;rintro e3 w3 ⟨hb3,rfl⟩;have HB4:=hid (below_ch HB3.out hb3);have HS4:=hid (HS3.out.stay hb3);clear hb3)
 clear m0 m1 m2 m3 m4 m5 sl
 obtain ⟨sl,⟨m0,m1,m2,m3,m4,m5⟩,_⟩:=HS4.out.facts
 by_cases c4 : 0 ≤ no
 · have D1:=hid c4
   go_wp2_with (go_at_call 60;refine (CO.out _ HB4.out).mono ?_;rintro e4 w4 ⟨hb4,rfl⟩;have HB5:=hid (below_ch HB4.out hb4);clear hb4)
   go_ret
   exact ⟨HB5.out,by (rw [← HRR.out,if_neg (by (have:=C1.out;omega)),if_neg (by (have:=C2.out;omega)),if_neg (by (have:=C3.out;omega)),if_pos D1.out];rfl)⟩
 · have D1:=hid c4
   go_wp2_with (go_at_call 60;refine (CO.out _ HB4.out).mono ?_;rintro e4 w4 ⟨hb4,rfl⟩;have HB5:=hid (below_ch HB4.out hb4);clear hb4)
   go_ret
   exact ⟨HB5.out,by (rw [← HRR.out,if_neg (by (have:=C1.out;omega)),if_neg (by (have:=C2.out;omega)),if_neg (by (have:=C3.out;omega)),if_neg (by (have:=D1.out;omega))];rfl)⟩
end Go.Proofs.Ytbmmjomcjlpnlaa
