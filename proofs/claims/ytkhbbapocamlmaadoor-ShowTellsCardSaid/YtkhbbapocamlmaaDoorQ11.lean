/- Joined texts: R5f R5g R5p Laid: lemmas for the law; each says its own conditions. -/
import Derived.Test.YtkhbbapocamlmaaDoorQ10
import Derived.Test.YtkhbbapocamlmaaDoorQ01
import Derived.Test.YtkhbbapocamlmaaDoorRows
import Derived.ProofKit
import Derived.LaidMore
import Derived.OpenShut
import Derived.Stop.Joined
import Derived.Stop.LaidErr
import Derived.LaidLaws
set_option linter.unusedSimpArgs false
set_option linter.unusedVariables false
set_option maxRecDepth 100000
set_option maxHeartbeats 8000000
open Go.Lib (hid)
namespace Go.Proofs.YtkhbbapocamlmaaDoor
open Go Go.RowKit
theorem join_cons9 (a : List UInt8) (l : List (List UInt8)) (h : l ≠ []) : Lib.join (a :: l) [44,32] = a ++ ([44,32] ++ Lib.join l [44,32]):=by
 cases l with
 | nil => exact absurd rfl h
 | cons b r => simp [Lib.join,List.intercalate]
theorem join_succ : ∀ (l : List Pm) (k : Nat) (x : Pm),l[k]? = some x → paramsT (l.take (k + 1)) = paramsT (l.take k) ++ ((if k = 0 then [] else [44,32]) ++ pmT x)
 | [],k,x,h => by simp at h
 | y :: r,0,x,h => by
  simp at h
  subst h
  simp [paramsT,Lib.join]
 | y :: r,k + 1,x,h => by
  have h2 : r[k]? = some x:=by simpa using h
  have ih:=join_succ r k x h2
  obtain ⟨z,q,hzq⟩ : ∃ z q,r = z :: q:=by (cases r with | nil => simp at h2 | cons z q => exact ⟨z,q,rfl⟩)
  unfold paramsT at ih ⊢
  simp only [List.take_succ_cons,List.map_cons] at ih ⊢
  rw [join_cons9 _ _ (by rw [hzq];simp),ih]
  cases k with
  | zero => simp [Lib.join]
  | succ k =>
   rw [join_cons9 _ _ (by rw [hzq];simp)]
   simp
theorem params_le9 (l : List Pm) (k : Nat) (hn : l.length ≤ 6) (hm : ∀ q ∈ l,NameB q.nm) : (paramsT (l.take k)).length ≤ 1000 :=
 params_len (by (rw [List.length_take];omega)) (fun q hq => hm q (List.mem_of_mem_take hq))
def dstU (k : Nat) : Nat:=if k = 21 then 2 else 37 + k
theorem dstU_inj {i k : Nat} (h : dstU i = dstU k) (hi : i < 22) (hk : k < 22) : i = k:=by
 unfold dstU at h
 split at h <;> split at h <;> omega
theorem put22 {vs : List (Option Value)} {t0 : Array Value} {listed : Array Bool} {a : Act} (h : Ins 22 58 dstU vs t0 listed a) (k d : Nat) (v : Value) (hk : k < 22) (hd : dstU k = d) (hv : vs[k]? = some (some v)) : Ins 22 58 dstU vs t0 (listed.setIfInBounds k true) (a.put (some d) v):=by
 subst hd
 exact h.put hk (by unfold dstU;split <;> omega) (fun i hi e => dstU_inj e hi hk) (fun u hu => by rw [hv] at hu;cases hu;rfl)
def dstV (k : Nat) : Nat:=if k = 17 then 3 else 20 + k
theorem dstV_inj {i k : Nat} (h : dstV i = dstV k) (hi : i < 18) (hk : k < 18) : i = k:=by
 unfold dstV at h
 split at h <;> split at h <;> omega
theorem dstV_lt (k : Nat) (h : k < 18) : dstV k < 58:=by
 unfold dstV
 split <;> omega
theorem put18 {vs : List (Option Value)} {t0 : Array Value} {listed : Array Bool} {a : Act} (h : Ins 18 58 dstV vs t0 listed a) (k d : Nat) (v : Value) (hk : k < 18) (hd : dstV k = d) (hv : vs[k]? = some (some v)) : Ins 18 58 dstV vs t0 (listed.setIfInBounds k true) (a.put (some d) v):=by
 subst hd
 exact h.put hk (by unfold dstV;split <;> omega) (fun i hi e => dstV_inj e hi hk) (fun u hu => by rw [hv] at hu;cases hu;rfl)
theorem keep3 {vs : List (Option Value)} {t0 : Array Value} {listed : Array Bool} {a : Act} {u : Value} (h : Ins 18 58 dstV vs t0 listed a) (h3 : listed.getD 0 false = true ∨ a.tmps.getD 3 undef = u) (k d : Nat) (v : Value) (hd : d < 58) (hne : 3 ≠ d) : (listed.setIfInBounds k true).getD 0 false = true ∨ (a.put (some d) v).tmps.getD 3 undef = u:=by
 rcases h3 with h3 | h3
 · exact .inl (getD_set_old h3)
 · right
   rw [getD_put a _ _ _ (by rw [h.tsz];exact hd),if_neg hne]
   exact h3
theorem not_yet {md : Region.Mode} {ops : Array Oper} {listed : Array Bool} {i : Nat} (hi : i ∈ Region.ready md ops listed) (hs : i < listed.size) : listed.getD i false = false:=by
 have h:=(mem_ready.1 hi).1
 rw [Array.getD_eq_getD_getElem?] at h ⊢
 rw [Array.getElem?_eq_getElem hs] at h ⊢
 exact h
theorem none18 : ∀ k,k < 18 → (Array.replicate 18 false).getD k false = false:=by decide
theorem none22 : ∀ k,k < 22 → (Array.replicate 22 false).getD k false = false:=by decide
theorem rfn_any (f : Fn) (hg1 : ∀ s ∈ f.bd,GoodS s) (hg2 : cntS f.bd ≤ 16385) (hg3 : GoodE f.ret) (hn1 : f.ps.length ≤ 6) (hn2 : ∀ q ∈ f.ps,NameB q.nm) (hn3 : NameB f.nm) (T : List UInt8) (hT : Hid (fnT f = T)) (fv : FV) (w : World) (hI : IsFn1 (fun g => 0 ≤ g) w f fv) :
 Calls Tryd.prog 28 #[.agg #[.int .i64 f.a,.string (bstr f.nm),fv.p,.bool f.tr,.bool f.sc,fv.b,.int .i64 f.ret.k,.int .i64 f.ret.op,.int .i64 f.ret.n,.string (bstr f.ret.nm),fv.k,.int .i64 f.ret.a]] w fun e w' => e = .returned (.string (bstr (T))) ∧ Below w.heap.size w w':=by
 obtain ⟨hp,hb,hk⟩:=hI
 obtain ⟨zp,cp,ep⟩:=hp.1
 obtain ⟨zb,cb,eb⟩:=hb.form
 obtain ⟨zk,ck,ek⟩:=hk.form
 obtain ⟨pv,bv,kv⟩:=fv
 obtain ⟨Y,hY⟩ : ∃ Y,typeT f.tr f.sc = Y:=⟨_,rfl⟩
 obtain ⟨R,hR⟩ : ∃ R,f.ret.txt = R:=⟨_,rfl⟩
 obtain ⟨P0,hP0⟩ : ∃ P,paramsT f.ps = P:=⟨_,rfl⟩
 have hPl:=params_len hn1 hn2
 rw [hP0] at hPl
 have HP0:=hid hP0
 have HYY:=hid hY
 have HR:=hid hR
 have hYl : (bstr Y).size ≤ 20:=by (rw [← hY];exact type_len9 _ _)
 have hRl : (bstr R).size ≤ 1000000:=by (rw [← hR];exact hg3.2.2.1)
 have hnl : (bstr f.nm).size ≤ 24:=hn3.len
 obtain ⟨T1,hT1⟩ : ∃ T,lineT 0 [tFunc ++ f.nm ++ [40] ++ P0,[41,32],Y,[32,123]] = T:=⟨_,rfl⟩
 obtain ⟨T2,hT2⟩ : ∃ T,stsT f.bd (0 + 1) = T:=⟨_,rfl⟩
 obtain ⟨T3,hT3⟩ : ∃ T,lineT (0 + 1) [tRet,R,[59]] = T:=⟨_,rfl⟩
 obtain ⟨T4,hT4⟩ : ∃ T,lineT 0 [[125]] = T:=⟨_,rfl⟩
 have HTT : Hid (T = T1 ++ (T2 ++ (T3 ++ T4))):=hid (by
  rw [← hT.out,← hT1,← hT2,← hT3,← hT4,← hP0,← hY,← hR]
  simp [fnT,fnA,fnC,lineT])
 have hT1l : (bstr T1).size ≤ 2000:=by
  rw [← hT1]
  show (lineT 0 [tFunc ++ f.nm ++ [40] ++ P0,[41,32],Y,[32,123]]).length ≤ _
  have e1 : f.nm.length ≤ 24:=hnl
  have e2 : Y.length ≤ 20:=hYl
  simp only [lineT_len,List.flatten_cons,List.flatten_nil,List.length_append,List.length_cons,List.length_nil,tFunc]
  omega
 have hT2l : (bstr T2).size ≤ 1000000000000:=by (rw [← hT2];exact sts_bd hg1 hg2 (by omega))
 have hT3l : (bstr T3).size ≤ 2000000:=by
  rw [← hT3]
  show (lineT (0 + 1) [tRet,R,[59]]).length ≤ _
  have e2 : R.length ≤ 1000000:=hRl
  simp only [lineT_len,List.flatten_cons,List.flatten_nil,List.length_append,List.length_cons,List.length_nil,tRet]
  omega
 have hT4l : (bstr T4).size ≤ 10:=by (rw [← hT4];decide)
 have HT1:=hid hT1
 have HT2:=hid hT2
 have HT3:=hid hT3
 have HT4:=hid hT4
 have H3:=hid hg3
 have HN1:=hid hn1
 have HN2:=hid hn2
 have HG1:=hid hg1
 have HG2:=hid hg2
 obtain ⟨a,nm,ps,tr,sc,bd,ret⟩:=f
 simp only at ep eb ek HYY HR H3 HN1 HN2 HG1 HG2 HT1 HT2 HP0 hnl hp hb hk ⊢
 subst ep eb ek
 obtain ⟨yp,hyp⟩ : ∃ y,ps.length = y:=⟨_,rfl⟩
 obtain ⟨yb,hyb⟩ : ∃ y,bd.length = y:=⟨_,rfl⟩
 obtain ⟨yk,hyk⟩ : ∃ y,ret.ks.length = y:=⟨_,rfl⟩
 have HYP:=hid hyp
 have HYK:=hid hyk
 have hyp6 : yp ≤ 6:=by (rw [← hyp];exact HN1.out)
 rw [hyp] at hp
 rw [hyb] at hb
 rw [hyk] at hk
 rw [hyp,hyb,hyk]
 have HI0:=hid (And.intro hp (And.intro hb hk))
 have HA0:=below_of_alloc w (.cells #[.int .i64 a,.string (bstr nm),.slice zp yp cp,.bool tr,.bool sc,.slice zb yb cb,.int .i64 ret.k,.int .i64 ret.op,.int .i64 ret.n,.string (bstr ret.nm),.slice zk yk ck,.int .i64 ret.a] 73)
 have HF0 : FBlk (w.alloc (.cells #[.int .i64 a,.string (bstr nm),.slice zp yp cp,.bool tr,.bool sc,.slice zb yb cb,.int .i64 ret.k,.int .i64 ret.op,.int .i64 ret.n,.string (bstr ret.nm),.slice zk yk ck,.int .i64 ret.a] 73)) w.heap.size a (bstr nm) (.slice zp yp cp) tr sc (.slice zb yb cb) ret.k ret.op ret.n (bstr ret.nm) (.slice zk yk ck) ret.a:=FBlk.new rfl
 have hc0 : ¬ 9223372036854775807 < 5 + (bstr nm).size:=by omega
 have hc1 : ¬ 9223372036854775807 < 5 + (bstr nm).size + 1:=by omega
 obtain ⟨fl,⟨fc0,fc1,fc2,fc3,fc4,fc5,fc6,fc7,fc8,fc9,fc10,fc11⟩,_⟩:=HF0.facts
 clear hT hT1 hT2 hT3 hT4 hY hR hP0 hg1 hg2 hg3 hn1 hn2 hn3 hp hb hk hyp hyb hyk
 go_enter Tryd.func28,Tryd.ntmps28
 go_upto_region 2 with (fail)
 refine name_world ?_
 intro W1 hW1
 rw [← hW1] at HA0 HF0
 clear hW1
 clear fl fc0 fc1 fc2 fc3 fc4 fc5 fc6 fc7 fc8 fc9 fc10 fc11
 have HA:=hid HA0
 have HF:=hid HF0
 have HI1 : Hid (IsPl (fun g => 0 ≤ g) 106 3 pmCells W1 ps (.slice zp yp cp) ∧ IsSts (fun g => 0 ≤ g) W1 bd (.slice zb yb cb) ∧ IsExP (fun g => 0 ≤ g) W1 ret (.slice zk yk ck)):=hid ⟨HI0.out.1.stay HA0,HI0.out.2.1.kept fun g hg hl => ⟨HA0.block g hl,hg⟩,HI0.out.2.2.kept fun g hg hl => ⟨HA0.block g hl,hg⟩⟩
 have hz:=HA0.size
 clear HA0 HF0
 obtain ⟨S0,hS0⟩ : ∃ S,tFunc ++ nm ++ [40] ++ paramsT (ps.take 0) = S:=⟨_,rfl⟩
 rw [show (⟨#[102,117,110,99,32]⟩ : ByteArray) ++ bstr nm ++ (⟨#[40]⟩ : ByteArray) = bstr S0 from by (rw [← hS0,show (⟨#[102,117,110,99,32]⟩ : ByteArray) = bstr tFunc from rfl,show (⟨#[40]⟩ : ByteArray) = bstr [40] from rfl,bstr_cat,bstr_cat];simp [paramsT,Lib.join])]
 have HS0:=hid hS0
 clear hS0
 go_wp2
 go_loopw [3,4] (fun sv iv wr => ∃ k : Nat,sv = .string (bstr (tFunc ++ nm ++ [40] ++ paramsT (ps.take k))) ∧ iv = .int .i64 k ∧ k ≤ yp ∧ Below W1.heap.size W1 wr) (fun _ iv _ => yp - (intOf iv).toNat)
 case atStart => exact ⟨0,by rw [HS0.out],rfl,Nat.zero_le _,Below.refl _ _⟩
 case round =>
  obtain ⟨k,rfl,rfl,hk,hbr⟩:=hrel
  have HBR:=hid hbr
  have hpl:=params_le9 ps k HN1.out HN2.out
  obtain ⟨S,hS⟩ : ∃ S,tFunc ++ nm ++ [40] ++ paramsT (ps.take k) = S:=⟨_,rfl⟩
  have hsl : (bstr S).size ≤ 1100:=by
   rw [← hS]
   show (tFunc ++ nm ++ [40] ++ paramsT (ps.take k)).length ≤ _
   have e1 : nm.length ≤ 24:=hnl
   simp only [List.length_append,List.length_cons,List.length_nil,tFunc]
   omega
  rw [hS]
  have HSS:=hid hS
  have HFr:=hid (HF.out.kw2 (hbr.block _ HF.out.lt))
  obtain ⟨fl,⟨fc0,fc1,fc2,fc3,fc4,fc5,fc6,fc7,fc8,fc9,fc10,fc11⟩,_⟩:=HFr.out.facts
  clear hS hbr hpl
  by_cases hkl : k < yp
  · obtain ⟨x,hx⟩ : ∃ x,ps[k]? = some x:=⟨_,List.getElem?_eq_getElem (by (have:=HYP.out;omega))⟩
    obtain ⟨g,cap,cs,fr,e,_,hg,hcs⟩:=HI1.out.1.2 (by rintro rfl;simp at hx)
    rw [HYP.out] at e
    cases e
    have hgr:=(HBR.out.block g (Array.getElem?_eq_some_iff.1 hg).1).trans hg
    have hgl : g < wr.heap.size:=(Array.getElem?_eq_some_iff.1 hgr).1
    have HGR:=hid hgr
    have HK : Hid (∀ X,Below wr.heap.size wr X → X.cell? ⟨g,k * 3,none⟩ = some (.string (bstr x.nm)) ∧ X.cell? ⟨g,k * 3 + 1,none⟩ = some (.bool x.tr) ∧ X.cell? ⟨g,k * 3 + 2,none⟩ = some (.bool x.sc)):=hid fun X hX => ⟨(hX.cell (p:=⟨g,k * 3,none⟩) hgl).trans ((Lib.cell_of_heap hgr _).trans (hcs k x hx 0 _ rfl)),(hX.cell (p:=⟨g,k * 3 + 1,none⟩) hgl).trans ((Lib.cell_of_heap hgr _).trans (hcs k x hx 1 _ rfl)),(hX.cell (p:=⟨g,k * 3 + 2,none⟩) hgl).trans ((Lib.cell_of_heap hgr _).trans (hcs k x hx 2 _ rfl))⟩
    have hlt : (k : Int) < (yp : Int):=by omega
    have hkr : 0 ≤ (k : Int) ∧ (k : Int) < (yp : Int):=by omega
    have hsu:=join_succ ps k x hx
    have HSU:=hid hsu
    have hnb : (bstr x.nm).size ≤ 24:=(HN2.out x (List.mem_of_getElem? hx)).len
    obtain ⟨Z,hZ⟩ : ∃ Z,typeT x.tr x.sc = Z:=⟨_,rfl⟩
    have hZl : (bstr Z).size ≤ 20:=by (rw [← hZ];exact type_len9 _ _)
    have HZ:=hid hZ
    have hd1 : ¬ 9223372036854775807 < (bstr Z).size + 1:=by omega
    have hd2 : ¬ 9223372036854775807 < (bstr Z).size + 1 + (bstr x.nm).size:=by omega
    have hd3 : ¬ 9223372036854775807 < (bstr S).size + ((bstr Z).size + 1 + (bstr x.nm).size):=by omega
    have hd4 : ¬ 9223372036854775807 < (bstr S).size + 2:=by omega
    have hd5 : ¬ 9223372036854775807 < (bstr S).size + 2 + ((bstr Z).size + 1 + (bstr x.nm).size):=by omega
    clear hsu hZ hcs hg hgr hx
    by_cases hk0 : k = 0
    · have HK0:=hid hk0
      have hg0 : ¬ (0 : Int) < (k : Int):=by omega
      clear hk0
      go_upto_region 7 with (fail)
      clear fl fc0 fc1 fc2 fc3 fc4 fc5 fc6 fc7 fc8 fc9 fc10 fc11
      refine name_act ?_
      intro a0 ha0
      have p1 : a0.tmps.getD 1 undef = .pointer (some ⟨w.heap.size,0,none⟩):=by (rw [ha0];rfl)
      have p3 : a0.tmps.getD 3 undef = .string (bstr S):=by (rw [ha0];rfl)
      have p4 : a0.tmps.getD 4 undef = .int .i64 k:=by (rw [ha0];rfl)
      have q1 : a0.tmps.size = 58:=by (rw [ha0];rfl)
      have q2 : a0.defers = []:=by (rw [ha0])
      have HA0:=hid ha0
      clear ha0
      obtain ⟨LS,hLS⟩ : ∃ l : List Value,l = [.string (bstr S),.pointer (some ⟨w.heap.size,2,none⟩),.slice (some ⟨g,0,none⟩) yp cp,.int .i64 k,.pointer (some ⟨g,k * 3,none⟩),.pointer (some ⟨g,k * 3 + 1,none⟩),.agg #[.bool x.tr,.bool x.sc],.string (bstr Z),.string (bstr Z ++ (⟨#[32]⟩ : ByteArray)),.pointer (some ⟨w.heap.size,2,none⟩),.slice (some ⟨g,0,none⟩) yp cp,.int .i64 k,.pointer (some ⟨g,k * 3,none⟩),.pointer (some ⟨g,k * 3,none⟩),.string (bstr x.nm),.string (bstr Z ++ (⟨#[32]⟩ : ByteArray) ++ bstr x.nm),.string (bstr S ++ (bstr Z ++ (⟨#[32]⟩ : ByteArray) ++ bstr x.nm)),.string (bstr S ++ (bstr Z ++ (⟨#[32]⟩ : ByteArray) ++ bstr x.nm))]:=⟨_,rfl⟩
      refine wp_region_any (by kernel_rfl) ?_
      refine wpAny_inv (fun listed a X => Ins 18 58 dstV (LS.map some) a0.tmps listed a ∧ Below wr.heap.size wr X ∧ (listed.getD 0 false = true ∨ a.tmps.getD 3 undef = .string (bstr S))) ?step ?fin _ _ _ _ ⟨⟨rfl,q1,q2,fun d _ => rfl,fun k v hk _ hl => absurd ((none18 k hk).symm.trans hl) (by simp)⟩,(Below.refl _ _).drew,.inr p3⟩ (by rfl) (by decide)
      case fin =>
       intro listed a X ⟨h1,h2,_⟩ hr
       have hl:=all_came (by rw [h1.size];rfl) hr (by decide +kernel)
       have ht:=tmps_of h1 (fun k hk => hl k hk) (by rw [hLS];rfl) q1 dstV_lt (fun i k hi hk e => dstV_inj e hi hk)
       have h5:=h1.defs
       have HC:=hid h2
       have hcz:=h2.size
       obtain ⟨tm,df⟩:=a
       simp only at ht h5
       subst h5
       rw [ht,HA0.out,hLS]
       clear h1 h2 hl hr ht HA0 hLS p1 p3 p4 q1 q2
       simp only [setAll,show List.range 18 = [0,1,2,3,4,5,6,7,8,9,10,11,12,13,14,15,16,17] from rfl,List.foldl_cons,List.foldl_nil,dstV,List.getD_cons_zero,List.getD_cons_succ,List.setIfInBounds_toArray,List.set_cons_succ,List.set_cons_zero,Nat.reduceEqDiff,if_false,if_true,Nat.reduceAdd]
       go_wp2
       go_roundw
       case rel =>
        first
         | exact ⟨k + 1,by (rw [HSU.out,if_pos HK0.out,show (⟨#[32]⟩ : ByteArray) = bstr [32] from rfl,← HSS.out,← HZ.out,bstr_cat,bstr_cat,bstr_cat];simp [pmT]),by go_num,by omega,below_ch HBR.out HC.out⟩
         | (refine ⟨_,_,_,_,_,_,_,_,_,_,_,_,_,_,_,_,_,_,_,_,_,_,_,_,_,_,_,_,_,_,?_,rfl⟩;exact ⟨k + 1,by (rw [HSU.out,if_pos HK0.out,show (⟨#[32]⟩ : ByteArray) = bstr [32] from rfl,← HSS.out,← HZ.out,bstr_cat,bstr_cat,bstr_cat];simp [pmT]),by go_num,by omega,below_ch HBR.out HC.out⟩)
       case measure =>
        simp [intOf]
        omega
      case step =>
       intro listed a X j ⟨h1,h2,h3⟩ hj
       have hlt9 : j < 18:=List.mem_range.1 (List.mem_filter.1 hj).1
       have hk2:=(List.mem_filter.1 hj).2
       have o1 : a.eval (.tmp 1) = .pointer (some ⟨w.heap.size,0,none⟩):=(h1.old 1 (by decide)).trans p1
       have o4 : a.eval (.tmp 4) = .int .i64 k:=(h1.old 4 (by decide)).trans p4
       obtain ⟨fl,⟨fc0,fc1,fc2,fc3,fc4,fc5,fc6,fc7,fc8,fc9,fc10,fc11⟩,_⟩:=(HFr.out.kw2 (h2.block _ HFr.out.lt)).facts
       obtain ⟨d0,d1,d2⟩:=HK.out _ h2
       have hcase : j = 0 ∨ j = 1 ∨ j = 2 ∨ j = 3 ∨ j = 4 ∨ j = 5 ∨ j = 6 ∨ j = 7 ∨ j = 8 ∨ j = 9 ∨ j = 10 ∨ j = 11 ∨ j = 12 ∨ j = 13 ∨ j = 14 ∨ j = 15 ∨ j = 16 ∨ j = 17:=by omega
       rcases hcase with rfl | rfl | rfl | rfl | rfl | rfl | rfl | rfl | rfl | rfl | rfl | rfl | rfl | rfl | rfl | rfl | rfl | rfl
       · have o3 : a.eval (.tmp 3) = .string (bstr S):=h3.resolve_left (fun h => by (have h9:=not_yet hj (by rw [h1.size];decide);rw [h9] at h;cases h))
         refine wpOp_of rfl rfl ?_
         exact wp_val (v:=.string (bstr S)) (run_move (by first | exact .inl rfl | exact .inr rfl) o3) ⟨put18 h1 0 20 _ (by decide) rfl (by rw [hLS];rfl),h2,.inl (getD_set_self (by (rw [h1.size];decide)))⟩
       · refine wpOp_of rfl rfl ?_
         exact wp_val (v:=.pointer (some ⟨w.heap.size,2,none⟩)) (run_fieldAddr rfl o1 (by go_simp)) ⟨put18 h1 1 21 _ (by decide) rfl (by rw [hLS];rfl),h2,keep3 h1 h3 1 21 _ (by decide) (by decide)⟩
       · have hd1 : listed.getD 1 false = true:=by simp [Region.binds] at hk2;simp only [Array.getD_eq_getD_getElem?];simp [hk2]
         have e1 : a.eval (.tmp 21) = .pointer (some ⟨w.heap.size,2,none⟩):=h1.new 1 _ (by decide) (by rw [hLS];rfl) hd1
         refine wpOp_of rfl rfl ?_
         exact wp_val (v:=.slice (some ⟨g,0,none⟩) yp cp) (run_load rfl e1 (by go_simp)) ⟨put18 h1 2 22 _ (by decide) rfl (by rw [hLS];rfl),h2,keep3 h1 h3 2 22 _ (by decide) (by decide)⟩
       · refine wpOp_of rfl rfl ?_
         exact wp_val (v:=.int .i64 k) (run_move (by first | exact .inl rfl | exact .inr rfl) o4) ⟨put18 h1 3 23 _ (by decide) rfl (by rw [hLS];rfl),h2,keep3 h1 h3 3 23 _ (by decide) (by decide)⟩
       · have hd2 : listed.getD 2 false = true:=by simp [Region.binds] at hk2;simp only [Array.getD_eq_getD_getElem?];simp [hk2]
         have e2 : a.eval (.tmp 22) = .slice (some ⟨g,0,none⟩) yp cp:=h1.new 2 _ (by decide) (by rw [hLS];rfl) hd2
         have hd3 : listed.getD 3 false = true:=by simp [Region.binds] at hk2;simp only [Array.getD_eq_getD_getElem?];simp [hk2]
         have e3 : a.eval (.tmp 23) = .int .i64 k:=h1.new 3 _ (by decide) (by rw [hLS];rfl) hd3
         refine wpOp_of rfl rfl ?_
         exact wp_val (v:=.pointer (some ⟨g,k * 3,none⟩)) (run_indexAddr rfl e2 e3 (by go_simp)) ⟨put18 h1 4 24 _ (by decide) rfl (by rw [hLS];rfl),h2,keep3 h1 h3 4 24 _ (by decide) (by decide)⟩
       · have hd4 : listed.getD 4 false = true:=by simp [Region.binds] at hk2;simp only [Array.getD_eq_getD_getElem?];simp [hk2]
         have e4 : a.eval (.tmp 24) = .pointer (some ⟨g,k * 3,none⟩):=h1.new 4 _ (by decide) (by rw [hLS];rfl) hd4
         refine wpOp_of rfl rfl ?_
         exact wp_val (v:=.pointer (some ⟨g,k * 3 + 1,none⟩)) (run_fieldAddr rfl e4 (by go_simp)) ⟨put18 h1 5 25 _ (by decide) rfl (by rw [hLS];rfl),h2,keep3 h1 h3 5 25 _ (by decide) (by decide)⟩
       · have hd5 : listed.getD 5 false = true:=by simp [Region.binds] at hk2;simp only [Array.getD_eq_getD_getElem?];simp [hk2]
         have e5 : a.eval (.tmp 25) = .pointer (some ⟨g,k * 3 + 1,none⟩):=h1.new 5 _ (by decide) (by rw [hLS];rfl) hd5
         refine wpOp_of rfl rfl ?_
         exact wp_val (v:=.agg #[.bool x.tr,.bool x.sc]) (run_load rfl e5 (by go_simp)) ⟨put18 h1 6 26 _ (by decide) rfl (by rw [hLS];rfl),h2,keep3 h1 h3 6 26 _ (by decide) (by decide)⟩
       · have hd6 : listed.getD 6 false = true:=by simp [Region.binds] at hk2;simp only [Array.getD_eq_getD_getElem?];simp [hk2]
         have e6 : a.eval (.tmp 26) = .agg #[.bool x.tr,.bool x.sc]:=h1.new 6 _ (by decide) (by rw [hLS];rfl) hd6
         refine wpOp_of rfl rfl ?_
         refine wp_enter (f:=14) (args:=#[a.eval (.tmp 26)]) ((Go.Conc.run_call_body rfl Tryd.func14 (by kernel_rfl) (by kernel_rfl)).trans (by simp)) ?_
         rw [e6]
         refine Calls.mono (rtype_any x.tr x.sc X) ?_
         rintro e w' ⟨rfl,hb⟩
         exact ⟨.string (bstr Z),by rw [HZ.out],put18 h1 7 27 _ (by decide) rfl (by rw [hLS];rfl),below_ch h2 hb,keep3 h1 h3 7 27 _ (by decide) (by decide)⟩
       · have hd7 : listed.getD 7 false = true:=by simp [Region.binds] at hk2;simp only [Array.getD_eq_getD_getElem?];simp [hk2]
         have e7 : a.eval (.tmp 27) = .string (bstr Z):=h1.new 7 _ (by decide) (by rw [hLS];rfl) hd7
         refine wpOp_of rfl rfl ?_
         exact wp_val (v:=.string (bstr Z ++ (⟨#[32]⟩ : ByteArray))) (run_bin rfl e7 rfl (by go_simp)) ⟨put18 h1 8 28 _ (by decide) rfl (by rw [hLS];rfl),h2,keep3 h1 h3 8 28 _ (by decide) (by decide)⟩
       · refine wpOp_of rfl rfl ?_
         exact wp_val (v:=.pointer (some ⟨w.heap.size,2,none⟩)) (run_fieldAddr rfl o1 (by go_simp)) ⟨put18 h1 9 29 _ (by decide) rfl (by rw [hLS];rfl),h2,keep3 h1 h3 9 29 _ (by decide) (by decide)⟩
       · have hd9 : listed.getD 9 false = true:=by simp [Region.binds] at hk2;simp only [Array.getD_eq_getD_getElem?];simp [hk2]
         have e9 : a.eval (.tmp 29) = .pointer (some ⟨w.heap.size,2,none⟩):=h1.new 9 _ (by decide) (by rw [hLS];rfl) hd9
         refine wpOp_of rfl rfl ?_
         exact wp_val (v:=.slice (some ⟨g,0,none⟩) yp cp) (run_load rfl e9 (by go_simp)) ⟨put18 h1 10 30 _ (by decide) rfl (by rw [hLS];rfl),h2,keep3 h1 h3 10 30 _ (by decide) (by decide)⟩
       · refine wpOp_of rfl rfl ?_
         exact wp_val (v:=.int .i64 k) (run_move (by first | exact .inl rfl | exact .inr rfl) o4) ⟨put18 h1 11 31 _ (by decide) rfl (by rw [hLS];rfl),h2,keep3 h1 h3 11 31 _ (by decide) (by decide)⟩
       · have hd10 : listed.getD 10 false = true:=by simp [Region.binds] at hk2;simp only [Array.getD_eq_getD_getElem?];simp [hk2]
         have e10 : a.eval (.tmp 30) = .slice (some ⟨g,0,none⟩) yp cp:=h1.new 10 _ (by decide) (by rw [hLS];rfl) hd10
         have hd11 : listed.getD 11 false = true:=by simp [Region.binds] at hk2;simp only [Array.getD_eq_getD_getElem?];simp [hk2]
         have e11 : a.eval (.tmp 31) = .int .i64 k:=h1.new 11 _ (by decide) (by rw [hLS];rfl) hd11
         refine wpOp_of rfl rfl ?_
         exact wp_val (v:=.pointer (some ⟨g,k * 3,none⟩)) (run_indexAddr rfl e10 e11 (by go_simp)) ⟨put18 h1 12 32 _ (by decide) rfl (by rw [hLS];rfl),h2,keep3 h1 h3 12 32 _ (by decide) (by decide)⟩
       · have hd12 : listed.getD 12 false = true:=by simp [Region.binds] at hk2;simp only [Array.getD_eq_getD_getElem?];simp [hk2]
         have e12 : a.eval (.tmp 32) = .pointer (some ⟨g,k * 3,none⟩):=h1.new 12 _ (by decide) (by rw [hLS];rfl) hd12
         refine wpOp_of rfl rfl ?_
         exact wp_val (v:=.pointer (some ⟨g,k * 3,none⟩)) (run_fieldAddr rfl e12 (by go_simp)) ⟨put18 h1 13 33 _ (by decide) rfl (by rw [hLS];rfl),h2,keep3 h1 h3 13 33 _ (by decide) (by decide)⟩
       · have hd13 : listed.getD 13 false = true:=by simp [Region.binds] at hk2;simp only [Array.getD_eq_getD_getElem?];simp [hk2]
         have e13 : a.eval (.tmp 33) = .pointer (some ⟨g,k * 3,none⟩):=h1.new 13 _ (by decide) (by rw [hLS];rfl) hd13
         refine wpOp_of rfl rfl ?_
         exact wp_val (v:=.string (bstr x.nm)) (run_load rfl e13 (by go_simp)) ⟨put18 h1 14 34 _ (by decide) rfl (by rw [hLS];rfl),h2,keep3 h1 h3 14 34 _ (by decide) (by decide)⟩
       · have hd8 : listed.getD 8 false = true:=by simp [Region.binds] at hk2;simp only [Array.getD_eq_getD_getElem?];simp [hk2]
         have e8 : a.eval (.tmp 28) = .string (bstr Z ++ (⟨#[32]⟩ : ByteArray)):=h1.new 8 _ (by decide) (by rw [hLS];rfl) hd8
         have hd14 : listed.getD 14 false = true:=by simp [Region.binds] at hk2;simp only [Array.getD_eq_getD_getElem?];simp [hk2]
         have e14 : a.eval (.tmp 34) = .string (bstr x.nm):=h1.new 14 _ (by decide) (by rw [hLS];rfl) hd14
         refine wpOp_of rfl rfl ?_
         exact wp_val (v:=.string (bstr Z ++ (⟨#[32]⟩ : ByteArray) ++ bstr x.nm)) (run_bin rfl e8 e14 (by go_simp)) ⟨put18 h1 15 35 _ (by decide) rfl (by rw [hLS];rfl),h2,keep3 h1 h3 15 35 _ (by decide) (by decide)⟩
       · have hd0 : listed.getD 0 false = true:=by simp [Region.binds] at hk2;simp only [Array.getD_eq_getD_getElem?];simp [hk2]
         have e0 : a.eval (.tmp 20) = .string (bstr S):=h1.new 0 _ (by decide) (by rw [hLS];rfl) hd0
         have hd15 : listed.getD 15 false = true:=by simp [Region.binds] at hk2;simp only [Array.getD_eq_getD_getElem?];simp [hk2]
         have e15 : a.eval (.tmp 35) = .string (bstr Z ++ (⟨#[32]⟩ : ByteArray) ++ bstr x.nm):=h1.new 15 _ (by decide) (by rw [hLS];rfl) hd15
         refine wpOp_of rfl rfl ?_
         exact wp_val (v:=.string (bstr S ++ (bstr Z ++ (⟨#[32]⟩ : ByteArray) ++ bstr x.nm))) (run_bin rfl e0 e15 (by go_simp)) ⟨put18 h1 16 36 _ (by decide) rfl (by rw [hLS];rfl),h2,keep3 h1 h3 16 36 _ (by decide) (by decide)⟩
       · have hd0 : listed.getD 0 false = true:=by simp [Region.binds] at hk2;simp only [Array.getD_eq_getD_getElem?];simp [hk2]
         have hd16 : listed.getD 16 false = true:=by simp [Region.binds] at hk2;simp only [Array.getD_eq_getD_getElem?];simp [hk2]
         have e16 : a.eval (.tmp 36) = .string (bstr S ++ (bstr Z ++ (⟨#[32]⟩ : ByteArray) ++ bstr x.nm)):=h1.new 16 _ (by decide) (by rw [hLS];rfl) hd16
         refine wpOp_of rfl rfl ?_
         exact wp_val (v:=.string (bstr S ++ (bstr Z ++ (⟨#[32]⟩ : ByteArray) ++ bstr x.nm))) (run_move (by first | exact .inl rfl | exact .inr rfl) e16) ⟨put18 h1 17 3 _ (by decide) rfl (by rw [hLS];rfl),h2,.inl (getD_set_old hd0)⟩
    · have HK0:=hid hk0
      have hg0 : (0 : Int) < (k : Int):=by omega
      clear hk0
      go_upto_region 7 with (fail)
      clear fl fc0 fc1 fc2 fc3 fc4 fc5 fc6 fc7 fc8 fc9 fc10 fc11
      refine name_act ?_
      intro a0 ha0
      have p1 : a0.tmps.getD 1 undef = .pointer (some ⟨w.heap.size,0,none⟩):=by (rw [ha0];rfl)
      have p3 : a0.tmps.getD 3 undef = .string (bstr S ++ (⟨#[44,32]⟩ : ByteArray)):=by (rw [ha0];rfl)
      have p4 : a0.tmps.getD 4 undef = .int .i64 k:=by (rw [ha0];rfl)
      have q1 : a0.tmps.size = 58:=by (rw [ha0];rfl)
      have q2 : a0.defers = []:=by (rw [ha0])
      have HA0:=hid ha0
      clear ha0
      obtain ⟨LS,hLS⟩ : ∃ l : List Value,l = [.string (bstr S ++ (⟨#[44,32]⟩ : ByteArray)),.pointer (some ⟨w.heap.size,2,none⟩),.slice (some ⟨g,0,none⟩) yp cp,.int .i64 k,.pointer (some ⟨g,k * 3,none⟩),.pointer (some ⟨g,k * 3 + 1,none⟩),.agg #[.bool x.tr,.bool x.sc],.string (bstr Z),.string (bstr Z ++ (⟨#[32]⟩ : ByteArray)),.pointer (some ⟨w.heap.size,2,none⟩),.slice (some ⟨g,0,none⟩) yp cp,.int .i64 k,.pointer (some ⟨g,k * 3,none⟩),.pointer (some ⟨g,k * 3,none⟩),.string (bstr x.nm),.string (bstr Z ++ (⟨#[32]⟩ : ByteArray) ++ bstr x.nm),.string (bstr S ++ (⟨#[44,32]⟩ : ByteArray) ++ (bstr Z ++ (⟨#[32]⟩ : ByteArray) ++ bstr x.nm)),.string (bstr S ++ (⟨#[44,32]⟩ : ByteArray) ++ (bstr Z ++ (⟨#[32]⟩ : ByteArray) ++ bstr x.nm))]:=⟨_,rfl⟩
      refine wp_region_any (by kernel_rfl) ?_
      refine wpAny_inv (fun listed a X => Ins 18 58 dstV (LS.map some) a0.tmps listed a ∧ Below wr.heap.size wr X ∧ (listed.getD 0 false = true ∨ a.tmps.getD 3 undef = .string (bstr S ++ (⟨#[44,32]⟩ : ByteArray)))) ?step ?fin _ _ _ _ ⟨⟨rfl,q1,q2,fun d _ => rfl,fun k v hk _ hl => absurd ((none18 k hk).symm.trans hl) (by simp)⟩,(Below.refl _ _).drew,.inr p3⟩ (by rfl) (by decide)
      case fin =>
       intro listed a X ⟨h1,h2,_⟩ hr
       have hl:=all_came (by rw [h1.size];rfl) hr (by decide +kernel)
       have ht:=tmps_of h1 (fun k hk => hl k hk) (by rw [hLS];rfl) q1 dstV_lt (fun i k hi hk e => dstV_inj e hi hk)
       have h5:=h1.defs
       have HC:=hid h2
       have hcz:=h2.size
       obtain ⟨tm,df⟩:=a
       simp only at ht h5
       subst h5
       rw [ht,HA0.out,hLS]
       clear h1 h2 hl hr ht HA0 hLS p1 p3 p4 q1 q2
       simp only [setAll,show List.range 18 = [0,1,2,3,4,5,6,7,8,9,10,11,12,13,14,15,16,17] from rfl,List.foldl_cons,List.foldl_nil,dstV,List.getD_cons_zero,List.getD_cons_succ,List.setIfInBounds_toArray,List.set_cons_succ,List.set_cons_zero,Nat.reduceEqDiff,if_false,if_true,Nat.reduceAdd]
       go_wp2
       go_roundw
       case rel =>
        first
         | exact ⟨k + 1,by (rw [HSU.out,if_neg HK0.out,show (⟨#[32]⟩ : ByteArray) = bstr [32] from rfl,show (⟨#[44,32]⟩ : ByteArray) = bstr [44,32] from rfl,← HSS.out,← HZ.out,bstr_cat,bstr_cat,bstr_cat,bstr_cat];simp [pmT]),by go_num,by omega,below_ch HBR.out HC.out⟩
         | (refine ⟨_,_,_,_,_,_,_,_,_,_,_,_,_,_,_,_,_,_,_,_,_,_,_,_,_,_,_,_,_,_,?_,rfl⟩;exact ⟨k + 1,by (rw [HSU.out,if_neg HK0.out,show (⟨#[32]⟩ : ByteArray) = bstr [32] from rfl,show (⟨#[44,32]⟩ : ByteArray) = bstr [44,32] from rfl,← HSS.out,← HZ.out,bstr_cat,bstr_cat,bstr_cat,bstr_cat];simp [pmT]),by go_num,by omega,below_ch HBR.out HC.out⟩)
       case measure =>
        simp [intOf]
        omega
      case step =>
       intro listed a X j ⟨h1,h2,h3⟩ hj
       have hlt9 : j < 18:=List.mem_range.1 (List.mem_filter.1 hj).1
       have hk2:=(List.mem_filter.1 hj).2
       have o1 : a.eval (.tmp 1) = .pointer (some ⟨w.heap.size,0,none⟩):=(h1.old 1 (by decide)).trans p1
       have o4 : a.eval (.tmp 4) = .int .i64 k:=(h1.old 4 (by decide)).trans p4
       obtain ⟨fl,⟨fc0,fc1,fc2,fc3,fc4,fc5,fc6,fc7,fc8,fc9,fc10,fc11⟩,_⟩:=(HFr.out.kw2 (h2.block _ HFr.out.lt)).facts
       obtain ⟨d0,d1,d2⟩:=HK.out _ h2
       have hcase : j = 0 ∨ j = 1 ∨ j = 2 ∨ j = 3 ∨ j = 4 ∨ j = 5 ∨ j = 6 ∨ j = 7 ∨ j = 8 ∨ j = 9 ∨ j = 10 ∨ j = 11 ∨ j = 12 ∨ j = 13 ∨ j = 14 ∨ j = 15 ∨ j = 16 ∨ j = 17:=by omega
       rcases hcase with rfl | rfl | rfl | rfl | rfl | rfl | rfl | rfl | rfl | rfl | rfl | rfl | rfl | rfl | rfl | rfl | rfl | rfl
       · have o3 : a.eval (.tmp 3) = .string (bstr S ++ (⟨#[44,32]⟩ : ByteArray)):=h3.resolve_left (fun h => by (have h9:=not_yet hj (by rw [h1.size];decide);rw [h9] at h;cases h))
         refine wpOp_of rfl rfl ?_
         exact wp_val (v:=.string (bstr S ++ (⟨#[44,32]⟩ : ByteArray))) (run_move (by first | exact .inl rfl | exact .inr rfl) o3) ⟨put18 h1 0 20 _ (by decide) rfl (by rw [hLS];rfl),h2,.inl (getD_set_self (by (rw [h1.size];decide)))⟩
       · refine wpOp_of rfl rfl ?_
         exact wp_val (v:=.pointer (some ⟨w.heap.size,2,none⟩)) (run_fieldAddr rfl o1 (by go_simp)) ⟨put18 h1 1 21 _ (by decide) rfl (by rw [hLS];rfl),h2,keep3 h1 h3 1 21 _ (by decide) (by decide)⟩
       · have hd1 : listed.getD 1 false = true:=by simp [Region.binds] at hk2;simp only [Array.getD_eq_getD_getElem?];simp [hk2]
         have e1 : a.eval (.tmp 21) = .pointer (some ⟨w.heap.size,2,none⟩):=h1.new 1 _ (by decide) (by rw [hLS];rfl) hd1
         refine wpOp_of rfl rfl ?_
         exact wp_val (v:=.slice (some ⟨g,0,none⟩) yp cp) (run_load rfl e1 (by go_simp)) ⟨put18 h1 2 22 _ (by decide) rfl (by rw [hLS];rfl),h2,keep3 h1 h3 2 22 _ (by decide) (by decide)⟩
       · refine wpOp_of rfl rfl ?_
         exact wp_val (v:=.int .i64 k) (run_move (by first | exact .inl rfl | exact .inr rfl) o4) ⟨put18 h1 3 23 _ (by decide) rfl (by rw [hLS];rfl),h2,keep3 h1 h3 3 23 _ (by decide) (by decide)⟩
       · have hd2 : listed.getD 2 false = true:=by simp [Region.binds] at hk2;simp only [Array.getD_eq_getD_getElem?];simp [hk2]
         have e2 : a.eval (.tmp 22) = .slice (some ⟨g,0,none⟩) yp cp:=h1.new 2 _ (by decide) (by rw [hLS];rfl) hd2
         have hd3 : listed.getD 3 false = true:=by simp [Region.binds] at hk2;simp only [Array.getD_eq_getD_getElem?];simp [hk2]
         have e3 : a.eval (.tmp 23) = .int .i64 k:=h1.new 3 _ (by decide) (by rw [hLS];rfl) hd3
         refine wpOp_of rfl rfl ?_
         exact wp_val (v:=.pointer (some ⟨g,k * 3,none⟩)) (run_indexAddr rfl e2 e3 (by go_simp)) ⟨put18 h1 4 24 _ (by decide) rfl (by rw [hLS];rfl),h2,keep3 h1 h3 4 24 _ (by decide) (by decide)⟩
       · have hd4 : listed.getD 4 false = true:=by simp [Region.binds] at hk2;simp only [Array.getD_eq_getD_getElem?];simp [hk2]
         have e4 : a.eval (.tmp 24) = .pointer (some ⟨g,k * 3,none⟩):=h1.new 4 _ (by decide) (by rw [hLS];rfl) hd4
         refine wpOp_of rfl rfl ?_
         exact wp_val (v:=.pointer (some ⟨g,k * 3 + 1,none⟩)) (run_fieldAddr rfl e4 (by go_simp)) ⟨put18 h1 5 25 _ (by decide) rfl (by rw [hLS];rfl),h2,keep3 h1 h3 5 25 _ (by decide) (by decide)⟩
       · have hd5 : listed.getD 5 false = true:=by simp [Region.binds] at hk2;simp only [Array.getD_eq_getD_getElem?];simp [hk2]
         have e5 : a.eval (.tmp 25) = .pointer (some ⟨g,k * 3 + 1,none⟩):=h1.new 5 _ (by decide) (by rw [hLS];rfl) hd5
         refine wpOp_of rfl rfl ?_
         exact wp_val (v:=.agg #[.bool x.tr,.bool x.sc]) (run_load rfl e5 (by go_simp)) ⟨put18 h1 6 26 _ (by decide) rfl (by rw [hLS];rfl),h2,keep3 h1 h3 6 26 _ (by decide) (by decide)⟩
       · have hd6 : listed.getD 6 false = true:=by simp [Region.binds] at hk2;simp only [Array.getD_eq_getD_getElem?];simp [hk2]
         have e6 : a.eval (.tmp 26) = .agg #[.bool x.tr,.bool x.sc]:=h1.new 6 _ (by decide) (by rw [hLS];rfl) hd6
         refine wpOp_of rfl rfl ?_
         refine wp_enter (f:=14) (args:=#[a.eval (.tmp 26)]) ((Go.Conc.run_call_body rfl Tryd.func14 (by kernel_rfl) (by kernel_rfl)).trans (by simp)) ?_
         rw [e6]
         refine Calls.mono (rtype_any x.tr x.sc X) ?_
         rintro e w' ⟨rfl,hb⟩
         exact ⟨.string (bstr Z),by rw [HZ.out],put18 h1 7 27 _ (by decide) rfl (by rw [hLS];rfl),below_ch h2 hb,keep3 h1 h3 7 27 _ (by decide) (by decide)⟩
       · have hd7 : listed.getD 7 false = true:=by simp [Region.binds] at hk2;simp only [Array.getD_eq_getD_getElem?];simp [hk2]
         have e7 : a.eval (.tmp 27) = .string (bstr Z):=h1.new 7 _ (by decide) (by rw [hLS];rfl) hd7
         refine wpOp_of rfl rfl ?_
         exact wp_val (v:=.string (bstr Z ++ (⟨#[32]⟩ : ByteArray))) (run_bin rfl e7 rfl (by go_simp)) ⟨put18 h1 8 28 _ (by decide) rfl (by rw [hLS];rfl),h2,keep3 h1 h3 8 28 _ (by decide) (by decide)⟩
       · refine wpOp_of rfl rfl ?_
         exact wp_val (v:=.pointer (some ⟨w.heap.size,2,none⟩)) (run_fieldAddr rfl o1 (by go_simp)) ⟨put18 h1 9 29 _ (by decide) rfl (by rw [hLS];rfl),h2,keep3 h1 h3 9 29 _ (by decide) (by decide)⟩
       · have hd9 : listed.getD 9 false = true:=by simp [Region.binds] at hk2;simp only [Array.getD_eq_getD_getElem?];simp [hk2]
         have e9 : a.eval (.tmp 29) = .pointer (some ⟨w.heap.size,2,none⟩):=h1.new 9 _ (by decide) (by rw [hLS];rfl) hd9
         refine wpOp_of rfl rfl ?_
         exact wp_val (v:=.slice (some ⟨g,0,none⟩) yp cp) (run_load rfl e9 (by go_simp)) ⟨put18 h1 10 30 _ (by decide) rfl (by rw [hLS];rfl),h2,keep3 h1 h3 10 30 _ (by decide) (by decide)⟩
       · refine wpOp_of rfl rfl ?_
         exact wp_val (v:=.int .i64 k) (run_move (by first | exact .inl rfl | exact .inr rfl) o4) ⟨put18 h1 11 31 _ (by decide) rfl (by rw [hLS];rfl),h2,keep3 h1 h3 11 31 _ (by decide) (by decide)⟩
       · have hd10 : listed.getD 10 false = true:=by simp [Region.binds] at hk2;simp only [Array.getD_eq_getD_getElem?];simp [hk2]
         have e10 : a.eval (.tmp 30) = .slice (some ⟨g,0,none⟩) yp cp:=h1.new 10 _ (by decide) (by rw [hLS];rfl) hd10
         have hd11 : listed.getD 11 false = true:=by simp [Region.binds] at hk2;simp only [Array.getD_eq_getD_getElem?];simp [hk2]
         have e11 : a.eval (.tmp 31) = .int .i64 k:=h1.new 11 _ (by decide) (by rw [hLS];rfl) hd11
         refine wpOp_of rfl rfl ?_
         exact wp_val (v:=.pointer (some ⟨g,k * 3,none⟩)) (run_indexAddr rfl e10 e11 (by go_simp)) ⟨put18 h1 12 32 _ (by decide) rfl (by rw [hLS];rfl),h2,keep3 h1 h3 12 32 _ (by decide) (by decide)⟩
       · have hd12 : listed.getD 12 false = true:=by simp [Region.binds] at hk2;simp only [Array.getD_eq_getD_getElem?];simp [hk2]
         have e12 : a.eval (.tmp 32) = .pointer (some ⟨g,k * 3,none⟩):=h1.new 12 _ (by decide) (by rw [hLS];rfl) hd12
         refine wpOp_of rfl rfl ?_
         exact wp_val (v:=.pointer (some ⟨g,k * 3,none⟩)) (run_fieldAddr rfl e12 (by go_simp)) ⟨put18 h1 13 33 _ (by decide) rfl (by rw [hLS];rfl),h2,keep3 h1 h3 13 33 _ (by decide) (by decide)⟩
       · have hd13 : listed.getD 13 false = true:=by simp [Region.binds] at hk2;simp only [Array.getD_eq_getD_getElem?];simp [hk2]
         have e13 : a.eval (.tmp 33) = .pointer (some ⟨g,k * 3,none⟩):=h1.new 13 _ (by decide) (by rw [hLS];rfl) hd13
         refine wpOp_of rfl rfl ?_
         exact wp_val (v:=.string (bstr x.nm)) (run_load rfl e13 (by go_simp)) ⟨put18 h1 14 34 _ (by decide) rfl (by rw [hLS];rfl),h2,keep3 h1 h3 14 34 _ (by decide) (by decide)⟩
       · have hd8 : listed.getD 8 false = true:=by simp [Region.binds] at hk2;simp only [Array.getD_eq_getD_getElem?];simp [hk2]
         have e8 : a.eval (.tmp 28) = .string (bstr Z ++ (⟨#[32]⟩ : ByteArray)):=h1.new 8 _ (by decide) (by rw [hLS];rfl) hd8
         have hd14 : listed.getD 14 false = true:=by simp [Region.binds] at hk2;simp only [Array.getD_eq_getD_getElem?];simp [hk2]
         have e14 : a.eval (.tmp 34) = .string (bstr x.nm):=h1.new 14 _ (by decide) (by rw [hLS];rfl) hd14
         refine wpOp_of rfl rfl ?_
         exact wp_val (v:=.string (bstr Z ++ (⟨#[32]⟩ : ByteArray) ++ bstr x.nm)) (run_bin rfl e8 e14 (by go_simp)) ⟨put18 h1 15 35 _ (by decide) rfl (by rw [hLS];rfl),h2,keep3 h1 h3 15 35 _ (by decide) (by decide)⟩
       · have hd0 : listed.getD 0 false = true:=by simp [Region.binds] at hk2;simp only [Array.getD_eq_getD_getElem?];simp [hk2]
         have e0 : a.eval (.tmp 20) = .string (bstr S ++ (⟨#[44,32]⟩ : ByteArray)):=h1.new 0 _ (by decide) (by rw [hLS];rfl) hd0
         have hd15 : listed.getD 15 false = true:=by simp [Region.binds] at hk2;simp only [Array.getD_eq_getD_getElem?];simp [hk2]
         have e15 : a.eval (.tmp 35) = .string (bstr Z ++ (⟨#[32]⟩ : ByteArray) ++ bstr x.nm):=h1.new 15 _ (by decide) (by rw [hLS];rfl) hd15
         refine wpOp_of rfl rfl ?_
         exact wp_val (v:=.string (bstr S ++ (⟨#[44,32]⟩ : ByteArray) ++ (bstr Z ++ (⟨#[32]⟩ : ByteArray) ++ bstr x.nm))) (run_bin rfl e0 e15 (by go_simp)) ⟨put18 h1 16 36 _ (by decide) rfl (by rw [hLS];rfl),h2,keep3 h1 h3 16 36 _ (by decide) (by decide)⟩
       · have hd0 : listed.getD 0 false = true:=by simp [Region.binds] at hk2;simp only [Array.getD_eq_getD_getElem?];simp [hk2]
         have hd16 : listed.getD 16 false = true:=by simp [Region.binds] at hk2;simp only [Array.getD_eq_getD_getElem?];simp [hk2]
         have e16 : a.eval (.tmp 36) = .string (bstr S ++ (⟨#[44,32]⟩ : ByteArray) ++ (bstr Z ++ (⟨#[32]⟩ : ByteArray) ++ bstr x.nm)):=h1.new 16 _ (by decide) (by rw [hLS];rfl) hd16
         refine wpOp_of rfl rfl ?_
         exact wp_val (v:=.string (bstr S ++ (⟨#[44,32]⟩ : ByteArray) ++ (bstr Z ++ (⟨#[32]⟩ : ByteArray) ++ bstr x.nm))) (run_move (by first | exact .inl rfl | exact .inr rfl) e16) ⟨put18 h1 17 3 _ (by decide) rfl (by rw [hLS];rfl),h2,.inl (getD_set_old hd0)⟩
  · have hlt : ¬ (k : Int) < (yp : Int):=by omega
    obtain rfl : yp = k:=by omega
    have et : ps.take yp = ps:=by (rw [← HYP.out];exact List.take_length)
    have hSS:=HSS.out
    rw [et,HP0.out] at hSS
    have HS2:=hid hSS
    have HW : Hid (Below w.heap.size w wr):=hid (below_ch HA.out HBR.out)
    have HIr : Hid (IsSts (fun g => 0 ≤ g) wr bd (.slice zb yb cb) ∧ IsEx 0 wr ret (.slice zk yk ck)):=hid ⟨HI1.out.2.1.kept fun g hg hl => ⟨HBR.out.block g hl,hg⟩,(HI1.out.2.2.kept (ok':=fun g => 0 ≤ g) fun g hg hl => ⟨HBR.out.block g hl,hg⟩).toEx fun _ _ => Nat.zero_le _⟩
    have HU1 : Hid (bstr S ++ (⟨#[41,32]⟩ : ByteArray) ++ bstr Y ++ (⟨#[32,123]⟩ : ByteArray) = bstr [S,[41,32],Y,[32,123]].flatten):=hid (by
     rw [show (⟨#[41,32]⟩ : ByteArray) = bstr [41,32] from rfl,show (⟨#[32,123]⟩ : ByteArray) = bstr [32,123] from rfl,bstr_cat,bstr_cat,bstr_cat]
     simp)
    have HL1 : Hid (lineT 0 [S,[41,32],Y,[32,123]] = T1):=hid (by (rw [← hSS];exact HT1.out))
    have HU3 : Hid ((⟨#[114,101,116,117,114,110,32]⟩ : ByteArray) ++ bstr R ++ (⟨#[59]⟩ : ByteArray) = bstr [tRet,R,[59]].flatten):=hid (by
     rw [show (⟨#[114,101,116,117,114,110,32]⟩ : ByteArray) = bstr tRet from rfl,show (⟨#[59]⟩ : ByteArray) = bstr [59] from rfl,bstr_cat,bstr_cat]
     simp)
    have HU4 : Hid ((⟨#[125]⟩ : ByteArray) = bstr [[125]].flatten):=hid (by rfl)
    have HFIN : Hid (bstr T1 ++ bstr T2 ++ bstr T3 ++ bstr T4 = bstr T):=hid (by
     rw [HTT.out,bstr_cat,bstr_cat,bstr_cat]
     simp)
    have HQ1 : Hid (¬ 9223372036854775807 < (bstr S).size + 2):=hid (by omega)
    have HQ5 : Hid (¬ 9223372036854775807 < (bstr S).size + 2 + (bstr Y).size):=hid (by omega)
    have HQ6 : Hid (¬ 9223372036854775807 < (bstr S).size + 2 + (bstr Y).size + 2):=hid (by omega)
    have HQ11 : Hid (¬ 9223372036854775807 < (bstr T1).size + (bstr T2).size):=hid (by omega)
    have HQ15 : Hid (¬ 9223372036854775807 < 7 + (bstr R).size):=hid (by omega)
    have HQ16 : Hid (¬ 9223372036854775807 < 7 + (bstr R).size + 1):=hid (by omega)
    have HQ18 : Hid (¬ 9223372036854775807 < (bstr T1).size + (bstr T2).size + (bstr T3).size):=hid (by omega)
    have HQ20 : Hid (¬ 9223372036854775807 < (bstr T1).size + (bstr T2).size + (bstr T3).size + (bstr T4).size):=hid (by omega)
    have ht1 : T1.length ≤ 100000000000000:=Nat.le_trans hT1l (by decide)
    have ht3 : T3.length ≤ 100000000000000:=Nat.le_trans hT3l (by decide)
    have ht4 : T4.length ≤ 100000000000000:=Nat.le_trans hT4l (by decide)
    clear hSS et hkl hk
    go_upto_region 8 with (fail)
    clear fl fc0 fc1 fc2 fc3 fc4 fc5 fc6 fc7 fc8 fc9 fc10 fc11
    refine name_act ?_
    intro a0 ha0
    have p1 : a0.tmps.getD 1 undef = .pointer (some ⟨w.heap.size,0,none⟩):=by (rw [ha0];rfl)
    have p3 : a0.tmps.getD 3 undef = .string (bstr S):=by (rw [ha0];rfl)
    have q1 : a0.tmps.size = 58:=by (rw [ha0];rfl)
    have q2 : a0.defers = []:=by (rw [ha0])
    clear ha0
    obtain ⟨VS,hVS⟩ : ∃ VS : List (Option Value),VS = [some (.string (bstr S)),some (.string (bstr S ++ (⟨#[41,32]⟩ : ByteArray))),some (.pointer (some ⟨w.heap.size,3,none⟩)),some (.agg #[.bool tr,.bool sc]),some (.string (bstr Y)),some (.string (bstr S ++ (⟨#[41,32]⟩ : ByteArray) ++ bstr Y)),some (.string (bstr S ++ (⟨#[41,32]⟩ : ByteArray) ++ bstr Y ++ (⟨#[32,123]⟩ : ByteArray))),some (.string (bstr T1)),some (.pointer (some ⟨w.heap.size,5,none⟩)),some (.slice zb yb cb),some (.string (bstr T2)),some (.string (bstr T1 ++ bstr T2)),some (.pointer (some ⟨w.heap.size,6,none⟩)),some (.agg #[.int .i64 ret.k,.int .i64 ret.op,.int .i64 ret.n,.string (bstr ret.nm),.slice zk yk ck,.int .i64 ret.a]),some (.string (bstr R)),some (.string ((⟨#[114,101,116,117,114,110,32]⟩ : ByteArray) ++ bstr R)),some (.string ((⟨#[114,101,116,117,114,110,32]⟩ : ByteArray) ++ bstr R ++ (⟨#[59]⟩ : ByteArray))),some (.string (bstr T3)),some (.string (bstr T1 ++ bstr T2 ++ bstr T3)),some (.string (bstr T4)),some (.string (bstr T1 ++ bstr T2 ++ bstr T3 ++ bstr T4)),some (.string (bstr T1 ++ bstr T2 ++ bstr T3 ++ bstr T4))]:=⟨_,rfl⟩
    refine wp_region_any (by kernel_rfl) ?_
    refine wpAny_inv (fun listed a X => Ins 22 58 dstU VS a0.tmps listed a ∧ Below wr.heap.size wr X) ?step ?fin _ _ _ _ ⟨⟨rfl,q1,q2,fun d _ => rfl,fun k v hk _ hl => absurd ((none22 k hk).symm.trans hl) (by simp)⟩,(Below.refl _ _).drew⟩ (by rfl) (by decide)
    case fin =>
     intro listed a X ⟨h1,h2⟩ hr
     have hl:=all_came (by rw [h1.size];rfl) hr (by decide +kernel) 21 (by decide)
     have h4 : a.tmps.getD 2 undef = .string (bstr T):=(h1.new 21 _ (by decide) (by rw [hVS];rfl) hl).trans (by rw [HFIN.out])
     have h5:=h1.defs
     have Z:=hid (below_ch HW.out h2)
     clear hr
     obtain ⟨tm,df⟩:=a
     simp only at h4 h5
     subst h5
     have h6 : tm[2]?.getD undef = .string (bstr T):=by (rw [← Array.getD_eq_getD_getElem?];exact h4)
     clear h1 h2 hl h4 hVS p1 p3 q1 q2
     go_wp2
     go_ret
     exact ⟨by first | rfl | (simp [h6];done),Z.out⟩
    case step =>
     intro listed a X k ⟨h1,h2⟩ hk
     have hlt : k < 22:=List.mem_range.1 (List.mem_filter.1 hk).1
     have hk2:=(List.mem_filter.1 hk).2
     have o1 : a.eval (.tmp 1) = .pointer (some ⟨w.heap.size,0,none⟩):=(h1.old 1 (by decide)).trans p1
     have o3 : a.eval (.tmp 3) = .string (bstr S):=(h1.old 3 (by decide)).trans p3
     obtain ⟨fl,⟨fc0,fc1,fc2,fc3,fc4,fc5,fc6,fc7,fc8,fc9,fc10,fc11⟩,_⟩:=(HFr.out.kw2 (h2.block _ HFr.out.lt)).facts
     have hcase : k = 0 ∨ k = 1 ∨ k = 2 ∨ k = 3 ∨ k = 4 ∨ k = 5 ∨ k = 6 ∨ k = 7 ∨ k = 8 ∨ k = 9 ∨ k = 10 ∨ k = 11 ∨ k = 12 ∨ k = 13 ∨ k = 14 ∨ k = 15 ∨ k = 16 ∨ k = 17 ∨ k = 18 ∨ k = 19 ∨ k = 20 ∨ k = 21:=by omega
     rcases hcase with rfl | rfl | rfl | rfl | rfl | rfl | rfl | rfl | rfl | rfl | rfl | rfl | rfl | rfl | rfl | rfl | rfl | rfl | rfl | rfl | rfl | rfl
     · refine wpOp_of rfl rfl ?_
       exact wp_val (v:=.string (bstr S)) (run_move (by first | exact .inl rfl | exact .inr rfl) o3) ⟨put22 h1 0 37 _ (by decide) rfl (by rw [hVS];rfl),h2⟩
     · have hd0 : listed.getD 0 false = true:=by simp [Region.binds] at hk2;simp only [Array.getD_eq_getD_getElem?];simp [hk2]
       have e0 : a.eval (.tmp 37) = .string (bstr S):=h1.new 0 _ (by decide) (by rw [hVS];rfl) hd0
       refine wpOp_of rfl rfl ?_
       have hc:=HQ1.out
       exact wp_val (v:=.string (bstr S ++ (⟨#[41,32]⟩ : ByteArray))) (run_bin rfl e0 rfl (by go_simp)) ⟨put22 h1 1 38 _ (by decide) rfl (by rw [hVS];rfl),h2⟩
     · refine wpOp_of rfl rfl ?_
       exact wp_val (v:=.pointer (some ⟨w.heap.size,3,none⟩)) (run_fieldAddr rfl o1 (by go_simp)) ⟨put22 h1 2 39 _ (by decide) rfl (by rw [hVS];rfl),h2⟩
     · have hd2 : listed.getD 2 false = true:=by simp [Region.binds] at hk2;simp only [Array.getD_eq_getD_getElem?];simp [hk2]
       have e2 : a.eval (.tmp 39) = .pointer (some ⟨w.heap.size,3,none⟩):=h1.new 2 _ (by decide) (by rw [hVS];rfl) hd2
       refine wpOp_of rfl rfl ?_
       exact wp_val (v:=.agg #[.bool tr,.bool sc]) (run_load rfl e2 (by go_simp)) ⟨put22 h1 3 40 _ (by decide) rfl (by rw [hVS];rfl),h2⟩
     · have hd3 : listed.getD 3 false = true:=by simp [Region.binds] at hk2;simp only [Array.getD_eq_getD_getElem?];simp [hk2]
       have e3 : a.eval (.tmp 40) = .agg #[.bool tr,.bool sc]:=h1.new 3 _ (by decide) (by rw [hVS];rfl) hd3
       refine wpOp_of rfl rfl ?_
       refine wp_enter (f:=14) (args:=#[a.eval (.tmp 40)]) ((Go.Conc.run_call_body rfl Tryd.func14 (by kernel_rfl) (by kernel_rfl)).trans (by simp [Act.eval])) ?_
       rw [e3]
       refine Calls.mono (rtype_any tr sc X) ?_
       rintro e w' ⟨rfl,hb⟩
       exact ⟨.string (bstr Y),by rw [HYY.out],put22 h1 4 41 _ (by decide) rfl (by rw [hVS];rfl),below_ch h2 hb⟩
     · have hd1 : listed.getD 1 false = true:=by simp [Region.binds] at hk2;simp only [Array.getD_eq_getD_getElem?];simp [hk2]
       have e1 : a.eval (.tmp 38) = .string (bstr S ++ (⟨#[41,32]⟩ : ByteArray)):=h1.new 1 _ (by decide) (by rw [hVS];rfl) hd1
       have hd4 : listed.getD 4 false = true:=by simp [Region.binds] at hk2;simp only [Array.getD_eq_getD_getElem?];simp [hk2]
       have e4 : a.eval (.tmp 41) = .string (bstr Y):=h1.new 4 _ (by decide) (by rw [hVS];rfl) hd4
       refine wpOp_of rfl rfl ?_
       have hc:=HQ5.out
       exact wp_val (v:=.string (bstr S ++ (⟨#[41,32]⟩ : ByteArray) ++ bstr Y)) (run_bin rfl e1 e4 (by go_simp)) ⟨put22 h1 5 42 _ (by decide) rfl (by rw [hVS];rfl),h2⟩
     · have hd5 : listed.getD 5 false = true:=by simp [Region.binds] at hk2;simp only [Array.getD_eq_getD_getElem?];simp [hk2]
       have e5 : a.eval (.tmp 42) = .string (bstr S ++ (⟨#[41,32]⟩ : ByteArray) ++ bstr Y):=h1.new 5 _ (by decide) (by rw [hVS];rfl) hd5
       refine wpOp_of rfl rfl ?_
       have hc:=HQ6.out
       exact wp_val (v:=.string (bstr S ++ (⟨#[41,32]⟩ : ByteArray) ++ bstr Y ++ (⟨#[32,123]⟩ : ByteArray))) (run_bin rfl e5 rfl (by go_simp)) ⟨put22 h1 6 43 _ (by decide) rfl (by rw [hVS];rfl),h2⟩
     · have hd6 : listed.getD 6 false = true:=by simp [Region.binds] at hk2;simp only [Array.getD_eq_getD_getElem?];simp [hk2]
       have e6 : a.eval (.tmp 43) = .string (bstr S ++ (⟨#[41,32]⟩ : ByteArray) ++ bstr Y ++ (⟨#[32,123]⟩ : ByteArray)):=h1.new 6 _ (by decide) (by rw [hVS];rfl) hd6
       refine wpOp_of rfl rfl ?_
       refine wp_enter (f:=26) (args:=#[.int .i64 0,a.eval (.tmp 43)]) ((Go.Conc.run_call_body rfl Tryd.func26 (by kernel_rfl) (by kernel_rfl)).trans (by simp [Act.eval])) ?_
       rw [e6]
       refine Calls.mono (rline_any 0 (by decide) _ _ HU1 T1 HL1 ht1 X) ?_
       rintro e w' ⟨rfl,hb⟩
       exact ⟨.string (bstr T1),rfl,put22 h1 7 44 _ (by decide) rfl (by rw [hVS];rfl),below_ch h2 hb⟩
     · refine wpOp_of rfl rfl ?_
       exact wp_val (v:=.pointer (some ⟨w.heap.size,5,none⟩)) (run_fieldAddr rfl o1 (by go_simp)) ⟨put22 h1 8 45 _ (by decide) rfl (by rw [hVS];rfl),h2⟩
     · have hd8 : listed.getD 8 false = true:=by simp [Region.binds] at hk2;simp only [Array.getD_eq_getD_getElem?];simp [hk2]
       have e8 : a.eval (.tmp 45) = .pointer (some ⟨w.heap.size,5,none⟩):=h1.new 8 _ (by decide) (by rw [hVS];rfl) hd8
       refine wpOp_of rfl rfl ?_
       exact wp_val (v:=.slice zb yb cb) (run_load rfl e8 (by go_simp)) ⟨put22 h1 9 46 _ (by decide) rfl (by rw [hVS];rfl),h2⟩
     · have hd9 : listed.getD 9 false = true:=by simp [Region.binds] at hk2;simp only [Array.getD_eq_getD_getElem?];simp [hk2]
       have e9 : a.eval (.tmp 46) = .slice zb yb cb:=h1.new 9 _ (by decide) (by rw [hVS];rfl) hd9
       refine wpOp_of rfl rfl ?_
       refine wp_enter (f:=12) (args:=#[a.eval (.tmp 46),.int .i64 1]) ((Go.Conc.run_call_body rfl Tryd.func12 (by kernel_rfl) (by kernel_rfl)).trans (by simp [Act.eval])) ?_
       rw [e9]
       refine Calls.mono (rsts9_any (tabs:=0 + 1) T2 HT2 HG1.out (HIr.out.1.kept fun g hg hl => ⟨h2.block g hl,hg⟩) HG2.out (by decide)) ?_
       rintro e w' ⟨rfl,hb⟩
       exact ⟨.string (bstr T2),rfl,put22 h1 10 47 _ (by decide) rfl (by rw [hVS];rfl),below_ch h2 hb⟩
     · have hd7 : listed.getD 7 false = true:=by simp [Region.binds] at hk2;simp only [Array.getD_eq_getD_getElem?];simp [hk2]
       have e7 : a.eval (.tmp 44) = .string (bstr T1):=h1.new 7 _ (by decide) (by rw [hVS];rfl) hd7
       have hd10 : listed.getD 10 false = true:=by simp [Region.binds] at hk2;simp only [Array.getD_eq_getD_getElem?];simp [hk2]
       have e10 : a.eval (.tmp 47) = .string (bstr T2):=h1.new 10 _ (by decide) (by rw [hVS];rfl) hd10
       refine wpOp_of rfl rfl ?_
       have hc:=HQ11.out
       exact wp_val (v:=.string (bstr T1 ++ bstr T2)) (run_bin rfl e7 e10 (by go_simp)) ⟨put22 h1 11 48 _ (by decide) rfl (by rw [hVS];rfl),h2⟩
     · refine wpOp_of rfl rfl ?_
       exact wp_val (v:=.pointer (some ⟨w.heap.size,6,none⟩)) (run_fieldAddr rfl o1 (by go_simp)) ⟨put22 h1 12 49 _ (by decide) rfl (by rw [hVS];rfl),h2⟩
     · have hd12 : listed.getD 12 false = true:=by simp [Region.binds] at hk2;simp only [Array.getD_eq_getD_getElem?];simp [hk2]
       have e12 : a.eval (.tmp 49) = .pointer (some ⟨w.heap.size,6,none⟩):=h1.new 12 _ (by decide) (by rw [hVS];rfl) hd12
       refine wpOp_of rfl rfl ?_
       exact wp_val (v:=.agg #[.int .i64 ret.k,.int .i64 ret.op,.int .i64 ret.n,.string (bstr ret.nm),.slice zk yk ck,.int .i64 ret.a]) (run_load rfl e12 (by go_simp)) ⟨put22 h1 13 50 _ (by decide) rfl (by rw [hVS];rfl),h2⟩
     · have hd13 : listed.getD 13 false = true:=by simp [Region.binds] at hk2;simp only [Array.getD_eq_getD_getElem?];simp [hk2]
       have e13 : a.eval (.tmp 50) = .agg #[.int .i64 ret.k,.int .i64 ret.op,.int .i64 ret.n,.string (bstr ret.nm),.slice zk yk ck,.int .i64 ret.a]:=h1.new 13 _ (by decide) (by rw [hVS];rfl) hd13
       refine wpOp_of rfl rfl ?_
       refine wp_enter (f:=53) (args:=#[a.eval (.tmp 50)]) ((Go.Conc.run_call_body rfl Tryd.func53 (by kernel_rfl) (by kernel_rfl)).trans (by simp [Act.eval])) ?_
       rw [e13]
       refine Calls.mono (rshow_any H3.out R HYK (hid (HIr.out.2.stay h2)) HR) ?_
       rintro e w' ⟨rfl,hb⟩
       exact ⟨.string (bstr R),rfl,put22 h1 14 51 _ (by decide) rfl (by rw [hVS];rfl),below_ch h2 hb⟩
     · have hd14 : listed.getD 14 false = true:=by simp [Region.binds] at hk2;simp only [Array.getD_eq_getD_getElem?];simp [hk2]
       have e14 : a.eval (.tmp 51) = .string (bstr R):=h1.new 14 _ (by decide) (by rw [hVS];rfl) hd14
       refine wpOp_of rfl rfl ?_
       have hc:=HQ15.out
       exact wp_val (v:=.string ((⟨#[114,101,116,117,114,110,32]⟩ : ByteArray) ++ bstr R)) (run_bin rfl rfl e14 (by go_simp)) ⟨put22 h1 15 52 _ (by decide) rfl (by rw [hVS];rfl),h2⟩
     · have hd15 : listed.getD 15 false = true:=by simp [Region.binds] at hk2;simp only [Array.getD_eq_getD_getElem?];simp [hk2]
       have e15 : a.eval (.tmp 52) = .string ((⟨#[114,101,116,117,114,110,32]⟩ : ByteArray) ++ bstr R):=h1.new 15 _ (by decide) (by rw [hVS];rfl) hd15
       refine wpOp_of rfl rfl ?_
       have hc:=HQ16.out
       exact wp_val (v:=.string ((⟨#[114,101,116,117,114,110,32]⟩ : ByteArray) ++ bstr R ++ (⟨#[59]⟩ : ByteArray))) (run_bin rfl e15 rfl (by go_simp)) ⟨put22 h1 16 53 _ (by decide) rfl (by rw [hVS];rfl),h2⟩
     · have hd16 : listed.getD 16 false = true:=by simp [Region.binds] at hk2;simp only [Array.getD_eq_getD_getElem?];simp [hk2]
       have e16 : a.eval (.tmp 53) = .string ((⟨#[114,101,116,117,114,110,32]⟩ : ByteArray) ++ bstr R ++ (⟨#[59]⟩ : ByteArray)):=h1.new 16 _ (by decide) (by rw [hVS];rfl) hd16
       refine wpOp_of rfl rfl ?_
       refine wp_enter (f:=26) (args:=#[.int .i64 1,a.eval (.tmp 53)]) ((Go.Conc.run_call_body rfl Tryd.func26 (by kernel_rfl) (by kernel_rfl)).trans (by simp [Act.eval])) ?_
       rw [e16]
       refine Calls.mono (rline_any (0 + 1) (by decide) _ _ HU3 T3 HT3 ht3 X) ?_
       rintro e w' ⟨rfl,hb⟩
       exact ⟨.string (bstr T3),rfl,put22 h1 17 54 _ (by decide) rfl (by rw [hVS];rfl),below_ch h2 hb⟩
     · have hd11 : listed.getD 11 false = true:=by simp [Region.binds] at hk2;simp only [Array.getD_eq_getD_getElem?];simp [hk2]
       have e11 : a.eval (.tmp 48) = .string (bstr T1 ++ bstr T2):=h1.new 11 _ (by decide) (by rw [hVS];rfl) hd11
       have hd17 : listed.getD 17 false = true:=by simp [Region.binds] at hk2;simp only [Array.getD_eq_getD_getElem?];simp [hk2]
       have e17 : a.eval (.tmp 54) = .string (bstr T3):=h1.new 17 _ (by decide) (by rw [hVS];rfl) hd17
       refine wpOp_of rfl rfl ?_
       have hc:=HQ18.out
       exact wp_val (v:=.string (bstr T1 ++ bstr T2 ++ bstr T3)) (run_bin rfl e11 e17 (by go_simp)) ⟨put22 h1 18 55 _ (by decide) rfl (by rw [hVS];rfl),h2⟩
     · refine wpOp_of rfl rfl ?_
       refine wp_enter (f:=26) (args:=#[.int .i64 0,.string ⟨#[125]⟩]) ((Go.Conc.run_call_body rfl Tryd.func26 (by kernel_rfl) (by kernel_rfl)).trans (by simp [Act.eval])) ?_
       refine Calls.mono (rline_any 0 (by decide) _ _ HU4 T4 HT4 ht4 X) ?_
       rintro e w' ⟨rfl,hb⟩
       exact ⟨.string (bstr T4),rfl,put22 h1 19 56 _ (by decide) rfl (by rw [hVS];rfl),below_ch h2 hb⟩
     · have hd18 : listed.getD 18 false = true:=by simp [Region.binds] at hk2;simp only [Array.getD_eq_getD_getElem?];simp [hk2]
       have e18 : a.eval (.tmp 55) = .string (bstr T1 ++ bstr T2 ++ bstr T3):=h1.new 18 _ (by decide) (by rw [hVS];rfl) hd18
       have hd19 : listed.getD 19 false = true:=by simp [Region.binds] at hk2;simp only [Array.getD_eq_getD_getElem?];simp [hk2]
       have e19 : a.eval (.tmp 56) = .string (bstr T4):=h1.new 19 _ (by decide) (by rw [hVS];rfl) hd19
       refine wpOp_of rfl rfl ?_
       have hc:=HQ20.out
       exact wp_val (v:=.string (bstr T1 ++ bstr T2 ++ bstr T3 ++ bstr T4)) (run_bin rfl e18 e19 (by go_simp)) ⟨put22 h1 20 57 _ (by decide) rfl (by rw [hVS];rfl),h2⟩
     · have hd20 : listed.getD 20 false = true:=by simp [Region.binds] at hk2;simp only [Array.getD_eq_getD_getElem?];simp [hk2]
       have e20 : a.eval (.tmp 57) = .string (bstr T1 ++ bstr T2 ++ bstr T3 ++ bstr T4):=h1.new 20 _ (by decide) (by rw [hVS];rfl) hd20
       refine wpOp_of rfl rfl ?_
       exact wp_val (v:=.string (bstr T1 ++ bstr T2 ++ bstr T3 ++ bstr T4)) (run_move (by first | exact .inl rfl | exact .inr rfl) e20) ⟨put22 h1 21 2 _ (by decide) rfl (by rw [hVS];rfl),h2⟩
theorem rfn_owes {f : Fn} (hg : (∀ s ∈ f.bd,GoodS s) ∧ cntS f.bd ≤ 16385 ∧ GoodE f.ret ∧ f.nm.length ≤ 100000) (hn : NameB f.nm ∧ f.ps.length ≤ 6 ∧ ∀ q ∈ f.ps,NameB q.nm) (T : List UInt8) (hT : Hid (fnT f = T)) (fv : FV) (w : World) (hI : IsFn1 (fun g => 0 ≤ g) w f fv) :
 Calls Tryd.prog 28 #[.agg #[.int .i64 f.a,.string (bstr f.nm),fv.p,.bool f.tr,.bool f.sc,fv.b,.int .i64 f.ret.k,.int .i64 f.ret.op,.int .i64 f.ret.n,.string (bstr f.ret.nm),fv.k,.int .i64 f.ret.a]] w fun e w' => e = .returned (.string (bstr (T))) ∧ Below w.heap.size w w' :=
 rfn_any f hg.1 hg.2.1 hg.2.2.1 hn.2.1 hn.2.2 hn.1 T hT fv w hI
theorem rline_zero (u : ByteArray) (ps : List (List UInt8)) (hu : Hid (u = bstr ps.flatten)) (T : List UInt8) (hT : Hid (lineT 0 ps = T)) (hl : T.length ≤ 100000000000000) (w : World) :
 Calls Tryd.prog 26 #[.int .i64 0,.string u] w fun e w' => e = .returned (.string (bstr (T))) ∧ Below w.heap.size w w':=rline_any 0 (by decide) u ps hu T hT hl w
theorem rgl_sn {a n : Int} {nm yy : List UInt8} {tr sc : Bool} {G : List UInt8} (hn : n = 0) (hy : yy = []) (hG : Hid (Lib.itoa n = G)) (hb : (bstr nm).size ≤ 100 ∧ (bstr yy).size ≤ 100 ∧ (bstr G).size ≤ 100) (T : List UInt8) (hT : Hid (lineT 0 [typeT tr sc,[32],nm,[],[],[59]] = T)) (hTl : T.length ≤ 10000) (w : World) :
 Calls Tryd.prog 27 #[.agg #[.int .i64 a,.string (bstr nm),.bool tr,.bool sc,.int .i64 n,.string (bstr yy)]] w fun e w' => e = .returned (.string (bstr (T))) ∧ Below w.heap.size w w':=by
 obtain ⟨hb1,hb2,hb3⟩:=hb
 obtain ⟨Y,hY⟩ : ∃ Y,typeT tr sc = Y:=⟨_,rfl⟩
 have hYl : (bstr Y).size ≤ 20:=by (rw [← hY];exact type_len9 _ _)
 have HYY:=hid hY
 have HU : Hid (bstr Y ++ (⟨#[32]⟩ : ByteArray) ++ bstr nm ++ (⟨#[59]⟩ : ByteArray) = bstr [typeT tr sc,[32],nm,[],[],[59]].flatten):=hid (by
  rw [hY,show (⟨#[32]⟩ : ByteArray) = bstr [32] from rfl,show (⟨#[59]⟩ : ByteArray) = bstr [59] from rfl,bstr_cat,bstr_cat,bstr_cat]
  simp)
 have hf0 : ¬ 9223372036854775807 < (bstr Y).size + 1:=by omega
 have hf1 : ¬ 9223372036854775807 < (bstr Y).size + 1 + (bstr nm).size:=by omega
 have hf2 : ¬ 9223372036854775807 < (bstr Y).size + 1 + (bstr nm).size + 1:=by omega
 subst hn
 subst hy
 rw [show bstr [] = (⟨#[]⟩ : ByteArray) from rfl] at *
 have HA0:=below_of_alloc w (.cells #[.int .i64 a,.string (bstr nm),.bool tr,.bool sc,.int .i64 0,.string (⟨#[]⟩)] 39)
 have HG0:=GBlk.new (X:=w) (n:=w.heap.size) (a:=a) (nm:=bstr nm) (tr:=tr) (sc:=sc) (ln:=0) (yy:=⟨#[]⟩) rfl
 obtain ⟨gl,⟨gc0,gc1,gc2,gc3,gc4,gc5⟩,_⟩:=HG0.facts
 go_enter Tryd.func27,Tryd.ntmps27
 go_upto_region 1 with (fail)
 refine name_world ?_
 intro W1 hW1
 rw [← hW1] at HA0 HG0
 clear hW1 gl gc0 gc1 gc2 gc3 gc4 gc5
 have HA:=hid HA0
 have HG:=hid HG0
 clear HA0 HG0
 have HC : Hid (Below W1.heap.size W1 W1.drew):=hid ((Below.refl _ _).drew)
 obtain ⟨gl,⟨gc0,gc1,gc2,gc3,gc4,gc5⟩,_⟩:=(HG.out.stay HC.out).facts
 go_region_law (go_simp;go_at_call 14;(with_reducible refine (rtype_any _ _ _).mono ?_);rintro e1 wt ⟨rfl,hbt⟩;rw [HYY.out];replace HC:=hid (below_ch HC.out hbt);obtain ⟨gl,⟨gc0,gc1,gc2,gc3,gc4,gc5⟩,_⟩:=(HG.out.stay HC.out).facts;clear hbt)
 all_goals go_wp2_with (first
  | (go_at_call 26;(with_reducible refine (rline_zero _ [typeT tr sc,[32],nm,[],[],[59]] HU T hT (by omega) _).mono ?_);rintro e3 w3 ⟨rfl,hb9⟩))
 all_goals go_ret
 all_goals exact ⟨rfl,below_ch HA.out (below_ch HC.out hb9)⟩
theorem rgl_sb {a n : Int} {nm yy : List UInt8} {tr sc : Bool} {G : List UInt8} (hn : n = 0) (hy : yy ≠ []) (hG : Hid (Lib.itoa n = G)) (hb : (bstr nm).size ≤ 100 ∧ (bstr yy).size ≤ 100 ∧ (bstr G).size ≤ 100) (T : List UInt8) (hT : Hid (lineT 0 [typeT tr sc,[32],nm,[],32 :: 98 :: 121 :: 32 :: yy,[59]] = T)) (hTl : T.length ≤ 10000) (w : World) :
 Calls Tryd.prog 27 #[.agg #[.int .i64 a,.string (bstr nm),.bool tr,.bool sc,.int .i64 n,.string (bstr yy)]] w fun e w' => e = .returned (.string (bstr (T))) ∧ Below w.heap.size w w':=by
 obtain ⟨hb1,hb2,hb3⟩:=hb
 obtain ⟨Y,hY⟩ : ∃ Y,typeT tr sc = Y:=⟨_,rfl⟩
 have hYl : (bstr Y).size ≤ 20:=by (rw [← hY];exact type_len9 _ _)
 have HYY:=hid hY
 have HU : Hid (bstr Y ++ (⟨#[32]⟩ : ByteArray) ++ bstr nm ++ ((⟨#[32,98,121,32]⟩ : ByteArray) ++ bstr yy) ++ (⟨#[59]⟩ : ByteArray) = bstr [typeT tr sc,[32],nm,[],32 :: 98 :: 121 :: 32 :: yy,[59]].flatten):=hid (by
  rw [hY,show (⟨#[32]⟩ : ByteArray) = bstr [32] from rfl,show (⟨#[32,98,121,32]⟩ : ByteArray) = bstr [32,98,121,32] from rfl,show (⟨#[59]⟩ : ByteArray) = bstr [59] from rfl,bstr_cat,bstr_cat,bstr_cat,bstr_cat,bstr_cat]
  simp)
 have hf0 : ¬ 9223372036854775807 < (bstr Y).size + 1:=by omega
 have hf1 : ¬ 9223372036854775807 < (bstr Y).size + 1 + (bstr nm).size:=by omega
 have hf2 : ¬ 9223372036854775807 < 4 + (bstr yy).size:=by omega
 have hf3 : ¬ 9223372036854775807 < (bstr Y).size + 1 + (bstr nm).size + (4 + (bstr yy).size):=by omega
 have hf4 : ¬ 9223372036854775807 < (bstr Y).size + 1 + (bstr nm).size + (4 + (bstr yy).size) + 1:=by omega
 subst hn
 have hl9 : (bstr yy).toList = yy:=by (rw [ByteArray.toList_eq];rfl)
 have hnb : ((bstr yy).toList == []) = false:=by (rw [hl9];simpa using hy)
 have hne : (bstr yy).toList.isEmpty = false:=by (rw [hl9];simpa using hy)
 clear hl9
 have HA0:=below_of_alloc w (.cells #[.int .i64 a,.string (bstr nm),.bool tr,.bool sc,.int .i64 0,.string (bstr yy)] 39)
 have HG0:=GBlk.new (X:=w) (n:=w.heap.size) (a:=a) (nm:=bstr nm) (tr:=tr) (sc:=sc) (ln:=0) (yy:=bstr yy) rfl
 obtain ⟨gl,⟨gc0,gc1,gc2,gc3,gc4,gc5⟩,_⟩:=HG0.facts
 go_enter Tryd.func27,Tryd.ntmps27
 go_upto_region 1 with (fail)
 refine name_world ?_
 intro W1 hW1
 rw [← hW1] at HA0 HG0
 clear hW1 gl gc0 gc1 gc2 gc3 gc4 gc5
 have HA:=hid HA0
 have HG:=hid HG0
 clear HA0 HG0
 have HC : Hid (Below W1.heap.size W1 W1.drew):=hid ((Below.refl _ _).drew)
 obtain ⟨gl,⟨gc0,gc1,gc2,gc3,gc4,gc5⟩,_⟩:=(HG.out.stay HC.out).facts
 go_region_law (go_simp;go_at_call 14;(with_reducible refine (rtype_any _ _ _).mono ?_);rintro e1 wt ⟨rfl,hbt⟩;rw [HYY.out];replace HC:=hid (below_ch HC.out hbt);obtain ⟨gl,⟨gc0,gc1,gc2,gc3,gc4,gc5⟩,_⟩:=(HG.out.stay HC.out).facts;clear hbt)
 all_goals go_wp2_with (first
  | (go_at_call 26;(with_reducible refine (rline_zero _ [typeT tr sc,[32],nm,[],32 :: 98 :: 121 :: 32 :: yy,[59]] HU T hT (by omega) _).mono ?_);rintro e3 w3 ⟨rfl,hb9⟩))
 all_goals go_ret
 all_goals exact ⟨rfl,below_ch HA.out (below_ch HC.out hb9)⟩
theorem rgl_an {a n : Int} {nm yy : List UInt8} {tr sc : Bool} {G : List UInt8} (hn : 1 ≤ n ∧ n ≤ 64) (hy : yy = []) (hG : Hid (Lib.itoa n = G)) (hb : (bstr nm).size ≤ 100 ∧ (bstr yy).size ≤ 100 ∧ (bstr G).size ≤ 100) (T : List UInt8) (hT : Hid (lineT 0 [typeT tr sc,[32],nm,91 :: (G ++ [93]),[],[59]] = T)) (hTl : T.length ≤ 10000) (w : World) :
 Calls Tryd.prog 27 #[.agg #[.int .i64 a,.string (bstr nm),.bool tr,.bool sc,.int .i64 n,.string (bstr yy)]] w fun e w' => e = .returned (.string (bstr (T))) ∧ Below w.heap.size w w':=by
 obtain ⟨hb1,hb2,hb3⟩:=hb
 obtain ⟨Y,hY⟩ : ∃ Y,typeT tr sc = Y:=⟨_,rfl⟩
 have hYl : (bstr Y).size ≤ 20:=by (rw [← hY];exact type_len9 _ _)
 have HYY:=hid hY
 have HU : Hid (bstr Y ++ (⟨#[32]⟩ : ByteArray) ++ bstr nm ++ ((⟨#[91]⟩ : ByteArray) ++ bstr G ++ (⟨#[93]⟩ : ByteArray)) ++ (⟨#[59]⟩ : ByteArray) = bstr [typeT tr sc,[32],nm,91 :: (G ++ [93]),[],[59]].flatten):=hid (by
  rw [hY,show (⟨#[32]⟩ : ByteArray) = bstr [32] from rfl,show (⟨#[91]⟩ : ByteArray) = bstr [91] from rfl,show (⟨#[93]⟩ : ByteArray) = bstr [93] from rfl,show (⟨#[59]⟩ : ByteArray) = bstr [59] from rfl,bstr_cat,bstr_cat,bstr_cat,bstr_cat,bstr_cat,bstr_cat]
  simp)
 have hf0 : ¬ 9223372036854775807 < (bstr Y).size + 1:=by omega
 have hf1 : ¬ 9223372036854775807 < (bstr Y).size + 1 + (bstr nm).size:=by omega
 have hf2 : ¬ 9223372036854775807 < 1 + (bstr G).size:=by omega
 have hf3 : ¬ 9223372036854775807 < 1 + (bstr G).size + 1:=by omega
 have hf4 : ¬ 9223372036854775807 < (bstr Y).size + 1 + (bstr nm).size + (1 + (bstr G).size + 1):=by omega
 have hf5 : ¬ 9223372036854775807 < (bstr Y).size + 1 + (bstr nm).size + (1 + (bstr G).size + 1) + 1:=by omega
 have hn1 : (0 : Int) < n:=by omega
 have HD:=hid (rdigits_any n)
 have hdg : dig n = bstr G:=(by (rw [← hG.out];rfl))
 have HDG:=hid hdg
 have hd0 : -9223372036854775808 ≤ n:=by omega
 have hd1 : n ≤ 9223372036854775807:=by omega
 clear hdg
 subst hy
 rw [show bstr [] = (⟨#[]⟩ : ByteArray) from rfl] at *
 have HA0:=below_of_alloc w (.cells #[.int .i64 a,.string (bstr nm),.bool tr,.bool sc,.int .i64 n,.string (⟨#[]⟩)] 39)
 have HG0:=GBlk.new (X:=w) (n:=w.heap.size) (a:=a) (nm:=bstr nm) (tr:=tr) (sc:=sc) (ln:=n) (yy:=⟨#[]⟩) rfl
 obtain ⟨gl,⟨gc0,gc1,gc2,gc3,gc4,gc5⟩,_⟩:=HG0.facts
 go_enter Tryd.func27,Tryd.ntmps27
 go_upto_region 1 with (fail)
 refine name_world ?_
 intro W1 hW1
 rw [← hW1] at HA0 HG0
 clear hW1 gl gc0 gc1 gc2 gc3 gc4 gc5
 have HA:=hid HA0
 have HG:=hid HG0
 clear HA0 HG0
 have HC : Hid (Below W1.heap.size W1 W1.drew):=hid ((Below.refl _ _).drew)
 obtain ⟨gl,⟨gc0,gc1,gc2,gc3,gc4,gc5⟩,_⟩:=(HG.out.stay HC.out).facts
 go_region_law (go_simp;go_at_call 14;(with_reducible refine (rtype_any _ _ _).mono ?_);rintro e1 wt ⟨rfl,hbt⟩;rw [HYY.out];replace HC:=hid (below_ch HC.out hbt);obtain ⟨gl,⟨gc0,gc1,gc2,gc3,gc4,gc5⟩,_⟩:=(HG.out.stay HC.out).facts;clear hbt)
 all_goals go_wp2_with (first
  | (go_at_call 52;(with_reducible refine (HD.out _ hd0 hd1).mono ?_);rintro e1 w2 ⟨rfl,rfl⟩;rw [HDG.out])
  | (go_at_call 26;(with_reducible refine (rline_zero _ [typeT tr sc,[32],nm,91 :: (G ++ [93]),[],[59]] HU T hT (by omega) _).mono ?_);rintro e3 w3 ⟨rfl,hb9⟩))
 all_goals go_ret
 all_goals exact ⟨rfl,below_ch HA.out (below_ch HC.out hb9)⟩
theorem rgl_ab {a n : Int} {nm yy : List UInt8} {tr sc : Bool} {G : List UInt8} (hn : 1 ≤ n ∧ n ≤ 64) (hy : yy ≠ []) (hG : Hid (Lib.itoa n = G)) (hb : (bstr nm).size ≤ 100 ∧ (bstr yy).size ≤ 100 ∧ (bstr G).size ≤ 100) (T : List UInt8) (hT : Hid (lineT 0 [typeT tr sc,[32],nm,91 :: (G ++ [93]),32 :: 98 :: 121 :: 32 :: yy,[59]] = T)) (hTl : T.length ≤ 10000) (w : World) :
 Calls Tryd.prog 27 #[.agg #[.int .i64 a,.string (bstr nm),.bool tr,.bool sc,.int .i64 n,.string (bstr yy)]] w fun e w' => e = .returned (.string (bstr (T))) ∧ Below w.heap.size w w':=by
 obtain ⟨hb1,hb2,hb3⟩:=hb
 obtain ⟨Y,hY⟩ : ∃ Y,typeT tr sc = Y:=⟨_,rfl⟩
 have hYl : (bstr Y).size ≤ 20:=by (rw [← hY];exact type_len9 _ _)
 have HYY:=hid hY
 have HU : Hid (bstr Y ++ (⟨#[32]⟩ : ByteArray) ++ bstr nm ++ ((⟨#[91]⟩ : ByteArray) ++ bstr G ++ (⟨#[93]⟩ : ByteArray)) ++ ((⟨#[32,98,121,32]⟩ : ByteArray) ++ bstr yy) ++ (⟨#[59]⟩ : ByteArray) = bstr [typeT tr sc,[32],nm,91 :: (G ++ [93]),32 :: 98 :: 121 :: 32 :: yy,[59]].flatten):=hid (by
  rw [hY,show (⟨#[32]⟩ : ByteArray) = bstr [32] from rfl,show (⟨#[91]⟩ : ByteArray) = bstr [91] from rfl,show (⟨#[93]⟩ : ByteArray) = bstr [93] from rfl,show (⟨#[32,98,121,32]⟩ : ByteArray) = bstr [32,98,121,32] from rfl,show (⟨#[59]⟩ : ByteArray) = bstr [59] from rfl,bstr_cat,bstr_cat,bstr_cat,bstr_cat,bstr_cat,bstr_cat,bstr_cat,bstr_cat]
  simp)
 have hf0 : ¬ 9223372036854775807 < (bstr Y).size + 1:=by omega
 have hf1 : ¬ 9223372036854775807 < (bstr Y).size + 1 + (bstr nm).size:=by omega
 have hf2 : ¬ 9223372036854775807 < 1 + (bstr G).size:=by omega
 have hf3 : ¬ 9223372036854775807 < 1 + (bstr G).size + 1:=by omega
 have hf4 : ¬ 9223372036854775807 < (bstr Y).size + 1 + (bstr nm).size + (1 + (bstr G).size + 1):=by omega
 have hf5 : ¬ 9223372036854775807 < 4 + (bstr yy).size:=by omega
 have hf6 : ¬ 9223372036854775807 < (bstr Y).size + 1 + (bstr nm).size + (1 + (bstr G).size + 1) + (4 + (bstr yy).size):=by omega
 have hf7 : ¬ 9223372036854775807 < (bstr Y).size + 1 + (bstr nm).size + (1 + (bstr G).size + 1) + (4 + (bstr yy).size) + 1:=by omega
 have hn1 : (0 : Int) < n:=by omega
 have HD:=hid (rdigits_any n)
 have hdg : dig n = bstr G:=(by (rw [← hG.out];rfl))
 have HDG:=hid hdg
 have hd0 : -9223372036854775808 ≤ n:=by omega
 have hd1 : n ≤ 9223372036854775807:=by omega
 clear hdg
 have hl9 : (bstr yy).toList = yy:=by (rw [ByteArray.toList_eq];rfl)
 have hnb : ((bstr yy).toList == []) = false:=by (rw [hl9];simpa using hy)
 have hne : (bstr yy).toList.isEmpty = false:=by (rw [hl9];simpa using hy)
 clear hl9
 have HA0:=below_of_alloc w (.cells #[.int .i64 a,.string (bstr nm),.bool tr,.bool sc,.int .i64 n,.string (bstr yy)] 39)
 have HG0:=GBlk.new (X:=w) (n:=w.heap.size) (a:=a) (nm:=bstr nm) (tr:=tr) (sc:=sc) (ln:=n) (yy:=bstr yy) rfl
 obtain ⟨gl,⟨gc0,gc1,gc2,gc3,gc4,gc5⟩,_⟩:=HG0.facts
 go_enter Tryd.func27,Tryd.ntmps27
 go_upto_region 1 with (fail)
 refine name_world ?_
 intro W1 hW1
 rw [← hW1] at HA0 HG0
 clear hW1 gl gc0 gc1 gc2 gc3 gc4 gc5
 have HA:=hid HA0
 have HG:=hid HG0
 clear HA0 HG0
 have HC : Hid (Below W1.heap.size W1 W1.drew):=hid ((Below.refl _ _).drew)
 obtain ⟨gl,⟨gc0,gc1,gc2,gc3,gc4,gc5⟩,_⟩:=(HG.out.stay HC.out).facts
 go_region_law (go_simp;go_at_call 14;(with_reducible refine (rtype_any _ _ _).mono ?_);rintro e1 wt ⟨rfl,hbt⟩;rw [HYY.out];replace HC:=hid (below_ch HC.out hbt);obtain ⟨gl,⟨gc0,gc1,gc2,gc3,gc4,gc5⟩,_⟩:=(HG.out.stay HC.out).facts;clear hbt)
 all_goals go_wp2_with (first
  | (go_at_call 52;(with_reducible refine (HD.out _ hd0 hd1).mono ?_);rintro e1 w2 ⟨rfl,rfl⟩;rw [HDG.out])
  | (go_at_call 26;(with_reducible refine (rline_zero _ [typeT tr sc,[32],nm,91 :: (G ++ [93]),32 :: 98 :: 121 :: 32 :: yy,[59]] HU T hT (by omega) _).mono ?_);rintro e3 w3 ⟨rfl,hb9⟩))
 all_goals go_ret
 all_goals exact ⟨rfl,below_ch HA.out (below_ch HC.out hb9)⟩
theorem rgl_any {x : Gl} (h1 : x.nm.length ≤ 24) (h2 : x.by_.length ≤ 24) (h3 : x.len = 0 ∨ 1 ≤ x.len ∧ x.len ≤ 64) (T : List UInt8) (hT : Hid (glT x = T)) (w : World) :
 Calls Tryd.prog 27 #[.agg #[.int .i64 x.a,.string (bstr x.nm),.bool x.tr,.bool x.sc,.int .i64 x.len,.string (bstr x.by_)]] w fun e w' => e = .returned (.string (bstr (T))) ∧ Below w.heap.size w w':=by
 obtain ⟨a,nm,tr,sc,n,yy⟩:=x
 simp only at h1 h2 h3 ⊢
 have hG : (bstr (Lib.itoa n)).size ≤ 100:=by
  have e : n = ((n.toNat : Nat) : Int):=by omega
  have h:=itoa_len n.toNat (by omega)
  rw [← e] at h
  exact Nat.le_trans h (by decide)
 have hTl : T.length ≤ 10000:=by
  rw [← hT.out]
  exact Nat.le_trans (glT_len (x:=⟨a,nm,tr,sc,n,yy⟩) ⟨h1,h2,by (show 0 ≤ n;omega),by (show n ≤ 64;omega)⟩) (by decide)
 have hb : (bstr nm).size ≤ 100 ∧ (bstr yy).size ≤ 100 ∧ (bstr (Lib.itoa n)).size ≤ 100:=⟨Nat.le_trans h1 (by decide),Nat.le_trans h2 (by decide),hG⟩
 rcases h3 with rfl | h3
 · by_cases hy : yy = []
   · exact rgl_sn rfl hy (hid rfl) hb T (hid (by (rw [← hT.out];simp [glT,lenT,byT,hy]))) hTl w
   · exact rgl_sb rfl hy (hid rfl) hb T (hid (by (rw [← hT.out];simp [glT,lenT,byT,hy]))) hTl w
 · have hn : ¬ n = 0:=by omega
   by_cases hy : yy = []
   · exact rgl_an h3 hy (hid rfl) hb T (hid (by (rw [← hT.out];simp [glT,lenT,byT,hy,hn]))) hTl w
   · exact rgl_ab h3 hy (hid rfl) hb T (hid (by (rw [← hT.out];simp [glT,lenT,byT,hy,hn]))) hTl w
theorem NmOk.len24 {t : List UInt8} (h : NmOk t) : t.length ≤ 24:=by
 rcases h with rfl | h
 · simp
 · exact h.len
theorem flat_in {α : Type} (f : α → List UInt8) (l : List α) (k : Nat) (x : α) (h : l[k]? = some x) : ((l.take k).flatMap f).length + (f x).length ≤ (l.flatMap f).length:=by
 have h1:=flat_succ f l k x h
 have h2:=flat_le f l (k + 1)
 rw [h1,List.length_append] at h2
 exact h2
theorem rprog_any {p : Pg} {BB : Nat} {W : World} {v0 v1 v2 v3 : Value} {rf : List (Fn × FV)} {rt : List (List Stm × Value)} (R : PRows BB W p v0 v1 v2 v3 rf rt) (hG : GoodP p 16385) (hNi : NiceP p) (T : List UInt8) (hT : progT fnT p = T) :
 Calls Tryd.prog 10 #[.agg #[v0,v1,v2,v3]] W fun e w' => e = .returned (.string (bstr (T))) ∧ Below W.heap.size W w':=by
 have hlen:=say_len (say_of hG hNi) (few_of hNi)
 rw [hT] at hlen
 obtain ⟨z0,c0,rfl⟩:=own_form R.g
 obtain ⟨z1,c1,rfl⟩:=own_form R.l
 obtain ⟨z2,c2,rfl⟩:=own_form R.f
 obtain ⟨z3,c3,rfl⟩:=own_form R.t
 obtain ⟨A1,hA1⟩ : ∃ A,p.ls.flatMap lkT = A:=⟨_,rfl⟩
 obtain ⟨A2,hA2⟩ : ∃ A,p.gs.flatMap glT = A:=⟨_,rfl⟩
 obtain ⟨A3,hA3⟩ : ∃ A,p.fs.flatMap fnT = A:=⟨_,rfl⟩
 obtain ⟨A4,hA4⟩ : ∃ A,p.ths.flatMap thT = A:=⟨_,rfl⟩
 have hT' : T = A1 ++ (A2 ++ (A3 ++ A4)):=by (rw [← hT,← hA1,← hA2,← hA3,← hA4];rfl)
 have hle : A1.length + (A2.length + (A3.length + A4.length)) ≤ 50000000000000:=by (rw [hT'] at hlen;simp only [List.length_append] at hlen;exact hlen)
 have HT':=hid hT'
 have HA1:=hid hA1
 have HA2:=hid hA2
 have HA3:=hid hA3
 have HA4:=hid hA4
 obtain ⟨ng,hng⟩ : ∃ n,p.gs.length = n:=⟨_,rfl⟩
 obtain ⟨nl,hnl⟩ : ∃ n,p.ls.length = n:=⟨_,rfl⟩
 obtain ⟨nf,hnf⟩ : ∃ n,p.fs.length = n:=⟨_,rfl⟩
 obtain ⟨nt,hnt⟩ : ∃ n,p.ths.length = n:=⟨_,rfl⟩
 have hbn : ng ≤ 32 ∧ nl ≤ 8 ∧ nf ≤ 16 ∧ nt ≤ 4:=by (have:=hNi.ng;have:=hNi.nl;have:=hNi.nf;have:=hNi.nt;omega)
 have HN:=hid (And.intro hng (And.intro hnl (And.intro hnf hnt)))
 have Rg:=R.g
 have Rl:=R.l
 have Rf:=R.f
 have Rt:=R.t
 rw [hng] at Rg
 rw [hnl] at Rl
 rw [hnf] at Rf
 rw [hnt] at Rt
 rw [hng,hnl,hnf,hnt]
 have HRg:=hid Rg
 have HRl:=hid Rl
 have HRf:=hid Rf
 have HRt:=hid Rt
 have HRX : Hid ((∀ q ∈ rf,IsFn1 (fun g => 0 ≤ g) W q.1 q.2) ∧ (∀ q ∈ rt,IsSts (fun g => 0 ≤ g) W q.1 q.2) ∧ rf.map (·.1) = p.fs ∧ rt.map (·.1) = p.ths):=hid ⟨fun q hq => (R.xf q hq).low (Nat.zero_le _),fun q hq => (R.xt q hq).lo (Nat.zero_le _),R.ef,R.et⟩
 have HG:=hid (And.intro hG hNi)
 have HA0:=below_of_alloc W (.cells #[.slice z0 ng c0,.slice z1 nl c1,.slice z2 nf c2,.slice z3 nt c3] 28)
 have HPB:=hid (PgBlk.new (X:=W) (n:=W.heap.size) (p0:=.slice z0 ng c0) (p1:=.slice z1 nl c1) (p2:=.slice z2 nf c2) (p3:=.slice z3 nt c3) rfl)
 obtain ⟨pl,⟨pc0,pc1,pc2,pc3⟩,_⟩:=HPB.out.facts
 clear R hT hT' hA1 hA2 hA3 hA4 hlen hng hnl hnf hnt Rg Rl Rf Rt hG hNi
 go_enter Tryd.func10,Tryd.ntmps10
 go_upto_region 1 with (fail)
 refine name_world ?_
 intro W1 hW1
 rw [← hW1] at HA0 HPB
 clear hW1 pl pc0 pc1 pc2 pc3
 have HA:=hid HA0
 have hz:=HA0.size
 have hpl0:=HPB.out.facts.1
 clear HA0
 have HL0 : Hid (([] : List UInt8) = [] ++ (p.ls.take 0).flatMap lkT):=hid (by simp)
 have HW0 : Hid (Below W1.heap.size W1 W1):=hid (Below.refl _ _)
 go_wp2
 go_loopw [3,4] (fun sv iv wr => ∃ k : Nat,sv = .string (bstr ([] ++ (p.ls.take k).flatMap lkT)) ∧ iv = .int .i64 k ∧ k ≤ nl ∧ Below W1.heap.size W1 wr) (fun _ iv _ => nl - (intOf iv).toNat)
 case atStart => exact ⟨0,by first | rfl | (congr 2;simp),rfl,Nat.zero_le _,HW0.out⟩
 case round =>
  obtain ⟨k0,rfl,rfl,hk,hbr⟩:=hrel
  have HBR0:=hid hbr
  have hfl:=flat_le lkT p.ls k0
  rw [HA1.out] at hfl
  obtain ⟨S0,hS⟩ : ∃ S,([] ++ (p.ls.take k0).flatMap lkT) = S:=⟨_,rfl⟩
  have hsl : (bstr S0).size ≤ 50000000000000:=by (rw [← hS];show (([] ++ (p.ls.take k0).flatMap lkT)).length ≤ _;simp only [List.length_append,List.length_nil];omega)
  rw [hS]
  have HS0:=hid hS
  clear hS
  obtain ⟨pl,⟨pc0,pc1,pc2,pc3⟩,_⟩:=(HPB.out.of (hbr.block _ hpl0)).facts
  by_cases hkl : k0 < nl
  · obtain ⟨g,cg,hv,hgl,hcell⟩:=own_some HRl.out (by omega)
    cases hv
    have hlt : (k0 : Int) < (nl : Int):=by omega
    have hkr : 0 ≤ (k0 : Int) ∧ (k0 : Int) < (nl : Int):=by omega
    have hW : Below W.heap.size W wr:=below_ch HA.out hbr
    have hglw : g < wr.heap.size:=Nat.lt_of_lt_of_le hgl hW.size
    obtain ⟨x,hx⟩ : ∃ x,p.ls[k0]? = some x:=⟨_,List.getElem?_eq_getElem (by (have:=HN.out;omega))⟩
    have d1 : wr.cell? ⟨g,k0 * 2 + 1,none⟩ = some (.string (bstr x.nm)):=(hW.cell (p:=⟨g,k0 * 2 + 1,none⟩) hgl).trans (hcell _ _ (plain_at (f:=lkCells) (n:=2) (fun _ => rfl) p.ls k0 x 1 _ hx rfl))
    have hnb : (bstr x.nm).size ≤ 24:=(HG.out.2.ls x (List.mem_of_getElem? hx)).len
    obtain ⟨TX,hTX⟩ : ∃ T,lkT x = T:=⟨_,rfl⟩
    have HTX : Hid (lineT 0 [tLock,x.nm,[59]] = TX):=hid hTX
    have HU : Hid ((⟨#[108,111,99,107,32]⟩ : ByteArray) ++ bstr x.nm ++ (⟨#[59]⟩ : ByteArray) = bstr [tLock,x.nm,[59]].flatten):=hid (by (rw [show (⟨#[108,111,99,107,32]⟩ : ByteArray) = bstr tLock from rfl,show (⟨#[59]⟩ : ByteArray) = bstr [59] from rfl,bstr_cat,bstr_cat];simp))
    have hd1 : ¬ 9223372036854775807 < 5 + (bstr x.nm).size:=by omega
    have hd2 : ¬ 9223372036854775807 < 5 + (bstr x.nm).size + 1:=by omega
    have hfi:=flat_in lkT p.ls k0 x hx
    rw [HA1.out,hTX] at hfi
    have hsu:=flat_succ lkT p.ls k0 x hx
    rw [hTX] at hsu
    have HSU:=hid hsu
    have htx : (bstr TX).size ≤ 50000000000000:=(by (show TX.length ≤ _;omega))
    have htx2 : TX.length ≤ 50000000000000:=htx
    have hc9 : ¬ 9223372036854775807 < (bstr S0).size + (bstr TX).size:=by omega
    clear hcell hsu hfi hTX hx hbr hfl hW
    go_wp2_with (go_at_call 26;(with_reducible refine (rline_zero _ [tLock,x.nm,[59]] HU TX HTX (by omega) _).mono ?_);rintro e9 w9 ⟨rfl,hb9⟩)
    go_roundw
    case rel =>
     first
      | exact ⟨k0 + 1,by (rw [HSU.out,← List.append_assoc,HS0.out,bstr_cat]),by go_num,Nat.succ_le_of_lt hkl,below_ch HBR0.out hb9⟩
      | (refine ⟨_,_,_,_,_,_,_,_,_,_,_,_,_,_,_,_,_,_,_,_,?_,rfl⟩;exact ⟨k0 + 1,by (rw [HSU.out,← List.append_assoc,HS0.out,bstr_cat]),by go_num,Nat.succ_le_of_lt hkl,below_ch HBR0.out hb9⟩)
    case measure =>
     simp [intOf]
     omega
  · have hlt : ¬ ((k0 : Int) < (nl : Int)):=by omega
    obtain rfl : nl = k0:=by omega
    have et : p.ls.take nl = p.ls:=by (rw [← HN.out.2.1];exact List.take_length)
    have hS:=HS0.out
    rw [et,HA1.out] at hS
    have HE0 : Hid (S0 = A1):=hid (by (rw [← hS];simp))
    rw [HE0.out]
    have HW1 : Hid (Below W1.heap.size W1 wr):=hid HBR0.out
    clear hS et hkl hk hbr hfl
    go_wp2
    go_loopw [3,5] (fun sv iv wr => ∃ k : Nat,sv = .string (bstr (A1 ++ (p.gs.take k).flatMap glT)) ∧ iv = .int .i64 k ∧ k ≤ ng ∧ Below W1.heap.size W1 wr) (fun _ iv _ => ng - (intOf iv).toNat)
    case atStart => exact ⟨0,by first | rfl | (congr 2;simp),rfl,Nat.zero_le _,HW1.out⟩
    case round =>
     obtain ⟨k1,rfl,rfl,hk,hbr⟩:=hrel
     have HBR1:=hid hbr
     have hfl:=flat_le glT p.gs k1
     rw [HA2.out] at hfl
     obtain ⟨S1,hS⟩ : ∃ S,(A1 ++ (p.gs.take k1).flatMap glT) = S:=⟨_,rfl⟩
     have hsl : (bstr S1).size ≤ 50000000000000:=by (rw [← hS];show ((A1 ++ (p.gs.take k1).flatMap glT)).length ≤ _;simp only [List.length_append,List.length_nil];omega)
     rw [hS]
     have HS1:=hid hS
     clear hS
     obtain ⟨pl,⟨pc0,pc1,pc2,pc3⟩,_⟩:=(HPB.out.of (hbr.block _ hpl0)).facts
     by_cases hkl : k1 < ng
     · obtain ⟨g,cg,hv,hgl,hcell⟩:=own_some HRg.out (by omega)
       cases hv
       have hlt : (k1 : Int) < (ng : Int):=by omega
       have hkr : 0 ≤ (k1 : Int) ∧ (k1 : Int) < (ng : Int):=by omega
       have hW : Below W.heap.size W wr:=below_ch HA.out hbr
       have hglw : g < wr.heap.size:=Nat.lt_of_lt_of_le hgl hW.size
       obtain ⟨x,hx⟩ : ∃ x,p.gs[k1]? = some x:=⟨_,List.getElem?_eq_getElem (by (have:=HN.out;omega))⟩
       have d0 : wr.cell? ⟨g,k1 * 6,none⟩ = some (.int .i64 x.a):=(hW.cell (p:=⟨g,k1 * 6,none⟩) hgl).trans (hcell _ _ (plain_at (f:=glCells) (n:=6) (fun _ => rfl) p.gs k1 x 0 _ hx rfl))
       have d1 : wr.cell? ⟨g,k1 * 6 + 1,none⟩ = some (.string (bstr x.nm)):=(hW.cell (p:=⟨g,k1 * 6 + 1,none⟩) hgl).trans (hcell _ _ (plain_at (f:=glCells) (n:=6) (fun _ => rfl) p.gs k1 x 1 _ hx rfl))
       have d2 : wr.cell? ⟨g,k1 * 6 + 2,none⟩ = some (.bool x.tr):=(hW.cell (p:=⟨g,k1 * 6 + 2,none⟩) hgl).trans (hcell _ _ (plain_at (f:=glCells) (n:=6) (fun _ => rfl) p.gs k1 x 2 _ hx rfl))
       have d3 : wr.cell? ⟨g,k1 * 6 + 3,none⟩ = some (.bool x.sc):=(hW.cell (p:=⟨g,k1 * 6 + 3,none⟩) hgl).trans (hcell _ _ (plain_at (f:=glCells) (n:=6) (fun _ => rfl) p.gs k1 x 3 _ hx rfl))
       have d4 : wr.cell? ⟨g,k1 * 6 + 4,none⟩ = some (.int .i64 x.len):=(hW.cell (p:=⟨g,k1 * 6 + 4,none⟩) hgl).trans (hcell _ _ (plain_at (f:=glCells) (n:=6) (fun _ => rfl) p.gs k1 x 4 _ hx rfl))
       have d5 : wr.cell? ⟨g,k1 * 6 + 5,none⟩ = some (.string (bstr x.by_)):=(hW.cell (p:=⟨g,k1 * 6 + 5,none⟩) hgl).trans (hcell _ _ (plain_at (f:=glCells) (n:=6) (fun _ => rfl) p.gs k1 x 5 _ hx rfl))
       obtain ⟨TX,hTX⟩ : ∃ T,glT x = T:=⟨_,rfl⟩
       have hgg:=HG.out.2.gs x (List.mem_of_getElem? hx)
       have HC : Hid (∀ X,Calls Tryd.prog 27 #[.agg #[.int .i64 x.a,.string (bstr x.nm),.bool x.tr,.bool x.sc,.int .i64 x.len,.string (bstr x.by_)]] X fun e w' => e = .returned (.string (bstr (TX))) ∧ Below X.heap.size X w'):=hid fun X => rgl_any hgg.1.len hgg.2.2.len24 hgg.2.1 TX (hid hTX) X
       clear hgg
       have hfi:=flat_in glT p.gs k1 x hx
       rw [HA2.out,hTX] at hfi
       have hsu:=flat_succ glT p.gs k1 x hx
       rw [hTX] at hsu
       have HSU:=hid hsu
       have htx : (bstr TX).size ≤ 50000000000000:=(by (show TX.length ≤ _;omega))
       have htx2 : TX.length ≤ 50000000000000:=htx
       have hc9 : ¬ 9223372036854775807 < (bstr S1).size + (bstr TX).size:=by omega
       clear hcell hsu hfi hTX hx hbr hfl hW
       go_wp2_with (go_at_call 27;(with_reducible refine (HC.out _).mono ?_);rintro e9 w9 ⟨rfl,hb9⟩)
       go_roundw
       case rel =>
        first
         | exact ⟨k1 + 1,by (rw [HSU.out,← List.append_assoc,HS1.out,bstr_cat]),by go_num,Nat.succ_le_of_lt hkl,below_ch HBR1.out hb9⟩
         | (refine ⟨_,_,_,_,_,_,_,_,_,_,_,_,_,_,_,_,_,?_,rfl⟩;exact ⟨k1 + 1,by (rw [HSU.out,← List.append_assoc,HS1.out,bstr_cat]),by go_num,Nat.succ_le_of_lt hkl,below_ch HBR1.out hb9⟩)
       case measure =>
        simp [intOf]
        omega
     · have hlt : ¬ ((k1 : Int) < (ng : Int)):=by omega
       obtain rfl : ng = k1:=by omega
       have et : p.gs.take ng = p.gs:=by (rw [← HN.out.1];exact List.take_length)
       have hS:=HS1.out
       rw [et,HA2.out] at hS
       have HE1 : Hid (S1 = A1 ++ A2):=hid (by (rw [← hS]))
       rw [HE1.out]
       have HW2 : Hid (Below W1.heap.size W1 wr):=hid HBR1.out
       clear hS et hkl hk hbr hfl
       go_wp2
       go_loopw [3,6] (fun sv iv wr => ∃ k : Nat,sv = .string (bstr ((A1 ++ A2) ++ (p.fs.take k).flatMap fnT)) ∧ iv = .int .i64 k ∧ k ≤ nf ∧ Below W1.heap.size W1 wr) (fun _ iv _ => nf - (intOf iv).toNat)
       case atStart => exact ⟨0,by first | rfl | (congr 2;simp),rfl,Nat.zero_le _,HW2.out⟩
       case round =>
        obtain ⟨k2,rfl,rfl,hk,hbr⟩:=hrel
        have HBR2:=hid hbr
        have hfl:=flat_le fnT p.fs k2
        rw [HA3.out] at hfl
        obtain ⟨S2,hS⟩ : ∃ S,((A1 ++ A2) ++ (p.fs.take k2).flatMap fnT) = S:=⟨_,rfl⟩
        have hsl : (bstr S2).size ≤ 50000000000000:=by (rw [← hS];show (((A1 ++ A2) ++ (p.fs.take k2).flatMap fnT)).length ≤ _;simp only [List.length_append,List.length_nil];omega)
        rw [hS]
        have HS2:=hid hS
        clear hS
        obtain ⟨pl,⟨pc0,pc1,pc2,pc3⟩,_⟩:=(HPB.out.of (hbr.block _ hpl0)).facts
        by_cases hkl : k2 < nf
        · obtain ⟨g,cg,hv,hgl,hcell⟩:=own_some HRf.out (by omega)
          cases hv
          have hlt : (k2 : Int) < (nf : Int):=by omega
          have hkr : 0 ≤ (k2 : Int) ∧ (k2 : Int) < (nf : Int):=by omega
          have hW : Below W.heap.size W wr:=below_ch HA.out hbr
          have hglw : g < wr.heap.size:=Nat.lt_of_lt_of_le hgl hW.size
          obtain ⟨⟨x,fv⟩,hq⟩ : ∃ q,rf[k2]? = some q:=⟨_,List.getElem?_eq_getElem (by (have e:=congrArg List.length HRX.out.2.2.1;rw [List.length_map] at e;have:=HN.out;omega))⟩
          have hx : p.fs[k2]? = some x:=by (rw [← HRX.out.2.2.1,List.getElem?_map,hq];rfl)
          have hI0:=HRX.out.1 _ (List.mem_of_getElem? hq)
          obtain ⟨⟨zp,cp,ep⟩,_⟩:=hI0.1
          obtain ⟨zb,cb,eb⟩:=hI0.2.1.form
          obtain ⟨zk,ck,ek⟩:=hI0.2.2.form
          obtain ⟨pv,bv,kv⟩:=fv
          simp only at ep eb ek
          subst ep eb ek
          obtain ⟨yp,hyp⟩ : ∃ y,x.ps.length = y:=⟨_,rfl⟩
          obtain ⟨yb,hyb⟩ : ∃ y,x.bd.length = y:=⟨_,rfl⟩
          obtain ⟨yk,hyk⟩ : ∃ y,x.ret.ks.length = y:=⟨_,rfl⟩
          rw [hyp,hyb,hyk] at hI0 hq
          have d0 : wr.cell? ⟨g,k2 * 12,none⟩ = some (.int .i64 x.a):=(hW.cell (p:=⟨g,k2 * 12,none⟩) hgl).trans (hcell _ _ (plain_at (f:=fun q : Fn × FV => fnCells q.1 q.2) (n:=12) (fun _ => rfl) rf k2 _ 0 _ hq rfl))
          have d1 : wr.cell? ⟨g,k2 * 12 + 1,none⟩ = some (.string (bstr x.nm)):=(hW.cell (p:=⟨g,k2 * 12 + 1,none⟩) hgl).trans (hcell _ _ (plain_at (f:=fun q : Fn × FV => fnCells q.1 q.2) (n:=12) (fun _ => rfl) rf k2 _ 1 _ hq rfl))
          have d2 : wr.cell? ⟨g,k2 * 12 + 2,none⟩ = some (.slice zp yp cp):=(hW.cell (p:=⟨g,k2 * 12 + 2,none⟩) hgl).trans (hcell _ _ (plain_at (f:=fun q : Fn × FV => fnCells q.1 q.2) (n:=12) (fun _ => rfl) rf k2 _ 2 _ hq rfl))
          have d3 : wr.cell? ⟨g,k2 * 12 + 3,none⟩ = some (.bool x.tr):=(hW.cell (p:=⟨g,k2 * 12 + 3,none⟩) hgl).trans (hcell _ _ (plain_at (f:=fun q : Fn × FV => fnCells q.1 q.2) (n:=12) (fun _ => rfl) rf k2 _ 3 _ hq rfl))
          have d4 : wr.cell? ⟨g,k2 * 12 + 4,none⟩ = some (.bool x.sc):=(hW.cell (p:=⟨g,k2 * 12 + 4,none⟩) hgl).trans (hcell _ _ (plain_at (f:=fun q : Fn × FV => fnCells q.1 q.2) (n:=12) (fun _ => rfl) rf k2 _ 4 _ hq rfl))
          have d5 : wr.cell? ⟨g,k2 * 12 + 5,none⟩ = some (.slice zb yb cb):=(hW.cell (p:=⟨g,k2 * 12 + 5,none⟩) hgl).trans (hcell _ _ (plain_at (f:=fun q : Fn × FV => fnCells q.1 q.2) (n:=12) (fun _ => rfl) rf k2 _ 5 _ hq rfl))
          have d6 : wr.cell? ⟨g,k2 * 12 + 6,none⟩ = some (.int .i64 x.ret.k):=(hW.cell (p:=⟨g,k2 * 12 + 6,none⟩) hgl).trans (hcell _ _ (plain_at (f:=fun q : Fn × FV => fnCells q.1 q.2) (n:=12) (fun _ => rfl) rf k2 _ 6 _ hq rfl))
          have d7 : wr.cell? ⟨g,k2 * 12 + 7,none⟩ = some (.int .i64 x.ret.op):=(hW.cell (p:=⟨g,k2 * 12 + 7,none⟩) hgl).trans (hcell _ _ (plain_at (f:=fun q : Fn × FV => fnCells q.1 q.2) (n:=12) (fun _ => rfl) rf k2 _ 7 _ hq rfl))
          have d8 : wr.cell? ⟨g,k2 * 12 + 8,none⟩ = some (.int .i64 x.ret.n):=(hW.cell (p:=⟨g,k2 * 12 + 8,none⟩) hgl).trans (hcell _ _ (plain_at (f:=fun q : Fn × FV => fnCells q.1 q.2) (n:=12) (fun _ => rfl) rf k2 _ 8 _ hq rfl))
          have d9 : wr.cell? ⟨g,k2 * 12 + 9,none⟩ = some (.string (bstr x.ret.nm)):=(hW.cell (p:=⟨g,k2 * 12 + 9,none⟩) hgl).trans (hcell _ _ (plain_at (f:=fun q : Fn × FV => fnCells q.1 q.2) (n:=12) (fun _ => rfl) rf k2 _ 9 _ hq rfl))
          have d10 : wr.cell? ⟨g,k2 * 12 + 10,none⟩ = some (.slice zk yk ck):=(hW.cell (p:=⟨g,k2 * 12 + 10,none⟩) hgl).trans (hcell _ _ (plain_at (f:=fun q : Fn × FV => fnCells q.1 q.2) (n:=12) (fun _ => rfl) rf k2 _ 10 _ hq rfl))
          have d11 : wr.cell? ⟨g,k2 * 12 + 11,none⟩ = some (.int .i64 x.ret.a):=(hW.cell (p:=⟨g,k2 * 12 + 11,none⟩) hgl).trans (hcell _ _ (plain_at (f:=fun q : Fn × FV => fnCells q.1 q.2) (n:=12) (fun _ => rfl) rf k2 _ 11 _ hq rfl))
          obtain ⟨TX,hTX⟩ : ∃ T,fnT x = T:=⟨_,rfl⟩
          have hm:=List.mem_of_getElem? hx
          have HC : Hid (Calls Tryd.prog 28 #[.agg #[.int .i64 x.a,.string (bstr x.nm),.slice zp yp cp,.bool x.tr,.bool x.sc,.slice zb yb cb,.int .i64 x.ret.k,.int .i64 x.ret.op,.int .i64 x.ret.n,.string (bstr x.ret.nm),.slice zk yk ck,.int .i64 x.ret.a]] wr fun e w' => e = .returned (.string (bstr (TX))) ∧ Below wr.heap.size wr w'):=hid (rfn_owes (HG.out.1.fn x hm) (HG.out.2.fs x hm) TX (hid hTX) ⟨.slice zp yp cp,.slice zb yb cb,.slice zk yk ck⟩ wr ⟨hI0.1.stay hW,hI0.2.1.kept fun g hg hl => ⟨hW.block g hl,hg⟩,hI0.2.2.kept fun g hg hl => ⟨hW.block g hl,hg⟩⟩)
          clear hI0 hq hyp hyb hyk hm
          have hfi:=flat_in fnT p.fs k2 x hx
          rw [HA3.out,hTX] at hfi
          have hsu:=flat_succ fnT p.fs k2 x hx
          rw [hTX] at hsu
          have HSU:=hid hsu
          have htx : (bstr TX).size ≤ 50000000000000:=(by (show TX.length ≤ _;omega))
          have htx2 : TX.length ≤ 50000000000000:=htx
          have hc9 : ¬ 9223372036854775807 < (bstr S2).size + (bstr TX).size:=by omega
          clear hcell hsu hfi hTX hx hbr hfl hW
          go_wp2_with (go_at_call 28;(with_reducible refine (HC.out).mono ?_);rintro e9 w9 ⟨rfl,hb9⟩)
          go_roundw
          case rel =>
           first
            | exact ⟨k2 + 1,by (rw [HSU.out,← List.append_assoc,HS2.out,bstr_cat]),by go_num,Nat.succ_le_of_lt hkl,below_ch HBR2.out hb9⟩
            | (refine ⟨_,_,_,_,_,_,_,_,_,_,_,_,_,_,_,_,_,?_,rfl⟩;exact ⟨k2 + 1,by (rw [HSU.out,← List.append_assoc,HS2.out,bstr_cat]),by go_num,Nat.succ_le_of_lt hkl,below_ch HBR2.out hb9⟩)
          case measure =>
           simp [intOf]
           omega
        · have hlt : ¬ ((k2 : Int) < (nf : Int)):=by omega
          obtain rfl : nf = k2:=by omega
          have et : p.fs.take nf = p.fs:=by (rw [← HN.out.2.2.1];exact List.take_length)
          have hS:=HS2.out
          rw [et,HA3.out] at hS
          have HE2 : Hid (S2 = A1 ++ A2 ++ A3):=hid (by (rw [← hS]))
          rw [HE2.out]
          have HW3 : Hid (Below W1.heap.size W1 wr):=hid HBR2.out
          clear hS et hkl hk hbr hfl
          go_wp2
          go_loopw [3,7] (fun sv iv wr => ∃ k : Nat,sv = .string (bstr ((A1 ++ A2 ++ A3) ++ (p.ths.take k).flatMap thT)) ∧ iv = .int .i64 k ∧ k ≤ nt ∧ Below W1.heap.size W1 wr) (fun _ iv _ => nt - (intOf iv).toNat)
          case atStart => exact ⟨0,by first | rfl | (congr 2;simp),rfl,Nat.zero_le _,HW3.out⟩
          case round =>
           obtain ⟨k3,rfl,rfl,hk,hbr⟩:=hrel
           have HBR3:=hid hbr
           have hfl:=flat_le thT p.ths k3
           rw [HA4.out] at hfl
           obtain ⟨S3,hS⟩ : ∃ S,((A1 ++ A2 ++ A3) ++ (p.ths.take k3).flatMap thT) = S:=⟨_,rfl⟩
           have hsl : (bstr S3).size ≤ 50000000000000:=by (rw [← hS];show (((A1 ++ A2 ++ A3) ++ (p.ths.take k3).flatMap thT)).length ≤ _;simp only [List.length_append,List.length_nil];omega)
           rw [hS]
           have HS3:=hid hS
           clear hS
           obtain ⟨pl,⟨pc0,pc1,pc2,pc3⟩,_⟩:=(HPB.out.of (hbr.block _ hpl0)).facts
           by_cases hkl : k3 < nt
           · obtain ⟨g,cg,hv,hgl,hcell⟩:=own_some HRt.out (by omega)
             cases hv
             have hlt : (k3 : Int) < (nt : Int):=by omega
             have hkr : 0 ≤ (k3 : Int) ∧ (k3 : Int) < (nt : Int):=by omega
             have hW : Below W.heap.size W wr:=below_ch HA.out hbr
             have hglw : g < wr.heap.size:=Nat.lt_of_lt_of_le hgl hW.size
             obtain ⟨⟨x,tv⟩,hq⟩ : ∃ q,rt[k3]? = some q:=⟨_,List.getElem?_eq_getElem (by (have e:=congrArg List.length HRX.out.2.2.2;rw [List.length_map] at e;have:=HN.out;omega))⟩
             have hx : p.ths[k3]? = some x:=by (rw [← HRX.out.2.2.2,List.getElem?_map,hq];rfl)
             have hI0:=HRX.out.2.1 _ (List.mem_of_getElem? hq)
             obtain ⟨tz,tk,e0⟩:=hI0.form
             obtain ⟨ty,hy0⟩ : ∃ y,x.length = y:=⟨_,rfl⟩
             simp only at e0
             rw [hy0] at e0
             subst e0
             have d0 : wr.cell? ⟨g,k3,none⟩ = some (.slice tz ty tk):=(hW.cell (p:=⟨g,k3,none⟩) hgl).trans (hcell _ _ (by simp [thRow,hq]))
             obtain ⟨TX,hTX⟩ : ∃ T,thT x = T:=⟨_,rfl⟩
             have hgx:=HG.out.1.th x (List.mem_of_getElem? hx)
             obtain ⟨B,hB⟩ : ∃ B,stsT x (0 + 1) = B:=⟨_,rfl⟩
             have hBl : (bstr B).size ≤ 1000000000000:=by (rw [← hB];exact sts_bd hgx.1 hgx.2 (by omega))
             obtain ⟨T0,hT0⟩ : ∃ T,lineT 0 [tThr] = T:=⟨_,rfl⟩
             obtain ⟨T1,hT1⟩ : ∃ T,lineT 0 [[125]] = T:=⟨_,rfl⟩
             have ht0 : T0.length ≤ 100:=by (rw [← hT0];decide)
             have ht1 : T1.length ≤ 100:=by (rw [← hT1];decide)
             have hs0 : (bstr T0).size ≤ 100:=ht0
             have hs1 : (bstr T1).size ≤ 100:=ht1
             have HTH : Hid (T0 ++ B ++ T1 = TX):=hid (by (rw [← hTX,← hT0,← hT1,← hB];simp [thT]))
             have HT0:=hid hT0
             have HT1:=hid hT1
             have HU0 : Hid ((⟨#[116,104,114,101,97,100,32,123]⟩ : ByteArray) = bstr [tThr].flatten):=hid (by rfl)
             have HU1 : Hid ((⟨#[125]⟩ : ByteArray) = bstr [[125]].flatten):=hid (by rfl)
             have HC9 : Hid (∀ X,Below W.heap.size W X → Calls Tryd.prog 12 #[.slice tz ty tk,.int .i64 1] X fun e w' => e = .returned (.string (bstr (B))) ∧ Below X.heap.size X w'):=hid fun X hX => rsts9_any (tabs:=0 + 1) B (hid hB) hgx.1 (hI0.kept fun g hg hl => ⟨hX.block g hl,hg⟩) hgx.2 (by decide)
             have HKC : Hid (∀ X,Below wr.heap.size wr X → X.cell? ⟨g,k3,none⟩ = some (.slice tz ty tk)):=hid fun X hX => (hX.cell (p:=⟨g,k3,none⟩) hglw).trans d0
             have hd1 : ¬ 9223372036854775807 < (bstr T0).size + (bstr B).size:=by omega
             have hd2 : ¬ 9223372036854775807 < (bstr T0).size + (bstr B).size + (bstr T1).size:=by omega
             have hd3 : ¬ 9223372036854775807 < (bstr S3).size + ((bstr T0).size + (bstr B).size + (bstr T1).size):=by omega
             clear hB hT0 hT1 hgx hI0 hq
             have hfi:=flat_in thT p.ths k3 x hx
             rw [HA4.out,hTX] at hfi
             have hsu:=flat_succ thT p.ths k3 x hx
             rw [hTX] at hsu
             have HSU:=hid hsu
             have htx : (bstr TX).size ≤ 50000000000000:=(by (show TX.length ≤ _;omega))
             have htx2 : TX.length ≤ 50000000000000:=htx
             have hc9 : ¬ 9223372036854775807 < (bstr S3).size + (bstr TX).size:=by omega
             clear hcell hsu hfi hTX hx hbr hfl hW
             go_upto_region 17 with (fail)
             clear pl pc0 pc1 pc2 pc3 d0
             have HC : Hid (Below wr.heap.size wr wr.drew):=hid ((Below.refl _ _).drew)
             obtain ⟨pl,⟨pc0,pc1,pc2,pc3⟩,_⟩:=(HPB.out.of ((below_ch HBR3.out HC.out).block _ hpl0)).facts
             have d0:=HKC.out _ HC.out
             go_region_law (first
              | (go_simp;go_at_call 26;(with_reducible refine (rline_zero _ [tThr] HU0 T0 HT0 (by omega) _).mono ?_);rintro e9 wt ⟨rfl,hbt⟩;replace HC:=hid (below_ch HC.out hbt);obtain ⟨pl,⟨pc0,pc1,pc2,pc3⟩,_⟩:=(HPB.out.of ((below_ch HBR3.out HC.out).block _ hpl0)).facts;have d0:=HKC.out _ HC.out;clear hbt)
              | (go_simp;go_at_call 26;(with_reducible refine (rline_zero _ [[125]] HU1 T1 HT1 (by omega) _).mono ?_);rintro e9 wt ⟨rfl,hbt⟩;replace HC:=hid (below_ch HC.out hbt);obtain ⟨pl,⟨pc0,pc1,pc2,pc3⟩,_⟩:=(HPB.out.of ((below_ch HBR3.out HC.out).block _ hpl0)).facts;have d0:=HKC.out _ HC.out;clear hbt)
              | (go_simp;go_at_call 12;(with_reducible refine (HC9.out _ (below_ch HA.out (below_ch HBR3.out HC.out))).mono ?_);rintro e9 wt ⟨rfl,hbt⟩;replace HC:=hid (below_ch HC.out hbt);obtain ⟨pl,⟨pc0,pc1,pc2,pc3⟩,_⟩:=(HPB.out.of ((below_ch HBR3.out HC.out).block _ hpl0)).facts;have d0:=HKC.out _ HC.out;clear hbt))
             all_goals
              go_wp2
              go_roundw
              case rel =>
               first
                | exact ⟨k3 + 1,by (rw [HSU.out,← List.append_assoc,HS3.out,bstr_cat,bstr_cat,bstr_cat,HTH.out]),by go_num,Nat.succ_le_of_lt hkl,below_ch HBR3.out HC.out⟩
                | (refine ⟨_,_,_,_,_,_,_,_,_,_,_,_,_,_,_,_,_,_,_,_,_,?_,rfl⟩;exact ⟨k3 + 1,by (rw [HSU.out,← List.append_assoc,HS3.out,bstr_cat,bstr_cat,bstr_cat,HTH.out]),by go_num,Nat.succ_le_of_lt hkl,below_ch HBR3.out HC.out⟩)
              case measure =>
               simp [intOf]
               omega
           · have hlt : ¬ ((k3 : Int) < (nt : Int)):=by omega
             obtain rfl : nt = k3:=by omega
             have et : p.ths.take nt = p.ths:=by (rw [← HN.out.2.2.2];exact List.take_length)
             have hS:=HS3.out
             rw [et,HA4.out] at hS
             have HE : Hid (S3 = T):=hid (by (rw [← hS,HT'.out];simp))
             clear hS et
             go_wp2
             go_ret
             exact ⟨by (rw [HE.out];rfl),below_ch HA.out HBR3.out⟩
open Go Go.ChangeShapes Go.WideShapes Go.ChangeAt Go.WideMaps Go.WideElems Go.RowKit Go.Sort
theorem own : ownKnob Tryd.prog.godebug = none:=by kernel_rfl
theorem gSigns : Tryd.prog.globalNamed "paling/calc.signs" = some 1:=by kernel_rfl
theorem tSigns : (Tryd.prog.globals[1]?).map (·.type) = some 148:=by kernel_rfl
theorem tPow : (Tryd.prog.globals[0]?).map (·.type) = some 139:=by kernel_rfl
theorem cPow : Tryd.prog.cellsOf 139 = 20:=by kernel_rfl
theorem cU64 : Tryd.prog.cellsOf 132 = 1:=by kernel_rfl
theorem cStr : Tryd.prog.cellsOf 9 = 1:=by kernel_rfl
theorem cInt : Tryd.prog.cellsOf 3 = 1:=by kernel_rfl
theorem cWritten : Tryd.prog.cellsOf 147 = 2:=by kernel_rfl
theorem signs_eq : (Rows.laid_paling_calc_signs : DataW Unit) = .agg ((List.range 19).map fun i => .agg [.lit (.string (sgn i).data.toList),.lit (.int .i64 (rnk i))]):=by rfl
theorem lt_of_var {w : World} {n : String} {g : Nat} {cs : Array Value} (hg : Tryd.prog.globalNamed n = some g) (h : w.var? Tryd.prog n = some cs) : g < w.heap.size:=by
 unfold World.var? at h
 simp only [hg,Option.bind_some] at h
 cases hh : w.heap[g]? with
 | none => simp [hh] at h
 | some o => exact (Array.getElem?_eq_some_iff.1 hh).1
theorem table_of {W : World} {r : List (String × DataW Unit)} (h : laidMet Tryd.prog (("paling/calc.signs", Rows.laid_paling_calc_signs) :: r) W) : Table W:=by
 obtain ⟨ps,⟨g0,t0,cs0,f0,p0,q0,hg0,ht0,hv0,hd0,_,_⟩,_⟩:=h
 obtain rfl:=Option.some.inj (gSigns.symm.trans hg0)
 obtain rfl:=Option.some.inj (tSigns.symm.trans ht0)
 obtain ⟨xs,m,rfl,hx,hlen,hn,hel⟩:=DataW.trod_array Tryd.underlying148 hd0
 rw [signs_eq] at hx
 simp only [Prod.mk.injEq,DataW.agg.injEq] at hx
 have key : ∀ n,n < 19 → cs0.toList[n * 2]? = some (.string (sgn n)) ∧ cs0.toList[n * 2 + 1]? = some (.int .i64 (rnk n)):=by
  intro n hn19
  have h0:=hel n hn19
  have hxs : xs[n]? = some xs[n]:=List.getElem?_eq_getElem (by omega)
  rw [hxs] at h0
  have hx1 : (xs.map (·.1))[n]? = some xs[n].1:=by rw [List.getElem?_map,hxs];rfl
  rw [← hx.1,List.getElem?_map,List.getElem?_range hn19] at hx1
  simp only [Option.map_some,Option.some.injEq] at hx1
  obtain ⟨y0,y1,k,e0,_,e1,e2⟩:=trod_struct2 Tryd.underlying147 h0
  obtain ⟨s,c1,d1,_⟩:=DataW.trod_string Tryd.underlying9 e1
  obtain ⟨v,c2,d2,_⟩:=DataW.trod_int Tryd.underlying3 e2
  rw [e0,d1,d2] at hx1
  simp only [DataW.agg.injEq,List.cons.injEq,DataW.lit.injEq,Lit.string.injEq,Lit.int.injEq,true_and,and_true] at hx1
  rw [cWritten] at c1 c2
  constructor
  · have:=bytes_inj hx1.1
    rw [this]
    have c3:=congrArg (·[0]?) c1
    simpa [List.getElem?_take,List.getElem?_drop,cStr] using c3
  · rw [hx1.2]
    have c3:=congrArg (·[0]?) c2
    simpa [List.getElem?_take,List.getElem?_drop,cInt,Nat.add_assoc] using c3
 refine ⟨lt_of_var gSigns hv0,fun n hn => ?_,fun n hn => ?_⟩
 · rw [World.var?_cell gSigns hv0]
   simpa using (key n hn).1
 · rw [World.var?_cell gSigns hv0]
   simpa using (key n hn).2
def laidL : List (String × DataW Unit):=Rows.showTellsRow.laid
theorem of_laid {W : World} (h : laidMetH Tryd.prog laidL W) : Laid W:=by
 rw [MakeChecks.laidMetH_plain _ _ _ (by kernel_rfl)] at h
 have hp:=h.tail.tail
 have ht:=table_of hp.tail
 have hpow : Lib.TabIs Tryd.prog W "internal/strconv.uint64pow10" .u64 Lib.pow10Tab:=Lib.tabIs_of_head gPow tPow Tryd.underlying139 Tryd.underlying132 cU64 cPow hp
 exact ⟨ht,lt_of_var gPow hpow,hpow⟩
theorem door_met (os : Os) (args : Array Value) : laidMetH Tryd.prog laidL ((World.doorLaid Tryd.prog 400 os).forCall (fun _ _ => 0) ⟨#[],args,[]⟩).memory :=
 laidMetH_of_parts3 (fuel:=8) (laidMet_of_run' 8 (by kernel_rfl) (by kernel_rfl)) (by kernel_rfl) (by kernel_rfl)
end Go.Proofs.YtkhbbapocamlmaaDoor
