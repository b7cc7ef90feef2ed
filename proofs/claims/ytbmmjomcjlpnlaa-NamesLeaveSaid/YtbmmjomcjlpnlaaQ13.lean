/- Joined texts: Aw6W An Nil Lv Lw: lemmas for the law; each says its own conditions. -/
import Derived.Test.YtbmmjomcjlpnlaaQ12
import Derived.BigQuiet
import Derived.Test.YtbmmjomcjlpnlaaQ01
set_option linter.unusedSimpArgs false
set_option linter.unusedVariables false
set_option maxRecDepth 100000
set_option maxHeartbeats 8000000
open Go.Lib (hid)
namespace Go.Proofs.Ytbmmjomcjlpnlaa
open Go Go.RowKit
theorem kindN_er (x : Option Th) : kindN (x.map Th.er) = kindN x:=by
 rcases x with _ | x
 · rfl
 · cases x <;> rfl
theorem typeN_er (x : Option Th) : typeN (x.map Th.er) = typeN x:=by
 rcases x with _ | x
 · rfl
 · cases x <;> rfl
theorem lockN_er (x : Option Th) : lockN (x.map Th.er) = lockN x:=by
 rcases x with _ | x
 · rfl
 · cases x <;> rfl
theorem globN_er (x : Option Th) : globN (x.map Th.er) = globN x:=by
 rcases x with _ | x
 · rfl
 · cases x <;> rfl
theorem funcN_er (x : Option Th) : funcN (x.map Th.er) = funcN x:=by
 rcases x with _ | x
 · rfl
 · cases x <;> rfl
theorem rfield_t0 (a b : Value) (w : World) : (Instr.field 42 (.agg #[a,b]) 0).run Try.prog w = .ok a w:=by
 simp [Instr.field,run_underlying Try.underlying42,part,asAgg,Try.isAgg4]
theorem rfield_t1 (a b : Value) (w : World) : (Instr.field 42 (.agg #[a,b]) 1).run Try.prog w = .ok b w:=by
 simp [Instr.field,run_underlying Try.underlying42,part,asAgg,Try.isAgg4]
theorem none_er (x : Option Th) (h : x.map Th.er = none) : x = none:=by simpa using h
def aw6gb : Gl:=⟨12,[103],true,true,3,[]⟩
def aw6fb : Fn:=⟨31,[102],[],false,false,[],.mk 0 0 1 [] [] 55⟩
theorem aw6a_sh : ShP aw6aP:=⟨⟨by decide,by simp [aw6aP]⟩,⟨by decide,by simp [aw6aP]⟩,⟨by decide,by simp [aw6aP]⟩⟩
theorem aw6b_sh : ShP aw6bP:=⟨⟨by decide,by simp [aw6bP]⟩,⟨by decide,by simp [aw6bP]⟩,⟨by decide,fun y hy => by
 simp only [aw6bP,List.mem_singleton] at hy
 subst hy
 exact ⟨by simp,⟨by simp,by simp⟩,⟨by simp,by simp⟩,.mk (by simp) (by simp) (by simp)⟩⟩⟩
theorem aw6a_tw : twiceF (thingsL aw6aP) = (19,true):=by decide
theorem aw6b_tw : (twiceF (thingsL aw6bP)).2 = false:=by decide
theorem aw6a_parse (w : World) : Calls Try.prog 7 #[.string ⟨#[112,117,98,108,105,99,32,105,110,116,32,97,59,32,108,111,99,107,32,97,59]⟩] w fun e w' => Below w.heap.size w w' ∧ ∃ z0 n0 c0 z1 n1 c1 z2 n2 c2 z3 n3 c3 rf rt,e = .returned (.tuple #[.agg #[.slice z0 n0 c0,.slice z1 n1 c1,.slice z2 n2 c2,.slice z3 n3 c3],.int .i64 0,.int .i64 0]) ∧ PRows w.heap.size w' aw6aP (.slice z0 n0 c0) (.slice z1 n1 c1) (.slice z2 n2 c2) (.slice z3 n3 c3) rf rt :=
 (r4_parse ⟨#[112,117,98,108,105,99,32,105,110,116,32,97,59,32,108,111,99,107,32,97,59]⟩ w (by decide) aw6aW (hid aw6a_sc)).mono fun e w' ⟨⟨v0,v1,v2,v3,c,a,h1,h2,_⟩,h3⟩ => by
  rw [aw6a_par] at h2
  obtain ⟨rfl,rfl,rf,rt,R⟩:=h2 _ rfl
  obtain ⟨z0,c0,rfl⟩:=own_form R.g
  obtain ⟨z1,c1,rfl⟩:=own_form R.l
  obtain ⟨z2,c2,rfl⟩:=own_form R.f
  obtain ⟨z3,c3,rfl⟩:=own_form R.t
  exact ⟨h3,_,_,_,_,_,_,_,_,_,_,_,_,rf,rt,h1,R⟩
theorem aw6b_parse (w : World) : Calls Try.prog 7 #[.string ⟨#[115,101,99,114,101,116,32,98,111,111,108,32,103,91,51,93,59,32,108,111,99,107,32,109,59,32,102,117,110,99,32,102,40,41,32,112,117,98,108,105,99,32,105,110,116,32,123,32,114,101,116,117,114,110,32,49,59,32,125]⟩] w fun e w' => Below w.heap.size w w' ∧ ∃ z0 n0 c0 z1 n1 c1 z2 n2 c2 z3 n3 c3 rf rt,e = .returned (.tuple #[.agg #[.slice z0 n0 c0,.slice z1 n1 c1,.slice z2 n2 c2,.slice z3 n3 c3],.int .i64 0,.int .i64 0]) ∧ PRows w.heap.size w' aw6bP (.slice z0 n0 c0) (.slice z1 n1 c1) (.slice z2 n2 c2) (.slice z3 n3 c3) rf rt :=
 (r4_parse ⟨#[115,101,99,114,101,116,32,98,111,111,108,32,103,91,51,93,59,32,108,111,99,107,32,109,59,32,102,117,110,99,32,102,40,41,32,112,117,98,108,105,99,32,105,110,116,32,123,32,114,101,116,117,114,110,32,49,59,32,125]⟩ w (by decide) aw6bW (hid aw6b_sc)).mono fun e w' ⟨⟨v0,v1,v2,v3,c,a,h1,h2,_⟩,h3⟩ => by
  rw [aw6b_par] at h2
  obtain ⟨rfl,rfl,rf,rt,R⟩:=h2 _ rfl
  obtain ⟨z0,c0,rfl⟩:=own_form R.g
  obtain ⟨z1,c1,rfl⟩:=own_form R.l
  obtain ⟨z2,c2,rfl⟩:=own_form R.f
  obtain ⟨z3,c3,rfl⟩:=own_form R.t
  exact ⟨h3,_,_,_,_,_,_,_,_,_,_,_,_,rf,rt,h1,R⟩
theorem awake_any (w : World) : Calls Try.prog 6 #[] w fun e w' => e = .returned (.bool true) ∧ Below w.heap.size w w':=by
 go_enter Try.func6,Try.ntmps6
 go_upto_region 2 with (go_at_call 7;(with_reducible refine (aw6a_parse _).mono ?_);rintro e1 w1 ⟨hb1,z0,n0,c0,z1,n1,c1,z2,n2,c2,z3,n3,c3,rf,rt,rfl,hR⟩;have HB1:=hid hb1;have HR:=hid hR;clear hb1 hR)
 refine name_world ?_
 intro W1 hW1
 have HB2 : Hid (Below w.heap.size w W1):=hid (by (rw [hW1];exact below_ch HB1.out (below_of_alloc _ _)))
 have HR2 : Hid (PRows w.heap.size W1 aw6aP (.slice z0 n0 c0) (.slice z1 n1 c1) (.slice z2 n2 c2) (.slice z3 n3 c3) rf rt):=hid (by (rw [hW1];exact HR.out.stay (below_of_alloc _ _)))
 have hm1 : W1.heap[w1.heap.size]? = some (.cells #[.slice z0 n0 c0,.slice z1 n1 c1,.slice z2 n2 c2,.slice z3 n3 c3] 29 (0,0)):=by (rw [hW1];exact heap_alloc_new _ _)
 have hml : w1.heap.size < W1.heap.size:=(Array.getElem?_eq_some_iff.1 hm1).1
 have m0 : W1.cell? ⟨w1.heap.size,0,none⟩ = some (.slice z0 n0 c0):=cell_of_row _ _ _ _ _ _ hm1
 have m1 : W1.cell? ⟨w1.heap.size,1,none⟩ = some (.slice z1 n1 c1):=cell_of_row _ _ _ _ _ _ hm1
 have m2 : W1.cell? ⟨w1.heap.size,2,none⟩ = some (.slice z2 n2 c2):=cell_of_row _ _ _ _ _ _ hm1
 have m3 : W1.cell? ⟨w1.heap.size,3,none⟩ = some (.slice z3 n3 c3):=cell_of_row _ _ _ _ _ _ hm1
 have HN1 : Hid (Calls Try.prog 8 #[.agg #[.slice z0 n0 c0,.slice z1 n1 c1,.slice z2 n2 c2,.slice z3 n3 c3]] W1 fun e w' => Below W1.heap.size W1 w' ∧ e = .returned (.tuple #[.pointer none,.int .i64 12,.int .i64 19])):=hid (by (have h:=new_bad HR2 aw6a_sh (by rw [aw6a_tw]);rw [aw6a_tw] at h;exact h))
 clear hW1 hm1
 go_upto_region 3 with (go_at_call 8;(with_reducible refine HN1.out.mono ?_);rintro e2 w2 ⟨hb2,rfl⟩;have HB3:=hid (below_ch HB2.out hb2);clear hb2)
 clear m0 m1 m2 m3 hml HR HR2 HN1 HB1
 go_upto_region 4 with (go_at_call 7;(with_reducible refine (aw6b_parse _).mono ?_);rintro e3 w3 ⟨hb3,y0,i0,d0,y1,i1,d1,y2,i2,d2,y3,i3,d3,rf2,rt2,rfl,hR⟩;have HB4:=hid (below_ch HB3.out hb3);have HR:=hid hR;clear hb3 hR)
 refine name_world ?_
 intro W3 hW3
 have HB5 : Hid (Below w.heap.size w W3):=hid (by (rw [hW3];exact below_ch HB4.out (below_of_alloc _ _)))
 have HR3 : Hid (PRows w2.heap.size W3 aw6bP (.slice y0 i0 d0) (.slice y1 i1 d1) (.slice y2 i2 d2) (.slice y3 i3 d3) rf2 rt2):=hid (by (rw [hW3];exact HR.out.stay (below_of_alloc _ _)))
 have hm3 : W3.heap[w3.heap.size]? = some (.cells #[.slice y0 i0 d0,.slice y1 i1 d1,.slice y2 i2 d2,.slice y3 i3 d3] 29 (0,0)):=by (rw [hW3];exact heap_alloc_new _ _)
 have hml : w3.heap.size < W3.heap.size:=(Array.getElem?_eq_some_iff.1 hm3).1
 have m0 : W3.cell? ⟨w3.heap.size,0,none⟩ = some (.slice y0 i0 d0):=cell_of_row _ _ _ _ _ _ hm3
 have m1 : W3.cell? ⟨w3.heap.size,1,none⟩ = some (.slice y1 i1 d1):=cell_of_row _ _ _ _ _ _ hm3
 have m2 : W3.cell? ⟨w3.heap.size,2,none⟩ = some (.slice y2 i2 d2):=cell_of_row _ _ _ _ _ _ hm3
 have m3 : W3.cell? ⟨w3.heap.size,3,none⟩ = some (.slice y3 i3 d3):=cell_of_row _ _ _ _ _ _ hm3
 have HN3 : Hid (Calls Try.prog 8 #[.agg #[.slice y0 i0 d0,.slice y1 i1 d1,.slice y2 i2 d2,.slice y3 i3 d3]] W3 fun e w' => Below W3.heap.size W3 w' ∧ ∃ s,e = .returned (.tuple #[.pointer (some ⟨s,0,none⟩),.int .i64 0,.int .i64 0]) ∧ W3.heap.size ≤ s ∧ NewOk W3 w' aw6bP s):=hid (new_good HR3 aw6b_sh aw6b_tw)
 clear hW3 hm3
 go_upto_region 5 with (go_at_call 8;(with_reducible refine HN3.out.mono ?_);rintro e4 w4 ⟨hb4,s,rfl,hs4,hok⟩;obtain ⟨F,mm,n,hn,hFe,hS⟩:=hok;have HB6:=hid (below_ch HB5.out hb4);have HFE:=hid hFe;have S0:=hid hS;clear hb4 hFe hS)
 clear m0 m1 m2 m3 hml HR HR3 HN3 HB3 HB4 HB2
 obtain ⟨B,hB⟩ : ∃ B,W3.heap.size = B:=⟨_,rfl⟩
 have hBw : w.heap.size ≤ B:=by (rw [← hB];exact HB5.out.size)
 rw [hB] at S0 hs4
 clear hB HB5
 have HX : Hid (F [120] = none):=hid (none_er _ (by have h:=congrFun HFE.out [120];unfold TF.er at h;rw [h];decide))
 have heq:=eql_ptr_some ⟨s,0,none⟩ w4
 go_upto_region 7 with (fail)
 clear heq
 have HF : Hid (∀ k,k ≠ [120] → (F k).map Th.er = tagP aw6bP k):=hid fun k _ => congrFun HFE.out k
 obtain ⟨F1,hF1⟩ : ∃ G,F.upd (⟨#[120]⟩ : ByteArray).data.toList (.lo false true) = G:=⟨_,rfl⟩
 have HF1 : Hid (∀ k,k ≠ [120] → (F1 k).map Th.er = tagP aw6bP k):=hid fun k hk => by
  rw [← hF1]
  unfold TF.upd
  rw [if_neg (by simpa using hk)]
  exact HF.out k hk
 have HX1 : Hid (F1 [120] = some (.lo false true)):=hid (by rw [← hF1];rfl)
 have HFF:=hid hF1
 clear hF1
 have hsome : (F1 (⟨#[120]⟩ : ByteArray).data.toList).isSome = true:=by (show (F1 [120]).isSome = true;rw [HX1.out];rfl)
 have HSM:=hid hsome
 clear hsome
 go_upto_region 8 with (go_at_call 13;(with_reducible refine (let_no0 S0 _ _ _).mono ?_);rintro e5 w5 ⟨rfl,hb5⟩;have S1:=hid (S0.out.stay hb5);have HB7:=hid (below_ch HB6.out hb5);clear hb5)
 go_upto_region 9 with (go_at_call 10;(with_reducible refine (enter_any S1 (by simp) (by simp)).mono ?_);rintro e6 w6 ⟨rfl,bv6,hS6,hb6,_⟩;have S2:=hid hS6;have HB8:=hid (below_tr HB7.out (hb6.mono hBw));clear hS6 hb6)
 go_upto_region 10 with (go_at_call 13;(with_reducible refine (let_yes S2 (by simp) ⟨#[120]⟩ (by decide) (by decide) false true HX.out (by omega) (by simp)).mono ?_);rintro e7 w7 ⟨rfl,b7,lv7,hS7,hb7,_⟩;rw [HFF.out] at hS7;have S3:=hid hS7;have HB9:=hid (below_tr HB8.out (hb7.mono hBw));clear hS7 hb7)
 go_upto_region 11 with (go_at_call 13;go_loud ((with_reducible refine (let_no2 S3 (by simp) ⟨#[120]⟩ (by decide) (by decide) false false HSM.out).mono ?_);rintro e8 w8 ⟨rfl,hb8⟩;have S4:=hid (S3.out.stay hb8);have HB10:=hid (below_ch HB9.out hb8);clear hb8))
 clear S0 S1 S2 S3 HB6 HB7 HB8 HB9
 have HGL : Hid (Calls Try.prog 17 #[.pointer (some ⟨s,0,none⟩),.string ⟨#[103]⟩] w8 fun e w' => e = .returned (.tuple #[.agg #[.int .i64 12,.string ⟨#[103]⟩,.bool true,.bool true,.int .i64 3,.string ⟨#[]⟩],.int .i64 0]) ∧ Below w8.heap.size w8 w'):=hid (by
  have h:=glob_any S4 ⟨#[103]⟩ (by decide)
  have e : globN (F1 (⟨#[103]⟩ : ByteArray).data.toList) = (aw6gb,0):=by (rw [← globN_er];show globN ((F1 [103]).map Th.er) = _;rw [HF1.out [103] (by decide)];rfl)
  rw [e] at h
  exact h)
 go_upto_region 12 with (go_at_call 17;(with_reducible refine HGL.out.mono ?_);rintro e9 w9 ⟨rfl,hb9⟩;have S5:=hid (S4.out.stay hb9);have HB11:=hid (below_ch HB10.out hb9);clear hb9)
 refine name_world ?_
 intro W9 hW9
 have HA9 : Hid (Below w9.heap.size w9 W9):=hid (by (rw [hW9];exact below_of_alloc _ _))
 have hm9 : W9.heap[w9.heap.size]? = some (.cells #[.int .i64 12,.string ⟨#[103]⟩,.bool true,.bool true,.int .i64 3,.string ⟨#[]⟩] 56 (0,0)):=by (rw [hW9];exact heap_alloc_new _ _)
 have HM9:=hid hm9
 have S6:=hid (S5.out.stay HA9.out)
 have HB12:=hid (below_ch HB11.out HA9.out)
 clear hW9 hm9 HGL S4 S5 HB10 HB11
 have HFU : Hid (Calls Try.prog 18 #[.pointer (some ⟨s,0,none⟩),.string ⟨#[102]⟩] W9 fun e w' => (∃ z0 k0 z1 k1 z2 k2,e = .returned (.tuple #[.agg #[.int .i64 31,.string ⟨#[102]⟩,.slice z0 0 k0,.bool false,.bool false,.slice z1 0 k1,.int .i64 0,.int .i64 0,.int .i64 1,.string ⟨#[]⟩,.slice z2 0 k2,.int .i64 55],.int .i64 0])) ∧ Below W9.heap.size W9 w'):=hid (by
  have h:=func_any S6 ⟨#[102]⟩ (by decide)
  have e : funcN (F1 (⟨#[102]⟩ : ByteArray).data.toList) = (aw6fb,0):=by (rw [← funcN_er];show funcN ((F1 [102]).map Th.er) = _;rw [HF1.out [102] (by decide)];rfl)
  rw [e] at h
  exact h)
 go_upto_region 13 with (go_at_call 18;(with_reducible refine HFU.out.mono ?_);rintro e10 w10 ⟨⟨q0,k0,q1,k1,q2,k2,rfl⟩,hb10⟩;have S7:=hid (S6.out.stay hb10);have HB13:=hid (below_ch HB12.out hb10);have HO10:=hid (Oth.of hb10);clear hb10)
 refine name_world ?_
 intro W10 hW10
 have HA10 : Hid (Below w10.heap.size w10 W10):=hid (by (rw [hW10];exact below_of_alloc _ _))
 have S8:=hid (S7.out.stay HA10.out)
 have HB14:=hid (below_ch HB13.out HA10.out)
 clear hW10 HFU S6 S7 HB12 HB13
 go_upto_region 14 with (go_at_call 16;(with_reducible refine (locals_any S8 (by simp) (fun x hx => by simp at hx;subst hx;decide)).mono ?_);rintro e11 w11 ⟨hb11,p11,c11,rfl,_⟩;have S9:=hid (S8.out.stay hb11);have HB15:=hid (below_ch HB14.out hb11);have HO11:=hid (Oth.of hb11);clear hb11)
 have HTY : Hid (Calls Try.prog 21 #[.pointer (some ⟨s,0,none⟩),.string ⟨#[120]⟩] w11 fun e w' => e = .returned (.agg #[.bool false,.bool true]) ∧ Below w11.heap.size w11 w'):=hid (by
  have h:=typ_any S9 ⟨#[120]⟩ (by decide)
  have e : F1 (⟨#[120]⟩ : ByteArray).data.toList = some (.lo false true):=HX1.out
  rw [e] at h
  exact h)
 go_upto_region 15 with (go_at_call 21;(with_reducible refine HTY.out.mono ?_);rintro e12 w12 ⟨rfl,hb12⟩;have S10:=hid (S9.out.stay hb12);have HB16:=hid (below_ch HB15.out hb12);have HO12:=hid (Oth.of hb12);clear hb12)
 refine name_world ?_
 intro W12 hW12
 have HA12 : Hid (Below w12.heap.size w12 W12):=hid (by (rw [hW12];exact below_of_alloc _ _))
 have hm12 : W12.heap[w12.heap.size]? = some (.cells #[.bool false,.bool true] 42 (0,0)):=by (rw [hW12];exact heap_alloc_new _ _)
 have HM12:=hid hm12
 have S11:=hid (S10.out.stay HA12.out)
 have HB17:=hid (below_ch HB16.out HA12.out)
 have hm9 : W12.heap[w9.heap.size]? = some (.cells #[.int .i64 12,.string ⟨#[103]⟩,.bool true,.bool true,.int .i64 3,.string ⟨#[]⟩] 56 (0,0)):=(((((HO10.out.trans (Oth.of HA10.out)).trans HO11.out).trans HO12.out).trans (Oth.of HA12.out)).2 _ _ _ _ HM9.out (by decide) (by decide) (by decide)).trans HM9.out
 have HM9':=hid hm9
 clear hW12 hm12 hm9 HTY S8 S9 S10 HB14 HB15 HB16
 obtain ⟨g13,c13,elv,hg13,hgB13⟩:=row_some S11.out.lo (show 0 < ([] ++ [(⟨#[120]⟩ : ByteArray)]).length by simp)
 subst elv
 have hc13 : 0 < c13:=by
  have h:=(own_str (l:=1) (L:=[⟨#[120]⟩]) S11.out.lo).2.1
  omega
 go_upto_region 16 with (go_at_call 11;(with_reducible refine (leave_some (b0:=[]) (a:=0) S11 (by simp) (by simp) (by simp) (fun x hx => by simp at hx;subst hx;decide) hc13).mono ?_);rintro e13 w13 ⟨rfl,bv13,hS13,hb13,ho13,_⟩;have S12:=hid hS13;have HB18:=hid (below_tr HB17.out (hb13.mono hBw));have HO13:=hid ho13;clear hS13 hb13 ho13)
 have hF2a : ∀ k,k ≠ [120] → (F1.dels (([] ++ [(⟨#[120]⟩ : ByteArray)]).drop 0)) k = F1 k:=fun k hk => by
  show (F1.del (⟨#[120]⟩ : ByteArray).data.toList) k = _
  unfold TF.del
  rw [if_neg (by simpa using hk)]
 have hF2b : (F1.dels (([] ++ [(⟨#[120]⟩ : ByteArray)]).drop 0)) [120] = none:=rfl
 have hL : lockN ((F1.dels (([] ++ [(⟨#[120]⟩ : ByteArray)]).drop 0)) [109]) = 0:=by (rw [hF2a _ (by decide),← lockN_er,HF1.out [109] (by decide)];rfl)
 have hKm : kindN ((F1.dels (([] ++ [(⟨#[120]⟩ : ByteArray)]).drop 0)) [109]) = 2:=by (rw [hF2a _ (by decide),← kindN_er,HF1.out [109] (by decide)];rfl)
 have hKx : kindN ((F1.dels (([] ++ [(⟨#[120]⟩ : ByteArray)]).drop 0)) [120]) = 0:=by (rw [hF2b];rfl)
 have hTg : typeN ((F1.dels (([] ++ [(⟨#[120]⟩ : ByteArray)]).drop 0)) [103]) = (true,true):=by (rw [hF2a _ (by decide),← typeN_er,HF1.out [103] (by decide)];rfl)
 have HLK : Hid (Calls Try.prog 20 #[.pointer (some ⟨s,0,none⟩),.string ⟨#[109]⟩] w13 fun e w' => e = .returned (.int .i64 0) ∧ Below w13.heap.size w13 w'):=hid (by
  have h:=lock_any S12 ⟨#[109]⟩ (by decide)
  have e : lockN ((F1.dels (([] ++ [(⟨#[120]⟩ : ByteArray)]).drop 0)) (⟨#[109]⟩ : ByteArray).data.toList) = 0:=hL
  rw [e] at h
  exact h)
 have HKM : Hid (∀ X,Below w13.heap.size w13 X → Calls Try.prog 19 #[.pointer (some ⟨s,0,none⟩),.string ⟨#[109]⟩] X fun e w' => e = .returned (.int .i64 2) ∧ w' = X):=hid fun X hX => by
  have h:=kind_any (hid (S12.out.stay hX)) ⟨#[109]⟩ (by decide)
  have e : kindN ((F1.dels (([] ++ [(⟨#[120]⟩ : ByteArray)]).drop 0)) (⟨#[109]⟩ : ByteArray).data.toList) = 2:=hKm
  rw [e] at h
  exact h
 have HKX : Hid (∀ X,Below w13.heap.size w13 X → Calls Try.prog 19 #[.pointer (some ⟨s,0,none⟩),.string ⟨#[120]⟩] X fun e w' => e = .returned (.int .i64 0) ∧ w' = X):=hid fun X hX => by
  have h:=kind_any (hid (S12.out.stay hX)) ⟨#[120]⟩ (by decide)
  have e : kindN ((F1.dels (([] ++ [(⟨#[120]⟩ : ByteArray)]).drop 0)) (⟨#[120]⟩ : ByteArray).data.toList) = 0:=hKx
  rw [e] at h
  exact h
 have HTG : Hid (∀ X,Below w13.heap.size w13 X → Calls Try.prog 21 #[.pointer (some ⟨s,0,none⟩),.string ⟨#[103]⟩] X fun e w' => e = .returned (.agg #[.bool true,.bool true]) ∧ Below X.heap.size X w'):=hid fun X hX => by
  have h:=typ_any (hid (S12.out.stay hX)) ⟨#[103]⟩ (by decide)
  have e : typeN ((F1.dels (([] ++ [(⟨#[120]⟩ : ByteArray)]).drop 0)) (⟨#[103]⟩ : ByteArray).data.toList) = (true,true):=hTg
  rw [e] at h
  exact h
 have hm9:=(HO13.out.2 _ _ _ _ HM9'.out (by decide) (by decide) (by decide)).trans HM9'.out
 have hm12:=(HO13.out.2 _ _ _ _ HM12.out (by decide) (by decide) (by decide)).trans HM12.out
 have hl9 : w9.heap.size < w13.heap.size:=(Array.getElem?_eq_some_iff.1 hm9).1
 have c9 : w13.cell? ⟨w9.heap.size,4,none⟩ = some (.int .i64 3):=cell_of_row _ _ _ _ _ _ hm9
 have hl12 : w12.heap.size < w13.heap.size:=(Array.getElem?_eq_some_iff.1 hm12).1
 have HM:=hid hm12
 clear hF2a hF2b hL hKm hKx hTg hm9 hm12 S11 S12 HFE HX HF HF1 HX1 HFF HSM
 have hfd0:=rfield_t0
 have hfd1:=rfield_t1
 go_wp2_with (first
  | (go_at_call 20;(with_reducible refine HLK.out.mono ?_);rintro e14 w14 ⟨rfl,hb14⟩;have HB14:=hid hb14;have c12 : w14.cell? ⟨w12.heap.size,1,none⟩ = some (.bool true):=(hb14.cell (p:=⟨w12.heap.size,1,none⟩) hl12).trans (cell_of_row _ _ _ _ _ _ HM.out);have hl14:=Nat.lt_of_lt_of_le hl12 hb14.size)
  | (go_at_call 19;(with_reducible refine (HKM.out _ HB14.out).mono ?_);rintro e15 w15 ⟨rfl,rfl⟩)
  | (go_at_call 19;(with_reducible refine (HKX.out _ HB14.out).mono ?_);rintro e16 w16 ⟨rfl,rfl⟩)
  | (go_at_call 21;(with_reducible refine (HTG.out _ HB14.out).mono ?_);rintro e17 w17 ⟨rfl,hb17⟩;have HB17':=hid (below_ch HB14.out hb17)))
 go_ret
 exact ⟨rfl,below_tr HB18.out (HB17'.out.mono HB18.out.size)⟩
end Go.Proofs.Ytbmmjomcjlpnlaa
namespace Go.Proofs.Ytbmmjomcjlpnlaa
open Go Go.RowKit
theorem kindN_none {x : Option Th} (h : kindN x = 0) : x = none:=by
 rcases x with _ | x
 · rfl
 · cases x <;> simp [kindN] at h
theorem kindN_some {x : Option Th} (h : ¬ kindN x = 0) : x.isSome = true:=by
 rcases x with _ | x
 · exact absurd rfl h
 · rfl
section
variable {B : Nat} {W : World} {s n : Nat} {F : TF} {L : List ByteArray} {bl : List Nat} {m lv bv : Value}
theorem let_no (h : Hid (Scp B W s n F L bl m lv bv)) (hbl : bl ≠ []) (t : ByteArray) (ht : t.size ≤ 140737488355328) (hF : t.toList.isEmpty = true ∨ ¬ kindN (F t.data.toList) = 0) (tr sc : Bool) :
 Calls Try.prog 13 #[.pointer (some ⟨s,0,none⟩),.string t,.agg #[.bool tr,.bool sc]] W fun e w' => e = .returned (.int .i64 12) ∧ Below W.heap.size W w':=by
 by_cases he : t.data.toList = []
 · have e : t = ⟨#[]⟩:=by
    obtain ⟨⟨l⟩⟩:=t
    simp only at he
    subst he
    rfl
   subst e
   exact let_no1 h hbl tr sc
 · rcases hF with hF | hF
   · exact absurd (by rw [ByteArray.toList_eq] at hF;simpa using hF) he
   · exact let_no2 h hbl t ht he tr sc (kindN_some hF)
end
end Go.Proofs.Ytbmmjomcjlpnlaa
namespace Go.Proofs.Ytbmmjomcjlpnlaa
open Go Go.RowKit
theorem nil_thing (t : ByteArray) (W : World) : Calls Try.prog 32 #[.pointer none,.string t] W fun e w' => e = .returned .nilIface ∧ w' = W:=by
 have heq:=eql_ptr_none W
 go_enter Try.func32,Try.ntmps32
 go_wp2
 go_ret
 exact ⟨rfl,rfl⟩
theorem nil_enter (W : World) : Calls Try.prog 10 #[.pointer none] W fun e w' => e = .returned (.tuple #[]) ∧ w' = W:=by
 have heq:=eql_ptr_none W
 go_enter Try.func10,Try.ntmps10
 go_wp2
 refine bodyPost_ret (results_none rfl _ _ _) rfl ?_
 exact ⟨rfl,rfl⟩
theorem nil_leave (W : World) : Calls Try.prog 11 #[.pointer none] W fun e w' => e = .returned (.tuple #[]) ∧ w' = W:=by
 have heq:=eql_ptr_none W
 go_enter Try.func11,Try.ntmps11
 go_wp2
 refine bodyPost_ret (results_none rfl _ _ _) rfl ?_
 exact ⟨rfl,rfl⟩
theorem nil_locals (W : World) : Calls Try.prog 16 #[.pointer none] W fun e w' => e = .returned (.slice none 0 0) ∧ w' = W:=by
 have heq:=eql_ptr_none W
 go_enter Try.func16,Try.ntmps16
 go_wp2
 go_ret
 exact ⟨rfl,rfl⟩
theorem nil_kind (t : ByteArray) (W : World) : Calls Try.prog 19 #[.pointer none,.string t] W fun e w' => e = .returned (.int .i64 0) ∧ w' = W:=by
 have HT:=hid (nil_thing t W)
 have a1:=ta_gl none W
 have a2:=ta_lk none W
 have a3:=ta_fn none W
 have a4:=ta_lo none W
 simp only [Option.map_none,Option.getD_none] at a1 a2 a3 a4
 go_enter Try.func19,Try.ntmps19
 go_wp2_with (go_at_call 32;refine HT.out.mono ?_;rintro e1 w1 ⟨rfl,rfl⟩)
 go_ret
 exact ⟨rfl,rfl⟩
theorem nil_thing_x (t : ByteArray) : Hid (∀ X,Calls Try.prog 32 #[.pointer none,.string t] X fun e w' => e = .returned .nilIface ∧ w' = X):=hid fun X => nil_thing t X
theorem nil_lock (t : ByteArray) (W : World) : Calls Try.prog 20 #[.pointer none,.string t] W fun e w' => e = .returned (.int .i64 (-1)) ∧ Below W.heap.size W w':=by
 have HT:=nil_thing_x t
 have a2:=ta_lk none W
 simp only [Option.map_none,Option.getD_none,zLk] at a2
 go_enter Try.func20,Try.ntmps20
 go_wp2_with (go_at_call 32;refine (HT.out _).mono ?_;rintro e1 w1 ⟨rfl,rfl⟩)
 go_ret
 exact ⟨rfl,(Below.refl _ _).alloc (Nat.le_refl _) _⟩
theorem nil_global (t : ByteArray) (W : World) : Calls Try.prog 17 #[.pointer none,.string t] W fun e w' => e = .returned (.tuple #[.agg #[.int .i64 0,.string ⟨#[]⟩,.bool false,.bool false,.int .i64 0,.string ⟨#[]⟩],.int .i64 (-1)]) ∧ Below W.heap.size W w':=by
 have HT:=nil_thing_x t
 have hA:=below_of_alloc W (.cells #[.int .i64 0,.string ⟨#[]⟩,.bool false,.bool false,.int .i64 0,.string ⟨#[]⟩] 56)
 have hY:=GBlk.new (X:=W) (n:=W.heap.size) (a:=0) (nm:=⟨#[]⟩) (tr:=false) (sc:=false) (ln:=0) (yy:=⟨#[]⟩) rfl
 obtain ⟨W1,hW1⟩ : ∃ X,W.alloc (.cells #[.int .i64 0,.string ⟨#[]⟩,.bool false,.bool false,.int .i64 0,.string ⟨#[]⟩] 56) = X:=⟨_,rfl⟩
 rw [hW1] at hA hY
 have a1:=ta_gl none W1
 have HA:=hid hA
 have HY:=hid hY
 clear hA hY
 simp only [Option.map_none,Option.getD_none,zGl] at a1
 go_enter Try.func17,Try.ntmps17
 go_upto_region 1 with (fail)
 obtain ⟨yl,⟨y0,y1,y2,y3,y4,y5⟩,yf0,yf1,yf2,yf3,yf4,yf5⟩:=HY.out.facts
 clear hW1
 go_wp2_with (go_at_call 32;refine (HT.out _).mono ?_;rintro e1 w1 ⟨rfl,rfl⟩)
 refine bodyPost_ret (results_gn rfl _ rfl rfl (HY.out.all.alloc _)) rfl ⟨rfl,?_⟩
 exact ((((((HA.out.setCell (by simp) _).setCell (by simp) _).setCell (by simp) _).setCell (by simp) _).setCell (by simp) _).setCell (by simp) _).alloc (by simp;have:=HA.out.size;omega) _
theorem nil_func (t : ByteArray) (W : World) : Calls Try.prog 18 #[.pointer none,.string t] W fun e w' => e = .returned (.tuple #[.agg #[.int .i64 0,.string ⟨#[]⟩,.slice none 0 0,.bool false,.bool false,.slice none 0 0,.int .i64 0,.int .i64 0,.int .i64 0,.string ⟨#[]⟩,.slice none 0 0,.int .i64 0],.int .i64 (-1)]) ∧ Below W.heap.size W w':=by
 have HT:=nil_thing_x t
 have hA:=below_of_alloc W (.cells #[.int .i64 0,.string ⟨#[]⟩,.slice none 0 0,.bool false,.bool false,.slice none 0 0,.int .i64 0,.int .i64 0,.int .i64 0,.string ⟨#[]⟩,.slice none 0 0,.int .i64 0] 65)
 have hY:=FBlk.new (X:=W) (b:=W.heap.size) (a:=0) (nm:=⟨#[]⟩) (pv:=.slice none 0 0) (tr:=false) (sc:=false) (bv:=.slice none 0 0) (k:=0) (q:=0) (n:=0) (s:=⟨#[]⟩) (kv:=.slice none 0 0) (xa:=0) rfl
 obtain ⟨W1,hW1⟩ : ∃ X,W.alloc (.cells #[.int .i64 0,.string ⟨#[]⟩,.slice none 0 0,.bool false,.bool false,.slice none 0 0,.int .i64 0,.int .i64 0,.int .i64 0,.string ⟨#[]⟩,.slice none 0 0,.int .i64 0] 65) = X:=⟨_,rfl⟩
 rw [hW1] at hA hY
 have a1:=ta_fn none W1
 have HA:=hid hA
 have HY:=hid hY
 clear hA hY
 simp only [Option.map_none,Option.getD_none,zFn] at a1
 go_enter Try.func18,Try.ntmps18
 go_upto_region 1 with (fail)
 obtain ⟨yl,⟨y0,y1,y2,y3,y4,y5,y6,y7,y8,y9,y10,y11⟩,⟨yf0,yf1,yf2,yf3,yf4,yf5,yf6,yf7,yf8,yf9,yf10,yf11⟩⟩:=HY.out.facts
 clear hW1
 go_wp2_with (go_at_call 32;refine (HT.out _).mono ?_;rintro e1 w1 ⟨rfl,rfl⟩)
 refine bodyPost_ret (results_fnn rfl _ rfl rfl (HY.out.all.alloc _)) rfl ⟨rfl,?_⟩
 exact ((((((((((((HA.out.setCell (by simp) _).setCell (by simp) _).setCell (by simp) _).setCell (by simp) _).setCell (by simp) _).setCell (by simp) _).setCell (by simp) _).setCell (by simp) _).setCell (by simp) _).setCell (by simp) _).setCell (by simp) _).setCell (by simp) _).alloc (by simp;have:=HA.out.size;omega) _
theorem nil_let (t : ByteArray) (tr sc : Bool) (W : World) : Calls Try.prog 13 #[.pointer none,.string t,.agg #[.bool tr,.bool sc]] W fun e w' => e = .returned (.int .i64 12) ∧ Below W.heap.size W w':=by
 have HA:=hid (below_of_alloc W (.cells #[.bool tr,.bool sc] 42))
 obtain ⟨W1,hW1⟩ : ∃ X,W.alloc (.cells #[.bool tr,.bool sc] 42) = X:=⟨_,rfl⟩
 rw [hW1] at HA
 have heq:=eql_ptr_none W1
 go_enter Try.func13,Try.ntmps13
 go_wp2
 go_ret
 exact ⟨rfl,HA.out⟩
end Go.Proofs.Ytbmmjomcjlpnlaa
namespace Go.Proofs.Ytbmmjomcjlpnlaa
open Go Go.RowKit
theorem r4_parse7 (s : ByteArray) (w : World) :
 Calls Try.prog 7 #[.string s] w fun e w' => Below w.heap.size w w' ∧ ∃ z0 n0 c0 z1 n1 c1 z2 n2 c2 z3 n3 c3 c a,e = .returned (.tuple #[.agg #[.slice z0 n0 c0,.slice z1 n1 c1,.slice z2 n2 c2,.slice z3 n3 c3],.int .i64 c,.int .i64 a]) ∧
  ∃ p rf rt,ShP p ∧ PRows w.heap.size w' p (.slice z0 n0 c0) (.slice z1 n1 c1) (.slice z2 n2 c2) (.slice z3 n3 c3) rf rt :=
 (r4_parse_any s w).mono fun e w' ⟨hb,v0,v1,v2,v3,c,a,he,h⟩ => by
  rcases h with ⟨hc,rfl,rfl,rfl,rfl⟩ | ⟨hc,hs,ws,p,t,rf,rt,hS,hp,R⟩
  · exact ⟨hb,_,_,_,_,_,_,_,_,_,_,_,_,c,a,he,⟨[],[],[],[]⟩,[],[],⟨⟨by decide,by simp⟩,⟨by decide,by simp⟩,⟨by decide,by simp⟩⟩,PRows.nil _ _⟩
  · have hG:=GX.par_good hS hs hp
    have hN:=par_nice hS hs hp
    obtain ⟨z0,c0,rfl⟩:=own_form R.g
    obtain ⟨z1,c1,rfl⟩:=own_form R.l
    obtain ⟨z2,c2,rfl⟩:=own_form R.f
    obtain ⟨z3,c3,rfl⟩:=own_form R.t
    exact ⟨hb,_,_,_,_,_,_,_,_,_,_,_,_,c,a,he,p,rf,rt,shp_of hG hN,R⟩
structure LocOk (F : TF) (L : List ByteArray) : Prop where
 kd : ∀ x ∈ L,kindN (F x.data.toList) = 4
 sz : ∀ x ∈ L,x.size ≤ 140737488355328
 nd : (L.map fun x => x.data.toList).Nodup
theorem LocOk.nil (F : TF) : LocOk F []:=⟨by simp,by simp,by simp⟩
theorem LocOk.snoc {F : TF} {L : List ByteArray} (h : LocOk F L) {t : ByteArray} (ht : t.size ≤ 140737488355328) (hF : F t.data.toList = none) (tr sc : Bool) : LocOk (F.upd t.data.toList (.lo tr sc)) (L ++ [t]):=by
 have hne : ∀ x ∈ L,x.data.toList ≠ t.data.toList:=fun x hx e => by
  have:=h.kd x hx
  rw [e,hF] at this
  cases this
 refine ⟨fun x hx => ?_,fun x hx => ?_,?_⟩
 · rcases List.mem_append.1 hx with hx | hx
   · unfold TF.upd
     rw [if_neg (hne x hx)]
     exact h.kd x hx
   · obtain rfl : x = t:=by simpa using hx
     unfold TF.upd
     rw [if_pos rfl]
     rfl
 · rcases List.mem_append.1 hx with hx | hx
   · exact h.sz x hx
   · obtain rfl : x = t:=by simpa using hx
     exact ht
 · rw [List.map_append,List.nodup_append]
   refine ⟨h.nd,by simp,?_⟩
   intro a ha b hb e
   obtain ⟨x,hx,rfl⟩:=List.mem_map.1 ha
   simp only [List.map_cons,List.map_nil,List.mem_singleton] at hb
   exact hne x hx (e.trans hb)
theorem dels_ne {k : List UInt8} : ∀ (M : List ByteArray) (F : TF),(∀ x ∈ M,x.data.toList ≠ k) → (F.dels M) k = F k
 | [],_,_ => rfl
 | x :: r,F,h => by
  show ((F.del x.data.toList).dels r) k = F k
  rw [dels_ne r _ (fun y hy => h y (List.mem_cons_of_mem _ hy))]
  unfold TF.del
  rw [if_neg (fun e => h x List.mem_cons_self e.symm)]
theorem LocOk.dels {F : TF} {A M : List ByteArray} (h : LocOk F (A ++ M)) : LocOk (F.dels M) A:=by
 have hn:=h.nd
 rw [List.map_append,List.nodup_append] at hn
 refine ⟨fun x hx => ?_,fun x hx => h.sz x (List.mem_append_left _ hx),hn.1⟩
 rw [dels_ne M F (fun y hy e => hn.2.2 _ (List.mem_map.2 ⟨x,hx,rfl⟩) _ (List.mem_map.2 ⟨y,hy,rfl⟩) e.symm)]
 exact h.kd x (List.mem_append_left _ hx)
section
variable {B : Nat} {W : World} {s n : Nat} {F : TF} {L : List ByteArray} {bl : List Nat} {m lv bv : Value}
def LetP (B : Nat) (W w' : World) (s n : Nat) (F : TF) (L : List ByteArray) (bl : List Nat) (m lv bv : Value) (t : ByteArray) (tr sc : Bool) (r : Int) : Prop :=
 ∃ n' F' L' m' lv',Scp B w' s n' F' L' bl m' lv' bv ∧ Below B W w' ∧ Apx W w' s m lv bv m' lv' bv ∧ n' ≤ n + 1 ∧
  ((r = 12 ∧ F' = F ∧ L' = L ∧ (bl = [] ∨ t.data.toList = [] ∨ ¬ kindN (F t.data.toList) = 0)) ∨ (r = 0 ∧ t.data.toList ≠ [] ∧ F t.data.toList = none ∧ F' = F.upd t.data.toList (.lo tr sc) ∧ L' = L ++ [t]))
theorem let_all (h : Hid (Scp B W s n F L bl m lv bv)) (t : ByteArray) (ht : t.size ≤ 140737488355328) (tr sc : Bool) (hn : n < 1000000) (hL : L.length ≤ 1000000) :
 Calls Try.prog 13 #[.pointer (some ⟨s,0,none⟩),.string t,.agg #[.bool tr,.bool sc]] W fun e w' => ∃ r,e = .returned (.int .i64 r) ∧ LetP B W w' s n F L bl m lv bv t tr sc r:=by
 have hBW : B ≤ W.heap.size:=Nat.le_of_lt (Nat.lt_of_le_of_lt h.out.hs h.out.facts.1)
 have no : (bl = [] ∨ t.data.toList = [] ∨ ¬ kindN (F t.data.toList) = 0) → ∀ (e : Ending) (w' : World),e = .returned (.int .i64 12) ∧ Below W.heap.size W w' → ∃ r,e = .returned (.int .i64 r) ∧ LetP B W w' s n F L bl m lv bv t tr sc r:=fun hq e w' ⟨he,hb⟩ =>
  ⟨12,he,n,F,L,m,lv,h.out.stay hb,hb.mono hBW,Apx.of hb s m lv bv,Nat.le_succ n,.inl ⟨rfl,rfl,rfl,hq⟩⟩
 by_cases hb0 : bl = []
 · subst hb0
   exact (let_no0 h t tr sc).mono (no (.inl rfl))
 by_cases he : t.data.toList = []
 · exact (let_no h hb0 t ht (.inl (by rw [ByteArray.toList_eq,he];rfl)) tr sc).mono (no (.inr (.inl he)))
 by_cases hk : kindN (F t.data.toList) = 0
 · exact (let_yes h hb0 t ht he tr sc (kindN_none hk) hn hL).mono fun e w' ⟨h1,b',lv',h2,h3,_,h4⟩ => ⟨0,h1,n + 1,_,_,_,_,h2,h3,h4,Nat.le_refl _,.inr ⟨rfl,he,kindN_none hk,rfl,rfl⟩⟩
 · exact (let_no h hb0 t ht (.inr hk) tr sc).mono (no (.inr (.inr hk)))
theorem leave_eq {b0 : List Nat} {l g : Nat} (h : Hid (Scp B W s n F L (b0 ++ [l]) m (.slice (some ⟨g,0,none⟩) L.length l) bv)) (hl : L.length = l) (hb : b0.length ≤ 1000000) :
 Calls Try.prog 11 #[.pointer (some ⟨s,0,none⟩)] W fun e w' => e = .returned (.tuple #[]) ∧ ∃ lv' bv',Scp B w' s n F L b0 m lv' bv' ∧ Below B W w' ∧ Apx W w' s m (.slice (some ⟨g,0,none⟩) L.length l) bv m lv' bv':=by
 obtain ⟨mm,p',c',q,d,rfl,e1',rfl⟩:=h.out.forms
 cases e1'
 have heq:=eql_ptr_some ⟨s,0,none⟩ W
 obtain ⟨k,hk⟩ : ∃ k,b0.length = k:=⟨_,rfl⟩
 have hrow:=h.out.bk
 have hfa:=h.out.facts
 rw [List.length_append,List.length_singleton,hk] at hrow hfa
 rw [hl] at hfa
 obtain ⟨gb,rfl,hgb,hcb,hkd,hrow0⟩:=row_last hrow hk
 obtain ⟨sl,⟨c0,c1,c2⟩,f0,f1,f2⟩:=hfa
 have hk1 : ¬ ((k : Int) + 1) = 0:=by omega
 have hkb : (((k : Int) + 1) == 0) = false:=by simpa using hk1
 have HK : Hid (b0.length = k ∧ L.length = l):=hid ⟨hk,hl⟩
 have HS : Hid (Scp B W s n F L (b0 ++ [l]) (.map mm) (.slice (some ⟨g,0,none⟩) l l) (.slice (some ⟨gb,0,none⟩) (k + 1) d)):=hid (by (have:=h.out;rw [hl,List.length_append,List.length_singleton,hk] at this;exact this))
 have HLO : Hid (W.ownsRow B 9 1 (.slice (some ⟨g,0,none⟩) l l) l (L.map Value.string)):=hid (by (have:=HS.out.lo;rwa [hl] at this))
 obtain ⟨hgl,hlc,hcm,_⟩:=own_str HLO.out
 have HR3:=hid hrow0
 rw [hk] at hb
 rw [hl]
 clear hrow hrow0 hk hl h
 have e1 : (k : Int) + 1 - 1 = (k : Int):=by omega
 go_enter Try.func11,Try.ntmps11
 go_upto_region 4 with (fail)
 go_loopw [36] (fun iv wr => iv = .int .i64 0 ∧ wr = W) (fun _ _ => 0)
 case atStart => exact ⟨rfl,rfl⟩
 case round =>
  obtain ⟨rfl,rfl⟩:=hrel
  go_upto_region 8 with (fail)
  have hsg : s ≠ g:=fun e => by
   have h1:=own_ne HLO.out HS.out.blk (by decide)
   exact h1 (by rw [e];rfl)
  have HSG:=hid hsg
  go_region_law (first
   | (go_simp;go_at_call 31;(with_reducible refine (del_rows (B:=B) (own_below HLO.out ((Below.refl wr.heap.size wr).drew)) HK.out.2 (Nat.le_refl _)).mono ?_);rintro e2 w3 ⟨rfl,ho3,hf3⟩;have HO3:=hid ho3;have HF3 : Hid (Fr2 g g wr w3):=hid hf3;have hs3 : w3.heap[s]? = some (.cells #[.map mm,.slice (some ⟨g,0,none⟩) l l,.slice (some ⟨gb,0,none⟩) (k + 1) d] 89 (0,0)):=(HF3.out.2 s sl HSG.out HSG.out).trans HS.out.blk;have HS3:=hid hs3;have c13 : w3.cell? ⟨s,1,none⟩ = some (.slice (some ⟨g,0,none⟩) l l):=cell_of_row _ _ _ _ _ _ hs3;have c23 : w3.cell? ⟨s,2,none⟩ = some (.slice (some ⟨gb,0,none⟩) (k + 1) d):=cell_of_row _ _ _ _ _ _ hs3;have f13:=frozen_of_row w3 s 1 _ _ hs3;have f23:=frozen_of_row w3 s 2 _ _ hs3;have sl3 : s < w3.heap.size:=(Array.getElem?_eq_some_iff.1 hs3).1;clear ho3 hf3 hs3))
  all_goals go_wp2
  all_goals go_end0
  all_goals
   have hsX:=heap_setCell_same (w3.setCell ⟨s,1,none⟩ (.slice (some ⟨g,0,none⟩) l l)) s 2 _ _ (.slice (some ⟨gb,0,none⟩) k d) (heap_setCell_same w3 s 1 _ _ (.slice (some ⟨g,0,none⟩) l l) HS3.out)
   have hfr : Fr2 s (rowB (.slice (some ⟨g,0,none⟩) l l) s) wr ((w3.setCell ⟨s,1,none⟩ (.slice (some ⟨g,0,none⟩) l l)).setCell ⟨s,2,none⟩ (.slice (some ⟨gb,0,none⟩) k d)):=((Fr2.wk HF3.out s).set (.inl rfl) 1 _).set (.inl rfl) 2 _
   have hlo:=own_setN (own_setN HO3.out (own_ne HO3.out HS3.out (by decide)) 1 (.slice (some ⟨g,0,none⟩) l l)) (own_ne HO3.out HS3.out (by decide)) 2 (.slice (some ⟨gb,0,none⟩) k d)
   have hbk:=own_turn HS.out HLO.out HR3.out (by decide) (by decide) hfr
   have et : L.take l = L:=List.take_of_length_le (by rw [HK.out.2];exact Nat.le_refl _)
   rw [et] at hlo
   obtain ⟨h1,h2⟩:=HS.out.turn (L':=L) (bl':=b0) HLO.out (.inl rfl) hfr hsX (by rw [HK.out.2];exact hlo) (by rw [HK.out.1];exact hbk)
   exact ⟨rfl,_,_,h1,h2,fun g' hg' ha' => ⟨hfr.2 g' hg' ha'.1 (rowB_ne ha'.1 ha'.2.2.1),ha'.1,ha'.2.1,ha'.2.2.1,ha'.2.2.2⟩⟩
theorem leave_any {b0 : List Nat} {A M : List ByteArray} (h : Hid (Scp B W s n F (A ++ M) (b0 ++ [A.length]) m lv bv)) (hk : LocOk F (A ++ M)) (hb : b0.length ≤ 1000000) (hL : (A ++ M).length ≤ 1000000) :
 Calls Try.prog 11 #[.pointer (some ⟨s,0,none⟩)] W fun e w' => e = .returned (.tuple #[]) ∧ ∃ lv' bv',Scp B w' s n (F.dels M) A b0 m lv' bv' ∧ Below B W w' ∧ Apx W w' s m lv bv m lv' bv':=by
 by_cases h0 : (A ++ M).length = 0
 · have hA : A = []:=by
    cases A with
    | nil => rfl
    | cons x r => simp at h0
   have hM : M = []:=by
    cases M with
    | nil => rfl
    | cons x r => simp at h0
   subst hA
   subst hM
   exact leave_nil h hb
 obtain ⟨g,c,elv,hg,_⟩:=row_some h.out.lo (show 0 < (A ++ M).length by omega)
 have hlc : (A ++ M).length ≤ c:=by
  have ho:=h.out.lo
  rw [elv] at ho
  exact (own_str ho).2.1
 have hmm : ∃ b,m = .map (some b):=by
  rcases h.out.mp with ⟨_,hn⟩ | ⟨b,hb,_⟩
  · exfalso
    cases hAM : A ++ M with
    | nil => exact h0 (by rw [hAM];rfl)
    | cons x r =>
     have:=hk.kd x (by rw [hAM];exact List.mem_cons_self)
     rw [hn] at this
     cases this
  · exact ⟨b,hb⟩
 obtain ⟨b,hmb⟩:=hmm
 have hlen : (A ++ M).length = A.length + M.length:=List.length_append
 by_cases hac : A.length < c
 · subst elv
   subst hmb
   have h1:=leave_some (a:=A.length) h hb (by omega) hL hk.sz hac
   rw [List.drop_left,List.take_left] at h1
   exact h1.mono fun e w' ⟨he,bv',h2,h3,_,h4⟩ => ⟨he,_,bv',h2,h3,h4⟩
 · have hM : M = []:=List.eq_nil_of_length_eq_zero (by omega)
   subst hM
   have hc : c = A.length:=by
    rw [hlen] at hlc
    simp only [List.length_nil] at hlc
    omega
   subst hc
   subst elv
   have hh : Hid (Scp B W s n F A (b0 ++ [A.length]) m (.slice (some ⟨g,0,none⟩) A.length A.length) bv):=hid (by
    have:=h.out
    rw [List.append_nil] at this
    exact this)
   have h1:=leave_eq hh rfl hb
   exact h1.mono fun e w' ⟨he,lv',bv',h2,h3,h4⟩ => ⟨he,lv',bv',h2,h3,by rw [List.append_nil];exact h4⟩
theorem let_sum (h : Hid (Scp B W s n F L bl m lv bv)) (hk : LocOk F L) (t : ByteArray) (ht : t.size ≤ 140737488355328) (tr sc : Bool) (hn : n < 1000000) (hL : L.length ≤ 1000000) :
 Calls Try.prog 13 #[.pointer (some ⟨s,0,none⟩),.string t,.agg #[.bool tr,.bool sc]] W fun e w' => ∃ r,e = .returned (.int .i64 r) ∧ ∃ n' F' L' m' lv',Scp B w' s n' F' L' bl m' lv' bv ∧ Below B W w' ∧ Apx W w' s m lv bv m' lv' bv ∧ n' ≤ n + 1 ∧ LocOk F' L' ∧ L'.length ≤ L.length + 1 ∧
  ((r = 12 ∧ F' = F ∧ L' = L ∧ (bl = [] ∨ t.data.toList = [] ∨ ¬ kindN (F t.data.toList) = 0)) ∨ (r = 0 ∧ t.data.toList ≠ [] ∧ F t.data.toList = none ∧ F' = F.upd t.data.toList (.lo tr sc) ∧ L' = L ++ [t])) :=
 (let_all h t ht tr sc hn hL).mono fun e w' ⟨r,he,n',F',L',m',lv',h1,h2,h3,h4,h5⟩ => by
  refine ⟨r,he,n',F',L',m',lv',h1,h2,h3,h4,?_,?_,h5⟩
  · rcases h5 with ⟨_,rfl,rfl,_⟩ | ⟨_,_,h6,rfl,rfl⟩
    · exact hk
    · exact hk.snoc ht h6 tr sc
  · rcases h5 with ⟨_,rfl,rfl,_⟩ | ⟨_,_,h6,rfl,rfl⟩
    · exact Nat.le_succ _
    · rw [List.length_append,List.length_singleton]
      exact Nat.le_refl _
end
end Go.Proofs.Ytbmmjomcjlpnlaa
namespace Go.Proofs.Ytbmmjomcjlpnlaa
open Go Go.RowKit
def NewP (W w' : World) (p : Pg) (sp : Option Addr) (f : Int) : Prop:=(f = 12 ∧ sp = none) ∨ (f = 0 ∧ ∃ s,sp = some ⟨s,0,none⟩ ∧ W.heap.size ≤ s ∧ NewOk W w' p s)
theorem new_any {B : Nat} {W : World} {p : Pg} {v0 v1 v2 v3 : Value} {rf : List (Fn × FV)} {rt : List (List Stm × Value)} (R : Hid (PRows B W p v0 v1 v2 v3 rf rt)) (hp : ShP p) :
 Calls Try.prog 8 #[.agg #[v0,v1,v2,v3]] W fun e w' => Below W.heap.size W w' ∧ ∃ sp f a,e = .returned (.tuple #[.pointer sp,.int .i64 f,.int .i64 a]) ∧ NewP W w' p sp f:=by
 by_cases htw : (twiceF (thingsL p)).2 = true
 · exact (new_bad R hp htw).mono fun e w' ⟨h1,h2⟩ => ⟨h1,none,12,_,h2,.inl ⟨rfl,rfl⟩⟩
 · exact (new_good R hp (by simpa using htw)).mono fun e w' ⟨h1,s,h2,h3,h4⟩ => ⟨h1,_,0,0,h2,.inr ⟨rfl,s,rfl,h3,h4⟩⟩
def WasAt (X : World) (pw : Option Addr) (L : List ByteArray) (s : Nat) (m lv bv : Value) : Prop:=L ≠ [] → ∃ g,pw = some ⟨g,0,none⟩ ∧ g < X.heap.size ∧ Apt g s m lv bv ∧ ∀ (j : Nat) x,L[j]? = some x → X.cell? ⟨g,j,none⟩ = some (.string x)
theorem WasAt.step {X Y : World} {pw : Option Addr} {L : List ByteArray} {s : Nat} {m lv bv m' lv' bv' : Value} (h : WasAt X pw L s m lv bv) (k : Apx X Y s m lv bv m' lv' bv') (hs : X.heap.size ≤ Y.heap.size) : WasAt Y pw L s m' lv' bv':=fun hL => by
 obtain ⟨g,h1,h2,h3,h4⟩:=h hL
 obtain ⟨k1,k2⟩:=k g h2 h3
 exact ⟨g,h1,Nat.lt_of_lt_of_le h2 hs,k2,fun j x hx => (World.cell?_of_block (a:=⟨g,j,none⟩) k1).trans (h4 j x hx)⟩
theorem Scp.apt {B : Nat} {W : World} {s n : Nat} {F : TF} {L : List ByteArray} {bl : List Nat} {m lv bv : Value} (h : Scp B W s n F L bl m lv bv) {g : Nat} (hg : W.heap.size ≤ g) : Apt g s m lv bv:=by
 refine ⟨fun e => ?_,fun e => ?_,fun e => ?_,fun e => ?_⟩
 · have:=h.facts.1
   omega
 · rcases h.mp with ⟨h1,_⟩ | ⟨b,h1,_,hk⟩
   · rw [h1] at e
     cases e
   · rw [h1] at e
     cases e
     have:=hk.lt
     omega
 · have:=(h.lo.lt _ e).2
   omega
 · have:=(h.bk.lt _ e).2
   omega
theorem leave_law (a0 : ByteArray) (p1 p2 : Option Addr) (n1 c1 n2 c2 : Nat) (w : World) (hst : StepsAt w p1 n1) (hmo : StrsAt w p2 n2) :
 Calls Try.prog 4 #[.string a0,.slice p1 n1 c1,.slice p2 n2 c2] w fun e w' => e = .returned (.bool true) ∧ Below w.heap.size w w':=by
 go_enter Try.func4,Try.ntmps4
 go_upto_region 4 with (go_at_call 6;(with_reducible refine (awake_any _).mono ?_);rintro e1 x1 ⟨rfl,hb1⟩;have HB1:=hid hb1;clear hb1)
 by_cases hs4 : 4000 < a0.size
 · go_wp2
   go_ret
   exact ⟨rfl,HB1.out⟩
 by_cases hs1 : 40 < n1
 · go_wp2
   go_ret
   exact ⟨rfl,HB1.out⟩
 by_cases hs2 : 20 < n2
 · go_wp2
   go_ret
   exact ⟨rfl,HB1.out⟩
 go_upto_region 7 with (go_at_call 7;(with_reducible refine (r4_parse7 a0 _).mono ?_);rintro e2 x2 ⟨hb2,z0,i0,d0,z1,i1,d1,z2,i2,d2,z3,i3,d3,c,a,rfl,p,rf,rt,hsh,hR⟩;have HB2:=hid (below_ch HB1.out hb2);have HR0:=hid hR;clear hb2 hR)
 refine name_world ?_
 intro W1 hW1
 have HB3 : Hid (Below w.heap.size w W1):=hid (by (rw [hW1];exact below_ch HB2.out (below_of_alloc _ _)))
 have HB3' : Hid (w.heap.size ≤ W1.heap.size):=hid HB3.out.size
 have HR : Hid (PRows x1.heap.size W1 p (.slice z0 i0 d0) (.slice z1 i1 d1) (.slice z2 i2 d2) (.slice z3 i3 d3) rf rt):=hid (by (rw [hW1];exact HR0.out.stay (below_of_alloc _ _)))
 have hm1 : W1.heap[x2.heap.size]? = some (.cells #[.slice z0 i0 d0,.slice z1 i1 d1,.slice z2 i2 d2,.slice z3 i3 d3] 29 (0,0)):=by (rw [hW1];exact heap_alloc_new _ _)
 have hml : x2.heap.size < W1.heap.size:=(Array.getElem?_eq_some_iff.1 hm1).1
 have m0 : W1.cell? ⟨x2.heap.size,0,none⟩ = some (.slice z0 i0 d0):=cell_of_row _ _ _ _ _ _ hm1
 have m1 : W1.cell? ⟨x2.heap.size,1,none⟩ = some (.slice z1 i1 d1):=cell_of_row _ _ _ _ _ _ hm1
 have m2 : W1.cell? ⟨x2.heap.size,2,none⟩ = some (.slice z2 i2 d2):=cell_of_row _ _ _ _ _ _ hm1
 have m3 : W1.cell? ⟨x2.heap.size,3,none⟩ = some (.slice z3 i3 d3):=cell_of_row _ _ _ _ _ _ hm1
 clear hW1 hm1 HR0 HB1 HB2
 go_upto_region 9 with (go_at_call 8;(with_reducible refine (new_any HR hsh).mono ?_);rintro e3 x3 ⟨hb3,sp,f,a',rfl,hN⟩;have HB4:=hid (below_ch HB3.out hb3);have HN:=hid hN;clear hb3 hN)
 clear m0 m1 m2 m3 hml HR
 go_upto_region 11 with (first
  | (go_at_call 10;(with_reducible refine (nil_enter _).mono ?_);rintro e4 x4 ⟨rfl,rfl⟩)
  | (go_at_call 11;(with_reducible refine (nil_leave _).mono ?_);rintro e5 x5 ⟨rfl,rfl⟩))
 go_upto_region 12 with (go_at_call 17;(with_reducible refine (nil_global _ _).mono ?_);rintro e6 x6 ⟨rfl,hb6⟩;have HB5:=hid (below_ch HB4.out hb6);have HQ5:=hid hb6;clear hb6)
 refine name_world ?_
 intro W2 hW2
 have HB6 : Hid (Below w.heap.size w W2):=hid (by (rw [hW2];exact below_ch HB5.out (below_of_alloc _ _)))
 have HQ6 : Hid (Below x5.heap.size x5 W2):=hid (by (rw [hW2];exact below_ch HQ5.out (below_of_alloc _ _)))
 clear hW2 HB5 HQ5
 go_upto_region 13 with (go_at_call 18;(with_reducible refine (nil_func _ _).mono ?_);rintro e7 x7 ⟨rfl,hb7⟩;have HB7:=hid (below_ch HB6.out hb7);have HQ7:=hid (below_ch HQ6.out hb7);clear hb7)
 refine name_world ?_
 intro W3 hW3
 have HB8 : Hid (Below w.heap.size w W3):=hid (by (rw [hW3];exact below_ch HB7.out (below_of_alloc _ _)))
 have HQ8 : Hid (Below x5.heap.size x5 W3):=hid (by (rw [hW3];exact below_ch HQ7.out (below_of_alloc _ _)))
 clear hW3 HB7 HQ7 HB6 HQ6
 go_upto_region 15 with (first
  | (go_at_call 19;(with_reducible refine (nil_kind _ _).mono ?_);rintro e8 x8 ⟨rfl,rfl⟩)
  | (go_at_call 13;(with_reducible refine (nil_let _ _ _ _).mono ?_);rintro e9 x9 ⟨rfl,hb9⟩;have HB9:=hid (below_ch HB8.out hb9);have HQ9:=hid (below_ch HQ8.out hb9);clear hb9)
  | (go_at_call 20;(with_reducible refine (nil_lock _ _).mono ?_);rintro e10 x10 ⟨rfl,hb10⟩;have HB10:=hid (below_ch HB9.out hb10);have HQ10:=hid (below_ch HQ9.out hb10);clear hb10)
  | (go_at_call 16;(with_reducible refine (nil_locals _).mono ?_);rintro e11 x11 ⟨rfl,rfl⟩))
 by_cases hc : ¬ c = 0
 · have hcb : (c != 0) = true:=by simpa using hc
   go_wp2
   go_ret
   exact ⟨rfl,HB10.out⟩
 have hc0:=Decidable.not_not.1 hc
 clear hc
 subst hc0
 rcases HN.out with ⟨rfl,rfl⟩ | ⟨rfl,s,rfl,hs4,F,mm,n,hn,hFe,hS⟩
 · go_wp2
   go_ret
   exact ⟨rfl,HB10.out⟩
 have S0 : Hid (Scp W1.heap.size x11 s n F [] [] mm (.slice none 0 0) (.slice none 0 0)):=hid (hS.stay HQ10.out)
 clear hFe hS HB3 HB4 HB8 HB9 HQ8 HQ9 HN
 obtain ⟨B,hB⟩ : ∃ B,W1.heap.size = B:=⟨_,rfl⟩
 have hBw : w.heap.size ≤ B:=by (rw [← hB];exact HB3'.out)
 rw [hB] at S0 hs4
 clear hB
 go_upto_region 18 with (fail)
 clear HQ10 HB3'
 go_loopw [19] (fun iv wr => ∃ (i n' : Nat) (F : TF) (L : List ByteArray) (bl : List Nat) (m lv bv : Value),iv = .int .i64 i ∧ i ≤ n1 ∧ n' ≤ 3000 + i ∧ L.length ≤ i ∧ bl.length ≤ i ∧ LocOk F L ∧ Below w.heap.size w wr ∧ Scp B wr s n' F L bl m lv bv) (fun iv _ => n1 - (intOf iv).toNat)
 case atStart => exact ⟨0,n,F,[],[],mm,_,_,rfl,Nat.zero_le _,hn,Nat.le_refl _,Nat.le_refl _,LocOk.nil F,HB10.out,S0.out⟩
 case round =>
  obtain ⟨i,n',F1,L,bl,m,lv,bv,rfl,hi,hn',hL,hbl,hok,hbr,hsr⟩:=hrel
  have HBR:=hid hbr
  have S1:=hid hsr
  have HOK:=hid hok
  clear hsr hok S0 HB10
  by_cases hin : i < n1
  · obtain ⟨b,o,k,nm,tr,sc,rfl,hbs,hnm,d0,d1,d2,d3⟩:=hst i hin
    have hlt : (i : Int) < (n1 : Int):=by omega
    have hi0 : (0 : Int) ≤ (i : Int):=Int.natCast_nonneg _
    have hbw : b < wr.heap.size:=Nat.lt_of_lt_of_le hbs hbr.size
    have e0 : wr.cell? ⟨b,o + i * 4,none⟩ = some (.int .i64 k):=(hbr.cell (p:=⟨b,o + i * 4,none⟩) hbs).trans d0
    have e1 : wr.cell? ⟨b,o + i * 4 + 1,none⟩ = some (.string nm):=(hbr.cell (p:=⟨b,o + i * 4 + 1,none⟩) hbs).trans d1
    have e2 : wr.cell? ⟨b,o + i * 4 + 2,none⟩ = some (.bool tr):=(hbr.cell (p:=⟨b,o + i * 4 + 2,none⟩) hbs).trans d2
    have e3 : wr.cell? ⟨b,o + i * 4 + 3,none⟩ = some (.bool sc):=(hbr.cell (p:=⟨b,o + i * 4 + 3,none⟩) hbs).trans d3
    clear d0 d1 d2 d3 hbr
    by_cases hk : k = 0
    · subst hk
      go_wp2_with (go_at_call 10;(with_reducible refine (enter_any S1 (by omega) (by omega)).mono ?_);rintro e12 y1 ⟨rfl,bv1,hS2,hb2,_⟩;have S2:=hid hS2;have HC:=hid (below_tr HBR.out (hb2.mono hBw));clear hS2 hb2)
      refine ⟨⟨i + 1,n',F1,L,bl ++ [L.length],m,lv,bv1,by go_num,by omega,by omega,by omega,by (rw [List.length_append,List.length_singleton];omega),HOK.out,HC.out,S2.out⟩,?_⟩
      simp [intOf]
      omega
    · have hkb : (k == 0) = false:=by simpa using hk
      go_upto_region 22 with (fail)
      have S1d:=hid (S1.out.stay ((Below.refl wr.heap.size wr).drew))
      go_region_law (go_simp;go_at_call 13;(with_reducible refine (let_sum S1d HOK.out nm hnm tr sc (by omega) (by omega)).mono ?_);rintro e13 y2 ⟨r,rfl,n3,F2,L2,m2,lv2,hS2,hb2,hx2,hn2,hok2,hl2,_⟩;have S2:=hid hS2;have HOK2:=hid hok2;have HC:=hid (below_tr HBR.out.drew (hb2.mono hBw));clear hS2 hok2 hb2 hx2)
      all_goals go_wp2
      all_goals
       refine ⟨⟨i + 1,n3,F2,L2,bl,m2,lv2,bv,by go_num,by omega,by omega,by omega,by omega,HOK2.out,HC.out,S2.out⟩,?_⟩
       simp [intOf]
       omega
  · have hie : n1 = i:=by omega
    have hlt : ¬ (i : Int) < (n1 : Int):=by omega
    go_upto_region 24 with (go_at_call 16;(with_reducible refine (locals_any S1 (by omega) HOK.out.sz).mono ?_);rintro e14 y3 ⟨hb3,pw,cw,rfl,hw⟩;have HW:=hid hw;have S2:=hid (S1.out.stay hb3);have HC2:=hid (below_ch HBR.out hb3);clear hb3 hw)
    go_upto_region 25 with (go_at_call 10;(with_reducible refine (enter_any S2 (by omega) (by omega)).mono ?_);rintro e15 y4 ⟨rfl,bv4,hS4,hb4,hx4⟩;have S4:=hid hS4;have HC4:=hid (below_tr HC2.out (hb4.mono hBw));have HX4:=hid hx4;have HB34:=hid hb4.size;clear hS4 hb4 hx4)
    go_upto_region 26 with (fail)
    have HWA : Hid (WasAt y4 pw L s m lv bv4):=hid (by
     refine WasAt.step (X:=y3) (m:=m) (lv:=lv) (bv:=bv) (fun hL0 => ?_) HX4.out HB34.out
     obtain ⟨g,h1,⟨h2,h3⟩,h4⟩:=HW.out hL0
     exact ⟨g,h1,h3,S1.out.apt h2,h4⟩)
    clear HW S2 HC2 HX4 S1 HBR HB34
    go_loopw [21] (fun iv wr => ∃ (j q : Nat) (G : TF) (M : List ByteArray) (m2 lv2 : Value),iv = .int .i64 j ∧ j ≤ n2 ∧ q ≤ 3100 + j ∧ M.length ≤ j ∧ LocOk G (L ++ M) ∧ Below w.heap.size w wr ∧ Scp B wr s q G (L ++ M) (bl ++ [L.length]) m2 lv2 bv4 ∧ WasAt wr pw L s m2 lv2 bv4) (fun iv _ => n2 - (intOf iv).toNat)
    case atStart => exact ⟨0,n',F1,[],m,lv,rfl,Nat.zero_le _,by omega,Nat.le_refl _,by (rw [List.append_nil];exact HOK.out),HC4.out,by (rw [List.append_nil];exact S4.out),HWA.out⟩
    case round =>
     obtain ⟨j,q,G,M,m2,lv2,rfl,hj,hq,hM,hok2,hbr2,hsr2,hwa2⟩:=hrel
     have HBR:=hid hbr2
     have S5:=hid hsr2
     have HOK2:=hid hok2
     have HWA2:=hid hwa2
     have hLM : (L ++ M).length = L.length + M.length:=List.length_append
     clear hsr2 hok2 hwa2 S4 HC4 HWA
     by_cases hjn : j < n2
     · obtain ⟨b,o,nm,rfl,hbs,hnm,d0⟩:=hmo j hjn
       have hlt : (j : Int) < (n2 : Int):=by omega
       have hi0 : (0 : Int) ≤ (j : Int):=Int.natCast_nonneg _
       have hbw : b < wr.heap.size:=Nat.lt_of_lt_of_le hbs hbr2.size
       have e0 : wr.cell? ⟨b,o + j,none⟩ = some (.string nm):=(hbr2.cell (p:=⟨b,o + j,none⟩) hbs).trans d0
       have HD0:=hid d0
       have HKD:=hid (kind_any S5 nm hnm)
       by_cases hfr : kindN (G nm.data.toList) = 0 ∧ nm.toList.isEmpty = false
       · obtain ⟨hk0,hef⟩:=hfr
         have HG0:=hid (kindN_none hk0)
         have hne : nm.data.toList ≠ []:=fun h => by (rw [ByteArray.toList_eq,h] at hef;cases hef)
         rw [hk0] at HKD
         clear d0 hk0
         go_upto_region 29 with (go_at_call 19;(with_reducible refine HKD.out.mono ?_);rintro e16 y5 ⟨rfl,rfl⟩)
         have HLY:=hid (let_yes S5 (by simp) nm hnm hne true false HG0.out (by omega) (by omega))
         go_upto_region 30 with (go_at_call 13;(with_reducible refine HLY.out.mono ?_);rintro e17 y6 ⟨rfl,b7,lv7,hS7,hb7,_,hx7⟩;have S6:=hid hS7;have HC5:=hid (below_tr HBR.out (hb7.mono hBw));have HX7:=hid hx7;have HZ7:=hid hb7.size;clear hS7 hb7 hx7)
         have hbw6 : b < y6.heap.size:=Nat.lt_of_lt_of_le hbs HC5.out.size
         have e6 : y6.cell? ⟨b,o + j,none⟩ = some (.string nm):=(HC5.out.cell (p:=⟨b,o + j,none⟩) hbs).trans HD0.out
         have HK6:=hid (kind_any S6 nm hnm)
         have HT6:=hid (typ_any S6 nm hnm)
         have ek : kindN ((G.upd nm.data.toList (.lo true false)) nm.data.toList) = 4:=by (unfold TF.upd;rw [if_pos rfl];rfl)
         have et : typeN ((G.upd nm.data.toList (.lo true false)) nm.data.toList) = (true,false):=by (unfold TF.upd;rw [if_pos rfl];rfl)
         rw [ek] at HK6
         rw [et] at HT6
         have hfd0:=rfield_t0
         clear ek et HKD HLY
         go_wp2_with (first
          | (go_at_call 19;(with_reducible refine HK6.out.mono ?_);rintro e18 y7 ⟨rfl,rfl⟩)
          | (go_at_call 21;(with_reducible refine HT6.out.mono ?_);rintro e19 y8 ⟨rfl,hb8⟩;have S7:=hid (S6.out.stay hb8);have HC6:=hid (below_ch HC5.out hb8);have HX8:=hid (Apx.of hb8 s (.map (some b7)) lv7 bv4);have HZ8:=hid hb8.size;clear hb8))
         refine ⟨⟨j + 1,q + 1,_,M ++ [nm],_,_,by go_num,by omega,by omega,by (rw [List.length_append,List.length_singleton];omega),by (rw [← List.append_assoc];exact HOK2.out.snoc hnm HG0.out true false),HC6.out,by (rw [← List.append_assoc];exact S7.out),(HWA2.out.step HX7.out HZ7.out).step HX8.out HZ8.out⟩,?_⟩
         simp [intOf]
         omega
       · by_cases hk0 : kindN (G nm.data.toList) = 0
         · have hee : nm.toList.isEmpty = true:=by
            cases h : nm.toList.isEmpty
            · exact absurd ⟨hk0,h⟩ hfr
            · rfl
           have HNO : Hid (nm.toList.isEmpty = true ∨ ¬ kindN (G nm.data.toList) = 0):=hid (.inl hee)
           rw [hk0] at HKD
           clear hfr hk0 d0
           go_upto_region 29 with (go_at_call 19;(with_reducible refine HKD.out.mono ?_);rintro e16 y5 ⟨rfl,rfl⟩)
           have HLN:=hid (let_no S5 (by simp) nm hnm HNO.out true false)
           go_upto_region 30 with (go_at_call 13;(with_reducible refine HLN.out.mono ?_);rintro e17 y6 ⟨rfl,hb7⟩;have S6:=hid (S5.out.stay hb7);have HC5:=hid (below_ch HBR.out hb7);have HX7:=hid (Apx.of hb7 s m2 lv2 bv4);have HZ7:=hid hb7.size;clear hb7)
           go_wp2_with (fail)
           refine ⟨⟨j + 1,q,_,M,_,_,by go_num,by omega,by omega,by omega,HOK2.out,HC5.out,S6.out,HWA2.out.step HX7.out HZ7.out⟩,?_⟩
           simp [intOf]
           omega
         · have HNO : Hid (nm.toList.isEmpty = true ∨ ¬ kindN (G nm.data.toList) = 0):=hid (.inr hk0)
           obtain ⟨kk,hkk⟩ : ∃ kk,kindN (G nm.data.toList) = kk:=⟨_,rfl⟩
           rw [hkk] at HKD hk0
           have hkb : (kk == 0) = false:=by simpa using hk0
           clear hfr hkk d0
           go_upto_region 29 with (go_at_call 19;(with_reducible refine HKD.out.mono ?_);rintro e16 y5 ⟨rfl,rfl⟩)
           have HLN:=hid (let_no S5 (by simp) nm hnm HNO.out true false)
           go_upto_region 30 with (go_at_call 13;(with_reducible refine HLN.out.mono ?_);rintro e17 y6 ⟨rfl,hb7⟩;have S6:=hid (S5.out.stay hb7);have HC5:=hid (below_ch HBR.out hb7);have HX7:=hid (Apx.of hb7 s m2 lv2 bv4);have HZ7:=hid hb7.size;clear hb7)
           go_wp2_with (fail)
           refine ⟨⟨j + 1,q,_,M,_,_,by go_num,by omega,by omega,by omega,HOK2.out,HC5.out,S6.out,HWA2.out.step HX7.out HZ7.out⟩,?_⟩
           simp [intOf]
           omega
     · have hje : n2 = j:=by omega
       have hlt : ¬ (j : Int) < (n2 : Int):=by omega
       go_upto_region 33 with (go_at_call 11;(with_reducible refine (leave_any S5 HOK2.out (by omega) (by omega)).mono ?_);rintro e20 y9 ⟨rfl,lv9,bv9,hS9,hb9,hx9⟩;have S9:=hid hS9;have HC9:=hid (below_tr HBR.out (hb9.mono hBw));have HWA9:=hid (HWA2.out.step hx9 hb9.size);clear hS9 hb9 hx9)
       have HOK9:=hid HOK2.out.dels
       go_upto_region 34 with (go_at_call 16;(with_reducible refine (locals_any S9 (by omega) HOK9.out.sz).mono ?_);rintro e21 z1 ⟨hb10,pn,cn,rfl,hw10⟩;have HN10:=hid hw10;have S10:=hid (S9.out.stay hb10);have HC10:=hid (below_ch HC9.out hb10);have HWA10:=hid (HWA9.out.step (Apx.of hb10 s m2 lv9 bv9) hb10.size);clear hb10 hw10)
       go_upto_region 37 with (fail)
       go_loopw [25] (fun iv wr => ∃ (u : Nat),iv = .int .i64 u ∧ u ≤ L.length ∧ Below z1.heap.size z1 wr) (fun iv _ => L.length - (intOf iv).toNat)
       case atStart => exact ⟨0,rfl,Nat.zero_le _,Below.refl _ _⟩
       case round =>
        obtain ⟨u,rfl,hu,hbx⟩:=hrel
        have HBX:=hid hbx
        by_cases hul : u < L.length
        · obtain ⟨x,hx⟩ : ∃ x,L[u]? = some x:=⟨_,List.getElem?_eq_getElem hul⟩
          have hmem:=List.mem_of_getElem? hx
          have hLne : L ≠ []:=fun e => by (rw [e] at hul;exact absurd hul (Nat.not_lt_zero _))
          obtain ⟨gn,rfl,⟨_,hgn⟩,hcn⟩:=HN10.out hLne
          obtain ⟨gw,rfl,hgw,_,hcw⟩:=HWA10.out hLne
          have e0 : wr.cell? ⟨gn,u,none⟩ = some (.string x):=(hbx.cell (p:=⟨gn,u,none⟩) hgn).trans (hcn u x hx)
          have e1 : wr.cell? ⟨gw,u,none⟩ = some (.string x):=(hbx.cell (p:=⟨gw,u,none⟩) hgw).trans (hcw u x hx)
          have hgn' : gn < wr.heap.size:=Nat.lt_of_lt_of_le hgn hbx.size
          have hgw' : gw < wr.heap.size:=Nat.lt_of_lt_of_le hgw hbx.size
          have S11:=hid (S10.out.stay hbx)
          have HKI : Hid (∀ nn,Calls Try.prog 19 #[.pointer (some ⟨s,0,none⟩),.string x] (wr.drewN nn) fun e w' => e = .returned (.int .i64 4) ∧ w' = wr.drewN nn):=hid fun nn => by
           have h:=kind_any (hid (S11.out.stay (below_drewN (Below.refl _ _) nn))) x (HOK9.out.sz x hmem)
           rw [HOK9.out.kd x hmem] at h
           exact h
          have hlt : (u : Int) < (L.length : Int):=by omega
          have hu0 : (0 : Int) ≤ (u : Int):=Int.natCast_nonneg _
          clear hcn hcw hx hmem hbx
          go_upto_region 39 with (fail)
          refine wp_region_quiet_lit (by kernel_rfl) (by kernel_rfl) ?_
          repeat (any_goals (first | go_big_quiet_step ((go_at_call 19;exact Calls.quiet_of_same (HKI.out _))) | quiet_step ((go_at_call 19;exact Calls.quiet_of_same (HKI.out _)))))
          refine wpQuiet_nil ?_
          intro _ hw'
          obtain ⟨nq,hw''⟩:=hw'
          subst hw''
          go_wp2
          refine ⟨⟨u + 1,by go_num,by omega,below_drewN HBX.out _⟩,?_⟩
          simp [intOf]
          omega
        · have hlt : ¬ (u : Int) < (L.length : Int):=by omega
          go_wp2
          go_ret
          exact ⟨rfl,below_ch HC10.out hbx⟩
end Go.Proofs.Ytbmmjomcjlpnlaa
