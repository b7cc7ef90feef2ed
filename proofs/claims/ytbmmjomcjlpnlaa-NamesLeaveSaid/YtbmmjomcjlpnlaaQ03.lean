/- Joined texts: Rthing: lemmas for the law; each says its own conditions. -/
import Derived.Test.YtbmmjomcjlpnlaaQ02
set_option linter.unusedSimpArgs false
set_option linter.unusedVariables false
set_option maxRecDepth 100000
set_option maxHeartbeats 8000000
open Go.Lib (hid)
namespace Go.Proofs.Ytbmmjomcjlpnlaa
open Go Go.RowKit
def WBlk (X : World) (n : Nat) (k : Int) (t : List UInt8) (v : Int) (a : Int) : Prop:=X.heap[n]? = some (.cells #[.int .i64 k,.string (bstr t),.int .i64 v,.int .i64 a] 82 (0,0))
section
variable {X Y : World} {n : Nat} {k v a : Int} {t : List UInt8}
theorem WBlk.facts (h : WBlk X n k t v a) : n < X.heap.size ∧ X.cell? ⟨n,0,none⟩ = some (.int .i64 k) ∧ X.cell? ⟨n,1,none⟩ = some (.string (bstr t)) ∧ X.cell? ⟨n,2,none⟩ = some (.int .i64 v) ∧ X.cell? ⟨n,3,none⟩ = some (.int .i64 a):=by
 refine ⟨(Array.getElem?_eq_some_iff.1 h).1,?_,?_,?_,?_⟩ <;> rw [cell_of_row _ _ _ _ _ _ h] <;> rfl
theorem WBlk.alloc (h : WBlk X n k t v a) (o : Obj) : WBlk (X.alloc o) n k t v a:=(Below.heap_alloc X o n (Array.getElem?_eq_some_iff.1 h).1).trans h
theorem WBlk.drew (h : WBlk X n k t v a) : WBlk X.drew n k t v a:=h
theorem WBlk.stay (h : WBlk X n k t v a) (hf : Below X.heap.size X Y) : WBlk Y n k t v a:=(hf.block n (Array.getElem?_eq_some_iff.1 h).1).trans h
theorem WBlk.fr {rb : Nat} (h : WBlk X n k t v a) (hf : Fr (some rb) X Y) (hne : n ≠ rb) : WBlk Y n k t v a:=(hf.block (Array.getElem?_eq_some_iff.1 h).1 (by simp;exact hne)).trans h
theorem WBlk.setO (h : WBlk X n k t v a) {b : Nat} (hne : n ≠ b) (o : Nat) (u : Value) : WBlk (X.setCell ⟨b,o,none⟩ u) n k t v a:=(heap_setCell_other X ⟨b,o,none⟩ n u hne).trans h
theorem WBlk.new (hn : n = X.heap.size) : WBlk (X.alloc (.cells #[.int .i64 k,.string (bstr t),.int .i64 v,.int .i64 a] 82)) n k t v a:=hn ▸ heap_alloc_new X _
end
theorem isN_yes {x : Wd} {tt : List Wd} {t : List UInt8} (h : x.k = 0) (h2 : x.t = t) : (RS.ok (x :: tt)).is t = true:=by simp [RS.is,h,h2]
theorem isT_no {x : Wd} {tt : List Wd} {t : List UInt8} (h : x.t ≠ t) : (RS.ok (x :: tt)).is t = false:=by simp [RS.is,h]
theorem isN_no {x : Wd} {tt : List Wd} (hk : KOk x) {c : UInt8} {r : List UInt8} (hc : isLetter c = true) (h : ¬ (x.k = 0 ∧ x.t = c :: r)) : (RS.ok (x :: tt)).is (c :: r) = false:=by
 have:=mt (hk.nam (r:=r) hc).1 h
 simp only [RS.is]
 by_cases h1 : x.k = 2 ∨ x.k = 0
 · have h2 : ¬ x.t = c :: r:=fun e => this ⟨h1,e⟩
   simp [h2]
 · simp at h1
   simp [h1]
theorem nsg0 {x : Wd} (h : x.k ≠ 2) (t : List UInt8) : ¬ Sg x t:=fun e => h e.1
theorem nsgt {x : Wd} {u : List UInt8} (h : x.t = u) {t : List UInt8} (h2 : u ≠ t) : ¬ Sg x t:=fun e => h2 (h ▸ e.2)
theorem st_advX {X : World} {rb g cap : Nat} {ws : List Wd} {o a : Int} {i : Nat} {tt : List Wd} (h : RrAt X rb (.slice (some ⟨g,0,none⟩) ws.length cap) ((i : Int) + 1) o 0 a) (h5 : i + 1 = ws.length - tt.length) (h6 : tt <:+ ws) (hF : Fin tt) : StR X rb g cap ws o (.ok tt):=⟨h6,hF,a,h5 ▸ h⟩
theorem rth_num (rb g : Nat) (ws : List Wd) (o : Nat) (x : Wd) (tt : List Wd) (hx : x.k = 1) : SndR rb g ws 75 #[.pointer (some ⟨rb,0,none⟩)] o (x :: tt) (.ok (.mk 0 0 x.n [] [] x.a) tt):=by
 have hs : ¬ Sg x [45] ∧ ¬ Sg x [33] ∧ ¬ Sg x [40]:=⟨nsg0 (by rw [hx];decide) _,nsg0 (by rw [hx];decide) _,nsg0 (by rw [hx];decide) _⟩
 intro W cap E0 S0
 have hrl:=S0.lt
 have hgl:=E0.wc.lt
 obtain ⟨i,a,R0,_,_,_,hxm⟩:=S0.ok_cells E0
 have hkx : KOk x:=E0.kok x hxm
 have bm : Hid ((RS.ok (x :: tt)).is (⟨#[45]⟩ : ByteArray).data.toList = false):=hid (isS_no hkx [] (by decide) hs.1)
 have bn : Hid ((RS.ok (x :: tt)).is (⟨#[33]⟩ : ByteArray).data.toList = false):=hid (isS_no hkx [] (by decide) hs.2.1)
 have bp : Hid ((RS.ok (x :: tt)).is (⟨#[40]⟩ : ByteArray).data.toList = false):=hid (isS_no hkx [] (by decide) hs.2.2)
 have hF:=hid (S0.fin.cons (by rw [hx];decide))
 have k1 : (x.k == 1) = true:=by simp [hx]
 have HX:=hid hx
 obtain ⟨⟨r0,r1,r2,r3,r4⟩,⟨c0,c1,c2,c3⟩,_,_,hi1,hi2,_⟩:=R0.facts
 have S:=hid S0
 have E:=hid E0
 clear hs hx
 clear R0 E0 S0 hkx hxm
 go_enter Try.func75,Try.ntmps75
 go_upto_region 3 with (fail)
 go_wp2
 go_region
 go_upto_region 6 with (fail)
 refine name_world ?_
 intro W1 hW1
 have hB1 : Below W.heap.size W W1:=by (rw [hW1];(refine Fr.below ?_;(with_reducible repeat first | exact Fr.refl _ _ | refine Fr.alloc ?_ _ | refine Fr.drewN ?_ _ | refine Fr.drew ?_ | (refine Fr.set ?_ ?_ _ _;rotate_left;first | exact .inl rfl | (right;simp;done) | (right;simp;omega) | (right;omega)) | refine Fr.step ?_ (by assumption) | refine Fr.stepB ?_ (by assumption))))
 have F1 : Fr (some rb) W W1:=Fr.of hB1
 have hz1 : W1.heap.size = W.heap.size + 3:=by (rw [hW1];simp)
 have BV1 : Blk W1 W.heap.size (.int .i64 0) (.int .i64 0) (.int .i64 0) (.string ⟨#[]⟩) (.slice none 0 0) (.int .i64 0):=by (rw [hW1];exact ((((Blk.new rfl _ _ _ _ _ _).alloc _).alloc _).drew))
 have BE1 : Blk W1 (W.heap.size + 1 + 1) (.int .i64 0) (.int .i64 0) (.int .i64 0) (.string ⟨#[]⟩) (.slice none 0 0) (.int .i64 x.a):=by (rw [hW1];exact ((Blk.new (by simp) _ _ _ _ _ _).drew))
 have WB1 : WBlk W1 (W.heap.size + 1) x.k x.t x.n x.a:=by (rw [hW1];exact ((WBlk.new (by simp)).alloc _).drew)
 clear hW1 r0 r1 r2 r3 r4 c0 c1 c2 c3
 have hne0 : rb ≠ W.heap.size:=by omega
 have hne1 : rb ≠ W.heap.size + 1:=by omega
 have hne2 : rb ≠ W.heap.size + 1 + 1:=by omega
 have S1:=hid (S.out.stay hB1)
 have E1:=hid (E.out.stay hB1)
 clear S E hi1 hi2
 go_wp2_with (first
  | (go_at_call 62;(with_reducible refine (st_is S1.out E1.out _ false bm.out).mono ?_);rintro e' w2 ⟨rfl,hb2⟩;have S2:=hid (S1.out.stay hb2);have E2:=hid (E1.out.stay hb2);have BE2:=BE1.stay hb2;have BV2:=BV1.stay hb2;have WB2:=WB1.stay hb2;have F2:=F1.stepB hb2;have hz2:=hb2.size;clear BE1 BV1 WB1)
  | (go_at_call 62;(with_reducible refine (st_is S2.out E2.out _ false bn.out).mono ?_);rintro e' w3 ⟨rfl,hb3⟩;have S3:=hid (S2.out.stay hb3);have E3:=hid (E2.out.stay hb3);have BE3:=BE2.stay hb3;have BV3:=BV2.stay hb3;have WB3:=WB2.stay hb3;have F3:=F2.stepB hb3;have hz3:=hb3.size;clear BE2 BV2 WB2)
  | (go_at_call 62;(with_reducible refine (st_is S3.out E3.out _ false bp.out).mono ?_);rintro e' w4 ⟨rfl,hb4⟩;have S4:=hid (S3.out.stay hb4);have E4:=hid (E3.out.stay hb4);have BE4:=BE3.stay hb4;have BV4:=BV3.stay hb4;have WB4:=WB3.stay hb4;have F4:=F3.stepB hb4;have hz4:=hb4.size;clear BE3 BV3 WB3;(obtain ⟨ble4,c0e4,c1e4,c2e4,c3e4,c4e4,c5e4,f0e4,f1e4,f2e4,f3e4,f4e4,f5e4⟩:=(BE4).facts);(obtain ⟨blv4,c0v4,c1v4,c2v4,c3v4,c4v4,c5v4,f0v4,f1v4,f2v4,f3v4,f4v4,f5v4⟩:=(BV4).facts);obtain ⟨y04,y14,y24,y34,y44⟩:=WB4.facts;obtain ⟨i,a,R,h5,h6,h7,_⟩:=S4.out.ok_cells E4.out;obtain ⟨q0,q1,q2,q3,q4⟩:=R.rd.cells;have hlr:=R.rd.lt;have hfzr:=R.rd.frozen 1))
 refine bodyPost_ret (results_ex rfl _ rfl ((((BV4.setO (by omega) _ _).setO (Ne.symm hne0) _ _).all _ _ _ _ _ _))) rfl ⟨by (with_reducible repeat first | exact Fr.refl _ _ | refine Fr.alloc ?_ _ | refine Fr.drewN ?_ _ | refine Fr.drew ?_ | (refine Fr.set ?_ ?_ _ _;rotate_left;first | exact .inl rfl | (right;simp;done) | (right;simp;omega) | (right;omega)) | refine Fr.step ?_ (by assumption) | refine Fr.stepB ?_ (by assumption)),?_,_,_,_,_,_,_,_,_,rfl,?_⟩
 · show StR _ rb g cap ws o (.ok tt)
   refine st_advX (a:=a) ?_ h5 h6 hF.out
   (repeat (first | (with_reducible refine RrAt.setO ?_ (by first | assumption | omega) _ _)))
   exact (R.rd.setO hne2 _ _).set1 _
 · intro x' ts' e
   cases e
   exact ⟨rfl,rfl,rfl,rfl,rfl,rfl,.leaf⟩
theorem rth_tru (rb g : Nat) (ws : List Wd) (o : Nat) (x : Wd) (tt : List Wd) (hx : x.k = 0) (ht : x.t = truB) : SndR rb g ws 75 #[.pointer (some ⟨rb,0,none⟩)] o (x :: tt) (.ok (.mk 1 0 1 [] [] x.a) tt):=by
 have hs : ¬ Sg x [45] ∧ ¬ Sg x [33] ∧ ¬ Sg x [40]:=⟨nsg0 (by rw [hx];decide) _,nsg0 (by rw [hx];decide) _,nsg0 (by rw [hx];decide) _⟩
 intro W cap E0 S0
 have hrl:=S0.lt
 have hgl:=E0.wc.lt
 obtain ⟨i,a,R0,_,_,_,hxm⟩:=S0.ok_cells E0
 have hkx : KOk x:=E0.kok x hxm
 have bm : Hid ((RS.ok (x :: tt)).is (⟨#[45]⟩ : ByteArray).data.toList = false):=hid (isS_no hkx [] (by decide) hs.1)
 have bn : Hid ((RS.ok (x :: tt)).is (⟨#[33]⟩ : ByteArray).data.toList = false):=hid (isS_no hkx [] (by decide) hs.2.1)
 have bp : Hid ((RS.ok (x :: tt)).is (⟨#[40]⟩ : ByteArray).data.toList = false):=hid (isS_no hkx [] (by decide) hs.2.2)
 have bt : Hid ((RS.ok (x :: tt)).is (⟨#[116,114,117,101]⟩ : ByteArray).data.toList = true):=hid (isN_yes hx ht)
 have hF:=hid (S0.fin.cons (by rw [hx];decide))
 have k1 : (x.k == 1) = false:=by simp [hx]
 have t1 : ((bstr x.t).toList == [116,114,117,101]) = true:=by (rw [ByteArray.toList_eq];show (x.t == _) = _;rw [ht];decide)
 obtain ⟨⟨r0,r1,r2,r3,r4⟩,⟨c0,c1,c2,c3⟩,_,_,hi1,hi2,_⟩:=R0.facts
 have S:=hid S0
 have E:=hid E0
 clear hs hx ht
 clear R0 E0 S0 hkx hxm
 go_enter Try.func75,Try.ntmps75
 go_upto_region 3 with (fail)
 go_wp2
 go_region
 go_upto_region 6 with (fail)
 refine name_world ?_
 intro W1 hW1
 have hB1 : Below W.heap.size W W1:=by (rw [hW1];(refine Fr.below ?_;(with_reducible repeat first | exact Fr.refl _ _ | refine Fr.alloc ?_ _ | refine Fr.drewN ?_ _ | refine Fr.drew ?_ | (refine Fr.set ?_ ?_ _ _;rotate_left;first | exact .inl rfl | (right;simp;done) | (right;simp;omega) | (right;omega)) | refine Fr.step ?_ (by assumption) | refine Fr.stepB ?_ (by assumption))))
 have F1 : Fr (some rb) W W1:=Fr.of hB1
 have hz1 : W1.heap.size = W.heap.size + 3:=by (rw [hW1];simp)
 have BV1 : Blk W1 W.heap.size (.int .i64 0) (.int .i64 0) (.int .i64 0) (.string ⟨#[]⟩) (.slice none 0 0) (.int .i64 0):=by (rw [hW1];exact ((((Blk.new rfl _ _ _ _ _ _).alloc _).alloc _).drew))
 have BE1 : Blk W1 (W.heap.size + 1 + 1) (.int .i64 0) (.int .i64 0) (.int .i64 0) (.string ⟨#[]⟩) (.slice none 0 0) (.int .i64 x.a):=by (rw [hW1];exact ((Blk.new (by simp) _ _ _ _ _ _).drew))
 have WB1 : WBlk W1 (W.heap.size + 1) x.k x.t x.n x.a:=by (rw [hW1];exact ((WBlk.new (by simp)).alloc _).drew)
 clear hW1 r0 r1 r2 r3 r4 c0 c1 c2 c3
 have hne0 : rb ≠ W.heap.size:=by omega
 have hne1 : rb ≠ W.heap.size + 1:=by omega
 have hne2 : rb ≠ W.heap.size + 1 + 1:=by omega
 have S1:=hid (S.out.stay hB1)
 have E1:=hid (E.out.stay hB1)
 clear S E hi1 hi2
 go_wp2_with (first
  | (go_at_call 62;(with_reducible refine (st_is S1.out E1.out _ false bm.out).mono ?_);rintro e' w2 ⟨rfl,hb2⟩;have S2:=hid (S1.out.stay hb2);have E2:=hid (E1.out.stay hb2);have BE2:=BE1.stay hb2;have BV2:=BV1.stay hb2;have WB2:=WB1.stay hb2;have F2:=F1.stepB hb2;have hz2:=hb2.size;clear BE1 BV1 WB1)
  | (go_at_call 62;(with_reducible refine (st_is S2.out E2.out _ false bn.out).mono ?_);rintro e' w3 ⟨rfl,hb3⟩;have S3:=hid (S2.out.stay hb3);have E3:=hid (E2.out.stay hb3);have BE3:=BE2.stay hb3;have BV3:=BV2.stay hb3;have WB3:=WB2.stay hb3;have F3:=F2.stepB hb3;have hz3:=hb3.size;clear BE2 BV2 WB2)
  | (go_at_call 62;(with_reducible refine (st_is S3.out E3.out _ false bp.out).mono ?_);rintro e' w4 ⟨rfl,hb4⟩;have S4:=hid (S3.out.stay hb4);have E4:=hid (E3.out.stay hb4);have BE4:=BE3.stay hb4;have BV4:=BV3.stay hb4;have WB4:=WB3.stay hb4;have F4:=F3.stepB hb4;have hz4:=hb4.size;clear BE3 BV3 WB3;(obtain ⟨ble4,c0e4,c1e4,c2e4,c3e4,c4e4,c5e4,f0e4,f1e4,f2e4,f3e4,f4e4,f5e4⟩:=(BE4).facts);(obtain ⟨blv4,c0v4,c1v4,c2v4,c3v4,c4v4,c5v4,f0v4,f1v4,f2v4,f3v4,f4v4,f5v4⟩:=(BV4).facts);obtain ⟨y04,y14,y24,y34,y44⟩:=WB4.facts)
  | (go_at_call 62;(with_reducible refine (st_is S4.out E4.out _ true bt.out).mono ?_);rintro e' w5 ⟨rfl,hb5⟩;have S5:=hid (S4.out.stay hb5);have E5:=hid (E4.out.stay hb5);have BE5:=BE4.stay hb5;have BV5:=BV4.stay hb5;have WB5:=WB4.stay hb5;have F5:=F4.stepB hb5;have hz5:=hb5.size;clear BE4 BV4 WB4;(obtain ⟨ble5,c0e5,c1e5,c2e5,c3e5,c4e5,c5e5,f0e5,f1e5,f2e5,f3e5,f4e5,f5e5⟩:=(BE5).facts);(obtain ⟨blv5,c0v5,c1v5,c2v5,c3v5,c4v5,c5v5,f0v5,f1v5,f2v5,f3v5,f4v5,f5v5⟩:=(BV5).facts);obtain ⟨y05,y15,y25,y35,y45⟩:=WB5.facts;obtain ⟨i,a,R,h5,h6,h7,_⟩:=S5.out.ok_cells E5.out;obtain ⟨q0,q1,q2,q3,q4⟩:=R.rd.cells;have hlr:=R.rd.lt;have hfzr:=R.rd.frozen 1))
 refine bodyPost_ret (results_ex rfl _ rfl (((((BV5.setO (by omega) _ _).setO (by omega) _ _).setO (Ne.symm hne0) _ _).all _ _ _ _ _ _))) rfl ⟨by (with_reducible repeat first | exact Fr.refl _ _ | refine Fr.alloc ?_ _ | refine Fr.drewN ?_ _ | refine Fr.drew ?_ | (refine Fr.set ?_ ?_ _ _;rotate_left;first | exact .inl rfl | (right;simp;done) | (right;simp;omega) | (right;omega)) | refine Fr.step ?_ (by assumption) | refine Fr.stepB ?_ (by assumption)),?_,_,_,_,_,_,_,_,_,rfl,?_⟩
 · show StR _ rb g cap ws o (.ok tt)
   refine st_advX (a:=a) ?_ h5 h6 hF.out
   (repeat (first | (with_reducible refine RrAt.setO ?_ (by first | assumption | omega) _ _)))
   exact ((R.rd.setO hne2 _ _).setO hne2 _ _).set1 _
 · intro x' ts' e
   cases e
   exact ⟨rfl,rfl,rfl,rfl,rfl,rfl,.leaf⟩
theorem rth_fls (rb g : Nat) (ws : List Wd) (o : Nat) (x : Wd) (tt : List Wd) (hx : x.k = 0) (ht : x.t = flsB) : SndR rb g ws 75 #[.pointer (some ⟨rb,0,none⟩)] o (x :: tt) (.ok (.mk 1 0 0 [] [] x.a) tt):=by
 have hs : ¬ Sg x [45] ∧ ¬ Sg x [33] ∧ ¬ Sg x [40]:=⟨nsg0 (by rw [hx];decide) _,nsg0 (by rw [hx];decide) _,nsg0 (by rw [hx];decide) _⟩
 intro W cap E0 S0
 have hrl:=S0.lt
 have hgl:=E0.wc.lt
 obtain ⟨i,a,R0,_,_,_,hxm⟩:=S0.ok_cells E0
 have hkx : KOk x:=E0.kok x hxm
 have bm : Hid ((RS.ok (x :: tt)).is (⟨#[45]⟩ : ByteArray).data.toList = false):=hid (isS_no hkx [] (by decide) hs.1)
 have bn : Hid ((RS.ok (x :: tt)).is (⟨#[33]⟩ : ByteArray).data.toList = false):=hid (isS_no hkx [] (by decide) hs.2.1)
 have bp : Hid ((RS.ok (x :: tt)).is (⟨#[40]⟩ : ByteArray).data.toList = false):=hid (isS_no hkx [] (by decide) hs.2.2)
 have bt : Hid ((RS.ok (x :: tt)).is (⟨#[116,114,117,101]⟩ : ByteArray).data.toList = false):=hid (isT_no (by rw [ht];decide))
 have bf : Hid ((RS.ok (x :: tt)).is (⟨#[102,97,108,115,101]⟩ : ByteArray).data.toList = true):=hid (isN_yes hx ht)
 have hF:=hid (S0.fin.cons (by rw [hx];decide))
 have k1 : (x.k == 1) = false:=by simp [hx]
 have t1 : ((bstr x.t).toList == [116,114,117,101]) = false:=by (rw [ByteArray.toList_eq];show (x.t == _) = _;rw [ht];decide)
 obtain ⟨⟨r0,r1,r2,r3,r4⟩,⟨c0,c1,c2,c3⟩,_,_,hi1,hi2,_⟩:=R0.facts
 have S:=hid S0
 have E:=hid E0
 clear hs hx ht
 clear R0 E0 S0 hkx hxm
 go_enter Try.func75,Try.ntmps75
 go_upto_region 3 with (fail)
 go_wp2
 go_region
 go_upto_region 6 with (fail)
 refine name_world ?_
 intro W1 hW1
 have hB1 : Below W.heap.size W W1:=by (rw [hW1];(refine Fr.below ?_;(with_reducible repeat first | exact Fr.refl _ _ | refine Fr.alloc ?_ _ | refine Fr.drewN ?_ _ | refine Fr.drew ?_ | (refine Fr.set ?_ ?_ _ _;rotate_left;first | exact .inl rfl | (right;simp;done) | (right;simp;omega) | (right;omega)) | refine Fr.step ?_ (by assumption) | refine Fr.stepB ?_ (by assumption))))
 have F1 : Fr (some rb) W W1:=Fr.of hB1
 have hz1 : W1.heap.size = W.heap.size + 3:=by (rw [hW1];simp)
 have BV1 : Blk W1 W.heap.size (.int .i64 0) (.int .i64 0) (.int .i64 0) (.string ⟨#[]⟩) (.slice none 0 0) (.int .i64 0):=by (rw [hW1];exact ((((Blk.new rfl _ _ _ _ _ _).alloc _).alloc _).drew))
 have BE1 : Blk W1 (W.heap.size + 1 + 1) (.int .i64 0) (.int .i64 0) (.int .i64 0) (.string ⟨#[]⟩) (.slice none 0 0) (.int .i64 x.a):=by (rw [hW1];exact ((Blk.new (by simp) _ _ _ _ _ _).drew))
 have WB1 : WBlk W1 (W.heap.size + 1) x.k x.t x.n x.a:=by (rw [hW1];exact ((WBlk.new (by simp)).alloc _).drew)
 clear hW1 r0 r1 r2 r3 r4 c0 c1 c2 c3
 have hne0 : rb ≠ W.heap.size:=by omega
 have hne1 : rb ≠ W.heap.size + 1:=by omega
 have hne2 : rb ≠ W.heap.size + 1 + 1:=by omega
 have S1:=hid (S.out.stay hB1)
 have E1:=hid (E.out.stay hB1)
 clear S E hi1 hi2
 go_wp2_with (first
  | (go_at_call 62;(with_reducible refine (st_is S1.out E1.out _ false bm.out).mono ?_);rintro e' w2 ⟨rfl,hb2⟩;have S2:=hid (S1.out.stay hb2);have E2:=hid (E1.out.stay hb2);have BE2:=BE1.stay hb2;have BV2:=BV1.stay hb2;have WB2:=WB1.stay hb2;have F2:=F1.stepB hb2;have hz2:=hb2.size;clear BE1 BV1 WB1)
  | (go_at_call 62;(with_reducible refine (st_is S2.out E2.out _ false bn.out).mono ?_);rintro e' w3 ⟨rfl,hb3⟩;have S3:=hid (S2.out.stay hb3);have E3:=hid (E2.out.stay hb3);have BE3:=BE2.stay hb3;have BV3:=BV2.stay hb3;have WB3:=WB2.stay hb3;have F3:=F2.stepB hb3;have hz3:=hb3.size;clear BE2 BV2 WB2)
  | (go_at_call 62;(with_reducible refine (st_is S3.out E3.out _ false bp.out).mono ?_);rintro e' w4 ⟨rfl,hb4⟩;have S4:=hid (S3.out.stay hb4);have E4:=hid (E3.out.stay hb4);have BE4:=BE3.stay hb4;have BV4:=BV3.stay hb4;have WB4:=WB3.stay hb4;have F4:=F3.stepB hb4;have hz4:=hb4.size;clear BE3 BV3 WB3;(obtain ⟨ble4,c0e4,c1e4,c2e4,c3e4,c4e4,c5e4,f0e4,f1e4,f2e4,f3e4,f4e4,f5e4⟩:=(BE4).facts);(obtain ⟨blv4,c0v4,c1v4,c2v4,c3v4,c4v4,c5v4,f0v4,f1v4,f2v4,f3v4,f4v4,f5v4⟩:=(BV4).facts);obtain ⟨y04,y14,y24,y34,y44⟩:=WB4.facts)
  | (go_at_call 62;(with_reducible refine (st_is S4.out E4.out _ false bt.out).mono ?_);rintro e' w5 ⟨rfl,hb5⟩;have S5:=hid (S4.out.stay hb5);have E5:=hid (E4.out.stay hb5);have BE5:=BE4.stay hb5;have BV5:=BV4.stay hb5;have WB5:=WB4.stay hb5;have F5:=F4.stepB hb5;have hz5:=hb5.size;clear BE4 BV4 WB4)
  | (go_at_call 62;(with_reducible refine (st_is S5.out E5.out _ true bf.out).mono ?_);rintro e' w6 ⟨rfl,hb6⟩;have S6:=hid (S5.out.stay hb6);have E6:=hid (E5.out.stay hb6);have BE6:=BE5.stay hb6;have BV6:=BV5.stay hb6;have WB6:=WB5.stay hb6;have F6:=F5.stepB hb6;have hz6:=hb6.size;clear BE5 BV5 WB5;(obtain ⟨ble6,c0e6,c1e6,c2e6,c3e6,c4e6,c5e6,f0e6,f1e6,f2e6,f3e6,f4e6,f5e6⟩:=(BE6).facts);(obtain ⟨blv6,c0v6,c1v6,c2v6,c3v6,c4v6,c5v6,f0v6,f1v6,f2v6,f3v6,f4v6,f5v6⟩:=(BV6).facts);obtain ⟨y06,y16,y26,y36,y46⟩:=WB6.facts;obtain ⟨i,a,R,h5,h6,h7,_⟩:=S6.out.ok_cells E6.out;obtain ⟨q0,q1,q2,q3,q4⟩:=R.rd.cells;have hlr:=R.rd.lt;have hfzr:=R.rd.frozen 1))
 refine bodyPost_ret (results_ex rfl _ rfl ((((BV6.setO (by omega) _ _).setO (Ne.symm hne0) _ _).all _ _ _ _ _ _))) rfl ⟨by (with_reducible repeat first | exact Fr.refl _ _ | refine Fr.alloc ?_ _ | refine Fr.drewN ?_ _ | refine Fr.drew ?_ | (refine Fr.set ?_ ?_ _ _;rotate_left;first | exact .inl rfl | (right;simp;done) | (right;simp;omega) | (right;omega)) | refine Fr.step ?_ (by assumption) | refine Fr.stepB ?_ (by assumption)),?_,_,_,_,_,_,_,_,_,rfl,?_⟩
 · show StR _ rb g cap ws o (.ok tt)
   refine st_advX (a:=a) ?_ h5 h6 hF.out
   (repeat (first | (with_reducible refine RrAt.setO ?_ (by first | assumption | omega) _ _)))
   exact (R.rd.setO hne2 _ _).set1 _
 · intro x' ts' e
   cases e
   exact ⟨rfl,rfl,rfl,rfl,rfl,rfl,.leaf⟩
theorem rkey_of {t : List UInt8} {b : Bool} (h : keyB t = b) (w : World) : Calls Try.prog 63 #[.string (bstr t)] w fun e w' => e = .returned (.bool b) ∧ Below w.heap.size w w':=by
 have:=rkey_any (bstr t) w
 rwa [show (bstr t).data.toList = t from rfl,h] at this
theorem rth_name (rb g : Nat) (ws : List Wd) (o : Nat) (x : Wd) (tt : List Wd) (r : Res) (hx : x.k = 0) (hky : keyB x.t = false) (H2 : SndR rb g ws 79 #[.pointer (some ⟨rb,0,none⟩)] o (x :: tt) r) : SndR rb g ws 75 #[.pointer (some ⟨rb,0,none⟩)] o (x :: tt) r:=by
 have hs : ¬ Sg x [45] ∧ ¬ Sg x [33] ∧ ¬ Sg x [40]:=⟨nsg0 (by rw [hx];decide) _,nsg0 (by rw [hx];decide) _,nsg0 (by rw [hx];decide) _⟩
 have hkey:=hid hky
 have HH:=hid H2
 clear H2
 intro W cap E0 S0
 have hrl:=S0.lt
 have hgl:=E0.wc.lt
 obtain ⟨i,a,R0,_,_,_,hxm⟩:=S0.ok_cells E0
 have hkx : KOk x:=E0.kok x hxm
 have bm : Hid ((RS.ok (x :: tt)).is (⟨#[45]⟩ : ByteArray).data.toList = false):=hid (isS_no hkx [] (by decide) hs.1)
 have bn : Hid ((RS.ok (x :: tt)).is (⟨#[33]⟩ : ByteArray).data.toList = false):=hid (isS_no hkx [] (by decide) hs.2.1)
 have bp : Hid ((RS.ok (x :: tt)).is (⟨#[40]⟩ : ByteArray).data.toList = false):=hid (isS_no hkx [] (by decide) hs.2.2)
 have bt : Hid ((RS.ok (x :: tt)).is (⟨#[116,114,117,101]⟩ : ByteArray).data.toList = false):=hid (isT_no (fun e => by rw [e] at hky;revert hky;decide))
 have bf : Hid ((RS.ok (x :: tt)).is (⟨#[102,97,108,115,101]⟩ : ByteArray).data.toList = false):=hid (isT_no (fun e => by rw [e] at hky;revert hky;decide))
 have k1 : (x.k == 1) = false:=by simp [hx]
 have k0 : (x.k == 0) = true:=by simp [hx]
 obtain ⟨⟨r0,r1,r2,r3,r4⟩,⟨c0,c1,c2,c3⟩,_,_,hi1,hi2,_⟩:=R0.facts
 have S:=hid S0
 have E:=hid E0
 clear hs hx hky
 clear R0 E0 S0 hkx hxm
 go_enter Try.func75,Try.ntmps75
 go_upto_region 3 with (fail)
 go_wp2
 go_region
 go_upto_region 6 with (fail)
 refine name_world ?_
 intro W1 hW1
 have hB1 : Below W.heap.size W W1:=by (rw [hW1];(refine Fr.below ?_;(with_reducible repeat first | exact Fr.refl _ _ | refine Fr.alloc ?_ _ | refine Fr.drewN ?_ _ | refine Fr.drew ?_ | (refine Fr.set ?_ ?_ _ _;rotate_left;first | exact .inl rfl | (right;simp;done) | (right;simp;omega) | (right;omega)) | refine Fr.step ?_ (by assumption) | refine Fr.stepB ?_ (by assumption))))
 have F1 : Fr (some rb) W W1:=Fr.of hB1
 have hz1 : W1.heap.size = W.heap.size + 3:=by (rw [hW1];simp)
 have BV1 : Blk W1 W.heap.size (.int .i64 0) (.int .i64 0) (.int .i64 0) (.string ⟨#[]⟩) (.slice none 0 0) (.int .i64 0):=by (rw [hW1];exact ((((Blk.new rfl _ _ _ _ _ _).alloc _).alloc _).drew))
 have BE1 : Blk W1 (W.heap.size + 1 + 1) (.int .i64 0) (.int .i64 0) (.int .i64 0) (.string ⟨#[]⟩) (.slice none 0 0) (.int .i64 x.a):=by (rw [hW1];exact ((Blk.new (by simp) _ _ _ _ _ _).drew))
 have WB1 : WBlk W1 (W.heap.size + 1) x.k x.t x.n x.a:=by (rw [hW1];exact ((WBlk.new (by simp)).alloc _).drew)
 clear hW1 r0 r1 r2 r3 r4 c0 c1 c2 c3
 have hne0 : rb ≠ W.heap.size:=by omega
 have hne1 : rb ≠ W.heap.size + 1:=by omega
 have hne2 : rb ≠ W.heap.size + 1 + 1:=by omega
 have S1:=hid (S.out.stay hB1)
 have E1:=hid (E.out.stay hB1)
 clear S E hi1 hi2
 go_wp2_with (first
  | (go_at_call 62;(with_reducible refine (st_is S1.out E1.out _ false bm.out).mono ?_);rintro e' w2 ⟨rfl,hb2⟩;have S2:=hid (S1.out.stay hb2);have E2:=hid (E1.out.stay hb2);have BE2:=BE1.stay hb2;have BV2:=BV1.stay hb2;have WB2:=WB1.stay hb2;have F2:=F1.stepB hb2;have hz2:=hb2.size;clear BE1 BV1 WB1)
  | (go_at_call 62;(with_reducible refine (st_is S2.out E2.out _ false bn.out).mono ?_);rintro e' w3 ⟨rfl,hb3⟩;have S3:=hid (S2.out.stay hb3);have E3:=hid (E2.out.stay hb3);have BE3:=BE2.stay hb3;have BV3:=BV2.stay hb3;have WB3:=WB2.stay hb3;have F3:=F2.stepB hb3;have hz3:=hb3.size;clear BE2 BV2 WB2)
  | (go_at_call 62;(with_reducible refine (st_is S3.out E3.out _ false bp.out).mono ?_);rintro e' w4 ⟨rfl,hb4⟩;have S4:=hid (S3.out.stay hb4);have E4:=hid (E3.out.stay hb4);have BE4:=BE3.stay hb4;have BV4:=BV3.stay hb4;have WB4:=WB3.stay hb4;have F4:=F3.stepB hb4;have hz4:=hb4.size;clear BE3 BV3 WB3;(obtain ⟨ble4,c0e4,c1e4,c2e4,c3e4,c4e4,c5e4,f0e4,f1e4,f2e4,f3e4,f4e4,f5e4⟩:=(BE4).facts);(obtain ⟨blv4,c0v4,c1v4,c2v4,c3v4,c4v4,c5v4,f0v4,f1v4,f2v4,f3v4,f4v4,f5v4⟩:=(BV4).facts);obtain ⟨y04,y14,y24,y34,y44⟩:=WB4.facts)
  | (go_at_call 62;(with_reducible refine (st_is S4.out E4.out _ false bt.out).mono ?_);rintro e' w5 ⟨rfl,hb5⟩;have S5:=hid (S4.out.stay hb5);have E5:=hid (E4.out.stay hb5);have BE5:=BE4.stay hb5;have BV5:=BV4.stay hb5;have WB5:=WB4.stay hb5;have F5:=F4.stepB hb5;have hz5:=hb5.size;clear BE4 BV4 WB4)
  | (go_at_call 62;(with_reducible refine (st_is S5.out E5.out _ false bf.out).mono ?_);rintro e' w6 ⟨rfl,hb6⟩;have S6:=hid (S5.out.stay hb6);have E6:=hid (E5.out.stay hb6);have BE6:=BE5.stay hb6;have BV6:=BV5.stay hb6;have WB6:=WB5.stay hb6;have F6:=F5.stepB hb6;have hz6:=hb6.size;clear BE5 BV5 WB5;(obtain ⟨ble6,c0e6,c1e6,c2e6,c3e6,c4e6,c5e6,f0e6,f1e6,f2e6,f3e6,f4e6,f5e6⟩:=(BE6).facts);(obtain ⟨blv6,c0v6,c1v6,c2v6,c3v6,c4v6,c5v6,f0v6,f1v6,f2v6,f3v6,f4v6,f5v6⟩:=(BV6).facts);obtain ⟨y06,y16,y26,y36,y46⟩:=WB6.facts)
  | (go_at_call 63;(with_reducible refine (rkey_of hkey.out _).mono ?_);rintro e' w7 ⟨rfl,hb7⟩;have S7:=hid (S6.out.stay hb7);have E7:=hid (E6.out.stay hb7);have BE7:=BE6.stay hb7;have BV7:=BV6.stay hb7;have WB7:=WB6.stay hb7;have F7:=F6.stepB hb7;have hz7:=hb7.size;clear BE6 BV6 WB6)
  | (go_at_call 79;(with_reducible refine (HH.out.use _ cap E7.out S7.out).mono ?_);rintro e' w8 ⟨hf8,hs8,k8,q8,n8,nm8,p8,l8,c8,a8,rfl,hg8⟩;have BE8:=BE7.fr hf8 (Ne.symm hne2);have BV8:=BV7.fr hf8 (Ne.symm hne0);have WB8:=WB7.fr hf8 (Ne.symm hne1);have F8:=F7.step hf8;have hz8:=Fr.size hf8;clear BE7 BV7 WB7;(obtain ⟨ble8,c0e8,c1e8,c2e8,c3e8,c4e8,c5e8,f0e8,f1e8,f2e8,f3e8,f4e8,f5e8⟩:=(BE8).facts);(obtain ⟨blv8,c0v8,c1v8,c2v8,c3v8,c4v8,c5v8,f0v8,f1v8,f2v8,f3v8,f4v8,f5v8⟩:=(BV8).facts);obtain ⟨y08,y18,y28,y38,y48⟩:=WB8.facts))
 refine bodyPost_ret (results_ex rfl _ rfl ((BV8.all _ _ _ _ _ _))) rfl ⟨by (with_reducible repeat first | exact Fr.refl _ _ | refine Fr.alloc ?_ _ | refine Fr.drewN ?_ _ | refine Fr.drew ?_ | (refine Fr.set ?_ ?_ _ _;rotate_left;first | exact .inl rfl | (right;simp;done) | (right;simp;omega) | (right;omega)) | refine Fr.step ?_ (by assumption) | refine Fr.stepB ?_ (by assumption)),?_,_,_,_,_,_,_,_,_,rfl,?_⟩
 · (with_reducible repeat first | exact hs8 | refine StR.alloc ?_ _ | refine StR.drewN ?_ _ | refine StR.drew ?_ | refine StR.setO ?_ (by first | assumption | omega) _ _ | refine StR.stay ?_ (by assumption))
 · have h9:=hg8.low (show W.heap.size + 1 ≤ w7.heap.size by omega)
   refine GoodEx.low (lo:=W.heap.size + 1) ?_ (by omega)
   intro x' ts' e
   obtain ⟨h1,h2,h3,h4,h5,h6,h7⟩:=h9 x' ts' e
   exact ⟨h1,h2,h3,h4,h5,h6,(((((h7.set (by omega) _ _).set (by omega) _ _).set (by omega) _ _).set (by omega) _ _).set (by omega) _ _).set (by omega) _ _⟩
theorem rth_strayK (rb g : Nat) (ws : List Wd) (o : Nat) (x : Wd) (tt : List Wd) (hx : x.k = 0) (hky : keyB x.t = true) (hk1 : x.k ≠ 1) (hs : ¬ Sg x [45] ∧ ¬ Sg x [33] ∧ ¬ Sg x [40]) (ht : ¬ (x.k = 0 ∧ x.t = truB)) (hf : ¬ (x.k = 0 ∧ x.t = flsB)) : SndR rb g ws 75 #[.pointer (some ⟨rb,0,none⟩)] o (x :: tt) (.bad 11 x.a):=by
 intro W cap E0 S0
 have hrl:=S0.lt
 have hgl:=E0.wc.lt
 obtain ⟨i,a,R0,_,_,_,hxm⟩:=S0.ok_cells E0
 have hkx : KOk x:=E0.kok x hxm
 have bm : Hid ((RS.ok (x :: tt)).is (⟨#[45]⟩ : ByteArray).data.toList = false):=hid (isS_no hkx [] (by decide) hs.1)
 have bn : Hid ((RS.ok (x :: tt)).is (⟨#[33]⟩ : ByteArray).data.toList = false):=hid (isS_no hkx [] (by decide) hs.2.1)
 have bp : Hid ((RS.ok (x :: tt)).is (⟨#[40]⟩ : ByteArray).data.toList = false):=hid (isS_no hkx [] (by decide) hs.2.2)
 have bt : Hid ((RS.ok (x :: tt)).is (⟨#[116,114,117,101]⟩ : ByteArray).data.toList = false):=hid (isN_no hkx (by decide) ht)
 have bf : Hid ((RS.ok (x :: tt)).is (⟨#[102,97,108,115,101]⟩ : ByteArray).data.toList = false):=hid (isN_no hkx (by decide) hf)
 have k0 : (x.k == 0) = true:=by simp [hx]
 have k1 : (x.k == 1) = false:=by simp [hx]
 have hkey:=hid hky
 obtain ⟨⟨r0,r1,r2,r3,r4⟩,⟨c0,c1,c2,c3⟩,_,_,hi1,hi2,_⟩:=R0.facts
 have S:=hid S0
 have E:=hid E0
 clear hs hx ht hf hk1
 clear R0 E0 S0 hkx hxm
 go_enter Try.func75,Try.ntmps75
 go_upto_region 3 with (fail)
 go_wp2
 go_region
 go_upto_region 6 with (fail)
 refine name_world ?_
 intro W1 hW1
 have hB1 : Below W.heap.size W W1:=by (rw [hW1];(refine Fr.below ?_;(with_reducible repeat first | exact Fr.refl _ _ | refine Fr.alloc ?_ _ | refine Fr.drewN ?_ _ | refine Fr.drew ?_ | (refine Fr.set ?_ ?_ _ _;rotate_left;first | exact .inl rfl | (right;simp;done) | (right;simp;omega) | (right;omega)) | refine Fr.step ?_ (by assumption) | refine Fr.stepB ?_ (by assumption))))
 have F1 : Fr (some rb) W W1:=Fr.of hB1
 have hz1 : W1.heap.size = W.heap.size + 3:=by (rw [hW1];simp)
 have BV1 : Blk W1 W.heap.size (.int .i64 0) (.int .i64 0) (.int .i64 0) (.string ⟨#[]⟩) (.slice none 0 0) (.int .i64 0):=by (rw [hW1];exact ((((Blk.new rfl _ _ _ _ _ _).alloc _).alloc _).drew))
 have BE1 : Blk W1 (W.heap.size + 1 + 1) (.int .i64 0) (.int .i64 0) (.int .i64 0) (.string ⟨#[]⟩) (.slice none 0 0) (.int .i64 x.a):=by (rw [hW1];exact ((Blk.new (by simp) _ _ _ _ _ _).drew))
 have WB1 : WBlk W1 (W.heap.size + 1) x.k x.t x.n x.a:=by (rw [hW1];exact ((WBlk.new (by simp)).alloc _).drew)
 clear hW1 r0 r1 r2 r3 r4 c0 c1 c2 c3
 have hne0 : rb ≠ W.heap.size:=by omega
 have hne1 : rb ≠ W.heap.size + 1:=by omega
 have hne2 : rb ≠ W.heap.size + 1 + 1:=by omega
 have S1:=hid (S.out.stay hB1)
 have E1:=hid (E.out.stay hB1)
 clear S E hi1 hi2
 go_wp2_with (first
  | (go_at_call 62;(with_reducible refine (st_is S1.out E1.out _ false bm.out).mono ?_);rintro e' w2 ⟨rfl,hb2⟩;have S2:=hid (S1.out.stay hb2);have E2:=hid (E1.out.stay hb2);have BE2:=BE1.stay hb2;have BV2:=BV1.stay hb2;have WB2:=WB1.stay hb2;have F2:=F1.stepB hb2;have hz2:=hb2.size;clear BE1 BV1 WB1)
  | (go_at_call 62;(with_reducible refine (st_is S2.out E2.out _ false bn.out).mono ?_);rintro e' w3 ⟨rfl,hb3⟩;have S3:=hid (S2.out.stay hb3);have E3:=hid (E2.out.stay hb3);have BE3:=BE2.stay hb3;have BV3:=BV2.stay hb3;have WB3:=WB2.stay hb3;have F3:=F2.stepB hb3;have hz3:=hb3.size;clear BE2 BV2 WB2)
  | (go_at_call 62;(with_reducible refine (st_is S3.out E3.out _ false bp.out).mono ?_);rintro e' w4 ⟨rfl,hb4⟩;have S4:=hid (S3.out.stay hb4);have E4:=hid (E3.out.stay hb4);have BE4:=BE3.stay hb4;have BV4:=BV3.stay hb4;have WB4:=WB3.stay hb4;have F4:=F3.stepB hb4;have hz4:=hb4.size;clear BE3 BV3 WB3;(obtain ⟨ble4,c0e4,c1e4,c2e4,c3e4,c4e4,c5e4,f0e4,f1e4,f2e4,f3e4,f4e4,f5e4⟩:=(BE4).facts);(obtain ⟨blv4,c0v4,c1v4,c2v4,c3v4,c4v4,c5v4,f0v4,f1v4,f2v4,f3v4,f4v4,f5v4⟩:=(BV4).facts);obtain ⟨y04,y14,y24,y34,y44⟩:=WB4.facts)
  | (go_at_call 62;(with_reducible refine (st_is S4.out E4.out _ false bt.out).mono ?_);rintro e' w5 ⟨rfl,hb5⟩;have S5:=hid (S4.out.stay hb5);have E5:=hid (E4.out.stay hb5);have BE5:=BE4.stay hb5;have BV5:=BV4.stay hb5;have WB5:=WB4.stay hb5;have F5:=F4.stepB hb5;have hz5:=hb5.size;clear BE4 BV4 WB4)
  | (go_at_call 62;(with_reducible refine (st_is S5.out E5.out _ false bf.out).mono ?_);rintro e' w6 ⟨rfl,hb6⟩;have S6:=hid (S5.out.stay hb6);have E6:=hid (E5.out.stay hb6);have BE6:=BE5.stay hb6;have BV6:=BV5.stay hb6;have WB6:=WB5.stay hb6;have F6:=F5.stepB hb6;have hz6:=hb6.size;clear BE5 BV5 WB5;(obtain ⟨ble6,c0e6,c1e6,c2e6,c3e6,c4e6,c5e6,f0e6,f1e6,f2e6,f3e6,f4e6,f5e6⟩:=(BE6).facts);(obtain ⟨blv6,c0v6,c1v6,c2v6,c3v6,c4v6,c5v6,f0v6,f1v6,f2v6,f3v6,f4v6,f5v6⟩:=(BV6).facts);obtain ⟨y06,y16,y26,y36,y46⟩:=WB6.facts)
  | (go_at_call 63;(with_reducible refine (rkey_of hkey.out _).mono ?_);rintro e' w7 ⟨rfl,hb7⟩;have S7:=hid (S6.out.stay hb7);have E7:=hid (E6.out.stay hb7);have BE7:=BE6.stay hb7;have BV7:=BV6.stay hb7;have WB7:=WB6.stay hb7;have F7:=F6.stepB hb7;have hz7:=hb7.size;clear BE6 BV6 WB6)
  | (go_at_call 70;(with_reducible refine (st_fail S7.out E7.out 11 (by decide)).mono ?_);rintro e' w8 ⟨rfl,hs8,hf8⟩;have BE8:=BE7.fr hf8 (Ne.symm hne2);have BV8:=BV7.fr hf8 (Ne.symm hne0);have WB8:=WB7.fr hf8 (Ne.symm hne1);have F8:=F7.step hf8;have hz8:=Fr.size hf8;clear BE7 BV7 WB7;(obtain ⟨ble8,c0e8,c1e8,c2e8,c3e8,c4e8,c5e8,f0e8,f1e8,f2e8,f3e8,f4e8,f5e8⟩:=(BE8).facts);(obtain ⟨blv8,c0v8,c1v8,c2v8,c3v8,c4v8,c5v8,f0v8,f1v8,f2v8,f3v8,f4v8,f5v8⟩:=(BV8).facts);obtain ⟨y08,y18,y28,y38,y48⟩:=WB8.facts))
 refine bodyPost_ret (results_ex rfl _ rfl ((BV8.all _ _ _ _ _ _))) rfl ⟨by (with_reducible repeat first | exact Fr.refl _ _ | refine Fr.alloc ?_ _ | refine Fr.drewN ?_ _ | refine Fr.drew ?_ | (refine Fr.set ?_ ?_ _ _;rotate_left;first | exact .inl rfl | (right;simp;done) | (right;simp;omega) | (right;omega)) | refine Fr.step ?_ (by assumption) | refine Fr.stepB ?_ (by assumption)),?_,_,_,_,_,_,_,_,_,rfl,GoodEx.bad⟩
 have hs8' : StR w8 rb g cap ws o (.bad 11 x.a):=hs8
 show StR _ rb g cap ws o (.bad 11 x.a)
 (with_reducible repeat first | exact hs8' | refine StR.alloc ?_ _ | refine StR.drewN ?_ _ | refine StR.drew ?_ | refine StR.setO ?_ (by first | assumption | omega) _ _ | refine StR.stay ?_ (by assumption))
theorem rth_strayN (rb g : Nat) (ws : List Wd) (o : Nat) (x : Wd) (tt : List Wd) (hx : x.k ≠ 0) (hk1 : x.k ≠ 1) (hs : ¬ Sg x [45] ∧ ¬ Sg x [33] ∧ ¬ Sg x [40]) (ht : ¬ (x.k = 0 ∧ x.t = truB)) (hf : ¬ (x.k = 0 ∧ x.t = flsB)) : SndR rb g ws 75 #[.pointer (some ⟨rb,0,none⟩)] o (x :: tt) (.bad 11 x.a):=by
 intro W cap E0 S0
 have hrl:=S0.lt
 have hgl:=E0.wc.lt
 obtain ⟨i,a,R0,_,_,_,hxm⟩:=S0.ok_cells E0
 have hkx : KOk x:=E0.kok x hxm
 have bm : Hid ((RS.ok (x :: tt)).is (⟨#[45]⟩ : ByteArray).data.toList = false):=hid (isS_no hkx [] (by decide) hs.1)
 have bn : Hid ((RS.ok (x :: tt)).is (⟨#[33]⟩ : ByteArray).data.toList = false):=hid (isS_no hkx [] (by decide) hs.2.1)
 have bp : Hid ((RS.ok (x :: tt)).is (⟨#[40]⟩ : ByteArray).data.toList = false):=hid (isS_no hkx [] (by decide) hs.2.2)
 have bt : Hid ((RS.ok (x :: tt)).is (⟨#[116,114,117,101]⟩ : ByteArray).data.toList = false):=hid (isN_no hkx (by decide) ht)
 have bf : Hid ((RS.ok (x :: tt)).is (⟨#[102,97,108,115,101]⟩ : ByteArray).data.toList = false):=hid (isN_no hkx (by decide) hf)
 have k0 : (x.k == 0) = false:=by simp [hx]
 have k1 : (x.k == 1) = false:=by simp [hk1]
 obtain ⟨⟨r0,r1,r2,r3,r4⟩,⟨c0,c1,c2,c3⟩,_,_,hi1,hi2,_⟩:=R0.facts
 have S:=hid S0
 have E:=hid E0
 clear hs hx ht hf hk1
 clear R0 E0 S0 hkx hxm
 go_enter Try.func75,Try.ntmps75
 go_upto_region 3 with (fail)
 go_wp2
 go_region
 go_upto_region 6 with (fail)
 refine name_world ?_
 intro W1 hW1
 have hB1 : Below W.heap.size W W1:=by (rw [hW1];(refine Fr.below ?_;(with_reducible repeat first | exact Fr.refl _ _ | refine Fr.alloc ?_ _ | refine Fr.drewN ?_ _ | refine Fr.drew ?_ | (refine Fr.set ?_ ?_ _ _;rotate_left;first | exact .inl rfl | (right;simp;done) | (right;simp;omega) | (right;omega)) | refine Fr.step ?_ (by assumption) | refine Fr.stepB ?_ (by assumption))))
 have F1 : Fr (some rb) W W1:=Fr.of hB1
 have hz1 : W1.heap.size = W.heap.size + 3:=by (rw [hW1];simp)
 have BV1 : Blk W1 W.heap.size (.int .i64 0) (.int .i64 0) (.int .i64 0) (.string ⟨#[]⟩) (.slice none 0 0) (.int .i64 0):=by (rw [hW1];exact ((((Blk.new rfl _ _ _ _ _ _).alloc _).alloc _).drew))
 have BE1 : Blk W1 (W.heap.size + 1 + 1) (.int .i64 0) (.int .i64 0) (.int .i64 0) (.string ⟨#[]⟩) (.slice none 0 0) (.int .i64 x.a):=by (rw [hW1];exact ((Blk.new (by simp) _ _ _ _ _ _).drew))
 have WB1 : WBlk W1 (W.heap.size + 1) x.k x.t x.n x.a:=by (rw [hW1];exact ((WBlk.new (by simp)).alloc _).drew)
 clear hW1 r0 r1 r2 r3 r4 c0 c1 c2 c3
 have hne0 : rb ≠ W.heap.size:=by omega
 have hne1 : rb ≠ W.heap.size + 1:=by omega
 have hne2 : rb ≠ W.heap.size + 1 + 1:=by omega
 have S1:=hid (S.out.stay hB1)
 have E1:=hid (E.out.stay hB1)
 clear S E hi1 hi2
 go_wp2_with (first
  | (go_at_call 62;(with_reducible refine (st_is S1.out E1.out _ false bm.out).mono ?_);rintro e' w2 ⟨rfl,hb2⟩;have S2:=hid (S1.out.stay hb2);have E2:=hid (E1.out.stay hb2);have BE2:=BE1.stay hb2;have BV2:=BV1.stay hb2;have WB2:=WB1.stay hb2;have F2:=F1.stepB hb2;have hz2:=hb2.size;clear BE1 BV1 WB1)
  | (go_at_call 62;(with_reducible refine (st_is S2.out E2.out _ false bn.out).mono ?_);rintro e' w3 ⟨rfl,hb3⟩;have S3:=hid (S2.out.stay hb3);have E3:=hid (E2.out.stay hb3);have BE3:=BE2.stay hb3;have BV3:=BV2.stay hb3;have WB3:=WB2.stay hb3;have F3:=F2.stepB hb3;have hz3:=hb3.size;clear BE2 BV2 WB2)
  | (go_at_call 62;(with_reducible refine (st_is S3.out E3.out _ false bp.out).mono ?_);rintro e' w4 ⟨rfl,hb4⟩;have S4:=hid (S3.out.stay hb4);have E4:=hid (E3.out.stay hb4);have BE4:=BE3.stay hb4;have BV4:=BV3.stay hb4;have WB4:=WB3.stay hb4;have F4:=F3.stepB hb4;have hz4:=hb4.size;clear BE3 BV3 WB3;(obtain ⟨ble4,c0e4,c1e4,c2e4,c3e4,c4e4,c5e4,f0e4,f1e4,f2e4,f3e4,f4e4,f5e4⟩:=(BE4).facts);(obtain ⟨blv4,c0v4,c1v4,c2v4,c3v4,c4v4,c5v4,f0v4,f1v4,f2v4,f3v4,f4v4,f5v4⟩:=(BV4).facts);obtain ⟨y04,y14,y24,y34,y44⟩:=WB4.facts)
  | (go_at_call 62;(with_reducible refine (st_is S4.out E4.out _ false bt.out).mono ?_);rintro e' w5 ⟨rfl,hb5⟩;have S5:=hid (S4.out.stay hb5);have E5:=hid (E4.out.stay hb5);have BE5:=BE4.stay hb5;have BV5:=BV4.stay hb5;have WB5:=WB4.stay hb5;have F5:=F4.stepB hb5;have hz5:=hb5.size;clear BE4 BV4 WB4)
  | (go_at_call 62;(with_reducible refine (st_is S5.out E5.out _ false bf.out).mono ?_);rintro e' w6 ⟨rfl,hb6⟩;have S6:=hid (S5.out.stay hb6);have E6:=hid (E5.out.stay hb6);have BE6:=BE5.stay hb6;have BV6:=BV5.stay hb6;have WB6:=WB5.stay hb6;have F6:=F5.stepB hb6;have hz6:=hb6.size;clear BE5 BV5 WB5;(obtain ⟨ble6,c0e6,c1e6,c2e6,c3e6,c4e6,c5e6,f0e6,f1e6,f2e6,f3e6,f4e6,f5e6⟩:=(BE6).facts);(obtain ⟨blv6,c0v6,c1v6,c2v6,c3v6,c4v6,c5v6,f0v6,f1v6,f2v6,f3v6,f4v6,f5v6⟩:=(BV6).facts);obtain ⟨y06,y16,y26,y36,y46⟩:=WB6.facts)
  | (go_at_call 70;(with_reducible refine (st_fail S6.out E6.out 11 (by decide)).mono ?_);rintro e' w8 ⟨rfl,hs8,hf8⟩;have BE8:=BE6.fr hf8 (Ne.symm hne2);have BV8:=BV6.fr hf8 (Ne.symm hne0);have WB8:=WB6.fr hf8 (Ne.symm hne1);have F8:=F6.step hf8;have hz8:=Fr.size hf8;clear BE6 BV6 WB6;(obtain ⟨ble8,c0e8,c1e8,c2e8,c3e8,c4e8,c5e8,f0e8,f1e8,f2e8,f3e8,f4e8,f5e8⟩:=(BE8).facts);(obtain ⟨blv8,c0v8,c1v8,c2v8,c3v8,c4v8,c5v8,f0v8,f1v8,f2v8,f3v8,f4v8,f5v8⟩:=(BV8).facts);obtain ⟨y08,y18,y28,y38,y48⟩:=WB8.facts))
 refine bodyPost_ret (results_ex rfl _ rfl ((BV8.all _ _ _ _ _ _))) rfl ⟨by (with_reducible repeat first | exact Fr.refl _ _ | refine Fr.alloc ?_ _ | refine Fr.drewN ?_ _ | refine Fr.drew ?_ | (refine Fr.set ?_ ?_ _ _;rotate_left;first | exact .inl rfl | (right;simp;done) | (right;simp;omega) | (right;omega)) | refine Fr.step ?_ (by assumption) | refine Fr.stepB ?_ (by assumption)),?_,_,_,_,_,_,_,_,_,rfl,GoodEx.bad⟩
 have hs8' : StR w8 rb g cap ws o (.bad 11 x.a):=hs8
 show StR _ rb g cap ws o (.bad 11 x.a)
 (with_reducible repeat first | exact hs8' | refine StR.alloc ?_ _ | refine StR.drewN ?_ _ | refine StR.drew ?_ | refine StR.setO ?_ (by first | assumption | omega) _ _ | refine StR.stay ?_ (by assumption))
theorem rth_neglim (rb g : Nat) (ws : List Wd) (x : Wd) (tt : List Wd) (hs : Sg x [45]) : SndR rb g ws 75 #[.pointer (some ⟨rb,0,none⟩)] 32 (x :: tt) (.bad 2 x.a):=by
 intro W cap E0 S0
 have hrl:=S0.lt
 have hgl:=E0.wc.lt
 obtain ⟨i,a,R0,_,_,_,hxm⟩:=S0.ok_cells E0
 have hkx : KOk x:=E0.kok x hxm
 have bm : Hid ((RS.ok (x :: tt)).is (⟨#[45]⟩ : ByteArray).data.toList = true):=hid (isS_yes hs)
 obtain ⟨⟨r0,r1,r2,r3,r4⟩,⟨c0,c1,c2,c3⟩,_,_,hi1,hi2,_⟩:=R0.facts
 have S:=hid S0
 have E:=hid E0
 clear hs
 clear R0 E0 S0 hkx hxm
 go_enter Try.func75,Try.ntmps75
 go_upto_region 3 with (fail)
 go_wp2
 go_region
 go_upto_region 6 with (fail)
 refine name_world ?_
 intro W1 hW1
 have hB1 : Below W.heap.size W W1:=by (rw [hW1];(refine Fr.below ?_;(with_reducible repeat first | exact Fr.refl _ _ | refine Fr.alloc ?_ _ | refine Fr.drewN ?_ _ | refine Fr.drew ?_ | (refine Fr.set ?_ ?_ _ _;rotate_left;first | exact .inl rfl | (right;simp;done) | (right;simp;omega) | (right;omega)) | refine Fr.step ?_ (by assumption) | refine Fr.stepB ?_ (by assumption))))
 have F1 : Fr (some rb) W W1:=Fr.of hB1
 have hz1 : W1.heap.size = W.heap.size + 3:=by (rw [hW1];simp)
 have BV1 : Blk W1 W.heap.size (.int .i64 0) (.int .i64 0) (.int .i64 0) (.string ⟨#[]⟩) (.slice none 0 0) (.int .i64 0):=by (rw [hW1];exact ((((Blk.new rfl _ _ _ _ _ _).alloc _).alloc _).drew))
 have BE1 : Blk W1 (W.heap.size + 1 + 1) (.int .i64 0) (.int .i64 0) (.int .i64 0) (.string ⟨#[]⟩) (.slice none 0 0) (.int .i64 x.a):=by (rw [hW1];exact ((Blk.new (by simp) _ _ _ _ _ _).drew))
 have WB1 : WBlk W1 (W.heap.size + 1) x.k x.t x.n x.a:=by (rw [hW1];exact ((WBlk.new (by simp)).alloc _).drew)
 clear hW1 r0 r1 r2 r3 r4 c0 c1 c2 c3
 have hne0 : rb ≠ W.heap.size:=by omega
 have hne1 : rb ≠ W.heap.size + 1:=by omega
 have hne2 : rb ≠ W.heap.size + 1 + 1:=by omega
 have S1:=hid (S.out.stay hB1)
 have E1:=hid (E.out.stay hB1)
 clear S E hi1 hi2
 go_wp2_with (first
  | (go_at_call 62;(with_reducible refine (st_is S1.out E1.out _ true bm.out).mono ?_);rintro e' w2 ⟨rfl,hb2⟩;have S2:=hid (S1.out.stay hb2);have E2:=hid (E1.out.stay hb2);have BE2:=BE1.stay hb2;have BV2:=BV1.stay hb2;have WB2:=WB1.stay hb2;have F2:=F1.stepB hb2;have hz2:=hb2.size;clear BE1 BV1 WB1)
  | (go_at_call 78;(with_reducible refine (renter_lim S2 E2).mono ?_);rintro e' w3 ⟨rfl,hs3,hf3⟩;have BE3:=BE2.fr hf3 (Ne.symm hne2);have BV3:=BV2.fr hf3 (Ne.symm hne0);have WB3:=WB2.fr hf3 (Ne.symm hne1);have F3:=F2.step hf3;have hz3:=Fr.size hf3;clear BE2 BV2 WB2;(obtain ⟨ble3,c0e3,c1e3,c2e3,c3e3,c4e3,c5e3,f0e3,f1e3,f2e3,f3e3,f4e3,f5e3⟩:=(BE3).facts);(obtain ⟨blv3,c0v3,c1v3,c2v3,c3v3,c4v3,c5v3,f0v3,f1v3,f2v3,f3v3,f4v3,f5v3⟩:=(BV3).facts);obtain ⟨y03,y13,y23,y33,y43⟩:=WB3.facts))
 refine bodyPost_ret (results_ex rfl _ rfl ((BV3.all _ _ _ _ _ _))) rfl ⟨by (with_reducible repeat first | exact Fr.refl _ _ | refine Fr.alloc ?_ _ | refine Fr.drewN ?_ _ | refine Fr.drew ?_ | (refine Fr.set ?_ ?_ _ _;rotate_left;first | exact .inl rfl | (right;simp;done) | (right;simp;omega) | (right;omega)) | refine Fr.step ?_ (by assumption) | refine Fr.stepB ?_ (by assumption)),?_,_,_,_,_,_,_,_,_,rfl,GoodEx.bad⟩
 have hs9 : StR w3 rb g cap ws 32 (.bad 2 x.a):=hs3
 show StR _ rb g cap ws 32 (.bad 2 x.a)
 (with_reducible repeat first | exact hs9 | refine StR.alloc ?_ _ | refine StR.drewN ?_ _ | refine StR.drew ?_ | refine StR.setO ?_ (by first | assumption | omega) _ _ | refine StR.stay ?_ (by assumption))
theorem rth_notlim (rb g : Nat) (ws : List Wd) (x : Wd) (tt : List Wd) (hs : Sg x [33]) : SndR rb g ws 75 #[.pointer (some ⟨rb,0,none⟩)] 32 (x :: tt) (.bad 2 x.a):=by
 intro W cap E0 S0
 have hrl:=S0.lt
 have hgl:=E0.wc.lt
 obtain ⟨i,a,R0,_,_,_,hxm⟩:=S0.ok_cells E0
 have hkx : KOk x:=E0.kok x hxm
 have bm : Hid ((RS.ok (x :: tt)).is (⟨#[45]⟩ : ByteArray).data.toList = false):=hid (isS_no hkx [] (by decide) (nsgt hs.2 (by decide)))
 have bn : Hid ((RS.ok (x :: tt)).is (⟨#[33]⟩ : ByteArray).data.toList = true):=hid (isS_yes hs)
 obtain ⟨⟨r0,r1,r2,r3,r4⟩,⟨c0,c1,c2,c3⟩,_,_,hi1,hi2,_⟩:=R0.facts
 have S:=hid S0
 have E:=hid E0
 clear hs
 clear R0 E0 S0 hkx hxm
 go_enter Try.func75,Try.ntmps75
 go_upto_region 3 with (fail)
 go_wp2
 go_region
 go_upto_region 6 with (fail)
 refine name_world ?_
 intro W1 hW1
 have hB1 : Below W.heap.size W W1:=by (rw [hW1];(refine Fr.below ?_;(with_reducible repeat first | exact Fr.refl _ _ | refine Fr.alloc ?_ _ | refine Fr.drewN ?_ _ | refine Fr.drew ?_ | (refine Fr.set ?_ ?_ _ _;rotate_left;first | exact .inl rfl | (right;simp;done) | (right;simp;omega) | (right;omega)) | refine Fr.step ?_ (by assumption) | refine Fr.stepB ?_ (by assumption))))
 have F1 : Fr (some rb) W W1:=Fr.of hB1
 have hz1 : W1.heap.size = W.heap.size + 3:=by (rw [hW1];simp)
 have BV1 : Blk W1 W.heap.size (.int .i64 0) (.int .i64 0) (.int .i64 0) (.string ⟨#[]⟩) (.slice none 0 0) (.int .i64 0):=by (rw [hW1];exact ((((Blk.new rfl _ _ _ _ _ _).alloc _).alloc _).drew))
 have BE1 : Blk W1 (W.heap.size + 1 + 1) (.int .i64 0) (.int .i64 0) (.int .i64 0) (.string ⟨#[]⟩) (.slice none 0 0) (.int .i64 x.a):=by (rw [hW1];exact ((Blk.new (by simp) _ _ _ _ _ _).drew))
 have WB1 : WBlk W1 (W.heap.size + 1) x.k x.t x.n x.a:=by (rw [hW1];exact ((WBlk.new (by simp)).alloc _).drew)
 clear hW1 r0 r1 r2 r3 r4 c0 c1 c2 c3
 have hne0 : rb ≠ W.heap.size:=by omega
 have hne1 : rb ≠ W.heap.size + 1:=by omega
 have hne2 : rb ≠ W.heap.size + 1 + 1:=by omega
 have S1:=hid (S.out.stay hB1)
 have E1:=hid (E.out.stay hB1)
 clear S E hi1 hi2
 go_wp2_with (first
  | (go_at_call 62;(with_reducible refine (st_is S1.out E1.out _ false bm.out).mono ?_);rintro e' w2 ⟨rfl,hb2⟩;have S2:=hid (S1.out.stay hb2);have E2:=hid (E1.out.stay hb2);have BE2:=BE1.stay hb2;have BV2:=BV1.stay hb2;have WB2:=WB1.stay hb2;have F2:=F1.stepB hb2;have hz2:=hb2.size;clear BE1 BV1 WB1)
  | (go_at_call 62;(with_reducible refine (st_is S2.out E2.out _ true bn.out).mono ?_);rintro e' w3 ⟨rfl,hb3⟩;have S3:=hid (S2.out.stay hb3);have E3:=hid (E2.out.stay hb3);have BE3:=BE2.stay hb3;have BV3:=BV2.stay hb3;have WB3:=WB2.stay hb3;have F3:=F2.stepB hb3;have hz3:=hb3.size;clear BE2 BV2 WB2)
  | (go_at_call 78;(with_reducible refine (renter_lim S3 E3).mono ?_);rintro e' w4 ⟨rfl,hs4,hf4⟩;have BE4:=BE3.fr hf4 (Ne.symm hne2);have BV4:=BV3.fr hf4 (Ne.symm hne0);have WB4:=WB3.fr hf4 (Ne.symm hne1);have F4:=F3.step hf4;have hz4:=Fr.size hf4;clear BE3 BV3 WB3;(obtain ⟨ble4,c0e4,c1e4,c2e4,c3e4,c4e4,c5e4,f0e4,f1e4,f2e4,f3e4,f4e4,f5e4⟩:=(BE4).facts);(obtain ⟨blv4,c0v4,c1v4,c2v4,c3v4,c4v4,c5v4,f0v4,f1v4,f2v4,f3v4,f4v4,f5v4⟩:=(BV4).facts);obtain ⟨y04,y14,y24,y34,y44⟩:=WB4.facts))
 refine bodyPost_ret (results_ex rfl _ rfl ((BV4.all _ _ _ _ _ _))) rfl ⟨by (with_reducible repeat first | exact Fr.refl _ _ | refine Fr.alloc ?_ _ | refine Fr.drewN ?_ _ | refine Fr.drew ?_ | (refine Fr.set ?_ ?_ _ _;rotate_left;first | exact .inl rfl | (right;simp;done) | (right;simp;omega) | (right;omega)) | refine Fr.step ?_ (by assumption) | refine Fr.stepB ?_ (by assumption)),?_,_,_,_,_,_,_,_,_,rfl,GoodEx.bad⟩
 have hs9 : StR w4 rb g cap ws 32 (.bad 2 x.a):=hs4
 show StR _ rb g cap ws 32 (.bad 2 x.a)
 (with_reducible repeat first | exact hs9 | refine StR.alloc ?_ _ | refine StR.drewN ?_ _ | refine StR.drew ?_ | refine StR.setO ?_ (by first | assumption | omega) _ _ | refine StR.stay ?_ (by assumption))
theorem rth_parlim (rb g : Nat) (ws : List Wd) (x : Wd) (tt : List Wd) (hs : Sg x [40]) : SndR rb g ws 75 #[.pointer (some ⟨rb,0,none⟩)] 32 (x :: tt) (.bad 2 x.a):=by
 intro W cap E0 S0
 have hrl:=S0.lt
 have hgl:=E0.wc.lt
 obtain ⟨i,a,R0,_,_,_,hxm⟩:=S0.ok_cells E0
 have hkx : KOk x:=E0.kok x hxm
 have bm : Hid ((RS.ok (x :: tt)).is (⟨#[45]⟩ : ByteArray).data.toList = false):=hid (isS_no hkx [] (by decide) (nsgt hs.2 (by decide)))
 have bn : Hid ((RS.ok (x :: tt)).is (⟨#[33]⟩ : ByteArray).data.toList = false):=hid (isS_no hkx [] (by decide) (nsgt hs.2 (by decide)))
 have bp : Hid ((RS.ok (x :: tt)).is (⟨#[40]⟩ : ByteArray).data.toList = true):=hid (isS_yes hs)
 obtain ⟨⟨r0,r1,r2,r3,r4⟩,⟨c0,c1,c2,c3⟩,_,_,hi1,hi2,_⟩:=R0.facts
 have S:=hid S0
 have E:=hid E0
 clear hs
 clear R0 E0 S0 hkx hxm
 go_enter Try.func75,Try.ntmps75
 go_upto_region 3 with (fail)
 go_wp2
 go_region
 go_upto_region 6 with (fail)
 refine name_world ?_
 intro W1 hW1
 have hB1 : Below W.heap.size W W1:=by (rw [hW1];(refine Fr.below ?_;(with_reducible repeat first | exact Fr.refl _ _ | refine Fr.alloc ?_ _ | refine Fr.drewN ?_ _ | refine Fr.drew ?_ | (refine Fr.set ?_ ?_ _ _;rotate_left;first | exact .inl rfl | (right;simp;done) | (right;simp;omega) | (right;omega)) | refine Fr.step ?_ (by assumption) | refine Fr.stepB ?_ (by assumption))))
 have F1 : Fr (some rb) W W1:=Fr.of hB1
 have hz1 : W1.heap.size = W.heap.size + 3:=by (rw [hW1];simp)
 have BV1 : Blk W1 W.heap.size (.int .i64 0) (.int .i64 0) (.int .i64 0) (.string ⟨#[]⟩) (.slice none 0 0) (.int .i64 0):=by (rw [hW1];exact ((((Blk.new rfl _ _ _ _ _ _).alloc _).alloc _).drew))
 have BE1 : Blk W1 (W.heap.size + 1 + 1) (.int .i64 0) (.int .i64 0) (.int .i64 0) (.string ⟨#[]⟩) (.slice none 0 0) (.int .i64 x.a):=by (rw [hW1];exact ((Blk.new (by simp) _ _ _ _ _ _).drew))
 have WB1 : WBlk W1 (W.heap.size + 1) x.k x.t x.n x.a:=by (rw [hW1];exact ((WBlk.new (by simp)).alloc _).drew)
 clear hW1 r0 r1 r2 r3 r4 c0 c1 c2 c3
 have hne0 : rb ≠ W.heap.size:=by omega
 have hne1 : rb ≠ W.heap.size + 1:=by omega
 have hne2 : rb ≠ W.heap.size + 1 + 1:=by omega
 have S1:=hid (S.out.stay hB1)
 have E1:=hid (E.out.stay hB1)
 clear S E hi1 hi2
 go_wp2_with (first
  | (go_at_call 62;(with_reducible refine (st_is S1.out E1.out _ false bm.out).mono ?_);rintro e' w2 ⟨rfl,hb2⟩;have S2:=hid (S1.out.stay hb2);have E2:=hid (E1.out.stay hb2);have BE2:=BE1.stay hb2;have BV2:=BV1.stay hb2;have WB2:=WB1.stay hb2;have F2:=F1.stepB hb2;have hz2:=hb2.size;clear BE1 BV1 WB1)
  | (go_at_call 62;(with_reducible refine (st_is S2.out E2.out _ false bn.out).mono ?_);rintro e' w3 ⟨rfl,hb3⟩;have S3:=hid (S2.out.stay hb3);have E3:=hid (E2.out.stay hb3);have BE3:=BE2.stay hb3;have BV3:=BV2.stay hb3;have WB3:=WB2.stay hb3;have F3:=F2.stepB hb3;have hz3:=hb3.size;clear BE2 BV2 WB2)
  | (go_at_call 62;(with_reducible refine (st_is S3.out E3.out _ true bp.out).mono ?_);rintro e' w4 ⟨rfl,hb4⟩;have S4:=hid (S3.out.stay hb4);have E4:=hid (E3.out.stay hb4);have BE4:=BE3.stay hb4;have BV4:=BV3.stay hb4;have WB4:=WB3.stay hb4;have F4:=F3.stepB hb4;have hz4:=hb4.size;clear BE3 BV3 WB3)
  | (go_at_call 78;(with_reducible refine (renter_lim S4 E4).mono ?_);rintro e' w5 ⟨rfl,hs5,hf5⟩;have BE5:=BE4.fr hf5 (Ne.symm hne2);have BV5:=BV4.fr hf5 (Ne.symm hne0);have WB5:=WB4.fr hf5 (Ne.symm hne1);have F5:=F4.step hf5;have hz5:=Fr.size hf5;clear BE4 BV4 WB4;(obtain ⟨ble5,c0e5,c1e5,c2e5,c3e5,c4e5,c5e5,f0e5,f1e5,f2e5,f3e5,f4e5,f5e5⟩:=(BE5).facts);(obtain ⟨blv5,c0v5,c1v5,c2v5,c3v5,c4v5,c5v5,f0v5,f1v5,f2v5,f3v5,f4v5,f5v5⟩:=(BV5).facts);obtain ⟨y05,y15,y25,y35,y45⟩:=WB5.facts))
 refine bodyPost_ret (results_ex rfl _ rfl ((BV5.all _ _ _ _ _ _))) rfl ⟨by (with_reducible repeat first | exact Fr.refl _ _ | refine Fr.alloc ?_ _ | refine Fr.drewN ?_ _ | refine Fr.drew ?_ | (refine Fr.set ?_ ?_ _ _;rotate_left;first | exact .inl rfl | (right;simp;done) | (right;simp;omega) | (right;omega)) | refine Fr.step ?_ (by assumption) | refine Fr.stepB ?_ (by assumption)),?_,_,_,_,_,_,_,_,_,rfl,GoodEx.bad⟩
 have hs9 : StR w5 rb g cap ws 32 (.bad 2 x.a):=hs5
 show StR _ rb g cap ws 32 (.bad 2 x.a)
 (with_reducible repeat first | exact hs9 | refine StR.alloc ?_ _ | refine StR.drewN ?_ _ | refine StR.drew ?_ | refine StR.setO ?_ (by first | assumption | omega) _ _ | refine StR.stay ?_ (by assumption))
def BehEnd (k : Int) (a : Nat) : Res → Res → Prop
 | .ok e ts',r => r = .ok (.mk k 0 0 [] [e] a) ts'
 | .bad c b,r => r = .bad c b
 | _,_ => False
theorem BehEnd.st {k : Int} {a : Nat} {r2 r : Res} (h : BehEnd k a r2 r) : r2.st = r.st:=by
 cases r2 with
 | ok => exact (show r = _ from h) ▸ rfl
 | okL => exact h.elim
 | bad => exact (show r = _ from h) ▸ rfl
theorem BehEnd.inv {k : Int} {a : Nat} {r2 r : Res} (h : BehEnd k a r2 r) {x : Ex} {ts' : List Wd} (hr : r = .ok x ts') : ∃ e,r2 = .ok e ts' ∧ x = .mk k 0 0 [] [e] a:=by
 cases r2 with
 | ok e ts =>
  have h' : r = _:=h
  rw [hr] at h'
  cases h'
  exact ⟨e,rfl,rfl⟩
 | okL => exact h.elim
 | bad =>
  have h' : r = _:=h
  rw [hr] at h'
  cases h'
theorem rth_neg (rb g : Nat) (ws : List Wd) (o : Nat) (x : Wd) (tt : List Wd) (r2 r : Res) (ho : o < 32) (hs : Sg x [45]) (H2 : SndR rb g ws 75 #[.pointer (some ⟨rb,0,none⟩)] (o + 1) tt r2) (hr : BehEnd 4 x.a r2 r) : SndR rb g ws 75 #[.pointer (some ⟨rb,0,none⟩)] o (x :: tt) r:=by
 have HH2:=hid H2
 clear H2
 intro W cap E0 S0
 have hrl:=S0.lt
 have hgl:=E0.wc.lt
 obtain ⟨i,a,R0,_,_,_,hxm⟩:=S0.ok_cells E0
 have hkx : KOk x:=E0.kok x hxm
 have bm : Hid ((RS.ok (x :: tt)).is (⟨#[45]⟩ : ByteArray).data.toList = true):=hid (isS_yes hs)
 have hx3 : Hid (x.k ≠ 3):=hid hs.ne
 have t1 : ((bstr x.t).toList == [33]) = false:=by (rw [ByteArray.toList_eq];show (x.t == _) = _;rw [hs.2];decide)
 obtain ⟨⟨r0,r1,r2,r3,r4⟩,⟨c0,c1,c2,c3⟩,_,_,hi1,hi2,_⟩:=R0.facts
 have S:=hid S0
 have E:=hid E0
 clear hs
 clear R0 E0 S0 hkx hxm
 go_enter Try.func75,Try.ntmps75
 go_upto_region 3 with (fail)
 go_wp2
 go_region
 go_upto_region 6 with (fail)
 refine name_world ?_
 intro W1 hW1
 have hB1 : Below W.heap.size W W1:=by (rw [hW1];(refine Fr.below ?_;(with_reducible repeat first | exact Fr.refl _ _ | refine Fr.alloc ?_ _ | refine Fr.drewN ?_ _ | refine Fr.drew ?_ | (refine Fr.set ?_ ?_ _ _;rotate_left;first | exact .inl rfl | (right;simp;done) | (right;simp;omega) | (right;omega)) | refine Fr.step ?_ (by assumption) | refine Fr.stepB ?_ (by assumption))))
 have F1 : Fr (some rb) W W1:=Fr.of hB1
 have hz1 : W1.heap.size = W.heap.size + 3:=by (rw [hW1];simp)
 have BV1 : Blk W1 W.heap.size (.int .i64 0) (.int .i64 0) (.int .i64 0) (.string ⟨#[]⟩) (.slice none 0 0) (.int .i64 0):=by (rw [hW1];exact ((((Blk.new rfl _ _ _ _ _ _).alloc _).alloc _).drew))
 have BE1 : Blk W1 (W.heap.size + 1 + 1) (.int .i64 0) (.int .i64 0) (.int .i64 0) (.string ⟨#[]⟩) (.slice none 0 0) (.int .i64 x.a):=by (rw [hW1];exact ((Blk.new (by simp) _ _ _ _ _ _).drew))
 have WB1 : WBlk W1 (W.heap.size + 1) x.k x.t x.n x.a:=by (rw [hW1];exact ((WBlk.new (by simp)).alloc _).drew)
 clear hW1 r0 r1 r2 r3 r4 c0 c1 c2 c3
 have hne0 : rb ≠ W.heap.size:=by omega
 have hne1 : rb ≠ W.heap.size + 1:=by omega
 have hne2 : rb ≠ W.heap.size + 1 + 1:=by omega
 have S1:=hid (S.out.stay hB1)
 have E1:=hid (E.out.stay hB1)
 clear S E hi1 hi2
 obtain ⟨i0,hinf,hzi0,hzi1,hzi2⟩:=info_parts infoEx
 go_upto_region 13 with (first
  | (go_at_call 62;(with_reducible refine (st_is S1.out E1.out _ true bm.out).mono ?_);rintro e' w2 ⟨rfl,hb2⟩;have S2:=hid (S1.out.stay hb2);have E2:=hid (E1.out.stay hb2);have BE2:=BE1.stay hb2;have BV2:=BV1.stay hb2;have WB2:=WB1.stay hb2;have F2:=F1.stepB hb2;have hz2:=hb2.size;clear BE1 BV1 WB1)
  | (go_at_call 78;(with_reducible refine (renter_ok S2.out E2.out hx3.out ho).mono ?_);rintro e' w3 ⟨rfl,hs3,hf3⟩;have E3:=hid (E2.out.kept hf3);have BE3:=BE2.fr hf3 (Ne.symm hne2);have BV3:=BV2.fr hf3 (Ne.symm hne0);have WB3:=WB2.fr hf3 (Ne.symm hne1);have F3:=F2.step hf3;have hz3:=Fr.size hf3;clear BE2 BV2 WB2;(obtain ⟨ble3,c0e3,c1e3,c2e3,c3e3,c4e3,c5e3,f0e3,f1e3,f2e3,f3e3,f4e3,f5e3⟩:=(BE3).facts);(obtain ⟨blv3,c0v3,c1v3,c2v3,c3v3,c4v3,c5v3,f0v3,f1v3,f2v3,f3v3,f4v3,f5v3⟩:=(BV3).facts);obtain ⟨y03,y13,y23,y33,y43⟩:=WB3.facts))
 refine name_world ?_
 intro W4 hW4
 have BEq : Blk W4 (W.heap.size + 1 + 1) (.int .i64 4) (.int .i64 0) (.int .i64 0) (.string ⟨#[]⟩) (.slice none 0 0) (.int .i64 x.a):=by (rw [hW4];exact BE3.set0 _)
 have BVq : Blk W4 W.heap.size (.int .i64 0) (.int .i64 0) (.int .i64 0) (.string ⟨#[]⟩) (.slice none 0 0) (.int .i64 0):=by (rw [hW4];exact (BV3).setO (by omega) _ _)
 have Sq:=hid (show StR W4 rb g cap ws ((o + 1 : Nat) : Int) (.ok tt) by (rw [hW4];exact (hs3).setO hne2 _ _))
 have Eq_ : Hid (EnvR rb g ws W4):=hid (by (rw [hW4];exact (E3.out).setO (by omega) _ _))
 have hFW4 : Fr (some rb) W W4:=by (rw [hW4];exact (F3).set (.inr (by omega)) _ _)
 have hz4 : W.heap.size + 3 ≤ W4.heap.size:=by (rw [hW4];simp;omega)
 clear hW4 BE3 BV3 WB3 hs3 hf3 S1 E1
 obtain ⟨blh,c0h,c1h,c2h,c3h,c4h,c5h,f0h,f1h,f2h,f3h,f4h,f5h⟩:=(BEq).facts
 go_region_law (first
  | (refine step_append_lies _ (by rfl) _ _ _ (by rfl) W4.heap.size 63 i0 _ 6 72 Try.underlying61 hinf hzi0 hzi1 hzi2 rfl (by decide) _ 0 [] (by rfl) (World.ownsRow_nil _ _ _ _) ⟨_,0,none⟩ 1 1 (rawL k5 q5 n5 nm5 p5 l5 c5 a5) (by rfl) (by rfl) (World.news_of_block (heap_alloc_new _ _)) (rawL_one _ _ _ _ _ _ _ _) (by decide) (by unfold maxLen;omega) (by omega) (by simp;omega) _ rfl ?_;intro gg cap6 w6 hown6 hgrow6 hor6 hlt6;have hgr6 : World.grownBy _ w6 none:=hgrow6;have BE6:=(BE5.alloc (.cells #[.int .i64 k5,.int .i64 q5,.int .i64 n5,.string nm5,.slice p5 l5 c5,.int .i64 a5] 63)).grown hgr6;(obtain ⟨blj,c0j,c1j,c2j,c3j,c4j,c5j,f0j,f1j,f2j,f3j,f4j,f5j⟩:=(BE6).facts))
  | (go_simp;go_at_call 75;(with_reducible refine (HH2.out.use _ cap (Eq_.out.stay (by (refine Fr.below ?_;(with_reducible repeat first | exact Fr.refl _ _ | refine Fr.alloc ?_ _ | refine Fr.drewN ?_ _ | refine Fr.drew ?_ | (refine Fr.set ?_ ?_ _ _;rotate_left;first | exact .inl rfl | (right;simp;done) | (right;simp;omega) | (right;omega)) | refine Fr.step ?_ (by assumption) | refine Fr.stepB ?_ (by assumption))))) (by (with_reducible repeat first | exact Sq.out | refine StR.alloc ?_ _ | refine StR.drewN ?_ _ | refine StR.drew ?_ | refine StR.setO ?_ (by first | assumption | omega) _ _ | refine StR.stay ?_ (by assumption)))).mono ?_);rintro e5 w5 ⟨hf5,hs5,k5,q5,n5,nm5,p5,l5,c5,a5,rfl,hg5⟩;have hz5a:=Fr.size hf5;(try simp only [World.size_drew] at hz5a);have BE5:=BEq.drew.fr hf5 (Ne.symm hne2);(obtain ⟨bli,c0i,c1i,c2i,c3i,c4i,c5i,f0i,f1i,f2i,f3i,f4i,f5i⟩:=(BE5).facts)))
 all_goals go_upto_region 14 with (fail)
 all_goals refine name_world ?_
 all_goals
  intro W7 hW7
  have hgg : gg = (w5.alloc (.cells #[.int .i64 k5,.int .i64 q5,.int .i64 n5,.string nm5,.slice p5 l5 c5,.int .i64 a5] 63)).heap.size:=by (rcases hor6 with h | h;(cases h);exact h)
  have hz5:=Fr.size hf5
  simp at hz5 hgg
  have hge : gg ≠ W.heap.size + 1 + 1:=by omega
  have BE7 : Blk W7 (W.heap.size + 1 + 1) (.int .i64 4) (.int .i64 0) (.int .i64 0) (.string ⟨#[]⟩) (.slice (some ⟨gg,0,none⟩) 1 cap6) (.int .i64 x.a):=by (rw [hW7];exact BE6.set4 _)
  have BV7 : Blk W7 W.heap.size (.int .i64 0) (.int .i64 0) (.int .i64 0) (.string ⟨#[]⟩) (.slice none 0 0) (.int .i64 0):=by (rw [hW7];exact (((BVq.drew.fr hf5 (Ne.symm hne0)).alloc _).grown hgr6).setO (by omega) _ _)
  obtain ⟨O,hO⟩ : ∃ O : Int,O = ((o + 1 : Nat) : Int):=⟨_,rfl⟩
  rw [← hO] at hs5
  have S7 : Hid (StR W7 rb g cap ws O r2.st):=hid (by (rw [hW7];exact ((hs5.alloc _).grown hgr6).setO hne2 _ _))
  have hFW6 : Fr (some rb) W w6:=Fr.stepOwn (v:=.slice none 0 0) (((hFW4.drew).step hf5).alloc _) hgrow6 (fun j e => by cases e)
  have hFW7 : Fr (some rb) W W7:=by (rw [hW7];exact hFW6.set (.inr (by omega)) _ _)
  change GoodEx W4.heap.size w5 r2 k5 q5 n5 nm5 p5 l5 c5 a5 at hg5
  have X7 : Hid (∀ e ts,r2 = .ok e ts → IsEx W4.heap.size W7 (.mk 4 0 0 [] [e] x.a) (.slice (some ⟨gg,0,none⟩) 1 cap6)):=hid (by
   intro e ts he
   rw [hW7]
   exact (one_row (hg5.stay ((Below.refl _ _).alloc (Nat.le_refl _) _)) he hown6 hgr6 (by simp;omega) 4 0 0 [] x.a).set (by omega) _ _)
  have HO:=hid hO
  have hz7:=Fr.size hFW7
  obtain ⟨i8,c8,a8,hr8,_,_⟩:=S7.out.rd
  obtain ⟨q0,q1,q2,q3,q4⟩:=hr8.cells
  have hl8:=hr8.lt
  have hfz8:=hr8.frozen 2
  clear hO hW7 hs5 hf5 hown6 hgrow6 hgr6 hor6 BE6 BE5 BEq BVq Sq Eq_ hg5 hgg hz5 hr8
  obtain ⟨blk,c0k,c1k,c2k,c3k,c4k,c5k,f0k,f1k,f2k,f3k,f4k,f5k⟩:=(BE7).facts
  obtain ⟨bll,c0l,c1l,c2l,c3l,c4l,c5l,f0l,f1l,f2l,f3l,f4l,f5l⟩:=(BV7).facts
  go_wp2
  refine bodyPost_ret (results_ex rfl _ rfl ((BV7.setO (Ne.symm hne0) _ _).all _ _ _ _ _ _)) rfl ⟨by (with_reducible repeat first | exact Fr.refl _ _ | refine Fr.alloc ?_ _ | refine Fr.drewN ?_ _ | refine Fr.drew ?_ | (refine Fr.set ?_ ?_ _ _;rotate_left;first | exact .inl rfl | (right;simp;done) | (right;simp;omega) | (right;omega)) | refine Fr.step ?_ (by assumption) | refine Fr.stepB ?_ (by assumption)),?_,_,_,_,_,_,_,_,_,rfl,?_⟩
  · have hs9 : StR (W7.setCell ⟨rb,2,none⟩ (.int .i64 (wrap64 (O - 1)))) rb g cap ws o r.st:=by (rw [← hr.st,HO.out];exact st_dec (HO.out ▸ S7.out) (by omega))
    (with_reducible repeat first | exact hs9 | refine StR.alloc ?_ _ | refine StR.drewN ?_ _ | refine StR.drew ?_ | refine StR.setO ?_ (by first | assumption | omega) _ _ | refine StR.stay ?_ (by assumption))
  · intro x' ts' e
    obtain ⟨e0,h8,rfl⟩:=hr.inv e
    have h9:=(X7.out e0 _ h8).set (show rb < W4.heap.size by omega) 2 (.int .i64 (wrap64 (O - 1)))
    refine ⟨rfl,rfl,rfl,rfl,rfl,rfl,IsEx.low (lo:=W4.heap.size) ?_ (by omega)⟩
    exact (((((h9.set (by omega) _ _).set (by omega) _ _).set (by omega) _ _).set (by omega) _ _).set (by omega) _ _).set (by omega) _ _
theorem rth_not (rb g : Nat) (ws : List Wd) (o : Nat) (x : Wd) (tt : List Wd) (r2 r : Res) (ho : o < 32) (hs : Sg x [33]) (H2 : SndR rb g ws 75 #[.pointer (some ⟨rb,0,none⟩)] (o + 1) tt r2) (hr : BehEnd 5 x.a r2 r) : SndR rb g ws 75 #[.pointer (some ⟨rb,0,none⟩)] o (x :: tt) r:=by
 have HH2:=hid H2
 clear H2
 intro W cap E0 S0
 have hrl:=S0.lt
 have hgl:=E0.wc.lt
 obtain ⟨i,a,R0,_,_,_,hxm⟩:=S0.ok_cells E0
 have hkx : KOk x:=E0.kok x hxm
 have bm : Hid ((RS.ok (x :: tt)).is (⟨#[45]⟩ : ByteArray).data.toList = false):=hid (isS_no hkx [] (by decide) (nsgt hs.2 (by decide)))
 have bn : Hid ((RS.ok (x :: tt)).is (⟨#[33]⟩ : ByteArray).data.toList = true):=hid (isS_yes hs)
 have hx3 : Hid (x.k ≠ 3):=hid hs.ne
 have t1 : ((bstr x.t).toList == [33]) = true:=by (rw [ByteArray.toList_eq];show (x.t == _) = _;rw [hs.2];decide)
 obtain ⟨⟨r0,r1,r2,r3,r4⟩,⟨c0,c1,c2,c3⟩,_,_,hi1,hi2,_⟩:=R0.facts
 have S:=hid S0
 have E:=hid E0
 clear hs
 clear R0 E0 S0 hkx hxm
 go_enter Try.func75,Try.ntmps75
 go_upto_region 3 with (fail)
 go_wp2
 go_region
 go_upto_region 6 with (fail)
 refine name_world ?_
 intro W1 hW1
 have hB1 : Below W.heap.size W W1:=by (rw [hW1];(refine Fr.below ?_;(with_reducible repeat first | exact Fr.refl _ _ | refine Fr.alloc ?_ _ | refine Fr.drewN ?_ _ | refine Fr.drew ?_ | (refine Fr.set ?_ ?_ _ _;rotate_left;first | exact .inl rfl | (right;simp;done) | (right;simp;omega) | (right;omega)) | refine Fr.step ?_ (by assumption) | refine Fr.stepB ?_ (by assumption))))
 have F1 : Fr (some rb) W W1:=Fr.of hB1
 have hz1 : W1.heap.size = W.heap.size + 3:=by (rw [hW1];simp)
 have BV1 : Blk W1 W.heap.size (.int .i64 0) (.int .i64 0) (.int .i64 0) (.string ⟨#[]⟩) (.slice none 0 0) (.int .i64 0):=by (rw [hW1];exact ((((Blk.new rfl _ _ _ _ _ _).alloc _).alloc _).drew))
 have BE1 : Blk W1 (W.heap.size + 1 + 1) (.int .i64 0) (.int .i64 0) (.int .i64 0) (.string ⟨#[]⟩) (.slice none 0 0) (.int .i64 x.a):=by (rw [hW1];exact ((Blk.new (by simp) _ _ _ _ _ _).drew))
 have WB1 : WBlk W1 (W.heap.size + 1) x.k x.t x.n x.a:=by (rw [hW1];exact ((WBlk.new (by simp)).alloc _).drew)
 clear hW1 r0 r1 r2 r3 r4 c0 c1 c2 c3
 have hne0 : rb ≠ W.heap.size:=by omega
 have hne1 : rb ≠ W.heap.size + 1:=by omega
 have hne2 : rb ≠ W.heap.size + 1 + 1:=by omega
 have S1:=hid (S.out.stay hB1)
 have E1:=hid (E.out.stay hB1)
 clear S E hi1 hi2
 obtain ⟨i0,hinf,hzi0,hzi1,hzi2⟩:=info_parts infoEx
 go_upto_region 13 with (first
  | (go_at_call 62;(with_reducible refine (st_is S1.out E1.out _ false bm.out).mono ?_);rintro e' w2 ⟨rfl,hb2⟩;have S2:=hid (S1.out.stay hb2);have E2:=hid (E1.out.stay hb2);have BE2:=BE1.stay hb2;have BV2:=BV1.stay hb2;have WB2:=WB1.stay hb2;have F2:=F1.stepB hb2;have hz2:=hb2.size;clear BE1 BV1 WB1)
  | (go_at_call 62;(with_reducible refine (st_is S2.out E2.out _ true bn.out).mono ?_);rintro e' w3 ⟨rfl,hb3⟩;have S3:=hid (S2.out.stay hb3);have E3:=hid (E2.out.stay hb3);have BE3:=BE2.stay hb3;have BV3:=BV2.stay hb3;have WB3:=WB2.stay hb3;have F3:=F2.stepB hb3;have hz3:=hb3.size;clear BE2 BV2 WB2)
  | (go_at_call 78;(with_reducible refine (renter_ok S3.out E3.out hx3.out ho).mono ?_);rintro e' w4 ⟨rfl,hs4,hf4⟩;have E4:=hid (E3.out.kept hf4);have BE4:=BE3.fr hf4 (Ne.symm hne2);have BV4:=BV3.fr hf4 (Ne.symm hne0);have WB4:=WB3.fr hf4 (Ne.symm hne1);have F4:=F3.step hf4;have hz4:=Fr.size hf4;clear BE3 BV3 WB3;(obtain ⟨ble4,c0e4,c1e4,c2e4,c3e4,c4e4,c5e4,f0e4,f1e4,f2e4,f3e4,f4e4,f5e4⟩:=(BE4).facts);(obtain ⟨blv4,c0v4,c1v4,c2v4,c3v4,c4v4,c5v4,f0v4,f1v4,f2v4,f3v4,f4v4,f5v4⟩:=(BV4).facts);obtain ⟨y04,y14,y24,y34,y44⟩:=WB4.facts))
 refine name_world ?_
 intro W4 hW4
 have BEq : Blk W4 (W.heap.size + 1 + 1) (.int .i64 5) (.int .i64 0) (.int .i64 0) (.string ⟨#[]⟩) (.slice none 0 0) (.int .i64 x.a):=by (rw [hW4];exact (BE4.set0 _).set0 _)
 have BVq : Blk W4 W.heap.size (.int .i64 0) (.int .i64 0) (.int .i64 0) (.string ⟨#[]⟩) (.slice none 0 0) (.int .i64 0):=by (rw [hW4];exact ((BV4).setO (by omega) _ _).setO (by omega) _ _)
 have Sq:=hid (show StR W4 rb g cap ws ((o + 1 : Nat) : Int) (.ok tt) by (rw [hW4];exact ((hs4).setO hne2 _ _).setO hne2 _ _))
 have Eq_ : Hid (EnvR rb g ws W4):=hid (by (rw [hW4];exact ((E4.out).setO (by omega) _ _).setO (by omega) _ _))
 have hFW4 : Fr (some rb) W W4:=by (rw [hW4];exact ((F4).set (.inr (by omega)) _ _).set (.inr (by omega)) _ _)
 have hz4 : W.heap.size + 3 ≤ W4.heap.size:=by (rw [hW4];simp;omega)
 clear hW4 BE4 BV4 WB4 hs4 hf4 S1 E1
 obtain ⟨blh,c0h,c1h,c2h,c3h,c4h,c5h,f0h,f1h,f2h,f3h,f4h,f5h⟩:=(BEq).facts
 go_region_law (first
  | (refine step_append_lies _ (by rfl) _ _ _ (by rfl) W4.heap.size 63 i0 _ 6 72 Try.underlying61 hinf hzi0 hzi1 hzi2 rfl (by decide) _ 0 [] (by rfl) (World.ownsRow_nil _ _ _ _) ⟨_,0,none⟩ 1 1 (rawL k5 q5 n5 nm5 p5 l5 c5 a5) (by rfl) (by rfl) (World.news_of_block (heap_alloc_new _ _)) (rawL_one _ _ _ _ _ _ _ _) (by decide) (by unfold maxLen;omega) (by omega) (by simp;omega) _ rfl ?_;intro gg cap6 w6 hown6 hgrow6 hor6 hlt6;have hgr6 : World.grownBy _ w6 none:=hgrow6;have BE6:=(BE5.alloc (.cells #[.int .i64 k5,.int .i64 q5,.int .i64 n5,.string nm5,.slice p5 l5 c5,.int .i64 a5] 63)).grown hgr6;(obtain ⟨blj,c0j,c1j,c2j,c3j,c4j,c5j,f0j,f1j,f2j,f3j,f4j,f5j⟩:=(BE6).facts))
  | (go_simp;go_at_call 75;(with_reducible refine (HH2.out.use _ cap (Eq_.out.stay (by (refine Fr.below ?_;(with_reducible repeat first | exact Fr.refl _ _ | refine Fr.alloc ?_ _ | refine Fr.drewN ?_ _ | refine Fr.drew ?_ | (refine Fr.set ?_ ?_ _ _;rotate_left;first | exact .inl rfl | (right;simp;done) | (right;simp;omega) | (right;omega)) | refine Fr.step ?_ (by assumption) | refine Fr.stepB ?_ (by assumption))))) (by (with_reducible repeat first | exact Sq.out | refine StR.alloc ?_ _ | refine StR.drewN ?_ _ | refine StR.drew ?_ | refine StR.setO ?_ (by first | assumption | omega) _ _ | refine StR.stay ?_ (by assumption)))).mono ?_);rintro e5 w5 ⟨hf5,hs5,k5,q5,n5,nm5,p5,l5,c5,a5,rfl,hg5⟩;have hz5a:=Fr.size hf5;(try simp only [World.size_drew] at hz5a);have BE5:=BEq.drew.fr hf5 (Ne.symm hne2);(obtain ⟨bli,c0i,c1i,c2i,c3i,c4i,c5i,f0i,f1i,f2i,f3i,f4i,f5i⟩:=(BE5).facts)))
 all_goals go_upto_region 14 with (fail)
 all_goals refine name_world ?_
 all_goals
  intro W7 hW7
  have hgg : gg = (w5.alloc (.cells #[.int .i64 k5,.int .i64 q5,.int .i64 n5,.string nm5,.slice p5 l5 c5,.int .i64 a5] 63)).heap.size:=by (rcases hor6 with h | h;(cases h);exact h)
  have hz5:=Fr.size hf5
  simp at hz5 hgg
  have hge : gg ≠ W.heap.size + 1 + 1:=by omega
  have BE7 : Blk W7 (W.heap.size + 1 + 1) (.int .i64 5) (.int .i64 0) (.int .i64 0) (.string ⟨#[]⟩) (.slice (some ⟨gg,0,none⟩) 1 cap6) (.int .i64 x.a):=by (rw [hW7];exact BE6.set4 _)
  have BV7 : Blk W7 W.heap.size (.int .i64 0) (.int .i64 0) (.int .i64 0) (.string ⟨#[]⟩) (.slice none 0 0) (.int .i64 0):=by (rw [hW7];exact (((BVq.drew.fr hf5 (Ne.symm hne0)).alloc _).grown hgr6).setO (by omega) _ _)
  obtain ⟨O,hO⟩ : ∃ O : Int,O = ((o + 1 : Nat) : Int):=⟨_,rfl⟩
  rw [← hO] at hs5
  have S7 : Hid (StR W7 rb g cap ws O r2.st):=hid (by (rw [hW7];exact ((hs5.alloc _).grown hgr6).setO hne2 _ _))
  have hFW6 : Fr (some rb) W w6:=Fr.stepOwn (v:=.slice none 0 0) (((hFW4.drew).step hf5).alloc _) hgrow6 (fun j e => by cases e)
  have hFW7 : Fr (some rb) W W7:=by (rw [hW7];exact hFW6.set (.inr (by omega)) _ _)
  change GoodEx W4.heap.size w5 r2 k5 q5 n5 nm5 p5 l5 c5 a5 at hg5
  have X7 : Hid (∀ e ts,r2 = .ok e ts → IsEx W4.heap.size W7 (.mk 5 0 0 [] [e] x.a) (.slice (some ⟨gg,0,none⟩) 1 cap6)):=hid (by
   intro e ts he
   rw [hW7]
   exact (one_row (hg5.stay ((Below.refl _ _).alloc (Nat.le_refl _) _)) he hown6 hgr6 (by simp;omega) 5 0 0 [] x.a).set (by omega) _ _)
  have HO:=hid hO
  have hz7:=Fr.size hFW7
  obtain ⟨i8,c8,a8,hr8,_,_⟩:=S7.out.rd
  obtain ⟨q0,q1,q2,q3,q4⟩:=hr8.cells
  have hl8:=hr8.lt
  have hfz8:=hr8.frozen 2
  clear hO hW7 hs5 hf5 hown6 hgrow6 hgr6 hor6 BE6 BE5 BEq BVq Sq Eq_ hg5 hgg hz5 hr8
  obtain ⟨blk,c0k,c1k,c2k,c3k,c4k,c5k,f0k,f1k,f2k,f3k,f4k,f5k⟩:=(BE7).facts
  obtain ⟨bll,c0l,c1l,c2l,c3l,c4l,c5l,f0l,f1l,f2l,f3l,f4l,f5l⟩:=(BV7).facts
  go_wp2
  refine bodyPost_ret (results_ex rfl _ rfl ((BV7.setO (Ne.symm hne0) _ _).all _ _ _ _ _ _)) rfl ⟨by (with_reducible repeat first | exact Fr.refl _ _ | refine Fr.alloc ?_ _ | refine Fr.drewN ?_ _ | refine Fr.drew ?_ | (refine Fr.set ?_ ?_ _ _;rotate_left;first | exact .inl rfl | (right;simp;done) | (right;simp;omega) | (right;omega)) | refine Fr.step ?_ (by assumption) | refine Fr.stepB ?_ (by assumption)),?_,_,_,_,_,_,_,_,_,rfl,?_⟩
  · have hs9 : StR (W7.setCell ⟨rb,2,none⟩ (.int .i64 (wrap64 (O - 1)))) rb g cap ws o r.st:=by (rw [← hr.st,HO.out];exact st_dec (HO.out ▸ S7.out) (by omega))
    (with_reducible repeat first | exact hs9 | refine StR.alloc ?_ _ | refine StR.drewN ?_ _ | refine StR.drew ?_ | refine StR.setO ?_ (by first | assumption | omega) _ _ | refine StR.stay ?_ (by assumption))
  · intro x' ts' e
    obtain ⟨e0,h8,rfl⟩:=hr.inv e
    have h9:=(X7.out e0 _ h8).set (show rb < W4.heap.size by omega) 2 (.int .i64 (wrap64 (O - 1)))
    refine ⟨rfl,rfl,rfl,rfl,rfl,rfl,IsEx.low (lo:=W4.heap.size) ?_ (by omega)⟩
    exact (((((h9.set (by omega) _ _).set (by omega) _ _).set (by omega) _ _).set (by omega) _ _).set (by omega) _ _).set (by omega) _ _
theorem rth_par (rb g : Nat) (ws : List Wd) (o : Nat) (x : Wd) (tt : List Wd) (r2 r : Res) (ho : o < 32) (hs : Sg x [40]) (H2 : SndR rb g ws 73 #[.pointer (some ⟨rb,0,none⟩),.int .i64 1] (o + 1) tt r2) (hr : WthEnd [41] (fun e => e) r2 r) : SndR rb g ws 75 #[.pointer (some ⟨rb,0,none⟩)] o (x :: tt) r:=by
 have HH2:=hid H2
 clear H2
 intro W cap E0 S0
 have hrl:=S0.lt
 have hgl:=E0.wc.lt
 obtain ⟨i,a,R0,_,_,_,hxm⟩:=S0.ok_cells E0
 have hkx : KOk x:=E0.kok x hxm
 have bm : Hid ((RS.ok (x :: tt)).is (⟨#[45]⟩ : ByteArray).data.toList = false):=hid (isS_no hkx [] (by decide) (nsgt hs.2 (by decide)))
 have bn : Hid ((RS.ok (x :: tt)).is (⟨#[33]⟩ : ByteArray).data.toList = false):=hid (isS_no hkx [] (by decide) (nsgt hs.2 (by decide)))
 have bp : Hid ((RS.ok (x :: tt)).is (⟨#[40]⟩ : ByteArray).data.toList = true):=hid (isS_yes hs)
 have hx3 : Hid (x.k ≠ 3):=hid hs.ne
 obtain ⟨⟨r0,r1,r2,r3,r4⟩,⟨c0,c1,c2,c3⟩,_,_,hi1,hi2,_⟩:=R0.facts
 have S:=hid S0
 have E:=hid E0
 clear hs
 clear R0 E0 S0 hkx hxm
 go_enter Try.func75,Try.ntmps75
 go_upto_region 3 with (fail)
 go_wp2
 go_region
 go_upto_region 6 with (fail)
 refine name_world ?_
 intro W1 hW1
 have hB1 : Below W.heap.size W W1:=by (rw [hW1];(refine Fr.below ?_;(with_reducible repeat first | exact Fr.refl _ _ | refine Fr.alloc ?_ _ | refine Fr.drewN ?_ _ | refine Fr.drew ?_ | (refine Fr.set ?_ ?_ _ _;rotate_left;first | exact .inl rfl | (right;simp;done) | (right;simp;omega) | (right;omega)) | refine Fr.step ?_ (by assumption) | refine Fr.stepB ?_ (by assumption))))
 have F1 : Fr (some rb) W W1:=Fr.of hB1
 have hz1 : W1.heap.size = W.heap.size + 3:=by (rw [hW1];simp)
 have BV1 : Blk W1 W.heap.size (.int .i64 0) (.int .i64 0) (.int .i64 0) (.string ⟨#[]⟩) (.slice none 0 0) (.int .i64 0):=by (rw [hW1];exact ((((Blk.new rfl _ _ _ _ _ _).alloc _).alloc _).drew))
 have BE1 : Blk W1 (W.heap.size + 1 + 1) (.int .i64 0) (.int .i64 0) (.int .i64 0) (.string ⟨#[]⟩) (.slice none 0 0) (.int .i64 x.a):=by (rw [hW1];exact ((Blk.new (by simp) _ _ _ _ _ _).drew))
 have WB1 : WBlk W1 (W.heap.size + 1) x.k x.t x.n x.a:=by (rw [hW1];exact ((WBlk.new (by simp)).alloc _).drew)
 clear hW1 r0 r1 r2 r3 r4 c0 c1 c2 c3
 have hne0 : rb ≠ W.heap.size:=by omega
 have hne1 : rb ≠ W.heap.size + 1:=by omega
 have hne2 : rb ≠ W.heap.size + 1 + 1:=by omega
 have S1:=hid (S.out.stay hB1)
 have E1:=hid (E.out.stay hB1)
 clear S E hi1 hi2
 obtain ⟨O,hO⟩ : ∃ O : Int,O = ((o + 1 : Nat) : Int):=⟨_,rfl⟩
 have HO:=hid hO
 clear hO
 go_upto_region 20 with (first
  | (go_at_call 62;(with_reducible refine (st_is S1.out E1.out _ false bm.out).mono ?_);rintro e' w2 ⟨rfl,hb2⟩;have S2:=hid (S1.out.stay hb2);have E2:=hid (E1.out.stay hb2);have BE2:=BE1.stay hb2;have BV2:=BV1.stay hb2;have WB2:=WB1.stay hb2;have F2:=F1.stepB hb2;have hz2:=hb2.size;clear BE1 BV1 WB1)
  | (go_at_call 62;(with_reducible refine (st_is S2.out E2.out _ false bn.out).mono ?_);rintro e' w3 ⟨rfl,hb3⟩;have S3:=hid (S2.out.stay hb3);have E3:=hid (E2.out.stay hb3);have BE3:=BE2.stay hb3;have BV3:=BV2.stay hb3;have WB3:=WB2.stay hb3;have F3:=F2.stepB hb3;have hz3:=hb3.size;clear BE2 BV2 WB2)
  | (go_at_call 62;(with_reducible refine (st_is S3.out E3.out _ true bp.out).mono ?_);rintro e' w4 ⟨rfl,hb4⟩;have S4:=hid (S3.out.stay hb4);have E4:=hid (E3.out.stay hb4);have BE4:=BE3.stay hb4;have BV4:=BV3.stay hb4;have WB4:=WB3.stay hb4;have F4:=F3.stepB hb4;have hz4:=hb4.size;clear BE3 BV3 WB3)
  | (go_at_call 78;(with_reducible refine (renter_ok S4.out E4.out hx3.out ho).mono ?_);rintro e' w5 ⟨rfl,hs5,hf5⟩;have E5:=hid (E4.out.kept hf5);have BE5:=BE4.fr hf5 (Ne.symm hne2);have BV5:=BV4.fr hf5 (Ne.symm hne0);have WB5:=WB4.fr hf5 (Ne.symm hne1);have F5:=F4.step hf5;have hz5:=Fr.size hf5;clear BE4 BV4 WB4;(obtain ⟨ble5,c0e5,c1e5,c2e5,c3e5,c4e5,c5e5,f0e5,f1e5,f2e5,f3e5,f4e5,f5e5⟩:=(BE5).facts);(obtain ⟨blv5,c0v5,c1v5,c2v5,c3v5,c4v5,c5v5,f0v5,f1v5,f2v5,f3v5,f4v5,f5v5⟩:=(BV5).facts);obtain ⟨y05,y15,y25,y35,y45⟩:=WB5.facts)
  | (go_at_call 73;(with_reducible refine (HH2.out.use _ cap E5.out hs5).mono ?_);rintro e6 w6 ⟨hf6,hs6,k5,q5,n5,nm5,p5,l5,c5,a5,rfl,hg5⟩;have BE6:=BE5.fr hf6 (Ne.symm hne2);have BV6:=BV5.fr hf6 (Ne.symm hne0);have WB6:=WB5.fr hf6 (Ne.symm hne1);have F6:=F5.step hf6;have hz6:=Fr.size hf6;clear BE5 BV5 WB5;(obtain ⟨ble6,c0e6,c1e6,c2e6,c3e6,c4e6,c5e6,f0e6,f1e6,f2e6,f3e6,f4e6,f5e6⟩:=(BE6).facts);(obtain ⟨blv6,c0v6,c1v6,c2v6,c3v6,c4v6,c5v6,f0v6,f1v6,f2v6,f3v6,f4v6,f5v6⟩:=(BV6).facts);obtain ⟨y06,y16,y26,y36,y46⟩:=WB6.facts))
 refine name_world ?_
 intro W7 hW7
 have BE7 : Blk W7 (W.heap.size + 1 + 1) (.int .i64 k5) (.int .i64 q5) (.int .i64 n5) (.string nm5) (.slice p5 l5 c5) (.int .i64 a5):=by (rw [hW7];exact BE6.all _ _ _ _ _ _)
 have BV7 : Blk W7 W.heap.size (.int .i64 0) (.int .i64 0) (.int .i64 0) (.string ⟨#[]⟩) (.slice none 0 0) (.int .i64 0):=by (rw [hW7];exact (((((BV6.setO (by omega) _ _).setO (by omega) _ _).setO (by omega) _ _).setO (by omega) _ _).setO (by omega) _ _).setO (by omega) _ _)
 rw [← HO.out] at hs6
 have S7 : Hid (StR W7 rb g cap ws O r2.st):=hid (by (rw [hW7];exact (((((hs6.setO hne2 _ _).setO hne2 _ _).setO hne2 _ _).setO hne2 _ _).setO hne2 _ _).setO hne2 _ _))
 have E7 : Hid (EnvR rb g ws W7):=hid (by (rw [hW7];exact ((((((E5.out.kept hf6).setO (by omega) _ _).setO (by omega) _ _).setO (by omega) _ _).setO (by omega) _ _).setO (by omega) _ _).setO (by omega) _ _))
 have hFW7 : Fr (some rb) W W7:=by (rw [hW7];exact (((((F6.set (.inr (by omega)) _ _).set (.inr (by omega)) _ _).set (.inr (by omega)) _ _).set (.inr (by omega)) _ _).set (.inr (by omega)) _ _).set (.inr (by omega)) _ _)
 have X7 : Hid (GoodEx w5.heap.size W7 r2 k5 q5 n5 nm5 p5 l5 c5 a5):=hid (by
  intro x' ts' e
  obtain ⟨h1,h2,h3,h4,h5,h6,h7⟩:=hg5 x' ts' e
  rw [hW7]
  exact ⟨h1,h2,h3,h4,h5,h6,(((((h7.set (by omega) _ _).set (by omega) _ _).set (by omega) _ _).set (by omega) _ _).set (by omega) _ _).set (by omega) _ _⟩)
 have hz7:=Fr.size hFW7
 clear hW7 hs6 hf6 hs5 hf5 BE6 BV6 WB6 E5 hg5 S1 E1
 go_wp2_with (go_at_call 64;(with_reducible refine (st_need S7.out E7.out _).mono ?_);rintro e8 w8 ⟨rfl,hs8,hf8⟩;obtain ⟨i8,c8,a8,hr8,_,_⟩:=hs8.rd;obtain ⟨q0,q1,q2,q3,q4⟩:=hr8.cells;have hl8:=hr8.lt;have hfz8:=hr8.frozen 2;have BE8:=BE7.fr hf8 (Ne.symm hne2);have BV8:=BV7.fr hf8 (Ne.symm hne0);clear hr8;(obtain ⟨blk,c0k,c1k,c2k,c3k,c4k,c5k,f0k,f1k,f2k,f3k,f4k,f5k⟩:=(BE8).facts);(obtain ⟨bll,c0l,c1l,c2l,c3l,c4l,c5l,f0l,f1l,f2l,f3l,f4l,f5l⟩:=(BV8).facts))
 refine bodyPost_ret (results_ex rfl _ rfl ((BV8.setO (Ne.symm hne0) _ _).all _ _ _ _ _ _)) rfl ⟨by (with_reducible repeat first | exact Fr.refl _ _ | refine Fr.alloc ?_ _ | refine Fr.drewN ?_ _ | refine Fr.drew ?_ | (refine Fr.set ?_ ?_ _ _;rotate_left;first | exact .inl rfl | (right;simp;done) | (right;simp;omega) | (right;omega)) | refine Fr.step ?_ (by assumption) | refine Fr.stepB ?_ (by assumption)),?_,_,_,_,_,_,_,_,_,rfl,?_⟩
 · have hst:=hr.st (by decide) E7.out.kok (fun tt' h => (show StR W7 rb g cap ws O (.ok tt') from h ▸ S7.out).1)
   have hs9 : StR (w8.setCell ⟨rb,2,none⟩ (.int .i64 (wrap64 (O - 1)))) rb g cap ws o r.st:=by (rw [← hst,HO.out];exact st_dec (HO.out ▸ hs8) (by omega))
   (with_reducible repeat first | exact hs9 | refine StR.alloc ?_ _ | refine StR.drewN ?_ _ | refine StR.drew ?_ | refine StR.setO ?_ (by first | assumption | omega) _ _ | refine StR.stay ?_ (by assumption))
 · intro x' ts' e
   obtain ⟨e0,d,h8,rfl⟩:=hr.inv e
   obtain ⟨h1,h2,h3,h4,h5,h6,h7⟩:=X7.out _ _ h8
   have h9:=(h7.fr hf8 (by omega)).set (show rb < w5.heap.size by omega) 2 (.int .i64 (wrap64 (O - 1)))
   refine ⟨h1,h2,h3,h4,h5,h6,IsEx.low (lo:=w5.heap.size) ?_ (by omega)⟩
   exact (((((h9.set (by omega) _ _).set (by omega) _ _).set (by omega) _ _).set (by omega) _ _).set (by omega) _ _).set (by omega) _ _
theorem rth_step (rb g : Nat) (ws : List Wd) (o : Nat) (ts0 : List Wd) (r : Res) (IH : BelowR rb g ws (4 * ts0.length + 1)) (hP : P o .thing ts0 r) (hs : ts0 <:+ ws) (hF : Fin ts0) (ho : o ≤ 32) :
 SndR rb g ws 75 #[.pointer (some ⟨rb,0,none⟩)] o ts0 r:=by
 cases hP with
 | num h1 => exact rth_num rb g ws o _ _ h1
 | tru h1 h2 => exact rth_tru rb g ws o _ _ h1 h2
 | fls h1 h2 => exact rth_fls rb g ws o _ _ h1 h2
 | @neg _ w ts _ h1 h2 =>
  have hs2 : ts <:+ ws:=(suf_at hs).2.2
  have hF2 : Fin ts:=hF.cons h1.ne
  cases h2 with
  | behLim h3 => subst h3;exact rth_neglim rb g ws w ts h1
  | behOk h3 h4 => exact rth_neg rb g ws o w ts _ _ h3 h1 (IH .thing _ _ _ h4 hs2 hF2 trivial (by omega) (by simp only [Job.wt,List.length_cons];omega)) rfl
  | behBad h3 h4 => exact rth_neg rb g ws o w ts _ _ h3 h1 (IH .thing _ _ _ h4 hs2 hF2 trivial (by omega) (by simp only [Job.wt,List.length_cons];omega)) rfl
 | @not _ w ts _ h1 h2 =>
  have hs2 : ts <:+ ws:=(suf_at hs).2.2
  have hF2 : Fin ts:=hF.cons h1.ne
  cases h2 with
  | behLim h3 => subst h3;exact rth_notlim rb g ws w ts h1
  | behOk h3 h4 => exact rth_not rb g ws o w ts _ _ h3 h1 (IH .thing _ _ _ h4 hs2 hF2 trivial (by omega) (by simp only [Job.wt,List.length_cons];omega)) rfl
  | behBad h3 h4 => exact rth_not rb g ws o w ts _ _ h3 h1 (IH .thing _ _ _ h4 hs2 hF2 trivial (by omega) (by simp only [Job.wt,List.length_cons];omega)) rfl
 | @par _ w ts _ h1 h2 =>
  have hs2 : ts <:+ ws:=(suf_at hs).2.2
  have hF2 : Fin ts:=hF.cons h1.ne
  cases h2 with
  | wthLim h3 => subst h3;exact rth_parlim rb g ws w ts h1
  | wthOk h3 h4 h5 => exact rth_par rb g ws o w ts _ _ h3 h1 (IH (.expr 1) _ _ _ h4 hs2 hF2 (by simp [Job.may]) (by omega) (by simp only [Job.wt,List.length_cons];omega)) (.inl ⟨h5,rfl⟩)
  | wthNo h3 h4 h5 => exact rth_par rb g ws o w ts _ _ h3 h1 (IH (.expr 1) _ _ _ h4 hs2 hF2 (by simp [Job.may]) (by omega) (by simp only [Job.wt,List.length_cons];omega)) (.inr ⟨h5,rfl⟩)
  | wthBad h3 h4 => exact rth_par rb g ws o w ts _ _ h3 h1 (IH (.expr 1) _ _ _ h4 hs2 hF2 (by simp [Job.may]) (by omega) (by simp only [Job.wt,List.length_cons];omega)) rfl
 | @name _ w ts _ h1 h2 h3 =>
  have hm : Job.may .nam (w :: ts):=by rintro w' t' e;cases e;exact h1
  exact rth_name rb g ws o w ts _ h1 h2 (rnam_step rb g ws o _ _ (fun j o ts r a b c d e f => IH j o ts r a b c d e (by omega)) h3 hs hF hm ho)
 | @stray _ w ts h1 =>
  obtain ⟨h2,h3,h4⟩:=h1
  have hsg : ¬ Sg w [45] ∧ ¬ Sg w [33] ∧ ¬ Sg w [40]:=⟨fun e => (h4 e.1).1 e.2,fun e => (h4 e.1).2.1 e.2,fun e => (h4 e.1).2.2 e.2⟩
  by_cases hk : w.k = 0
  · exact rth_strayK rb g ws o w ts hk (h3 hk).1 h2 hsg (fun e => (h3 hk).2.1 e.2) (fun e => (h3 hk).2.2 e.2)
  · exact rth_strayN rb g ws o w ts hk h2 hsg (fun e => hk e.1) (fun e => hk e.1)
end Go.Proofs.Ytbmmjomcjlpnlaa
