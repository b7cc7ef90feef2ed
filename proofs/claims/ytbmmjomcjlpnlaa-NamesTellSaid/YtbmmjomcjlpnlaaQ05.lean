/- Joined texts: Rst RstS Rblk Rsts Rlim Pm: lemmas for the law; each says its own conditions. -/
import Derived.Test.YtbmmjomcjlpnlaaQ04
set_option linter.unusedSimpArgs false
set_option linter.unusedVariables false
set_option maxRecDepth 100000
set_option maxHeartbeats 8000000
open Go.Lib (hid)
namespace Go.Proofs.Ytbmmjomcjlpnlaa
open Go Go.RowKit
theorem rst_out {r4 rb g cap : Nat} {ws : List Wd} {n d : Nat} {p0 p1 p2 p3 : Value} {W : World} {x : Wd} {tt : List Wd} (S : Hid (A4 W r4 rb g cap ws d p0 p1 p2 p3 (.ok (x :: tt)))) (nvar : (RS.ok (x :: tt)).is kVar = false) (nif : (RS.ok (x :: tt)).is kIf = false) (nwhile : (RS.ok (x :: tt)).is kWhile = false) (nlock : (RS.ok (x :: tt)).is kLock = false) (yout : (RS.ok (x :: tt)).is kOut = true) :
 Calls Try.prog 72 #[.pointer (some ⟨r4,0,none⟩)] W fun e w' => EndSt W.heap.size (⟨.mk 5 x.a false false [] [] [(exF (.ok tt)).1] [] [],(exF (.ok tt)).2.need [59]⟩ : Stm × RS) e w' ∧ A4 w' r4 rb g cap ws d p0 p1 p2 p3 (⟨.mk 5 x.a false false [] [] [(exF (.ok tt)).1] [] [],(exF (.ok tt)).2.need [59]⟩ : Stm × RS).2 ∧ Fr (some rb) W w':=by
 obtain ⟨hl4,hlb,hlg⟩:=S.out.blk
 have h4v : r4 ≠ W.heap.size:=by omega
 have hbv : rb ≠ W.heap.size:=by omega
 have hgv : g ≠ W.heap.size:=by omega
 have hfd:=rfield_a
 have b_var : Hid ((RS.ok (x :: tt)).is (⟨#[118,97,114]⟩ : ByteArray).data.toList = false):=hid nvar
 have b_if : Hid ((RS.ok (x :: tt)).is (⟨#[105,102]⟩ : ByteArray).data.toList = false):=hid nif
 have b_while : Hid ((RS.ok (x :: tt)).is (⟨#[119,104,105,108,101]⟩ : ByteArray).data.toList = false):=hid nwhile
 have b_lock : Hid ((RS.ok (x :: tt)).is (⟨#[108,111,99,107]⟩ : ByteArray).data.toList = false):=hid nlock
 have b_out : Hid ((RS.ok (x :: tt)).is (⟨#[111,117,116]⟩ : ByteArray).data.toList = true):=hid yout
 have hx3 : Hid (x.k ≠ 3):=hid (RS.is_ne3 yout)
 obtain ⟨τN,eN⟩ : ∃ τ,τ = ((exF (.ok tt)).2).need [59]:=⟨_,rfl⟩
 have hN : Hid (((exF (.ok tt)).2).need (⟨#[59]⟩ : ByteArray).data.toList = τN):=hid eN.symm
 rw [← eN]
 have EN:=hid eN
 clear eN
 clear nvar nif nwhile nlock yout
 go_enter Try.func72,Try.ntmps72
 go_upto_region 12 with (go_at_call 24;(with_reducible refine (r4_wordOk (hid (S.out.alloc _))).mono ?_);rintro e1 w1 ⟨rfl,hb1⟩)
 refine name_world ?_
 intro W1 hW1
 have hzw : W.heap.size + 1 ≤ w1.heap.size:=by (have:=hb1.size;simpa using this)
 have BV1 : SBlk W1 W.heap.size 0 0 false false ⟨#[]⟩ (.slice none 0 0) (.slice none 0 0) (.slice none 0 0) (.slice none 0 0):=by (rw [hW1];exact ((SBlk.new rfl).stay hb1).alloc _)
 have BS1 : SBlk W1 w1.heap.size 0 x.a false false ⟨#[]⟩ (.slice none 0 0) (.slice none 0 0) (.slice none 0 0) (.slice none 0 0):=by (rw [hW1];exact SBlk.new rfl)
 have S1 : Hid (A4 W1 r4 rb g cap ws d p0 p1 p2 p3 (.ok (x :: tt))):=hid (by (rw [hW1];exact ((S.out.alloc _).stay hb1).alloc _))
 have F1 : Fr (some rb) W W1:=by (rw [hW1];exact (((Fr.refl _ _).alloc _).stepB hb1).alloc _)
 have hz1 : W1.heap.size = w1.heap.size + 1:=by (rw [hW1];simp)
 clear hW1 hb1
 have hsb : w1.heap.size ≠ rb:=by omega
 have hbs : rb ≠ w1.heap.size:=by omega
 have h4s : r4 ≠ w1.heap.size:=by omega
 have hgs : g ≠ w1.heap.size:=by omega
 have hvs : W.heap.size ≠ w1.heap.size:=by omega
 have hsv : w1.heap.size ≠ W.heap.size:=by omega
 have T1_0:=S1
 have Hv1_0 : Below W1.heap.size W1 W1:=Below.refl _ _
 go_upto_region 37 with (first
  | (go_at_call 45;(with_reducible refine (r4_is T1_0 _ false b_var).mono ?_);rintro e' v1_1 ⟨rfl,hv1_1⟩;have T1_1:=hid (T1_0.out.stay hv1_1);have Hv1_1:=Hv1_0.trans (hv1_1.mono Hv1_0.size))
  | (go_at_call 45;(with_reducible refine (r4_is T1_1 _ false b_if).mono ?_);rintro e' v1_2 ⟨rfl,hv1_2⟩;have T1_2:=hid (T1_1.out.stay hv1_2);have Hv1_2:=Hv1_1.trans (hv1_2.mono Hv1_1.size))
  | (go_at_call 45;(with_reducible refine (r4_is T1_2 _ false b_while).mono ?_);rintro e' v1_3 ⟨rfl,hv1_3⟩;have T1_3:=hid (T1_2.out.stay hv1_3);have Hv1_3:=Hv1_2.trans (hv1_3.mono Hv1_2.size))
  | (go_at_call 45;(with_reducible refine (r4_is T1_3 _ false b_lock).mono ?_);rintro e' v1_4 ⟨rfl,hv1_4⟩;have T1_4:=hid (T1_3.out.stay hv1_4);have Hv1_4:=Hv1_3.trans (hv1_4.mono Hv1_3.size))
  | (go_at_call 45;(with_reducible refine (r4_is T1_4 _ true b_out).mono ?_);rintro e' v1_5 ⟨rfl,hv1_5⟩;have T1_5:=hid (T1_4.out.stay hv1_5);have Hv1_5:=Hv1_4.trans (hv1_5.mono Hv1_4.size)))
 have BS2:=BS1.stay Hv1_5
 have BV2:=BV1.stay Hv1_5
 have F2:=F1.stepB Hv1_5
 have S2:=T1_5
 have hz2:=Hv1_5.size
 have Hi2 : Hi W1.heap.size W1 v1_5:=(Hi.refl _ _).stay Hv1_5
 clear BS1 BV1 F1
 obtain ⟨sl2,⟨sc02,sc12,sc22,sc32,sc42,sc52,sc62,sc72,sc82⟩,⟨sf02,sf12,sf22,sf32,sf42,sf52,sf62,sf72,sf82⟩⟩:=BS2.facts
 obtain ⟨i2,a2,R2,g52,g62,g72,gx2⟩:=S2.out.st.ok_cells S2.out.env
 obtain ⟨m02,_,_,_,_,_⟩:=S2.out.at4.cells
 obtain ⟨_,q12,_,_,_⟩:=R2.rd.cells
 have ml2:=S2.out.at4.lt
 have rl2:=R2.rd.lt
 have rf2:=R2.rd.frozen 1
 go_upto_region 39 with (fail)
 refine name_world ?_
 intro W3 hW3
 have BS3 : SBlk W3 w1.heap.size 5 x.a false false ⟨#[]⟩ (.slice none 0 0) (.slice none 0 0) (.slice none 0 0) (.slice none 0 0):=by (rw [hW3];exact ((BS2.setO hsb _ _).set0 _))
 have BV3 : SBlk W3 W.heap.size 0 0 false false ⟨#[]⟩ (.slice none 0 0) (.slice none 0 0) (.slice none 0 0) (.slice none 0 0):=by (rw [hW3];exact ((BV2.setO (Ne.symm hbv) _ _).setO hvs _ _))
 have S3 : Hid (A4 W3 r4 rb g cap ws d p0 p1 p2 p3 (.ok tt)):=hid (by (rw [hW3];exact ((S2.out.fr ((Fr.refl (some rb) _).set (.inl rfl) 1 _) (st_adv S2.out.st R2 hx3.out g52)).setO h4s hbs hgs _ _)))
 have F3 : Fr (some rb) W W3:=by (rw [hW3];exact ((F2.set (.inl rfl) _ _).set (.inr (by omega)) _ _))
 have Hi3 : Hi W1.heap.size v1_5 W3:=by (rw [hW3];exact (((Hi.refl W1.heap.size v1_5).set (by omega) _ _).set (by omega) _ _))
 have hz3:=Hi3.1
 clear hW3 BS2 BV2 F2 sl2 sc02 sc12 sc22 sc32 sc42 sc52 sc62 sc72 sc82 sf02 sf12 sf22 sf32 sf42 sf52 sf62 sf72 sf82
 obtain ⟨sl3,⟨sc03,sc13,sc23,sc33,sc43,sc53,sc63,sc73,sc83⟩,⟨sf03,sf13,sf23,sf33,sf43,sf53,sf63,sf73,sf83⟩⟩:=BS3.facts
 go_upto_region 40 with (go_at_call 68;(with_reducible refine (r4_expr (hid S3.out)).mono ?_);rintro e3 u3 ⟨⟨k5,q5,n5,nm5,l5,m5,c5,a5,rfl,hg5⟩,hs3,hf3⟩;have BQ3:=BS3.fr hf3 hsb;have BW3:=BV3.fr hf3 (Ne.symm hbv);have uz3:=Fr.size hf3;obtain ⟨tl3,⟨tc03,tc13,tc23,tc33,tc43,tc53,tc63,tc73,tc83⟩,⟨tf03,tf13,tf23,tf33,tf43,tf53,tf63,tf73,tf83⟩⟩:=BQ3.facts)
 refine name_world ?_
 intro W4 hW4
 have BS4 : SBlk W4 w1.heap.size 5 x.a false false ⟨#[]⟩ (.slice none 0 0) (.slice (some ⟨u3.heap.size,0,none⟩) 1 1) (.slice none 0 0) (.slice none 0 0):=by (rw [hW4];exact ((BQ3.set6 _).alloc _))
 have BV4 : SBlk W4 W.heap.size 0 0 false false ⟨#[]⟩ (.slice none 0 0) (.slice none 0 0) (.slice none 0 0) (.slice none 0 0):=by (rw [hW4];exact ((BW3.setO hvs _ _).alloc _))
 have S4 : Hid (A4 W4 r4 rb g cap ws d p0 p1 p2 p3 (exF (.ok tt)).2):=hid (by (rw [hW4];exact ((hs3.setO h4s hbs hgs _ _).alloc _)))
 have F4 : Fr (some rb) W W4:=by (rw [hW4];exact (((F3.step hf3).set (.inr (by omega)) _ _).alloc _))
 have Hi4 : Hi W1.heap.size W3 W4:=by (rw [hW4];exact ((((Hi.refl W1.heap.size W3).fr hf3 (by omega)).set (by omega) _ _).alloc _))
 have hz4:=Hi4.1
 have X4 : Hid (∀ t,(exF (.ok tt)).2 = .ok t → IsExP (fun g => W1.heap.size ≤ g) W4 (exsE [(exF (.ok tt)).1]) (.slice (some ⟨u3.heap.size,0,none⟩) 1 1)):=hid (fun t h => by
  rw [hW4]
  have e:=one_new (lo:=W1.heap.size) (W:=u3.setCell ⟨w1.heap.size,6,none⟩ (.slice (some ⟨u3.heap.size,0,none⟩) 1 1)) (((hg5 t h).low (by (try simp only [World.size_setCell]);omega)).kept fun j hj hl => heap_setCell_other _ ⟨w1.heap.size,6,none⟩ j _ (by simp;omega)) (by simp;omega)
  simpa only [World.size_setCell] using e)
 clear hW4 BS3 BV3 F3 sl3 sc03 sc13 sc23 sc33 sc43 sc53 sc63 sc73 sc83 sf03 sf13 sf23 sf33 sf43 sf53 sf63 sf73 sf83 tl3 tc03 tc13 tc23 tc33 tc43 tc53 tc63 tc73 tc83 tf03 tf13 tf23 tf33 tf43 tf53 tf63 tf73 tf83 BQ3 BW3 hf3 hs3
 obtain ⟨sl4,⟨sc04,sc14,sc24,sc34,sc44,sc54,sc64,sc74,sc84⟩,⟨sf04,sf14,sf24,sf34,sf44,sf54,sf64,sf74,sf84⟩⟩:=BS4.facts
 go_wp2_with (go_at_call 48;(with_reducible refine (r4_need (hid S4.out) _ _ hN).mono ?_);rintro e4 u4 ⟨rfl,hs4,hf4⟩;have BQ4:=BS4.fr hf4 hsb;have BW4:=BV4.fr hf4 (Ne.symm hbv);have uz4:=Fr.size hf4;obtain ⟨tl4,⟨tc04,tc14,tc24,tc34,tc44,tc54,tc64,tc74,tc84⟩,⟨tf04,tf14,tf24,tf34,tf44,tf54,tf64,tf74,tf84⟩⟩:=BQ4.facts;obtain ⟨vl0,⟨vc0,vc1,vc2,vc3,vc4,vc5,vc6,vc7,vc8⟩,⟨vf0,vf1,vf2,vf3,vf4,vf5,vf6,vf7,vf8⟩⟩:=BW4.facts)
 refine bodyPost_ret (results_s rfl _ rfl (SBlk.all BW4)) rfl ⟨⟨_,_,_,_,_,_,_,_,_,_,_,_,_,_,_,_,_,rfl,?_⟩,?_,?_⟩
 · intro t0 ht0
   obtain ⟨t1,ht1⟩:=need_ok (EN.out ▸ ht0)
   refine ⟨⟨rfl,rfl,rfl,rfl,rfl⟩,.leaf,((X4.out t1 ht1).hi (((((((((((Hi.refl W1.heap.size W4).fr hf4 (by omega)).set (show W.heap.size < W1.heap.size by omega) _ _).set (show W.heap.size < W1.heap.size by omega) _ _).set (show W.heap.size < W1.heap.size by omega) _ _).set (show W.heap.size < W1.heap.size by omega) _ _).set (show W.heap.size < W1.heap.size by omega) _ _).set (show W.heap.size < W1.heap.size by omega) _ _).set (show W.heap.size < W1.heap.size by omega) _ _).set (show W.heap.size < W1.heap.size by omega) _ _).set (show W.heap.size < W1.heap.size by omega) _ _)).lo (by omega),.nil,.nil⟩
 · exact (((((((((hs4.setO h4v hbv hgv _ _).setO h4v hbv hgv _ _).setO h4v hbv hgv _ _).setO h4v hbv hgv _ _).setO h4v hbv hgv _ _).setO h4v hbv hgv _ _).setO h4v hbv hgv _ _).setO h4v hbv hgv _ _).setO h4v hbv hgv _ _)
 · exact ((((((((((F4.step hf4).set (.inr (Nat.le_refl _)) _ _).set (.inr (Nat.le_refl _)) _ _).set (.inr (Nat.le_refl _)) _ _).set (.inr (Nat.le_refl _)) _ _).set (.inr (Nat.le_refl _)) _ _).set (.inr (Nat.le_refl _)) _ _).set (.inr (Nat.le_refl _)) _ _).set (.inr (Nat.le_refl _)) _ _).set (.inr (Nat.le_refl _)) _ _)
theorem r4_exprQ {r4 rb g cap : Nat} {ws : List Wd} {d : Int} {p0 p1 p2 p3 : Value} {W : World} {σ τ : RS} {ex : Ex} (S : Hid (A4 W r4 rb g cap ws d p0 p1 p2 p3 σ)) (h : exF σ = (ex,τ)) : Calls Try.prog 68 #[.pointer (some ⟨r4,0,none⟩)] W fun e w' => EndX W.heap.size (ex,τ) e w' ∧ A4 w' r4 rb g cap ws d p0 p1 p2 p3 τ ∧ Fr (some rb) W w':=by
 have:=r4_expr S
 rwa [h] at this
theorem r4_boundQ {r4 rb g cap : Nat} {ws : List Wd} {d : Int} {p0 p1 p2 p3 : Value} {W : World} {σ τ : RS} {ex : Ex} (S : Hid (A4 W r4 rb g cap ws d p0 p1 p2 p3 σ)) (h : boundF σ = (ex,τ)) : Calls Try.prog 74 #[.pointer (some ⟨r4,0,none⟩)] W fun e w' => EndX W.heap.size (ex,τ) e w' ∧ A4 w' r4 rb g cap ws d p0 p1 p2 p3 τ ∧ Fr (some rb) W w':=by
 have:=r4_bound S
 rwa [h] at this
theorem exQ_ok {σ τ : RS} {ex : Ex} (h : exF σ = (ex,τ)) {tt : List Wd} (ht : τ = .ok tt) : ∃ t',σ = .ok t':=ex_ok (by rw [h];exact ht)
theorem blockQ_ok {n d : Nat} {σ τ : RS} {l : List Stm} (h : blockF n d σ = (l,τ)) {tt : List Wd} (ht : τ = .ok tt) : ∃ t',σ = .ok t':=block_ok (by rw [h];exact ht)
theorem needQ_ok {σ τ : RS} {t : List UInt8} (h : σ.need t = τ) {tt : List Wd} (ht : τ = .ok tt) : ∃ t',σ = .ok t':=need_ok (h.trans ht)
theorem rst_lock {r4 rb g cap : Nat} {ws : List Wd} {n d : Nat} {p0 p1 p2 p3 : Value} {W : World} {x : Wd} {tt : List Wd} (S : Hid (A4 W r4 rb g cap ws d p0 p1 p2 p3 (.ok (x :: tt)))) (nvar : (RS.ok (x :: tt)).is kVar = false) (nif : (RS.ok (x :: tt)).is kIf = false) (nwhile : (RS.ok (x :: tt)).is kWhile = false) (ylock : (RS.ok (x :: tt)).is kLock = true) {tn : List UInt8} {an : Nat} {τm τl : RS} {lb : List Stm} (hm : Hid (nameF (.ok tt) = ((tn,an),τm))) (hl : Hid (blockF n d τm = (lb,τl))) (hlen : 3 * τm.len + 2 ≤ n) (HB : Hid (GBlock r4 rb g ws n)) (hd : d ≤ 32) :
 Calls Try.prog 72 #[.pointer (some ⟨r4,0,none⟩)] W fun e w' => EndSt W.heap.size ((.mk 4 x.a false false tn [] [] lb [],τl) : Stm × RS) e w' ∧ A4 w' r4 rb g cap ws d p0 p1 p2 p3 ((.mk 4 x.a false false tn [] [] lb [],τl) : Stm × RS).2 ∧ Fr (some rb) W w':=by
 obtain ⟨hl4,hlb,hlg⟩:=S.out.blk
 have h4v : r4 ≠ W.heap.size:=by omega
 have hbv : rb ≠ W.heap.size:=by omega
 have hgv : g ≠ W.heap.size:=by omega
 have hfd:=rfield_a
 have b_var : Hid ((RS.ok (x :: tt)).is (⟨#[118,97,114]⟩ : ByteArray).data.toList = false):=hid nvar
 have b_if : Hid ((RS.ok (x :: tt)).is (⟨#[105,102]⟩ : ByteArray).data.toList = false):=hid nif
 have b_while : Hid ((RS.ok (x :: tt)).is (⟨#[119,104,105,108,101]⟩ : ByteArray).data.toList = false):=hid nwhile
 have b_lock : Hid ((RS.ok (x :: tt)).is (⟨#[108,111,99,107]⟩ : ByteArray).data.toList = true):=hid ylock
 have hx3 : Hid (x.k ≠ 3):=hid (RS.is_ne3 ylock)
 clear nvar nif nwhile ylock
 go_enter Try.func72,Try.ntmps72
 go_upto_region 12 with (go_at_call 24;(with_reducible refine (r4_wordOk (hid (S.out.alloc _))).mono ?_);rintro e1 w1 ⟨rfl,hb1⟩)
 refine name_world ?_
 intro W1 hW1
 have hzw : W.heap.size + 1 ≤ w1.heap.size:=by (have:=hb1.size;simpa using this)
 have BV1 : SBlk W1 W.heap.size 0 0 false false ⟨#[]⟩ (.slice none 0 0) (.slice none 0 0) (.slice none 0 0) (.slice none 0 0):=by (rw [hW1];exact ((SBlk.new rfl).stay hb1).alloc _)
 have BS1 : SBlk W1 w1.heap.size 0 x.a false false ⟨#[]⟩ (.slice none 0 0) (.slice none 0 0) (.slice none 0 0) (.slice none 0 0):=by (rw [hW1];exact SBlk.new rfl)
 have S1 : Hid (A4 W1 r4 rb g cap ws d p0 p1 p2 p3 (.ok (x :: tt))):=hid (by (rw [hW1];exact ((S.out.alloc _).stay hb1).alloc _))
 have F1 : Fr (some rb) W W1:=by (rw [hW1];exact (((Fr.refl _ _).alloc _).stepB hb1).alloc _)
 have hz1 : W1.heap.size = w1.heap.size + 1:=by (rw [hW1];simp)
 clear hW1 hb1
 have hsb : w1.heap.size ≠ rb:=by omega
 have hbs : rb ≠ w1.heap.size:=by omega
 have h4s : r4 ≠ w1.heap.size:=by omega
 have hgs : g ≠ w1.heap.size:=by omega
 have hvs : W.heap.size ≠ w1.heap.size:=by omega
 have hsv : w1.heap.size ≠ W.heap.size:=by omega
 have T1_0:=S1
 have Hv1_0 : Below W1.heap.size W1 W1:=Below.refl _ _
 go_upto_region 31 with (first
  | (go_at_call 45;(with_reducible refine (r4_is T1_0 _ false b_var).mono ?_);rintro e' v1_1 ⟨rfl,hv1_1⟩;have T1_1:=hid (T1_0.out.stay hv1_1);have Hv1_1:=Hv1_0.trans (hv1_1.mono Hv1_0.size))
  | (go_at_call 45;(with_reducible refine (r4_is T1_1 _ false b_if).mono ?_);rintro e' v1_2 ⟨rfl,hv1_2⟩;have T1_2:=hid (T1_1.out.stay hv1_2);have Hv1_2:=Hv1_1.trans (hv1_2.mono Hv1_1.size))
  | (go_at_call 45;(with_reducible refine (r4_is T1_2 _ false b_while).mono ?_);rintro e' v1_3 ⟨rfl,hv1_3⟩;have T1_3:=hid (T1_2.out.stay hv1_3);have Hv1_3:=Hv1_2.trans (hv1_3.mono Hv1_2.size))
  | (go_at_call 45;(with_reducible refine (r4_is T1_3 _ true b_lock).mono ?_);rintro e' v1_4 ⟨rfl,hv1_4⟩;have T1_4:=hid (T1_3.out.stay hv1_4);have Hv1_4:=Hv1_3.trans (hv1_4.mono Hv1_3.size)))
 have BS2:=BS1.stay Hv1_4
 have BV2:=BV1.stay Hv1_4
 have F2:=F1.stepB Hv1_4
 have S2:=T1_4
 have hz2:=Hv1_4.size
 have Hi2 : Hi W1.heap.size W1 v1_4:=(Hi.refl _ _).stay Hv1_4
 clear BS1 BV1 F1
 obtain ⟨sl2,⟨sc02,sc12,sc22,sc32,sc42,sc52,sc62,sc72,sc82⟩,⟨sf02,sf12,sf22,sf32,sf42,sf52,sf62,sf72,sf82⟩⟩:=BS2.facts
 obtain ⟨i2,a2,R2,g52,g62,g72,gx2⟩:=S2.out.st.ok_cells S2.out.env
 obtain ⟨m02,_,_,_,_,_⟩:=S2.out.at4.cells
 obtain ⟨_,q12,_,_,_⟩:=R2.rd.cells
 have ml2:=S2.out.at4.lt
 have rl2:=R2.rd.lt
 have rf2:=R2.rd.frozen 1
 go_upto_region 33 with (fail)
 refine name_world ?_
 intro W3 hW3
 have BS3 : SBlk W3 w1.heap.size 4 x.a false false ⟨#[]⟩ (.slice none 0 0) (.slice none 0 0) (.slice none 0 0) (.slice none 0 0):=by (rw [hW3];exact ((BS2.setO hsb _ _).set0 _))
 have BV3 : SBlk W3 W.heap.size 0 0 false false ⟨#[]⟩ (.slice none 0 0) (.slice none 0 0) (.slice none 0 0) (.slice none 0 0):=by (rw [hW3];exact ((BV2.setO (Ne.symm hbv) _ _).setO hvs _ _))
 have S3 : Hid (A4 W3 r4 rb g cap ws d p0 p1 p2 p3 (.ok tt)):=hid (by (rw [hW3];exact ((S2.out.fr ((Fr.refl (some rb) _).set (.inl rfl) 1 _) (st_adv S2.out.st R2 hx3.out g52)).setO h4s hbs hgs _ _)))
 have F3 : Fr (some rb) W W3:=by (rw [hW3];exact ((F2.set (.inl rfl) _ _).set (.inr (by omega)) _ _))
 have Hi3 : Hi W1.heap.size v1_4 W3:=by (rw [hW3];exact (((Hi.refl W1.heap.size v1_4).set (by omega) _ _).set (by omega) _ _))
 have hz3:=Hi3.1
 clear hW3 BS2 BV2 F2 sl2 sc02 sc12 sc22 sc32 sc42 sc52 sc62 sc72 sc82 sf02 sf12 sf22 sf32 sf42 sf52 sf62 sf72 sf82
 obtain ⟨sl3,⟨sc03,sc13,sc23,sc33,sc43,sc53,sc63,sc73,sc83⟩,⟨sf03,sf13,sf23,sf33,sf43,sf53,sf63,sf73,sf83⟩⟩:=BS3.facts
 go_upto_region 35 with (go_at_call 47;(with_reducible refine (r4_name (hid S3.out) hm.out).mono ?_);rintro e3 u3 ⟨rfl,hs3,hf3⟩;have BQ3:=BS3.fr hf3 hsb;have BW3:=BV3.fr hf3 (Ne.symm hbv);have uz3:=Fr.size hf3;obtain ⟨tl3,⟨tc03,tc13,tc23,tc33,tc43,tc53,tc63,tc73,tc83⟩,⟨tf03,tf13,tf23,tf33,tf43,tf53,tf63,tf73,tf83⟩⟩:=BQ3.facts)
 refine name_world ?_
 intro W4 hW4
 have BS4 : SBlk W4 w1.heap.size 4 x.a false false (bstr tn) (.slice none 0 0) (.slice none 0 0) (.slice none 0 0) (.slice none 0 0):=by (rw [hW4];exact ((BQ3.set4 _).alloc _))
 have BV4 : SBlk W4 W.heap.size 0 0 false false ⟨#[]⟩ (.slice none 0 0) (.slice none 0 0) (.slice none 0 0) (.slice none 0 0):=by (rw [hW4];exact ((BW3.setO hvs _ _).alloc _))
 have S4 : Hid (A4 W4 r4 rb g cap ws d p0 p1 p2 p3 τm):=hid (by (rw [hW4];exact ((hs3.setO h4s hbs hgs _ _).alloc _)))
 have F4 : Fr (some rb) W W4:=by (rw [hW4];exact (((F3.step hf3).set (.inr (by omega)) _ _).alloc _))
 have Hi4 : Hi W1.heap.size W3 W4:=by (rw [hW4];exact ((((Hi.refl W1.heap.size W3).fr hf3 (by omega)).set (by omega) _ _).alloc _))
 have hz4:=Hi4.1
 clear hW4 BS3 BV3 F3 sl3 sc03 sc13 sc23 sc33 sc43 sc53 sc63 sc73 sc83 sf03 sf13 sf23 sf33 sf43 sf53 sf63 sf73 sf83 tl3 tc03 tc13 tc23 tc33 tc43 tc53 tc63 tc73 tc83 tf03 tf13 tf23 tf33 tf43 tf53 tf63 tf73 tf83 BQ3 BW3 hf3 hs3
 obtain ⟨sl4,⟨sc04,sc14,sc24,sc34,sc44,sc54,sc64,sc74,sc84⟩,⟨sf04,sf14,sf24,sf34,sf44,sf54,sf64,sf74,sf84⟩⟩:=BS4.facts
 go_wp2_with (go_at_call 50;(with_reducible refine (HB.out.use (hid S4.out) hlen hd _ hl.out).mono ?_);rintro e4 u4 ⟨⟨lp,lm,lc,rfl,hb9⟩,hs4,hf4⟩;have BQ4:=BS4.fr hf4 hsb;have BW4:=BV4.fr hf4 (Ne.symm hbv);have uz4:=Fr.size hf4;obtain ⟨tl4,⟨tc04,tc14,tc24,tc34,tc44,tc54,tc64,tc74,tc84⟩,⟨tf04,tf14,tf24,tf34,tf44,tf54,tf64,tf74,tf84⟩⟩:=BQ4.facts;obtain ⟨vl0,⟨vc0,vc1,vc2,vc3,vc4,vc5,vc6,vc7,vc8⟩,⟨vf0,vf1,vf2,vf3,vf4,vf5,vf6,vf7,vf8⟩⟩:=BW4.facts)
 refine bodyPost_ret (results_s rfl _ rfl (SBlk.all (BW4.setO hvs _ _))) rfl ⟨⟨_,_,_,_,_,_,_,_,_,_,_,_,_,_,_,_,_,rfl,?_⟩,?_,?_⟩
 · intro t0 ht0
   refine ⟨⟨rfl,rfl,rfl,rfl,rfl⟩,.leaf,.leaf,(((hb9 t0 ht0).lo (by omega)).hi (((((((((((Hi.refl W1.heap.size u4).set (by omega) _ _).set (show W.heap.size < W1.heap.size by omega) _ _).set (show W.heap.size < W1.heap.size by omega) _ _).set (show W.heap.size < W1.heap.size by omega) _ _).set (show W.heap.size < W1.heap.size by omega) _ _).set (show W.heap.size < W1.heap.size by omega) _ _).set (show W.heap.size < W1.heap.size by omega) _ _).set (show W.heap.size < W1.heap.size by omega) _ _).set (show W.heap.size < W1.heap.size by omega) _ _).set (show W.heap.size < W1.heap.size by omega) _ _)).lo (by omega),.nil⟩
 · exact ((((((((((hs4.setO h4s hbs hgs _ _).setO h4v hbv hgv _ _).setO h4v hbv hgv _ _).setO h4v hbv hgv _ _).setO h4v hbv hgv _ _).setO h4v hbv hgv _ _).setO h4v hbv hgv _ _).setO h4v hbv hgv _ _).setO h4v hbv hgv _ _).setO h4v hbv hgv _ _)
 · exact (((((((((((F4.step hf4).set (.inr (by omega)) _ _).set (.inr (Nat.le_refl _)) _ _).set (.inr (Nat.le_refl _)) _ _).set (.inr (Nat.le_refl _)) _ _).set (.inr (Nat.le_refl _)) _ _).set (.inr (Nat.le_refl _)) _ _).set (.inr (Nat.le_refl _)) _ _).set (.inr (Nat.le_refl _)) _ _).set (.inr (Nat.le_refl _)) _ _).set (.inr (Nat.le_refl _)) _ _)
theorem rst_let {r4 rb g cap : Nat} {ws : List Wd} {n d : Nat} {p0 p1 p2 p3 : Value} {W : World} {x : Wd} {tt : List Wd} (S : Hid (A4 W r4 rb g cap ws d p0 p1 p2 p3 (.ok (x :: tt)))) (yvar : (RS.ok (x :: tt)).is kVar = true) {tr sc : Bool} {tn : List UInt8} {an : Nat} {τk τm τq τe τz : RS} {ex : Ex} (hk : Hid (kindF (.ok tt) = ((tr,sc),τk))) (hm : Hid (nameF τk = ((tn,an),τm))) (hq : Hid (τm.need (⟨#[61]⟩ : ByteArray).data.toList = τq)) (he : Hid (exF τq = (ex,τe))) (hz : Hid (τe.need (⟨#[59]⟩ : ByteArray).data.toList = τz)) :
 Calls Try.prog 72 #[.pointer (some ⟨r4,0,none⟩)] W fun e w' => EndSt W.heap.size ((.mk 0 x.a tr sc tn [] [ex] [] [],τz) : Stm × RS) e w' ∧ A4 w' r4 rb g cap ws d p0 p1 p2 p3 ((.mk 0 x.a tr sc tn [] [ex] [] [],τz) : Stm × RS).2 ∧ Fr (some rb) W w':=by
 obtain ⟨hl4,hlb,hlg⟩:=S.out.blk
 have h4v : r4 ≠ W.heap.size:=by omega
 have hbv : rb ≠ W.heap.size:=by omega
 have hgv : g ≠ W.heap.size:=by omega
 have hfd:=rfield_a
 have b_var : Hid ((RS.ok (x :: tt)).is (⟨#[118,97,114]⟩ : ByteArray).data.toList = true):=hid yvar
 have hx3 : Hid (x.k ≠ 3):=hid (RS.is_ne3 yvar)
 clear yvar
 go_enter Try.func72,Try.ntmps72
 go_upto_region 12 with (go_at_call 24;(with_reducible refine (r4_wordOk (hid (S.out.alloc _))).mono ?_);rintro e1 w1 ⟨rfl,hb1⟩)
 refine name_world ?_
 intro W1 hW1
 have hzw : W.heap.size + 1 ≤ w1.heap.size:=by (have:=hb1.size;simpa using this)
 have BV1 : SBlk W1 W.heap.size 0 0 false false ⟨#[]⟩ (.slice none 0 0) (.slice none 0 0) (.slice none 0 0) (.slice none 0 0):=by (rw [hW1];exact ((SBlk.new rfl).stay hb1).alloc _)
 have BS1 : SBlk W1 w1.heap.size 0 x.a false false ⟨#[]⟩ (.slice none 0 0) (.slice none 0 0) (.slice none 0 0) (.slice none 0 0):=by (rw [hW1];exact SBlk.new rfl)
 have S1 : Hid (A4 W1 r4 rb g cap ws d p0 p1 p2 p3 (.ok (x :: tt))):=hid (by (rw [hW1];exact ((S.out.alloc _).stay hb1).alloc _))
 have F1 : Fr (some rb) W W1:=by (rw [hW1];exact (((Fr.refl _ _).alloc _).stepB hb1).alloc _)
 have hz1 : W1.heap.size = w1.heap.size + 1:=by (rw [hW1];simp)
 clear hW1 hb1
 have hsb : w1.heap.size ≠ rb:=by omega
 have hbs : rb ≠ w1.heap.size:=by omega
 have h4s : r4 ≠ w1.heap.size:=by omega
 have hgs : g ≠ w1.heap.size:=by omega
 have hvs : W.heap.size ≠ w1.heap.size:=by omega
 have hsv : w1.heap.size ≠ W.heap.size:=by omega
 have T1_0:=S1
 have Hv1_0 : Below W1.heap.size W1 W1:=Below.refl _ _
 go_upto_region 13 with (first
  | (go_at_call 45;(with_reducible refine (r4_is T1_0 _ true b_var).mono ?_);rintro e' v1_1 ⟨rfl,hv1_1⟩;have T1_1:=hid (T1_0.out.stay hv1_1);have Hv1_1:=Hv1_0.trans (hv1_1.mono Hv1_0.size)))
 have BS2:=BS1.stay Hv1_1
 have BV2:=BV1.stay Hv1_1
 have F2:=F1.stepB Hv1_1
 have S2:=T1_1
 have hz2:=Hv1_1.size
 have Hi2 : Hi W1.heap.size W1 v1_1:=(Hi.refl _ _).stay Hv1_1
 clear BS1 BV1 F1
 obtain ⟨sl2,⟨sc02,sc12,sc22,sc32,sc42,sc52,sc62,sc72,sc82⟩,⟨sf02,sf12,sf22,sf32,sf42,sf52,sf62,sf72,sf82⟩⟩:=BS2.facts
 obtain ⟨i2,a2,R2,g52,g62,g72,gx2⟩:=S2.out.st.ok_cells S2.out.env
 obtain ⟨m02,_,_,_,_,_⟩:=S2.out.at4.cells
 obtain ⟨_,q12,_,_,_⟩:=R2.rd.cells
 have ml2:=S2.out.at4.lt
 have rl2:=R2.rd.lt
 have rf2:=R2.rd.frozen 1
 go_upto_region 14 with (fail)
 refine name_world ?_
 intro W3 hW3
 have BS3 : SBlk W3 w1.heap.size 0 x.a false false ⟨#[]⟩ (.slice none 0 0) (.slice none 0 0) (.slice none 0 0) (.slice none 0 0):=by (rw [hW3];exact (BS2.setO hsb _ _))
 have BV3 : SBlk W3 W.heap.size 0 0 false false ⟨#[]⟩ (.slice none 0 0) (.slice none 0 0) (.slice none 0 0) (.slice none 0 0):=by (rw [hW3];exact (BV2.setO (Ne.symm hbv) _ _))
 have S3 : Hid (A4 W3 r4 rb g cap ws d p0 p1 p2 p3 (.ok tt)):=hid (by (rw [hW3];exact (S2.out.fr ((Fr.refl (some rb) _).set (.inl rfl) 1 _) (st_adv S2.out.st R2 hx3.out g52))))
 have F3 : Fr (some rb) W W3:=by (rw [hW3];exact (F2.set (.inl rfl) _ _))
 have Hi3 : Hi W1.heap.size v1_1 W3:=by (rw [hW3];exact ((Hi.refl W1.heap.size v1_1).set (by omega) _ _))
 have hz3:=Hi3.1
 clear hW3 BS2 BV2 F2 sl2 sc02 sc12 sc22 sc32 sc42 sc52 sc62 sc72 sc82 sf02 sf12 sf22 sf32 sf42 sf52 sf62 sf72 sf82
 obtain ⟨sl3,⟨sc03,sc13,sc23,sc33,sc43,sc53,sc63,sc73,sc83⟩,⟨sf03,sf13,sf23,sf33,sf43,sf53,sf63,sf73,sf83⟩⟩:=BS3.facts
 go_upto_region 15 with (go_at_call 66;(with_reducible refine (r4_kind (hid S3.out) hk.out).mono ?_);rintro e3 u3 ⟨rfl,hs3,hf3⟩;have BQ3:=BS3.fr hf3 hsb;have BW3:=BV3.fr hf3 (Ne.symm hbv);have uz3:=Fr.size hf3;obtain ⟨tl3,⟨tc03,tc13,tc23,tc33,tc43,tc53,tc63,tc73,tc83⟩,⟨tf03,tf13,tf23,tf33,tf43,tf53,tf63,tf73,tf83⟩⟩:=BQ3.facts)
 refine name_world ?_
 intro W4 hW4
 have BS4 : SBlk W4 w1.heap.size 0 x.a tr sc ⟨#[]⟩ (.slice none 0 0) (.slice none 0 0) (.slice none 0 0) (.slice none 0 0):=by (rw [hW4];exact ((BQ3.set2 _).set3 _))
 have BV4 : SBlk W4 W.heap.size 0 0 false false ⟨#[]⟩ (.slice none 0 0) (.slice none 0 0) (.slice none 0 0) (.slice none 0 0):=by (rw [hW4];exact ((BW3.setO hvs _ _).setO hvs _ _))
 have S4 : Hid (A4 W4 r4 rb g cap ws d p0 p1 p2 p3 τk):=hid (by (rw [hW4];exact ((hs3.setO h4s hbs hgs _ _).setO h4s hbs hgs _ _)))
 have F4 : Fr (some rb) W W4:=by (rw [hW4];exact (((F3.step hf3).set (.inr (by omega)) _ _).set (.inr (by omega)) _ _))
 have Hi4 : Hi W1.heap.size W3 W4:=by (rw [hW4];exact ((((Hi.refl W1.heap.size W3).fr hf3 (by omega)).set (by omega) _ _).set (by omega) _ _))
 have hz4:=Hi4.1
 clear hW4 BS3 BV3 F3 sl3 sc03 sc13 sc23 sc33 sc43 sc53 sc63 sc73 sc83 sf03 sf13 sf23 sf33 sf43 sf53 sf63 sf73 sf83 tl3 tc03 tc13 tc23 tc33 tc43 tc53 tc63 tc73 tc83 tf03 tf13 tf23 tf33 tf43 tf53 tf63 tf73 tf83 BQ3 BW3 hf3 hs3
 obtain ⟨sl4,⟨sc04,sc14,sc24,sc34,sc44,sc54,sc64,sc74,sc84⟩,⟨sf04,sf14,sf24,sf34,sf44,sf54,sf64,sf74,sf84⟩⟩:=BS4.facts
 go_upto_region 17 with (go_at_call 47;(with_reducible refine (r4_name (hid S4.out) hm.out).mono ?_);rintro e4 u4 ⟨rfl,hs4,hf4⟩;have BQ4:=BS4.fr hf4 hsb;have BW4:=BV4.fr hf4 (Ne.symm hbv);have uz4:=Fr.size hf4;obtain ⟨tl4,⟨tc04,tc14,tc24,tc34,tc44,tc54,tc64,tc74,tc84⟩,⟨tf04,tf14,tf24,tf34,tf44,tf54,tf64,tf74,tf84⟩⟩:=BQ4.facts)
 refine name_world ?_
 intro W5 hW5
 have BS5 : SBlk W5 w1.heap.size 0 x.a tr sc (bstr tn) (.slice none 0 0) (.slice none 0 0) (.slice none 0 0) (.slice none 0 0):=by (rw [hW5];exact ((BQ4.set4 _).alloc _))
 have BV5 : SBlk W5 W.heap.size 0 0 false false ⟨#[]⟩ (.slice none 0 0) (.slice none 0 0) (.slice none 0 0) (.slice none 0 0):=by (rw [hW5];exact ((BW4.setO hvs _ _).alloc _))
 have S5 : Hid (A4 W5 r4 rb g cap ws d p0 p1 p2 p3 τm):=hid (by (rw [hW5];exact ((hs4.setO h4s hbs hgs _ _).alloc _)))
 have F5 : Fr (some rb) W W5:=by (rw [hW5];exact (((F4.step hf4).set (.inr (by omega)) _ _).alloc _))
 have Hi5 : Hi W1.heap.size W4 W5:=by (rw [hW5];exact ((((Hi.refl W1.heap.size W4).fr hf4 (by omega)).set (by omega) _ _).alloc _))
 have hz5:=Hi5.1
 clear hW5 BS4 BV4 F4 sl4 sc04 sc14 sc24 sc34 sc44 sc54 sc64 sc74 sc84 sf04 sf14 sf24 sf34 sf44 sf54 sf64 sf74 sf84 tl4 tc04 tc14 tc24 tc34 tc44 tc54 tc64 tc74 tc84 tf04 tf14 tf24 tf34 tf44 tf54 tf64 tf74 tf84 BQ4 BW4 hf4 hs4
 obtain ⟨sl5,⟨sc05,sc15,sc25,sc35,sc45,sc55,sc65,sc75,sc85⟩,⟨sf05,sf15,sf25,sf35,sf45,sf55,sf65,sf75,sf85⟩⟩:=BS5.facts
 go_upto_region 18 with (go_at_call 48;(with_reducible refine (r4_need (hid S5.out) _ _ hq).mono ?_);rintro e5 u5 ⟨rfl,hs5,hf5⟩;have BQ5:=BS5.fr hf5 hsb;have BW5:=BV5.fr hf5 (Ne.symm hbv);have uz5:=Fr.size hf5;obtain ⟨tl5,⟨tc05,tc15,tc25,tc35,tc45,tc55,tc65,tc75,tc85⟩,⟨tf05,tf15,tf25,tf35,tf45,tf55,tf65,tf75,tf85⟩⟩:=BQ5.facts)
 refine name_world ?_
 intro W6 hW6
 have BS6 : SBlk W6 w1.heap.size 0 x.a tr sc (bstr tn) (.slice none 0 0) (.slice none 0 0) (.slice none 0 0) (.slice none 0 0):=by (rw [hW6];exact BQ5)
 have BV6 : SBlk W6 W.heap.size 0 0 false false ⟨#[]⟩ (.slice none 0 0) (.slice none 0 0) (.slice none 0 0) (.slice none 0 0):=by (rw [hW6];exact BW5)
 have S6 : Hid (A4 W6 r4 rb g cap ws d p0 p1 p2 p3 τq):=hid (by (rw [hW6];exact hs5))
 have F6 : Fr (some rb) W W6:=by (rw [hW6];exact (F5.step hf5))
 have Hi6 : Hi W1.heap.size W5 W6:=by (rw [hW6];exact ((Hi.refl W1.heap.size W5).fr hf5 (by omega)))
 have hz6:=Hi6.1
 clear hW6 BS5 BV5 F5 sl5 sc05 sc15 sc25 sc35 sc45 sc55 sc65 sc75 sc85 sf05 sf15 sf25 sf35 sf45 sf55 sf65 sf75 sf85 tl5 tc05 tc15 tc25 tc35 tc45 tc55 tc65 tc75 tc85 tf05 tf15 tf25 tf35 tf45 tf55 tf65 tf75 tf85 BQ5 BW5 hf5 hs5
 obtain ⟨sl6,⟨sc06,sc16,sc26,sc36,sc46,sc56,sc66,sc76,sc86⟩,⟨sf06,sf16,sf26,sf36,sf46,sf56,sf66,sf76,sf86⟩⟩:=BS6.facts
 go_upto_region 19 with (go_at_call 68;(with_reducible refine (r4_exprQ (hid S6.out) he.out).mono ?_);rintro e6 u6 ⟨⟨k5,q5,n5,nm5,l5,m5,c5,a5,rfl,hg5⟩,hs6,hf6⟩;have BQ6:=BS6.fr hf6 hsb;have BW6:=BV6.fr hf6 (Ne.symm hbv);have uz6:=Fr.size hf6;obtain ⟨tl6,⟨tc06,tc16,tc26,tc36,tc46,tc56,tc66,tc76,tc86⟩,⟨tf06,tf16,tf26,tf36,tf46,tf56,tf66,tf76,tf86⟩⟩:=BQ6.facts)
 refine name_world ?_
 intro W7 hW7
 have BS7 : SBlk W7 w1.heap.size 0 x.a tr sc (bstr tn) (.slice none 0 0) (.slice (some ⟨u6.heap.size,0,none⟩) 1 1) (.slice none 0 0) (.slice none 0 0):=by (rw [hW7];exact ((BQ6.set6 _).alloc _))
 have BV7 : SBlk W7 W.heap.size 0 0 false false ⟨#[]⟩ (.slice none 0 0) (.slice none 0 0) (.slice none 0 0) (.slice none 0 0):=by (rw [hW7];exact ((BW6.setO hvs _ _).alloc _))
 have S7 : Hid (A4 W7 r4 rb g cap ws d p0 p1 p2 p3 τe):=hid (by (rw [hW7];exact ((hs6.setO h4s hbs hgs _ _).alloc _)))
 have F7 : Fr (some rb) W W7:=by (rw [hW7];exact (((F6.step hf6).set (.inr (by omega)) _ _).alloc _))
 have Hi7 : Hi W1.heap.size W6 W7:=by (rw [hW7];exact ((((Hi.refl W1.heap.size W6).fr hf6 (by omega)).set (by omega) _ _).alloc _))
 have hz7:=Hi7.1
 have X7 : Hid (∀ t,τe = .ok t → IsExP (fun g => W1.heap.size ≤ g) W7 (exsE [ex]) (.slice (some ⟨u6.heap.size,0,none⟩) 1 1)):=hid (fun t h => by
  rw [hW7]
  have e:=one_new (lo:=W1.heap.size) (W:=u6.setCell ⟨w1.heap.size,6,none⟩ (.slice (some ⟨u6.heap.size,0,none⟩) 1 1)) (((hg5 t h).low (by (try simp only [World.size_setCell]);omega)).kept fun j hj hl => heap_setCell_other _ ⟨w1.heap.size,6,none⟩ j _ (by simp;omega)) (by simp;omega)
  simpa only [World.size_setCell] using e)
 clear hW7 BS6 BV6 F6 sl6 sc06 sc16 sc26 sc36 sc46 sc56 sc66 sc76 sc86 sf06 sf16 sf26 sf36 sf46 sf56 sf66 sf76 sf86 tl6 tc06 tc16 tc26 tc36 tc46 tc56 tc66 tc76 tc86 tf06 tf16 tf26 tf36 tf46 tf56 tf66 tf76 tf86 BQ6 BW6 hf6 hs6
 obtain ⟨sl7,⟨sc07,sc17,sc27,sc37,sc47,sc57,sc67,sc77,sc87⟩,⟨sf07,sf17,sf27,sf37,sf47,sf57,sf67,sf77,sf87⟩⟩:=BS7.facts
 go_wp2_with (go_at_call 48;(with_reducible refine (r4_need (hid S7.out) _ _ hz).mono ?_);rintro e7 u7 ⟨rfl,hs7,hf7⟩;have BQ7:=BS7.fr hf7 hsb;have BW7:=BV7.fr hf7 (Ne.symm hbv);have uz7:=Fr.size hf7;obtain ⟨tl7,⟨tc07,tc17,tc27,tc37,tc47,tc57,tc67,tc77,tc87⟩,⟨tf07,tf17,tf27,tf37,tf47,tf57,tf67,tf77,tf87⟩⟩:=BQ7.facts;obtain ⟨vl0,⟨vc0,vc1,vc2,vc3,vc4,vc5,vc6,vc7,vc8⟩,⟨vf0,vf1,vf2,vf3,vf4,vf5,vf6,vf7,vf8⟩⟩:=BW7.facts)
 refine bodyPost_ret (results_s rfl _ rfl (SBlk.all BW7)) rfl ⟨⟨_,_,_,_,_,_,_,_,_,_,_,_,_,_,_,_,_,rfl,?_⟩,?_,?_⟩
 · intro t0 ht0
   obtain ⟨t1,ht1⟩:=needQ_ok hz.out ht0
   refine ⟨⟨rfl,rfl,rfl,rfl,rfl⟩,.leaf,((X7.out t1 ht1).hi (((((((((((Hi.refl W1.heap.size W7).fr hf7 (by omega)).set (show W.heap.size < W1.heap.size by omega) _ _).set (show W.heap.size < W1.heap.size by omega) _ _).set (show W.heap.size < W1.heap.size by omega) _ _).set (show W.heap.size < W1.heap.size by omega) _ _).set (show W.heap.size < W1.heap.size by omega) _ _).set (show W.heap.size < W1.heap.size by omega) _ _).set (show W.heap.size < W1.heap.size by omega) _ _).set (show W.heap.size < W1.heap.size by omega) _ _).set (show W.heap.size < W1.heap.size by omega) _ _)).lo (by omega),.nil,.nil⟩
 · exact (((((((((hs7.setO h4v hbv hgv _ _).setO h4v hbv hgv _ _).setO h4v hbv hgv _ _).setO h4v hbv hgv _ _).setO h4v hbv hgv _ _).setO h4v hbv hgv _ _).setO h4v hbv hgv _ _).setO h4v hbv hgv _ _).setO h4v hbv hgv _ _)
 · exact ((((((((((F7.step hf7).set (.inr (Nat.le_refl _)) _ _).set (.inr (Nat.le_refl _)) _ _).set (.inr (Nat.le_refl _)) _ _).set (.inr (Nat.le_refl _)) _ _).set (.inr (Nat.le_refl _)) _ _).set (.inr (Nat.le_refl _)) _ _).set (.inr (Nat.le_refl _)) _ _).set (.inr (Nat.le_refl _)) _ _).set (.inr (Nat.le_refl _)) _ _)
theorem rst_while {r4 rb g cap : Nat} {ws : List Wd} {n d : Nat} {p0 p1 p2 p3 : Value} {W : World} {x : Wd} {tt : List Wd} (S : Hid (A4 W r4 rb g cap ws d p0 p1 p2 p3 (.ok (x :: tt)))) (nvar : (RS.ok (x :: tt)).is kVar = false) (nif : (RS.ok (x :: tt)).is kIf = false) (ywhile : (RS.ok (x :: tt)).is kWhile = true) {τe τl : RS} {ex : Ex} {lb : List Stm} (he : Hid (boundF (.ok tt) = (ex,τe))) (hl : Hid (blockF n d τe = (lb,τl))) (hlen : 3 * τe.len + 2 ≤ n) (HB : Hid (GBlock r4 rb g ws n)) (hd : d ≤ 32) :
 Calls Try.prog 72 #[.pointer (some ⟨r4,0,none⟩)] W fun e w' => EndSt W.heap.size ((.mk 3 x.a false false [] [] [ex] lb [],τl) : Stm × RS) e w' ∧ A4 w' r4 rb g cap ws d p0 p1 p2 p3 ((.mk 3 x.a false false [] [] [ex] lb [],τl) : Stm × RS).2 ∧ Fr (some rb) W w':=by
 obtain ⟨hl4,hlb,hlg⟩:=S.out.blk
 have h4v : r4 ≠ W.heap.size:=by omega
 have hbv : rb ≠ W.heap.size:=by omega
 have hgv : g ≠ W.heap.size:=by omega
 have hfd:=rfield_a
 have b_var : Hid ((RS.ok (x :: tt)).is (⟨#[118,97,114]⟩ : ByteArray).data.toList = false):=hid nvar
 have b_if : Hid ((RS.ok (x :: tt)).is (⟨#[105,102]⟩ : ByteArray).data.toList = false):=hid nif
 have b_while : Hid ((RS.ok (x :: tt)).is (⟨#[119,104,105,108,101]⟩ : ByteArray).data.toList = true):=hid ywhile
 have hx3 : Hid (x.k ≠ 3):=hid (RS.is_ne3 ywhile)
 clear nvar nif ywhile
 go_enter Try.func72,Try.ntmps72
 go_upto_region 12 with (go_at_call 24;(with_reducible refine (r4_wordOk (hid (S.out.alloc _))).mono ?_);rintro e1 w1 ⟨rfl,hb1⟩)
 refine name_world ?_
 intro W1 hW1
 have hzw : W.heap.size + 1 ≤ w1.heap.size:=by (have:=hb1.size;simpa using this)
 have BV1 : SBlk W1 W.heap.size 0 0 false false ⟨#[]⟩ (.slice none 0 0) (.slice none 0 0) (.slice none 0 0) (.slice none 0 0):=by (rw [hW1];exact ((SBlk.new rfl).stay hb1).alloc _)
 have BS1 : SBlk W1 w1.heap.size 0 x.a false false ⟨#[]⟩ (.slice none 0 0) (.slice none 0 0) (.slice none 0 0) (.slice none 0 0):=by (rw [hW1];exact SBlk.new rfl)
 have S1 : Hid (A4 W1 r4 rb g cap ws d p0 p1 p2 p3 (.ok (x :: tt))):=hid (by (rw [hW1];exact ((S.out.alloc _).stay hb1).alloc _))
 have F1 : Fr (some rb) W W1:=by (rw [hW1];exact (((Fr.refl _ _).alloc _).stepB hb1).alloc _)
 have hz1 : W1.heap.size = w1.heap.size + 1:=by (rw [hW1];simp)
 clear hW1 hb1
 have hsb : w1.heap.size ≠ rb:=by omega
 have hbs : rb ≠ w1.heap.size:=by omega
 have h4s : r4 ≠ w1.heap.size:=by omega
 have hgs : g ≠ w1.heap.size:=by omega
 have hvs : W.heap.size ≠ w1.heap.size:=by omega
 have hsv : w1.heap.size ≠ W.heap.size:=by omega
 have T1_0:=S1
 have Hv1_0 : Below W1.heap.size W1 W1:=Below.refl _ _
 go_upto_region 21 with (first
  | (go_at_call 45;(with_reducible refine (r4_is T1_0 _ false b_var).mono ?_);rintro e' v1_1 ⟨rfl,hv1_1⟩;have T1_1:=hid (T1_0.out.stay hv1_1);have Hv1_1:=Hv1_0.trans (hv1_1.mono Hv1_0.size))
  | (go_at_call 45;(with_reducible refine (r4_is T1_1 _ false b_if).mono ?_);rintro e' v1_2 ⟨rfl,hv1_2⟩;have T1_2:=hid (T1_1.out.stay hv1_2);have Hv1_2:=Hv1_1.trans (hv1_2.mono Hv1_1.size))
  | (go_at_call 45;(with_reducible refine (r4_is T1_2 _ true b_while).mono ?_);rintro e' v1_3 ⟨rfl,hv1_3⟩;have T1_3:=hid (T1_2.out.stay hv1_3);have Hv1_3:=Hv1_2.trans (hv1_3.mono Hv1_2.size)))
 have BS2:=BS1.stay Hv1_3
 have BV2:=BV1.stay Hv1_3
 have F2:=F1.stepB Hv1_3
 have S2:=T1_3
 have hz2:=Hv1_3.size
 have Hi2 : Hi W1.heap.size W1 v1_3:=(Hi.refl _ _).stay Hv1_3
 clear BS1 BV1 F1
 obtain ⟨sl2,⟨sc02,sc12,sc22,sc32,sc42,sc52,sc62,sc72,sc82⟩,⟨sf02,sf12,sf22,sf32,sf42,sf52,sf62,sf72,sf82⟩⟩:=BS2.facts
 go_upto_region 22 with (fail)
 refine name_world ?_
 intro W3 hW3
 have BS3 : SBlk W3 w1.heap.size 2 x.a false false ⟨#[]⟩ (.slice none 0 0) (.slice none 0 0) (.slice none 0 0) (.slice none 0 0):=by (rw [hW3];exact (BS2.set0 _))
 have BV3 : SBlk W3 W.heap.size 0 0 false false ⟨#[]⟩ (.slice none 0 0) (.slice none 0 0) (.slice none 0 0) (.slice none 0 0):=by (rw [hW3];exact (BV2.setO hvs _ _))
 have S3 : Hid (A4 W3 r4 rb g cap ws d p0 p1 p2 p3 (.ok (x :: tt))):=hid (by (rw [hW3];exact (S2.out.setO h4s hbs hgs _ _)))
 have F3 : Fr (some rb) W W3:=by (rw [hW3];exact (F2.set (.inr (by omega)) _ _))
 have Hi3 : Hi W1.heap.size v1_3 W3:=by (rw [hW3];exact ((Hi.refl W1.heap.size v1_3).set (by omega) _ _))
 have hz3:=Hi3.1
 clear hW3 BS2 BV2 F2 sl2 sc02 sc12 sc22 sc32 sc42 sc52 sc62 sc72 sc82 sf02 sf12 sf22 sf32 sf42 sf52 sf62 sf72 sf82
 have T3_0:=S3
 have Hv3_0 : Below W3.heap.size W3 W3:=Below.refl _ _
 go_upto_region 23 with (first
  | (go_at_call 45;(with_reducible refine (r4_is T3_0 _ true b_while).mono ?_);rintro e' v3_1 ⟨rfl,hv3_1⟩;have T3_1:=hid (T3_0.out.stay hv3_1);have Hv3_1:=Hv3_0.trans (hv3_1.mono Hv3_0.size)))
 have BS4:=BS3.stay Hv3_1
 have BV4:=BV3.stay Hv3_1
 have F4:=F3.stepB Hv3_1
 have S4:=T3_1
 have hz4:=Hv3_1.size
 have Hi4 : Hi W1.heap.size W3 v3_1:=(Hi.refl _ _).stay Hv3_1
 clear BS3 BV3 F3
 obtain ⟨sl4,⟨sc04,sc14,sc24,sc34,sc44,sc54,sc64,sc74,sc84⟩,⟨sf04,sf14,sf24,sf34,sf44,sf54,sf64,sf74,sf84⟩⟩:=BS4.facts
 go_upto_region 24 with (fail)
 refine name_world ?_
 intro W5 hW5
 have BS5 : SBlk W5 w1.heap.size 3 x.a false false ⟨#[]⟩ (.slice none 0 0) (.slice none 0 0) (.slice none 0 0) (.slice none 0 0):=by (rw [hW5];exact (BS4.set0 _))
 have BV5 : SBlk W5 W.heap.size 0 0 false false ⟨#[]⟩ (.slice none 0 0) (.slice none 0 0) (.slice none 0 0) (.slice none 0 0):=by (rw [hW5];exact (BV4.setO hvs _ _))
 have S5 : Hid (A4 W5 r4 rb g cap ws d p0 p1 p2 p3 (.ok (x :: tt))):=hid (by (rw [hW5];exact (S4.out.setO h4s hbs hgs _ _)))
 have F5 : Fr (some rb) W W5:=by (rw [hW5];exact (F4.set (.inr (by omega)) _ _))
 have Hi5 : Hi W1.heap.size v3_1 W5:=by (rw [hW5];exact ((Hi.refl W1.heap.size v3_1).set (by omega) _ _))
 have hz5:=Hi5.1
 clear hW5 BS4 BV4 F4 sl4 sc04 sc14 sc24 sc34 sc44 sc54 sc64 sc74 sc84 sf04 sf14 sf24 sf34 sf44 sf54 sf64 sf74 sf84
 obtain ⟨sl5,⟨sc05,sc15,sc25,sc35,sc45,sc55,sc65,sc75,sc85⟩,⟨sf05,sf15,sf25,sf35,sf45,sf55,sf65,sf75,sf85⟩⟩:=BS5.facts
 obtain ⟨i5,a5,R5,g55,g65,g75,gx5⟩:=S5.out.st.ok_cells S5.out.env
 obtain ⟨m05,_,_,_,_,_⟩:=S5.out.at4.cells
 obtain ⟨_,q15,_,_,_⟩:=R5.rd.cells
 have ml5:=S5.out.at4.lt
 have rl5:=R5.rd.lt
 have rf5:=R5.rd.frozen 1
 go_upto_region 25 with (fail)
 refine name_world ?_
 intro W6 hW6
 have BS6 : SBlk W6 w1.heap.size 3 x.a false false ⟨#[]⟩ (.slice none 0 0) (.slice none 0 0) (.slice none 0 0) (.slice none 0 0):=by (rw [hW6];exact (BS5.setO hsb _ _))
 have BV6 : SBlk W6 W.heap.size 0 0 false false ⟨#[]⟩ (.slice none 0 0) (.slice none 0 0) (.slice none 0 0) (.slice none 0 0):=by (rw [hW6];exact (BV5.setO (Ne.symm hbv) _ _))
 have S6 : Hid (A4 W6 r4 rb g cap ws d p0 p1 p2 p3 (.ok tt)):=hid (by (rw [hW6];exact (S5.out.fr ((Fr.refl (some rb) _).set (.inl rfl) 1 _) (st_adv S5.out.st R5 hx3.out g55))))
 have F6 : Fr (some rb) W W6:=by (rw [hW6];exact (F5.set (.inl rfl) _ _))
 have Hi6 : Hi W1.heap.size W5 W6:=by (rw [hW6];exact ((Hi.refl W1.heap.size W5).set (by omega) _ _))
 have hz6:=Hi6.1
 clear hW6 BS5 BV5 F5 sl5 sc05 sc15 sc25 sc35 sc45 sc55 sc65 sc75 sc85 sf05 sf15 sf25 sf35 sf45 sf55 sf65 sf75 sf85
 obtain ⟨sl6,⟨sc06,sc16,sc26,sc36,sc46,sc56,sc66,sc76,sc86⟩,⟨sf06,sf16,sf26,sf36,sf46,sf56,sf66,sf76,sf86⟩⟩:=BS6.facts
 go_upto_region 26 with (go_at_call 74;(with_reducible refine (r4_boundQ (hid S6.out) he.out).mono ?_);rintro e6 u6 ⟨⟨k5,q5,n5,nm5,l5,m5,c5,a5,rfl,hg5⟩,hs6,hf6⟩;have BQ6:=BS6.fr hf6 hsb;have BW6:=BV6.fr hf6 (Ne.symm hbv);have uz6:=Fr.size hf6;obtain ⟨tl6,⟨tc06,tc16,tc26,tc36,tc46,tc56,tc66,tc76,tc86⟩,⟨tf06,tf16,tf26,tf36,tf46,tf56,tf66,tf76,tf86⟩⟩:=BQ6.facts)
 refine name_world ?_
 intro W7 hW7
 have BS7 : SBlk W7 w1.heap.size 3 x.a false false ⟨#[]⟩ (.slice none 0 0) (.slice (some ⟨u6.heap.size,0,none⟩) 1 1) (.slice none 0 0) (.slice none 0 0):=by (rw [hW7];exact ((BQ6.set6 _).alloc _))
 have BV7 : SBlk W7 W.heap.size 0 0 false false ⟨#[]⟩ (.slice none 0 0) (.slice none 0 0) (.slice none 0 0) (.slice none 0 0):=by (rw [hW7];exact ((BW6.setO hvs _ _).alloc _))
 have S7 : Hid (A4 W7 r4 rb g cap ws d p0 p1 p2 p3 τe):=hid (by (rw [hW7];exact ((hs6.setO h4s hbs hgs _ _).alloc _)))
 have F7 : Fr (some rb) W W7:=by (rw [hW7];exact (((F6.step hf6).set (.inr (by omega)) _ _).alloc _))
 have Hi7 : Hi W1.heap.size W6 W7:=by (rw [hW7];exact ((((Hi.refl W1.heap.size W6).fr hf6 (by omega)).set (by omega) _ _).alloc _))
 have hz7:=Hi7.1
 have X7 : Hid (∀ t,τe = .ok t → IsExP (fun g => W1.heap.size ≤ g) W7 (exsE [ex]) (.slice (some ⟨u6.heap.size,0,none⟩) 1 1)):=hid (fun t h => by
  rw [hW7]
  have e:=one_new (lo:=W1.heap.size) (W:=u6.setCell ⟨w1.heap.size,6,none⟩ (.slice (some ⟨u6.heap.size,0,none⟩) 1 1)) (((hg5 t h).low (by (try simp only [World.size_setCell]);omega)).kept fun j hj hl => heap_setCell_other _ ⟨w1.heap.size,6,none⟩ j _ (by simp;omega)) (by simp;omega)
  simpa only [World.size_setCell] using e)
 clear hW7 BS6 BV6 F6 sl6 sc06 sc16 sc26 sc36 sc46 sc56 sc66 sc76 sc86 sf06 sf16 sf26 sf36 sf46 sf56 sf66 sf76 sf86 tl6 tc06 tc16 tc26 tc36 tc46 tc56 tc66 tc76 tc86 tf06 tf16 tf26 tf36 tf46 tf56 tf66 tf76 tf86 BQ6 BW6 hf6 hs6
 obtain ⟨sl7,⟨sc07,sc17,sc27,sc37,sc47,sc57,sc67,sc77,sc87⟩,⟨sf07,sf17,sf27,sf37,sf47,sf57,sf67,sf77,sf87⟩⟩:=BS7.facts
 go_wp2_with (go_at_call 50;(with_reducible refine (HB.out.use (hid S7.out) hlen hd _ hl.out).mono ?_);rintro e7 u7 ⟨⟨lp,lm,lc,rfl,hb9⟩,hs7,hf7⟩;have BQ7:=BS7.fr hf7 hsb;have BW7:=BV7.fr hf7 (Ne.symm hbv);have uz7:=Fr.size hf7;obtain ⟨tl7,⟨tc07,tc17,tc27,tc37,tc47,tc57,tc67,tc77,tc87⟩,⟨tf07,tf17,tf27,tf37,tf47,tf57,tf67,tf77,tf87⟩⟩:=BQ7.facts;obtain ⟨vl0,⟨vc0,vc1,vc2,vc3,vc4,vc5,vc6,vc7,vc8⟩,⟨vf0,vf1,vf2,vf3,vf4,vf5,vf6,vf7,vf8⟩⟩:=BW7.facts)
 refine bodyPost_ret (results_s rfl _ rfl (SBlk.all (BW7.setO hvs _ _))) rfl ⟨⟨_,_,_,_,_,_,_,_,_,_,_,_,_,_,_,_,_,rfl,?_⟩,?_,?_⟩
 · intro t0 ht0
   obtain ⟨t1,ht1⟩:=blockQ_ok hl.out ht0
   refine ⟨⟨rfl,rfl,rfl,rfl,rfl⟩,.leaf,((X7.out t1 ht1).hi ((((((((((((Hi.refl W1.heap.size W7).fr hf7 (by omega)).set (by omega) _ _).set (show W.heap.size < W1.heap.size by omega) _ _).set (show W.heap.size < W1.heap.size by omega) _ _).set (show W.heap.size < W1.heap.size by omega) _ _).set (show W.heap.size < W1.heap.size by omega) _ _).set (show W.heap.size < W1.heap.size by omega) _ _).set (show W.heap.size < W1.heap.size by omega) _ _).set (show W.heap.size < W1.heap.size by omega) _ _).set (show W.heap.size < W1.heap.size by omega) _ _).set (show W.heap.size < W1.heap.size by omega) _ _)).lo (by omega),(((hb9 t0 ht0).lo (by omega)).hi (((((((((((Hi.refl W1.heap.size u7).set (by omega) _ _).set (show W.heap.size < W1.heap.size by omega) _ _).set (show W.heap.size < W1.heap.size by omega) _ _).set (show W.heap.size < W1.heap.size by omega) _ _).set (show W.heap.size < W1.heap.size by omega) _ _).set (show W.heap.size < W1.heap.size by omega) _ _).set (show W.heap.size < W1.heap.size by omega) _ _).set (show W.heap.size < W1.heap.size by omega) _ _).set (show W.heap.size < W1.heap.size by omega) _ _).set (show W.heap.size < W1.heap.size by omega) _ _)).lo (by omega),.nil⟩
 · exact ((((((((((hs7.setO h4s hbs hgs _ _).setO h4v hbv hgv _ _).setO h4v hbv hgv _ _).setO h4v hbv hgv _ _).setO h4v hbv hgv _ _).setO h4v hbv hgv _ _).setO h4v hbv hgv _ _).setO h4v hbv hgv _ _).setO h4v hbv hgv _ _).setO h4v hbv hgv _ _)
 · exact (((((((((((F7.step hf7).set (.inr (by omega)) _ _).set (.inr (Nat.le_refl _)) _ _).set (.inr (Nat.le_refl _)) _ _).set (.inr (Nat.le_refl _)) _ _).set (.inr (Nat.le_refl _)) _ _).set (.inr (Nat.le_refl _)) _ _).set (.inr (Nat.le_refl _)) _ _).set (.inr (Nat.le_refl _)) _ _).set (.inr (Nat.le_refl _)) _ _).set (.inr (Nat.le_refl _)) _ _)
theorem rst_ifno {r4 rb g cap : Nat} {ws : List Wd} {n d : Nat} {p0 p1 p2 p3 : Value} {W : World} {x : Wd} {tt : List Wd} (S : Hid (A4 W r4 rb g cap ws d p0 p1 p2 p3 (.ok (x :: tt)))) (nvar : (RS.ok (x :: tt)).is kVar = false) (yif : (RS.ok (x :: tt)).is kIf = true) (nwhile : (RS.ok (x :: tt)).is kWhile = false) {τe τl : RS} {ex : Ex} {lb : List Stm} (he : Hid (boundF (.ok tt) = (ex,τe))) (hl : Hid (blockF n d τe = (lb,τl))) (b_else : Hid (τl.is (⟨#[101,108,115,101]⟩ : ByteArray).data.toList = false)) (hlen : 3 * τe.len + 2 ≤ n) (HB : Hid (GBlock r4 rb g ws n)) (hd : d ≤ 32) :
 Calls Try.prog 72 #[.pointer (some ⟨r4,0,none⟩)] W fun e w' => EndSt W.heap.size ((.mk 2 x.a false false [] [] [ex] lb [],τl) : Stm × RS) e w' ∧ A4 w' r4 rb g cap ws d p0 p1 p2 p3 ((.mk 2 x.a false false [] [] [ex] lb [],τl) : Stm × RS).2 ∧ Fr (some rb) W w':=by
 obtain ⟨hl4,hlb,hlg⟩:=S.out.blk
 have h4v : r4 ≠ W.heap.size:=by omega
 have hbv : rb ≠ W.heap.size:=by omega
 have hgv : g ≠ W.heap.size:=by omega
 have hfd:=rfield_a
 have b_var : Hid ((RS.ok (x :: tt)).is (⟨#[118,97,114]⟩ : ByteArray).data.toList = false):=hid nvar
 have b_while : Hid ((RS.ok (x :: tt)).is (⟨#[119,104,105,108,101]⟩ : ByteArray).data.toList = false):=hid nwhile
 have b_if : Hid ((RS.ok (x :: tt)).is (⟨#[105,102]⟩ : ByteArray).data.toList = true):=hid yif
 have hx3 : Hid (x.k ≠ 3):=hid (RS.is_ne3 yif)
 clear nvar nwhile yif
 go_enter Try.func72,Try.ntmps72
 go_upto_region 12 with (go_at_call 24;(with_reducible refine (r4_wordOk (hid (S.out.alloc _))).mono ?_);rintro e1 w1 ⟨rfl,hb1⟩)
 refine name_world ?_
 intro W1 hW1
 have hzw : W.heap.size + 1 ≤ w1.heap.size:=by (have:=hb1.size;simpa using this)
 have BV1 : SBlk W1 W.heap.size 0 0 false false ⟨#[]⟩ (.slice none 0 0) (.slice none 0 0) (.slice none 0 0) (.slice none 0 0):=by (rw [hW1];exact ((SBlk.new rfl).stay hb1).alloc _)
 have BS1 : SBlk W1 w1.heap.size 0 x.a false false ⟨#[]⟩ (.slice none 0 0) (.slice none 0 0) (.slice none 0 0) (.slice none 0 0):=by (rw [hW1];exact SBlk.new rfl)
 have S1 : Hid (A4 W1 r4 rb g cap ws d p0 p1 p2 p3 (.ok (x :: tt))):=hid (by (rw [hW1];exact ((S.out.alloc _).stay hb1).alloc _))
 have F1 : Fr (some rb) W W1:=by (rw [hW1];exact (((Fr.refl _ _).alloc _).stepB hb1).alloc _)
 have hz1 : W1.heap.size = w1.heap.size + 1:=by (rw [hW1];simp)
 clear hW1 hb1
 have hsb : w1.heap.size ≠ rb:=by omega
 have hbs : rb ≠ w1.heap.size:=by omega
 have h4s : r4 ≠ w1.heap.size:=by omega
 have hgs : g ≠ w1.heap.size:=by omega
 have hvs : W.heap.size ≠ w1.heap.size:=by omega
 have hsv : w1.heap.size ≠ W.heap.size:=by omega
 have T1_0:=S1
 have Hv1_0 : Below W1.heap.size W1 W1:=Below.refl _ _
 go_upto_region 21 with (first
  | (go_at_call 45;(with_reducible refine (r4_is T1_0 _ false b_var).mono ?_);rintro e' v1_1 ⟨rfl,hv1_1⟩;have T1_1:=hid (T1_0.out.stay hv1_1);have Hv1_1:=Hv1_0.trans (hv1_1.mono Hv1_0.size))
  | (go_at_call 45;(with_reducible refine (r4_is T1_1 _ true b_if).mono ?_);rintro e' v1_2 ⟨rfl,hv1_2⟩;have T1_2:=hid (T1_1.out.stay hv1_2);have Hv1_2:=Hv1_1.trans (hv1_2.mono Hv1_1.size)))
 have BS2:=BS1.stay Hv1_2
 have BV2:=BV1.stay Hv1_2
 have F2:=F1.stepB Hv1_2
 have S2:=T1_2
 have hz2:=Hv1_2.size
 have Hi2 : Hi W1.heap.size W1 v1_2:=(Hi.refl _ _).stay Hv1_2
 clear BS1 BV1 F1
 obtain ⟨sl2,⟨sc02,sc12,sc22,sc32,sc42,sc52,sc62,sc72,sc82⟩,⟨sf02,sf12,sf22,sf32,sf42,sf52,sf62,sf72,sf82⟩⟩:=BS2.facts
 go_upto_region 22 with (fail)
 refine name_world ?_
 intro W3 hW3
 have BS3 : SBlk W3 w1.heap.size 2 x.a false false ⟨#[]⟩ (.slice none 0 0) (.slice none 0 0) (.slice none 0 0) (.slice none 0 0):=by (rw [hW3];exact (BS2.set0 _))
 have BV3 : SBlk W3 W.heap.size 0 0 false false ⟨#[]⟩ (.slice none 0 0) (.slice none 0 0) (.slice none 0 0) (.slice none 0 0):=by (rw [hW3];exact (BV2.setO hvs _ _))
 have S3 : Hid (A4 W3 r4 rb g cap ws d p0 p1 p2 p3 (.ok (x :: tt))):=hid (by (rw [hW3];exact (S2.out.setO h4s hbs hgs _ _)))
 have F3 : Fr (some rb) W W3:=by (rw [hW3];exact (F2.set (.inr (by omega)) _ _))
 have Hi3 : Hi W1.heap.size v1_2 W3:=by (rw [hW3];exact ((Hi.refl W1.heap.size v1_2).set (by omega) _ _))
 have hz3:=Hi3.1
 clear hW3 BS2 BV2 F2 sl2 sc02 sc12 sc22 sc32 sc42 sc52 sc62 sc72 sc82 sf02 sf12 sf22 sf32 sf42 sf52 sf62 sf72 sf82
 have T3_0:=S3
 have Hv3_0 : Below W3.heap.size W3 W3:=Below.refl _ _
 go_upto_region 24 with (first
  | (go_at_call 45;(with_reducible refine (r4_is T3_0 _ false b_while).mono ?_);rintro e' v3_1 ⟨rfl,hv3_1⟩;have T3_1:=hid (T3_0.out.stay hv3_1);have Hv3_1:=Hv3_0.trans (hv3_1.mono Hv3_0.size)))
 have BS4:=BS3.stay Hv3_1
 have BV4:=BV3.stay Hv3_1
 have F4:=F3.stepB Hv3_1
 have S4:=T3_1
 have hz4:=Hv3_1.size
 have Hi4 : Hi W1.heap.size W3 v3_1:=(Hi.refl _ _).stay Hv3_1
 clear BS3 BV3 F3
 obtain ⟨sl4,⟨sc04,sc14,sc24,sc34,sc44,sc54,sc64,sc74,sc84⟩,⟨sf04,sf14,sf24,sf34,sf44,sf54,sf64,sf74,sf84⟩⟩:=BS4.facts
 obtain ⟨i4,a4,R4,g54,g64,g74,gx4⟩:=S4.out.st.ok_cells S4.out.env
 obtain ⟨m04,_,_,_,_,_⟩:=S4.out.at4.cells
 obtain ⟨_,q14,_,_,_⟩:=R4.rd.cells
 have ml4:=S4.out.at4.lt
 have rl4:=R4.rd.lt
 have rf4:=R4.rd.frozen 1
 go_upto_region 25 with (fail)
 refine name_world ?_
 intro W5 hW5
 have BS5 : SBlk W5 w1.heap.size 2 x.a false false ⟨#[]⟩ (.slice none 0 0) (.slice none 0 0) (.slice none 0 0) (.slice none 0 0):=by (rw [hW5];exact (BS4.setO hsb _ _))
 have BV5 : SBlk W5 W.heap.size 0 0 false false ⟨#[]⟩ (.slice none 0 0) (.slice none 0 0) (.slice none 0 0) (.slice none 0 0):=by (rw [hW5];exact (BV4.setO (Ne.symm hbv) _ _))
 have S5 : Hid (A4 W5 r4 rb g cap ws d p0 p1 p2 p3 (.ok tt)):=hid (by (rw [hW5];exact (S4.out.fr ((Fr.refl (some rb) _).set (.inl rfl) 1 _) (st_adv S4.out.st R4 hx3.out g54))))
 have F5 : Fr (some rb) W W5:=by (rw [hW5];exact (F4.set (.inl rfl) _ _))
 have Hi5 : Hi W1.heap.size v3_1 W5:=by (rw [hW5];exact ((Hi.refl W1.heap.size v3_1).set (by omega) _ _))
 have hz5:=Hi5.1
 clear hW5 BS4 BV4 F4 sl4 sc04 sc14 sc24 sc34 sc44 sc54 sc64 sc74 sc84 sf04 sf14 sf24 sf34 sf44 sf54 sf64 sf74 sf84
 obtain ⟨sl5,⟨sc05,sc15,sc25,sc35,sc45,sc55,sc65,sc75,sc85⟩,⟨sf05,sf15,sf25,sf35,sf45,sf55,sf65,sf75,sf85⟩⟩:=BS5.facts
 go_upto_region 26 with (go_at_call 74;(with_reducible refine (r4_boundQ (hid S5.out) he.out).mono ?_);rintro e5 u5 ⟨⟨k5,q5,n5,nm5,l5,m5,c5,a5,rfl,hg5⟩,hs5,hf5⟩;have BQ5:=BS5.fr hf5 hsb;have BW5:=BV5.fr hf5 (Ne.symm hbv);have uz5:=Fr.size hf5;obtain ⟨tl5,⟨tc05,tc15,tc25,tc35,tc45,tc55,tc65,tc75,tc85⟩,⟨tf05,tf15,tf25,tf35,tf45,tf55,tf65,tf75,tf85⟩⟩:=BQ5.facts)
 refine name_world ?_
 intro W6 hW6
 have BS6 : SBlk W6 w1.heap.size 2 x.a false false ⟨#[]⟩ (.slice none 0 0) (.slice (some ⟨u5.heap.size,0,none⟩) 1 1) (.slice none 0 0) (.slice none 0 0):=by (rw [hW6];exact ((BQ5.set6 _).alloc _))
 have BV6 : SBlk W6 W.heap.size 0 0 false false ⟨#[]⟩ (.slice none 0 0) (.slice none 0 0) (.slice none 0 0) (.slice none 0 0):=by (rw [hW6];exact ((BW5.setO hvs _ _).alloc _))
 have S6 : Hid (A4 W6 r4 rb g cap ws d p0 p1 p2 p3 τe):=hid (by (rw [hW6];exact ((hs5.setO h4s hbs hgs _ _).alloc _)))
 have F6 : Fr (some rb) W W6:=by (rw [hW6];exact (((F5.step hf5).set (.inr (by omega)) _ _).alloc _))
 have Hi6 : Hi W1.heap.size W5 W6:=by (rw [hW6];exact ((((Hi.refl W1.heap.size W5).fr hf5 (by omega)).set (by omega) _ _).alloc _))
 have hz6:=Hi6.1
 have X6 : Hid (∀ t,τe = .ok t → IsExP (fun g => W1.heap.size ≤ g) W6 (exsE [ex]) (.slice (some ⟨u5.heap.size,0,none⟩) 1 1)):=hid (fun t h => by
  rw [hW6]
  have e:=one_new (lo:=W1.heap.size) (W:=u5.setCell ⟨w1.heap.size,6,none⟩ (.slice (some ⟨u5.heap.size,0,none⟩) 1 1)) (((hg5 t h).low (by (try simp only [World.size_setCell]);omega)).kept fun j hj hl => heap_setCell_other _ ⟨w1.heap.size,6,none⟩ j _ (by simp;omega)) (by simp;omega)
  simpa only [World.size_setCell] using e)
 clear hW6 BS5 BV5 F5 sl5 sc05 sc15 sc25 sc35 sc45 sc55 sc65 sc75 sc85 sf05 sf15 sf25 sf35 sf45 sf55 sf65 sf75 sf85 tl5 tc05 tc15 tc25 tc35 tc45 tc55 tc65 tc75 tc85 tf05 tf15 tf25 tf35 tf45 tf55 tf65 tf75 tf85 BQ5 BW5 hf5 hs5
 obtain ⟨sl6,⟨sc06,sc16,sc26,sc36,sc46,sc56,sc66,sc76,sc86⟩,⟨sf06,sf16,sf26,sf36,sf46,sf56,sf66,sf76,sf86⟩⟩:=BS6.facts
 go_upto_region 27 with (go_at_call 50;(with_reducible refine (HB.out.use (hid S6.out) hlen hd _ hl.out).mono ?_);rintro e6 u6 ⟨⟨lp,lm,lc,rfl,hb9⟩,hs6,hf6⟩;have BQ6:=BS6.fr hf6 hsb;have BW6:=BV6.fr hf6 (Ne.symm hbv);have uz6:=Fr.size hf6;obtain ⟨tl6,⟨tc06,tc16,tc26,tc36,tc46,tc56,tc66,tc76,tc86⟩,⟨tf06,tf16,tf26,tf36,tf46,tf56,tf66,tf76,tf86⟩⟩:=BQ6.facts)
 refine name_world ?_
 intro W7 hW7
 have BS7 : SBlk W7 w1.heap.size 2 x.a false false ⟨#[]⟩ (.slice none 0 0) (.slice (some ⟨u5.heap.size,0,none⟩) 1 1) (.slice lp lm lc) (.slice none 0 0):=by (rw [hW7];exact (BQ6.set7 _))
 have BV7 : SBlk W7 W.heap.size 0 0 false false ⟨#[]⟩ (.slice none 0 0) (.slice none 0 0) (.slice none 0 0) (.slice none 0 0):=by (rw [hW7];exact (BW6.setO hvs _ _))
 have S7 : Hid (A4 W7 r4 rb g cap ws d p0 p1 p2 p3 τl):=hid (by (rw [hW7];exact (hs6.setO h4s hbs hgs _ _)))
 have F7 : Fr (some rb) W W7:=by (rw [hW7];exact ((F6.step hf6).set (.inr (by omega)) _ _))
 have Hi7 : Hi W1.heap.size W6 W7:=by (rw [hW7];exact (((Hi.refl W1.heap.size W6).fr hf6 (by omega)).set (by omega) _ _))
 have hz7:=Hi7.1
 have X6':=hid (fun tt h => (X6.out tt h).hi Hi7)
 clear X6
 have X7 : Hid (∀ t,τl = .ok t → IsSts (fun g => W1.heap.size ≤ g) W7 lb (.slice lp lm lc)):=hid (fun t h => by
  rw [hW7]
  exact ((hb9 t h).lo (by omega)).hi ((Hi.refl _ _).set (by omega) _ _))
 clear hW7 BS6 BV6 F6 sl6 sc06 sc16 sc26 sc36 sc46 sc56 sc66 sc76 sc86 sf06 sf16 sf26 sf36 sf46 sf56 sf66 sf76 sf86 tl6 tc06 tc16 tc26 tc36 tc46 tc56 tc66 tc76 tc86 tf06 tf16 tf26 tf36 tf46 tf56 tf66 tf76 tf86 BQ6 BW6 hf6 hs6
 obtain ⟨sl7,⟨sc07,sc17,sc27,sc37,sc47,sc57,sc67,sc77,sc87⟩,⟨sf07,sf17,sf27,sf37,sf47,sf57,sf67,sf77,sf87⟩⟩:=BS7.facts
 have T7_0:=S7
 have Hv7_0 : Below W7.heap.size W7 W7:=Below.refl _ _
 go_upto_region 41 with (first
  | (go_at_call 45;(with_reducible refine (r4_is T7_0 _ false b_else).mono ?_);rintro e' v7_1 ⟨rfl,hv7_1⟩;have T7_1:=hid (T7_0.out.stay hv7_1);have Hv7_1:=Hv7_0.trans (hv7_1.mono Hv7_0.size)))
 have BS8:=BS7.stay Hv7_1
 have BV8:=BV7.stay Hv7_1
 have F8:=F7.stepB Hv7_1
 have S8:=T7_1
 have hz8:=Hv7_1.size
 have Hi8 : Hi W1.heap.size W7 v7_1:=(Hi.refl _ _).stay Hv7_1
 have X6'':=hid (fun tt h => (X6'.out tt h).hi Hi8)
 clear X6'
 have X7':=hid (fun tt h => (X7.out tt h).hi Hi8)
 clear X7
 clear BS7 BV7 F7
 obtain ⟨sl8,⟨sc08,sc18,sc28,sc38,sc48,sc58,sc68,sc78,sc88⟩,⟨sf08,sf18,sf28,sf38,sf48,sf58,sf68,sf78,sf88⟩⟩:=BS8.facts
 obtain ⟨vl0,⟨vc0,vc1,vc2,vc3,vc4,vc5,vc6,vc7,vc8⟩,⟨vf0,vf1,vf2,vf3,vf4,vf5,vf6,vf7,vf8⟩⟩:=BV8.facts
 go_wp2_with (fail)
 refine bodyPost_ret (results_s rfl _ rfl (SBlk.all BV8)) rfl ⟨⟨_,_,_,_,_,_,_,_,_,_,_,_,_,_,_,_,_,rfl,?_⟩,?_,?_⟩
 · intro t0 ht0
   obtain ⟨t1,ht1⟩:=blockQ_ok hl.out ht0
   refine ⟨⟨rfl,rfl,rfl,rfl,rfl⟩,.leaf,((X6''.out t1 ht1).hi ((((((((((Hi.refl W1.heap.size v7_1).set (show W.heap.size < W1.heap.size by omega) _ _).set (show W.heap.size < W1.heap.size by omega) _ _).set (show W.heap.size < W1.heap.size by omega) _ _).set (show W.heap.size < W1.heap.size by omega) _ _).set (show W.heap.size < W1.heap.size by omega) _ _).set (show W.heap.size < W1.heap.size by omega) _ _).set (show W.heap.size < W1.heap.size by omega) _ _).set (show W.heap.size < W1.heap.size by omega) _ _).set (show W.heap.size < W1.heap.size by omega) _ _)).lo (by omega),((X7'.out t0 ht0).hi ((((((((((Hi.refl W1.heap.size v7_1).set (show W.heap.size < W1.heap.size by omega) _ _).set (show W.heap.size < W1.heap.size by omega) _ _).set (show W.heap.size < W1.heap.size by omega) _ _).set (show W.heap.size < W1.heap.size by omega) _ _).set (show W.heap.size < W1.heap.size by omega) _ _).set (show W.heap.size < W1.heap.size by omega) _ _).set (show W.heap.size < W1.heap.size by omega) _ _).set (show W.heap.size < W1.heap.size by omega) _ _).set (show W.heap.size < W1.heap.size by omega) _ _)).lo (by omega),.nil⟩
 · exact (((((((((S8.out.setO h4v hbv hgv _ _).setO h4v hbv hgv _ _).setO h4v hbv hgv _ _).setO h4v hbv hgv _ _).setO h4v hbv hgv _ _).setO h4v hbv hgv _ _).setO h4v hbv hgv _ _).setO h4v hbv hgv _ _).setO h4v hbv hgv _ _)
 · exact (((((((((F8.set (.inr (Nat.le_refl _)) _ _).set (.inr (Nat.le_refl _)) _ _).set (.inr (Nat.le_refl _)) _ _).set (.inr (Nat.le_refl _)) _ _).set (.inr (Nat.le_refl _)) _ _).set (.inr (Nat.le_refl _)) _ _).set (.inr (Nat.le_refl _)) _ _).set (.inr (Nat.le_refl _)) _ _).set (.inr (Nat.le_refl _)) _ _)
theorem rst_ifelse {r4 rb g cap : Nat} {ws : List Wd} {n d : Nat} {p0 p1 p2 p3 : Value} {W : World} {x : Wd} {tt : List Wd} (S : Hid (A4 W r4 rb g cap ws d p0 p1 p2 p3 (.ok (x :: tt)))) (nvar : (RS.ok (x :: tt)).is kVar = false) (yif : (RS.ok (x :: tt)).is kIf = true) (nwhile : (RS.ok (x :: tt)).is kWhile = false) {τe τf : RS} {y : Wd} {t2 : List Wd} {ex : Ex} {lb lf : List Stm} (he : Hid (boundF (.ok tt) = (ex,τe))) (hl : Hid (blockF n d τe = (lb,.ok (y :: t2)))) (b_else : Hid ((RS.ok (y :: t2)).is (⟨#[101,108,115,101]⟩ : ByteArray).data.toList = true)) (hg : Hid (blockF n d (.ok t2) = (lf,τf))) (hlen : 3 * τe.len + 2 ≤ n) (hlen2 : 3 * (RS.ok t2).len + 2 ≤ n) (HB : Hid (GBlock r4 rb g ws n)) (hd : d ≤ 32) :
 Calls Try.prog 72 #[.pointer (some ⟨r4,0,none⟩)] W fun e w' => EndSt W.heap.size ((.mk 2 x.a false false [] [] [ex] lb lf,τf) : Stm × RS) e w' ∧ A4 w' r4 rb g cap ws d p0 p1 p2 p3 ((.mk 2 x.a false false [] [] [ex] lb lf,τf) : Stm × RS).2 ∧ Fr (some rb) W w':=by
 obtain ⟨hl4,hlb,hlg⟩:=S.out.blk
 have h4v : r4 ≠ W.heap.size:=by omega
 have hbv : rb ≠ W.heap.size:=by omega
 have hgv : g ≠ W.heap.size:=by omega
 have hfd:=rfield_a
 have b_var : Hid ((RS.ok (x :: tt)).is (⟨#[118,97,114]⟩ : ByteArray).data.toList = false):=hid nvar
 have b_while : Hid ((RS.ok (x :: tt)).is (⟨#[119,104,105,108,101]⟩ : ByteArray).data.toList = false):=hid nwhile
 have b_if : Hid ((RS.ok (x :: tt)).is (⟨#[105,102]⟩ : ByteArray).data.toList = true):=hid yif
 have hx3 : Hid (x.k ≠ 3):=hid (RS.is_ne3 yif)
 have hy3 : Hid (y.k ≠ 3):=hid (RS.is_ne3 b_else.out)
 clear nvar nwhile yif
 go_enter Try.func72,Try.ntmps72
 go_upto_region 12 with (go_at_call 24;(with_reducible refine (r4_wordOk (hid (S.out.alloc _))).mono ?_);rintro e1 w1 ⟨rfl,hb1⟩)
 refine name_world ?_
 intro W1 hW1
 have hzw : W.heap.size + 1 ≤ w1.heap.size:=by (have:=hb1.size;simpa using this)
 have BV1 : SBlk W1 W.heap.size 0 0 false false ⟨#[]⟩ (.slice none 0 0) (.slice none 0 0) (.slice none 0 0) (.slice none 0 0):=by (rw [hW1];exact ((SBlk.new rfl).stay hb1).alloc _)
 have BS1 : SBlk W1 w1.heap.size 0 x.a false false ⟨#[]⟩ (.slice none 0 0) (.slice none 0 0) (.slice none 0 0) (.slice none 0 0):=by (rw [hW1];exact SBlk.new rfl)
 have S1 : Hid (A4 W1 r4 rb g cap ws d p0 p1 p2 p3 (.ok (x :: tt))):=hid (by (rw [hW1];exact ((S.out.alloc _).stay hb1).alloc _))
 have F1 : Fr (some rb) W W1:=by (rw [hW1];exact (((Fr.refl _ _).alloc _).stepB hb1).alloc _)
 have hz1 : W1.heap.size = w1.heap.size + 1:=by (rw [hW1];simp)
 clear hW1 hb1
 have hsb : w1.heap.size ≠ rb:=by omega
 have hbs : rb ≠ w1.heap.size:=by omega
 have h4s : r4 ≠ w1.heap.size:=by omega
 have hgs : g ≠ w1.heap.size:=by omega
 have hvs : W.heap.size ≠ w1.heap.size:=by omega
 have hsv : w1.heap.size ≠ W.heap.size:=by omega
 have T1_0:=S1
 have Hv1_0 : Below W1.heap.size W1 W1:=Below.refl _ _
 go_upto_region 21 with (first
  | (go_at_call 45;(with_reducible refine (r4_is T1_0 _ false b_var).mono ?_);rintro e' v1_1 ⟨rfl,hv1_1⟩;have T1_1:=hid (T1_0.out.stay hv1_1);have Hv1_1:=Hv1_0.trans (hv1_1.mono Hv1_0.size))
  | (go_at_call 45;(with_reducible refine (r4_is T1_1 _ true b_if).mono ?_);rintro e' v1_2 ⟨rfl,hv1_2⟩;have T1_2:=hid (T1_1.out.stay hv1_2);have Hv1_2:=Hv1_1.trans (hv1_2.mono Hv1_1.size)))
 have BS2:=BS1.stay Hv1_2
 have BV2:=BV1.stay Hv1_2
 have F2:=F1.stepB Hv1_2
 have S2:=T1_2
 have hz2:=Hv1_2.size
 have Hi2 : Hi W1.heap.size W1 v1_2:=(Hi.refl _ _).stay Hv1_2
 clear BS1 BV1 F1
 obtain ⟨sl2,⟨sc02,sc12,sc22,sc32,sc42,sc52,sc62,sc72,sc82⟩,⟨sf02,sf12,sf22,sf32,sf42,sf52,sf62,sf72,sf82⟩⟩:=BS2.facts
 go_upto_region 22 with (fail)
 refine name_world ?_
 intro W3 hW3
 have BS3 : SBlk W3 w1.heap.size 2 x.a false false ⟨#[]⟩ (.slice none 0 0) (.slice none 0 0) (.slice none 0 0) (.slice none 0 0):=by (rw [hW3];exact (BS2.set0 _))
 have BV3 : SBlk W3 W.heap.size 0 0 false false ⟨#[]⟩ (.slice none 0 0) (.slice none 0 0) (.slice none 0 0) (.slice none 0 0):=by (rw [hW3];exact (BV2.setO hvs _ _))
 have S3 : Hid (A4 W3 r4 rb g cap ws d p0 p1 p2 p3 (.ok (x :: tt))):=hid (by (rw [hW3];exact (S2.out.setO h4s hbs hgs _ _)))
 have F3 : Fr (some rb) W W3:=by (rw [hW3];exact (F2.set (.inr (by omega)) _ _))
 have Hi3 : Hi W1.heap.size v1_2 W3:=by (rw [hW3];exact ((Hi.refl W1.heap.size v1_2).set (by omega) _ _))
 have hz3:=Hi3.1
 clear hW3 BS2 BV2 F2 sl2 sc02 sc12 sc22 sc32 sc42 sc52 sc62 sc72 sc82 sf02 sf12 sf22 sf32 sf42 sf52 sf62 sf72 sf82
 have T3_0:=S3
 have Hv3_0 : Below W3.heap.size W3 W3:=Below.refl _ _
 go_upto_region 24 with (first
  | (go_at_call 45;(with_reducible refine (r4_is T3_0 _ false b_while).mono ?_);rintro e' v3_1 ⟨rfl,hv3_1⟩;have T3_1:=hid (T3_0.out.stay hv3_1);have Hv3_1:=Hv3_0.trans (hv3_1.mono Hv3_0.size)))
 have BS4:=BS3.stay Hv3_1
 have BV4:=BV3.stay Hv3_1
 have F4:=F3.stepB Hv3_1
 have S4:=T3_1
 have hz4:=Hv3_1.size
 have Hi4 : Hi W1.heap.size W3 v3_1:=(Hi.refl _ _).stay Hv3_1
 clear BS3 BV3 F3
 obtain ⟨sl4,⟨sc04,sc14,sc24,sc34,sc44,sc54,sc64,sc74,sc84⟩,⟨sf04,sf14,sf24,sf34,sf44,sf54,sf64,sf74,sf84⟩⟩:=BS4.facts
 obtain ⟨i4,a4,R4,g54,g64,g74,gx4⟩:=S4.out.st.ok_cells S4.out.env
 obtain ⟨m04,_,_,_,_,_⟩:=S4.out.at4.cells
 obtain ⟨_,q14,_,_,_⟩:=R4.rd.cells
 have ml4:=S4.out.at4.lt
 have rl4:=R4.rd.lt
 have rf4:=R4.rd.frozen 1
 go_upto_region 25 with (fail)
 refine name_world ?_
 intro W5 hW5
 have BS5 : SBlk W5 w1.heap.size 2 x.a false false ⟨#[]⟩ (.slice none 0 0) (.slice none 0 0) (.slice none 0 0) (.slice none 0 0):=by (rw [hW5];exact (BS4.setO hsb _ _))
 have BV5 : SBlk W5 W.heap.size 0 0 false false ⟨#[]⟩ (.slice none 0 0) (.slice none 0 0) (.slice none 0 0) (.slice none 0 0):=by (rw [hW5];exact (BV4.setO (Ne.symm hbv) _ _))
 have S5 : Hid (A4 W5 r4 rb g cap ws d p0 p1 p2 p3 (.ok tt)):=hid (by (rw [hW5];exact (S4.out.fr ((Fr.refl (some rb) _).set (.inl rfl) 1 _) (st_adv S4.out.st R4 hx3.out g54))))
 have F5 : Fr (some rb) W W5:=by (rw [hW5];exact (F4.set (.inl rfl) _ _))
 have Hi5 : Hi W1.heap.size v3_1 W5:=by (rw [hW5];exact ((Hi.refl W1.heap.size v3_1).set (by omega) _ _))
 have hz5:=Hi5.1
 clear hW5 BS4 BV4 F4 sl4 sc04 sc14 sc24 sc34 sc44 sc54 sc64 sc74 sc84 sf04 sf14 sf24 sf34 sf44 sf54 sf64 sf74 sf84
 obtain ⟨sl5,⟨sc05,sc15,sc25,sc35,sc45,sc55,sc65,sc75,sc85⟩,⟨sf05,sf15,sf25,sf35,sf45,sf55,sf65,sf75,sf85⟩⟩:=BS5.facts
 go_upto_region 26 with (go_at_call 74;(with_reducible refine (r4_boundQ (hid S5.out) he.out).mono ?_);rintro e5 u5 ⟨⟨k5,q5,n5,nm5,l5,m5,c5,a5,rfl,hg5⟩,hs5,hf5⟩;have BQ5:=BS5.fr hf5 hsb;have BW5:=BV5.fr hf5 (Ne.symm hbv);have uz5:=Fr.size hf5;obtain ⟨tl5,⟨tc05,tc15,tc25,tc35,tc45,tc55,tc65,tc75,tc85⟩,⟨tf05,tf15,tf25,tf35,tf45,tf55,tf65,tf75,tf85⟩⟩:=BQ5.facts)
 refine name_world ?_
 intro W6 hW6
 have BS6 : SBlk W6 w1.heap.size 2 x.a false false ⟨#[]⟩ (.slice none 0 0) (.slice (some ⟨u5.heap.size,0,none⟩) 1 1) (.slice none 0 0) (.slice none 0 0):=by (rw [hW6];exact ((BQ5.set6 _).alloc _))
 have BV6 : SBlk W6 W.heap.size 0 0 false false ⟨#[]⟩ (.slice none 0 0) (.slice none 0 0) (.slice none 0 0) (.slice none 0 0):=by (rw [hW6];exact ((BW5.setO hvs _ _).alloc _))
 have S6 : Hid (A4 W6 r4 rb g cap ws d p0 p1 p2 p3 τe):=hid (by (rw [hW6];exact ((hs5.setO h4s hbs hgs _ _).alloc _)))
 have F6 : Fr (some rb) W W6:=by (rw [hW6];exact (((F5.step hf5).set (.inr (by omega)) _ _).alloc _))
 have Hi6 : Hi W1.heap.size W5 W6:=by (rw [hW6];exact ((((Hi.refl W1.heap.size W5).fr hf5 (by omega)).set (by omega) _ _).alloc _))
 have hz6:=Hi6.1
 have X6 : Hid (∀ t,τe = .ok t → IsExP (fun g => W1.heap.size ≤ g) W6 (exsE [ex]) (.slice (some ⟨u5.heap.size,0,none⟩) 1 1)):=hid (fun t h => by
  rw [hW6]
  have e:=one_new (lo:=W1.heap.size) (W:=u5.setCell ⟨w1.heap.size,6,none⟩ (.slice (some ⟨u5.heap.size,0,none⟩) 1 1)) (((hg5 t h).low (by (try simp only [World.size_setCell]);omega)).kept fun j hj hl => heap_setCell_other _ ⟨w1.heap.size,6,none⟩ j _ (by simp;omega)) (by simp;omega)
  simpa only [World.size_setCell] using e)
 clear hW6 BS5 BV5 F5 sl5 sc05 sc15 sc25 sc35 sc45 sc55 sc65 sc75 sc85 sf05 sf15 sf25 sf35 sf45 sf55 sf65 sf75 sf85 tl5 tc05 tc15 tc25 tc35 tc45 tc55 tc65 tc75 tc85 tf05 tf15 tf25 tf35 tf45 tf55 tf65 tf75 tf85 BQ5 BW5 hf5 hs5
 obtain ⟨sl6,⟨sc06,sc16,sc26,sc36,sc46,sc56,sc66,sc76,sc86⟩,⟨sf06,sf16,sf26,sf36,sf46,sf56,sf66,sf76,sf86⟩⟩:=BS6.facts
 go_upto_region 27 with (go_at_call 50;(with_reducible refine (HB.out.use (hid S6.out) hlen hd _ hl.out).mono ?_);rintro e6 u6 ⟨⟨lp,lm,lc,rfl,hb9⟩,hs6,hf6⟩;have BQ6:=BS6.fr hf6 hsb;have BW6:=BV6.fr hf6 (Ne.symm hbv);have uz6:=Fr.size hf6;obtain ⟨tl6,⟨tc06,tc16,tc26,tc36,tc46,tc56,tc66,tc76,tc86⟩,⟨tf06,tf16,tf26,tf36,tf46,tf56,tf66,tf76,tf86⟩⟩:=BQ6.facts)
 refine name_world ?_
 intro W7 hW7
 have BS7 : SBlk W7 w1.heap.size 2 x.a false false ⟨#[]⟩ (.slice none 0 0) (.slice (some ⟨u5.heap.size,0,none⟩) 1 1) (.slice lp lm lc) (.slice none 0 0):=by (rw [hW7];exact (BQ6.set7 _))
 have BV7 : SBlk W7 W.heap.size 0 0 false false ⟨#[]⟩ (.slice none 0 0) (.slice none 0 0) (.slice none 0 0) (.slice none 0 0):=by (rw [hW7];exact (BW6.setO hvs _ _))
 have S7 : Hid (A4 W7 r4 rb g cap ws d p0 p1 p2 p3 (.ok (y :: t2))):=hid (by (rw [hW7];exact (hs6.setO h4s hbs hgs _ _)))
 have F7 : Fr (some rb) W W7:=by (rw [hW7];exact ((F6.step hf6).set (.inr (by omega)) _ _))
 have Hi7 : Hi W1.heap.size W6 W7:=by (rw [hW7];exact (((Hi.refl W1.heap.size W6).fr hf6 (by omega)).set (by omega) _ _))
 have hz7:=Hi7.1
 have X6':=hid (fun tt h => (X6.out tt h).hi Hi7)
 clear X6
 have X7 : Hid (∀ t,(RS.ok (y :: t2)) = .ok t → IsSts (fun g => W1.heap.size ≤ g) W7 lb (.slice lp lm lc)):=hid (fun t h => by
  rw [hW7]
  exact ((hb9 t h).lo (by omega)).hi ((Hi.refl _ _).set (by omega) _ _))
 clear hW7 BS6 BV6 F6 sl6 sc06 sc16 sc26 sc36 sc46 sc56 sc66 sc76 sc86 sf06 sf16 sf26 sf36 sf46 sf56 sf66 sf76 sf86 tl6 tc06 tc16 tc26 tc36 tc46 tc56 tc66 tc76 tc86 tf06 tf16 tf26 tf36 tf46 tf56 tf66 tf76 tf86 BQ6 BW6 hf6 hs6
 obtain ⟨sl7,⟨sc07,sc17,sc27,sc37,sc47,sc57,sc67,sc77,sc87⟩,⟨sf07,sf17,sf27,sf37,sf47,sf57,sf67,sf77,sf87⟩⟩:=BS7.facts
 have T7_0:=S7
 have Hv7_0 : Below W7.heap.size W7 W7:=Below.refl _ _
 go_upto_region 28 with (first
  | (go_at_call 45;(with_reducible refine (r4_is T7_0 _ true b_else).mono ?_);rintro e' v7_1 ⟨rfl,hv7_1⟩;have T7_1:=hid (T7_0.out.stay hv7_1);have Hv7_1:=Hv7_0.trans (hv7_1.mono Hv7_0.size)))
 have BS8:=BS7.stay Hv7_1
 have BV8:=BV7.stay Hv7_1
 have F8:=F7.stepB Hv7_1
 have S8:=T7_1
 have hz8:=Hv7_1.size
 have Hi8 : Hi W1.heap.size W7 v7_1:=(Hi.refl _ _).stay Hv7_1
 have X6'':=hid (fun tt h => (X6'.out tt h).hi Hi8)
 clear X6'
 have X7':=hid (fun tt h => (X7.out tt h).hi Hi8)
 clear X7
 clear BS7 BV7 F7
 obtain ⟨sl8,⟨sc08,sc18,sc28,sc38,sc48,sc58,sc68,sc78,sc88⟩,⟨sf08,sf18,sf28,sf38,sf48,sf58,sf68,sf78,sf88⟩⟩:=BS8.facts
 obtain ⟨i8,a8,R8,g58,g68,g78,gx8⟩:=S8.out.st.ok_cells S8.out.env
 obtain ⟨m08,_,_,_,_,_⟩:=S8.out.at4.cells
 obtain ⟨_,q18,_,_,_⟩:=R8.rd.cells
 have ml8:=S8.out.at4.lt
 have rl8:=R8.rd.lt
 have rf8:=R8.rd.frozen 1
 go_upto_region 29 with (fail)
 refine name_world ?_
 intro W9 hW9
 have BS9 : SBlk W9 w1.heap.size 2 x.a false false ⟨#[]⟩ (.slice none 0 0) (.slice (some ⟨u5.heap.size,0,none⟩) 1 1) (.slice lp lm lc) (.slice none 0 0):=by (rw [hW9];exact (BS8.setO hsb _ _))
 have BV9 : SBlk W9 W.heap.size 0 0 false false ⟨#[]⟩ (.slice none 0 0) (.slice none 0 0) (.slice none 0 0) (.slice none 0 0):=by (rw [hW9];exact (BV8.setO (Ne.symm hbv) _ _))
 have S9 : Hid (A4 W9 r4 rb g cap ws d p0 p1 p2 p3 (.ok t2)):=hid (by (rw [hW9];exact (S8.out.fr ((Fr.refl (some rb) _).set (.inl rfl) 1 _) (st_adv S8.out.st R8 hy3.out g58))))
 have F9 : Fr (some rb) W W9:=by (rw [hW9];exact (F8.set (.inl rfl) _ _))
 have Hi9 : Hi W1.heap.size v7_1 W9:=by (rw [hW9];exact ((Hi.refl W1.heap.size v7_1).set (by omega) _ _))
 have hz9:=Hi9.1
 have X6''':=hid (fun tt h => (X6''.out tt h).hi Hi9)
 clear X6''
 have X7'':=hid (fun tt h => (X7'.out tt h).hi Hi9)
 clear X7'
 clear hW9 BS8 BV8 F8 sl8 sc08 sc18 sc28 sc38 sc48 sc58 sc68 sc78 sc88 sf08 sf18 sf28 sf38 sf48 sf58 sf68 sf78 sf88
 obtain ⟨sl9,⟨sc09,sc19,sc29,sc39,sc49,sc59,sc69,sc79,sc89⟩,⟨sf09,sf19,sf29,sf39,sf49,sf59,sf69,sf79,sf89⟩⟩:=BS9.facts
 go_wp2_with (go_at_call 50;(with_reducible refine (HB.out.use (hid S9.out) hlen2 hd _ hg.out).mono ?_);rintro e9 u9 ⟨⟨lp2,lm2,lc2,rfl,hb8⟩,hs9,hf9⟩;have BQ9:=BS9.fr hf9 hsb;have BW9:=BV9.fr hf9 (Ne.symm hbv);have uz9:=Fr.size hf9;obtain ⟨tl9,⟨tc09,tc19,tc29,tc39,tc49,tc59,tc69,tc79,tc89⟩,⟨tf09,tf19,tf29,tf39,tf49,tf59,tf69,tf79,tf89⟩⟩:=BQ9.facts;obtain ⟨vl0,⟨vc0,vc1,vc2,vc3,vc4,vc5,vc6,vc7,vc8⟩,⟨vf0,vf1,vf2,vf3,vf4,vf5,vf6,vf7,vf8⟩⟩:=BW9.facts)
 refine bodyPost_ret (results_s rfl _ rfl (SBlk.all (BW9.setO hvs _ _))) rfl ⟨⟨_,_,_,_,_,_,_,_,_,_,_,_,_,_,_,_,_,rfl,?_⟩,?_,?_⟩
 · intro t0 ht0
   obtain ⟨t1,ht1⟩:=blockQ_ok hl.out rfl
   refine ⟨⟨rfl,rfl,rfl,rfl,rfl⟩,.leaf,((X6'''.out t1 ht1).hi ((((((((((((Hi.refl W1.heap.size W9).fr hf9 (by omega)).set (by omega) _ _).set (show W.heap.size < W1.heap.size by omega) _ _).set (show W.heap.size < W1.heap.size by omega) _ _).set (show W.heap.size < W1.heap.size by omega) _ _).set (show W.heap.size < W1.heap.size by omega) _ _).set (show W.heap.size < W1.heap.size by omega) _ _).set (show W.heap.size < W1.heap.size by omega) _ _).set (show W.heap.size < W1.heap.size by omega) _ _).set (show W.heap.size < W1.heap.size by omega) _ _).set (show W.heap.size < W1.heap.size by omega) _ _)).lo (by omega),((X7''.out _ rfl).hi ((((((((((((Hi.refl W1.heap.size W9).fr hf9 (by omega)).set (by omega) _ _).set (show W.heap.size < W1.heap.size by omega) _ _).set (show W.heap.size < W1.heap.size by omega) _ _).set (show W.heap.size < W1.heap.size by omega) _ _).set (show W.heap.size < W1.heap.size by omega) _ _).set (show W.heap.size < W1.heap.size by omega) _ _).set (show W.heap.size < W1.heap.size by omega) _ _).set (show W.heap.size < W1.heap.size by omega) _ _).set (show W.heap.size < W1.heap.size by omega) _ _).set (show W.heap.size < W1.heap.size by omega) _ _)).lo (by omega),(((hb8 t0 ht0).lo (by omega)).hi (((((((((((Hi.refl W1.heap.size u9).set (by omega) _ _).set (show W.heap.size < W1.heap.size by omega) _ _).set (show W.heap.size < W1.heap.size by omega) _ _).set (show W.heap.size < W1.heap.size by omega) _ _).set (show W.heap.size < W1.heap.size by omega) _ _).set (show W.heap.size < W1.heap.size by omega) _ _).set (show W.heap.size < W1.heap.size by omega) _ _).set (show W.heap.size < W1.heap.size by omega) _ _).set (show W.heap.size < W1.heap.size by omega) _ _).set (show W.heap.size < W1.heap.size by omega) _ _)).lo (by omega)⟩
 · exact ((((((((((hs9.setO h4s hbs hgs _ _).setO h4v hbv hgv _ _).setO h4v hbv hgv _ _).setO h4v hbv hgv _ _).setO h4v hbv hgv _ _).setO h4v hbv hgv _ _).setO h4v hbv hgv _ _).setO h4v hbv hgv _ _).setO h4v hbv hgv _ _).setO h4v hbv hgv _ _)
 · exact (((((((((((F9.step hf9).set (.inr (by omega)) _ _).set (.inr (Nat.le_refl _)) _ _).set (.inr (Nat.le_refl _)) _ _).set (.inr (Nat.le_refl _)) _ _).set (.inr (Nat.le_refl _)) _ _).set (.inr (Nat.le_refl _)) _ _).set (.inr (Nat.le_refl _)) _ _).set (.inr (Nat.le_refl _)) _ _).set (.inr (Nat.le_refl _)) _ _).set (.inr (Nat.le_refl _)) _ _)
theorem rst_asg {r4 rb g cap : Nat} {ws : List Wd} {n d : Nat} {p0 p1 p2 p3 : Value} {W : World} {x : Wd} {tt : List Wd} (S : Hid (A4 W r4 rb g cap ws d p0 p1 p2 p3 (.ok (x :: tt)))) (nvar : (RS.ok (x :: tt)).is kVar = false) (nif : (RS.ok (x :: tt)).is kIf = false) (nwhile : (RS.ok (x :: tt)).is kWhile = false) (nlock : (RS.ok (x :: tt)).is kLock = false) (nout : (RS.ok (x :: tt)).is kOut = false) {tn : List UInt8} {an : Nat} {τm τq τe τz : RS} {ex : Ex} (hm : Hid (nameF (.ok (x :: tt)) = ((tn,an),τm))) (b_br : Hid (τm.is (⟨#[91]⟩ : ByteArray).data.toList = false)) (hq : Hid (τm.need (⟨#[61]⟩ : ByteArray).data.toList = τq)) (he : Hid (exF τq = (ex,τe))) (hz : Hid (τe.need (⟨#[59]⟩ : ByteArray).data.toList = τz)) :
 Calls Try.prog 72 #[.pointer (some ⟨r4,0,none⟩)] W fun e w' => EndSt W.heap.size ((.mk 1 x.a false false tn [] [ex] [] [],τz) : Stm × RS) e w' ∧ A4 w' r4 rb g cap ws d p0 p1 p2 p3 ((.mk 1 x.a false false tn [] [ex] [] [],τz) : Stm × RS).2 ∧ Fr (some rb) W w':=by
 obtain ⟨hl4,hlb,hlg⟩:=S.out.blk
 have h4v : r4 ≠ W.heap.size:=by omega
 have hbv : rb ≠ W.heap.size:=by omega
 have hgv : g ≠ W.heap.size:=by omega
 have hfd:=rfield_a
 have b_var : Hid ((RS.ok (x :: tt)).is (⟨#[118,97,114]⟩ : ByteArray).data.toList = false):=hid nvar
 have b_if : Hid ((RS.ok (x :: tt)).is (⟨#[105,102]⟩ : ByteArray).data.toList = false):=hid nif
 have b_while : Hid ((RS.ok (x :: tt)).is (⟨#[119,104,105,108,101]⟩ : ByteArray).data.toList = false):=hid nwhile
 have b_lock : Hid ((RS.ok (x :: tt)).is (⟨#[108,111,99,107]⟩ : ByteArray).data.toList = false):=hid nlock
 have b_out : Hid ((RS.ok (x :: tt)).is (⟨#[111,117,116]⟩ : ByteArray).data.toList = false):=hid nout
 clear nvar nif nwhile nlock nout
 go_enter Try.func72,Try.ntmps72
 go_upto_region 12 with (go_at_call 24;(with_reducible refine (r4_wordOk (hid (S.out.alloc _))).mono ?_);rintro e1 w1 ⟨rfl,hb1⟩)
 refine name_world ?_
 intro W1 hW1
 have hzw : W.heap.size + 1 ≤ w1.heap.size:=by (have:=hb1.size;simpa using this)
 have BV1 : SBlk W1 W.heap.size 0 0 false false ⟨#[]⟩ (.slice none 0 0) (.slice none 0 0) (.slice none 0 0) (.slice none 0 0):=by (rw [hW1];exact ((SBlk.new rfl).stay hb1).alloc _)
 have BS1 : SBlk W1 w1.heap.size 0 x.a false false ⟨#[]⟩ (.slice none 0 0) (.slice none 0 0) (.slice none 0 0) (.slice none 0 0):=by (rw [hW1];exact SBlk.new rfl)
 have S1 : Hid (A4 W1 r4 rb g cap ws d p0 p1 p2 p3 (.ok (x :: tt))):=hid (by (rw [hW1];exact ((S.out.alloc _).stay hb1).alloc _))
 have F1 : Fr (some rb) W W1:=by (rw [hW1];exact (((Fr.refl _ _).alloc _).stepB hb1).alloc _)
 have hz1 : W1.heap.size = w1.heap.size + 1:=by (rw [hW1];simp)
 clear hW1 hb1
 have hsb : w1.heap.size ≠ rb:=by omega
 have hbs : rb ≠ w1.heap.size:=by omega
 have h4s : r4 ≠ w1.heap.size:=by omega
 have hgs : g ≠ w1.heap.size:=by omega
 have hvs : W.heap.size ≠ w1.heap.size:=by omega
 have hsv : w1.heap.size ≠ W.heap.size:=by omega
 have T1_0:=S1
 have Hv1_0 : Below W1.heap.size W1 W1:=Below.refl _ _
 go_upto_region 2 with (first
  | (go_at_call 45;(with_reducible refine (r4_is T1_0 _ false b_var).mono ?_);rintro e' v1_1 ⟨rfl,hv1_1⟩;have T1_1:=hid (T1_0.out.stay hv1_1);have Hv1_1:=Hv1_0.trans (hv1_1.mono Hv1_0.size))
  | (go_at_call 45;(with_reducible refine (r4_is T1_1 _ false b_if).mono ?_);rintro e' v1_2 ⟨rfl,hv1_2⟩;have T1_2:=hid (T1_1.out.stay hv1_2);have Hv1_2:=Hv1_1.trans (hv1_2.mono Hv1_1.size))
  | (go_at_call 45;(with_reducible refine (r4_is T1_2 _ false b_while).mono ?_);rintro e' v1_3 ⟨rfl,hv1_3⟩;have T1_3:=hid (T1_2.out.stay hv1_3);have Hv1_3:=Hv1_2.trans (hv1_3.mono Hv1_2.size))
  | (go_at_call 45;(with_reducible refine (r4_is T1_3 _ false b_lock).mono ?_);rintro e' v1_4 ⟨rfl,hv1_4⟩;have T1_4:=hid (T1_3.out.stay hv1_4);have Hv1_4:=Hv1_3.trans (hv1_4.mono Hv1_3.size))
  | (go_at_call 45;(with_reducible refine (r4_is T1_4 _ false b_out).mono ?_);rintro e' v1_5 ⟨rfl,hv1_5⟩;have T1_5:=hid (T1_4.out.stay hv1_5);have Hv1_5:=Hv1_4.trans (hv1_5.mono Hv1_4.size)))
 have BS2:=BS1.stay Hv1_5
 have BV2:=BV1.stay Hv1_5
 have F2:=F1.stepB Hv1_5
 have S2:=T1_5
 have hz2:=Hv1_5.size
 have Hi2 : Hi W1.heap.size W1 v1_5:=(Hi.refl _ _).stay Hv1_5
 clear BS1 BV1 F1
 obtain ⟨sl2,⟨sc02,sc12,sc22,sc32,sc42,sc52,sc62,sc72,sc82⟩,⟨sf02,sf12,sf22,sf32,sf42,sf52,sf62,sf72,sf82⟩⟩:=BS2.facts
 go_upto_region 3 with (fail)
 refine name_world ?_
 intro W3 hW3
 have BS3 : SBlk W3 w1.heap.size 1 x.a false false ⟨#[]⟩ (.slice none 0 0) (.slice none 0 0) (.slice none 0 0) (.slice none 0 0):=by (rw [hW3];exact (BS2.set0 _))
 have BV3 : SBlk W3 W.heap.size 0 0 false false ⟨#[]⟩ (.slice none 0 0) (.slice none 0 0) (.slice none 0 0) (.slice none 0 0):=by (rw [hW3];exact (BV2.setO hvs _ _))
 have S3 : Hid (A4 W3 r4 rb g cap ws d p0 p1 p2 p3 (.ok (x :: tt))):=hid (by (rw [hW3];exact (S2.out.setO h4s hbs hgs _ _)))
 have F3 : Fr (some rb) W W3:=by (rw [hW3];exact (F2.set (.inr (by omega)) _ _))
 have Hi3 : Hi W1.heap.size v1_5 W3:=by (rw [hW3];exact ((Hi.refl W1.heap.size v1_5).set (by omega) _ _))
 have hz3:=Hi3.1
 clear hW3 BS2 BV2 F2 sl2 sc02 sc12 sc22 sc32 sc42 sc52 sc62 sc72 sc82 sf02 sf12 sf22 sf32 sf42 sf52 sf62 sf72 sf82
 obtain ⟨sl3,⟨sc03,sc13,sc23,sc33,sc43,sc53,sc63,sc73,sc83⟩,⟨sf03,sf13,sf23,sf33,sf43,sf53,sf63,sf73,sf83⟩⟩:=BS3.facts
 go_upto_region 5 with (go_at_call 47;(with_reducible refine (r4_name (hid S3.out) hm.out).mono ?_);rintro e3 u3 ⟨rfl,hs3,hf3⟩;have BQ3:=BS3.fr hf3 hsb;have BW3:=BV3.fr hf3 (Ne.symm hbv);have uz3:=Fr.size hf3;obtain ⟨tl3,⟨tc03,tc13,tc23,tc33,tc43,tc53,tc63,tc73,tc83⟩,⟨tf03,tf13,tf23,tf33,tf43,tf53,tf63,tf73,tf83⟩⟩:=BQ3.facts)
 refine name_world ?_
 intro W4 hW4
 have BS4 : SBlk W4 w1.heap.size 1 x.a false false (bstr tn) (.slice none 0 0) (.slice none 0 0) (.slice none 0 0) (.slice none 0 0):=by (rw [hW4];exact ((BQ3.set4 _).alloc _))
 have BV4 : SBlk W4 W.heap.size 0 0 false false ⟨#[]⟩ (.slice none 0 0) (.slice none 0 0) (.slice none 0 0) (.slice none 0 0):=by (rw [hW4];exact ((BW3.setO hvs _ _).alloc _))
 have S4 : Hid (A4 W4 r4 rb g cap ws d p0 p1 p2 p3 τm):=hid (by (rw [hW4];exact ((hs3.setO h4s hbs hgs _ _).alloc _)))
 have F4 : Fr (some rb) W W4:=by (rw [hW4];exact (((F3.step hf3).set (.inr (by omega)) _ _).alloc _))
 have Hi4 : Hi W1.heap.size W3 W4:=by (rw [hW4];exact ((((Hi.refl W1.heap.size W3).fr hf3 (by omega)).set (by omega) _ _).alloc _))
 have hz4:=Hi4.1
 clear hW4 BS3 BV3 F3 sl3 sc03 sc13 sc23 sc33 sc43 sc53 sc63 sc73 sc83 sf03 sf13 sf23 sf33 sf43 sf53 sf63 sf73 sf83 tl3 tc03 tc13 tc23 tc33 tc43 tc53 tc63 tc73 tc83 tf03 tf13 tf23 tf33 tf43 tf53 tf63 tf73 tf83 BQ3 BW3 hf3 hs3
 have T4_0:=S4
 have Hv4_0 : Below W4.heap.size W4 W4:=Below.refl _ _
 go_upto_region 9 with (first
  | (go_at_call 45;(with_reducible refine (r4_is T4_0 _ false b_br).mono ?_);rintro e' v4_1 ⟨rfl,hv4_1⟩;have T4_1:=hid (T4_0.out.stay hv4_1);have Hv4_1:=Hv4_0.trans (hv4_1.mono Hv4_0.size)))
 have BS5:=BS4.stay Hv4_1
 have BV5:=BV4.stay Hv4_1
 have F5:=F4.stepB Hv4_1
 have S5:=T4_1
 have hz5:=Hv4_1.size
 have Hi5 : Hi W1.heap.size W4 v4_1:=(Hi.refl _ _).stay Hv4_1
 clear BS4 BV4 F4
 obtain ⟨sl5,⟨sc05,sc15,sc25,sc35,sc45,sc55,sc65,sc75,sc85⟩,⟨sf05,sf15,sf25,sf35,sf45,sf55,sf65,sf75,sf85⟩⟩:=BS5.facts
 go_upto_region 10 with (go_at_call 48;(with_reducible refine (r4_need (hid S5.out) _ _ hq).mono ?_);rintro e5 u5 ⟨rfl,hs5,hf5⟩;have BQ5:=BS5.fr hf5 hsb;have BW5:=BV5.fr hf5 (Ne.symm hbv);have uz5:=Fr.size hf5;obtain ⟨tl5,⟨tc05,tc15,tc25,tc35,tc45,tc55,tc65,tc75,tc85⟩,⟨tf05,tf15,tf25,tf35,tf45,tf55,tf65,tf75,tf85⟩⟩:=BQ5.facts)
 refine name_world ?_
 intro W6 hW6
 have BS6 : SBlk W6 w1.heap.size 1 x.a false false (bstr tn) (.slice none 0 0) (.slice none 0 0) (.slice none 0 0) (.slice none 0 0):=by (rw [hW6];exact BQ5)
 have BV6 : SBlk W6 W.heap.size 0 0 false false ⟨#[]⟩ (.slice none 0 0) (.slice none 0 0) (.slice none 0 0) (.slice none 0 0):=by (rw [hW6];exact BW5)
 have S6 : Hid (A4 W6 r4 rb g cap ws d p0 p1 p2 p3 τq):=hid (by (rw [hW6];exact hs5))
 have F6 : Fr (some rb) W W6:=by (rw [hW6];exact (F5.step hf5))
 have Hi6 : Hi W1.heap.size v4_1 W6:=by (rw [hW6];exact ((Hi.refl W1.heap.size v4_1).fr hf5 (by omega)))
 have hz6:=Hi6.1
 clear hW6 BS5 BV5 F5 sl5 sc05 sc15 sc25 sc35 sc45 sc55 sc65 sc75 sc85 sf05 sf15 sf25 sf35 sf45 sf55 sf65 sf75 sf85 tl5 tc05 tc15 tc25 tc35 tc45 tc55 tc65 tc75 tc85 tf05 tf15 tf25 tf35 tf45 tf55 tf65 tf75 tf85 BQ5 BW5 hf5 hs5
 obtain ⟨sl6,⟨sc06,sc16,sc26,sc36,sc46,sc56,sc66,sc76,sc86⟩,⟨sf06,sf16,sf26,sf36,sf46,sf56,sf66,sf76,sf86⟩⟩:=BS6.facts
 go_upto_region 11 with (go_at_call 68;(with_reducible refine (r4_exprQ (hid S6.out) he.out).mono ?_);rintro e6 u6 ⟨⟨k5,q5,n5,nm5,l5,m5,c5,a5,rfl,hg5⟩,hs6,hf6⟩;have BQ6:=BS6.fr hf6 hsb;have BW6:=BV6.fr hf6 (Ne.symm hbv);have uz6:=Fr.size hf6;obtain ⟨tl6,⟨tc06,tc16,tc26,tc36,tc46,tc56,tc66,tc76,tc86⟩,⟨tf06,tf16,tf26,tf36,tf46,tf56,tf66,tf76,tf86⟩⟩:=BQ6.facts)
 refine name_world ?_
 intro W7 hW7
 have BS7 : SBlk W7 w1.heap.size 1 x.a false false (bstr tn) (.slice none 0 0) (.slice (some ⟨u6.heap.size,0,none⟩) 1 1) (.slice none 0 0) (.slice none 0 0):=by (rw [hW7];exact ((BQ6.set6 _).alloc _))
 have BV7 : SBlk W7 W.heap.size 0 0 false false ⟨#[]⟩ (.slice none 0 0) (.slice none 0 0) (.slice none 0 0) (.slice none 0 0):=by (rw [hW7];exact ((BW6.setO hvs _ _).alloc _))
 have S7 : Hid (A4 W7 r4 rb g cap ws d p0 p1 p2 p3 τe):=hid (by (rw [hW7];exact ((hs6.setO h4s hbs hgs _ _).alloc _)))
 have F7 : Fr (some rb) W W7:=by (rw [hW7];exact (((F6.step hf6).set (.inr (by omega)) _ _).alloc _))
 have Hi7 : Hi W1.heap.size W6 W7:=by (rw [hW7];exact ((((Hi.refl W1.heap.size W6).fr hf6 (by omega)).set (by omega) _ _).alloc _))
 have hz7:=Hi7.1
 have X7 : Hid (∀ t,τe = .ok t → IsExP (fun g => W1.heap.size ≤ g) W7 (exsE [ex]) (.slice (some ⟨u6.heap.size,0,none⟩) 1 1)):=hid (fun t h => by
  rw [hW7]
  have e:=one_new (lo:=W1.heap.size) (W:=u6.setCell ⟨w1.heap.size,6,none⟩ (.slice (some ⟨u6.heap.size,0,none⟩) 1 1)) (((hg5 t h).low (by (try simp only [World.size_setCell]);omega)).kept fun j hj hl => heap_setCell_other _ ⟨w1.heap.size,6,none⟩ j _ (by simp;omega)) (by simp;omega)
  simpa only [World.size_setCell] using e)
 clear hW7 BS6 BV6 F6 sl6 sc06 sc16 sc26 sc36 sc46 sc56 sc66 sc76 sc86 sf06 sf16 sf26 sf36 sf46 sf56 sf66 sf76 sf86 tl6 tc06 tc16 tc26 tc36 tc46 tc56 tc66 tc76 tc86 tf06 tf16 tf26 tf36 tf46 tf56 tf66 tf76 tf86 BQ6 BW6 hf6 hs6
 obtain ⟨sl7,⟨sc07,sc17,sc27,sc37,sc47,sc57,sc67,sc77,sc87⟩,⟨sf07,sf17,sf27,sf37,sf47,sf57,sf67,sf77,sf87⟩⟩:=BS7.facts
 go_wp2_with (go_at_call 48;(with_reducible refine (r4_need (hid S7.out) _ _ hz).mono ?_);rintro e7 u7 ⟨rfl,hs7,hf7⟩;have BQ7:=BS7.fr hf7 hsb;have BW7:=BV7.fr hf7 (Ne.symm hbv);have uz7:=Fr.size hf7;obtain ⟨tl7,⟨tc07,tc17,tc27,tc37,tc47,tc57,tc67,tc77,tc87⟩,⟨tf07,tf17,tf27,tf37,tf47,tf57,tf67,tf77,tf87⟩⟩:=BQ7.facts;obtain ⟨vl0,⟨vc0,vc1,vc2,vc3,vc4,vc5,vc6,vc7,vc8⟩,⟨vf0,vf1,vf2,vf3,vf4,vf5,vf6,vf7,vf8⟩⟩:=BW7.facts)
 refine bodyPost_ret (results_s rfl _ rfl (SBlk.all BW7)) rfl ⟨⟨_,_,_,_,_,_,_,_,_,_,_,_,_,_,_,_,_,rfl,?_⟩,?_,?_⟩
 · intro t0 ht0
   obtain ⟨t1,ht1⟩:=needQ_ok hz.out ht0
   refine ⟨⟨rfl,rfl,rfl,rfl,rfl⟩,.leaf,((X7.out t1 ht1).hi (((((((((((Hi.refl W1.heap.size W7).fr hf7 (by omega)).set (show W.heap.size < W1.heap.size by omega) _ _).set (show W.heap.size < W1.heap.size by omega) _ _).set (show W.heap.size < W1.heap.size by omega) _ _).set (show W.heap.size < W1.heap.size by omega) _ _).set (show W.heap.size < W1.heap.size by omega) _ _).set (show W.heap.size < W1.heap.size by omega) _ _).set (show W.heap.size < W1.heap.size by omega) _ _).set (show W.heap.size < W1.heap.size by omega) _ _).set (show W.heap.size < W1.heap.size by omega) _ _)).lo (by omega),.nil,.nil⟩
 · exact (((((((((hs7.setO h4v hbv hgv _ _).setO h4v hbv hgv _ _).setO h4v hbv hgv _ _).setO h4v hbv hgv _ _).setO h4v hbv hgv _ _).setO h4v hbv hgv _ _).setO h4v hbv hgv _ _).setO h4v hbv hgv _ _).setO h4v hbv hgv _ _)
 · exact ((((((((((F7.step hf7).set (.inr (Nat.le_refl _)) _ _).set (.inr (Nat.le_refl _)) _ _).set (.inr (Nat.le_refl _)) _ _).set (.inr (Nat.le_refl _)) _ _).set (.inr (Nat.le_refl _)) _ _).set (.inr (Nat.le_refl _)) _ _).set (.inr (Nat.le_refl _)) _ _).set (.inr (Nat.le_refl _)) _ _).set (.inr (Nat.le_refl _)) _ _)
theorem rst_asgi {r4 rb g cap : Nat} {ws : List Wd} {n d : Nat} {p0 p1 p2 p3 : Value} {W : World} {x : Wd} {tt : List Wd} (S : Hid (A4 W r4 rb g cap ws d p0 p1 p2 p3 (.ok (x :: tt)))) (nvar : (RS.ok (x :: tt)).is kVar = false) (nif : (RS.ok (x :: tt)).is kIf = false) (nwhile : (RS.ok (x :: tt)).is kWhile = false) (nlock : (RS.ok (x :: tt)).is kLock = false) (nout : (RS.ok (x :: tt)).is kOut = false) {tn : List UInt8} {an : Nat} {τi τj τq τe τz : RS} {y : Wd} {t2 : List Wd} {ix ex : Ex} (hm : Hid (nameF (.ok (x :: tt)) = ((tn,an),.ok (y :: t2)))) (b_br : Hid ((RS.ok (y :: t2)).is (⟨#[91]⟩ : ByteArray).data.toList = true)) (hi : Hid (exF (.ok t2) = (ix,τi))) (hj : Hid (τi.need (⟨#[93]⟩ : ByteArray).data.toList = τj)) (hq : Hid (τj.need (⟨#[61]⟩ : ByteArray).data.toList = τq)) (he : Hid (exF τq = (ex,τe))) (hz : Hid (τe.need (⟨#[59]⟩ : ByteArray).data.toList = τz)) :
 Calls Try.prog 72 #[.pointer (some ⟨r4,0,none⟩)] W fun e w' => EndSt W.heap.size ((.mk 1 x.a false false tn [ix] [ex] [] [],τz) : Stm × RS) e w' ∧ A4 w' r4 rb g cap ws d p0 p1 p2 p3 ((.mk 1 x.a false false tn [ix] [ex] [] [],τz) : Stm × RS).2 ∧ Fr (some rb) W w':=by
 obtain ⟨hl4,hlb,hlg⟩:=S.out.blk
 have h4v : r4 ≠ W.heap.size:=by omega
 have hbv : rb ≠ W.heap.size:=by omega
 have hgv : g ≠ W.heap.size:=by omega
 have hfd:=rfield_a
 have b_var : Hid ((RS.ok (x :: tt)).is (⟨#[118,97,114]⟩ : ByteArray).data.toList = false):=hid nvar
 have b_if : Hid ((RS.ok (x :: tt)).is (⟨#[105,102]⟩ : ByteArray).data.toList = false):=hid nif
 have b_while : Hid ((RS.ok (x :: tt)).is (⟨#[119,104,105,108,101]⟩ : ByteArray).data.toList = false):=hid nwhile
 have b_lock : Hid ((RS.ok (x :: tt)).is (⟨#[108,111,99,107]⟩ : ByteArray).data.toList = false):=hid nlock
 have b_out : Hid ((RS.ok (x :: tt)).is (⟨#[111,117,116]⟩ : ByteArray).data.toList = false):=hid nout
 have hy3 : Hid (y.k ≠ 3):=hid (RS.is_ne3 b_br.out)
 clear nvar nif nwhile nlock nout
 go_enter Try.func72,Try.ntmps72
 go_upto_region 12 with (go_at_call 24;(with_reducible refine (r4_wordOk (hid (S.out.alloc _))).mono ?_);rintro e1 w1 ⟨rfl,hb1⟩)
 refine name_world ?_
 intro W1 hW1
 have hzw : W.heap.size + 1 ≤ w1.heap.size:=by (have:=hb1.size;simpa using this)
 have BV1 : SBlk W1 W.heap.size 0 0 false false ⟨#[]⟩ (.slice none 0 0) (.slice none 0 0) (.slice none 0 0) (.slice none 0 0):=by (rw [hW1];exact ((SBlk.new rfl).stay hb1).alloc _)
 have BS1 : SBlk W1 w1.heap.size 0 x.a false false ⟨#[]⟩ (.slice none 0 0) (.slice none 0 0) (.slice none 0 0) (.slice none 0 0):=by (rw [hW1];exact SBlk.new rfl)
 have S1 : Hid (A4 W1 r4 rb g cap ws d p0 p1 p2 p3 (.ok (x :: tt))):=hid (by (rw [hW1];exact ((S.out.alloc _).stay hb1).alloc _))
 have F1 : Fr (some rb) W W1:=by (rw [hW1];exact (((Fr.refl _ _).alloc _).stepB hb1).alloc _)
 have hz1 : W1.heap.size = w1.heap.size + 1:=by (rw [hW1];simp)
 clear hW1 hb1
 have hsb : w1.heap.size ≠ rb:=by omega
 have hbs : rb ≠ w1.heap.size:=by omega
 have h4s : r4 ≠ w1.heap.size:=by omega
 have hgs : g ≠ w1.heap.size:=by omega
 have hvs : W.heap.size ≠ w1.heap.size:=by omega
 have hsv : w1.heap.size ≠ W.heap.size:=by omega
 have T1_0:=S1
 have Hv1_0 : Below W1.heap.size W1 W1:=Below.refl _ _
 go_upto_region 2 with (first
  | (go_at_call 45;(with_reducible refine (r4_is T1_0 _ false b_var).mono ?_);rintro e' v1_1 ⟨rfl,hv1_1⟩;have T1_1:=hid (T1_0.out.stay hv1_1);have Hv1_1:=Hv1_0.trans (hv1_1.mono Hv1_0.size))
  | (go_at_call 45;(with_reducible refine (r4_is T1_1 _ false b_if).mono ?_);rintro e' v1_2 ⟨rfl,hv1_2⟩;have T1_2:=hid (T1_1.out.stay hv1_2);have Hv1_2:=Hv1_1.trans (hv1_2.mono Hv1_1.size))
  | (go_at_call 45;(with_reducible refine (r4_is T1_2 _ false b_while).mono ?_);rintro e' v1_3 ⟨rfl,hv1_3⟩;have T1_3:=hid (T1_2.out.stay hv1_3);have Hv1_3:=Hv1_2.trans (hv1_3.mono Hv1_2.size))
  | (go_at_call 45;(with_reducible refine (r4_is T1_3 _ false b_lock).mono ?_);rintro e' v1_4 ⟨rfl,hv1_4⟩;have T1_4:=hid (T1_3.out.stay hv1_4);have Hv1_4:=Hv1_3.trans (hv1_4.mono Hv1_3.size))
  | (go_at_call 45;(with_reducible refine (r4_is T1_4 _ false b_out).mono ?_);rintro e' v1_5 ⟨rfl,hv1_5⟩;have T1_5:=hid (T1_4.out.stay hv1_5);have Hv1_5:=Hv1_4.trans (hv1_5.mono Hv1_4.size)))
 have BS2:=BS1.stay Hv1_5
 have BV2:=BV1.stay Hv1_5
 have F2:=F1.stepB Hv1_5
 have S2:=T1_5
 have hz2:=Hv1_5.size
 have Hi2 : Hi W1.heap.size W1 v1_5:=(Hi.refl _ _).stay Hv1_5
 clear BS1 BV1 F1
 obtain ⟨sl2,⟨sc02,sc12,sc22,sc32,sc42,sc52,sc62,sc72,sc82⟩,⟨sf02,sf12,sf22,sf32,sf42,sf52,sf62,sf72,sf82⟩⟩:=BS2.facts
 go_upto_region 3 with (fail)
 refine name_world ?_
 intro W3 hW3
 have BS3 : SBlk W3 w1.heap.size 1 x.a false false ⟨#[]⟩ (.slice none 0 0) (.slice none 0 0) (.slice none 0 0) (.slice none 0 0):=by (rw [hW3];exact (BS2.set0 _))
 have BV3 : SBlk W3 W.heap.size 0 0 false false ⟨#[]⟩ (.slice none 0 0) (.slice none 0 0) (.slice none 0 0) (.slice none 0 0):=by (rw [hW3];exact (BV2.setO hvs _ _))
 have S3 : Hid (A4 W3 r4 rb g cap ws d p0 p1 p2 p3 (.ok (x :: tt))):=hid (by (rw [hW3];exact (S2.out.setO h4s hbs hgs _ _)))
 have F3 : Fr (some rb) W W3:=by (rw [hW3];exact (F2.set (.inr (by omega)) _ _))
 have Hi3 : Hi W1.heap.size v1_5 W3:=by (rw [hW3];exact ((Hi.refl W1.heap.size v1_5).set (by omega) _ _))
 have hz3:=Hi3.1
 clear hW3 BS2 BV2 F2 sl2 sc02 sc12 sc22 sc32 sc42 sc52 sc62 sc72 sc82 sf02 sf12 sf22 sf32 sf42 sf52 sf62 sf72 sf82
 obtain ⟨sl3,⟨sc03,sc13,sc23,sc33,sc43,sc53,sc63,sc73,sc83⟩,⟨sf03,sf13,sf23,sf33,sf43,sf53,sf63,sf73,sf83⟩⟩:=BS3.facts
 go_upto_region 5 with (go_at_call 47;(with_reducible refine (r4_name (hid S3.out) hm.out).mono ?_);rintro e3 u3 ⟨rfl,hs3,hf3⟩;have BQ3:=BS3.fr hf3 hsb;have BW3:=BV3.fr hf3 (Ne.symm hbv);have uz3:=Fr.size hf3;obtain ⟨tl3,⟨tc03,tc13,tc23,tc33,tc43,tc53,tc63,tc73,tc83⟩,⟨tf03,tf13,tf23,tf33,tf43,tf53,tf63,tf73,tf83⟩⟩:=BQ3.facts)
 refine name_world ?_
 intro W4 hW4
 have BS4 : SBlk W4 w1.heap.size 1 x.a false false (bstr tn) (.slice none 0 0) (.slice none 0 0) (.slice none 0 0) (.slice none 0 0):=by (rw [hW4];exact ((BQ3.set4 _).alloc _))
 have BV4 : SBlk W4 W.heap.size 0 0 false false ⟨#[]⟩ (.slice none 0 0) (.slice none 0 0) (.slice none 0 0) (.slice none 0 0):=by (rw [hW4];exact ((BW3.setO hvs _ _).alloc _))
 have S4 : Hid (A4 W4 r4 rb g cap ws d p0 p1 p2 p3 (.ok (y :: t2))):=hid (by (rw [hW4];exact ((hs3.setO h4s hbs hgs _ _).alloc _)))
 have F4 : Fr (some rb) W W4:=by (rw [hW4];exact (((F3.step hf3).set (.inr (by omega)) _ _).alloc _))
 have Hi4 : Hi W1.heap.size W3 W4:=by (rw [hW4];exact ((((Hi.refl W1.heap.size W3).fr hf3 (by omega)).set (by omega) _ _).alloc _))
 have hz4:=Hi4.1
 clear hW4 BS3 BV3 F3 sl3 sc03 sc13 sc23 sc33 sc43 sc53 sc63 sc73 sc83 sf03 sf13 sf23 sf33 sf43 sf53 sf63 sf73 sf83 tl3 tc03 tc13 tc23 tc33 tc43 tc53 tc63 tc73 tc83 tf03 tf13 tf23 tf33 tf43 tf53 tf63 tf73 tf83 BQ3 BW3 hf3 hs3
 have T4_0:=S4
 have Hv4_0 : Below W4.heap.size W4 W4:=Below.refl _ _
 go_upto_region 6 with (first
  | (go_at_call 45;(with_reducible refine (r4_is T4_0 _ true b_br).mono ?_);rintro e' v4_1 ⟨rfl,hv4_1⟩;have T4_1:=hid (T4_0.out.stay hv4_1);have Hv4_1:=Hv4_0.trans (hv4_1.mono Hv4_0.size)))
 have BS5:=BS4.stay Hv4_1
 have BV5:=BV4.stay Hv4_1
 have F5:=F4.stepB Hv4_1
 have S5:=T4_1
 have hz5:=Hv4_1.size
 have Hi5 : Hi W1.heap.size W4 v4_1:=(Hi.refl _ _).stay Hv4_1
 clear BS4 BV4 F4
 obtain ⟨sl5,⟨sc05,sc15,sc25,sc35,sc45,sc55,sc65,sc75,sc85⟩,⟨sf05,sf15,sf25,sf35,sf45,sf55,sf65,sf75,sf85⟩⟩:=BS5.facts
 obtain ⟨i5,a5,R5,g55,g65,g75,gx5⟩:=S5.out.st.ok_cells S5.out.env
 obtain ⟨m05,_,_,_,_,_⟩:=S5.out.at4.cells
 obtain ⟨_,q15,_,_,_⟩:=R5.rd.cells
 have ml5:=S5.out.at4.lt
 have rl5:=R5.rd.lt
 have rf5:=R5.rd.frozen 1
 go_upto_region 7 with (fail)
 refine name_world ?_
 intro W6 hW6
 have BS6 : SBlk W6 w1.heap.size 1 x.a false false (bstr tn) (.slice none 0 0) (.slice none 0 0) (.slice none 0 0) (.slice none 0 0):=by (rw [hW6];exact (BS5.setO hsb _ _))
 have BV6 : SBlk W6 W.heap.size 0 0 false false ⟨#[]⟩ (.slice none 0 0) (.slice none 0 0) (.slice none 0 0) (.slice none 0 0):=by (rw [hW6];exact (BV5.setO (Ne.symm hbv) _ _))
 have S6 : Hid (A4 W6 r4 rb g cap ws d p0 p1 p2 p3 (.ok t2)):=hid (by (rw [hW6];exact (S5.out.fr ((Fr.refl (some rb) _).set (.inl rfl) 1 _) (st_adv S5.out.st R5 hy3.out g55))))
 have F6 : Fr (some rb) W W6:=by (rw [hW6];exact (F5.set (.inl rfl) _ _))
 have Hi6 : Hi W1.heap.size v4_1 W6:=by (rw [hW6];exact ((Hi.refl W1.heap.size v4_1).set (by omega) _ _))
 have hz6:=Hi6.1
 clear hW6 BS5 BV5 F5 sl5 sc05 sc15 sc25 sc35 sc45 sc55 sc65 sc75 sc85 sf05 sf15 sf25 sf35 sf45 sf55 sf65 sf75 sf85
 obtain ⟨sl6,⟨sc06,sc16,sc26,sc36,sc46,sc56,sc66,sc76,sc86⟩,⟨sf06,sf16,sf26,sf36,sf46,sf56,sf66,sf76,sf86⟩⟩:=BS6.facts
 go_upto_region 8 with (go_at_call 68;(with_reducible refine (r4_exprQ (hid S6.out) hi.out).mono ?_);rintro e6 u6 ⟨⟨k5,q5,n5,nm5,l5,m5,c5,a5,rfl,hg5⟩,hs6,hf6⟩;have BQ6:=BS6.fr hf6 hsb;have BW6:=BV6.fr hf6 (Ne.symm hbv);have uz6:=Fr.size hf6;obtain ⟨tl6,⟨tc06,tc16,tc26,tc36,tc46,tc56,tc66,tc76,tc86⟩,⟨tf06,tf16,tf26,tf36,tf46,tf56,tf66,tf76,tf86⟩⟩:=BQ6.facts)
 refine name_world ?_
 intro W7 hW7
 have BS7 : SBlk W7 w1.heap.size 1 x.a false false (bstr tn) (.slice (some ⟨u6.heap.size,0,none⟩) 1 1) (.slice none 0 0) (.slice none 0 0) (.slice none 0 0):=by (rw [hW7];exact ((BQ6.set5 _).alloc _))
 have BV7 : SBlk W7 W.heap.size 0 0 false false ⟨#[]⟩ (.slice none 0 0) (.slice none 0 0) (.slice none 0 0) (.slice none 0 0):=by (rw [hW7];exact ((BW6.setO hvs _ _).alloc _))
 have S7 : Hid (A4 W7 r4 rb g cap ws d p0 p1 p2 p3 τi):=hid (by (rw [hW7];exact ((hs6.setO h4s hbs hgs _ _).alloc _)))
 have F7 : Fr (some rb) W W7:=by (rw [hW7];exact (((F6.step hf6).set (.inr (by omega)) _ _).alloc _))
 have Hi7 : Hi W1.heap.size W6 W7:=by (rw [hW7];exact ((((Hi.refl W1.heap.size W6).fr hf6 (by omega)).set (by omega) _ _).alloc _))
 have hz7:=Hi7.1
 have X7 : Hid (∀ t,τi = .ok t → IsExP (fun g => W1.heap.size ≤ g) W7 (exsE [ix]) (.slice (some ⟨u6.heap.size,0,none⟩) 1 1)):=hid (fun t h => by
  rw [hW7]
  have e:=one_new (lo:=W1.heap.size) (W:=u6.setCell ⟨w1.heap.size,5,none⟩ (.slice (some ⟨u6.heap.size,0,none⟩) 1 1)) (((hg5 t h).low (by (try simp only [World.size_setCell]);omega)).kept fun j hj hl => heap_setCell_other _ ⟨w1.heap.size,5,none⟩ j _ (by simp;omega)) (by simp;omega)
  simpa only [World.size_setCell] using e)
 clear hW7 BS6 BV6 F6 sl6 sc06 sc16 sc26 sc36 sc46 sc56 sc66 sc76 sc86 sf06 sf16 sf26 sf36 sf46 sf56 sf66 sf76 sf86 tl6 tc06 tc16 tc26 tc36 tc46 tc56 tc66 tc76 tc86 tf06 tf16 tf26 tf36 tf46 tf56 tf66 tf76 tf86 BQ6 BW6 hf6 hs6
 obtain ⟨sl7,⟨sc07,sc17,sc27,sc37,sc47,sc57,sc67,sc77,sc87⟩,⟨sf07,sf17,sf27,sf37,sf47,sf57,sf67,sf77,sf87⟩⟩:=BS7.facts
 go_upto_region 9 with (go_at_call 48;(with_reducible refine (r4_need (hid S7.out) _ _ hj).mono ?_);rintro e7 u7 ⟨rfl,hs7,hf7⟩;have BQ7:=BS7.fr hf7 hsb;have BW7:=BV7.fr hf7 (Ne.symm hbv);have uz7:=Fr.size hf7;obtain ⟨tl7,⟨tc07,tc17,tc27,tc37,tc47,tc57,tc67,tc77,tc87⟩,⟨tf07,tf17,tf27,tf37,tf47,tf57,tf67,tf77,tf87⟩⟩:=BQ7.facts)
 refine name_world ?_
 intro W8 hW8
 have BS8 : SBlk W8 w1.heap.size 1 x.a false false (bstr tn) (.slice (some ⟨u6.heap.size,0,none⟩) 1 1) (.slice none 0 0) (.slice none 0 0) (.slice none 0 0):=by (rw [hW8];exact BQ7)
 have BV8 : SBlk W8 W.heap.size 0 0 false false ⟨#[]⟩ (.slice none 0 0) (.slice none 0 0) (.slice none 0 0) (.slice none 0 0):=by (rw [hW8];exact BW7)
 have S8 : Hid (A4 W8 r4 rb g cap ws d p0 p1 p2 p3 τj):=hid (by (rw [hW8];exact hs7))
 have F8 : Fr (some rb) W W8:=by (rw [hW8];exact (F7.step hf7))
 have Hi8 : Hi W1.heap.size W7 W8:=by (rw [hW8];exact ((Hi.refl W1.heap.size W7).fr hf7 (by omega)))
 have hz8:=Hi8.1
 have X7':=hid (fun tt h => (X7.out tt h).hi Hi8)
 clear X7
 clear hW8 BS7 BV7 F7 sl7 sc07 sc17 sc27 sc37 sc47 sc57 sc67 sc77 sc87 sf07 sf17 sf27 sf37 sf47 sf57 sf67 sf77 sf87 tl7 tc07 tc17 tc27 tc37 tc47 tc57 tc67 tc77 tc87 tf07 tf17 tf27 tf37 tf47 tf57 tf67 tf77 tf87 BQ7 BW7 hf7 hs7
 obtain ⟨sl8,⟨sc08,sc18,sc28,sc38,sc48,sc58,sc68,sc78,sc88⟩,⟨sf08,sf18,sf28,sf38,sf48,sf58,sf68,sf78,sf88⟩⟩:=BS8.facts
 go_upto_region 10 with (go_at_call 48;(with_reducible refine (r4_need (hid S8.out) _ _ hq).mono ?_);rintro e8 u8 ⟨rfl,hs8,hf8⟩;have BQ8:=BS8.fr hf8 hsb;have BW8:=BV8.fr hf8 (Ne.symm hbv);have uz8:=Fr.size hf8;obtain ⟨tl8,⟨tc08,tc18,tc28,tc38,tc48,tc58,tc68,tc78,tc88⟩,⟨tf08,tf18,tf28,tf38,tf48,tf58,tf68,tf78,tf88⟩⟩:=BQ8.facts)
 refine name_world ?_
 intro W9 hW9
 have BS9 : SBlk W9 w1.heap.size 1 x.a false false (bstr tn) (.slice (some ⟨u6.heap.size,0,none⟩) 1 1) (.slice none 0 0) (.slice none 0 0) (.slice none 0 0):=by (rw [hW9];exact BQ8)
 have BV9 : SBlk W9 W.heap.size 0 0 false false ⟨#[]⟩ (.slice none 0 0) (.slice none 0 0) (.slice none 0 0) (.slice none 0 0):=by (rw [hW9];exact BW8)
 have S9 : Hid (A4 W9 r4 rb g cap ws d p0 p1 p2 p3 τq):=hid (by (rw [hW9];exact hs8))
 have F9 : Fr (some rb) W W9:=by (rw [hW9];exact (F8.step hf8))
 have Hi9 : Hi W1.heap.size W8 W9:=by (rw [hW9];exact ((Hi.refl W1.heap.size W8).fr hf8 (by omega)))
 have hz9:=Hi9.1
 have X7'':=hid (fun tt h => (X7'.out tt h).hi Hi9)
 clear X7'
 clear hW9 BS8 BV8 F8 sl8 sc08 sc18 sc28 sc38 sc48 sc58 sc68 sc78 sc88 sf08 sf18 sf28 sf38 sf48 sf58 sf68 sf78 sf88 tl8 tc08 tc18 tc28 tc38 tc48 tc58 tc68 tc78 tc88 tf08 tf18 tf28 tf38 tf48 tf58 tf68 tf78 tf88 BQ8 BW8 hf8 hs8
 obtain ⟨sl9,⟨sc09,sc19,sc29,sc39,sc49,sc59,sc69,sc79,sc89⟩,⟨sf09,sf19,sf29,sf39,sf49,sf59,sf69,sf79,sf89⟩⟩:=BS9.facts
 go_upto_region 11 with (go_at_call 68;(with_reducible refine (r4_exprQ (hid S9.out) he.out).mono ?_);rintro e9 u9 ⟨⟨k5,q5,n5,nm5,l5,m5,c5,a5,rfl,hg5⟩,hs9,hf9⟩;have BQ9:=BS9.fr hf9 hsb;have BW9:=BV9.fr hf9 (Ne.symm hbv);have uz9:=Fr.size hf9;obtain ⟨tl9,⟨tc09,tc19,tc29,tc39,tc49,tc59,tc69,tc79,tc89⟩,⟨tf09,tf19,tf29,tf39,tf49,tf59,tf69,tf79,tf89⟩⟩:=BQ9.facts)
 refine name_world ?_
 intro W10 hW10
 have BS10 : SBlk W10 w1.heap.size 1 x.a false false (bstr tn) (.slice (some ⟨u6.heap.size,0,none⟩) 1 1) (.slice (some ⟨u9.heap.size,0,none⟩) 1 1) (.slice none 0 0) (.slice none 0 0):=by (rw [hW10];exact ((BQ9.set6 _).alloc _))
 have BV10 : SBlk W10 W.heap.size 0 0 false false ⟨#[]⟩ (.slice none 0 0) (.slice none 0 0) (.slice none 0 0) (.slice none 0 0):=by (rw [hW10];exact ((BW9.setO hvs _ _).alloc _))
 have S10 : Hid (A4 W10 r4 rb g cap ws d p0 p1 p2 p3 τe):=hid (by (rw [hW10];exact ((hs9.setO h4s hbs hgs _ _).alloc _)))
 have F10 : Fr (some rb) W W10:=by (rw [hW10];exact (((F9.step hf9).set (.inr (by omega)) _ _).alloc _))
 have Hi10 : Hi W1.heap.size W9 W10:=by (rw [hW10];exact ((((Hi.refl W1.heap.size W9).fr hf9 (by omega)).set (by omega) _ _).alloc _))
 have hz10:=Hi10.1
 have X7''':=hid (fun tt h => (X7''.out tt h).hi Hi10)
 clear X7''
 have X10 : Hid (∀ t,τe = .ok t → IsExP (fun g => W1.heap.size ≤ g) W10 (exsE [ex]) (.slice (some ⟨u9.heap.size,0,none⟩) 1 1)):=hid (fun t h => by
  rw [hW10]
  have e:=one_new (lo:=W1.heap.size) (W:=u9.setCell ⟨w1.heap.size,6,none⟩ (.slice (some ⟨u9.heap.size,0,none⟩) 1 1)) (((hg5 t h).low (by (try simp only [World.size_setCell]);omega)).kept fun j hj hl => heap_setCell_other _ ⟨w1.heap.size,6,none⟩ j _ (by simp;omega)) (by simp;omega)
  simpa only [World.size_setCell] using e)
 clear hW10 BS9 BV9 F9 sl9 sc09 sc19 sc29 sc39 sc49 sc59 sc69 sc79 sc89 sf09 sf19 sf29 sf39 sf49 sf59 sf69 sf79 sf89 tl9 tc09 tc19 tc29 tc39 tc49 tc59 tc69 tc79 tc89 tf09 tf19 tf29 tf39 tf49 tf59 tf69 tf79 tf89 BQ9 BW9 hf9 hs9
 obtain ⟨sl10,⟨sc010,sc110,sc210,sc310,sc410,sc510,sc610,sc710,sc810⟩,⟨sf010,sf110,sf210,sf310,sf410,sf510,sf610,sf710,sf810⟩⟩:=BS10.facts
 go_wp2_with (go_at_call 48;(with_reducible refine (r4_need (hid S10.out) _ _ hz).mono ?_);rintro e10 u10 ⟨rfl,hs10,hf10⟩;have BQ10:=BS10.fr hf10 hsb;have BW10:=BV10.fr hf10 (Ne.symm hbv);have uz10:=Fr.size hf10;obtain ⟨tl10,⟨tc010,tc110,tc210,tc310,tc410,tc510,tc610,tc710,tc810⟩,⟨tf010,tf110,tf210,tf310,tf410,tf510,tf610,tf710,tf810⟩⟩:=BQ10.facts;obtain ⟨vl0,⟨vc0,vc1,vc2,vc3,vc4,vc5,vc6,vc7,vc8⟩,⟨vf0,vf1,vf2,vf3,vf4,vf5,vf6,vf7,vf8⟩⟩:=BW10.facts)
 refine bodyPost_ret (results_s rfl _ rfl (SBlk.all BW10)) rfl ⟨⟨_,_,_,_,_,_,_,_,_,_,_,_,_,_,_,_,_,rfl,?_⟩,?_,?_⟩
 · intro t0 ht0
   obtain ⟨t1,ht1⟩:=needQ_ok hz.out ht0
   obtain ⟨t2,ht2⟩:=exQ_ok he.out ht1
   obtain ⟨t3,ht3⟩:=needQ_ok hq.out ht2
   obtain ⟨t4,ht4⟩:=needQ_ok hj.out ht3
   refine ⟨⟨rfl,rfl,rfl,rfl,rfl⟩,((X7'''.out t4 ht4).hi (((((((((((Hi.refl W1.heap.size W10).fr hf10 (by omega)).set (show W.heap.size < W1.heap.size by omega) _ _).set (show W.heap.size < W1.heap.size by omega) _ _).set (show W.heap.size < W1.heap.size by omega) _ _).set (show W.heap.size < W1.heap.size by omega) _ _).set (show W.heap.size < W1.heap.size by omega) _ _).set (show W.heap.size < W1.heap.size by omega) _ _).set (show W.heap.size < W1.heap.size by omega) _ _).set (show W.heap.size < W1.heap.size by omega) _ _).set (show W.heap.size < W1.heap.size by omega) _ _)).lo (by omega),((X10.out t1 ht1).hi (((((((((((Hi.refl W1.heap.size W10).fr hf10 (by omega)).set (show W.heap.size < W1.heap.size by omega) _ _).set (show W.heap.size < W1.heap.size by omega) _ _).set (show W.heap.size < W1.heap.size by omega) _ _).set (show W.heap.size < W1.heap.size by omega) _ _).set (show W.heap.size < W1.heap.size by omega) _ _).set (show W.heap.size < W1.heap.size by omega) _ _).set (show W.heap.size < W1.heap.size by omega) _ _).set (show W.heap.size < W1.heap.size by omega) _ _).set (show W.heap.size < W1.heap.size by omega) _ _)).lo (by omega),.nil,.nil⟩
 · exact (((((((((hs10.setO h4v hbv hgv _ _).setO h4v hbv hgv _ _).setO h4v hbv hgv _ _).setO h4v hbv hgv _ _).setO h4v hbv hgv _ _).setO h4v hbv hgv _ _).setO h4v hbv hgv _ _).setO h4v hbv hgv _ _).setO h4v hbv hgv _ _)
 · exact ((((((((((F10.step hf10).set (.inr (Nat.le_refl _)) _ _).set (.inr (Nat.le_refl _)) _ _).set (.inr (Nat.le_refl _)) _ _).set (.inr (Nat.le_refl _)) _ _).set (.inr (Nat.le_refl _)) _ _).set (.inr (Nat.le_refl _)) _ _).set (.inr (Nat.le_refl _)) _ _).set (.inr (Nat.le_refl _)) _ _).set (.inr (Nat.le_refl _)) _ _)
theorem rst_step {r4 rb g : Nat} {ws : List Wd} {n : Nat} (hB : GBlock r4 rb g ws n) : GStmt r4 rb g ws (n + 1):=by
 intro W cap d p0 p1 p2 p3 x tt S hn hd
 have hf : (RS.ok (x :: tt)).fin:=fun _ e => by cases e;exact S.st.2.1
 have HS:=hid S
 have HB:=hid hB
 unfold stmtF
 by_cases b1 : (RS.ok (x :: tt)).is kVar = true
 · rw [if_pos b1]
   exact rst_let (n:=n) HS b1 (tr:=(kindF (.ok tt)).1.1) (sc:=(kindF (.ok tt)).1.2) (τk:=(kindF (.ok tt)).2) (tn:=(nameF (kindF (.ok tt)).2).1.1) (an:=(nameF (kindF (.ok tt)).2).1.2) (hid rfl) (hid rfl) (hid rfl) (ex:=(exF ((nameF (kindF (.ok tt)).2).2.need [61])).1) (hid rfl) (hid rfl)
 · have c1:=Bool.eq_false_iff.2 b1
   rw [if_neg b1]
   by_cases b2 : (RS.ok (x :: tt)).is kIf = true
   · have ha:=is_adv b2 hf
     have k1 : Le (boundF (.ok tt)).2 (.ok tt):=bound_le ha.1.2
     have hl1 : 3 * (boundF (.ok tt)).2.len + 2 ≤ n:=by
      have h1 : (boundF (.ok tt)).2.len ≤ tt.length:=k1.1
      omega
     have c3 : (RS.ok (x :: tt)).is kWhile = false:=by
      have hxt : x.t = kIf:=by
       simp [RS.is] at b2
       exact b2.2
      exact isT_no (by rw [hxt];decide)
     have kb:=(read_le n).2.1 d _ k1.2
     rw [if_pos b2]
     cases b5 : (blockF n d (boundF (.ok tt)).2).2.is kElse with
     | false =>
      have key:=rst_ifno HS c1 b2 c3 (ex:=(boundF (.ok tt)).1) (lb:=(blockF n d (boundF (.ok tt)).2).1) (hid rfl) (hid rfl) (hid b5) hl1 HB hd
      have b5' : (blockF n d (boundF (RS.ok (x :: tt)).adv).2).2.is kElse = false:=b5
      simp only [b5',Bool.false_eq_true,if_false]
      exact key
     | true =>
      obtain ⟨y,t2,hy,hy3⟩:=is_cons b5
      have hl2 : 3 * (RS.ok t2).len + 2 ≤ n:=by
       have h1:=kb.1
       rw [hy] at h1
       have h3 : (RS.ok (y :: t2)).len = t2.length + 1:=rfl
       have h4 : (RS.ok t2).len = t2.length:=rfl
       omega
      have b5' : (blockF n d (boundF (RS.ok (x :: tt)).adv).2).2.is kElse = true:=b5
      have e : (blockF n d (boundF (RS.ok (x :: tt)).adv).2).2.adv = .ok t2:=by
       show (blockF n d (boundF (.ok tt)).2).2.adv = .ok t2
       rw [hy]
       rfl
      have key:=rst_ifelse HS c1 b2 c3 (ex:=(boundF (.ok tt)).1) (τe:=(boundF (.ok tt)).2) (lb:=(blockF n d (boundF (.ok tt)).2).1) (lf:=(blockF n d (.ok t2)).1) (τf:=(blockF n d (.ok t2)).2) (hid rfl) (hid (Prod.ext rfl hy)) (hid (hy ▸ b5)) (hid rfl) hl1 hl2 HB hd
      simp only [b5',if_true,e]
      exact key
   · have c2:=Bool.eq_false_iff.2 b2
     rw [if_neg b2]
     by_cases b3 : (RS.ok (x :: tt)).is kWhile = true
     · have ha:=is_adv b3 hf
       have k1 : Le (boundF (.ok tt)).2 (.ok tt):=bound_le ha.1.2
       have hl1 : 3 * (boundF (.ok tt)).2.len + 2 ≤ n:=by
        have h1 : (boundF (.ok tt)).2.len ≤ tt.length:=k1.1
        omega
       rw [if_pos b3]
       exact rst_while HS c1 c2 b3 (ex:=(boundF (.ok tt)).1) (τe:=(boundF (.ok tt)).2) (lb:=(blockF n d (boundF (.ok tt)).2).1) (τl:=(blockF n d (boundF (.ok tt)).2).2) (hid rfl) (hid rfl) hl1 HB hd
     · have c3:=Bool.eq_false_iff.2 b3
       rw [if_neg b3]
       by_cases b4 : (RS.ok (x :: tt)).is kLock = true
       · have ha:=is_adv b4 hf
         have k1 : Le (nameF (.ok tt)).2 (.ok tt):=name_le ha.1.2
         have hl1 : 3 * (nameF (.ok tt)).2.len + 2 ≤ n:=by
          have h1 : (nameF (.ok tt)).2.len ≤ tt.length:=k1.1
          omega
         rw [if_pos b4]
         exact rst_lock HS c1 c2 c3 b4 (tn:=(nameF (.ok tt)).1.1) (an:=(nameF (.ok tt)).1.2) (τm:=(nameF (.ok tt)).2) (lb:=(blockF n d (nameF (.ok tt)).2).1) (τl:=(blockF n d (nameF (.ok tt)).2).2) (hid rfl) (hid rfl) hl1 HB hd
       · have c4:=Bool.eq_false_iff.2 b4
         rw [if_neg b4]
         by_cases b5 : (RS.ok (x :: tt)).is kOut = true
         · rw [if_pos b5]
           exact rst_out (n:=n) HS c1 c2 c3 c4 b5
         · have c5:=Bool.eq_false_iff.2 b5
           rw [if_neg b5]
           cases b6 : (nameF (.ok (x :: tt))).2.is [91] with
           | false =>
            simp only [b6,Bool.false_eq_true,if_false]
            exact rst_asg (n:=n) HS c1 c2 c3 c4 c5 (tn:=(nameF (.ok (x :: tt))).1.1) (an:=(nameF (.ok (x :: tt))).1.2) (τm:=(nameF (.ok (x :: tt))).2) (hid rfl) (hid b6) (hid rfl) (ex:=(exF ((nameF (.ok (x :: tt))).2.need [61])).1) (hid rfl) (hid rfl)
           | true =>
            obtain ⟨y,t2,hy,hy3⟩:=is_cons b6
            have e : (nameF (.ok (x :: tt))).2.adv = .ok t2:=by rw [hy];rfl
            have key:=rst_asgi (n:=n) HS c1 c2 c3 c4 c5 (tn:=(nameF (.ok (x :: tt))).1.1) (an:=(nameF (.ok (x :: tt))).1.2) (hid (Prod.ext rfl hy)) (hid (hy ▸ b6)) (ix:=(exF (.ok t2)).1) (τi:=(exF (.ok t2)).2) (hid rfl) (hid rfl) (hid rfl) (ex:=(exF (((exF (.ok t2)).2.need [93]).need [61])).1) (hid rfl) (hid rfl)
            simp only [b6,if_true,e]
            exact key
theorem A4.setD {W : World} {r4 rb g cap : Nat} {ws : List Wd} {d : Int} {p0 p1 p2 p3 : Value} {σ : RS} (S : A4 W r4 rb g cap ws d p0 p1 p2 p3 σ) (v : Int) : A4 (W.setCell ⟨r4,1,none⟩ (.int .i64 v)) r4 rb g cap ws v p0 p1 p2 p3 σ :=
 ⟨S.at4.set1 v,S.st.setO (Ne.symm S.ne) _ _,S.env.setO (Ne.symm S.ng) _ _,S.ne,S.ng⟩
theorem fr_swap {W X : World} {r4 rb : Nat} {d v : Int} {p0 p1 p2 p3 : Value} (h : R4At W r4 rb d p0 p1 p2 p3) (hf : Fr (some rb) (W.setCell ⟨r4,1,none⟩ (.int .i64 v)) X) (hne : r4 ≠ rb) : Fr (some rb) W (X.setCell ⟨r4,1,none⟩ (.int .i64 d)):=by
 have hf' : World.grownBy (W.setCell ⟨r4,1,none⟩ (.int .i64 v)) X (some rb):=hf
 suffices hs : World.grownBy W (X.setCell ⟨r4,1,none⟩ (.int .i64 d)) (some rb) from hs
 refine ⟨hf'.os,hf'.tape,hf'.output,?_,fun k hk hn => ?_⟩
 · have:=hf'.size
   simpa using this
 · by_cases hk4 : k = r4
   · subst hk4
     have h1:=((h.set1 v).fr hf hne).set1 d
     exact h1.trans h.symm
   · rw [heap_setCell_other X ⟨r4,1,none⟩ k _ hk4]
     rw [hf'.block k (by simpa using hk) hn,heap_setCell_other W ⟨r4,1,none⟩ k _ hk4]
theorem GStmts.use {r4 rb g : Nat} {ws : List Wd} {n : Nat} (h : GStmts r4 rb g ws n) {W : World} {cap d : Nat} {p0 p1 p2 p3 : Value} {σ : RS} {s : ByteArray} (S : Hid (A4 W r4 rb g cap ws d p0 p1 p2 p3 σ)) (hn : 3 * σ.len + 1 ≤ n) (hd : d ≤ 32 ∨ ∀ tt,σ ≠ .ok tt) (q : List Stm × RS) (hq : stmtsF n d s.data.toList σ = q) :
 Calls Try.prog 67 #[.pointer (some ⟨r4,0,none⟩),.string s] W fun e w' => EndSs W.heap.size q e w' ∧ A4 w' r4 rb g cap ws d p0 p1 p2 p3 q.2 ∧ Fr (some rb) W w':=hq ▸ h W cap d p0 p1 p2 p3 s σ S.out hn hd
theorem rblk_bad {r4 rb g cap : Nat} {ws : List Wd} {n d : Nat} {p0 p1 p2 p3 : Value} {W : World} {c0 : Int} {b0 : Nat} (S : Hid (A4 W r4 rb g cap ws d p0 p1 p2 p3 (.bad c0 b0))) {τ1 τ2 τ3 : RS} {lb : List Stm} (h1 : Hid ((RS.bad c0 b0).need (⟨#[123]⟩ : ByteArray).data.toList = τ1)) (h2 : Hid (stmtsF n (d + 1) (⟨#[125]⟩ : ByteArray).data.toList τ1 = (lb,τ2))) (h3 : Hid (τ2.need (⟨#[125]⟩ : ByteArray).data.toList = τ3)) (HG : Hid (GStmts r4 rb g ws n)) (hlen : 3 * τ1.len + 1 ≤ n) (hd : d ≤ 32) (hdj : Hid (d + 1 ≤ 32 ∨ ∀ tt,τ1 ≠ .ok tt)) :
 Calls Try.prog 50 #[.pointer (some ⟨r4,0,none⟩)] W fun e w' => EndSs W.heap.size (lb,τ3) e w' ∧ A4 w' r4 rb g cap ws d p0 p1 p2 p3 τ3 ∧ Fr (some rb) W w':=by
 have hfd:=rfield_a
 obtain ⟨_,hlb,_⟩:=S.out.blk
 go_enter Try.func50,Try.ntmps50
 go_upto_region 3 with (go_at_call 23;(with_reducible refine (r4_ok S false rfl).mono ?_);rintro e1 w1 ⟨rfl,hb1⟩;have S1:=hid (S.out.stay hb1))
 have SA:=S1
 have FA:=(show Fr (some rb) W w1 from Fr.of hb1)
 go_upto_region 4 with (go_at_call 48;(with_reducible refine (r4_need SA _ _ h1).mono ?_);rintro e5 w5 ⟨rfl,hs5,hf5⟩)
 have F5 : Fr (some rb) W w5:=FA.step hf5
 have hz5:=Fr.size F5
 obtain ⟨m0,m1,_,_,_,_⟩:=hs5.at4.cells
 have ml:=hs5.at4.lt
 have mf:=hs5.at4.frozen 1
 have hne:=hs5.ne
 go_upto_region 5 with (fail)
 refine name_world ?_
 intro w6 hw6
 have hd1 : ((d + 1 : Nat) : Int) = (d : Int) + 1:=by omega
 have S6 : Hid (A4 w6 r4 rb g cap ws ((d + 1 : Nat) : Int) p0 p1 p2 p3 τ1):=hid (by (rw [hw6];exact hs5.setD _))
 have HW6:=hid hw6
 have hz6 : w6.heap.size = w5.heap.size:=by (rw [hw6];simp)
 clear hw6 m0 m1 mf hfd hd1
 go_upto_region 6 with (go_at_call 67;(with_reducible refine (HG.out.use S6 hlen hdj.out _ h2.out).mono ?_);rintro e7 w7 ⟨⟨lp,lm,lc,rfl,hb7⟩,hs7,hf7⟩)
 obtain ⟨O,hO⟩ : ∃ O : Int,O = ((d + 1 : Nat) : Int):=⟨_,rfl⟩
 have hs7' : Hid (A4 w7 r4 rb g cap ws O p0 p1 p2 p3 τ2):=hid (hO ▸ hs7)
 have HO:=hid hO
 clear hO
 go_wp2_with (go_at_call 48;(with_reducible refine (r4_need hs7' _ _ h3).mono ?_);rintro e8 w8 ⟨rfl,hs8,hf8⟩;obtain ⟨m0,m1,_,_,_,_⟩:=hs8.at4.cells;have ml8:=hs8.at4.lt;have mf8:=hs8.at4.frozen 1)
 go_ret
 have hw : wrap64 (O - 1) = (d : Int):=by (rw [HO.out];unfold wrap64;omega)
 have hz7:=Fr.size hf7
 have F8 : Fr (some rb) w5 (w8.setCell ⟨r4,1,none⟩ (.int .i64 d)):=fr_swap hs5.at4 (v:=((d + 1 : Nat) : Int)) ((HW6.out ▸ hf7).step hf8) hne
 refine ⟨⟨lp,lm,lc,rfl,fun t ht => ?_⟩,?_,?_⟩
 · obtain ⟨t1,ht1⟩:=needQ_ok h3.out ht
   exact (((hb7 t1 ht1).lo (lo':=w6.heap.size) (Nat.le_refl _)).hi (((Hi.refl _ _).fr hf8 (by omega)).set (by omega) _ _)).lo (by omega)
 · rw [hw]
   exact hs8.setD _
 · rw [hw]
   exact F5.step F8
theorem rblk_no {r4 rb g cap : Nat} {ws : List Wd} {n d : Nat} {p0 p1 p2 p3 : Value} {W : World} {tt : List Wd} (hb : Hid ((RS.ok tt).is (⟨#[123]⟩ : ByteArray).data.toList = false)) (S : Hid (A4 W r4 rb g cap ws d p0 p1 p2 p3 (.ok tt))) {τ1 τ2 τ3 : RS} {lb : List Stm} (h1 : Hid ((RS.ok tt).need (⟨#[123]⟩ : ByteArray).data.toList = τ1)) (h2 : Hid (stmtsF n (d + 1) (⟨#[125]⟩ : ByteArray).data.toList τ1 = (lb,τ2))) (h3 : Hid (τ2.need (⟨#[125]⟩ : ByteArray).data.toList = τ3)) (HG : Hid (GStmts r4 rb g ws n)) (hlen : 3 * τ1.len + 1 ≤ n) (hd : d ≤ 32) (hdj : Hid (d + 1 ≤ 32 ∨ ∀ tt,τ1 ≠ .ok tt)) :
 Calls Try.prog 50 #[.pointer (some ⟨r4,0,none⟩)] W fun e w' => EndSs W.heap.size (lb,τ3) e w' ∧ A4 w' r4 rb g cap ws d p0 p1 p2 p3 τ3 ∧ Fr (some rb) W w':=by
 have hfd:=rfield_a
 obtain ⟨_,hlb,_⟩:=S.out.blk
 go_enter Try.func50,Try.ntmps50
 go_upto_region 3 with (first
  | (go_at_call 23;(with_reducible refine (r4_ok S true rfl).mono ?_);rintro e1 w1 ⟨rfl,hb1⟩;have S1:=hid (S.out.stay hb1))
  | (go_at_call 45;(with_reducible refine (r4_is S1 _ false hb).mono ?_);rintro e2 w2 ⟨rfl,hb2⟩;have S2:=hid (S1.out.stay hb2)))
 have SA:=S2
 have FA:=(show Fr (some rb) W w2 from (Fr.of hb1).stepB hb2)
 go_upto_region 4 with (go_at_call 48;(with_reducible refine (r4_need SA _ _ h1).mono ?_);rintro e5 w5 ⟨rfl,hs5,hf5⟩)
 have F5 : Fr (some rb) W w5:=FA.step hf5
 have hz5:=Fr.size F5
 obtain ⟨m0,m1,_,_,_,_⟩:=hs5.at4.cells
 have ml:=hs5.at4.lt
 have mf:=hs5.at4.frozen 1
 have hne:=hs5.ne
 go_upto_region 5 with (fail)
 refine name_world ?_
 intro w6 hw6
 have hd1 : ((d + 1 : Nat) : Int) = (d : Int) + 1:=by omega
 have S6 : Hid (A4 w6 r4 rb g cap ws ((d + 1 : Nat) : Int) p0 p1 p2 p3 τ1):=hid (by (rw [hw6];exact hs5.setD _))
 have HW6:=hid hw6
 have hz6 : w6.heap.size = w5.heap.size:=by (rw [hw6];simp)
 clear hw6 m0 m1 mf hfd hd1
 go_upto_region 6 with (go_at_call 67;(with_reducible refine (HG.out.use S6 hlen hdj.out _ h2.out).mono ?_);rintro e7 w7 ⟨⟨lp,lm,lc,rfl,hb7⟩,hs7,hf7⟩)
 obtain ⟨O,hO⟩ : ∃ O : Int,O = ((d + 1 : Nat) : Int):=⟨_,rfl⟩
 have hs7' : Hid (A4 w7 r4 rb g cap ws O p0 p1 p2 p3 τ2):=hid (hO ▸ hs7)
 have HO:=hid hO
 clear hO
 go_wp2_with (go_at_call 48;(with_reducible refine (r4_need hs7' _ _ h3).mono ?_);rintro e8 w8 ⟨rfl,hs8,hf8⟩;obtain ⟨m0,m1,_,_,_,_⟩:=hs8.at4.cells;have ml8:=hs8.at4.lt;have mf8:=hs8.at4.frozen 1)
 go_ret
 have hw : wrap64 (O - 1) = (d : Int):=by (rw [HO.out];unfold wrap64;omega)
 have hz7:=Fr.size hf7
 have F8 : Fr (some rb) w5 (w8.setCell ⟨r4,1,none⟩ (.int .i64 d)):=fr_swap hs5.at4 (v:=((d + 1 : Nat) : Int)) ((HW6.out ▸ hf7).step hf8) hne
 refine ⟨⟨lp,lm,lc,rfl,fun t ht => ?_⟩,?_,?_⟩
 · obtain ⟨t1,ht1⟩:=needQ_ok h3.out ht
   exact (((hb7 t1 ht1).lo (lo':=w6.heap.size) (Nat.le_refl _)).hi (((Hi.refl _ _).fr hf8 (by omega)).set (by omega) _ _)).lo (by omega)
 · rw [hw]
   exact hs8.setD _
 · rw [hw]
   exact F5.step F8
theorem rblk_yes {r4 rb g cap : Nat} {ws : List Wd} {n d : Nat} {p0 p1 p2 p3 : Value} {W : World} {tt : List Wd} (hb : Hid ((RS.ok tt).is (⟨#[123]⟩ : ByteArray).data.toList = true)) (hn : d ≠ 32) (S : Hid (A4 W r4 rb g cap ws d p0 p1 p2 p3 (.ok tt))) {τ1 τ2 τ3 : RS} {lb : List Stm} (h1 : Hid ((RS.ok tt).need (⟨#[123]⟩ : ByteArray).data.toList = τ1)) (h2 : Hid (stmtsF n (d + 1) (⟨#[125]⟩ : ByteArray).data.toList τ1 = (lb,τ2))) (h3 : Hid (τ2.need (⟨#[125]⟩ : ByteArray).data.toList = τ3)) (HG : Hid (GStmts r4 rb g ws n)) (hlen : 3 * τ1.len + 1 ≤ n) (hd : d ≤ 32) (hdj : Hid (d + 1 ≤ 32 ∨ ∀ tt,τ1 ≠ .ok tt)) :
 Calls Try.prog 50 #[.pointer (some ⟨r4,0,none⟩)] W fun e w' => EndSs W.heap.size (lb,τ3) e w' ∧ A4 w' r4 rb g cap ws d p0 p1 p2 p3 τ3 ∧ Fr (some rb) W w':=by
 have hfd:=rfield_a
 obtain ⟨_,hlb,_⟩:=S.out.blk
 have k32 : ((d : Int) == 32) = false:=by (simp;omega)
 go_enter Try.func50,Try.ntmps50
 go_upto_region 3 with (first
  | (go_at_call 23;(with_reducible refine (r4_ok S true rfl).mono ?_);rintro e1 w1 ⟨rfl,hb1⟩;have S1:=hid (S.out.stay hb1))
  | (go_at_call 45;(with_reducible refine (r4_is S1 _ true hb).mono ?_);rintro e2 w2 ⟨rfl,hb2⟩;have S2:=hid (S1.out.stay hb2);obtain ⟨m0,m1,_,_,_,_⟩:=S2.out.at4.cells;have ml2:=S2.out.at4.lt))
 have SA:=S2
 have FA:=(show Fr (some rb) W w2 from (Fr.of hb1).stepB hb2)
 go_upto_region 4 with (go_at_call 48;(with_reducible refine (r4_need SA _ _ h1).mono ?_);rintro e5 w5 ⟨rfl,hs5,hf5⟩)
 have F5 : Fr (some rb) W w5:=FA.step hf5
 have hz5:=Fr.size F5
 obtain ⟨m0,m1,_,_,_,_⟩:=hs5.at4.cells
 have ml:=hs5.at4.lt
 have mf:=hs5.at4.frozen 1
 have hne:=hs5.ne
 go_upto_region 5 with (fail)
 refine name_world ?_
 intro w6 hw6
 have hd1 : ((d + 1 : Nat) : Int) = (d : Int) + 1:=by omega
 have S6 : Hid (A4 w6 r4 rb g cap ws ((d + 1 : Nat) : Int) p0 p1 p2 p3 τ1):=hid (by (rw [hw6];exact hs5.setD _))
 have HW6:=hid hw6
 have hz6 : w6.heap.size = w5.heap.size:=by (rw [hw6];simp)
 clear hw6 m0 m1 mf hfd hd1
 go_upto_region 6 with (go_at_call 67;(with_reducible refine (HG.out.use S6 hlen hdj.out _ h2.out).mono ?_);rintro e7 w7 ⟨⟨lp,lm,lc,rfl,hb7⟩,hs7,hf7⟩)
 obtain ⟨O,hO⟩ : ∃ O : Int,O = ((d + 1 : Nat) : Int):=⟨_,rfl⟩
 have hs7' : Hid (A4 w7 r4 rb g cap ws O p0 p1 p2 p3 τ2):=hid (hO ▸ hs7)
 have HO:=hid hO
 clear hO
 go_wp2_with (go_at_call 48;(with_reducible refine (r4_need hs7' _ _ h3).mono ?_);rintro e8 w8 ⟨rfl,hs8,hf8⟩;obtain ⟨m0,m1,_,_,_,_⟩:=hs8.at4.cells;have ml8:=hs8.at4.lt;have mf8:=hs8.at4.frozen 1)
 go_ret
 have hw : wrap64 (O - 1) = (d : Int):=by (rw [HO.out];unfold wrap64;omega)
 have hz7:=Fr.size hf7
 have F8 : Fr (some rb) w5 (w8.setCell ⟨r4,1,none⟩ (.int .i64 d)):=fr_swap hs5.at4 (v:=((d + 1 : Nat) : Int)) ((HW6.out ▸ hf7).step hf8) hne
 refine ⟨⟨lp,lm,lc,rfl,fun t ht => ?_⟩,?_,?_⟩
 · obtain ⟨t1,ht1⟩:=needQ_ok h3.out ht
   exact (((hb7 t1 ht1).lo (lo':=w6.heap.size) (Nat.le_refl _)).hi (((Hi.refl _ _).fr hf8 (by omega)).set (by omega) _ _)).lo (by omega)
 · rw [hw]
   exact hs8.setD _
 · rw [hw]
   exact F5.step F8
theorem rblk_lim {r4 rb g cap : Nat} {ws : List Wd} {n d : Nat} {p0 p1 p2 p3 : Value} {W : World} {x : Wd} {tt : List Wd} (hb : Hid ((RS.ok (x :: tt)).is (⟨#[123]⟩ : ByteArray).data.toList = true)) (hn : Hid (d = 32)) (S : Hid (A4 W r4 rb g cap ws d p0 p1 p2 p3 (.ok (x :: tt)))) {τ1 τ2 τ3 : RS} {lb : List Stm} (h1 : Hid ((RS.bad 2 x.a).need (⟨#[123]⟩ : ByteArray).data.toList = τ1)) (h2 : Hid (stmtsF n (d + 1) (⟨#[125]⟩ : ByteArray).data.toList τ1 = (lb,τ2))) (h3 : Hid (τ2.need (⟨#[125]⟩ : ByteArray).data.toList = τ3)) (HG : Hid (GStmts r4 rb g ws n)) (hlen : 3 * τ1.len + 1 ≤ n) (hd : d ≤ 32) (hdj : Hid (d + 1 ≤ 32 ∨ ∀ tt,τ1 ≠ .ok tt)) :
 Calls Try.prog 50 #[.pointer (some ⟨r4,0,none⟩)] W fun e w' => EndSs W.heap.size (lb,τ3) e w' ∧ A4 w' r4 rb g cap ws d p0 p1 p2 p3 τ3 ∧ Fr (some rb) W w':=by
 have hfd:=rfield_a
 obtain ⟨_,hlb,_⟩:=S.out.blk
 have k32 : ((d : Int) == 32) = true:=by (have:=hn.out;simp;omega)
 go_enter Try.func50,Try.ntmps50
 go_upto_region 3 with (first
  | (go_at_call 23;(with_reducible refine (r4_ok S true rfl).mono ?_);rintro e1 w1 ⟨rfl,hb1⟩;have S1:=hid (S.out.stay hb1))
  | (go_at_call 45;(with_reducible refine (r4_is S1 _ true hb).mono ?_);rintro e2 w2 ⟨rfl,hb2⟩;have S2:=hid (S1.out.stay hb2);obtain ⟨m0,m1,_,_,_,_⟩:=S2.out.at4.cells;have ml2:=S2.out.at4.lt)
  | (go_at_call 24;(with_reducible refine (r4_wordOk S2).mono ?_);rintro e3 w3 ⟨rfl,hb3⟩;have S3:=hid (S2.out.stay hb3))
  | (go_at_call 52;(with_reducible refine (r4_fail0 S3 2 (by decide) x.a).mono ?_);rintro e4 w4 ⟨rfl,hs4,hf4⟩))
 have SA:=hid hs4
 have FA:=(show Fr (some rb) W w4 from (((Fr.of hb1).stepB hb2).stepB hb3).step hf4)
 go_upto_region 4 with (go_at_call 48;(with_reducible refine (r4_need SA _ _ h1).mono ?_);rintro e5 w5 ⟨rfl,hs5,hf5⟩)
 have F5 : Fr (some rb) W w5:=FA.step hf5
 have hz5:=Fr.size F5
 obtain ⟨m0,m1,_,_,_,_⟩:=hs5.at4.cells
 have ml:=hs5.at4.lt
 have mf:=hs5.at4.frozen 1
 have hne:=hs5.ne
 go_upto_region 5 with (fail)
 refine name_world ?_
 intro w6 hw6
 have hd1 : ((d + 1 : Nat) : Int) = (d : Int) + 1:=by omega
 have S6 : Hid (A4 w6 r4 rb g cap ws ((d + 1 : Nat) : Int) p0 p1 p2 p3 τ1):=hid (by (rw [hw6];exact hs5.setD _))
 have HW6:=hid hw6
 have hz6 : w6.heap.size = w5.heap.size:=by (rw [hw6];simp)
 clear hw6 m0 m1 mf hfd hd1
 go_upto_region 6 with (go_at_call 67;(with_reducible refine (HG.out.use S6 hlen hdj.out _ h2.out).mono ?_);rintro e7 w7 ⟨⟨lp,lm,lc,rfl,hb7⟩,hs7,hf7⟩)
 obtain ⟨O,hO⟩ : ∃ O : Int,O = ((d + 1 : Nat) : Int):=⟨_,rfl⟩
 have hs7' : Hid (A4 w7 r4 rb g cap ws O p0 p1 p2 p3 τ2):=hid (hO ▸ hs7)
 have HO:=hid hO
 clear hO
 go_wp2_with (go_at_call 48;(with_reducible refine (r4_need hs7' _ _ h3).mono ?_);rintro e8 w8 ⟨rfl,hs8,hf8⟩;obtain ⟨m0,m1,_,_,_,_⟩:=hs8.at4.cells;have ml8:=hs8.at4.lt;have mf8:=hs8.at4.frozen 1)
 go_ret
 have hw : wrap64 (O - 1) = (d : Int):=by (rw [HO.out];unfold wrap64;omega)
 have hz7:=Fr.size hf7
 have F8 : Fr (some rb) w5 (w8.setCell ⟨r4,1,none⟩ (.int .i64 d)):=fr_swap hs5.at4 (v:=((d + 1 : Nat) : Int)) ((HW6.out ▸ hf7).step hf8) hne
 refine ⟨⟨lp,lm,lc,rfl,fun t ht => ?_⟩,?_,?_⟩
 · obtain ⟨t1,ht1⟩:=needQ_ok h3.out ht
   exact (((hb7 t1 ht1).lo (lo':=w6.heap.size) (Nat.le_refl _)).hi (((Hi.refl _ _).fr hf8 (by omega)).set (by omega) _ _)).lo (by omega)
 · rw [hw]
   exact hs8.setD _
 · rw [hw]
   exact F5.step F8
theorem rblk_step {r4 rb g : Nat} {ws : List Wd} {n : Nat} (hG : GStmts r4 rb g ws n) : GBlock r4 rb g ws (n + 1):=by
 intro W cap d p0 p1 p2 p3 σ S hn hd
 have HS:=hid S
 have HG:=hid hG
 have hf : σ.fin:=by
  intro tt e
  subst e
  exact S.st.2.1
 unfold blockF
 cases σ with
 | bad c b =>
  have e : (RS.bad c b).is [123] = false:=rfl
  simp only [e,Bool.false_and,Bool.false_eq_true,if_false]
  exact rblk_bad HS (hid rfl) (lb:=(stmtsF n (d + 1) [125] (.bad c b)).1) (τ2:=(stmtsF n (d + 1) [125] (.bad c b)).2) (hid rfl) (hid rfl) HG (by simp only [RS.len] at hn ⊢;show 3 * 0 + 1 ≤ n;omega) hd (hid (.inr fun _ h => by cases h))
 | ok tt =>
  cases hb : (RS.ok tt).is [123] with
  | false =>
   simp only [Bool.false_and,Bool.false_eq_true,if_false]
   have hl:=(need_le hf [123]).1
   have hbad : ((RS.ok tt).need [123]).len = 0:=by
    rw [RS.need_f hb]
    obtain ⟨x,t',rfl⟩:=(hf _ rfl).ne
    rfl
   have hnok : ∀ t2,(RS.ok tt).need [123] ≠ .ok t2:=by
    rw [RS.need_f hb]
    obtain ⟨x,t',rfl⟩:=(hf _ rfl).ne
    intro t2 h
    cases h
   exact rblk_no (hid hb) HS (hid rfl) (lb:=(stmtsF n (d + 1) [125] ((RS.ok tt).need [123])).1) (τ2:=(stmtsF n (d + 1) [125] ((RS.ok tt).need [123])).2) (hid rfl) (hid rfl) HG (by rw [hbad];omega) hd (hid (.inr hnok))
  | true =>
   obtain ⟨x,t',e,hx3⟩:=is_cons hb
   cases e
   by_cases h32 : d = 32
   · simp only [h32,decide_true,Bool.and_true,if_true]
     have hm:=rblk_lim (hid hb) (hid h32) HS (τ1:=(RS.bad 2 x.a)) (hid rfl) (lb:=(stmtsF n (d + 1) [125] (.bad 2 x.a)).1) (τ2:=(stmtsF n (d + 1) [125] (.bad 2 x.a)).2) (hid rfl) (hid rfl) HG (by show 3 * 0 + 1 ≤ n;omega) hd (hid (.inr fun _ h => by cases h))
     rw [h32] at hm
     subst h32
     exact hm
   · have e2 : decide (d = 32) = false:=by simpa using h32
     simp only [e2,Bool.and_false,Bool.false_eq_true,if_false]
     have hl : ((RS.ok (x :: t')).need [123]) = .ok t':=(RS.need_t hb).trans rfl
     exact rblk_yes (hid hb) h32 HS (hid rfl) (lb:=(stmtsF n (d + 1) [125] ((RS.ok (x :: t')).need [123])).1) (τ2:=(stmtsF n (d + 1) [125] ((RS.ok (x :: t')).need [123])).2) (hid rfl) (hid rfl) HG (by rw [hl];simp only [RS.len,List.length_cons] at hn ⊢;omega) hd (hid (.inl (by omega)))
theorem SGrows.stay {B : Nat} {W X : World} {l : List Stm} {v : Value} {r : List (Stm × SV)} (h : SGrows B W l v r) (hb : Below W.heap.size W X) : SGrows B X l v r:=by
 obtain ⟨h1,h2,h3,h4⟩:=h
 exact ⟨h1,own_below h2 hb,fun q hq => (h3 q hq).kept fun g hg hl => ⟨hb.block g hl,hg⟩,h4⟩
theorem GStmt.use {r4 rb g : Nat} {ws : List Wd} {n : Nat} (h : GStmt r4 rb g ws n) {W : World} {cap d : Nat} {p0 p1 p2 p3 : Value} {x : Wd} {tt : List Wd} (S : Hid (A4 W r4 rb g cap ws d p0 p1 p2 p3 (.ok (x :: tt)))) (hn : 3 * (tt.length + 1) ≤ n) (hd : d ≤ 32) (q : Stm × RS) (hq : stmtF n d (.ok (x :: tt)) = q) :
 Calls Try.prog 72 #[.pointer (some ⟨r4,0,none⟩)] W fun e w' => EndSt W.heap.size q e w' ∧ A4 w' r4 rb g cap ws d p0 p1 p2 p3 q.2 ∧ Fr (some rb) W w':=hq ▸ h W cap d p0 p1 p2 p3 x tt S.out hn hd
theorem raw9_one {sk sa : Int} {str ssc : Bool} {snm : ByteArray} {z1 z2 z3 z4 : Option Addr} {y1 y2 y3 y4 k1 k2 k3 k4 : Nat} : ∀ u ∈ ([.int .i64 sk,.int .i64 sa,.bool str,.bool ssc,.string snm,.slice z1 y1 k1,.slice z2 y2 k2,.slice z3 y3 k3,.slice z4 y4 k4] : List Value),u.oneCell' = true:=by
 intro u hu
 simp at hu
 rcases hu with rfl | rfl | rfl | rfl | rfl | rfl | rfl | rfl | rfl <;> rfl
theorem alloc2_new (W : World) (o1 o2 : Obj) : ((W.alloc o1).alloc o2).heap[W.heap.size + 1]? = some o2:=by
 have:=heap_alloc_new (W.alloc o1) o2
 simpa using this
theorem A4.grow {W X : World} {r4 rb g cap : Nat} {ws : List Wd} {d : Int} {p0 p1 p2 p3 : Value} {σ : RS} {row : Option Nat} (S : A4 W r4 rb g cap ws d p0 p1 p2 p3 σ) (h : W.grownBy X row) (h4 : some r4 ≠ row) (hb : some rb ≠ row) (hg : some g ≠ row) : A4 X r4 rb g cap ws d p0 p1 p2 p3 σ:=by
 obtain ⟨i,c,a,hr,_,hk⟩:=S.st.rd
 exact ⟨(h.block r4 S.at4.lt h4).trans S.at4,hk _ _ ((h.block rb hr.lt hb).trans hr),⟨S.env.wc.kept (fun k e => h.block k (by rw [e];exact S.env.wc.lt) (by rw [e];exact hg)) h.size,S.env.ne,S.env.few,S.env.long,S.env.kok⟩,S.ne,S.ng⟩
def SRel (lo : Nat) (ws : List Wd) (R : List Stm × RS) (m d : Nat) (t : List UInt8) (v : Value) (W : World) (σ : RS) : Prop :=
 (∃ acc r tt,σ = .ok tt ∧ SGrows lo W acc v r ∧ R = (acc ++ (stmtsF m d t σ).1,(stmtsF m d t σ).2) ∧ acc.length + tt.length ≤ ws.length) ∨ (∃ c a,σ = .bad c a ∧ R.2 = .bad c a ∧ ∃ p q k,v = .slice p q k)
theorem stmts_end {m d : Nat} {t : List UInt8} {σ : RS} (h : σ.is t = true) : stmtsF m d t σ = ([],σ):=by
 cases m with
 | zero => simp [stmtsF]
 | succ m => simp [stmtsF,h]
theorem stmts_more {m d : Nat} {t : List UInt8} {tt : List Wd} (h : (RS.ok tt).is t = false) : stmtsF (m + 1) d t (.ok tt) = ((stmtF m d (.ok tt)).1 :: (stmtsF m d t (stmtF m d (.ok tt)).2).1,(stmtsF m d t (stmtF m d (.ok tt)).2).2):=by
 simp [stmtsF,h,RS.good]
theorem rsts_any {r4 rb g : Nat} {ws : List Wd} {n : Nat} (IH : ∀ m,m < n → GStmt r4 rb g ws m) : GStmts r4 rb g ws n:=by
 intro W cap d p0 p1 p2 p3 s σ S0 hn hd
 obtain ⟨R,hR⟩ : ∃ R,stmtsF n d s.data.toList σ = R:=⟨_,rfl⟩
 rw [hR]
 have hst : SRel W.heap.size ws R n d s.data.toList (.slice none 0 0) W σ:=by
  cases σ with
  | ok tt => exact .inl ⟨[],[],tt,rfl,SGrows.nil _ _,by rw [hR];rfl,by (have:=S0.st.1.length_le;simpa using this)⟩
  | bad c a => exact .inr ⟨c,a,rfl,by rw [← hR,stmts_bad],_,_,_,rfl⟩
 have HD:=hid hd
 have S:=hid S0
 have HST:=hid hst
 have HI:=hid IH
 have hlb:=S0.st.lt
 have hfew:=S0.env.few
 obtain ⟨i0,hinf,hzi0,hzi1,hzi2⟩:=info_parts infoSt
 clear S0 hst IH hR hd
 go_enter Try.func67,Try.ntmps67
 go_wp2
 go_loopw [5] (fun v0 wr => ∃ v σ' m,v = v0 ∧ A4 wr r4 rb g cap ws d p0 p1 p2 p3 σ' ∧ Fr (some rb) W wr ∧ 3 * σ'.len + 1 ≤ m ∧ m ≤ n ∧ (d ≤ 32 ∨ ∀ tt,σ' ≠ .ok tt) ∧ SRel W.heap.size ws R m d s.data.toList v wr σ') (fun _ wr => msR wr rb ws.length)
 case atStart => exact ⟨_,σ,n,rfl,S.out,Fr.refl _ _,hn,Nat.le_refl _,HD.out,HST.out⟩
 case round =>
  obtain ⟨v,σ',m,rfl,hS,hF,hm,hmn,hdj,hrel⟩:=hrel
  have S1:=hid hS
  have hzr:=Fr.size hF
  rcases hrel with ⟨acc,r,tt,rfl,hG,hRR,hlen⟩ | ⟨c,a,rfl,hRR,p,q,k,rfl⟩
  · obtain ⟨x,t',rfl⟩:=hS.st.2.1.ne
    have hf : (RS.ok (x :: t')).fin:=fun _ e => by cases e;exact hS.st.2.1
    cases hb : (RS.ok (x :: t')).is s.data.toList with
    | true =>
     have HB:=hid hb
     have hRe : R = (acc,.ok (x :: t')):=by (rw [hRR,stmts_end hb];simp)
     obtain ⟨p,k,rfl⟩:=hG.form
     have HG:=hid hG
     subst hRe
     clear hS hG hb hf hRR
     go_wp2_with (first
      | (go_at_call 23;(with_reducible refine (r4_ok S1 true rfl).mono ?_);rintro e1 w1 ⟨rfl,hb1⟩;have S2:=hid (S1.out.stay hb1))
      | (go_at_call 45;(with_reducible refine (r4_is S2 s true HB).mono ?_);rintro e2 w2 ⟨rfl,hb2⟩))
     go_ret
     exact ⟨⟨_,_,_,rfl,fun t ht => HG.out.ex.hi (((Hi.refl _ _).stay hb1).stay hb2)⟩,S2.out.stay hb2,(hF.stepB hb1).stepB hb2⟩
    | false =>
     obtain ⟨m',rfl⟩ : ∃ m',m = m' + 1:=⟨m - 1,by omega⟩
     have hm0 : 0 < m':=by (simp only [RS.len,List.length_cons] at hm;omega)
     obtain ⟨Q,hQ⟩ : ∃ Q,stmtF m' d (.ok (x :: t')) = Q:=⟨_,rfl⟩
     have hlt : Q.2.len < (RS.ok (x :: t')).len:=hQ ▸ ((read_le m').1 d x t' hf hm0).2
     rw [stmts_more hb,hQ] at hRR
     have H1:=hid (HI.out m' (by omega))
     have HQ:=hid hQ
     have HB:=hid hb
     have HG:=hid hG
     have HRR:=hid hRR
     have HLT : Hid (∀ j,v.ownBlock = some j → W.heap.size ≤ j ∧ j < wr.heap.size):=hid hG.2.1.lt
     have hL : (RS.ok (x :: t')).len = t'.length + 1:=rfl
     have hl1 : 3 * (t'.length + 1) ≤ m':=by omega
     have hl2 : 3 * Q.2.len + 1 ≤ m':=by omega
     have hla : acc.length ≤ 1000000:=by omega
     have HLN:=hid hlen
     have hdd : d ≤ 32:=hdj.elim id (fun h => absurd rfl (h _))
     clear hdj
     clear hS hG hb hf hRR hQ hlen hm
     go_wp2_with (first
      | (go_at_call 23;(with_reducible refine (r4_ok S1 true rfl).mono ?_);rintro e1 w1 ⟨rfl,hb1⟩;have S2:=hid (S1.out.stay hb1))
      | (go_at_call 45;(with_reducible refine (r4_is S2 s false HB).mono ?_);rintro e2 w2 ⟨rfl,hb2⟩;have S3:=hid (S2.out.stay hb2);have hz2 : wr.heap.size ≤ w2.heap.size:=Nat.le_trans hb1.size hb2.size)
      | (go_at_call 72;(with_reducible refine (H1.out.use S3 hl1 hdd Q HQ.out).mono ?_);rintro e5 w5 ⟨⟨sk,sa,str,ssc,snm,z1,y1,k1,z2,y2,k2,z3,y3,k3,z4,y4,k4,rfl,hx5⟩,hs5,hf5⟩;have hz5:=Fr.size hf5;have hG5:=((HG.out.stay hb1).stay hb2).fr hf5 hlb;have SB5:=SBlk.new (X:=w5) (k:=sk) (a:=sa) (tr:=str) (sc:=ssc) (nm:=snm) (vi:=.slice z1 y1 k1) (ve:=.slice z2 y2 k2) (vb:=.slice z3 y3 k3) (vl:=.slice z4 y4 k4) rfl;obtain ⟨sl,⟨sc0,sc1,sc2,sc3,sc4,sc5,sc6,sc7,sc8⟩,_⟩:=SB5.facts)
      | (at_builtin;refine wpList_append_lies _ rfl (.tmp 17) (.tmp 19) 60 rfl W.heap.size 141 i0 _ 9 136 Try.underlying60 hinf hzi0 hzi1 hzi2 rfl (by decide) v acc.length (stRow r) rfl (own_below hG5.2.1 (((Below.refl _ _).alloc (Nat.le_refl _) _).alloc (by simp) _)) ⟨_,0,none⟩ 1 1 [.int .i64 sk,.int .i64 sa,.bool str,.bool ssc,.string snm,.slice z1 y1 k1,.slice z2 y2 k2,.slice z3 y3 k3,.slice z4 y4 k4] rfl rfl (World.news_of_block (alloc2_new w5 _ _)) raw9_one (by decide) (by unfold maxLen;omega) (by omega) (by simp;omega) _ rfl ?_;intro g4 cap4 w4 hown4 hgrow4 hor4 hlt4))
     have hgr : ((w5.alloc (.cells #[.int .i64 sk,.int .i64 sa,.bool str,.bool ssc,.string snm,.slice z1 y1 k1,.slice z2 y2 k2,.slice z3 y3 k3,.slice z4 y4 k4] 141)).alloc (.cells #[.int .i64 sk,.int .i64 sa,.bool str,.bool ssc,.string snm,.slice z1 y1 k1,.slice z2 y2 k2,.slice z3 y3 k3,.slice z4 y4 k4] 141)).grownBy w4 v.ownBlock:=hgrow4
     have hor : v.ownBlock = some g4 ∨ g4 = ((w5.alloc (.cells #[.int .i64 sk,.int .i64 sa,.bool str,.bool ssc,.string snm,.slice z1 y1 k1,.slice z2 y2 k2,.slice z3 y3 k3,.slice z4 y4 k4] 141)).alloc (.cells #[.int .i64 sk,.int .i64 sa,.bool str,.bool ssc,.string snm,.slice z1 y1 k1,.slice z2 y2 k2,.slice z3 y3 k3,.slice z4 y4 k4] 141)).heap.size:=by (rcases hor4 with h | h;(exact .inl h);(right;simpa using h))
     obtain ⟨q4l,qbl,qgl⟩:=S.out.blk
     have hown : ∀ k,k < W.heap.size → some k ≠ v.ownBlock:=fun k hk e => by (have:=(HLT.out k e.symm).1;omega)
     have S9:=((hs5.alloc (.cells #[.int .i64 sk,.int .i64 sa,.bool str,.bool ssc,.string snm,.slice z1 y1 k1,.slice z2 y2 k2,.slice z3 y3 k3,.slice z4 y4 k4] 141)).alloc (.cells #[.int .i64 sk,.int .i64 sa,.bool str,.bool ssc,.string snm,.slice z1 y1 k1,.slice z2 y2 k2,.slice z3 y3 k3,.slice z4 y4 k4] 141)).grow hgr (hown _ q4l) (hown _ qbl) (hown _ qgl)
     have F5 : Fr (some rb) W w5:=((hF.stepB hb1).stepB hb2).step hf5
     have hrel : SRel W.heap.size ws R m' d s.data.toList (.slice (some ⟨g4,0,none⟩) (acc.length + 1) cap4) w4 Q.2:=by
      cases hq : Q.2 with
      | ok t2 =>
       obtain ⟨⟨rfl,rfl,rfl,rfl,rfl⟩,hx6⟩:=hx5 t2 hq
       have hb12 : Below w5.heap.size w5 _:=((Below.refl w5.heap.size w5).alloc (Nat.le_refl _) (.cells #[.int .i64 Q.1.k,.int .i64 Q.1.a,.bool Q.1.tr,.bool Q.1.sc,.string (bstr Q.1.nm),.slice z1 y1 k1,.slice z2 y2 k2,.slice z3 y3 k3,.slice z4 y4 k4] 141)).alloc (by simp) (.cells #[.int .i64 Q.1.k,.int .i64 Q.1.a,.bool Q.1.tr,.bool Q.1.sc,.string (bstr Q.1.nm),.slice z1 y1 k1,.slice z2 y2 k2,.slice z3 y3 k3,.slice z4 y4 k4] 141)
       refine .inl ⟨acc ++ [Q.1],r ++ [(Q.1,⟨.slice z1 y1 k1,.slice z2 y2 k2,.slice z3 y3 k3,.slice z4 y4 k4⟩)],t2,rfl,?_,?_,?_⟩
       · refine SGrows.more (hG5.stay hb12) ?_ hgr hor hown4
         refine hx6.kept fun b hb hl => ⟨hb12.block b hl,by omega,fun e => ?_⟩
         have:=(HLT.out b e).2
         omega
       · rw [HRR.out,hq]
         simp
       · have h1:=HLN.out
         rw [hq] at hlt
         simp only [RS.len,List.length_cons,List.length_append,List.length_nil] at h1 hlt ⊢
         omega
      | bad c a => exact .inr ⟨c,a,rfl,by rw [HRR.out,hq,stmts_bad],_,_,_,rfl⟩
     go_roundw
     case rel =>
      refine ⟨_,Q.2,m',rfl,S9,?_,hl2,by omega,.inl hdd,hrel⟩
      exact Fr.stepOwn (v:=v) ((F5.alloc _).alloc _) hgr (fun j e => (HLT.out j e).1)
     case measure =>
      rw [S9.st.ms,S1.out.st.ms]
      cases hq : Q.2 with
      | ok t2 => rw [hq] at hlt;simp only [RS.ms,RS.len,List.length_cons] at hlt ⊢;omega
      | bad c a => simp only [RS.ms];omega
  · have hbd : (RS.bad c a).good = false:=rfl
    clear hS
    go_wp2_with (go_at_call 23;(with_reducible refine (r4_ok S1 false rfl).mono ?_);rintro e1 w1 ⟨rfl,hb1⟩)
    go_ret
    refine ⟨⟨_,_,_,rfl,fun t ht => ?_⟩,?_,hF.stepB hb1⟩
    · rw [hRR] at ht
      cases ht
    · rw [hRR]
      exact S1.out.stay hb1
theorem all_st (r4 rb g : Nat) (ws : List Wd) : ∀ n,GStmt r4 rb g ws n ∧ GBlock r4 rb g ws n ∧ GStmts r4 rb g ws n:=by
 intro n
 induction n using Nat.strongRecOn with
 | ind n ih =>
  have h3 : GStmts r4 rb g ws n:=rsts_any fun m hm => (ih m hm).1
  cases n with
  | zero => exact ⟨fun W cap d p0 p1 p2 p3 x tt S hn => by omega,fun W cap d p0 p1 p2 p3 σ S hn => by omega,h3⟩
  | succ n => exact ⟨rst_step (ih n (Nat.lt_succ_self n)).2.1,rblk_step (ih n (Nat.lt_succ_self n)).2.2,h3⟩
theorem r4_limNo {r4 rb g cap : Nat} {ws : List Wd} {d : Int} {p0 p1 p2 p3 : Value} {W : World} {σ : RS} (S : Hid (A4 W r4 rb g cap ws d p0 p1 p2 p3 σ)) (n most : Int) (hn : decide (n ≥ most) = false) :
 Calls Try.prog 46 #[.pointer (some ⟨r4,0,none⟩),.int .i64 n,.int .i64 most] W fun e w' => e = .returned (.tuple #[]) ∧ A4 w' r4 rb g cap ws d p0 p1 p2 p3 σ ∧ Fr (some rb) W w':=by
 go_enter Try.func46,Try.ntmps46
 go_wp2
 go_end0
 exact ⟨rfl,S.out,Fr.refl _ _⟩
theorem r4_limOk {r4 rb g cap : Nat} {ws : List Wd} {d : Int} {p0 p1 p2 p3 : Value} {W : World} {x : Wd} {tt : List Wd} (S : Hid (A4 W r4 rb g cap ws d p0 p1 p2 p3 (.ok (x :: tt)))) (n most : Int) (hn : decide (n ≥ most) = true) :
 Calls Try.prog 46 #[.pointer (some ⟨r4,0,none⟩),.int .i64 n,.int .i64 most] W fun e w' => e = .returned (.tuple #[]) ∧ A4 w' r4 rb g cap ws d p0 p1 p2 p3 (.bad 2 x.a) ∧ Fr (some rb) W w':=by
 have hfd:=rfield_a
 go_enter Try.func46,Try.ntmps46
 go_wp2_with (first
  | (go_at_call 24;(with_reducible refine (r4_wordOk S).mono ?_);rintro e1 w1 ⟨rfl,hb1⟩)
  | (go_at_call 52;(with_reducible refine (r4_fail0 (hid (S.out.stay hb1)) 2 (by decide) x.a).mono ?_);rintro e4 w4 ⟨rfl,hs4,hf4⟩))
 go_end0
 exact ⟨rfl,hs4,by (with_reducible repeat first | exact Fr.refl _ _ | refine Fr.alloc ?_ _ | refine Fr.drewN ?_ _ | refine Fr.drew ?_ | (refine Fr.set ?_ ?_ _ _;rotate_left;first | exact .inl rfl | (right;simp;done) | (right;simp;omega) | (right;omega)) | refine Fr.step ?_ (by assumption) | refine Fr.stepB ?_ (by assumption))⟩
theorem r4_limBad {r4 rb g cap : Nat} {ws : List Wd} {d : Int} {p0 p1 p2 p3 : Value} {W : World} {c0 : Int} {b0 : Nat} (S : Hid (A4 W r4 rb g cap ws d p0 p1 p2 p3 (.bad c0 b0))) (n most : Int) (hn : decide (n ≥ most) = true) :
 Calls Try.prog 46 #[.pointer (some ⟨r4,0,none⟩),.int .i64 n,.int .i64 most] W fun e w' => e = .returned (.tuple #[]) ∧ A4 w' r4 rb g cap ws d p0 p1 p2 p3 (.bad c0 b0) ∧ Fr (some rb) W w':=by
 have hfd:=rfield_a
 go_enter Try.func46,Try.ntmps46
 go_wp2_with (first
  | (go_at_call 24;(with_reducible refine (r4_word S).mono ?_);rintro e1 w1 ⟨x,rfl,_,hb1⟩)
  | (go_at_call 52;(with_reducible refine (r4_failN (hid (S.out.stay hb1)) 2 x.a).mono ?_);rintro e4 w4 ⟨rfl,rfl⟩))
 go_end0
 exact ⟨rfl,S.out.stay hb1,by (with_reducible repeat first | exact Fr.refl _ _ | refine Fr.alloc ?_ _ | refine Fr.drewN ?_ _ | refine Fr.drew ?_ | (refine Fr.set ?_ ?_ _ _;rotate_left;first | exact .inl rfl | (right;simp;done) | (right;simp;omega) | (right;omega)) | refine Fr.step ?_ (by assumption) | refine Fr.stepB ?_ (by assumption))⟩
theorem r4_limit {r4 rb g cap : Nat} {ws : List Wd} {d : Int} {p0 p1 p2 p3 : Value} {W : World} {σ : RS} (S : Hid (A4 W r4 rb g cap ws d p0 p1 p2 p3 σ)) (n most : Nat) :
 Calls Try.prog 46 #[.pointer (some ⟨r4,0,none⟩),.int .i64 n,.int .i64 most] W fun e w' => e = .returned (.tuple #[]) ∧ A4 w' r4 rb g cap ws d p0 p1 p2 p3 (limF n most σ) ∧ Fr (some rb) W w':=by
 unfold limF
 by_cases h : most ≤ n
 · have hd : decide (((n : Nat) : Int) ≥ ((most : Nat) : Int)) = true:=by simp;omega
   rw [if_pos h]
   cases σ with
   | bad c b => exact r4_limBad S _ _ hd
   | ok ts =>
    obtain ⟨x,tt,rfl⟩:=S.out.st.fin.ne
    exact r4_limOk S _ _ hd
 · have hd : decide (((n : Nat) : Int) ≥ ((most : Nat) : Int)) = false:=by simp;omega
   rw [if_neg h]
   exact r4_limNo S _ _ hd
end Go.Proofs.Ytbmmjomcjlpnlaa
namespace Go.Proofs.Ytbmmjomcjlpnlaa
open Go Go.RowKit
def IsPl {α : Type} (ok : Nat → Prop) (T : TypeId) (n : Nat) (f : α → List Value) (W : World) (l : List α) (v : Value) : Prop :=
 (∃ p c,v = .slice p l.length c) ∧ (l ≠ [] → ∃ g cap cs fr,v = .slice (some ⟨g,0,none⟩) l.length cap ∧ ok g ∧ W.heap[g]? = some (.cells cs T fr) ∧ ∀ i a,l[i]? = some a → ∀ j u,(f a)[j]? = some u → cs[i * n + j]? = some u)
section
variable {α : Type} {ok ok' : Nat → Prop} {T : TypeId} {n : Nat} {f : α → List Value} {W X : World} {l : List α} {v : Value}
theorem IsPl.nil (p : Option Addr) (c : Nat) : IsPl ok T n f W [] (.slice p 0 c):=⟨⟨p,c,rfl⟩,fun h => absurd rfl h⟩
theorem IsPl.kept (h : IsPl ok T n f W l v) (hk : ∀ g,ok g → g < W.heap.size → X.heap[g]? = W.heap[g]? ∧ ok' g) : IsPl ok' T n f X l v:=by
 refine ⟨h.1,fun hn => ?_⟩
 obtain ⟨g,cap,cs,fr,h1,h2,h3,h4⟩:=h.2 hn
 have:=hk g h2 (Array.getElem?_eq_some_iff.1 h3).1
 exact ⟨g,cap,cs,fr,h1,this.2,this.1.trans h3,h4⟩
theorem plain_at (hf : ∀ a,(f a).length = n) : ∀ (l : List α) (i : Nat) (a : α) (j : Nat) (u : Value),l[i]? = some a → (f a)[j]? = some u → (l.flatMap f)[i * n + j]? = some u
 | [],i,a,j,u,h,_ => by simp at h
 | y :: r,0,a,j,u,h,hv => by
  simp at h
  subst h
  have hj : j < n:=hf y ▸ (List.getElem?_eq_some_iff.1 hv).1
  rw [List.flatMap_cons,List.getElem?_append_left (by rw [hf];omega),Nat.zero_mul,Nat.zero_add]
  exact hv
 | y :: r,i + 1,a,j,u,h,hv => by
  rw [List.flatMap_cons,List.getElem?_append_right (by rw [hf,Nat.succ_mul];omega)]
  have e : (i + 1) * n + j - (f y).length = i * n + j:=by (rw [hf,Nat.succ_mul];omega)
  rw [e]
  exact plain_at hf r i a j u (by simpa using h) hv
theorem IsPl.own {B : Nat} (hf : ∀ a,(f a).length = n) (h : W.ownsRow B T n v l.length (l.flatMap f)) : IsPl (fun g => B ≤ g) T n f W l v:=by
 rcases h.2 with ⟨rfl,hn⟩ | ⟨g,cap,cur,rfl,hB,hg,hnc,_,hcs,hx⟩
 · have : l = []:=List.eq_nil_of_length_eq_zero hn
   subst this
   exact .nil _ _
 · refine ⟨⟨_,_,rfl⟩,fun _ => ⟨g,cap,cur,(0,0),rfl,hB,hg,fun i a ha j u hu => ?_⟩⟩
   have hcell:=plain_at hf l i a j u ha hu
   rw [← hx,List.getElem?_take] at hcell
   split at hcell
   · simpa using hcell
   · cases hcell
end
def pmCells (p : Pm) : List Value:=[.string (bstr p.nm),.bool p.tr,.bool p.sc]
theorem infoPm : (Try.prog.info? 137).map (fun i => (i.zero,i.size,i.bytes)) = some (some (.agg #[.string ⟨#[]⟩,.bool false,.bool false]),3,24):=by kernel_rfl
def PBlk (X : World) (n : Nat) (s : ByteArray) (tr sc : Bool) : Prop:=X.heap[n]? = some (.cells #[.string s,.bool tr,.bool sc] 137 (0,0))
section
variable {X Y : World} {n : Nat} {s : ByteArray} {tr sc : Bool}
theorem PBlk.facts (h : PBlk X n s tr sc) : n < X.heap.size ∧ X.cell? ⟨n,0,none⟩ = some (.string s) ∧ X.cell? ⟨n,1,none⟩ = some (.bool tr) ∧ X.cell? ⟨n,2,none⟩ = some (.bool sc) ∧ X.frozen? ⟨n,0,none⟩ = false ∧ X.frozen? ⟨n,1,none⟩ = false ∧ X.frozen? ⟨n,2,none⟩ = false:=by
 refine ⟨(Array.getElem?_eq_some_iff.1 h).1,?_,?_,?_,frozen_of_row X n _ _ _ h,frozen_of_row X n _ _ _ h,frozen_of_row X n _ _ _ h⟩ <;> rw [cell_of_row _ _ _ _ _ _ h] <;> rfl
theorem PBlk.alloc (h : PBlk X n s tr sc) (o : Obj) : PBlk (X.alloc o) n s tr sc:=(Below.heap_alloc X o n (Array.getElem?_eq_some_iff.1 h).1).trans h
theorem PBlk.stay (h : PBlk X n s tr sc) (hf : Below X.heap.size X Y) : PBlk Y n s tr sc:=(hf.block n (Array.getElem?_eq_some_iff.1 h).1).trans h
theorem PBlk.fr {rb : Nat} (h : PBlk X n s tr sc) (hf : Fr (some rb) X Y) (hne : n ≠ rb) : PBlk Y n s tr sc:=(hf.block (Array.getElem?_eq_some_iff.1 h).1 (by simp;exact hne)).trans h
theorem PBlk.set0 (h : PBlk X n s tr sc) (v : ByteArray) : PBlk (X.setCell ⟨n,0,none⟩ (.string v)) n v tr sc:=heap_setCell_same X n 0 _ _ _ h
theorem PBlk.new (hn : n = X.heap.size) : PBlk (X.alloc (.cells #[.string s,.bool tr,.bool sc] 137)) n s tr sc:=hn ▸ heap_alloc_new X _
end
theorem raw3_one {s : ByteArray} {tr sc : Bool} : ∀ u ∈ ([.string s,.bool tr,.bool sc] : List Value),u.oneCell' = true:=by
 intro u hu
 simp at hu
 rcases hu with rfl | rfl | rfl <;> rfl
abbrev PRow (B : Nat) (W : World) (l : List Pm) (v : Value) : Prop:=W.ownsRow B 137 3 v l.length (l.flatMap pmCells)
end Go.Proofs.Ytbmmjomcjlpnlaa
