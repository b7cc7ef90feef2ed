/- Joined texts: Rgl: lemmas for the law; each says its own conditions. -/
import Derived.Test.YtbmmjomcjlpnlaaQ06
set_option linter.unusedSimpArgs false
set_option linter.unusedVariables false
set_option maxRecDepth 100000
set_option maxHeartbeats 8000000
open Go.Lib (hid)
namespace Go.Proofs.Ytbmmjomcjlpnlaa
open Go Go.RowKit
theorem bstr_nil : bstr [] = ⟨#[]⟩:=rfl
theorem r4_limit32 {r4 rb g cap : Nat} {ws : List Wd} {d : Int} {p0 p1 p2 p3 : Value} {W : World} {σ : RS} (S : Hid (A4 W r4 rb g cap ws d p0 p1 p2 p3 σ)) (n : Nat) :
 Calls Try.prog 46 #[.pointer (some ⟨r4,0,none⟩),.int .i64 n,.int .i64 32] W fun e w' => e = .returned (.tuple #[]) ∧ A4 w' r4 rb g cap ws d p0 p1 p2 p3 (limF n 32 σ) ∧ Fr (some rb) W w':=r4_limit S n 32
theorem rgl_00 {r4 rb g cap B k : Nat} {ws : List Wd} {d : Int} {p : Option Addr} {p1 p2 p3 : Value} {W : World} {σ τ1 τ2 τ3 τ4 τ5 : RS} {l : List Gl} {tr sc : Bool} {nm by_ : List UInt8} {a ba : Nat} {y z y2 : Wd} {r r2 : List Wd} (S : Hid (A4 W r4 rb g cap ws d (.slice p l.length k) p1 p2 p3 σ)) (G : Hid (W.ownsRow B 56 6 (.slice p l.length k) l.length (l.flatMap glCells))) (hB : r4 < B ∧ rb < B ∧ g < B ∧ B ≤ W.heap.size) (hl : l.length ≤ 1000000)
 (H1 : Hid (kindF (limF l.length 32 σ) = ((tr,sc),τ1))) (H2 : Hid (nameF τ1 = ((nm,a),τ2))) (h91 : Hid (τ2.is (⟨#[91]⟩ : ByteArray).data.toList = false)) (hby : Hid (τ2.is (⟨#[98,121]⟩ : ByteArray).data.toList = false)) (h59 : Hid (τ2.need (⟨#[59]⟩ : ByteArray).data.toList = τ5)) :
 Calls Try.prog 51 #[.pointer (some ⟨r4,0,none⟩)] W fun e w' => e = .returned (.tuple #[]) ∧ ∃ q,A4 w' r4 rb g cap ws d q p1 p2 p3 τ5 ∧ w'.ownsRow B 56 6 q (l.length + 1) ((l ++ [(⟨a,nm,tr,sc,0,[]⟩ : Gl)]).flatMap glCells) ∧ Fr3 r4 rb (Value.slice p l.length k).ownBlock W w':=by
 obtain ⟨q4l,qbl,qgl⟩:=S.out.blk
 have hBW:=hB.2.2.2
 have HLT : Hid (∀ j,(Value.slice p l.length k).ownBlock = some j → B ≤ j ∧ j < W.heap.size):=hid G.out.lt
 obtain ⟨i0,hinf,hzi0,hzi1,hzi2⟩:=info_parts infoGl
 obtain ⟨m0,m1,m2,m3,m4,m5⟩:=S.out.at4.cells
 go_enter Try.func51,Try.ntmps51
 go_upto_region 3 with (first
  | (go_at_call 46;(with_reducible refine (r4_limit32 S l.length).mono ?_);rintro e1 w1 ⟨rfl,hs1,hf1⟩)
  | (go_at_call 66;(with_reducible refine (r4_kind (hid hs1) H1.out).mono ?_);rintro e2 w2 ⟨rfl,hs2,hf2⟩;have hz2:=Fr.size (Fr.step hf1 hf2);have GB2:=GBlk.new (X:=w2) (a:=0) (nm:=⟨#[]⟩) (tr:=tr) (sc:=sc) (ln:=0) (yy:=⟨#[]⟩) rfl;have S2:=hid (hs2.alloc (.cells #[.int .i64 0,.string ⟨#[]⟩,.bool tr,.bool sc,.int .i64 0,.string ⟨#[]⟩] 56)))
  | (go_at_call 47;(with_reducible refine (r4_name S2 H2.out).mono ?_);rintro e3 w3 ⟨rfl,hs3,hf3⟩;have hz3:=Fr.size hf3;(try simp only [World.size_alloc] at hz3)))
 refine name_world ?_
 intro w4 hw4
 have GB4 : GBlk w4 w2.heap.size 0 ⟨#[]⟩ tr sc 0 ⟨#[]⟩:=by (rw [hw4];exact (GB2.fr hf3 (by omega)).alloc _)
 have TB4 : TBlk w4 w3.heap.size (bstr nm) a:=by (rw [hw4];exact TBlk.new rfl)
 have S4 : Hid (A4 w4 r4 rb g cap ws d (.slice p l.length k) p1 p2 p3 τ2):=hid (by (rw [hw4];exact hs3.alloc _))
 have F4 : Fr (some rb) W w4:=by (rw [hw4];exact (((hf1.step hf2).alloc _).step hf3).alloc _)
 have hz4 : w2.heap.size < w4.heap.size:=by (rw [hw4];simp;omega)
 obtain ⟨gl4,⟨gc0,gc1,gc2,gc3,gc4,gc5⟩,gf0,gf1,gf2,gf3,gf4,gf5⟩:=GB4.facts
 obtain ⟨tl4,tc0,tc1,tf0,tf1⟩:=TB4.facts
 clear hw4 m0 m1 m2 m3 m4 m5
 go_upto_region 5 with (fail)
 refine name_world ?_
 intro w5 hw5
 have GB5 : GBlk w5 w2.heap.size a (bstr nm) tr sc 0 ⟨#[]⟩:=by (rw [hw5];exact (GB4.set1 _).set0 _)
 have F5 : Fr (some rb) W w5:=by (rw [hw5];exact (F4.set (.inr (by omega)) _ _).set (.inr (by omega)) _ _)
 have S5 : Hid (A4 w5 r4 rb g cap ws d (.slice p l.length k) p1 p2 p3 τ2):=hid (by (rw [hw5];exact (S4.out.setO (by omega) (by omega) (by omega) _ _).setO (by omega) (by omega) (by omega) _ _))
 clear hw5 gc0 gc1 gc2 gc3 gc4 gc5 gf0 gf1 gf2 gf3 gf4 gf5 tc0 tc1 tf0 tf1 tl4 gl4 GB4 TB4 S4 F4 hs1 hs2 hs3 hf1 hf2 hf3 GB2 S2
 go_upto_region 16 with (go_at_call 45;(with_reducible refine (r4_is S5 _ false h91).mono ?_);rintro e6 w6 ⟨rfl,hb6⟩;have S6:=hid (S5.out.stay hb6))
 refine name_world ?_
 intro w20 hw20
 have S20 : Hid (A4 w20 r4 rb g cap ws d (.slice p l.length k) p1 p2 p3 τ2):=hid (by (rw [hw20];exact S6.out))
 have GB20 : GBlk w20 w2.heap.size a (bstr nm) tr sc 0 ⟨#[]⟩:=by (rw [hw20];exact GB5.stay hb6)
 have F20 : Fr (some rb) W w20:=by (rw [hw20];exact F5.stepB hb6)
 clear hw20
 go_upto_region 20 with (go_at_call 45;(with_reducible refine (r4_is S20 _ false hby).mono ?_);rintro e21 w21 ⟨rfl,hb21⟩;have S21:=hid (S20.out.stay hb21))
 refine name_world ?_
 intro w30 hw30
 have S30 : Hid (A4 w30 r4 rb g cap ws d (.slice p l.length k) p1 p2 p3 τ2):=hid (by (rw [hw30];exact S21.out))
 have GB30 : GBlk w30 w2.heap.size a (bstr nm) tr sc 0 ⟨#[]⟩:=by (rw [hw30];exact GB20.stay hb21)
 have F30 : Fr (some rb) W w30:=by (rw [hw30];exact F20.stepB hb21)
 clear hw30
 go_upto_region 21 with (go_at_call 48;(with_reducible refine (r4_need S30 _ _ h59).mono ?_);rintro e8 w8 ⟨rfl,hs8,hf8⟩)
 have GB8:=GB30.fr hf8 (by omega)
 have F8 : Fr (some rb) W w8:=F30.step hf8
 have G8:=own_fr G.out F8 hB.2.1
 have hz8:=Fr.size F8
 obtain ⟨gl8,⟨gc0,gc1,gc2,gc3,gc4,gc5⟩,_⟩:=GB8.facts
 obtain ⟨m0,m1,m2,m3,m4,m5⟩:=hs8.at4.cells
 have ml:=hs8.at4.lt
 have mf:=hs8.at4.frozen 2
 have hown : ∀ k',k' < B → some k' ≠ (Value.slice p l.length k).ownBlock:=fun k' hk e => by (have:=(HLT.out k' e.symm).1;omega)
 go_region_law (refine step_append_lies _ (by rfl) _ _ _ (by rfl) B 56 i0 _ 6 56 Try.underlying24 hinf hzi0 hzi1 hzi2 rfl (by decide) (.slice p l.length k) l.length (l.flatMap glCells) (by rfl) (own_below G8 (by (with_reducible repeat first | exact Below.refl _ _ | refine Below.alloc ?_ (by first | omega | (simp;omega)) _ | refine Below.drewN ?_ _ | refine Below.drew ?_ | refine Below.setCell ?_ (by first | omega | (simp;omega)) _ | refine Below.trans ?_ (by assumption)))) ⟨_,0,none⟩ 1 1 [.int .i64 a,.string (bstr nm),.bool tr,.bool sc,.int .i64 0,.string ⟨#[]⟩] (by rfl) (by rfl) (World.news_of_block (heap_alloc_new _ _)) raw6_one (by decide) (by unfold maxLen;omega) (by omega) (by simp;omega) _ rfl ?_;intro gg cap6 w9 hown9 hgrow9 hor9 hlt9;have hgr9 : World.grownBy _ w9 (Value.slice p l.length k).ownBlock:=hgrow9;have S9:=hid (((hs8.drew).alloc (.cells #[.int .i64 a,.string (bstr nm),.bool tr,.bool sc,.int .i64 0,.string ⟨#[]⟩] 56)).grow hgr9 (hown _ hB.1) (hown _ hB.2.1) (hown _ hB.2.2.1));obtain ⟨n0,n1,n2,n3,n4,n5⟩:=S9.out.at4.cells;have nl:=S9.out.at4.lt;have nf:=S9.out.at4.frozen 2)
 all_goals go_end0
 all_goals
  refine ⟨rfl,_,S9.out.set2 _,?_,?_⟩
  · have h:=own_fr hown9 ((Fr.refl (some r4) _).set (.inl rfl) 2 (.slice (some ⟨gg,0,none⟩) (l.length + 1) cap6)) hB.1
    simpa [glCells,bstr_nil] using h
  · exact Fr3.mk_ ((F8.drew).alloc (.cells #[.int .i64 a,.string (bstr nm),.bool tr,.bool sc,.int .i64 0,.string ⟨#[]⟩] 56)) hgr9 _ _
theorem rgl_01 {r4 rb g cap B k : Nat} {ws : List Wd} {d : Int} {p : Option Addr} {p1 p2 p3 : Value} {W : World} {σ τ1 τ2 τ3 τ4 τ5 : RS} {l : List Gl} {tr sc : Bool} {nm by_ : List UInt8} {a ba : Nat} {y z y2 : Wd} {r r2 : List Wd} (S : Hid (A4 W r4 rb g cap ws d (.slice p l.length k) p1 p2 p3 σ)) (G : Hid (W.ownsRow B 56 6 (.slice p l.length k) l.length (l.flatMap glCells))) (hB : r4 < B ∧ rb < B ∧ g < B ∧ B ≤ W.heap.size) (hl : l.length ≤ 1000000)
 (H1 : Hid (kindF (limF l.length 32 σ) = ((tr,sc),τ1))) (H2 : Hid (nameF τ1 = ((nm,a),τ2))) (h91 : Hid (τ2.is (⟨#[91]⟩ : ByteArray).data.toList = false)) (hE : τ2 = .ok (y2 :: r2)) (hby : Hid ((RS.ok (y2 :: r2)).is (⟨#[98,121]⟩ : ByteArray).data.toList = true)) (H4 : Hid (nameF (.ok r2) = ((by_,ba),τ4))) (h59 : Hid (τ4.need (⟨#[59]⟩ : ByteArray).data.toList = τ5)) :
 Calls Try.prog 51 #[.pointer (some ⟨r4,0,none⟩)] W fun e w' => e = .returned (.tuple #[]) ∧ ∃ q,A4 w' r4 rb g cap ws d q p1 p2 p3 τ5 ∧ w'.ownsRow B 56 6 q (l.length + 1) ((l ++ [(⟨a,nm,tr,sc,0,by_⟩ : Gl)]).flatMap glCells) ∧ Fr3 r4 rb (Value.slice p l.length k).ownBlock W w':=by
 obtain ⟨q4l,qbl,qgl⟩:=S.out.blk
 have hBW:=hB.2.2.2
 have HLT : Hid (∀ j,(Value.slice p l.length k).ownBlock = some j → B ≤ j ∧ j < W.heap.size):=hid G.out.lt
 obtain ⟨i0,hinf,hzi0,hzi1,hzi2⟩:=info_parts infoGl
 obtain ⟨m0,m1,m2,m3,m4,m5⟩:=S.out.at4.cells
 go_enter Try.func51,Try.ntmps51
 go_upto_region 3 with (first
  | (go_at_call 46;(with_reducible refine (r4_limit32 S l.length).mono ?_);rintro e1 w1 ⟨rfl,hs1,hf1⟩)
  | (go_at_call 66;(with_reducible refine (r4_kind (hid hs1) H1.out).mono ?_);rintro e2 w2 ⟨rfl,hs2,hf2⟩;have hz2:=Fr.size (Fr.step hf1 hf2);have GB2:=GBlk.new (X:=w2) (a:=0) (nm:=⟨#[]⟩) (tr:=tr) (sc:=sc) (ln:=0) (yy:=⟨#[]⟩) rfl;have S2:=hid (hs2.alloc (.cells #[.int .i64 0,.string ⟨#[]⟩,.bool tr,.bool sc,.int .i64 0,.string ⟨#[]⟩] 56)))
  | (go_at_call 47;(with_reducible refine (r4_name S2 H2.out).mono ?_);rintro e3 w3 ⟨rfl,hs3,hf3⟩;have hz3:=Fr.size hf3;(try simp only [World.size_alloc] at hz3)))
 refine name_world ?_
 intro w4 hw4
 have GB4 : GBlk w4 w2.heap.size 0 ⟨#[]⟩ tr sc 0 ⟨#[]⟩:=by (rw [hw4];exact (GB2.fr hf3 (by omega)).alloc _)
 have TB4 : TBlk w4 w3.heap.size (bstr nm) a:=by (rw [hw4];exact TBlk.new rfl)
 have S4 : Hid (A4 w4 r4 rb g cap ws d (.slice p l.length k) p1 p2 p3 τ2):=hid (by (rw [hw4];exact hs3.alloc _))
 have F4 : Fr (some rb) W w4:=by (rw [hw4];exact (((hf1.step hf2).alloc _).step hf3).alloc _)
 have hz4 : w2.heap.size < w4.heap.size:=by (rw [hw4];simp;omega)
 obtain ⟨gl4,⟨gc0,gc1,gc2,gc3,gc4,gc5⟩,gf0,gf1,gf2,gf3,gf4,gf5⟩:=GB4.facts
 obtain ⟨tl4,tc0,tc1,tf0,tf1⟩:=TB4.facts
 clear hw4 m0 m1 m2 m3 m4 m5
 go_upto_region 5 with (fail)
 refine name_world ?_
 intro w5 hw5
 have GB5 : GBlk w5 w2.heap.size a (bstr nm) tr sc 0 ⟨#[]⟩:=by (rw [hw5];exact (GB4.set1 _).set0 _)
 have F5 : Fr (some rb) W w5:=by (rw [hw5];exact (F4.set (.inr (by omega)) _ _).set (.inr (by omega)) _ _)
 have S5 : Hid (A4 w5 r4 rb g cap ws d (.slice p l.length k) p1 p2 p3 τ2):=hid (by (rw [hw5];exact (S4.out.setO (by omega) (by omega) (by omega) _ _).setO (by omega) (by omega) (by omega) _ _))
 clear hw5 gc0 gc1 gc2 gc3 gc4 gc5 gf0 gf1 gf2 gf3 gf4 gf5 tc0 tc1 tf0 tf1 tl4 gl4 GB4 TB4 S4 F4 hs1 hs2 hs3 hf1 hf2 hf3 GB2 S2
 go_upto_region 16 with (go_at_call 45;(with_reducible refine (r4_is S5 _ false h91).mono ?_);rintro e6 w6 ⟨rfl,hb6⟩;have S6:=hid (S5.out.stay hb6))
 refine name_world ?_
 intro w20 hw20
 have S20 : Hid (A4 w20 r4 rb g cap ws d (.slice p l.length k) p1 p2 p3 τ2):=hid (by (rw [hw20];exact S6.out))
 have GB20 : GBlk w20 w2.heap.size a (bstr nm) tr sc 0 ⟨#[]⟩:=by (rw [hw20];exact GB5.stay hb6)
 have F20 : Fr (some rb) W w20:=by (rw [hw20];exact F5.stepB hb6)
 clear hw20
 rw [hE] at S20
 go_upto_region 17 with (go_at_call 45;(with_reducible refine (r4_is S20 _ true hby).mono ?_);rintro e21 w21 ⟨rfl,hb21⟩;have S21:=hid (S20.out.stay hb21))
 have GB21:=GB20.stay hb21
 have F21:=F20.stepB hb21
 have hy22:=hby
 obtain ⟨i22,a22,R22,h22,_,_,_⟩:=S21.out.st.ok_cells S21.out.env
 obtain ⟨m0,_,_,_,_,_⟩:=S21.out.at4.cells
 obtain ⟨q0,q1,q2,q3,q4⟩:=R22.rd.cells
 have hl422:=S21.out.at4.lt
 have hlr22:=R22.rd.lt
 have hfr22:=R22.rd.frozen 1
 go_upto_region 18 with (fail)
 refine name_world ?_
 intro w22 hw22
 have F9 : Fr (some rb) w21 (w21.setCell ⟨rb,1,none⟩ (.int .i64 ((i22 : Int) + 1))):=(Fr.refl _ _).set (.inl rfl) _ _
 have S22 : Hid (A4 w22 r4 rb g cap ws d (.slice p l.length k) p1 p2 p3 (.ok r2)):=hid (by (rw [hw22];exact S21.out.fr F9 (st_adv S21.out.st R22 (RS.is_ne3 hy22.out) h22)))
 have GB22 : GBlk w22 w2.heap.size a (bstr nm) tr sc 0 ⟨#[]⟩:=by (rw [hw22];exact GB21.setO (by omega) _ _)
 have F22 : Fr (some rb) W w22:=by (rw [hw22];exact F21.step F9)
 clear hw22 m0 q0 q1 q2 q3 q4 R22 h22 F9 hl422 hlr22 hfr22
 have hz22:=Fr.size F22
 go_upto_region 19 with (go_at_call 47;(with_reducible refine (r4_name S22 H4.out).mono ?_);rintro e23 w23 ⟨rfl,hs23,hf23⟩;have hz23:=Fr.size hf23;have hz24:=Fr.size (F22.step hf23))
 have TB23:=TBlk.new (X:=w23) (s:=bstr by_) (a:=ba) rfl
 have GB23:=(GB22.fr hf23 (by omega)).alloc (.cells #[.string (bstr by_),.int .i64 ba] 125)
 have F23:=(F22.step hf23).alloc (.cells #[.string (bstr by_),.int .i64 ba] 125)
 obtain ⟨tl4,tc0,tc1,tf0,tf1⟩:=TB23.facts
 obtain ⟨gl,⟨gc0,gc1,gc2,gc3,gc4,gc5⟩,gf0,gf1,gf2,gf3,gf4,gf5⟩:=GB23.facts
 go_upto_region 20 with (fail)
 refine name_world ?_
 intro w30 hw30
 have S30 : Hid (A4 w30 r4 rb g cap ws d (.slice p l.length k) p1 p2 p3 τ4):=hid (by (rw [hw30];exact (hs23.alloc _).setO (by omega) (by omega) (by omega) _ _))
 have GB30 : GBlk w30 w2.heap.size a (bstr nm) tr sc 0 (bstr by_):=by (rw [hw30];exact GB23.set5 _)
 have F30 : Fr (some rb) W w30:=by (rw [hw30];exact F23.set (.inr (by omega)) _ _)
 clear hw30
 go_upto_region 21 with (go_at_call 48;(with_reducible refine (r4_need S30 _ _ h59).mono ?_);rintro e8 w8 ⟨rfl,hs8,hf8⟩)
 have GB8:=GB30.fr hf8 (by omega)
 have F8 : Fr (some rb) W w8:=F30.step hf8
 have G8:=own_fr G.out F8 hB.2.1
 have hz8:=Fr.size F8
 obtain ⟨gl8,⟨gc0,gc1,gc2,gc3,gc4,gc5⟩,_⟩:=GB8.facts
 obtain ⟨m0,m1,m2,m3,m4,m5⟩:=hs8.at4.cells
 have ml:=hs8.at4.lt
 have mf:=hs8.at4.frozen 2
 have hown : ∀ k',k' < B → some k' ≠ (Value.slice p l.length k).ownBlock:=fun k' hk e => by (have:=(HLT.out k' e.symm).1;omega)
 go_region_law (refine step_append_lies _ (by rfl) _ _ _ (by rfl) B 56 i0 _ 6 56 Try.underlying24 hinf hzi0 hzi1 hzi2 rfl (by decide) (.slice p l.length k) l.length (l.flatMap glCells) (by rfl) (own_below G8 (by (with_reducible repeat first | exact Below.refl _ _ | refine Below.alloc ?_ (by first | omega | (simp;omega)) _ | refine Below.drewN ?_ _ | refine Below.drew ?_ | refine Below.setCell ?_ (by first | omega | (simp;omega)) _ | refine Below.trans ?_ (by assumption)))) ⟨_,0,none⟩ 1 1 [.int .i64 a,.string (bstr nm),.bool tr,.bool sc,.int .i64 0,.string (bstr by_)] (by rfl) (by rfl) (World.news_of_block (heap_alloc_new _ _)) raw6_one (by decide) (by unfold maxLen;omega) (by omega) (by simp;omega) _ rfl ?_;intro gg cap6 w9 hown9 hgrow9 hor9 hlt9;have hgr9 : World.grownBy _ w9 (Value.slice p l.length k).ownBlock:=hgrow9;have S9:=hid (((hs8.drew).alloc (.cells #[.int .i64 a,.string (bstr nm),.bool tr,.bool sc,.int .i64 0,.string (bstr by_)] 56)).grow hgr9 (hown _ hB.1) (hown _ hB.2.1) (hown _ hB.2.2.1));obtain ⟨n0,n1,n2,n3,n4,n5⟩:=S9.out.at4.cells;have nl:=S9.out.at4.lt;have nf:=S9.out.at4.frozen 2)
 all_goals go_end0
 all_goals
  refine ⟨rfl,_,S9.out.set2 _,?_,?_⟩
  · have h:=own_fr hown9 ((Fr.refl (some r4) _).set (.inl rfl) 2 (.slice (some ⟨gg,0,none⟩) (l.length + 1) cap6)) hB.1
    simpa [glCells,bstr_nil] using h
  · exact Fr3.mk_ ((F8.drew).alloc (.cells #[.int .i64 a,.string (bstr nm),.bool tr,.bool sc,.int .i64 0,.string (bstr by_)] 56)) hgr9 _ _
theorem rgl_10 {r4 rb g cap B k : Nat} {ws : List Wd} {d : Int} {p : Option Addr} {p1 p2 p3 : Value} {W : World} {σ τ1 τ2 τ3 τ4 τ5 : RS} {l : List Gl} {tr sc : Bool} {nm by_ : List UInt8} {a ba : Nat} {y z y2 : Wd} {r r2 : List Wd} (S : Hid (A4 W r4 rb g cap ws d (.slice p l.length k) p1 p2 p3 σ)) (G : Hid (W.ownsRow B 56 6 (.slice p l.length k) l.length (l.flatMap glCells))) (hB : r4 < B ∧ rb < B ∧ g < B ∧ B ≤ W.heap.size) (hl : l.length ≤ 1000000)
 (H1 : Hid (kindF (limF l.length 32 σ) = ((tr,sc),τ1))) (H2 : Hid (nameF τ1 = ((nm,a),(.ok (y :: z :: r))))) (h91 : Hid ((RS.ok (y :: z :: r)).is (⟨#[91]⟩ : ByteArray).data.toList = true)) (hk : (z.k != 1) = true) (h93 : Hid ((RS.bad 11 z.a).need (⟨#[93]⟩ : ByteArray).data.toList = τ3)) (hby : Hid (τ3.is (⟨#[98,121]⟩ : ByteArray).data.toList = false)) (h59 : Hid (τ3.need (⟨#[59]⟩ : ByteArray).data.toList = τ5)) :
 Calls Try.prog 51 #[.pointer (some ⟨r4,0,none⟩)] W fun e w' => e = .returned (.tuple #[]) ∧ ∃ q,A4 w' r4 rb g cap ws d q p1 p2 p3 τ5 ∧ w'.ownsRow B 56 6 q (l.length + 1) ((l ++ [(⟨a,nm,tr,sc,0,[]⟩ : Gl)]).flatMap glCells) ∧ Fr3 r4 rb (Value.slice p l.length k).ownBlock W w':=by
 obtain ⟨q4l,qbl,qgl⟩:=S.out.blk
 have hBW:=hB.2.2.2
 have HLT : Hid (∀ j,(Value.slice p l.length k).ownBlock = some j → B ≤ j ∧ j < W.heap.size):=hid G.out.lt
 obtain ⟨i0,hinf,hzi0,hzi1,hzi2⟩:=info_parts infoGl
 obtain ⟨m0,m1,m2,m3,m4,m5⟩:=S.out.at4.cells
 go_enter Try.func51,Try.ntmps51
 go_upto_region 3 with (first
  | (go_at_call 46;(with_reducible refine (r4_limit32 S l.length).mono ?_);rintro e1 w1 ⟨rfl,hs1,hf1⟩)
  | (go_at_call 66;(with_reducible refine (r4_kind (hid hs1) H1.out).mono ?_);rintro e2 w2 ⟨rfl,hs2,hf2⟩;have hz2:=Fr.size (Fr.step hf1 hf2);have GB2:=GBlk.new (X:=w2) (a:=0) (nm:=⟨#[]⟩) (tr:=tr) (sc:=sc) (ln:=0) (yy:=⟨#[]⟩) rfl;have S2:=hid (hs2.alloc (.cells #[.int .i64 0,.string ⟨#[]⟩,.bool tr,.bool sc,.int .i64 0,.string ⟨#[]⟩] 56)))
  | (go_at_call 47;(with_reducible refine (r4_name S2 H2.out).mono ?_);rintro e3 w3 ⟨rfl,hs3,hf3⟩;have hz3:=Fr.size hf3;(try simp only [World.size_alloc] at hz3)))
 refine name_world ?_
 intro w4 hw4
 have GB4 : GBlk w4 w2.heap.size 0 ⟨#[]⟩ tr sc 0 ⟨#[]⟩:=by (rw [hw4];exact (GB2.fr hf3 (by omega)).alloc _)
 have TB4 : TBlk w4 w3.heap.size (bstr nm) a:=by (rw [hw4];exact TBlk.new rfl)
 have S4 : Hid (A4 w4 r4 rb g cap ws d (.slice p l.length k) p1 p2 p3 (.ok (y :: z :: r))):=hid (by (rw [hw4];exact hs3.alloc _))
 have F4 : Fr (some rb) W w4:=by (rw [hw4];exact (((hf1.step hf2).alloc _).step hf3).alloc _)
 have hz4 : w2.heap.size < w4.heap.size:=by (rw [hw4];simp;omega)
 obtain ⟨gl4,⟨gc0,gc1,gc2,gc3,gc4,gc5⟩,gf0,gf1,gf2,gf3,gf4,gf5⟩:=GB4.facts
 obtain ⟨tl4,tc0,tc1,tf0,tf1⟩:=TB4.facts
 clear hw4 m0 m1 m2 m3 m4 m5
 go_upto_region 5 with (fail)
 refine name_world ?_
 intro w5 hw5
 have GB5 : GBlk w5 w2.heap.size a (bstr nm) tr sc 0 ⟨#[]⟩:=by (rw [hw5];exact (GB4.set1 _).set0 _)
 have F5 : Fr (some rb) W w5:=by (rw [hw5];exact (F4.set (.inr (by omega)) _ _).set (.inr (by omega)) _ _)
 have S5 : Hid (A4 w5 r4 rb g cap ws d (.slice p l.length k) p1 p2 p3 (.ok (y :: z :: r))):=hid (by (rw [hw5];exact (S4.out.setO (by omega) (by omega) (by omega) _ _).setO (by omega) (by omega) (by omega) _ _))
 clear hw5 gc0 gc1 gc2 gc3 gc4 gc5 gf0 gf1 gf2 gf3 gf4 gf5 tc0 tc1 tf0 tf1 tl4 gl4 GB4 TB4 S4 F4 hs1 hs2 hs3 hf1 hf2 hf3 GB2 S2
 go_upto_region 6 with (go_at_call 45;(with_reducible refine (r4_is S5 _ true h91).mono ?_);rintro e6 w6 ⟨rfl,hb6⟩;have S6:=hid (S5.out.stay hb6))
 have GB6:=GB5.stay hb6
 have F6:=F5.stepB hb6
 have hy7:=h91
 obtain ⟨i7,a7,R7,h7,_,_,_⟩:=S6.out.st.ok_cells S6.out.env
 obtain ⟨m0,_,_,_,_,_⟩:=S6.out.at4.cells
 obtain ⟨q0,q1,q2,q3,q4⟩:=R7.rd.cells
 have hl47:=S6.out.at4.lt
 have hlr7:=R7.rd.lt
 have hfr7:=R7.rd.frozen 1
 go_upto_region 7 with (fail)
 refine name_world ?_
 intro w7 hw7
 have F9 : Fr (some rb) w6 (w6.setCell ⟨rb,1,none⟩ (.int .i64 ((i7 : Int) + 1))):=(Fr.refl _ _).set (.inl rfl) _ _
 have S7 : Hid (A4 w7 r4 rb g cap ws d (.slice p l.length k) p1 p2 p3 (.ok (z :: r))):=hid (by (rw [hw7];exact S6.out.fr F9 (st_adv S6.out.st R7 (RS.is_ne3 hy7.out) h7)))
 have GB7 : GBlk w7 w2.heap.size a (bstr nm) tr sc 0 ⟨#[]⟩:=by (rw [hw7];exact GB6.setO (by omega) _ _)
 have F7 : Fr (some rb) W w7:=by (rw [hw7];exact F6.step F9)
 clear hw7 m0 q0 q1 q2 q3 q4 R7 h7 F9 hl47 hlr7 hfr7
 go_upto_region 16 with (first
  | (go_at_call 24;(with_reducible refine (r4_wordOk S7).mono ?_);rintro e8 w8 ⟨rfl,hb8⟩;have S8:=hid ((S7.out.stay hb8).alloc (.cells #[.int .i64 z.k,.string (bstr z.t),.int .i64 z.n,.int .i64 z.a] 82));have WB8:=WBlk.new (X:=w8) (k:=z.k) (t:=z.t) (v:=z.n) (a:=z.a) rfl;have GB8:=(GB7.stay hb8).alloc (.cells #[.int .i64 z.k,.string (bstr z.t),.int .i64 z.n,.int .i64 z.a] 82);have F8:=(F7.stepB hb8).alloc (.cells #[.int .i64 z.k,.string (bstr z.t),.int .i64 z.n,.int .i64 z.a] 82);obtain ⟨wl8,wy0,wy1,wy2,wy3⟩:=WB8.facts)
  | (go_at_call 52;(with_reducible refine (r4_fail0 S8 11 (by decide) z.a).mono ?_);rintro e9 w9 ⟨rfl,hs9,hf9⟩;have S9:=hid hs9)
  | (go_at_call 23;(with_reducible refine (r4_ok S9 false rfl).mono ?_);rintro e10 w10 ⟨rfl,hb10⟩;have S10:=hid (S9.out.stay hb10))
  | (go_at_call 48;(with_reducible refine (r4_need S10 _ _ h93).mono ?_);rintro e11 w11 ⟨rfl,hs11,hf11⟩))
 refine name_world ?_
 intro w20 hw20
 have S20 : Hid (A4 w20 r4 rb g cap ws d (.slice p l.length k) p1 p2 p3 τ3):=hid (by (rw [hw20];exact hs11))
 have GB20 : GBlk w20 w2.heap.size a (bstr nm) tr sc 0 ⟨#[]⟩:=by (rw [hw20];exact ((GB8.fr hf9 (by omega)).stay hb10).fr hf11 (by omega))
 have F20 : Fr (some rb) W w20:=by (rw [hw20];exact ((F8.step hf9).stepB hb10).step hf11)
 clear hw20
 go_upto_region 20 with (go_at_call 45;(with_reducible refine (r4_is S20 _ false hby).mono ?_);rintro e21 w21 ⟨rfl,hb21⟩;have S21:=hid (S20.out.stay hb21))
 refine name_world ?_
 intro w30 hw30
 have S30 : Hid (A4 w30 r4 rb g cap ws d (.slice p l.length k) p1 p2 p3 τ3):=hid (by (rw [hw30];exact S21.out))
 have GB30 : GBlk w30 w2.heap.size a (bstr nm) tr sc 0 ⟨#[]⟩:=by (rw [hw30];exact GB20.stay hb21)
 have F30 : Fr (some rb) W w30:=by (rw [hw30];exact F20.stepB hb21)
 clear hw30
 go_upto_region 21 with (go_at_call 48;(with_reducible refine (r4_need S30 _ _ h59).mono ?_);rintro e8 w8 ⟨rfl,hs8,hf8⟩)
 have GB8:=GB30.fr hf8 (by omega)
 have F8 : Fr (some rb) W w8:=F30.step hf8
 have G8:=own_fr G.out F8 hB.2.1
 have hz8:=Fr.size F8
 obtain ⟨gl8,⟨gc0,gc1,gc2,gc3,gc4,gc5⟩,_⟩:=GB8.facts
 obtain ⟨m0,m1,m2,m3,m4,m5⟩:=hs8.at4.cells
 have ml:=hs8.at4.lt
 have mf:=hs8.at4.frozen 2
 have hown : ∀ k',k' < B → some k' ≠ (Value.slice p l.length k).ownBlock:=fun k' hk e => by (have:=(HLT.out k' e.symm).1;omega)
 go_region_law (refine step_append_lies _ (by rfl) _ _ _ (by rfl) B 56 i0 _ 6 56 Try.underlying24 hinf hzi0 hzi1 hzi2 rfl (by decide) (.slice p l.length k) l.length (l.flatMap glCells) (by rfl) (own_below G8 (by (with_reducible repeat first | exact Below.refl _ _ | refine Below.alloc ?_ (by first | omega | (simp;omega)) _ | refine Below.drewN ?_ _ | refine Below.drew ?_ | refine Below.setCell ?_ (by first | omega | (simp;omega)) _ | refine Below.trans ?_ (by assumption)))) ⟨_,0,none⟩ 1 1 [.int .i64 a,.string (bstr nm),.bool tr,.bool sc,.int .i64 0,.string ⟨#[]⟩] (by rfl) (by rfl) (World.news_of_block (heap_alloc_new _ _)) raw6_one (by decide) (by unfold maxLen;omega) (by omega) (by simp;omega) _ rfl ?_;intro gg cap6 w9 hown9 hgrow9 hor9 hlt9;have hgr9 : World.grownBy _ w9 (Value.slice p l.length k).ownBlock:=hgrow9;have S9:=hid (((hs8.drew).alloc (.cells #[.int .i64 a,.string (bstr nm),.bool tr,.bool sc,.int .i64 0,.string ⟨#[]⟩] 56)).grow hgr9 (hown _ hB.1) (hown _ hB.2.1) (hown _ hB.2.2.1));obtain ⟨n0,n1,n2,n3,n4,n5⟩:=S9.out.at4.cells;have nl:=S9.out.at4.lt;have nf:=S9.out.at4.frozen 2)
 all_goals go_end0
 all_goals
  refine ⟨rfl,_,S9.out.set2 _,?_,?_⟩
  · have h:=own_fr hown9 ((Fr.refl (some r4) _).set (.inl rfl) 2 (.slice (some ⟨gg,0,none⟩) (l.length + 1) cap6)) hB.1
    simpa [glCells,bstr_nil] using h
  · exact Fr3.mk_ ((F8.drew).alloc (.cells #[.int .i64 a,.string (bstr nm),.bool tr,.bool sc,.int .i64 0,.string ⟨#[]⟩] 56)) hgr9 _ _
theorem rgl_11 {r4 rb g cap B k : Nat} {ws : List Wd} {d : Int} {p : Option Addr} {p1 p2 p3 : Value} {W : World} {σ τ1 τ2 τ3 τ4 τ5 : RS} {l : List Gl} {tr sc : Bool} {nm by_ : List UInt8} {a ba : Nat} {y z y2 : Wd} {r r2 : List Wd} (S : Hid (A4 W r4 rb g cap ws d (.slice p l.length k) p1 p2 p3 σ)) (G : Hid (W.ownsRow B 56 6 (.slice p l.length k) l.length (l.flatMap glCells))) (hB : r4 < B ∧ rb < B ∧ g < B ∧ B ≤ W.heap.size) (hl : l.length ≤ 1000000)
 (H1 : Hid (kindF (limF l.length 32 σ) = ((tr,sc),τ1))) (H2 : Hid (nameF τ1 = ((nm,a),(.ok (y :: z :: r))))) (h91 : Hid ((RS.ok (y :: z :: r)).is (⟨#[91]⟩ : ByteArray).data.toList = true)) (hk : (z.k != 1) = true) (h93 : Hid ((RS.bad 11 z.a).need (⟨#[93]⟩ : ByteArray).data.toList = τ3)) (hE : τ3 = .ok (y2 :: r2)) (hby : Hid ((RS.ok (y2 :: r2)).is (⟨#[98,121]⟩ : ByteArray).data.toList = true)) (H4 : Hid (nameF (.ok r2) = ((by_,ba),τ4))) (h59 : Hid (τ4.need (⟨#[59]⟩ : ByteArray).data.toList = τ5)) :
 Calls Try.prog 51 #[.pointer (some ⟨r4,0,none⟩)] W fun e w' => e = .returned (.tuple #[]) ∧ ∃ q,A4 w' r4 rb g cap ws d q p1 p2 p3 τ5 ∧ w'.ownsRow B 56 6 q (l.length + 1) ((l ++ [(⟨a,nm,tr,sc,0,by_⟩ : Gl)]).flatMap glCells) ∧ Fr3 r4 rb (Value.slice p l.length k).ownBlock W w':=by
 obtain ⟨q4l,qbl,qgl⟩:=S.out.blk
 have hBW:=hB.2.2.2
 have HLT : Hid (∀ j,(Value.slice p l.length k).ownBlock = some j → B ≤ j ∧ j < W.heap.size):=hid G.out.lt
 obtain ⟨i0,hinf,hzi0,hzi1,hzi2⟩:=info_parts infoGl
 obtain ⟨m0,m1,m2,m3,m4,m5⟩:=S.out.at4.cells
 go_enter Try.func51,Try.ntmps51
 go_upto_region 3 with (first
  | (go_at_call 46;(with_reducible refine (r4_limit32 S l.length).mono ?_);rintro e1 w1 ⟨rfl,hs1,hf1⟩)
  | (go_at_call 66;(with_reducible refine (r4_kind (hid hs1) H1.out).mono ?_);rintro e2 w2 ⟨rfl,hs2,hf2⟩;have hz2:=Fr.size (Fr.step hf1 hf2);have GB2:=GBlk.new (X:=w2) (a:=0) (nm:=⟨#[]⟩) (tr:=tr) (sc:=sc) (ln:=0) (yy:=⟨#[]⟩) rfl;have S2:=hid (hs2.alloc (.cells #[.int .i64 0,.string ⟨#[]⟩,.bool tr,.bool sc,.int .i64 0,.string ⟨#[]⟩] 56)))
  | (go_at_call 47;(with_reducible refine (r4_name S2 H2.out).mono ?_);rintro e3 w3 ⟨rfl,hs3,hf3⟩;have hz3:=Fr.size hf3;(try simp only [World.size_alloc] at hz3)))
 refine name_world ?_
 intro w4 hw4
 have GB4 : GBlk w4 w2.heap.size 0 ⟨#[]⟩ tr sc 0 ⟨#[]⟩:=by (rw [hw4];exact (GB2.fr hf3 (by omega)).alloc _)
 have TB4 : TBlk w4 w3.heap.size (bstr nm) a:=by (rw [hw4];exact TBlk.new rfl)
 have S4 : Hid (A4 w4 r4 rb g cap ws d (.slice p l.length k) p1 p2 p3 (.ok (y :: z :: r))):=hid (by (rw [hw4];exact hs3.alloc _))
 have F4 : Fr (some rb) W w4:=by (rw [hw4];exact (((hf1.step hf2).alloc _).step hf3).alloc _)
 have hz4 : w2.heap.size < w4.heap.size:=by (rw [hw4];simp;omega)
 obtain ⟨gl4,⟨gc0,gc1,gc2,gc3,gc4,gc5⟩,gf0,gf1,gf2,gf3,gf4,gf5⟩:=GB4.facts
 obtain ⟨tl4,tc0,tc1,tf0,tf1⟩:=TB4.facts
 clear hw4 m0 m1 m2 m3 m4 m5
 go_upto_region 5 with (fail)
 refine name_world ?_
 intro w5 hw5
 have GB5 : GBlk w5 w2.heap.size a (bstr nm) tr sc 0 ⟨#[]⟩:=by (rw [hw5];exact (GB4.set1 _).set0 _)
 have F5 : Fr (some rb) W w5:=by (rw [hw5];exact (F4.set (.inr (by omega)) _ _).set (.inr (by omega)) _ _)
 have S5 : Hid (A4 w5 r4 rb g cap ws d (.slice p l.length k) p1 p2 p3 (.ok (y :: z :: r))):=hid (by (rw [hw5];exact (S4.out.setO (by omega) (by omega) (by omega) _ _).setO (by omega) (by omega) (by omega) _ _))
 clear hw5 gc0 gc1 gc2 gc3 gc4 gc5 gf0 gf1 gf2 gf3 gf4 gf5 tc0 tc1 tf0 tf1 tl4 gl4 GB4 TB4 S4 F4 hs1 hs2 hs3 hf1 hf2 hf3 GB2 S2
 go_upto_region 6 with (go_at_call 45;(with_reducible refine (r4_is S5 _ true h91).mono ?_);rintro e6 w6 ⟨rfl,hb6⟩;have S6:=hid (S5.out.stay hb6))
 have GB6:=GB5.stay hb6
 have F6:=F5.stepB hb6
 have hy7:=h91
 obtain ⟨i7,a7,R7,h7,_,_,_⟩:=S6.out.st.ok_cells S6.out.env
 obtain ⟨m0,_,_,_,_,_⟩:=S6.out.at4.cells
 obtain ⟨q0,q1,q2,q3,q4⟩:=R7.rd.cells
 have hl47:=S6.out.at4.lt
 have hlr7:=R7.rd.lt
 have hfr7:=R7.rd.frozen 1
 go_upto_region 7 with (fail)
 refine name_world ?_
 intro w7 hw7
 have F9 : Fr (some rb) w6 (w6.setCell ⟨rb,1,none⟩ (.int .i64 ((i7 : Int) + 1))):=(Fr.refl _ _).set (.inl rfl) _ _
 have S7 : Hid (A4 w7 r4 rb g cap ws d (.slice p l.length k) p1 p2 p3 (.ok (z :: r))):=hid (by (rw [hw7];exact S6.out.fr F9 (st_adv S6.out.st R7 (RS.is_ne3 hy7.out) h7)))
 have GB7 : GBlk w7 w2.heap.size a (bstr nm) tr sc 0 ⟨#[]⟩:=by (rw [hw7];exact GB6.setO (by omega) _ _)
 have F7 : Fr (some rb) W w7:=by (rw [hw7];exact F6.step F9)
 clear hw7 m0 q0 q1 q2 q3 q4 R7 h7 F9 hl47 hlr7 hfr7
 go_upto_region 16 with (first
  | (go_at_call 24;(with_reducible refine (r4_wordOk S7).mono ?_);rintro e8 w8 ⟨rfl,hb8⟩;have S8:=hid ((S7.out.stay hb8).alloc (.cells #[.int .i64 z.k,.string (bstr z.t),.int .i64 z.n,.int .i64 z.a] 82));have WB8:=WBlk.new (X:=w8) (k:=z.k) (t:=z.t) (v:=z.n) (a:=z.a) rfl;have GB8:=(GB7.stay hb8).alloc (.cells #[.int .i64 z.k,.string (bstr z.t),.int .i64 z.n,.int .i64 z.a] 82);have F8:=(F7.stepB hb8).alloc (.cells #[.int .i64 z.k,.string (bstr z.t),.int .i64 z.n,.int .i64 z.a] 82);obtain ⟨wl8,wy0,wy1,wy2,wy3⟩:=WB8.facts)
  | (go_at_call 52;(with_reducible refine (r4_fail0 S8 11 (by decide) z.a).mono ?_);rintro e9 w9 ⟨rfl,hs9,hf9⟩;have S9:=hid hs9)
  | (go_at_call 23;(with_reducible refine (r4_ok S9 false rfl).mono ?_);rintro e10 w10 ⟨rfl,hb10⟩;have S10:=hid (S9.out.stay hb10))
  | (go_at_call 48;(with_reducible refine (r4_need S10 _ _ h93).mono ?_);rintro e11 w11 ⟨rfl,hs11,hf11⟩))
 refine name_world ?_
 intro w20 hw20
 have S20 : Hid (A4 w20 r4 rb g cap ws d (.slice p l.length k) p1 p2 p3 τ3):=hid (by (rw [hw20];exact hs11))
 have GB20 : GBlk w20 w2.heap.size a (bstr nm) tr sc 0 ⟨#[]⟩:=by (rw [hw20];exact ((GB8.fr hf9 (by omega)).stay hb10).fr hf11 (by omega))
 have F20 : Fr (some rb) W w20:=by (rw [hw20];exact ((F8.step hf9).stepB hb10).step hf11)
 clear hw20
 rw [hE] at S20
 go_upto_region 17 with (go_at_call 45;(with_reducible refine (r4_is S20 _ true hby).mono ?_);rintro e21 w21 ⟨rfl,hb21⟩;have S21:=hid (S20.out.stay hb21))
 have GB21:=GB20.stay hb21
 have F21:=F20.stepB hb21
 have hy22:=hby
 obtain ⟨i22,a22,R22,h22,_,_,_⟩:=S21.out.st.ok_cells S21.out.env
 obtain ⟨m0,_,_,_,_,_⟩:=S21.out.at4.cells
 obtain ⟨q0,q1,q2,q3,q4⟩:=R22.rd.cells
 have hl422:=S21.out.at4.lt
 have hlr22:=R22.rd.lt
 have hfr22:=R22.rd.frozen 1
 go_upto_region 18 with (fail)
 refine name_world ?_
 intro w22 hw22
 have F9 : Fr (some rb) w21 (w21.setCell ⟨rb,1,none⟩ (.int .i64 ((i22 : Int) + 1))):=(Fr.refl _ _).set (.inl rfl) _ _
 have S22 : Hid (A4 w22 r4 rb g cap ws d (.slice p l.length k) p1 p2 p3 (.ok r2)):=hid (by (rw [hw22];exact S21.out.fr F9 (st_adv S21.out.st R22 (RS.is_ne3 hy22.out) h22)))
 have GB22 : GBlk w22 w2.heap.size a (bstr nm) tr sc 0 ⟨#[]⟩:=by (rw [hw22];exact GB21.setO (by omega) _ _)
 have F22 : Fr (some rb) W w22:=by (rw [hw22];exact F21.step F9)
 clear hw22 m0 q0 q1 q2 q3 q4 R22 h22 F9 hl422 hlr22 hfr22
 have hz22:=Fr.size F22
 go_upto_region 19 with (go_at_call 47;(with_reducible refine (r4_name S22 H4.out).mono ?_);rintro e23 w23 ⟨rfl,hs23,hf23⟩;have hz23:=Fr.size hf23;have hz24:=Fr.size (F22.step hf23))
 have TB23:=TBlk.new (X:=w23) (s:=bstr by_) (a:=ba) rfl
 have GB23:=(GB22.fr hf23 (by omega)).alloc (.cells #[.string (bstr by_),.int .i64 ba] 125)
 have F23:=(F22.step hf23).alloc (.cells #[.string (bstr by_),.int .i64 ba] 125)
 obtain ⟨tl4,tc0,tc1,tf0,tf1⟩:=TB23.facts
 obtain ⟨gl,⟨gc0,gc1,gc2,gc3,gc4,gc5⟩,gf0,gf1,gf2,gf3,gf4,gf5⟩:=GB23.facts
 go_upto_region 20 with (fail)
 refine name_world ?_
 intro w30 hw30
 have S30 : Hid (A4 w30 r4 rb g cap ws d (.slice p l.length k) p1 p2 p3 τ4):=hid (by (rw [hw30];exact (hs23.alloc _).setO (by omega) (by omega) (by omega) _ _))
 have GB30 : GBlk w30 w2.heap.size a (bstr nm) tr sc 0 (bstr by_):=by (rw [hw30];exact GB23.set5 _)
 have F30 : Fr (some rb) W w30:=by (rw [hw30];exact F23.set (.inr (by omega)) _ _)
 clear hw30
 go_upto_region 21 with (go_at_call 48;(with_reducible refine (r4_need S30 _ _ h59).mono ?_);rintro e8 w8 ⟨rfl,hs8,hf8⟩)
 have GB8:=GB30.fr hf8 (by omega)
 have F8 : Fr (some rb) W w8:=F30.step hf8
 have G8:=own_fr G.out F8 hB.2.1
 have hz8:=Fr.size F8
 obtain ⟨gl8,⟨gc0,gc1,gc2,gc3,gc4,gc5⟩,_⟩:=GB8.facts
 obtain ⟨m0,m1,m2,m3,m4,m5⟩:=hs8.at4.cells
 have ml:=hs8.at4.lt
 have mf:=hs8.at4.frozen 2
 have hown : ∀ k',k' < B → some k' ≠ (Value.slice p l.length k).ownBlock:=fun k' hk e => by (have:=(HLT.out k' e.symm).1;omega)
 go_region_law (refine step_append_lies _ (by rfl) _ _ _ (by rfl) B 56 i0 _ 6 56 Try.underlying24 hinf hzi0 hzi1 hzi2 rfl (by decide) (.slice p l.length k) l.length (l.flatMap glCells) (by rfl) (own_below G8 (by (with_reducible repeat first | exact Below.refl _ _ | refine Below.alloc ?_ (by first | omega | (simp;omega)) _ | refine Below.drewN ?_ _ | refine Below.drew ?_ | refine Below.setCell ?_ (by first | omega | (simp;omega)) _ | refine Below.trans ?_ (by assumption)))) ⟨_,0,none⟩ 1 1 [.int .i64 a,.string (bstr nm),.bool tr,.bool sc,.int .i64 0,.string (bstr by_)] (by rfl) (by rfl) (World.news_of_block (heap_alloc_new _ _)) raw6_one (by decide) (by unfold maxLen;omega) (by omega) (by simp;omega) _ rfl ?_;intro gg cap6 w9 hown9 hgrow9 hor9 hlt9;have hgr9 : World.grownBy _ w9 (Value.slice p l.length k).ownBlock:=hgrow9;have S9:=hid (((hs8.drew).alloc (.cells #[.int .i64 a,.string (bstr nm),.bool tr,.bool sc,.int .i64 0,.string (bstr by_)] 56)).grow hgr9 (hown _ hB.1) (hown _ hB.2.1) (hown _ hB.2.2.1));obtain ⟨n0,n1,n2,n3,n4,n5⟩:=S9.out.at4.cells;have nl:=S9.out.at4.lt;have nf:=S9.out.at4.frozen 2)
 all_goals go_end0
 all_goals
  refine ⟨rfl,_,S9.out.set2 _,?_,?_⟩
  · have h:=own_fr hown9 ((Fr.refl (some r4) _).set (.inl rfl) 2 (.slice (some ⟨gg,0,none⟩) (l.length + 1) cap6)) hB.1
    simpa [glCells,bstr_nil] using h
  · exact Fr3.mk_ ((F8.drew).alloc (.cells #[.int .i64 a,.string (bstr nm),.bool tr,.bool sc,.int .i64 0,.string (bstr by_)] 56)) hgr9 _ _
theorem rgl_20 {r4 rb g cap B k : Nat} {ws : List Wd} {d : Int} {p : Option Addr} {p1 p2 p3 : Value} {W : World} {σ τ1 τ2 τ3 τ4 τ5 : RS} {l : List Gl} {tr sc : Bool} {nm by_ : List UInt8} {a ba : Nat} {y z y2 : Wd} {r r2 : List Wd} (S : Hid (A4 W r4 rb g cap ws d (.slice p l.length k) p1 p2 p3 σ)) (G : Hid (W.ownsRow B 56 6 (.slice p l.length k) l.length (l.flatMap glCells))) (hB : r4 < B ∧ rb < B ∧ g < B ∧ B ≤ W.heap.size) (hl : l.length ≤ 1000000)
 (H1 : Hid (kindF (limF l.length 32 σ) = ((tr,sc),τ1))) (H2 : Hid (nameF τ1 = ((nm,a),(.ok (y :: z :: r))))) (h91 : Hid ((RS.ok (y :: z :: r)).is (⟨#[91]⟩ : ByteArray).data.toList = true)) (hk : (z.k != 1) = false) (hn : decide (z.n < 1) = true) (h93 : Hid ((RS.bad 2 z.a).need (⟨#[93]⟩ : ByteArray).data.toList = τ3)) (hby : Hid (τ3.is (⟨#[98,121]⟩ : ByteArray).data.toList = false)) (h59 : Hid (τ3.need (⟨#[59]⟩ : ByteArray).data.toList = τ5)) :
 Calls Try.prog 51 #[.pointer (some ⟨r4,0,none⟩)] W fun e w' => e = .returned (.tuple #[]) ∧ ∃ q,A4 w' r4 rb g cap ws d q p1 p2 p3 τ5 ∧ w'.ownsRow B 56 6 q (l.length + 1) ((l ++ [(⟨a,nm,tr,sc,0,[]⟩ : Gl)]).flatMap glCells) ∧ Fr3 r4 rb (Value.slice p l.length k).ownBlock W w':=by
 obtain ⟨q4l,qbl,qgl⟩:=S.out.blk
 have hBW:=hB.2.2.2
 have HLT : Hid (∀ j,(Value.slice p l.length k).ownBlock = some j → B ≤ j ∧ j < W.heap.size):=hid G.out.lt
 obtain ⟨i0,hinf,hzi0,hzi1,hzi2⟩:=info_parts infoGl
 obtain ⟨m0,m1,m2,m3,m4,m5⟩:=S.out.at4.cells
 go_enter Try.func51,Try.ntmps51
 go_upto_region 3 with (first
  | (go_at_call 46;(with_reducible refine (r4_limit32 S l.length).mono ?_);rintro e1 w1 ⟨rfl,hs1,hf1⟩)
  | (go_at_call 66;(with_reducible refine (r4_kind (hid hs1) H1.out).mono ?_);rintro e2 w2 ⟨rfl,hs2,hf2⟩;have hz2:=Fr.size (Fr.step hf1 hf2);have GB2:=GBlk.new (X:=w2) (a:=0) (nm:=⟨#[]⟩) (tr:=tr) (sc:=sc) (ln:=0) (yy:=⟨#[]⟩) rfl;have S2:=hid (hs2.alloc (.cells #[.int .i64 0,.string ⟨#[]⟩,.bool tr,.bool sc,.int .i64 0,.string ⟨#[]⟩] 56)))
  | (go_at_call 47;(with_reducible refine (r4_name S2 H2.out).mono ?_);rintro e3 w3 ⟨rfl,hs3,hf3⟩;have hz3:=Fr.size hf3;(try simp only [World.size_alloc] at hz3)))
 refine name_world ?_
 intro w4 hw4
 have GB4 : GBlk w4 w2.heap.size 0 ⟨#[]⟩ tr sc 0 ⟨#[]⟩:=by (rw [hw4];exact (GB2.fr hf3 (by omega)).alloc _)
 have TB4 : TBlk w4 w3.heap.size (bstr nm) a:=by (rw [hw4];exact TBlk.new rfl)
 have S4 : Hid (A4 w4 r4 rb g cap ws d (.slice p l.length k) p1 p2 p3 (.ok (y :: z :: r))):=hid (by (rw [hw4];exact hs3.alloc _))
 have F4 : Fr (some rb) W w4:=by (rw [hw4];exact (((hf1.step hf2).alloc _).step hf3).alloc _)
 have hz4 : w2.heap.size < w4.heap.size:=by (rw [hw4];simp;omega)
 obtain ⟨gl4,⟨gc0,gc1,gc2,gc3,gc4,gc5⟩,gf0,gf1,gf2,gf3,gf4,gf5⟩:=GB4.facts
 obtain ⟨tl4,tc0,tc1,tf0,tf1⟩:=TB4.facts
 clear hw4 m0 m1 m2 m3 m4 m5
 go_upto_region 5 with (fail)
 refine name_world ?_
 intro w5 hw5
 have GB5 : GBlk w5 w2.heap.size a (bstr nm) tr sc 0 ⟨#[]⟩:=by (rw [hw5];exact (GB4.set1 _).set0 _)
 have F5 : Fr (some rb) W w5:=by (rw [hw5];exact (F4.set (.inr (by omega)) _ _).set (.inr (by omega)) _ _)
 have S5 : Hid (A4 w5 r4 rb g cap ws d (.slice p l.length k) p1 p2 p3 (.ok (y :: z :: r))):=hid (by (rw [hw5];exact (S4.out.setO (by omega) (by omega) (by omega) _ _).setO (by omega) (by omega) (by omega) _ _))
 clear hw5 gc0 gc1 gc2 gc3 gc4 gc5 gf0 gf1 gf2 gf3 gf4 gf5 tc0 tc1 tf0 tf1 tl4 gl4 GB4 TB4 S4 F4 hs1 hs2 hs3 hf1 hf2 hf3 GB2 S2
 go_upto_region 6 with (go_at_call 45;(with_reducible refine (r4_is S5 _ true h91).mono ?_);rintro e6 w6 ⟨rfl,hb6⟩;have S6:=hid (S5.out.stay hb6))
 have GB6:=GB5.stay hb6
 have F6:=F5.stepB hb6
 have hy7:=h91
 obtain ⟨i7,a7,R7,h7,_,_,_⟩:=S6.out.st.ok_cells S6.out.env
 obtain ⟨m0,_,_,_,_,_⟩:=S6.out.at4.cells
 obtain ⟨q0,q1,q2,q3,q4⟩:=R7.rd.cells
 have hl47:=S6.out.at4.lt
 have hlr7:=R7.rd.lt
 have hfr7:=R7.rd.frozen 1
 go_upto_region 7 with (fail)
 refine name_world ?_
 intro w7 hw7
 have F9 : Fr (some rb) w6 (w6.setCell ⟨rb,1,none⟩ (.int .i64 ((i7 : Int) + 1))):=(Fr.refl _ _).set (.inl rfl) _ _
 have S7 : Hid (A4 w7 r4 rb g cap ws d (.slice p l.length k) p1 p2 p3 (.ok (z :: r))):=hid (by (rw [hw7];exact S6.out.fr F9 (st_adv S6.out.st R7 (RS.is_ne3 hy7.out) h7)))
 have GB7 : GBlk w7 w2.heap.size a (bstr nm) tr sc 0 ⟨#[]⟩:=by (rw [hw7];exact GB6.setO (by omega) _ _)
 have F7 : Fr (some rb) W w7:=by (rw [hw7];exact F6.step F9)
 clear hw7 m0 q0 q1 q2 q3 q4 R7 h7 F9 hl47 hlr7 hfr7
 go_upto_region 16 with (first
  | (go_at_call 24;(with_reducible refine (r4_wordOk S7).mono ?_);rintro e8 w8 ⟨rfl,hb8⟩;have S8:=hid ((S7.out.stay hb8).alloc (.cells #[.int .i64 z.k,.string (bstr z.t),.int .i64 z.n,.int .i64 z.a] 82));have WB8:=WBlk.new (X:=w8) (k:=z.k) (t:=z.t) (v:=z.n) (a:=z.a) rfl;have GB8:=(GB7.stay hb8).alloc (.cells #[.int .i64 z.k,.string (bstr z.t),.int .i64 z.n,.int .i64 z.a] 82);have F8:=(F7.stepB hb8).alloc (.cells #[.int .i64 z.k,.string (bstr z.t),.int .i64 z.n,.int .i64 z.a] 82);obtain ⟨wl8,wy0,wy1,wy2,wy3⟩:=WB8.facts)
  | (go_at_call 52;(with_reducible refine (r4_fail0 S8 2 (by decide) z.a).mono ?_);rintro e9 w9 ⟨rfl,hs9,hf9⟩;have S9:=hid hs9)
  | (go_at_call 23;(with_reducible refine (r4_ok S9 false rfl).mono ?_);rintro e10 w10 ⟨rfl,hb10⟩;have S10:=hid (S9.out.stay hb10))
  | (go_at_call 48;(with_reducible refine (r4_need S10 _ _ h93).mono ?_);rintro e11 w11 ⟨rfl,hs11,hf11⟩))
 refine name_world ?_
 intro w20 hw20
 have S20 : Hid (A4 w20 r4 rb g cap ws d (.slice p l.length k) p1 p2 p3 τ3):=hid (by (rw [hw20];exact hs11))
 have GB20 : GBlk w20 w2.heap.size a (bstr nm) tr sc 0 ⟨#[]⟩:=by (rw [hw20];exact ((GB8.fr hf9 (by omega)).stay hb10).fr hf11 (by omega))
 have F20 : Fr (some rb) W w20:=by (rw [hw20];exact ((F8.step hf9).stepB hb10).step hf11)
 clear hw20
 go_upto_region 20 with (go_at_call 45;(with_reducible refine (r4_is S20 _ false hby).mono ?_);rintro e21 w21 ⟨rfl,hb21⟩;have S21:=hid (S20.out.stay hb21))
 refine name_world ?_
 intro w30 hw30
 have S30 : Hid (A4 w30 r4 rb g cap ws d (.slice p l.length k) p1 p2 p3 τ3):=hid (by (rw [hw30];exact S21.out))
 have GB30 : GBlk w30 w2.heap.size a (bstr nm) tr sc 0 ⟨#[]⟩:=by (rw [hw30];exact GB20.stay hb21)
 have F30 : Fr (some rb) W w30:=by (rw [hw30];exact F20.stepB hb21)
 clear hw30
 go_upto_region 21 with (go_at_call 48;(with_reducible refine (r4_need S30 _ _ h59).mono ?_);rintro e8 w8 ⟨rfl,hs8,hf8⟩)
 have GB8:=GB30.fr hf8 (by omega)
 have F8 : Fr (some rb) W w8:=F30.step hf8
 have G8:=own_fr G.out F8 hB.2.1
 have hz8:=Fr.size F8
 obtain ⟨gl8,⟨gc0,gc1,gc2,gc3,gc4,gc5⟩,_⟩:=GB8.facts
 obtain ⟨m0,m1,m2,m3,m4,m5⟩:=hs8.at4.cells
 have ml:=hs8.at4.lt
 have mf:=hs8.at4.frozen 2
 have hown : ∀ k',k' < B → some k' ≠ (Value.slice p l.length k).ownBlock:=fun k' hk e => by (have:=(HLT.out k' e.symm).1;omega)
 go_region_law (refine step_append_lies _ (by rfl) _ _ _ (by rfl) B 56 i0 _ 6 56 Try.underlying24 hinf hzi0 hzi1 hzi2 rfl (by decide) (.slice p l.length k) l.length (l.flatMap glCells) (by rfl) (own_below G8 (by (with_reducible repeat first | exact Below.refl _ _ | refine Below.alloc ?_ (by first | omega | (simp;omega)) _ | refine Below.drewN ?_ _ | refine Below.drew ?_ | refine Below.setCell ?_ (by first | omega | (simp;omega)) _ | refine Below.trans ?_ (by assumption)))) ⟨_,0,none⟩ 1 1 [.int .i64 a,.string (bstr nm),.bool tr,.bool sc,.int .i64 0,.string ⟨#[]⟩] (by rfl) (by rfl) (World.news_of_block (heap_alloc_new _ _)) raw6_one (by decide) (by unfold maxLen;omega) (by omega) (by simp;omega) _ rfl ?_;intro gg cap6 w9 hown9 hgrow9 hor9 hlt9;have hgr9 : World.grownBy _ w9 (Value.slice p l.length k).ownBlock:=hgrow9;have S9:=hid (((hs8.drew).alloc (.cells #[.int .i64 a,.string (bstr nm),.bool tr,.bool sc,.int .i64 0,.string ⟨#[]⟩] 56)).grow hgr9 (hown _ hB.1) (hown _ hB.2.1) (hown _ hB.2.2.1));obtain ⟨n0,n1,n2,n3,n4,n5⟩:=S9.out.at4.cells;have nl:=S9.out.at4.lt;have nf:=S9.out.at4.frozen 2)
 all_goals go_end0
 all_goals
  refine ⟨rfl,_,S9.out.set2 _,?_,?_⟩
  · have h:=own_fr hown9 ((Fr.refl (some r4) _).set (.inl rfl) 2 (.slice (some ⟨gg,0,none⟩) (l.length + 1) cap6)) hB.1
    simpa [glCells,bstr_nil] using h
  · exact Fr3.mk_ ((F8.drew).alloc (.cells #[.int .i64 a,.string (bstr nm),.bool tr,.bool sc,.int .i64 0,.string ⟨#[]⟩] 56)) hgr9 _ _
theorem rgl_21 {r4 rb g cap B k : Nat} {ws : List Wd} {d : Int} {p : Option Addr} {p1 p2 p3 : Value} {W : World} {σ τ1 τ2 τ3 τ4 τ5 : RS} {l : List Gl} {tr sc : Bool} {nm by_ : List UInt8} {a ba : Nat} {y z y2 : Wd} {r r2 : List Wd} (S : Hid (A4 W r4 rb g cap ws d (.slice p l.length k) p1 p2 p3 σ)) (G : Hid (W.ownsRow B 56 6 (.slice p l.length k) l.length (l.flatMap glCells))) (hB : r4 < B ∧ rb < B ∧ g < B ∧ B ≤ W.heap.size) (hl : l.length ≤ 1000000)
 (H1 : Hid (kindF (limF l.length 32 σ) = ((tr,sc),τ1))) (H2 : Hid (nameF τ1 = ((nm,a),(.ok (y :: z :: r))))) (h91 : Hid ((RS.ok (y :: z :: r)).is (⟨#[91]⟩ : ByteArray).data.toList = true)) (hk : (z.k != 1) = false) (hn : decide (z.n < 1) = true) (h93 : Hid ((RS.bad 2 z.a).need (⟨#[93]⟩ : ByteArray).data.toList = τ3)) (hE : τ3 = .ok (y2 :: r2)) (hby : Hid ((RS.ok (y2 :: r2)).is (⟨#[98,121]⟩ : ByteArray).data.toList = true)) (H4 : Hid (nameF (.ok r2) = ((by_,ba),τ4))) (h59 : Hid (τ4.need (⟨#[59]⟩ : ByteArray).data.toList = τ5)) :
 Calls Try.prog 51 #[.pointer (some ⟨r4,0,none⟩)] W fun e w' => e = .returned (.tuple #[]) ∧ ∃ q,A4 w' r4 rb g cap ws d q p1 p2 p3 τ5 ∧ w'.ownsRow B 56 6 q (l.length + 1) ((l ++ [(⟨a,nm,tr,sc,0,by_⟩ : Gl)]).flatMap glCells) ∧ Fr3 r4 rb (Value.slice p l.length k).ownBlock W w':=by
 obtain ⟨q4l,qbl,qgl⟩:=S.out.blk
 have hBW:=hB.2.2.2
 have HLT : Hid (∀ j,(Value.slice p l.length k).ownBlock = some j → B ≤ j ∧ j < W.heap.size):=hid G.out.lt
 obtain ⟨i0,hinf,hzi0,hzi1,hzi2⟩:=info_parts infoGl
 obtain ⟨m0,m1,m2,m3,m4,m5⟩:=S.out.at4.cells
 go_enter Try.func51,Try.ntmps51
 go_upto_region 3 with (first
  | (go_at_call 46;(with_reducible refine (r4_limit32 S l.length).mono ?_);rintro e1 w1 ⟨rfl,hs1,hf1⟩)
  | (go_at_call 66;(with_reducible refine (r4_kind (hid hs1) H1.out).mono ?_);rintro e2 w2 ⟨rfl,hs2,hf2⟩;have hz2:=Fr.size (Fr.step hf1 hf2);have GB2:=GBlk.new (X:=w2) (a:=0) (nm:=⟨#[]⟩) (tr:=tr) (sc:=sc) (ln:=0) (yy:=⟨#[]⟩) rfl;have S2:=hid (hs2.alloc (.cells #[.int .i64 0,.string ⟨#[]⟩,.bool tr,.bool sc,.int .i64 0,.string ⟨#[]⟩] 56)))
  | (go_at_call 47;(with_reducible refine (r4_name S2 H2.out).mono ?_);rintro e3 w3 ⟨rfl,hs3,hf3⟩;have hz3:=Fr.size hf3;(try simp only [World.size_alloc] at hz3)))
 refine name_world ?_
 intro w4 hw4
 have GB4 : GBlk w4 w2.heap.size 0 ⟨#[]⟩ tr sc 0 ⟨#[]⟩:=by (rw [hw4];exact (GB2.fr hf3 (by omega)).alloc _)
 have TB4 : TBlk w4 w3.heap.size (bstr nm) a:=by (rw [hw4];exact TBlk.new rfl)
 have S4 : Hid (A4 w4 r4 rb g cap ws d (.slice p l.length k) p1 p2 p3 (.ok (y :: z :: r))):=hid (by (rw [hw4];exact hs3.alloc _))
 have F4 : Fr (some rb) W w4:=by (rw [hw4];exact (((hf1.step hf2).alloc _).step hf3).alloc _)
 have hz4 : w2.heap.size < w4.heap.size:=by (rw [hw4];simp;omega)
 obtain ⟨gl4,⟨gc0,gc1,gc2,gc3,gc4,gc5⟩,gf0,gf1,gf2,gf3,gf4,gf5⟩:=GB4.facts
 obtain ⟨tl4,tc0,tc1,tf0,tf1⟩:=TB4.facts
 clear hw4 m0 m1 m2 m3 m4 m5
 go_upto_region 5 with (fail)
 refine name_world ?_
 intro w5 hw5
 have GB5 : GBlk w5 w2.heap.size a (bstr nm) tr sc 0 ⟨#[]⟩:=by (rw [hw5];exact (GB4.set1 _).set0 _)
 have F5 : Fr (some rb) W w5:=by (rw [hw5];exact (F4.set (.inr (by omega)) _ _).set (.inr (by omega)) _ _)
 have S5 : Hid (A4 w5 r4 rb g cap ws d (.slice p l.length k) p1 p2 p3 (.ok (y :: z :: r))):=hid (by (rw [hw5];exact (S4.out.setO (by omega) (by omega) (by omega) _ _).setO (by omega) (by omega) (by omega) _ _))
 clear hw5 gc0 gc1 gc2 gc3 gc4 gc5 gf0 gf1 gf2 gf3 gf4 gf5 tc0 tc1 tf0 tf1 tl4 gl4 GB4 TB4 S4 F4 hs1 hs2 hs3 hf1 hf2 hf3 GB2 S2
 go_upto_region 6 with (go_at_call 45;(with_reducible refine (r4_is S5 _ true h91).mono ?_);rintro e6 w6 ⟨rfl,hb6⟩;have S6:=hid (S5.out.stay hb6))
 have GB6:=GB5.stay hb6
 have F6:=F5.stepB hb6
 have hy7:=h91
 obtain ⟨i7,a7,R7,h7,_,_,_⟩:=S6.out.st.ok_cells S6.out.env
 obtain ⟨m0,_,_,_,_,_⟩:=S6.out.at4.cells
 obtain ⟨q0,q1,q2,q3,q4⟩:=R7.rd.cells
 have hl47:=S6.out.at4.lt
 have hlr7:=R7.rd.lt
 have hfr7:=R7.rd.frozen 1
 go_upto_region 7 with (fail)
 refine name_world ?_
 intro w7 hw7
 have F9 : Fr (some rb) w6 (w6.setCell ⟨rb,1,none⟩ (.int .i64 ((i7 : Int) + 1))):=(Fr.refl _ _).set (.inl rfl) _ _
 have S7 : Hid (A4 w7 r4 rb g cap ws d (.slice p l.length k) p1 p2 p3 (.ok (z :: r))):=hid (by (rw [hw7];exact S6.out.fr F9 (st_adv S6.out.st R7 (RS.is_ne3 hy7.out) h7)))
 have GB7 : GBlk w7 w2.heap.size a (bstr nm) tr sc 0 ⟨#[]⟩:=by (rw [hw7];exact GB6.setO (by omega) _ _)
 have F7 : Fr (some rb) W w7:=by (rw [hw7];exact F6.step F9)
 clear hw7 m0 q0 q1 q2 q3 q4 R7 h7 F9 hl47 hlr7 hfr7
 go_upto_region 16 with (first
  | (go_at_call 24;(with_reducible refine (r4_wordOk S7).mono ?_);rintro e8 w8 ⟨rfl,hb8⟩;have S8:=hid ((S7.out.stay hb8).alloc (.cells #[.int .i64 z.k,.string (bstr z.t),.int .i64 z.n,.int .i64 z.a] 82));have WB8:=WBlk.new (X:=w8) (k:=z.k) (t:=z.t) (v:=z.n) (a:=z.a) rfl;have GB8:=(GB7.stay hb8).alloc (.cells #[.int .i64 z.k,.string (bstr z.t),.int .i64 z.n,.int .i64 z.a] 82);have F8:=(F7.stepB hb8).alloc (.cells #[.int .i64 z.k,.string (bstr z.t),.int .i64 z.n,.int .i64 z.a] 82);obtain ⟨wl8,wy0,wy1,wy2,wy3⟩:=WB8.facts)
  | (go_at_call 52;(with_reducible refine (r4_fail0 S8 2 (by decide) z.a).mono ?_);rintro e9 w9 ⟨rfl,hs9,hf9⟩;have S9:=hid hs9)
  | (go_at_call 23;(with_reducible refine (r4_ok S9 false rfl).mono ?_);rintro e10 w10 ⟨rfl,hb10⟩;have S10:=hid (S9.out.stay hb10))
  | (go_at_call 48;(with_reducible refine (r4_need S10 _ _ h93).mono ?_);rintro e11 w11 ⟨rfl,hs11,hf11⟩))
 refine name_world ?_
 intro w20 hw20
 have S20 : Hid (A4 w20 r4 rb g cap ws d (.slice p l.length k) p1 p2 p3 τ3):=hid (by (rw [hw20];exact hs11))
 have GB20 : GBlk w20 w2.heap.size a (bstr nm) tr sc 0 ⟨#[]⟩:=by (rw [hw20];exact ((GB8.fr hf9 (by omega)).stay hb10).fr hf11 (by omega))
 have F20 : Fr (some rb) W w20:=by (rw [hw20];exact ((F8.step hf9).stepB hb10).step hf11)
 clear hw20
 rw [hE] at S20
 go_upto_region 17 with (go_at_call 45;(with_reducible refine (r4_is S20 _ true hby).mono ?_);rintro e21 w21 ⟨rfl,hb21⟩;have S21:=hid (S20.out.stay hb21))
 have GB21:=GB20.stay hb21
 have F21:=F20.stepB hb21
 have hy22:=hby
 obtain ⟨i22,a22,R22,h22,_,_,_⟩:=S21.out.st.ok_cells S21.out.env
 obtain ⟨m0,_,_,_,_,_⟩:=S21.out.at4.cells
 obtain ⟨q0,q1,q2,q3,q4⟩:=R22.rd.cells
 have hl422:=S21.out.at4.lt
 have hlr22:=R22.rd.lt
 have hfr22:=R22.rd.frozen 1
 go_upto_region 18 with (fail)
 refine name_world ?_
 intro w22 hw22
 have F9 : Fr (some rb) w21 (w21.setCell ⟨rb,1,none⟩ (.int .i64 ((i22 : Int) + 1))):=(Fr.refl _ _).set (.inl rfl) _ _
 have S22 : Hid (A4 w22 r4 rb g cap ws d (.slice p l.length k) p1 p2 p3 (.ok r2)):=hid (by (rw [hw22];exact S21.out.fr F9 (st_adv S21.out.st R22 (RS.is_ne3 hy22.out) h22)))
 have GB22 : GBlk w22 w2.heap.size a (bstr nm) tr sc 0 ⟨#[]⟩:=by (rw [hw22];exact GB21.setO (by omega) _ _)
 have F22 : Fr (some rb) W w22:=by (rw [hw22];exact F21.step F9)
 clear hw22 m0 q0 q1 q2 q3 q4 R22 h22 F9 hl422 hlr22 hfr22
 have hz22:=Fr.size F22
 go_upto_region 19 with (go_at_call 47;(with_reducible refine (r4_name S22 H4.out).mono ?_);rintro e23 w23 ⟨rfl,hs23,hf23⟩;have hz23:=Fr.size hf23;have hz24:=Fr.size (F22.step hf23))
 have TB23:=TBlk.new (X:=w23) (s:=bstr by_) (a:=ba) rfl
 have GB23:=(GB22.fr hf23 (by omega)).alloc (.cells #[.string (bstr by_),.int .i64 ba] 125)
 have F23:=(F22.step hf23).alloc (.cells #[.string (bstr by_),.int .i64 ba] 125)
 obtain ⟨tl4,tc0,tc1,tf0,tf1⟩:=TB23.facts
 obtain ⟨gl,⟨gc0,gc1,gc2,gc3,gc4,gc5⟩,gf0,gf1,gf2,gf3,gf4,gf5⟩:=GB23.facts
 go_upto_region 20 with (fail)
 refine name_world ?_
 intro w30 hw30
 have S30 : Hid (A4 w30 r4 rb g cap ws d (.slice p l.length k) p1 p2 p3 τ4):=hid (by (rw [hw30];exact (hs23.alloc _).setO (by omega) (by omega) (by omega) _ _))
 have GB30 : GBlk w30 w2.heap.size a (bstr nm) tr sc 0 (bstr by_):=by (rw [hw30];exact GB23.set5 _)
 have F30 : Fr (some rb) W w30:=by (rw [hw30];exact F23.set (.inr (by omega)) _ _)
 clear hw30
 go_upto_region 21 with (go_at_call 48;(with_reducible refine (r4_need S30 _ _ h59).mono ?_);rintro e8 w8 ⟨rfl,hs8,hf8⟩)
 have GB8:=GB30.fr hf8 (by omega)
 have F8 : Fr (some rb) W w8:=F30.step hf8
 have G8:=own_fr G.out F8 hB.2.1
 have hz8:=Fr.size F8
 obtain ⟨gl8,⟨gc0,gc1,gc2,gc3,gc4,gc5⟩,_⟩:=GB8.facts
 obtain ⟨m0,m1,m2,m3,m4,m5⟩:=hs8.at4.cells
 have ml:=hs8.at4.lt
 have mf:=hs8.at4.frozen 2
 have hown : ∀ k',k' < B → some k' ≠ (Value.slice p l.length k).ownBlock:=fun k' hk e => by (have:=(HLT.out k' e.symm).1;omega)
 go_region_law (refine step_append_lies _ (by rfl) _ _ _ (by rfl) B 56 i0 _ 6 56 Try.underlying24 hinf hzi0 hzi1 hzi2 rfl (by decide) (.slice p l.length k) l.length (l.flatMap glCells) (by rfl) (own_below G8 (by (with_reducible repeat first | exact Below.refl _ _ | refine Below.alloc ?_ (by first | omega | (simp;omega)) _ | refine Below.drewN ?_ _ | refine Below.drew ?_ | refine Below.setCell ?_ (by first | omega | (simp;omega)) _ | refine Below.trans ?_ (by assumption)))) ⟨_,0,none⟩ 1 1 [.int .i64 a,.string (bstr nm),.bool tr,.bool sc,.int .i64 0,.string (bstr by_)] (by rfl) (by rfl) (World.news_of_block (heap_alloc_new _ _)) raw6_one (by decide) (by unfold maxLen;omega) (by omega) (by simp;omega) _ rfl ?_;intro gg cap6 w9 hown9 hgrow9 hor9 hlt9;have hgr9 : World.grownBy _ w9 (Value.slice p l.length k).ownBlock:=hgrow9;have S9:=hid (((hs8.drew).alloc (.cells #[.int .i64 a,.string (bstr nm),.bool tr,.bool sc,.int .i64 0,.string (bstr by_)] 56)).grow hgr9 (hown _ hB.1) (hown _ hB.2.1) (hown _ hB.2.2.1));obtain ⟨n0,n1,n2,n3,n4,n5⟩:=S9.out.at4.cells;have nl:=S9.out.at4.lt;have nf:=S9.out.at4.frozen 2)
 all_goals go_end0
 all_goals
  refine ⟨rfl,_,S9.out.set2 _,?_,?_⟩
  · have h:=own_fr hown9 ((Fr.refl (some r4) _).set (.inl rfl) 2 (.slice (some ⟨gg,0,none⟩) (l.length + 1) cap6)) hB.1
    simpa [glCells,bstr_nil] using h
  · exact Fr3.mk_ ((F8.drew).alloc (.cells #[.int .i64 a,.string (bstr nm),.bool tr,.bool sc,.int .i64 0,.string (bstr by_)] 56)) hgr9 _ _
theorem rgl_30 {r4 rb g cap B k : Nat} {ws : List Wd} {d : Int} {p : Option Addr} {p1 p2 p3 : Value} {W : World} {σ τ1 τ2 τ3 τ4 τ5 : RS} {l : List Gl} {tr sc : Bool} {nm by_ : List UInt8} {a ba : Nat} {y z y2 : Wd} {r r2 : List Wd} (S : Hid (A4 W r4 rb g cap ws d (.slice p l.length k) p1 p2 p3 σ)) (G : Hid (W.ownsRow B 56 6 (.slice p l.length k) l.length (l.flatMap glCells))) (hB : r4 < B ∧ rb < B ∧ g < B ∧ B ≤ W.heap.size) (hl : l.length ≤ 1000000)
 (H1 : Hid (kindF (limF l.length 32 σ) = ((tr,sc),τ1))) (H2 : Hid (nameF τ1 = ((nm,a),(.ok (y :: z :: r))))) (h91 : Hid ((RS.ok (y :: z :: r)).is (⟨#[91]⟩ : ByteArray).data.toList = true)) (hk : (z.k != 1) = false) (hn : decide (z.n < 1) = false) (hn2 : decide (z.n > 64) = true) (h93 : Hid ((RS.bad 2 z.a).need (⟨#[93]⟩ : ByteArray).data.toList = τ3)) (hby : Hid (τ3.is (⟨#[98,121]⟩ : ByteArray).data.toList = false)) (h59 : Hid (τ3.need (⟨#[59]⟩ : ByteArray).data.toList = τ5)) :
 Calls Try.prog 51 #[.pointer (some ⟨r4,0,none⟩)] W fun e w' => e = .returned (.tuple #[]) ∧ ∃ q,A4 w' r4 rb g cap ws d q p1 p2 p3 τ5 ∧ w'.ownsRow B 56 6 q (l.length + 1) ((l ++ [(⟨a,nm,tr,sc,0,[]⟩ : Gl)]).flatMap glCells) ∧ Fr3 r4 rb (Value.slice p l.length k).ownBlock W w':=by
 obtain ⟨q4l,qbl,qgl⟩:=S.out.blk
 have hBW:=hB.2.2.2
 have HLT : Hid (∀ j,(Value.slice p l.length k).ownBlock = some j → B ≤ j ∧ j < W.heap.size):=hid G.out.lt
 obtain ⟨i0,hinf,hzi0,hzi1,hzi2⟩:=info_parts infoGl
 obtain ⟨m0,m1,m2,m3,m4,m5⟩:=S.out.at4.cells
 go_enter Try.func51,Try.ntmps51
 go_upto_region 3 with (first
  | (go_at_call 46;(with_reducible refine (r4_limit32 S l.length).mono ?_);rintro e1 w1 ⟨rfl,hs1,hf1⟩)
  | (go_at_call 66;(with_reducible refine (r4_kind (hid hs1) H1.out).mono ?_);rintro e2 w2 ⟨rfl,hs2,hf2⟩;have hz2:=Fr.size (Fr.step hf1 hf2);have GB2:=GBlk.new (X:=w2) (a:=0) (nm:=⟨#[]⟩) (tr:=tr) (sc:=sc) (ln:=0) (yy:=⟨#[]⟩) rfl;have S2:=hid (hs2.alloc (.cells #[.int .i64 0,.string ⟨#[]⟩,.bool tr,.bool sc,.int .i64 0,.string ⟨#[]⟩] 56)))
  | (go_at_call 47;(with_reducible refine (r4_name S2 H2.out).mono ?_);rintro e3 w3 ⟨rfl,hs3,hf3⟩;have hz3:=Fr.size hf3;(try simp only [World.size_alloc] at hz3)))
 refine name_world ?_
 intro w4 hw4
 have GB4 : GBlk w4 w2.heap.size 0 ⟨#[]⟩ tr sc 0 ⟨#[]⟩:=by (rw [hw4];exact (GB2.fr hf3 (by omega)).alloc _)
 have TB4 : TBlk w4 w3.heap.size (bstr nm) a:=by (rw [hw4];exact TBlk.new rfl)
 have S4 : Hid (A4 w4 r4 rb g cap ws d (.slice p l.length k) p1 p2 p3 (.ok (y :: z :: r))):=hid (by (rw [hw4];exact hs3.alloc _))
 have F4 : Fr (some rb) W w4:=by (rw [hw4];exact (((hf1.step hf2).alloc _).step hf3).alloc _)
 have hz4 : w2.heap.size < w4.heap.size:=by (rw [hw4];simp;omega)
 obtain ⟨gl4,⟨gc0,gc1,gc2,gc3,gc4,gc5⟩,gf0,gf1,gf2,gf3,gf4,gf5⟩:=GB4.facts
 obtain ⟨tl4,tc0,tc1,tf0,tf1⟩:=TB4.facts
 clear hw4 m0 m1 m2 m3 m4 m5
 go_upto_region 5 with (fail)
 refine name_world ?_
 intro w5 hw5
 have GB5 : GBlk w5 w2.heap.size a (bstr nm) tr sc 0 ⟨#[]⟩:=by (rw [hw5];exact (GB4.set1 _).set0 _)
 have F5 : Fr (some rb) W w5:=by (rw [hw5];exact (F4.set (.inr (by omega)) _ _).set (.inr (by omega)) _ _)
 have S5 : Hid (A4 w5 r4 rb g cap ws d (.slice p l.length k) p1 p2 p3 (.ok (y :: z :: r))):=hid (by (rw [hw5];exact (S4.out.setO (by omega) (by omega) (by omega) _ _).setO (by omega) (by omega) (by omega) _ _))
 clear hw5 gc0 gc1 gc2 gc3 gc4 gc5 gf0 gf1 gf2 gf3 gf4 gf5 tc0 tc1 tf0 tf1 tl4 gl4 GB4 TB4 S4 F4 hs1 hs2 hs3 hf1 hf2 hf3 GB2 S2
 go_upto_region 6 with (go_at_call 45;(with_reducible refine (r4_is S5 _ true h91).mono ?_);rintro e6 w6 ⟨rfl,hb6⟩;have S6:=hid (S5.out.stay hb6))
 have GB6:=GB5.stay hb6
 have F6:=F5.stepB hb6
 have hy7:=h91
 obtain ⟨i7,a7,R7,h7,_,_,_⟩:=S6.out.st.ok_cells S6.out.env
 obtain ⟨m0,_,_,_,_,_⟩:=S6.out.at4.cells
 obtain ⟨q0,q1,q2,q3,q4⟩:=R7.rd.cells
 have hl47:=S6.out.at4.lt
 have hlr7:=R7.rd.lt
 have hfr7:=R7.rd.frozen 1
 go_upto_region 7 with (fail)
 refine name_world ?_
 intro w7 hw7
 have F9 : Fr (some rb) w6 (w6.setCell ⟨rb,1,none⟩ (.int .i64 ((i7 : Int) + 1))):=(Fr.refl _ _).set (.inl rfl) _ _
 have S7 : Hid (A4 w7 r4 rb g cap ws d (.slice p l.length k) p1 p2 p3 (.ok (z :: r))):=hid (by (rw [hw7];exact S6.out.fr F9 (st_adv S6.out.st R7 (RS.is_ne3 hy7.out) h7)))
 have GB7 : GBlk w7 w2.heap.size a (bstr nm) tr sc 0 ⟨#[]⟩:=by (rw [hw7];exact GB6.setO (by omega) _ _)
 have F7 : Fr (some rb) W w7:=by (rw [hw7];exact F6.step F9)
 clear hw7 m0 q0 q1 q2 q3 q4 R7 h7 F9 hl47 hlr7 hfr7
 go_upto_region 16 with (first
  | (go_at_call 24;(with_reducible refine (r4_wordOk S7).mono ?_);rintro e8 w8 ⟨rfl,hb8⟩;have S8:=hid ((S7.out.stay hb8).alloc (.cells #[.int .i64 z.k,.string (bstr z.t),.int .i64 z.n,.int .i64 z.a] 82));have WB8:=WBlk.new (X:=w8) (k:=z.k) (t:=z.t) (v:=z.n) (a:=z.a) rfl;have GB8:=(GB7.stay hb8).alloc (.cells #[.int .i64 z.k,.string (bstr z.t),.int .i64 z.n,.int .i64 z.a] 82);have F8:=(F7.stepB hb8).alloc (.cells #[.int .i64 z.k,.string (bstr z.t),.int .i64 z.n,.int .i64 z.a] 82);obtain ⟨wl8,wy0,wy1,wy2,wy3⟩:=WB8.facts)
  | (go_at_call 52;(with_reducible refine (r4_fail0 S8 2 (by decide) z.a).mono ?_);rintro e9 w9 ⟨rfl,hs9,hf9⟩;have S9:=hid hs9)
  | (go_at_call 23;(with_reducible refine (r4_ok S9 false rfl).mono ?_);rintro e10 w10 ⟨rfl,hb10⟩;have S10:=hid (S9.out.stay hb10))
  | (go_at_call 48;(with_reducible refine (r4_need S10 _ _ h93).mono ?_);rintro e11 w11 ⟨rfl,hs11,hf11⟩))
 refine name_world ?_
 intro w20 hw20
 have S20 : Hid (A4 w20 r4 rb g cap ws d (.slice p l.length k) p1 p2 p3 τ3):=hid (by (rw [hw20];exact hs11))
 have GB20 : GBlk w20 w2.heap.size a (bstr nm) tr sc 0 ⟨#[]⟩:=by (rw [hw20];exact ((GB8.fr hf9 (by omega)).stay hb10).fr hf11 (by omega))
 have F20 : Fr (some rb) W w20:=by (rw [hw20];exact ((F8.step hf9).stepB hb10).step hf11)
 clear hw20
 go_upto_region 20 with (go_at_call 45;(with_reducible refine (r4_is S20 _ false hby).mono ?_);rintro e21 w21 ⟨rfl,hb21⟩;have S21:=hid (S20.out.stay hb21))
 refine name_world ?_
 intro w30 hw30
 have S30 : Hid (A4 w30 r4 rb g cap ws d (.slice p l.length k) p1 p2 p3 τ3):=hid (by (rw [hw30];exact S21.out))
 have GB30 : GBlk w30 w2.heap.size a (bstr nm) tr sc 0 ⟨#[]⟩:=by (rw [hw30];exact GB20.stay hb21)
 have F30 : Fr (some rb) W w30:=by (rw [hw30];exact F20.stepB hb21)
 clear hw30
 go_upto_region 21 with (go_at_call 48;(with_reducible refine (r4_need S30 _ _ h59).mono ?_);rintro e8 w8 ⟨rfl,hs8,hf8⟩)
 have GB8:=GB30.fr hf8 (by omega)
 have F8 : Fr (some rb) W w8:=F30.step hf8
 have G8:=own_fr G.out F8 hB.2.1
 have hz8:=Fr.size F8
 obtain ⟨gl8,⟨gc0,gc1,gc2,gc3,gc4,gc5⟩,_⟩:=GB8.facts
 obtain ⟨m0,m1,m2,m3,m4,m5⟩:=hs8.at4.cells
 have ml:=hs8.at4.lt
 have mf:=hs8.at4.frozen 2
 have hown : ∀ k',k' < B → some k' ≠ (Value.slice p l.length k).ownBlock:=fun k' hk e => by (have:=(HLT.out k' e.symm).1;omega)
 go_region_law (refine step_append_lies _ (by rfl) _ _ _ (by rfl) B 56 i0 _ 6 56 Try.underlying24 hinf hzi0 hzi1 hzi2 rfl (by decide) (.slice p l.length k) l.length (l.flatMap glCells) (by rfl) (own_below G8 (by (with_reducible repeat first | exact Below.refl _ _ | refine Below.alloc ?_ (by first | omega | (simp;omega)) _ | refine Below.drewN ?_ _ | refine Below.drew ?_ | refine Below.setCell ?_ (by first | omega | (simp;omega)) _ | refine Below.trans ?_ (by assumption)))) ⟨_,0,none⟩ 1 1 [.int .i64 a,.string (bstr nm),.bool tr,.bool sc,.int .i64 0,.string ⟨#[]⟩] (by rfl) (by rfl) (World.news_of_block (heap_alloc_new _ _)) raw6_one (by decide) (by unfold maxLen;omega) (by omega) (by simp;omega) _ rfl ?_;intro gg cap6 w9 hown9 hgrow9 hor9 hlt9;have hgr9 : World.grownBy _ w9 (Value.slice p l.length k).ownBlock:=hgrow9;have S9:=hid (((hs8.drew).alloc (.cells #[.int .i64 a,.string (bstr nm),.bool tr,.bool sc,.int .i64 0,.string ⟨#[]⟩] 56)).grow hgr9 (hown _ hB.1) (hown _ hB.2.1) (hown _ hB.2.2.1));obtain ⟨n0,n1,n2,n3,n4,n5⟩:=S9.out.at4.cells;have nl:=S9.out.at4.lt;have nf:=S9.out.at4.frozen 2)
 all_goals go_end0
 all_goals
  refine ⟨rfl,_,S9.out.set2 _,?_,?_⟩
  · have h:=own_fr hown9 ((Fr.refl (some r4) _).set (.inl rfl) 2 (.slice (some ⟨gg,0,none⟩) (l.length + 1) cap6)) hB.1
    simpa [glCells,bstr_nil] using h
  · exact Fr3.mk_ ((F8.drew).alloc (.cells #[.int .i64 a,.string (bstr nm),.bool tr,.bool sc,.int .i64 0,.string ⟨#[]⟩] 56)) hgr9 _ _
theorem rgl_31 {r4 rb g cap B k : Nat} {ws : List Wd} {d : Int} {p : Option Addr} {p1 p2 p3 : Value} {W : World} {σ τ1 τ2 τ3 τ4 τ5 : RS} {l : List Gl} {tr sc : Bool} {nm by_ : List UInt8} {a ba : Nat} {y z y2 : Wd} {r r2 : List Wd} (S : Hid (A4 W r4 rb g cap ws d (.slice p l.length k) p1 p2 p3 σ)) (G : Hid (W.ownsRow B 56 6 (.slice p l.length k) l.length (l.flatMap glCells))) (hB : r4 < B ∧ rb < B ∧ g < B ∧ B ≤ W.heap.size) (hl : l.length ≤ 1000000)
 (H1 : Hid (kindF (limF l.length 32 σ) = ((tr,sc),τ1))) (H2 : Hid (nameF τ1 = ((nm,a),(.ok (y :: z :: r))))) (h91 : Hid ((RS.ok (y :: z :: r)).is (⟨#[91]⟩ : ByteArray).data.toList = true)) (hk : (z.k != 1) = false) (hn : decide (z.n < 1) = false) (hn2 : decide (z.n > 64) = true) (h93 : Hid ((RS.bad 2 z.a).need (⟨#[93]⟩ : ByteArray).data.toList = τ3)) (hE : τ3 = .ok (y2 :: r2)) (hby : Hid ((RS.ok (y2 :: r2)).is (⟨#[98,121]⟩ : ByteArray).data.toList = true)) (H4 : Hid (nameF (.ok r2) = ((by_,ba),τ4))) (h59 : Hid (τ4.need (⟨#[59]⟩ : ByteArray).data.toList = τ5)) :
 Calls Try.prog 51 #[.pointer (some ⟨r4,0,none⟩)] W fun e w' => e = .returned (.tuple #[]) ∧ ∃ q,A4 w' r4 rb g cap ws d q p1 p2 p3 τ5 ∧ w'.ownsRow B 56 6 q (l.length + 1) ((l ++ [(⟨a,nm,tr,sc,0,by_⟩ : Gl)]).flatMap glCells) ∧ Fr3 r4 rb (Value.slice p l.length k).ownBlock W w':=by
 obtain ⟨q4l,qbl,qgl⟩:=S.out.blk
 have hBW:=hB.2.2.2
 have HLT : Hid (∀ j,(Value.slice p l.length k).ownBlock = some j → B ≤ j ∧ j < W.heap.size):=hid G.out.lt
 obtain ⟨i0,hinf,hzi0,hzi1,hzi2⟩:=info_parts infoGl
 obtain ⟨m0,m1,m2,m3,m4,m5⟩:=S.out.at4.cells
 go_enter Try.func51,Try.ntmps51
 go_upto_region 3 with (first
  | (go_at_call 46;(with_reducible refine (r4_limit32 S l.length).mono ?_);rintro e1 w1 ⟨rfl,hs1,hf1⟩)
  | (go_at_call 66;(with_reducible refine (r4_kind (hid hs1) H1.out).mono ?_);rintro e2 w2 ⟨rfl,hs2,hf2⟩;have hz2:=Fr.size (Fr.step hf1 hf2);have GB2:=GBlk.new (X:=w2) (a:=0) (nm:=⟨#[]⟩) (tr:=tr) (sc:=sc) (ln:=0) (yy:=⟨#[]⟩) rfl;have S2:=hid (hs2.alloc (.cells #[.int .i64 0,.string ⟨#[]⟩,.bool tr,.bool sc,.int .i64 0,.string ⟨#[]⟩] 56)))
  | (go_at_call 47;(with_reducible refine (r4_name S2 H2.out).mono ?_);rintro e3 w3 ⟨rfl,hs3,hf3⟩;have hz3:=Fr.size hf3;(try simp only [World.size_alloc] at hz3)))
 refine name_world ?_
 intro w4 hw4
 have GB4 : GBlk w4 w2.heap.size 0 ⟨#[]⟩ tr sc 0 ⟨#[]⟩:=by (rw [hw4];exact (GB2.fr hf3 (by omega)).alloc _)
 have TB4 : TBlk w4 w3.heap.size (bstr nm) a:=by (rw [hw4];exact TBlk.new rfl)
 have S4 : Hid (A4 w4 r4 rb g cap ws d (.slice p l.length k) p1 p2 p3 (.ok (y :: z :: r))):=hid (by (rw [hw4];exact hs3.alloc _))
 have F4 : Fr (some rb) W w4:=by (rw [hw4];exact (((hf1.step hf2).alloc _).step hf3).alloc _)
 have hz4 : w2.heap.size < w4.heap.size:=by (rw [hw4];simp;omega)
 obtain ⟨gl4,⟨gc0,gc1,gc2,gc3,gc4,gc5⟩,gf0,gf1,gf2,gf3,gf4,gf5⟩:=GB4.facts
 obtain ⟨tl4,tc0,tc1,tf0,tf1⟩:=TB4.facts
 clear hw4 m0 m1 m2 m3 m4 m5
 go_upto_region 5 with (fail)
 refine name_world ?_
 intro w5 hw5
 have GB5 : GBlk w5 w2.heap.size a (bstr nm) tr sc 0 ⟨#[]⟩:=by (rw [hw5];exact (GB4.set1 _).set0 _)
 have F5 : Fr (some rb) W w5:=by (rw [hw5];exact (F4.set (.inr (by omega)) _ _).set (.inr (by omega)) _ _)
 have S5 : Hid (A4 w5 r4 rb g cap ws d (.slice p l.length k) p1 p2 p3 (.ok (y :: z :: r))):=hid (by (rw [hw5];exact (S4.out.setO (by omega) (by omega) (by omega) _ _).setO (by omega) (by omega) (by omega) _ _))
 clear hw5 gc0 gc1 gc2 gc3 gc4 gc5 gf0 gf1 gf2 gf3 gf4 gf5 tc0 tc1 tf0 tf1 tl4 gl4 GB4 TB4 S4 F4 hs1 hs2 hs3 hf1 hf2 hf3 GB2 S2
 go_upto_region 6 with (go_at_call 45;(with_reducible refine (r4_is S5 _ true h91).mono ?_);rintro e6 w6 ⟨rfl,hb6⟩;have S6:=hid (S5.out.stay hb6))
 have GB6:=GB5.stay hb6
 have F6:=F5.stepB hb6
 have hy7:=h91
 obtain ⟨i7,a7,R7,h7,_,_,_⟩:=S6.out.st.ok_cells S6.out.env
 obtain ⟨m0,_,_,_,_,_⟩:=S6.out.at4.cells
 obtain ⟨q0,q1,q2,q3,q4⟩:=R7.rd.cells
 have hl47:=S6.out.at4.lt
 have hlr7:=R7.rd.lt
 have hfr7:=R7.rd.frozen 1
 go_upto_region 7 with (fail)
 refine name_world ?_
 intro w7 hw7
 have F9 : Fr (some rb) w6 (w6.setCell ⟨rb,1,none⟩ (.int .i64 ((i7 : Int) + 1))):=(Fr.refl _ _).set (.inl rfl) _ _
 have S7 : Hid (A4 w7 r4 rb g cap ws d (.slice p l.length k) p1 p2 p3 (.ok (z :: r))):=hid (by (rw [hw7];exact S6.out.fr F9 (st_adv S6.out.st R7 (RS.is_ne3 hy7.out) h7)))
 have GB7 : GBlk w7 w2.heap.size a (bstr nm) tr sc 0 ⟨#[]⟩:=by (rw [hw7];exact GB6.setO (by omega) _ _)
 have F7 : Fr (some rb) W w7:=by (rw [hw7];exact F6.step F9)
 clear hw7 m0 q0 q1 q2 q3 q4 R7 h7 F9 hl47 hlr7 hfr7
 go_upto_region 16 with (first
  | (go_at_call 24;(with_reducible refine (r4_wordOk S7).mono ?_);rintro e8 w8 ⟨rfl,hb8⟩;have S8:=hid ((S7.out.stay hb8).alloc (.cells #[.int .i64 z.k,.string (bstr z.t),.int .i64 z.n,.int .i64 z.a] 82));have WB8:=WBlk.new (X:=w8) (k:=z.k) (t:=z.t) (v:=z.n) (a:=z.a) rfl;have GB8:=(GB7.stay hb8).alloc (.cells #[.int .i64 z.k,.string (bstr z.t),.int .i64 z.n,.int .i64 z.a] 82);have F8:=(F7.stepB hb8).alloc (.cells #[.int .i64 z.k,.string (bstr z.t),.int .i64 z.n,.int .i64 z.a] 82);obtain ⟨wl8,wy0,wy1,wy2,wy3⟩:=WB8.facts)
  | (go_at_call 52;(with_reducible refine (r4_fail0 S8 2 (by decide) z.a).mono ?_);rintro e9 w9 ⟨rfl,hs9,hf9⟩;have S9:=hid hs9)
  | (go_at_call 23;(with_reducible refine (r4_ok S9 false rfl).mono ?_);rintro e10 w10 ⟨rfl,hb10⟩;have S10:=hid (S9.out.stay hb10))
  | (go_at_call 48;(with_reducible refine (r4_need S10 _ _ h93).mono ?_);rintro e11 w11 ⟨rfl,hs11,hf11⟩))
 refine name_world ?_
 intro w20 hw20
 have S20 : Hid (A4 w20 r4 rb g cap ws d (.slice p l.length k) p1 p2 p3 τ3):=hid (by (rw [hw20];exact hs11))
 have GB20 : GBlk w20 w2.heap.size a (bstr nm) tr sc 0 ⟨#[]⟩:=by (rw [hw20];exact ((GB8.fr hf9 (by omega)).stay hb10).fr hf11 (by omega))
 have F20 : Fr (some rb) W w20:=by (rw [hw20];exact ((F8.step hf9).stepB hb10).step hf11)
 clear hw20
 rw [hE] at S20
 go_upto_region 17 with (go_at_call 45;(with_reducible refine (r4_is S20 _ true hby).mono ?_);rintro e21 w21 ⟨rfl,hb21⟩;have S21:=hid (S20.out.stay hb21))
 have GB21:=GB20.stay hb21
 have F21:=F20.stepB hb21
 have hy22:=hby
 obtain ⟨i22,a22,R22,h22,_,_,_⟩:=S21.out.st.ok_cells S21.out.env
 obtain ⟨m0,_,_,_,_,_⟩:=S21.out.at4.cells
 obtain ⟨q0,q1,q2,q3,q4⟩:=R22.rd.cells
 have hl422:=S21.out.at4.lt
 have hlr22:=R22.rd.lt
 have hfr22:=R22.rd.frozen 1
 go_upto_region 18 with (fail)
 refine name_world ?_
 intro w22 hw22
 have F9 : Fr (some rb) w21 (w21.setCell ⟨rb,1,none⟩ (.int .i64 ((i22 : Int) + 1))):=(Fr.refl _ _).set (.inl rfl) _ _
 have S22 : Hid (A4 w22 r4 rb g cap ws d (.slice p l.length k) p1 p2 p3 (.ok r2)):=hid (by (rw [hw22];exact S21.out.fr F9 (st_adv S21.out.st R22 (RS.is_ne3 hy22.out) h22)))
 have GB22 : GBlk w22 w2.heap.size a (bstr nm) tr sc 0 ⟨#[]⟩:=by (rw [hw22];exact GB21.setO (by omega) _ _)
 have F22 : Fr (some rb) W w22:=by (rw [hw22];exact F21.step F9)
 clear hw22 m0 q0 q1 q2 q3 q4 R22 h22 F9 hl422 hlr22 hfr22
 have hz22:=Fr.size F22
 go_upto_region 19 with (go_at_call 47;(with_reducible refine (r4_name S22 H4.out).mono ?_);rintro e23 w23 ⟨rfl,hs23,hf23⟩;have hz23:=Fr.size hf23;have hz24:=Fr.size (F22.step hf23))
 have TB23:=TBlk.new (X:=w23) (s:=bstr by_) (a:=ba) rfl
 have GB23:=(GB22.fr hf23 (by omega)).alloc (.cells #[.string (bstr by_),.int .i64 ba] 125)
 have F23:=(F22.step hf23).alloc (.cells #[.string (bstr by_),.int .i64 ba] 125)
 obtain ⟨tl4,tc0,tc1,tf0,tf1⟩:=TB23.facts
 obtain ⟨gl,⟨gc0,gc1,gc2,gc3,gc4,gc5⟩,gf0,gf1,gf2,gf3,gf4,gf5⟩:=GB23.facts
 go_upto_region 20 with (fail)
 refine name_world ?_
 intro w30 hw30
 have S30 : Hid (A4 w30 r4 rb g cap ws d (.slice p l.length k) p1 p2 p3 τ4):=hid (by (rw [hw30];exact (hs23.alloc _).setO (by omega) (by omega) (by omega) _ _))
 have GB30 : GBlk w30 w2.heap.size a (bstr nm) tr sc 0 (bstr by_):=by (rw [hw30];exact GB23.set5 _)
 have F30 : Fr (some rb) W w30:=by (rw [hw30];exact F23.set (.inr (by omega)) _ _)
 clear hw30
 go_upto_region 21 with (go_at_call 48;(with_reducible refine (r4_need S30 _ _ h59).mono ?_);rintro e8 w8 ⟨rfl,hs8,hf8⟩)
 have GB8:=GB30.fr hf8 (by omega)
 have F8 : Fr (some rb) W w8:=F30.step hf8
 have G8:=own_fr G.out F8 hB.2.1
 have hz8:=Fr.size F8
 obtain ⟨gl8,⟨gc0,gc1,gc2,gc3,gc4,gc5⟩,_⟩:=GB8.facts
 obtain ⟨m0,m1,m2,m3,m4,m5⟩:=hs8.at4.cells
 have ml:=hs8.at4.lt
 have mf:=hs8.at4.frozen 2
 have hown : ∀ k',k' < B → some k' ≠ (Value.slice p l.length k).ownBlock:=fun k' hk e => by (have:=(HLT.out k' e.symm).1;omega)
 go_region_law (refine step_append_lies _ (by rfl) _ _ _ (by rfl) B 56 i0 _ 6 56 Try.underlying24 hinf hzi0 hzi1 hzi2 rfl (by decide) (.slice p l.length k) l.length (l.flatMap glCells) (by rfl) (own_below G8 (by (with_reducible repeat first | exact Below.refl _ _ | refine Below.alloc ?_ (by first | omega | (simp;omega)) _ | refine Below.drewN ?_ _ | refine Below.drew ?_ | refine Below.setCell ?_ (by first | omega | (simp;omega)) _ | refine Below.trans ?_ (by assumption)))) ⟨_,0,none⟩ 1 1 [.int .i64 a,.string (bstr nm),.bool tr,.bool sc,.int .i64 0,.string (bstr by_)] (by rfl) (by rfl) (World.news_of_block (heap_alloc_new _ _)) raw6_one (by decide) (by unfold maxLen;omega) (by omega) (by simp;omega) _ rfl ?_;intro gg cap6 w9 hown9 hgrow9 hor9 hlt9;have hgr9 : World.grownBy _ w9 (Value.slice p l.length k).ownBlock:=hgrow9;have S9:=hid (((hs8.drew).alloc (.cells #[.int .i64 a,.string (bstr nm),.bool tr,.bool sc,.int .i64 0,.string (bstr by_)] 56)).grow hgr9 (hown _ hB.1) (hown _ hB.2.1) (hown _ hB.2.2.1));obtain ⟨n0,n1,n2,n3,n4,n5⟩:=S9.out.at4.cells;have nl:=S9.out.at4.lt;have nf:=S9.out.at4.frozen 2)
 all_goals go_end0
 all_goals
  refine ⟨rfl,_,S9.out.set2 _,?_,?_⟩
  · have h:=own_fr hown9 ((Fr.refl (some r4) _).set (.inl rfl) 2 (.slice (some ⟨gg,0,none⟩) (l.length + 1) cap6)) hB.1
    simpa [glCells,bstr_nil] using h
  · exact Fr3.mk_ ((F8.drew).alloc (.cells #[.int .i64 a,.string (bstr nm),.bool tr,.bool sc,.int .i64 0,.string (bstr by_)] 56)) hgr9 _ _
theorem rgl_40 {r4 rb g cap B k : Nat} {ws : List Wd} {d : Int} {p : Option Addr} {p1 p2 p3 : Value} {W : World} {σ τ1 τ2 τ3 τ4 τ5 : RS} {l : List Gl} {tr sc : Bool} {nm by_ : List UInt8} {a ba : Nat} {y z y2 : Wd} {r r2 : List Wd} (S : Hid (A4 W r4 rb g cap ws d (.slice p l.length k) p1 p2 p3 σ)) (G : Hid (W.ownsRow B 56 6 (.slice p l.length k) l.length (l.flatMap glCells))) (hB : r4 < B ∧ rb < B ∧ g < B ∧ B ≤ W.heap.size) (hl : l.length ≤ 1000000)
 (H1 : Hid (kindF (limF l.length 32 σ) = ((tr,sc),τ1))) (H2 : Hid (nameF τ1 = ((nm,a),(.ok (y :: z :: r))))) (h91 : Hid ((RS.ok (y :: z :: r)).is (⟨#[91]⟩ : ByteArray).data.toList = true)) (hk : (z.k != 1) = false) (hn : decide (z.n < 1) = false) (hn2 : decide (z.n > 64) = false) (hy11 : z.k ≠ 3) (h93 : Hid ((RS.ok r).need (⟨#[93]⟩ : ByteArray).data.toList = τ3)) (hby : Hid (τ3.is (⟨#[98,121]⟩ : ByteArray).data.toList = false)) (h59 : Hid (τ3.need (⟨#[59]⟩ : ByteArray).data.toList = τ5)) :
 Calls Try.prog 51 #[.pointer (some ⟨r4,0,none⟩)] W fun e w' => e = .returned (.tuple #[]) ∧ ∃ q,A4 w' r4 rb g cap ws d q p1 p2 p3 τ5 ∧ w'.ownsRow B 56 6 q (l.length + 1) ((l ++ [(⟨a,nm,tr,sc,z.n,[]⟩ : Gl)]).flatMap glCells) ∧ Fr3 r4 rb (Value.slice p l.length k).ownBlock W w':=by
 obtain ⟨q4l,qbl,qgl⟩:=S.out.blk
 have hBW:=hB.2.2.2
 have HLT : Hid (∀ j,(Value.slice p l.length k).ownBlock = some j → B ≤ j ∧ j < W.heap.size):=hid G.out.lt
 obtain ⟨i0,hinf,hzi0,hzi1,hzi2⟩:=info_parts infoGl
 obtain ⟨m0,m1,m2,m3,m4,m5⟩:=S.out.at4.cells
 go_enter Try.func51,Try.ntmps51
 go_upto_region 3 with (first
  | (go_at_call 46;(with_reducible refine (r4_limit32 S l.length).mono ?_);rintro e1 w1 ⟨rfl,hs1,hf1⟩)
  | (go_at_call 66;(with_reducible refine (r4_kind (hid hs1) H1.out).mono ?_);rintro e2 w2 ⟨rfl,hs2,hf2⟩;have hz2:=Fr.size (Fr.step hf1 hf2);have GB2:=GBlk.new (X:=w2) (a:=0) (nm:=⟨#[]⟩) (tr:=tr) (sc:=sc) (ln:=0) (yy:=⟨#[]⟩) rfl;have S2:=hid (hs2.alloc (.cells #[.int .i64 0,.string ⟨#[]⟩,.bool tr,.bool sc,.int .i64 0,.string ⟨#[]⟩] 56)))
  | (go_at_call 47;(with_reducible refine (r4_name S2 H2.out).mono ?_);rintro e3 w3 ⟨rfl,hs3,hf3⟩;have hz3:=Fr.size hf3;(try simp only [World.size_alloc] at hz3)))
 refine name_world ?_
 intro w4 hw4
 have GB4 : GBlk w4 w2.heap.size 0 ⟨#[]⟩ tr sc 0 ⟨#[]⟩:=by (rw [hw4];exact (GB2.fr hf3 (by omega)).alloc _)
 have TB4 : TBlk w4 w3.heap.size (bstr nm) a:=by (rw [hw4];exact TBlk.new rfl)
 have S4 : Hid (A4 w4 r4 rb g cap ws d (.slice p l.length k) p1 p2 p3 (.ok (y :: z :: r))):=hid (by (rw [hw4];exact hs3.alloc _))
 have F4 : Fr (some rb) W w4:=by (rw [hw4];exact (((hf1.step hf2).alloc _).step hf3).alloc _)
 have hz4 : w2.heap.size < w4.heap.size:=by (rw [hw4];simp;omega)
 obtain ⟨gl4,⟨gc0,gc1,gc2,gc3,gc4,gc5⟩,gf0,gf1,gf2,gf3,gf4,gf5⟩:=GB4.facts
 obtain ⟨tl4,tc0,tc1,tf0,tf1⟩:=TB4.facts
 clear hw4 m0 m1 m2 m3 m4 m5
 go_upto_region 5 with (fail)
 refine name_world ?_
 intro w5 hw5
 have GB5 : GBlk w5 w2.heap.size a (bstr nm) tr sc 0 ⟨#[]⟩:=by (rw [hw5];exact (GB4.set1 _).set0 _)
 have F5 : Fr (some rb) W w5:=by (rw [hw5];exact (F4.set (.inr (by omega)) _ _).set (.inr (by omega)) _ _)
 have S5 : Hid (A4 w5 r4 rb g cap ws d (.slice p l.length k) p1 p2 p3 (.ok (y :: z :: r))):=hid (by (rw [hw5];exact (S4.out.setO (by omega) (by omega) (by omega) _ _).setO (by omega) (by omega) (by omega) _ _))
 clear hw5 gc0 gc1 gc2 gc3 gc4 gc5 gf0 gf1 gf2 gf3 gf4 gf5 tc0 tc1 tf0 tf1 tl4 gl4 GB4 TB4 S4 F4 hs1 hs2 hs3 hf1 hf2 hf3 GB2 S2
 go_upto_region 6 with (go_at_call 45;(with_reducible refine (r4_is S5 _ true h91).mono ?_);rintro e6 w6 ⟨rfl,hb6⟩;have S6:=hid (S5.out.stay hb6))
 have GB6:=GB5.stay hb6
 have F6:=F5.stepB hb6
 have hy7:=h91
 obtain ⟨i7,a7,R7,h7,_,_,_⟩:=S6.out.st.ok_cells S6.out.env
 obtain ⟨m0,_,_,_,_,_⟩:=S6.out.at4.cells
 obtain ⟨q0,q1,q2,q3,q4⟩:=R7.rd.cells
 have hl47:=S6.out.at4.lt
 have hlr7:=R7.rd.lt
 have hfr7:=R7.rd.frozen 1
 go_upto_region 7 with (fail)
 refine name_world ?_
 intro w7 hw7
 have F9 : Fr (some rb) w6 (w6.setCell ⟨rb,1,none⟩ (.int .i64 ((i7 : Int) + 1))):=(Fr.refl _ _).set (.inl rfl) _ _
 have S7 : Hid (A4 w7 r4 rb g cap ws d (.slice p l.length k) p1 p2 p3 (.ok (z :: r))):=hid (by (rw [hw7];exact S6.out.fr F9 (st_adv S6.out.st R7 (RS.is_ne3 hy7.out) h7)))
 have GB7 : GBlk w7 w2.heap.size a (bstr nm) tr sc 0 ⟨#[]⟩:=by (rw [hw7];exact GB6.setO (by omega) _ _)
 have F7 : Fr (some rb) W w7:=by (rw [hw7];exact F6.step F9)
 clear hw7 m0 q0 q1 q2 q3 q4 R7 h7 F9 hl47 hlr7 hfr7
 go_upto_region 13 with (first
  | (go_at_call 24;(with_reducible refine (r4_wordOk S7).mono ?_);rintro e8 w8 ⟨rfl,hb8⟩;have S8:=hid ((S7.out.stay hb8).alloc (.cells #[.int .i64 z.k,.string (bstr z.t),.int .i64 z.n,.int .i64 z.a] 82));have WB8:=WBlk.new (X:=w8) (k:=z.k) (t:=z.t) (v:=z.n) (a:=z.a) rfl;have GB8:=(GB7.stay hb8).alloc (.cells #[.int .i64 z.k,.string (bstr z.t),.int .i64 z.n,.int .i64 z.a] 82);have F8:=(F7.stepB hb8).alloc (.cells #[.int .i64 z.k,.string (bstr z.t),.int .i64 z.n,.int .i64 z.a] 82);obtain ⟨wl8,wy0,wy1,wy2,wy3⟩:=WB8.facts)
  | (go_at_call 23;(with_reducible refine (r4_ok S8 true rfl).mono ?_);rintro e9 w9 ⟨rfl,hb9⟩;have S9:=hid (S8.out.stay hb9);have GB9:=GB8.stay hb9;have F9':=F8.stepB hb9;have WB9:=WB8.stay hb9;have hz9:=Fr.size F9'))
 obtain ⟨wl9,wz0,wz1,wz2,wz3⟩:=WB9.facts
 obtain ⟨gl,⟨gc0,gc1,gc2,gc3,gc4,gc5⟩,gf0,gf1,gf2,gf3,gf4,gf5⟩:=GB9.facts
 have hgl:=gl
 go_upto_region 14 with (fail)
 refine name_world ?_
 intro w10 hw10
 have S10 : Hid (A4 w10 r4 rb g cap ws d (.slice p l.length k) p1 p2 p3 (.ok (z :: r))):=hid (by (rw [hw10];exact S9.out.setO (by omega) (by omega) (by omega) _ _))
 have GB10 : GBlk w10 w2.heap.size a (bstr nm) tr sc z.n ⟨#[]⟩:=by (rw [hw10];exact GB9.set4 _)
 have F10 : Fr (some rb) W w10:=by (rw [hw10];exact F9'.set (.inr (by omega)) _ _)
 clear hw10
 obtain ⟨i11,a11,R11,h11,_,_,_⟩:=S10.out.st.ok_cells S10.out.env
 obtain ⟨m0,_,_,_,_,_⟩:=S10.out.at4.cells
 obtain ⟨q0,q1,q2,q3,q4⟩:=R11.rd.cells
 have hl411:=S10.out.at4.lt
 have hlr11:=R11.rd.lt
 have hfr11:=R11.rd.frozen 1
 go_upto_region 15 with (fail)
 refine name_world ?_
 intro w11 hw11
 have F9 : Fr (some rb) w10 (w10.setCell ⟨rb,1,none⟩ (.int .i64 ((i11 : Int) + 1))):=(Fr.refl _ _).set (.inl rfl) _ _
 have S11 : Hid (A4 w11 r4 rb g cap ws d (.slice p l.length k) p1 p2 p3 (.ok r)):=hid (by (rw [hw11];exact S10.out.fr F9 (st_adv S10.out.st R11 (hy11) h11)))
 have GB11 : GBlk w11 w2.heap.size a (bstr nm) tr sc z.n ⟨#[]⟩:=by (rw [hw11];exact GB10.setO (by omega) _ _)
 have F11 : Fr (some rb) W w11:=by (rw [hw11];exact F10.step F9)
 clear hw11 m0 q0 q1 q2 q3 q4 R11 h11 F9 hl411 hlr11 hfr11
 go_upto_region 16 with (go_at_call 48;(with_reducible refine (r4_need S11 _ _ h93).mono ?_);rintro e12 w12 ⟨rfl,hs12,hf12⟩)
 refine name_world ?_
 intro w20 hw20
 have S20 : Hid (A4 w20 r4 rb g cap ws d (.slice p l.length k) p1 p2 p3 τ3):=hid (by (rw [hw20];exact hs12))
 have GB20 : GBlk w20 w2.heap.size a (bstr nm) tr sc z.n ⟨#[]⟩:=by (rw [hw20];exact GB11.fr hf12 (by omega))
 have F20 : Fr (some rb) W w20:=by (rw [hw20];exact F11.step hf12)
 clear hw20
 go_upto_region 20 with (go_at_call 45;(with_reducible refine (r4_is S20 _ false hby).mono ?_);rintro e21 w21 ⟨rfl,hb21⟩;have S21:=hid (S20.out.stay hb21))
 refine name_world ?_
 intro w30 hw30
 have S30 : Hid (A4 w30 r4 rb g cap ws d (.slice p l.length k) p1 p2 p3 τ3):=hid (by (rw [hw30];exact S21.out))
 have GB30 : GBlk w30 w2.heap.size a (bstr nm) tr sc z.n ⟨#[]⟩:=by (rw [hw30];exact GB20.stay hb21)
 have F30 : Fr (some rb) W w30:=by (rw [hw30];exact F20.stepB hb21)
 clear hw30
 go_upto_region 21 with (go_at_call 48;(with_reducible refine (r4_need S30 _ _ h59).mono ?_);rintro e8 w8 ⟨rfl,hs8,hf8⟩)
 have GB8:=GB30.fr hf8 (by omega)
 have F8 : Fr (some rb) W w8:=F30.step hf8
 have G8:=own_fr G.out F8 hB.2.1
 have hz8:=Fr.size F8
 obtain ⟨gl8,⟨gc0,gc1,gc2,gc3,gc4,gc5⟩,_⟩:=GB8.facts
 obtain ⟨m0,m1,m2,m3,m4,m5⟩:=hs8.at4.cells
 have ml:=hs8.at4.lt
 have mf:=hs8.at4.frozen 2
 have hown : ∀ k',k' < B → some k' ≠ (Value.slice p l.length k).ownBlock:=fun k' hk e => by (have:=(HLT.out k' e.symm).1;omega)
 go_region_law (refine step_append_lies _ (by rfl) _ _ _ (by rfl) B 56 i0 _ 6 56 Try.underlying24 hinf hzi0 hzi1 hzi2 rfl (by decide) (.slice p l.length k) l.length (l.flatMap glCells) (by rfl) (own_below G8 (by (with_reducible repeat first | exact Below.refl _ _ | refine Below.alloc ?_ (by first | omega | (simp;omega)) _ | refine Below.drewN ?_ _ | refine Below.drew ?_ | refine Below.setCell ?_ (by first | omega | (simp;omega)) _ | refine Below.trans ?_ (by assumption)))) ⟨_,0,none⟩ 1 1 [.int .i64 a,.string (bstr nm),.bool tr,.bool sc,.int .i64 z.n,.string ⟨#[]⟩] (by rfl) (by rfl) (World.news_of_block (heap_alloc_new _ _)) raw6_one (by decide) (by unfold maxLen;omega) (by omega) (by simp;omega) _ rfl ?_;intro gg cap6 w9 hown9 hgrow9 hor9 hlt9;have hgr9 : World.grownBy _ w9 (Value.slice p l.length k).ownBlock:=hgrow9;have S9:=hid (((hs8.drew).alloc (.cells #[.int .i64 a,.string (bstr nm),.bool tr,.bool sc,.int .i64 z.n,.string ⟨#[]⟩] 56)).grow hgr9 (hown _ hB.1) (hown _ hB.2.1) (hown _ hB.2.2.1));obtain ⟨n0,n1,n2,n3,n4,n5⟩:=S9.out.at4.cells;have nl:=S9.out.at4.lt;have nf:=S9.out.at4.frozen 2)
 all_goals go_end0
 all_goals
  refine ⟨rfl,_,S9.out.set2 _,?_,?_⟩
  · have h:=own_fr hown9 ((Fr.refl (some r4) _).set (.inl rfl) 2 (.slice (some ⟨gg,0,none⟩) (l.length + 1) cap6)) hB.1
    simpa [glCells,bstr_nil] using h
  · exact Fr3.mk_ ((F8.drew).alloc (.cells #[.int .i64 a,.string (bstr nm),.bool tr,.bool sc,.int .i64 z.n,.string ⟨#[]⟩] 56)) hgr9 _ _
theorem rgl_41 {r4 rb g cap B k : Nat} {ws : List Wd} {d : Int} {p : Option Addr} {p1 p2 p3 : Value} {W : World} {σ τ1 τ2 τ3 τ4 τ5 : RS} {l : List Gl} {tr sc : Bool} {nm by_ : List UInt8} {a ba : Nat} {y z y2 : Wd} {r r2 : List Wd} (S : Hid (A4 W r4 rb g cap ws d (.slice p l.length k) p1 p2 p3 σ)) (G : Hid (W.ownsRow B 56 6 (.slice p l.length k) l.length (l.flatMap glCells))) (hB : r4 < B ∧ rb < B ∧ g < B ∧ B ≤ W.heap.size) (hl : l.length ≤ 1000000)
 (H1 : Hid (kindF (limF l.length 32 σ) = ((tr,sc),τ1))) (H2 : Hid (nameF τ1 = ((nm,a),(.ok (y :: z :: r))))) (h91 : Hid ((RS.ok (y :: z :: r)).is (⟨#[91]⟩ : ByteArray).data.toList = true)) (hk : (z.k != 1) = false) (hn : decide (z.n < 1) = false) (hn2 : decide (z.n > 64) = false) (hy11 : z.k ≠ 3) (h93 : Hid ((RS.ok r).need (⟨#[93]⟩ : ByteArray).data.toList = τ3)) (hE : τ3 = .ok (y2 :: r2)) (hby : Hid ((RS.ok (y2 :: r2)).is (⟨#[98,121]⟩ : ByteArray).data.toList = true)) (H4 : Hid (nameF (.ok r2) = ((by_,ba),τ4))) (h59 : Hid (τ4.need (⟨#[59]⟩ : ByteArray).data.toList = τ5)) :
 Calls Try.prog 51 #[.pointer (some ⟨r4,0,none⟩)] W fun e w' => e = .returned (.tuple #[]) ∧ ∃ q,A4 w' r4 rb g cap ws d q p1 p2 p3 τ5 ∧ w'.ownsRow B 56 6 q (l.length + 1) ((l ++ [(⟨a,nm,tr,sc,z.n,by_⟩ : Gl)]).flatMap glCells) ∧ Fr3 r4 rb (Value.slice p l.length k).ownBlock W w':=by
 obtain ⟨q4l,qbl,qgl⟩:=S.out.blk
 have hBW:=hB.2.2.2
 have HLT : Hid (∀ j,(Value.slice p l.length k).ownBlock = some j → B ≤ j ∧ j < W.heap.size):=hid G.out.lt
 obtain ⟨i0,hinf,hzi0,hzi1,hzi2⟩:=info_parts infoGl
 obtain ⟨m0,m1,m2,m3,m4,m5⟩:=S.out.at4.cells
 go_enter Try.func51,Try.ntmps51
 go_upto_region 3 with (first
  | (go_at_call 46;(with_reducible refine (r4_limit32 S l.length).mono ?_);rintro e1 w1 ⟨rfl,hs1,hf1⟩)
  | (go_at_call 66;(with_reducible refine (r4_kind (hid hs1) H1.out).mono ?_);rintro e2 w2 ⟨rfl,hs2,hf2⟩;have hz2:=Fr.size (Fr.step hf1 hf2);have GB2:=GBlk.new (X:=w2) (a:=0) (nm:=⟨#[]⟩) (tr:=tr) (sc:=sc) (ln:=0) (yy:=⟨#[]⟩) rfl;have S2:=hid (hs2.alloc (.cells #[.int .i64 0,.string ⟨#[]⟩,.bool tr,.bool sc,.int .i64 0,.string ⟨#[]⟩] 56)))
  | (go_at_call 47;(with_reducible refine (r4_name S2 H2.out).mono ?_);rintro e3 w3 ⟨rfl,hs3,hf3⟩;have hz3:=Fr.size hf3;(try simp only [World.size_alloc] at hz3)))
 refine name_world ?_
 intro w4 hw4
 have GB4 : GBlk w4 w2.heap.size 0 ⟨#[]⟩ tr sc 0 ⟨#[]⟩:=by (rw [hw4];exact (GB2.fr hf3 (by omega)).alloc _)
 have TB4 : TBlk w4 w3.heap.size (bstr nm) a:=by (rw [hw4];exact TBlk.new rfl)
 have S4 : Hid (A4 w4 r4 rb g cap ws d (.slice p l.length k) p1 p2 p3 (.ok (y :: z :: r))):=hid (by (rw [hw4];exact hs3.alloc _))
 have F4 : Fr (some rb) W w4:=by (rw [hw4];exact (((hf1.step hf2).alloc _).step hf3).alloc _)
 have hz4 : w2.heap.size < w4.heap.size:=by (rw [hw4];simp;omega)
 obtain ⟨gl4,⟨gc0,gc1,gc2,gc3,gc4,gc5⟩,gf0,gf1,gf2,gf3,gf4,gf5⟩:=GB4.facts
 obtain ⟨tl4,tc0,tc1,tf0,tf1⟩:=TB4.facts
 clear hw4 m0 m1 m2 m3 m4 m5
 go_upto_region 5 with (fail)
 refine name_world ?_
 intro w5 hw5
 have GB5 : GBlk w5 w2.heap.size a (bstr nm) tr sc 0 ⟨#[]⟩:=by (rw [hw5];exact (GB4.set1 _).set0 _)
 have F5 : Fr (some rb) W w5:=by (rw [hw5];exact (F4.set (.inr (by omega)) _ _).set (.inr (by omega)) _ _)
 have S5 : Hid (A4 w5 r4 rb g cap ws d (.slice p l.length k) p1 p2 p3 (.ok (y :: z :: r))):=hid (by (rw [hw5];exact (S4.out.setO (by omega) (by omega) (by omega) _ _).setO (by omega) (by omega) (by omega) _ _))
 clear hw5 gc0 gc1 gc2 gc3 gc4 gc5 gf0 gf1 gf2 gf3 gf4 gf5 tc0 tc1 tf0 tf1 tl4 gl4 GB4 TB4 S4 F4 hs1 hs2 hs3 hf1 hf2 hf3 GB2 S2
 go_upto_region 6 with (go_at_call 45;(with_reducible refine (r4_is S5 _ true h91).mono ?_);rintro e6 w6 ⟨rfl,hb6⟩;have S6:=hid (S5.out.stay hb6))
 have GB6:=GB5.stay hb6
 have F6:=F5.stepB hb6
 have hy7:=h91
 obtain ⟨i7,a7,R7,h7,_,_,_⟩:=S6.out.st.ok_cells S6.out.env
 obtain ⟨m0,_,_,_,_,_⟩:=S6.out.at4.cells
 obtain ⟨q0,q1,q2,q3,q4⟩:=R7.rd.cells
 have hl47:=S6.out.at4.lt
 have hlr7:=R7.rd.lt
 have hfr7:=R7.rd.frozen 1
 go_upto_region 7 with (fail)
 refine name_world ?_
 intro w7 hw7
 have F9 : Fr (some rb) w6 (w6.setCell ⟨rb,1,none⟩ (.int .i64 ((i7 : Int) + 1))):=(Fr.refl _ _).set (.inl rfl) _ _
 have S7 : Hid (A4 w7 r4 rb g cap ws d (.slice p l.length k) p1 p2 p3 (.ok (z :: r))):=hid (by (rw [hw7];exact S6.out.fr F9 (st_adv S6.out.st R7 (RS.is_ne3 hy7.out) h7)))
 have GB7 : GBlk w7 w2.heap.size a (bstr nm) tr sc 0 ⟨#[]⟩:=by (rw [hw7];exact GB6.setO (by omega) _ _)
 have F7 : Fr (some rb) W w7:=by (rw [hw7];exact F6.step F9)
 clear hw7 m0 q0 q1 q2 q3 q4 R7 h7 F9 hl47 hlr7 hfr7
 go_upto_region 13 with (first
  | (go_at_call 24;(with_reducible refine (r4_wordOk S7).mono ?_);rintro e8 w8 ⟨rfl,hb8⟩;have S8:=hid ((S7.out.stay hb8).alloc (.cells #[.int .i64 z.k,.string (bstr z.t),.int .i64 z.n,.int .i64 z.a] 82));have WB8:=WBlk.new (X:=w8) (k:=z.k) (t:=z.t) (v:=z.n) (a:=z.a) rfl;have GB8:=(GB7.stay hb8).alloc (.cells #[.int .i64 z.k,.string (bstr z.t),.int .i64 z.n,.int .i64 z.a] 82);have F8:=(F7.stepB hb8).alloc (.cells #[.int .i64 z.k,.string (bstr z.t),.int .i64 z.n,.int .i64 z.a] 82);obtain ⟨wl8,wy0,wy1,wy2,wy3⟩:=WB8.facts)
  | (go_at_call 23;(with_reducible refine (r4_ok S8 true rfl).mono ?_);rintro e9 w9 ⟨rfl,hb9⟩;have S9:=hid (S8.out.stay hb9);have GB9:=GB8.stay hb9;have F9':=F8.stepB hb9;have WB9:=WB8.stay hb9;have hz9:=Fr.size F9'))
 obtain ⟨wl9,wz0,wz1,wz2,wz3⟩:=WB9.facts
 obtain ⟨gl,⟨gc0,gc1,gc2,gc3,gc4,gc5⟩,gf0,gf1,gf2,gf3,gf4,gf5⟩:=GB9.facts
 have hgl:=gl
 go_upto_region 14 with (fail)
 refine name_world ?_
 intro w10 hw10
 have S10 : Hid (A4 w10 r4 rb g cap ws d (.slice p l.length k) p1 p2 p3 (.ok (z :: r))):=hid (by (rw [hw10];exact S9.out.setO (by omega) (by omega) (by omega) _ _))
 have GB10 : GBlk w10 w2.heap.size a (bstr nm) tr sc z.n ⟨#[]⟩:=by (rw [hw10];exact GB9.set4 _)
 have F10 : Fr (some rb) W w10:=by (rw [hw10];exact F9'.set (.inr (by omega)) _ _)
 clear hw10
 obtain ⟨i11,a11,R11,h11,_,_,_⟩:=S10.out.st.ok_cells S10.out.env
 obtain ⟨m0,_,_,_,_,_⟩:=S10.out.at4.cells
 obtain ⟨q0,q1,q2,q3,q4⟩:=R11.rd.cells
 have hl411:=S10.out.at4.lt
 have hlr11:=R11.rd.lt
 have hfr11:=R11.rd.frozen 1
 go_upto_region 15 with (fail)
 refine name_world ?_
 intro w11 hw11
 have F9 : Fr (some rb) w10 (w10.setCell ⟨rb,1,none⟩ (.int .i64 ((i11 : Int) + 1))):=(Fr.refl _ _).set (.inl rfl) _ _
 have S11 : Hid (A4 w11 r4 rb g cap ws d (.slice p l.length k) p1 p2 p3 (.ok r)):=hid (by (rw [hw11];exact S10.out.fr F9 (st_adv S10.out.st R11 (hy11) h11)))
 have GB11 : GBlk w11 w2.heap.size a (bstr nm) tr sc z.n ⟨#[]⟩:=by (rw [hw11];exact GB10.setO (by omega) _ _)
 have F11 : Fr (some rb) W w11:=by (rw [hw11];exact F10.step F9)
 clear hw11 m0 q0 q1 q2 q3 q4 R11 h11 F9 hl411 hlr11 hfr11
 go_upto_region 16 with (go_at_call 48;(with_reducible refine (r4_need S11 _ _ h93).mono ?_);rintro e12 w12 ⟨rfl,hs12,hf12⟩)
 refine name_world ?_
 intro w20 hw20
 have S20 : Hid (A4 w20 r4 rb g cap ws d (.slice p l.length k) p1 p2 p3 τ3):=hid (by (rw [hw20];exact hs12))
 have GB20 : GBlk w20 w2.heap.size a (bstr nm) tr sc z.n ⟨#[]⟩:=by (rw [hw20];exact GB11.fr hf12 (by omega))
 have F20 : Fr (some rb) W w20:=by (rw [hw20];exact F11.step hf12)
 clear hw20
 rw [hE] at S20
 go_upto_region 17 with (go_at_call 45;(with_reducible refine (r4_is S20 _ true hby).mono ?_);rintro e21 w21 ⟨rfl,hb21⟩;have S21:=hid (S20.out.stay hb21))
 have GB21:=GB20.stay hb21
 have F21:=F20.stepB hb21
 have hy22:=hby
 obtain ⟨i22,a22,R22,h22,_,_,_⟩:=S21.out.st.ok_cells S21.out.env
 obtain ⟨m0,_,_,_,_,_⟩:=S21.out.at4.cells
 obtain ⟨q0,q1,q2,q3,q4⟩:=R22.rd.cells
 have hl422:=S21.out.at4.lt
 have hlr22:=R22.rd.lt
 have hfr22:=R22.rd.frozen 1
 go_upto_region 18 with (fail)
 refine name_world ?_
 intro w22 hw22
 have F9 : Fr (some rb) w21 (w21.setCell ⟨rb,1,none⟩ (.int .i64 ((i22 : Int) + 1))):=(Fr.refl _ _).set (.inl rfl) _ _
 have S22 : Hid (A4 w22 r4 rb g cap ws d (.slice p l.length k) p1 p2 p3 (.ok r2)):=hid (by (rw [hw22];exact S21.out.fr F9 (st_adv S21.out.st R22 (RS.is_ne3 hy22.out) h22)))
 have GB22 : GBlk w22 w2.heap.size a (bstr nm) tr sc z.n ⟨#[]⟩:=by (rw [hw22];exact GB21.setO (by omega) _ _)
 have F22 : Fr (some rb) W w22:=by (rw [hw22];exact F21.step F9)
 clear hw22 m0 q0 q1 q2 q3 q4 R22 h22 F9 hl422 hlr22 hfr22
 have hz22:=Fr.size F22
 go_upto_region 19 with (go_at_call 47;(with_reducible refine (r4_name S22 H4.out).mono ?_);rintro e23 w23 ⟨rfl,hs23,hf23⟩;have hz23:=Fr.size hf23;have hz24:=Fr.size (F22.step hf23))
 have TB23:=TBlk.new (X:=w23) (s:=bstr by_) (a:=ba) rfl
 have GB23:=(GB22.fr hf23 (by omega)).alloc (.cells #[.string (bstr by_),.int .i64 ba] 125)
 have F23:=(F22.step hf23).alloc (.cells #[.string (bstr by_),.int .i64 ba] 125)
 obtain ⟨tl4,tc0,tc1,tf0,tf1⟩:=TB23.facts
 obtain ⟨gl,⟨gc0,gc1,gc2,gc3,gc4,gc5⟩,gf0,gf1,gf2,gf3,gf4,gf5⟩:=GB23.facts
 go_upto_region 20 with (fail)
 refine name_world ?_
 intro w30 hw30
 have S30 : Hid (A4 w30 r4 rb g cap ws d (.slice p l.length k) p1 p2 p3 τ4):=hid (by (rw [hw30];exact (hs23.alloc _).setO (by omega) (by omega) (by omega) _ _))
 have GB30 : GBlk w30 w2.heap.size a (bstr nm) tr sc z.n (bstr by_):=by (rw [hw30];exact GB23.set5 _)
 have F30 : Fr (some rb) W w30:=by (rw [hw30];exact F23.set (.inr (by omega)) _ _)
 clear hw30
 go_upto_region 21 with (go_at_call 48;(with_reducible refine (r4_need S30 _ _ h59).mono ?_);rintro e8 w8 ⟨rfl,hs8,hf8⟩)
 have GB8:=GB30.fr hf8 (by omega)
 have F8 : Fr (some rb) W w8:=F30.step hf8
 have G8:=own_fr G.out F8 hB.2.1
 have hz8:=Fr.size F8
 obtain ⟨gl8,⟨gc0,gc1,gc2,gc3,gc4,gc5⟩,_⟩:=GB8.facts
 obtain ⟨m0,m1,m2,m3,m4,m5⟩:=hs8.at4.cells
 have ml:=hs8.at4.lt
 have mf:=hs8.at4.frozen 2
 have hown : ∀ k',k' < B → some k' ≠ (Value.slice p l.length k).ownBlock:=fun k' hk e => by (have:=(HLT.out k' e.symm).1;omega)
 go_region_law (refine step_append_lies _ (by rfl) _ _ _ (by rfl) B 56 i0 _ 6 56 Try.underlying24 hinf hzi0 hzi1 hzi2 rfl (by decide) (.slice p l.length k) l.length (l.flatMap glCells) (by rfl) (own_below G8 (by (with_reducible repeat first | exact Below.refl _ _ | refine Below.alloc ?_ (by first | omega | (simp;omega)) _ | refine Below.drewN ?_ _ | refine Below.drew ?_ | refine Below.setCell ?_ (by first | omega | (simp;omega)) _ | refine Below.trans ?_ (by assumption)))) ⟨_,0,none⟩ 1 1 [.int .i64 a,.string (bstr nm),.bool tr,.bool sc,.int .i64 z.n,.string (bstr by_)] (by rfl) (by rfl) (World.news_of_block (heap_alloc_new _ _)) raw6_one (by decide) (by unfold maxLen;omega) (by omega) (by simp;omega) _ rfl ?_;intro gg cap6 w9 hown9 hgrow9 hor9 hlt9;have hgr9 : World.grownBy _ w9 (Value.slice p l.length k).ownBlock:=hgrow9;have S9:=hid (((hs8.drew).alloc (.cells #[.int .i64 a,.string (bstr nm),.bool tr,.bool sc,.int .i64 z.n,.string (bstr by_)] 56)).grow hgr9 (hown _ hB.1) (hown _ hB.2.1) (hown _ hB.2.2.1));obtain ⟨n0,n1,n2,n3,n4,n5⟩:=S9.out.at4.cells;have nl:=S9.out.at4.lt;have nf:=S9.out.at4.frozen 2)
 all_goals go_end0
 all_goals
  refine ⟨rfl,_,S9.out.set2 _,?_,?_⟩
  · have h:=own_fr hown9 ((Fr.refl (some r4) _).set (.inl rfl) 2 (.slice (some ⟨gg,0,none⟩) (l.length + 1) cap6)) hB.1
    simpa [glCells,bstr_nil] using h
  · exact Fr3.mk_ ((F8.drew).alloc (.cells #[.int .i64 a,.string (bstr nm),.bool tr,.bool sc,.int .i64 z.n,.string (bstr by_)] 56)) hgr9 _ _
end Go.Proofs.Ytbmmjomcjlpnlaa
