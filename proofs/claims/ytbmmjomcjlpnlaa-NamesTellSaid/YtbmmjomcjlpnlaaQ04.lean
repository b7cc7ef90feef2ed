/- Joined texts: Rexpr R4 R4b R4c St Ql RstA: lemmas for the law; each says its own conditions. -/
import Derived.Test.YtbmmjomcjlpnlaaQ02
import Derived.Test.YtbmmjomcjlpnlaaQ03
set_option linter.unusedSimpArgs false
set_option linter.unusedVariables false
set_option maxRecDepth 100000
set_option maxHeartbeats 8000000
open Go.Lib (hid)
namespace Go.Proofs.Ytbmmjomcjlpnlaa
open Go Go.RowKit
theorem IsExP.drewN {ok : Nat → Prop} {W : World} {e : Ex} {v : Value} (h : IsExP ok W e v) (n : Nat) : IsExP ok (W.drewN n) e v:=h.kept fun g hg hl => ⟨rfl,hg⟩
theorem rop_of {t : List UInt8} {K : Int} (h : opB t = K) (w : World) : Calls Try.prog 76 #[.string (bstr t)] w fun e w' => e = .returned (.int .i64 K) ∧ Below w.heap.size w w':=h ▸ rop_any (bstr t) w
theorem rrank_of {K M : Int} (h : rnkZ K = M) (w : World) : Calls Try.prog 77 #[.int .i64 K] w fun e w' => e = .returned (.int .i64 M) ∧ Below w.heap.size w w':=h ▸ rrank_any K w
def LpNext (o : Nat) (r : Int) (l : Ex) (t : List UInt8) (res : Res) : Res → Prop
 | .ok x tt => P o (.loop r (.mk 6 (opB t) 0 [] [l,x] l.a)) tt res
 | .bad c a => res = .bad c a
 | _ => False
theorem lp_step {o : Nat} {r : Int} {l : Ex} {d : Wd} {tt : List Wd} {res : Res} (h : P o (.loop r l) (d :: tt) res) (hr : r ≤ rkW d) : ∃ r2,P o (.expr (rkW d + 1)) tt r2 ∧ LpNext o r l d.t res r2:=by
 cases h with
 | loopEnd h1 => omega
 | loopMore h1 h2 h3 => exact ⟨_,h2,h3⟩
 | loopBad h1 h2 => exact ⟨_,h2,rfl⟩
theorem lp_end {o : Nat} {r : Int} {l : Ex} {d : Wd} {tt : List Wd} {res : Res} (h : P o (.loop r l) (d :: tt) res) (hr : rkW d < r) : res = .ok l (d :: tt):=by
 cases h with
 | loopEnd h1 => rfl
 | loopMore h1 h2 h3 => omega
 | loopBad h1 h2 => omega
def ERel (ok : Nat → Prop) (o : Nat) (r : Int) (N : Nat) (res : Res) (W : World) (σ : RS) (k q n : Int) (nm : ByteArray) (p : Option Addr) (l c : Nat) (a : Int) : Prop :=
 (∃ left tt,σ = .ok tt ∧ (k = left.k ∧ q = left.op ∧ n = left.n ∧ nm = bstr left.nm ∧ l = left.ks.length ∧ a = left.a ∧ IsExP ok W left (.slice p l c)) ∧ P o (.loop r left) tt res ∧ tt.length < N) ∨ (∃ c' a',σ = .bad c' a' ∧ res = .bad c' a')
theorem rex_len {o : Nat} {j : Int} {ts tt : List Wd} {r : Res} (hP : P o (.expr j) ts r) (hj : 1 ≤ j ∧ j ≤ 11) (hF : Fin ts) (h : r.st = .ok tt) : tt.length < ts.length:=by
 have hpo:=hP.post' hj hF
 cases r with
 | ok e ts' =>
  cases h
  simp only [Post,Job.lst,Job.min] at hpo
  omega
 | okL es ts' =>
  cases h
  simp only [Post,Job.lst,Job.min] at hpo
  omega
 | bad => cases h
theorem th_len {o : Nat} {ts tt : List Wd} {r : Res} (hP : P o .thing ts r) (hF : Fin ts) (h : r.st = .ok tt) : tt.length < ts.length:=by
 have hpo:=hP.post' trivial hF
 cases r with
 | ok e ts' =>
  cases h
  simp only [Post,Job.lst,Job.min] at hpo
  omega
 | okL es ts' =>
  cases h
  simp only [Post,Job.lst,Job.min] at hpo
  omega
 | bad => cases h
theorem ex_split {o : Nat} {r : Int} {ts : List Wd} {res : Res} (h : P o (.expr r) ts res) (hF : Fin ts) : ∃ r1,P o .thing ts r1 ∧ (match r1 with | .ok l tt => P o (.loop r l) tt res | .bad c a => res = .bad c a | _ => False):=by
 cases h with
 | expr h1 h2 => exact ⟨_,h1,h2⟩
 | exprBad h1 => exact ⟨_,h1,rfl⟩
theorem rex_step (rb g : Nat) (ws : List Wd) (o : Nat) (r : Int) (ts0 : List Wd) (res : Res) (IH : BelowR rb g ws (4 * ts0.length + 2)) (hP : P o (.expr r) ts0 res) (hs0 : ts0 <:+ ws) (hF0 : Fin ts0) (hr : 1 ≤ r ∧ r ≤ 11) (ho : o ≤ 32) :
 SndR rb g ws 73 #[.pointer (some ⟨rb,0,none⟩),.int .i64 r] o ts0 res:=by
 obtain ⟨r1,hP1,hL1⟩:=ex_split hP hF0
 have H1 : Hid (SndR rb g ws 75 #[.pointer (some ⟨rb,0,none⟩)] o ts0 r1):=hid (IH .thing _ _ _ hP1 hs0 hF0 trivial ho (by simp only [Job.wt];omega))
 intro W cap E0 S0
 have hrl:=S0.lt
 have hgl:=E0.wc.lt
 have hfew:=E0.few
 have HI:=hid IH
 have HR:=hid hr
 have HL1:=hid (And.intro hL1 (And.intro hP1 hF0))
 have S:=hid S0
 have E:=hid E0
 have hne0 : rb ≠ W.heap.size:=by omega
 clear S0 E0 IH hP hP1 hL1 hs0 hF0 hr
 go_enter Try.func73,Try.ntmps73
 go_wp2_with (go_at_call 75;(with_reducible refine (H1.out.use _ cap (E.out.stay (by (refine Fr.below ?_;(with_reducible repeat first | exact Fr.refl _ _ | refine Fr.alloc ?_ _ | refine Fr.drewN ?_ _ | refine Fr.drew ?_ | (refine Fr.set ?_ ?_ _ _;rotate_left;first | exact .inl rfl | (right;simp;done) | (right;simp;omega) | (right;omega)) | refine Fr.step ?_ (by assumption) | refine Fr.stepB ?_ (by assumption))))) (by (with_reducible repeat first | exact S.out | refine StR.alloc ?_ _ | refine StR.drewN ?_ _ | refine StR.drew ?_ | refine StR.setO ?_ (by first | assumption | omega) _ _ | refine StR.stay ?_ (by assumption)))).mono ?_);rintro e1 w1 ⟨hf1,hs1,k1,q1,n1,nm1,p1,l1,c1,a1,rfl,hg1⟩;have BR1:=(Blk.new (X:=W) rfl (.int .i64 0) (.int .i64 0) (.int .i64 0) (.string ⟨#[]⟩) (.slice none 0 0) (.int .i64 0)).fr hf1 (Ne.symm hne0);have hz1:=Fr.size hf1;(try simp at hz1))
 have hF1 : Fr (some rb) W w1:=((Fr.refl _ _).alloc _).step hf1
 have hb6 : w1.heap.size ≠ rb:=by omega
 have hb60 : w1.heap.size ≠ W.heap.size:=by omega
 go_loopw [6,7,8] (fun _ _ _ wr => ∃ σ k q n nm p l c a,Fr (some rb) W wr ∧ w1.heap.size < wr.heap.size ∧ Blk wr W.heap.size (.int .i64 0) (.int .i64 0) (.int .i64 0) (.string ⟨#[]⟩) (.slice none 0 0) (.int .i64 0) ∧ Blk wr w1.heap.size (.int .i64 k) (.int .i64 q) (.int .i64 n) (.string nm) (.slice p l c) (.int .i64 a) ∧ StR wr rb g cap ws o σ ∧ ERel (fun b => W.heap.size < b ∧ b ≠ w1.heap.size) o r ts0.length res wr σ k q n nm p l c a) (fun _ _ _ wr => msR wr rb ws.length)
 case atStart =>
  refine ⟨r1.st,k1,q1,n1,nm1,p1,l1,c1,a1,hF1.alloc _,by simp,BR1.alloc _,Blk.new rfl _ _ _ _ _ _,hs1.alloc _,?_⟩
  cases r1 with
  | ok l tt =>
   obtain ⟨h1,h2,h3,h4,h5,h6,h7⟩:=hg1 l tt rfl
   refine .inl ⟨l,tt,rfl,⟨h1,h2,h3,h4,h5,h6,?_⟩,HL1.out.1,th_len HL1.out.2.1 HL1.out.2.2 rfl⟩
   refine h7.toP fun b hb hl => ⟨Below.heap_alloc _ _ b hl,?_,by omega⟩
   simp at hb
   omega
  | okL => exact HL1.out.1.elim
  | bad c' a' => exact .inr ⟨c',a',rfl,HL1.out.1⟩
 case round =>
  obtain ⟨σ,k,q,n,nm,p,l,c,a,hFW,hsz,hBR,hBE,hS,hrel⟩:=hrel
  have S1:=hid hS
  have E1 : Hid (EnvR rb g ws wr):=hid (E.out.kept hFW)
  have HBR:=hid hBR
  have HBE:=hid hBE
  rcases hrel with ⟨left,tt,rfl,hv,hPl,hlen⟩ | ⟨c',a',rfl,rfl⟩
  · obtain ⟨d,tt',rfl⟩:=hS.2.1.ne
    obtain ⟨i,a0,R0,h5,h6,h7,hdm⟩:=hS.ok_cells E1.out
    obtain ⟨⟨r0,r1',r2',r3,r4⟩,⟨d0,d1,d2,d3⟩,_,hgl1,hi1,hi2,hfz⟩:=R0.facts
    have hlr:=R0.rd.lt
    have HV:=hid hv
    have RR:=hid R0
    by_cases hlt : rkW d < r
    · obtain rfl:=lp_end hPl hlt
      by_cases hk2 : d.k = 2
      · have k2 : (d.k == 2) = true:=by simp [hk2]
        obtain ⟨K,hK⟩ : ∃ K,K = opB d.t:=⟨_,rfl⟩
        obtain ⟨M,hM⟩ : ∃ M,M = rkW d:=⟨_,rfl⟩
        have hKM : rnkZ K = M:=by (rw [hK,hM];unfold rkW;rw [if_pos hk2])
        have hMr : M < r:=by omega
        have HK:=hid hK.symm
        have HM:=hid hKM
        clear hK hM hKM hk2 hlt hPl hS hv hBR hBE hdm R0 hfz
        go_wp2
        go_quiet (fail)
        go_wp2
        refine name_world ?_
        intro w2 hw2
        have hb2 : Below wr.heap.size wr w2:=by (rw [hw2];(refine Fr.below ?_;(with_reducible repeat first | exact Fr.refl _ _ | refine Fr.alloc ?_ _ | refine Fr.drewN ?_ _ | refine Fr.drew ?_ | (refine Fr.set ?_ ?_ _ _;rotate_left;first | exact .inl rfl | (right;simp;done) | (right;simp;omega) | (right;omega)) | refine Fr.step ?_ (by assumption) | refine Fr.stepB ?_ (by assumption))))
        have RR2:=hid (RR.out.kept hb2)
        obtain ⟨⟨y0,y1,_,_,_⟩,⟨x0,x1,_,_⟩,yl,xl,_,_,_⟩:=RR2.out.facts
        clear hw2 r0 r1' d0 d1
        go_still_tail 11,(by kernel_rfl)
        go_wp2_with (first
         | (go_at_call 76;(with_reducible refine (rop_of HK.out _).mono ?_);rintro e3 w3 ⟨rfl,hb3⟩)
         | (go_at_call 77;(with_reducible refine (rrank_of HM.out _).mono ?_);rintro e4 w4 ⟨rfl,hb4⟩;have hb23 : Below w2.heap.size w2 w3:=(by (refine Fr.below ?_;(with_reducible repeat first | exact Fr.refl _ _ | refine Fr.alloc ?_ _ | refine Fr.drewN ?_ _ | refine Fr.drew ?_ | (refine Fr.set ?_ ?_ _ _;rotate_left;first | exact .inl rfl | (right;simp;done) | (right;simp;omega) | (right;omega)) | refine Fr.step ?_ (by assumption) | refine Fr.stepB ?_ (by assumption))));have hb34 : Below wr.heap.size wr w4:=(hb2.trans (hb23.mono hb2.size)).trans (hb4.mono (hb2.trans (hb23.mono hb2.size)).size);have BR4:=HBR.out.stay hb34;have BE4:=HBE.out.stay hb34;(obtain ⟨blr,c0r,c1r,c2r,c3r,c4r,c5r,f0r,f1r,f2r,f3r,f4r,f5r⟩:=(BR4).facts);(obtain ⟨bll,c0l,c1l,c2l,c3l,c4l,c5l,f0l,f1l,f2l,f3l,f4l,f5l⟩:=(BE4).facts)))
        refine bodyPost_ret (results_ex rfl _ rfl (BR4.all _ _ _ _ _ _)) rfl ⟨by exact (((((((hFW.stepB hb34).set (.inr (Nat.le_refl _)) _ _).set (.inr (Nat.le_refl _)) _ _).set (.inr (Nat.le_refl _)) _ _).set (.inr (Nat.le_refl _)) _ _).set (.inr (Nat.le_refl _)) _ _).set (.inr (Nat.le_refl _)) _ _),?_,_,_,_,_,_,_,_,_,rfl,?_⟩
        · show StR _ rb g cap ws o (.ok (d :: tt'))
          (with_reducible repeat first | exact S1.out | refine StR.alloc ?_ _ | refine StR.drewN ?_ _ | refine StR.drew ?_ | refine StR.setO ?_ (by first | assumption | omega) _ _ | refine StR.stay ?_ (by assumption))
        · intro x' ts' e
          cases e
          obtain ⟨v1,v2,v3,v4,v5,v6,v7⟩:=HV.out
          refine ⟨v1,v2,v3,v4,v5,v6,IsExP.toEx (ok:=fun b => W.heap.size < b ∧ b ≠ w1.heap.size) ?_ (fun b hb => by have:=hb.1;omega)⟩
          (with_reducible repeat first | exact v7 | refine IsExP.alloc ?_ _ | refine IsExP.drewN ?_ _ | refine IsExP.drew ?_ | (refine IsExP.set ?_ ?_ _ _;rotate_left;(intro b hb;have hb1:=hb.1;have hb2:=hb.2;omega)) | refine IsExP.fr ?_ (by assumption) (by intro b hb;have hb1:=hb.1;have hb2:=hb.2;omega) | refine IsExP.stay ?_ (by assumption))
      · have k2 : (d.k == 2) = false:=by simp [hk2]
        clear hk2 hlt hPl hS hv hBR hBE hdm R0 hfz
        obtain ⟨blr,c0r,c1r,c2r,c3r,c4r,c5r,f0r,f1r,f2r,f3r,f4r,f5r⟩:=(HBR.out).facts
        obtain ⟨bll,c0l,c1l,c2l,c3l,c4l,c5l,f0l,f1l,f2l,f3l,f4l,f5l⟩:=(HBE.out).facts
        go_wp2
        go_quiet (fail)
        go_wp2
        refine bodyPost_ret (results_ex rfl _ rfl ((HBR.out.drewN _).all _ _ _ _ _ _)) rfl ⟨by exact (((((((hFW.drewN _).set (.inr (Nat.le_refl _)) _ _).set (.inr (Nat.le_refl _)) _ _).set (.inr (Nat.le_refl _)) _ _).set (.inr (Nat.le_refl _)) _ _).set (.inr (Nat.le_refl _)) _ _).set (.inr (Nat.le_refl _)) _ _),?_,_,_,_,_,_,_,_,_,rfl,?_⟩
        · show StR _ rb g cap ws o (.ok (d :: tt'))
          (with_reducible repeat first | exact S1.out | refine StR.alloc ?_ _ | refine StR.drewN ?_ _ | refine StR.drew ?_ | refine StR.setO ?_ (by first | assumption | omega) _ _ | refine StR.stay ?_ (by assumption))
        · intro x' ts' e
          cases e
          obtain ⟨v1,v2,v3,v4,v5,v6,v7⟩:=HV.out
          refine ⟨v1,v2,v3,v4,v5,v6,IsExP.toEx (ok:=fun b => W.heap.size < b ∧ b ≠ w1.heap.size) ?_ (fun b hb => by have:=hb.1;omega)⟩
          (with_reducible repeat first | exact v7 | refine IsExP.alloc ?_ _ | refine IsExP.drewN ?_ _ | refine IsExP.drew ?_ | (refine IsExP.set ?_ ?_ _ _;rotate_left;(intro b hb;have hb1:=hb.1;have hb2:=hb.2;omega)) | refine IsExP.fr ?_ (by assumption) (by intro b hb;have hb1:=hb.1;have hb2:=hb.2;omega) | refine IsExP.stay ?_ (by assumption))
    · obtain ⟨r2,hP2,hN2⟩:=lp_step hPl (by omega)
      have hk1 : 1 ≤ rkW d:=by (have:=HR.out.1;omega)
      have hk2:=(rkW_ne hk1).1
      have hbd:=rkW_bd d
      have k2 : (d.k == 2) = true:=by simp [hk2]
      have hd3 : d.k ≠ 3:=by (rw [hk2];decide)
      have hst : tt' <:+ ws:=(suf_at hS.1).2.2
      have hFt : Fin tt':=hS.2.1.cons hd3
      have hln : tt'.length + 1 < ts0.length:=by simpa using hlen
      have H2 : Hid (SndR rb g ws 73 #[.pointer (some ⟨rb,0,none⟩),.int .i64 (rkW d + 1)] o tt' r2):=hid (HI.out (.expr (rkW d + 1)) _ _ _ hP2 hst hFt ⟨by omega,by omega⟩ ho (by simp only [Job.wt];omega))
      have HP2:=hid (And.intro hP2 (And.intro hN2 (And.intro hFt (show 1 ≤ rkW d + 1 ∧ rkW d + 1 ≤ 11 by omega))))
      obtain ⟨K,hK⟩ : ∃ K,K = opB d.t:=⟨_,rfl⟩
      obtain ⟨M,hM⟩ : ∃ M,M = rkW d:=⟨_,rfl⟩
      have hKM : rnkZ K = M:=by (rw [hK,hM];unfold rkW;rw [if_pos hk2])
      rw [← hM] at H2 hbd hk1 hlt
      have hM0 : (M == 0) = false:=by simp;omega
      have hMr : decide (M < r) = false:=by simpa using hlt
      have HK:=hid hK.symm
      have HM:=hid hKM
      have HHK:=hid hK
      obtain ⟨hbd0,hbd1⟩:=hbd
      have HLN:=hid hln
      have HH5:=hid h5
      have HXr : Hid (IsExP (fun b => (W.heap.size < b ∧ b ≠ w1.heap.size) ∧ b < wr.heap.size) wr left (.slice p l c)):=hid (hv.2.2.2.2.2.2.kept fun b hb hl => ⟨rfl,hb,hl⟩)
      clear hK hM hKM hk2 hPl hS hv hBR hBE hdm R0 hfz hP2 hN2 hst hFt hln hlen hk1 h5
      go_wp2
      go_quiet (fail)
      go_wp2
      refine name_world ?_
      intro w2 hw2
      have hb2 : Below wr.heap.size wr w2:=by (rw [hw2];(refine Fr.below ?_;(with_reducible repeat first | exact Fr.refl _ _ | refine Fr.alloc ?_ _ | refine Fr.drewN ?_ _ | refine Fr.drew ?_ | (refine Fr.set ?_ ?_ _ _;rotate_left;first | exact .inl rfl | (right;simp;done) | (right;simp;omega) | (right;omega)) | refine Fr.step ?_ (by assumption) | refine Fr.stepB ?_ (by assumption))))
      have RR2:=hid (RR.out.kept hb2)
      obtain ⟨⟨y0,y1,_,_,_⟩,⟨x0,x1,_,_⟩,yl,xl,_,_,_⟩:=RR2.out.facts
      clear hw2 r0 r1' d0 d1
      go_still_tail 11,(by kernel_rfl)
      go_wp2_with (first
       | (go_at_call 76;(with_reducible refine (rop_of HK.out _).mono ?_);rintro e3 w3 ⟨rfl,hb3⟩)
       | (go_at_call 77;(with_reducible refine (rrank_of HM.out _).mono ?_);rintro e4 w4 ⟨rfl,hb4⟩;have hb23 : Below w2.heap.size w2 w3:=(by (refine Fr.below ?_;(with_reducible repeat first | exact Fr.refl _ _ | refine Fr.alloc ?_ _ | refine Fr.drewN ?_ _ | refine Fr.drew ?_ | (refine Fr.set ?_ ?_ _ _;rotate_left;first | exact .inl rfl | (right;simp;done) | (right;simp;omega) | (right;omega)) | refine Fr.step ?_ (by assumption) | refine Fr.stepB ?_ (by assumption))));have hb34 : Below wr.heap.size wr w4:=(hb2.trans (hb23.mono hb2.size)).trans (hb4.mono (hb2.trans (hb23.mono hb2.size)).size);have BR4:=HBR.out.stay hb34;have BE4:=HBE.out.stay hb34;have R4:=RR.out.kept hb34;obtain ⟨⟨z0,z1,z2,z3,z4⟩,_,zl,_,_,_,_⟩:=R4.facts;have zf:=R4.rd.frozen 1;have S8:=hid (st_adv (S1.out.stay hb34) R4 hd3 HH5.out);have E8:=hid ((E1.out.stay hb34).kept ((Fr.refl (some rb) w4).set (.inl rfl) 1 (.int .i64 ((i : Int) + 1))));have hz4:=hb34.size)
       | (go_at_call 73;(with_reducible refine (H2.out.use _ cap E8.out S8.out).mono ?_);rintro e5 w5 ⟨hf5,hs5,k5,q5,n5,nm5,p5,l5,c5,a5,rfl,hg5⟩;have hz5:=Fr.size hf5;(try simp only [World.size_setCell] at hz5);have BR5:=(BR4.setO (Ne.symm hne0) 1 (.int .i64 ((i : Int) + 1))).fr hf5 (Ne.symm hne0);have BE5:=(BE4.setO hb6 1 (.int .i64 ((i : Int) + 1))).fr hf5 hb6;(obtain ⟨bll,c0l,c1l,c2l,c3l,c4l,c5l,f0l,f1l,f2l,f3l,f4l,f5l⟩:=(BE5).facts);have hne5 : w1.heap.size ≠ w5.heap.size:=by omega))
      have hFW5 : Hid (Fr (some rb) W w5):=hid (((hFW.stepB hb34).set (.inl rfl) 1 (.int .i64 ((i : Int) + 1))).step hf5)
      have hz5' : wr.heap.size ≤ w5.heap.size:=by omega
      have hb61 : rb ≠ w1.heap.size:=Ne.symm hb6
      have hb62 : W.heap.size ≠ w1.heap.size:=Ne.symm hb60
      have hSF:=((((((((hs5.setO hb61 0 (.int .i64 6)).setO hb61 1 (.int .i64 K)).setO hb61 2 (.int .i64 0)).setO hb61 3 (.string ⟨#[]⟩)).setO hb61 4 (.slice (some ⟨w5.heap.size + 1,0,none⟩) 2 2)).setO hb61 5 (.int .i64 a)).alloc (.cells #[.int .i64 k5,.int .i64 q5,.int .i64 n5,.string nm5,.slice p5 l5 c5,.int .i64 a5] 63)).alloc (.cells #[.int .i64 k,.int .i64 q,.int .i64 n,.string nm,.slice p l c,.int .i64 a,.int .i64 k5,.int .i64 q5,.int .i64 n5,.string nm5,.slice p5 l5 c5,.int .i64 a5] 63))
      refine ⟨⟨r2.st,6,K,0,⟨#[]⟩,some ⟨w5.heap.size + 1,0,none⟩,2,2,a,((((((((hFW5.out.set (.inr (by omega)) _ _).set (.inr (by omega)) _ _).set (.inr (by omega)) _ _).set (.inr (by omega)) _ _).set (.inr (by omega)) _ _).set (.inr (by omega)) _ _).alloc _).alloc _),by simp;omega,((((((((BR5.setO hb62 _ _).setO hb62 _ _).setO hb62 _ _).setO hb62 _ _).setO hb62 _ _).setO hb62 _ _).alloc _).alloc _),(((BE5.all _ _ _ _ _ _).alloc _).alloc _),hSF,?_⟩,?_⟩
      · cases r2 with
        | ok x tt2 =>
         obtain ⟨h1,h2,h3,h4,h5,h6,h7⟩:=hg5 x tt2 rfl
         obtain ⟨v1,v2,v3,v4,v5,v6,v7⟩:=HV.out
         subst h1 h2 h3 h4 h5 h6 v1 v2 v3 v4 v5 v6
         have hPn:=HP2.out.2.1
         simp only [LpNext] at hPn
         rw [← HHK.out] at hPn
         have hln2:=rex_len HP2.out.1 HP2.out.2.2.2 HP2.out.2.2.1 rfl
         refine .inl ⟨.mk 6 K 0 [] [left,x] left.a,tt2,rfl,⟨rfl,rfl,rfl,rfl,rfl,rfl,?_⟩,hPn,by (have:=HLN.out;omega)⟩
         refine IsExP.twoAt ?_ ?_ (by simp) ⟨by simp;omega,by simp;omega⟩ 6 K 0 [] left.a
         · refine IsExP.weak (ok:=fun b => (W.heap.size < b ∧ b ≠ w1.heap.size) ∧ b < wr.heap.size) ?_ (fun b hb => hb.1)
           (with_reducible repeat first | exact HXr.out | refine IsExP.alloc ?_ _ | refine IsExP.drewN ?_ _ | refine IsExP.drew ?_ | (refine IsExP.set ?_ ?_ _ _;rotate_left;(intro b hb;have hb1:=hb.1;have hb2:=hb.2;omega)) | refine IsExP.fr ?_ (by assumption) (by intro b hb;have hb1:=hb.1;have hb2:=hb.2;omega) | refine IsExP.stay ?_ (by assumption))
         · refine IsEx.toP (lo:=w4.heap.size) ?_ (fun b hb hl => ⟨rfl,by omega,by omega⟩)
           have hx6 : IsEx w4.heap.size w5 x (.slice p5 x.ks.length c5):=IsEx.low h7 (by simp)
           (with_reducible repeat first | exact hx6 | refine IsEx.alloc ?_ _ | refine IsEx.drewN ?_ _ | refine IsEx.drew ?_ | (refine IsEx.set ?_ ?_ _ _;rotate_left;first | omega | (simp;done) | (simp;omega)) | refine IsEx.fr ?_ (by assumption) (by omega) | refine IsEx.stay ?_ (by assumption))
        | okL => exact HP2.out.2.1.elim
        | bad c' a' => exact .inr ⟨c',a',rfl,HP2.out.2.1⟩
      · rw [hSF.ms,S1.out.ms]
        cases r2 with
        | ok x tt2 =>
         have hln2:=rex_len HP2.out.1 HP2.out.2.2.2 HP2.out.2.2.1 rfl
         simp only [RS.ms,Res.st,List.length_cons]
         omega
        | okL => exact HP2.out.2.1.elim
        | bad c' a' => simp only [RS.ms,Res.st];omega
  · obtain ⟨hc0,ib,hib,hRb⟩:=hS
    obtain ⟨q0,q1,q2,q3,q4⟩:=hRb.cells
    have hlr:=hRb.lt
    have hd : (c' == 0) = false:=by simp [hc0]
    clear hBR hBE hRb hc0
    obtain ⟨blr,c0r,c1r,c2r,c3r,c4r,c5r,f0r,f1r,f2r,f3r,f4r,f5r⟩:=(HBR.out).facts
    obtain ⟨bll,c0l,c1l,c2l,c3l,c4l,c5l,f0l,f1l,f2l,f3l,f4l,f5l⟩:=(HBE.out).facts
    go_wp2
    go_quiet (fail)
    go_wp2
    refine bodyPost_ret (results_ex rfl _ rfl ((HBR.out.drewN _).all _ _ _ _ _ _)) rfl ⟨by exact (((((((hFW.drewN _).set (.inr (Nat.le_refl _)) _ _).set (.inr (Nat.le_refl _)) _ _).set (.inr (Nat.le_refl _)) _ _).set (.inr (Nat.le_refl _)) _ _).set (.inr (Nat.le_refl _)) _ _).set (.inr (Nat.le_refl _)) _ _),?_,_,_,_,_,_,_,_,_,rfl,?_⟩
    · show StR _ rb g cap ws o (.bad c' a')
      (with_reducible repeat first | exact S1.out | refine StR.alloc ?_ _ | refine StR.drewN ?_ _ | refine StR.drew ?_ | refine StR.setO ?_ (by first | assumption | omega) _ _ | refine StR.stay ?_ (by assumption))
    · intro x' ts' e
      cases e
theorem all_r (rb g : Nat) (ws : List Wd) : ∀ N,BelowR rb g ws N:=by
 intro N
 induction N with
 | zero => intro j o ts r _ _ _ _ _ h;omega
 | succ N ih =>
  intro j o ts r hP hs hF hm ho hN
  cases j with
  | thing => exact rth_step rb g ws o ts r (fun j o ts' r' a b c d e f => ih j o ts' r' a b c d e (by simp only [Job.wt] at hN;omega)) hP hs hF ho
  | nam => exact rnam_step rb g ws o ts r (fun j o ts' r' a b c d e f => ih j o ts' r' a b c d e (by simp only [Job.wt] at hN;omega)) hP hs hF hm ho
  | expr q => exact rex_step rb g ws o q ts r (fun j o ts' r' a b c d e f => ih j o ts' r' a b c d e (by simp only [Job.wt] at hN;omega)) hP hs hF hm ho
  | beh => trivial
  | wth => trivial
  | giv => trivial
  | loop => trivial
  | list => trivial
theorem rexpr_any (rb g : Nat) (ws : List Wd) (o : Nat) (q : Int) (ts : List Wd) (r : Res) (hP : P o (.expr q) ts r) (hs : ts <:+ ws) (hF : Fin ts) (hq : 1 ≤ q ∧ q ≤ 11) (ho : o ≤ 32) : SndR rb g ws 73 #[.pointer (some ⟨rb,0,none⟩),.int .i64 q] o ts r :=
 all_r rb g ws _ (.expr q) o ts r hP hs hF hq ho (Nat.lt_succ_self _)
end Go.Proofs.Ytbmmjomcjlpnlaa
namespace Go.Proofs.Ytbmmjomcjlpnlaa
open Go Go.RowKit
def R4At (W : World) (r4 rb : Nat) (d : Int) (p0 p1 p2 p3 : Value) : Prop:=W.heap[r4]? = some (.cells #[.pointer (some ⟨rb,0,none⟩),.int .i64 d,p0,p1,p2,p3] 80 (0,0))
section
variable {W X : World} {r4 rb : Nat} {d : Int} {p0 p1 p2 p3 : Value}
theorem R4At.cells (h : R4At W r4 rb d p0 p1 p2 p3) :
 W.cell? ⟨r4,0,none⟩ = some (.pointer (some ⟨rb,0,none⟩)) ∧ W.cell? ⟨r4,1,none⟩ = some (.int .i64 d) ∧ W.cell? ⟨r4,2,none⟩ = some p0 ∧ W.cell? ⟨r4,3,none⟩ = some p1 ∧ W.cell? ⟨r4,4,none⟩ = some p2 ∧ W.cell? ⟨r4,5,none⟩ = some p3:=by
 refine ⟨?_,?_,?_,?_,?_,?_⟩ <;> rw [cell_of_row _ _ _ _ _ _ h] <;> rfl
theorem R4At.lt (h : R4At W r4 rb d p0 p1 p2 p3) : r4 < W.heap.size:=(Array.getElem?_eq_some_iff.1 h).1
theorem R4At.frozen (h : R4At W r4 rb d p0 p1 p2 p3) (o : Nat) : W.frozen? ⟨r4,o,none⟩ = false:=frozen_of_row W r4 o _ _ h
theorem R4At.fr (h : R4At W r4 rb d p0 p1 p2 p3) (hf : Fr (some rb) W X) (hne : r4 ≠ rb) : R4At X r4 rb d p0 p1 p2 p3:=(hf.block h.lt (by simp;exact hne)).trans h
theorem R4At.setO (h : R4At W r4 rb d p0 p1 p2 p3) {b : Nat} (hne : r4 ≠ b) (o : Nat) (v : Value) : R4At (W.setCell ⟨b,o,none⟩ v) r4 rb d p0 p1 p2 p3:=(heap_setCell_other W ⟨b,o,none⟩ r4 v hne).trans h
theorem R4At.set1 (h : R4At W r4 rb d p0 p1 p2 p3) (v : Int) : R4At (W.setCell ⟨r4,1,none⟩ (.int .i64 v)) r4 rb v p0 p1 p2 p3:=heap_setCell_same W r4 1 _ _ _ h
end
structure A4 (W : World) (r4 rb g cap : Nat) (ws : List Wd) (d : Int) (p0 p1 p2 p3 : Value) (σ : RS) : Prop where
 at4 : R4At W r4 rb d p0 p1 p2 p3
 st : StR W rb g cap ws 0 σ
 env : EnvR rb g ws W
 ne : r4 ≠ rb
 ng : r4 ≠ g
section
variable {W X : World} {r4 rb g cap : Nat} {ws : List Wd} {d : Int} {p0 p1 p2 p3 : Value} {σ τ : RS}
theorem A4.fr (S : A4 W r4 rb g cap ws d p0 p1 p2 p3 σ) (hf : Fr (some rb) W X) (h : StR X rb g cap ws 0 τ) : A4 X r4 rb g cap ws d p0 p1 p2 p3 τ:=⟨S.at4.fr hf S.ne,h,S.env.kept hf,S.ne,S.ng⟩
theorem A4.stay (S : A4 W r4 rb g cap ws d p0 p1 p2 p3 σ) (hf : Below W.heap.size W X) : A4 X r4 rb g cap ws d p0 p1 p2 p3 σ:=S.fr (.of hf) (S.st.stay hf)
theorem A4.alloc (S : A4 W r4 rb g cap ws d p0 p1 p2 p3 σ) (o : Obj) : A4 (W.alloc o) r4 rb g cap ws d p0 p1 p2 p3 σ:=S.stay ((Below.refl _ _).alloc (Nat.le_refl _) _)
theorem A4.drewN (S : A4 W r4 rb g cap ws d p0 p1 p2 p3 σ) (n : Nat) : A4 (W.drewN n) r4 rb g cap ws d p0 p1 p2 p3 σ:=S.stay (below_drewN (Below.refl _ _) n)
theorem A4.drew (S : A4 W r4 rb g cap ws d p0 p1 p2 p3 σ) : A4 W.drew r4 rb g cap ws d p0 p1 p2 p3 σ:=S.stay (Below.refl _ _).drew
theorem A4.setO (S : A4 W r4 rb g cap ws d p0 p1 p2 p3 σ) {b : Nat} (h4 : r4 ≠ b) (hb : rb ≠ b) (hg : g ≠ b) (o : Nat) (v : Value) : A4 (W.setCell ⟨b,o,none⟩ v) r4 rb g cap ws d p0 p1 p2 p3 σ :=
 ⟨S.at4.setO h4 o v,S.st.setO hb o v,S.env.setO hg o v,S.ne,S.ng⟩
theorem A4.blk (S : A4 W r4 rb g cap ws d p0 p1 p2 p3 σ) : r4 < W.heap.size ∧ rb < W.heap.size ∧ g < W.heap.size:=⟨S.at4.lt,S.st.lt,S.env.wc.lt⟩
end
def RS.failAt (e : Int) (a : Nat) : RS → RS | .ok _ => .bad e a | s => s
def RS.gd : RS → Bool | .ok _ => true | .bad _ _ => false
theorem r4_ok {r4 rb g cap : Nat} {ws : List Wd} {d : Int} {p0 p1 p2 p3 : Value} {σ : RS} {W : World} (S : Hid (A4 W r4 rb g cap ws d p0 p1 p2 p3 σ)) (b : Bool) (hb : σ.good = b) :
 Calls Try.prog 23 #[.pointer (some ⟨r4,0,none⟩)] W fun e w' => e = .returned (.bool b) ∧ Below W.heap.size W w':=by
 obtain ⟨i,c,a,hr,hc,_⟩:=S.out.st.rd
 obtain ⟨m0,m1,m2,m3,m4,m5⟩:=S.out.at4.cells
 have hl4:=S.out.at4.lt
 have hlb:=S.out.st.lt
 have hlg:=S.out.env.wc.lt
 obtain ⟨q0,q1,q2,q3,q4⟩:=hr.cells
 by_cases h : c = 0
 · have hbt : b = true:=by (rw [← hb];exact hc.1 h)
   have k : (c == 0) = true:=by simp [h]
   subst hbt
   clear hr hc h hb
   go_enter Try.func23,Try.ntmps23
   go_wp2
   go_ret
   exact ⟨rfl,by (refine Fr.below ?_;(with_reducible repeat first | exact Fr.refl _ _ | refine Fr.alloc ?_ _ | refine Fr.drewN ?_ _ | refine Fr.drew ?_ | (refine Fr.set ?_ ?_ _ _;rotate_left;first | exact .inl rfl | (right;simp;done) | (right;simp;omega) | (right;omega)) | refine Fr.step ?_ (by assumption) | refine Fr.stepB ?_ (by assumption)))⟩
 · have hbt : b = false:=by (rw [← hb];cases hg : σ.good with | false => rfl | true => exact absurd (hc.2 hg) h)
   have k : (c == 0) = false:=by simp [h]
   subst hbt
   clear hr hc h hb
   go_enter Try.func23,Try.ntmps23
   go_wp2
   go_ret
   exact ⟨rfl,by (refine Fr.below ?_;(with_reducible repeat first | exact Fr.refl _ _ | refine Fr.alloc ?_ _ | refine Fr.drewN ?_ _ | refine Fr.drew ?_ | (refine Fr.set ?_ ?_ _ _;rotate_left;first | exact .inl rfl | (right;simp;done) | (right;simp;omega) | (right;omega)) | refine Fr.step ?_ (by assumption) | refine Fr.stepB ?_ (by assumption)))⟩
theorem r4_is {r4 rb g cap : Nat} {ws : List Wd} {d : Int} {p0 p1 p2 p3 : Value} {σ : RS} {W : World} (S : Hid (A4 W r4 rb g cap ws d p0 p1 p2 p3 σ)) (s : ByteArray) (b : Bool) (hb : Hid (σ.is s.data.toList = b)) :
 Calls Try.prog 45 #[.pointer (some ⟨r4,0,none⟩),.string s] W fun e w' => e = .returned (.bool b) ∧ Below W.heap.size W w':=by
 obtain ⟨m0,m1,m2,m3,m4,m5⟩:=S.out.at4.cells
 have hl4:=S.out.at4.lt
 have hlb:=S.out.st.lt
 have hlg:=S.out.env.wc.lt
 go_enter Try.func45,Try.ntmps45
 go_wp2_with (go_at_call 62;(with_reducible refine (st_is S.out.st S.out.env s b hb.out).mono ?_);rintro e' w1 ⟨rfl,hb1⟩)
 go_ret
 exact ⟨rfl,by (refine Fr.below ?_;(with_reducible repeat first | exact Fr.refl _ _ | refine Fr.alloc ?_ _ | refine Fr.drewN ?_ _ | refine Fr.drew ?_ | (refine Fr.set ?_ ?_ _ _;rotate_left;first | exact .inl rfl | (right;simp;done) | (right;simp;omega) | (right;omega)) | refine Fr.step ?_ (by assumption) | refine Fr.stepB ?_ (by assumption)))⟩
theorem r4_need {r4 rb g cap : Nat} {ws : List Wd} {d : Int} {p0 p1 p2 p3 : Value} {σ : RS} {W : World} (S : Hid (A4 W r4 rb g cap ws d p0 p1 p2 p3 σ)) (s : ByteArray) (τ : RS) (hτ : Hid (σ.need s.data.toList = τ)) :
 Calls Try.prog 48 #[.pointer (some ⟨r4,0,none⟩),.string s] W fun e w' => e = .returned (.tuple #[]) ∧ A4 w' r4 rb g cap ws d p0 p1 p2 p3 τ ∧ Fr (some rb) W w':=by
 obtain ⟨m0,m1,m2,m3,m4,m5⟩:=S.out.at4.cells
 have hl4:=S.out.at4.lt
 have hlb:=S.out.st.lt
 have hlg:=S.out.env.wc.lt
 go_enter Try.func48,Try.ntmps48
 go_wp2_with (go_at_call 64;(with_reducible refine (st_need S.out.st S.out.env s).mono ?_);rintro e' w1 ⟨rfl,hs1,hf1⟩)
 go_end0
 exact ⟨rfl,S.out.fr hf1 (hτ.out ▸ hs1),hf1⟩
theorem results_w {n : Nat} {X : World} {k v a : Int} {t : List UInt8} {fn : Func} {p : Tmp} (hfn : fn.results = #[.cell p 82]) (tmps : Array Value) (hp : tmps.getD p undef = .pointer (some ⟨n,0,none⟩)) (h : WBlk X n k t v a) :
 (results fn tmps).run Try.prog X = .ok (.agg #[.int .i64 k,.string (bstr t),.int .i64 v,.int .i64 a]) X:=by
 have hp' : tmps[p]?.getD undef = .pointer (some ⟨n,0,none⟩):=by simpa using hp
 simp [results,hfn,hp',asAddr,run_loadVar_row X n 82 82 _ (0,0) _ h Try.underlying82 rfl (by kernel_rfl)]
theorem WBlk.all {X : World} {n : Nat} {k v a k' v' a' : Int} {t t' : List UInt8} (h : WBlk X n k t v a) : WBlk ((((X.setCell ⟨n,0,none⟩ (.int .i64 k')).setCell ⟨n,1,none⟩ (.string (bstr t'))).setCell ⟨n,2,none⟩ (.int .i64 v')).setCell ⟨n,3,none⟩ (.int .i64 a')) n k' t' v' a' :=
 heap_setCell_same _ n 3 _ _ _ (heap_setCell_same _ n 2 _ _ _ (heap_setCell_same _ n 1 _ _ _ (heap_setCell_same X n 0 _ _ _ h)))
theorem r4_word {r4 rb g cap : Nat} {ws : List Wd} {d : Int} {p0 p1 p2 p3 : Value} {σ : RS} {W : World} (S : Hid (A4 W r4 rb g cap ws d p0 p1 p2 p3 σ)) :
 Calls Try.prog 24 #[.pointer (some ⟨r4,0,none⟩)] W fun e w' => ∃ x : Wd,e = .returned (.agg #[.int .i64 x.k,.string (bstr x.t),.int .i64 x.n,.int .i64 x.a]) ∧ (∀ tt,σ = .ok tt → ∃ t',tt = x :: t') ∧ Below W.heap.size W w':=by
 obtain ⟨i,x,c,a,R0,_,h0,h1⟩:=S.out.st.at_ S.out.env
 have hx : ∀ tt,σ = .ok tt → ∃ t',tt = x :: t':=by
  intro tt e
  by_cases hc : c = 0
  · obtain ⟨t',e2,_⟩:=h0 hc
    rw [e] at e2
    cases e2
    exact ⟨t',rfl⟩
  · obtain ⟨b,_,e2⟩:=h1 hc
    rw [e] at e2
    cases e2
 obtain ⟨m0,m1,m2,m3,m4,m5⟩:=S.out.at4.cells
 have hl4:=S.out.at4.lt
 have hlb:=S.out.st.lt
 have hlg:=S.out.env.wc.lt
 have HX:=hid hx
 have RR:=hid R0
 clear R0 h0 h1 hx m0 m1 m2 m3 m4 m5
 go_enter Try.func24,Try.ntmps24
 go_wp2
 refine name_world ?_
 intro W1 hW1
 have hB1 : Below W.heap.size W W1:=by (rw [hW1];(refine Fr.below ?_;(with_reducible repeat first | exact Fr.refl _ _ | refine Fr.alloc ?_ _ | refine Fr.drewN ?_ _ | refine Fr.drew ?_ | (refine Fr.set ?_ ?_ _ _;rotate_left;first | exact .inl rfl | (right;simp;done) | (right;simp;omega) | (right;omega)) | refine Fr.step ?_ (by assumption) | refine Fr.stepB ?_ (by assumption))))
 have WB1 : WBlk W1 W.heap.size 0 [] 0 0:=by (rw [hW1];exact WBlk.new rfl)
 obtain ⟨m0,m1,_,_,_,_⟩:=(S.out.stay hB1).at4.cells
 obtain ⟨⟨r0,r1,_,_,_⟩,⟨c0,c1,c2,c3⟩,hrl,hgl,hi1,hi2,_⟩:=(RR.out.kept hB1).facts
 have hfw:=fun o => frozen_of_row W1 W.heap.size o _ _ WB1
 have hf0:=hfw 0
 have hf1:=hfw 1
 have hf2:=hfw 2
 have hf3:=hfw 3
 obtain ⟨hlw,y0,y1,y2,y3⟩:=WB1.facts
 clear hW1 hfw
 go_still_tail 16,(by kernel_rfl)
 go_wp2
 refine bodyPost_ret (results_w rfl _ rfl WB1.all) rfl ⟨x,rfl,HX.out,by (refine Fr.below ?_;(with_reducible repeat first | exact Fr.refl _ _ | refine Fr.alloc ?_ _ | refine Fr.drewN ?_ _ | refine Fr.drew ?_ | (refine Fr.set ?_ ?_ _ _;rotate_left;first | exact .inl rfl | (right;simp;done) | (right;simp;omega) | (right;omega)) | refine Fr.step ?_ (by assumption) | refine Fr.stepB ?_ (by assumption)))⟩
theorem r4_fail0 {r4 rb g cap : Nat} {ws tt : List Wd} {d : Int} {p0 p1 p2 p3 : Value} {W : World} (S : Hid (A4 W r4 rb g cap ws d p0 p1 p2 p3 (.ok tt))) (e0 : Int) (he : e0 ≠ 0) (a0 : Nat) :
 Calls Try.prog 52 #[.pointer (some ⟨r4,0,none⟩),.int .i64 e0,.int .i64 a0] W fun e w' => e = .returned (.tuple #[]) ∧ A4 w' r4 rb g cap ws d p0 p1 p2 p3 (.bad e0 a0) ∧ Fr (some rb) W w':=by
 obtain ⟨h1,h2,a,hr⟩:=S.out.st
 obtain ⟨m0,m1,m2,m3,m4,m5⟩:=S.out.at4.cells
 have hl4:=S.out.at4.lt
 have hlb:=S.out.st.lt
 have hlg:=S.out.env.wc.lt
 obtain ⟨q0,q1,q2,q3,q4⟩:=hr.cells
 have hf3:=hr.frozen 3
 have hf4:=hr.frozen 4
 have hn4:=S.out.ne
 obtain ⟨x,t',rfl⟩:=h2.ne
 have hi : ws.length - (x :: t').length < ws.length:=by (have:=h1.length_le;simp at this ⊢;omega)
 have HR:=hid hr
 have HI:=hid (And.intro hi he)
 clear hr h1 h2 hi he
 go_enter Try.func52,Try.ntmps52
 go_wp2
 go_end0
 have hF : Fr (some rb) W ((W.setCell ⟨rb,3,none⟩ (.int .i64 e0)).setCell ⟨rb,4,none⟩ (.int .i64 a0)):=by (with_reducible repeat first | exact Fr.refl _ _ | refine Fr.alloc ?_ _ | refine Fr.drewN ?_ _ | refine Fr.drew ?_ | (refine Fr.set ?_ ?_ _ _;rotate_left;first | exact .inl rfl | (right;simp;done) | (right;simp;omega) | (right;omega)) | refine Fr.step ?_ (by assumption) | refine Fr.stepB ?_ (by assumption))
 exact ⟨rfl,S.out.fr hF (.mk_bad ((HR.out.set3 _).set4 _) HI.out.1 HI.out.2),hF⟩
theorem r4_failN {r4 rb g cap : Nat} {ws : List Wd} {d c0 : Int} {b0 : Nat} {p0 p1 p2 p3 : Value} {W : World} (S : Hid (A4 W r4 rb g cap ws d p0 p1 p2 p3 (.bad c0 b0))) (e0 a0 : Int) :
 Calls Try.prog 52 #[.pointer (some ⟨r4,0,none⟩),.int .i64 e0,.int .i64 a0] W fun e w' => e = .returned (.tuple #[]) ∧ w' = W:=by
 obtain ⟨h1,i,h2,hr⟩:=S.out.st
 obtain ⟨m0,m1,m2,m3,m4,m5⟩:=S.out.at4.cells
 have hl4:=S.out.at4.lt
 have hlb:=S.out.st.lt
 have hlg:=S.out.env.wc.lt
 obtain ⟨q0,q1,q2,q3,q4⟩:=hr.cells
 have k : (c0 == 0) = false:=by simp [h1]
 clear hr h1 h2
 go_enter Try.func52,Try.ntmps52
 go_wp2
 go_end0
 exact ⟨rfl,rfl⟩
end Go.Proofs.Ytbmmjomcjlpnlaa
namespace Go.Proofs.Ytbmmjomcjlpnlaa
open Go Go.RowKit
theorem r4_wordOk {r4 rb g cap : Nat} {ws : List Wd} {d : Int} {p0 p1 p2 p3 : Value} {W : World} {x : Wd} {tt : List Wd} (S : Hid (A4 W r4 rb g cap ws d p0 p1 p2 p3 (.ok (x :: tt)))) :
 Calls Try.prog 24 #[.pointer (some ⟨r4,0,none⟩)] W fun e w' => e = .returned (.agg #[.int .i64 x.k,.string (bstr x.t),.int .i64 x.n,.int .i64 x.a]) ∧ Below W.heap.size W w' :=
 (r4_word S).mono fun e w' ⟨x',h1,h2,h3⟩ => by
  obtain ⟨t',h⟩:=h2 _ rfl
  cases h
  exact ⟨h1,h3⟩
def TBlk (X : World) (n : Nat) (s : ByteArray) (a : Int) : Prop:=X.heap[n]? = some (.cells #[.string s,.int .i64 a] 125 (0,0))
section
variable {X Y : World} {n : Nat} {s : ByteArray} {a : Int}
theorem TBlk.facts (h : TBlk X n s a) : n < X.heap.size ∧ X.cell? ⟨n,0,none⟩ = some (.string s) ∧ X.cell? ⟨n,1,none⟩ = some (.int .i64 a) ∧ X.frozen? ⟨n,0,none⟩ = false ∧ X.frozen? ⟨n,1,none⟩ = false:=by
 refine ⟨(Array.getElem?_eq_some_iff.1 h).1,?_,?_,frozen_of_row X n _ _ _ h,frozen_of_row X n _ _ _ h⟩ <;> rw [cell_of_row _ _ _ _ _ _ h] <;> rfl
theorem TBlk.alloc (h : TBlk X n s a) (o : Obj) : TBlk (X.alloc o) n s a:=(Below.heap_alloc X o n (Array.getElem?_eq_some_iff.1 h).1).trans h
theorem TBlk.stay (h : TBlk X n s a) (hf : Below X.heap.size X Y) : TBlk Y n s a:=(hf.block n (Array.getElem?_eq_some_iff.1 h).1).trans h
theorem TBlk.fr {rb : Nat} (h : TBlk X n s a) (hf : Fr (some rb) X Y) (hne : n ≠ rb) : TBlk Y n s a:=(hf.block (Array.getElem?_eq_some_iff.1 h).1 (by simp;exact hne)).trans h
theorem TBlk.setO (h : TBlk X n s a) {b : Nat} (hne : n ≠ b) (o : Nat) (v : Value) : TBlk (X.setCell ⟨b,o,none⟩ v) n s a:=(heap_setCell_other X ⟨b,o,none⟩ n v hne).trans h
theorem TBlk.all (h : TBlk X n s a) (s' : ByteArray) (a' : Int) : TBlk ((X.setCell ⟨n,0,none⟩ (.string s')).setCell ⟨n,1,none⟩ (.int .i64 a')) n s' a':=heap_setCell_same _ n 1 _ _ _ (heap_setCell_same X n 0 _ _ _ h)
theorem TBlk.new (hn : n = X.heap.size) : TBlk (X.alloc (.cells #[.string s,.int .i64 a] 125)) n s a:=hn ▸ heap_alloc_new X _
theorem results_t {fn : Func} {p : Tmp} (hfn : fn.results = #[.cell p 125]) (tmps : Array Value) (hp : tmps.getD p undef = .pointer (some ⟨n,0,none⟩)) (h : TBlk X n s a) :
 (results fn tmps).run Try.prog X = .ok (.agg #[.string s,.int .i64 a]) X:=by
 have hp' : tmps[p]?.getD undef = .pointer (some ⟨n,0,none⟩):=by simpa using hp
 simp [results,hfn,hp',asAddr,run_loadVar_row X n 125 125 _ (0,0) _ h Try.underlying125 rfl (by kernel_rfl)]
end
theorem r4_nameBad {r4 rb g cap : Nat} {ws : List Wd} {d : Int} {p0 p1 p2 p3 : Value} {W : World} {c0 : Int} {b0 : Nat} (S : Hid (A4 W r4 rb g cap ws d p0 p1 p2 p3 (.bad c0 b0))) :
 Calls Try.prog 47 #[.pointer (some ⟨r4,0,none⟩)] W fun e w' => e = .returned (.agg #[.string ⟨#[]⟩,.int .i64 0]) ∧ A4 w' r4 rb g cap ws d p0 p1 p2 p3 (.bad c0 b0) ∧ Fr (some rb) W w':=by
 obtain ⟨hl4,hlb,hlg⟩:=S.out.blk
 have hne4 : r4 ≠ W.heap.size:=by omega
 have hneb : rb ≠ W.heap.size:=by omega
 have hneg : g ≠ W.heap.size:=by omega
 go_enter Try.func47,Try.ntmps47
 go_wp2_with (first
  | (go_at_call 24;(with_reducible refine (r4_word (hid (S.out.alloc _))).mono ?_);rintro e1 w1 ⟨x,rfl,_,hb1⟩;have TB1:=(TBlk.new (X:=W) (s:=⟨#[]⟩) (a:=0) rfl).stay hb1;have hz1:=hb1.size;(try simp only [World.size_alloc] at hz1);have S1:=hid (((S.out.alloc _).stay hb1).alloc (.cells #[.int .i64 x.k,.string (bstr x.t),.int .i64 x.n,.int .i64 x.a] 82));have WB1:=WBlk.new (X:=w1) (k:=x.k) (t:=x.t) (v:=x.n) (a:=x.a) rfl;have F1 : Fr (some rb) W (w1.alloc (.cells #[.int .i64 x.k,.string (bstr x.t),.int .i64 x.n,.int .i64 x.a] 82)):=((Fr.refl _ _).alloc _).stepB hb1 |>.alloc _;have TB2:=TB1.alloc (.cells #[.int .i64 x.k,.string (bstr x.t),.int .i64 x.n,.int .i64 x.a] 82))
  | (go_at_call 23;(with_reducible refine (r4_ok S1 false rfl).mono ?_);rintro e2 w2 ⟨rfl,hb2⟩;have WB2:=WB1.stay hb2;have TB3:=TB2.stay hb2;have S2:=hid (S1.out.stay hb2);have F2:=F1.stepB hb2;have hz2:=hb2.size;(try simp only [World.size_alloc] at hz2);obtain ⟨wl2,y0,y1,y2,y3⟩:=WB2.facts;obtain ⟨tl3,u0,u1,fz0,fz1⟩:=TB3.facts))
 refine bodyPost_ret (results_t rfl _ rfl (TB3.all _ _)) rfl ⟨rfl,?_,by (with_reducible repeat first | exact Fr.refl _ _ | refine Fr.alloc ?_ _ | refine Fr.drewN ?_ _ | refine Fr.drew ?_ | (refine Fr.set ?_ ?_ _ _;rotate_left;first | exact .inl rfl | (right;simp;done) | (right;simp;omega) | (right;omega)) | refine Fr.step ?_ (by assumption) | refine Fr.stepB ?_ (by assumption))⟩
 exact (S2.out.setO hne4 hneb hneg _ _).setO hne4 hneb hneg _ _
theorem r4_nameNo {r4 rb g cap : Nat} {ws : List Wd} {d : Int} {p0 p1 p2 p3 : Value} {W : World} {x : Wd} {tt : List Wd} (S : Hid (A4 W r4 rb g cap ws d p0 p1 p2 p3 (.ok (x :: tt)))) (hx : (x.k == 0) = false) :
 Calls Try.prog 47 #[.pointer (some ⟨r4,0,none⟩)] W fun e w' => e = .returned (.agg #[.string ⟨#[]⟩,.int .i64 0]) ∧ A4 w' r4 rb g cap ws d p0 p1 p2 p3 (.bad 11 x.a) ∧ Fr (some rb) W w':=by
 obtain ⟨hl4,hlb,hlg⟩:=S.out.blk
 have hne4 : r4 ≠ W.heap.size:=by omega
 have hneb : rb ≠ W.heap.size:=by omega
 have hneg : g ≠ W.heap.size:=by omega
 have k0 : (x.k != 0) = true:=by simp at hx ⊢;exact hx
 go_enter Try.func47,Try.ntmps47
 go_wp2_with (first
  | (go_at_call 24;(with_reducible refine (r4_wordOk (hid (S.out.alloc _))).mono ?_);rintro e1 w1 ⟨rfl,hb1⟩;have TB1:=(TBlk.new (X:=W) (s:=⟨#[]⟩) (a:=0) rfl).stay hb1;have hz1:=hb1.size;(try simp only [World.size_alloc] at hz1);have S1:=hid (((S.out.alloc _).stay hb1).alloc (.cells #[.int .i64 x.k,.string (bstr x.t),.int .i64 x.n,.int .i64 x.a] 82));have WB1:=WBlk.new (X:=w1) (k:=x.k) (t:=x.t) (v:=x.n) (a:=x.a) rfl;have F1 : Fr (some rb) W (w1.alloc (.cells #[.int .i64 x.k,.string (bstr x.t),.int .i64 x.n,.int .i64 x.a] 82)):=((Fr.refl _ _).alloc _).stepB hb1 |>.alloc _;have TB2:=TB1.alloc (.cells #[.int .i64 x.k,.string (bstr x.t),.int .i64 x.n,.int .i64 x.a] 82))
  | (go_at_call 23;(with_reducible refine (r4_ok S1 true rfl).mono ?_);rintro e2 w2 ⟨rfl,hb2⟩;have WB2:=WB1.stay hb2;have TB3:=TB2.stay hb2;have S2:=hid (S1.out.stay hb2);have F2:=F1.stepB hb2;have hz2:=hb2.size;(try simp only [World.size_alloc] at hz2);obtain ⟨wl2,y0,y1,y2,y3⟩:=WB2.facts;obtain ⟨tl3,u0,u1,fz0,fz1⟩:=TB3.facts)
  | (go_at_call 52;(with_reducible refine (r4_fail0 S2 11 (by decide) x.a).mono ?_);rintro e4 w4 ⟨rfl,hs4,hf4⟩;have TB5:=TB3.fr hf4 (Ne.symm hneb);have F4:=F2.step hf4;have hz4:=Fr.size hf4;obtain ⟨tl5,x0,x1,xz0,xz1⟩:=TB5.facts))
 refine bodyPost_ret (results_t rfl _ rfl (TB5.all _ _)) rfl ⟨rfl,?_,by (with_reducible repeat first | exact Fr.refl _ _ | refine Fr.alloc ?_ _ | refine Fr.drewN ?_ _ | refine Fr.drew ?_ | (refine Fr.set ?_ ?_ _ _;rotate_left;first | exact .inl rfl | (right;simp;done) | (right;simp;omega) | (right;omega)) | refine Fr.step ?_ (by assumption) | refine Fr.stepB ?_ (by assumption))⟩
 exact (hs4.setO hne4 hneb hneg _ _).setO hne4 hneb hneg _ _
theorem r4_nameKey {r4 rb g cap : Nat} {ws : List Wd} {d : Int} {p0 p1 p2 p3 : Value} {W : World} {x : Wd} {tt : List Wd} (S : Hid (A4 W r4 rb g cap ws d p0 p1 p2 p3 (.ok (x :: tt)))) (hx : (x.k == 0) = true) (hk : Hid (keyB x.t = true)) :
 Calls Try.prog 47 #[.pointer (some ⟨r4,0,none⟩)] W fun e w' => e = .returned (.agg #[.string ⟨#[]⟩,.int .i64 0]) ∧ A4 w' r4 rb g cap ws d p0 p1 p2 p3 (.bad 11 x.a) ∧ Fr (some rb) W w':=by
 obtain ⟨hl4,hlb,hlg⟩:=S.out.blk
 have hne4 : r4 ≠ W.heap.size:=by omega
 have hneb : rb ≠ W.heap.size:=by omega
 have hneg : g ≠ W.heap.size:=by omega
 have k0 : (x.k != 0) = false:=by simp at hx ⊢;exact hx
 go_enter Try.func47,Try.ntmps47
 go_wp2_with (first
  | (go_at_call 24;(with_reducible refine (r4_wordOk (hid (S.out.alloc _))).mono ?_);rintro e1 w1 ⟨rfl,hb1⟩;have TB1:=(TBlk.new (X:=W) (s:=⟨#[]⟩) (a:=0) rfl).stay hb1;have hz1:=hb1.size;(try simp only [World.size_alloc] at hz1);have S1:=hid (((S.out.alloc _).stay hb1).alloc (.cells #[.int .i64 x.k,.string (bstr x.t),.int .i64 x.n,.int .i64 x.a] 82));have WB1:=WBlk.new (X:=w1) (k:=x.k) (t:=x.t) (v:=x.n) (a:=x.a) rfl;have F1 : Fr (some rb) W (w1.alloc (.cells #[.int .i64 x.k,.string (bstr x.t),.int .i64 x.n,.int .i64 x.a] 82)):=((Fr.refl _ _).alloc _).stepB hb1 |>.alloc _;have TB2:=TB1.alloc (.cells #[.int .i64 x.k,.string (bstr x.t),.int .i64 x.n,.int .i64 x.a] 82))
  | (go_at_call 23;(with_reducible refine (r4_ok S1 true rfl).mono ?_);rintro e2 w2 ⟨rfl,hb2⟩;have WB2:=WB1.stay hb2;have TB3:=TB2.stay hb2;have S2:=hid (S1.out.stay hb2);have F2:=F1.stepB hb2;have hz2:=hb2.size;(try simp only [World.size_alloc] at hz2);obtain ⟨wl2,y0,y1,y2,y3⟩:=WB2.facts;obtain ⟨tl3,u0,u1,fz0,fz1⟩:=TB3.facts)
  | (go_at_call 63;(with_reducible refine (rkey_of hk.out _).mono ?_);rintro e3 w3 ⟨rfl,hb3⟩;have WB3:=WB2.stay hb3;have TB4:=TB3.stay hb3;have S3:=hid (S2.out.stay hb3);have F3:=F2.stepB hb3;have hz3:=hb3.size;obtain ⟨wl3,yy0,yy1,yy2,yy3⟩:=WB3.facts;obtain ⟨tl4,v0,v1,gz0,gz1⟩:=TB4.facts)
  | (go_at_call 52;(with_reducible refine (r4_fail0 S3 11 (by decide) x.a).mono ?_);rintro e4 w4 ⟨rfl,hs4,hf4⟩;have TB5:=TB4.fr hf4 (Ne.symm hneb);have F4:=F3.step hf4;have hz4:=Fr.size hf4;obtain ⟨tl5,x0,x1,xz0,xz1⟩:=TB5.facts))
 refine bodyPost_ret (results_t rfl _ rfl (TB5.all _ _)) rfl ⟨rfl,?_,by (with_reducible repeat first | exact Fr.refl _ _ | refine Fr.alloc ?_ _ | refine Fr.drewN ?_ _ | refine Fr.drew ?_ | (refine Fr.set ?_ ?_ _ _;rotate_left;first | exact .inl rfl | (right;simp;done) | (right;simp;omega) | (right;omega)) | refine Fr.step ?_ (by assumption) | refine Fr.stepB ?_ (by assumption))⟩
 exact (hs4.setO hne4 hneb hneg _ _).setO hne4 hneb hneg _ _
theorem r4_nameYes {r4 rb g cap : Nat} {ws : List Wd} {d : Int} {p0 p1 p2 p3 : Value} {W : World} {x : Wd} {tt : List Wd} (S : Hid (A4 W r4 rb g cap ws d p0 p1 p2 p3 (.ok (x :: tt)))) (hx : (x.k == 0) = true) (hk : Hid (keyB x.t = false)) :
 Calls Try.prog 47 #[.pointer (some ⟨r4,0,none⟩)] W fun e w' => e = .returned (.agg #[.string (bstr x.t),.int .i64 x.a]) ∧ A4 w' r4 rb g cap ws d p0 p1 p2 p3 (.ok tt) ∧ Fr (some rb) W w':=by
 obtain ⟨hl4,hlb,hlg⟩:=S.out.blk
 have hne4 : r4 ≠ W.heap.size:=by omega
 have hneb : rb ≠ W.heap.size:=by omega
 have hneg : g ≠ W.heap.size:=by omega
 have k0 : (x.k != 0) = false:=by simp at hx ⊢;exact hx
 have hx3 : x.k ≠ 3:=by (simp at hx;rw [hx];decide)
 go_enter Try.func47,Try.ntmps47
 go_wp2_with (first
  | (go_at_call 24;(with_reducible refine (r4_wordOk (hid (S.out.alloc _))).mono ?_);rintro e1 w1 ⟨rfl,hb1⟩;have TB1:=(TBlk.new (X:=W) (s:=⟨#[]⟩) (a:=0) rfl).stay hb1;have hz1:=hb1.size;(try simp only [World.size_alloc] at hz1);have S1:=hid (((S.out.alloc _).stay hb1).alloc (.cells #[.int .i64 x.k,.string (bstr x.t),.int .i64 x.n,.int .i64 x.a] 82));have WB1:=WBlk.new (X:=w1) (k:=x.k) (t:=x.t) (v:=x.n) (a:=x.a) rfl;have F1 : Fr (some rb) W (w1.alloc (.cells #[.int .i64 x.k,.string (bstr x.t),.int .i64 x.n,.int .i64 x.a] 82)):=((Fr.refl _ _).alloc _).stepB hb1 |>.alloc _;have TB2:=TB1.alloc (.cells #[.int .i64 x.k,.string (bstr x.t),.int .i64 x.n,.int .i64 x.a] 82))
  | (go_at_call 23;(with_reducible refine (r4_ok S1 true rfl).mono ?_);rintro e2 w2 ⟨rfl,hb2⟩;have WB2:=WB1.stay hb2;have TB3:=TB2.stay hb2;have S2:=hid (S1.out.stay hb2);have F2:=F1.stepB hb2;have hz2:=hb2.size;(try simp only [World.size_alloc] at hz2);obtain ⟨wl2,y0,y1,y2,y3⟩:=WB2.facts;obtain ⟨tl3,u0,u1,fz0,fz1⟩:=TB3.facts)
  | (go_at_call 63;(with_reducible refine (rkey_of hk.out _).mono ?_);rintro e3 w3 ⟨rfl,hb3⟩;have WB3:=WB2.stay hb3;have TB4:=TB3.stay hb3;have S3:=hid (S2.out.stay hb3);have F3:=F2.stepB hb3;have hz3:=hb3.size;obtain ⟨wl3,yy0,yy1,yy2,yy3⟩:=WB3.facts;obtain ⟨tl4,v0,v1,gz0,gz1⟩:=TB4.facts;obtain ⟨i,a,R0,h5,h6,h7,_⟩:=S3.out.st.ok_cells S3.out.env;obtain ⟨m0,_,_,_,_,_⟩:=S3.out.at4.cells;obtain ⟨q0,q1,q2,q3,q4⟩:=R0.rd.cells;have hlr:=R0.rd.lt;have hfr:=R0.rd.frozen 1))
 refine bodyPost_ret (results_t rfl _ rfl ((TB4.setO (Ne.symm hneb) _ _).all _ _)) rfl ⟨rfl,?_,by (with_reducible repeat first | exact Fr.refl _ _ | refine Fr.alloc ?_ _ | refine Fr.drewN ?_ _ | refine Fr.drew ?_ | (refine Fr.set ?_ ?_ _ _;rotate_left;first | exact .inl rfl | (right;simp;done) | (right;simp;omega) | (right;omega)) | refine Fr.step ?_ (by assumption) | refine Fr.stepB ?_ (by assumption))⟩
 have F9 : Fr (some rb) w3 (w3.setCell ⟨rb,1,none⟩ (.int .i64 ((i : Int) + 1))):=(Fr.refl _ _).set (.inl rfl) _ _
 exact ((S3.out.fr F9 (st_adv S3.out.st R0 hx3 h5)).setO hne4 hneb hneg _ _).setO hne4 hneb hneg _ _
theorem r4_name {r4 rb g cap : Nat} {ws : List Wd} {d : Int} {p0 p1 p2 p3 : Value} {W : World} {σ τ : RS} {t : List UInt8} {a : Nat} (S : Hid (A4 W r4 rb g cap ws d p0 p1 p2 p3 σ)) (h : nameF σ = ((t,a),τ)) :
 Calls Try.prog 47 #[.pointer (some ⟨r4,0,none⟩)] W fun e w' => e = .returned (.agg #[.string (bstr t),.int .i64 a]) ∧ A4 w' r4 rb g cap ws d p0 p1 p2 p3 τ ∧ Fr (some rb) W w':=by
 cases σ with
 | bad c b =>
  cases h
  exact r4_nameBad S
 | ok ts =>
  obtain ⟨x,tt,rfl⟩:=S.out.st.fin.ne
  unfold nameF at h
  by_cases hk : x.k = 0
  · cases hy : keyB x.t with
    | true =>
     simp [hk,hy] at h
     obtain ⟨⟨rfl,rfl⟩,rfl⟩:=h
     exact r4_nameKey S (by simp [hk]) (hid hy)
    | false =>
     simp [hk,hy] at h
     obtain ⟨⟨rfl,rfl⟩,rfl⟩:=h
     exact r4_nameYes S (by simp [hk]) (hid hy)
  · simp [hk] at h
    obtain ⟨⟨rfl,rfl⟩,rfl⟩:=h
    exact r4_nameNo S (by simp [hk])
end Go.Proofs.Ytbmmjomcjlpnlaa
namespace Go.Proofs.Ytbmmjomcjlpnlaa
open Go Go.RowKit
theorem r4_eithYes {r4 rb g cap : Nat} {ws : List Wd} {d : Int} {p0 p1 p2 p3 : Value} {W : World} {x : Wd} {tt : List Wd} (S : Hid (A4 W r4 rb g cap ws d p0 p1 p2 p3 (.ok (x :: tt)))) (s1 s2 : ByteArray) (hb : Hid ((RS.ok (x :: tt)).is s2.data.toList = true)) :
 Calls Try.prog 71 #[.pointer (some ⟨r4,0,none⟩),.string s1,.string s2] W fun e w' => e = .returned (.bool true) ∧ A4 w' r4 rb g cap ws d p0 p1 p2 p3 (.ok tt) ∧ Fr (some rb) W w':=by
 have hx3:=hid (RS.is_ne3 hb.out)
 go_enter Try.func71,Try.ntmps71
 go_wp2_with (go_at_call 45;(with_reducible refine (r4_is S s2 true hb).mono ?_);rintro e1 w1 ⟨rfl,hb1⟩;have S3:=hid (S.out.stay hb1);obtain ⟨i,a,R0,h5,h6,h7,_⟩:=S3.out.st.ok_cells S3.out.env;obtain ⟨m0,_,_,_,_,_⟩:=S3.out.at4.cells;obtain ⟨q0,q1,q2,q3,q4⟩:=R0.rd.cells;have hl4:=S3.out.at4.lt;have hlr:=R0.rd.lt;have hfr:=R0.rd.frozen 1)
 go_ret
 have F9 : Fr (some rb) w1 (w1.setCell ⟨rb,1,none⟩ (.int .i64 ((i : Int) + 1))):=(Fr.refl _ _).set (.inl rfl) _ _
 exact ⟨rfl,S3.out.fr F9 (st_adv S3.out.st R0 hx3.out h5),(Fr.of hb1).step F9⟩
theorem r4_eithNo {r4 rb g cap : Nat} {ws : List Wd} {d : Int} {p0 p1 p2 p3 : Value} {W : World} {σ : RS} (S : Hid (A4 W r4 rb g cap ws d p0 p1 p2 p3 σ)) (s1 s2 : ByteArray) (hb : Hid (σ.is s2.data.toList = false)) (τ : RS) (hτ : Hid (σ.need s1.data.toList = τ)) :
 Calls Try.prog 71 #[.pointer (some ⟨r4,0,none⟩),.string s1,.string s2] W fun e w' => e = .returned (.bool false) ∧ A4 w' r4 rb g cap ws d p0 p1 p2 p3 τ ∧ Fr (some rb) W w':=by
 go_enter Try.func71,Try.ntmps71
 go_wp2_with (first
  | (go_at_call 45;(with_reducible refine (r4_is S s2 false hb).mono ?_);rintro e1 w1 ⟨rfl,hb1⟩)
  | (go_at_call 48;(with_reducible refine (r4_need (hid (S.out.stay hb1)) s1 τ hτ).mono ?_);rintro e2 w2 ⟨rfl,hs2,hf2⟩))
 go_ret
 exact ⟨rfl,hs2,by (with_reducible repeat first | exact Fr.refl _ _ | refine Fr.alloc ?_ _ | refine Fr.drewN ?_ _ | refine Fr.drew ?_ | (refine Fr.set ?_ ?_ _ _;rotate_left;first | exact .inl rfl | (right;simp;done) | (right;simp;omega) | (right;omega)) | refine Fr.step ?_ (by assumption) | refine Fr.stepB ?_ (by assumption))⟩
theorem r4_either {r4 rb g cap : Nat} {ws : List Wd} {d : Int} {p0 p1 p2 p3 : Value} {W : World} {σ τ : RS} {b : Bool} (S : Hid (A4 W r4 rb g cap ws d p0 p1 p2 p3 σ)) (s1 s2 : ByteArray) (h : Hid (eithF s1.data.toList s2.data.toList σ = (b,τ))) :
 Calls Try.prog 71 #[.pointer (some ⟨r4,0,none⟩),.string s1,.string s2] W fun e w' => e = .returned (.bool b) ∧ A4 w' r4 rb g cap ws d p0 p1 p2 p3 τ ∧ Fr (some rb) W w':=by
 have h':=h.out
 unfold eithF at h'
 cases hb : σ.is s2.data.toList with
 | true =>
  rw [hb] at h'
  simp at h'
  obtain ⟨rfl,rfl⟩:=h'
  cases σ with
  | bad c a => cases hb
  | ok ts =>
   obtain ⟨x,tt,rfl⟩:=S.out.st.fin.ne
   exact r4_eithYes S s1 s2 (hid hb)
 | false =>
  rw [hb] at h'
  simp at h'
  obtain ⟨rfl,rfl⟩:=h'
  exact r4_eithNo S s1 s2 (hid hb) _ (hid rfl)
def YBlk (X : World) (n : Nat) (t s : Bool) : Prop:=X.heap[n]? = some (.cells #[.bool t,.bool s] 42 (0,0))
section
variable {X Y : World} {n : Nat} {t s : Bool}
theorem YBlk.facts (h : YBlk X n t s) : n < X.heap.size ∧ X.cell? ⟨n,0,none⟩ = some (.bool t) ∧ X.cell? ⟨n,1,none⟩ = some (.bool s) ∧ X.frozen? ⟨n,0,none⟩ = false ∧ X.frozen? ⟨n,1,none⟩ = false:=by
 refine ⟨(Array.getElem?_eq_some_iff.1 h).1,?_,?_,frozen_of_row X n _ _ _ h,frozen_of_row X n _ _ _ h⟩ <;> rw [cell_of_row _ _ _ _ _ _ h] <;> rfl
theorem YBlk.fr {rb : Nat} (h : YBlk X n t s) (hf : Fr (some rb) X Y) (hne : n ≠ rb) : YBlk Y n t s:=(hf.block (Array.getElem?_eq_some_iff.1 h).1 (by simp;exact hne)).trans h
theorem YBlk.all (h : YBlk X n t s) (t' s' : Bool) : YBlk ((X.setCell ⟨n,0,none⟩ (.bool t')).setCell ⟨n,1,none⟩ (.bool s')) n t' s':=heap_setCell_same _ n 1 _ _ _ (heap_setCell_same X n 0 _ _ _ h)
theorem YBlk.new (hn : n = X.heap.size) : YBlk (X.alloc (.cells #[.bool t,.bool s] 42)) n t s:=hn ▸ heap_alloc_new X _
theorem results_y {fn : Func} {p : Tmp} (hfn : fn.results = #[.cell p 42]) (tmps : Array Value) (hp : tmps.getD p undef = .pointer (some ⟨n,0,none⟩)) (h : YBlk X n t s) :
 (results fn tmps).run Try.prog X = .ok (.agg #[.bool t,.bool s]) X:=by
 have hp' : tmps[p]?.getD undef = .pointer (some ⟨n,0,none⟩):=by simpa using hp
 simp [results,hfn,hp',asAddr,run_loadVar_row X n 42 42 _ (0,0) _ h Try.underlying42 rfl (by kernel_rfl)]
end
theorem r4_kind {r4 rb g cap : Nat} {ws : List Wd} {d : Int} {p0 p1 p2 p3 : Value} {W : World} {σ τ : RS} {tr sc : Bool} (S : Hid (A4 W r4 rb g cap ws d p0 p1 p2 p3 σ)) (h : kindF σ = ((tr,sc),τ)) :
 Calls Try.prog 66 #[.pointer (some ⟨r4,0,none⟩)] W fun e w' => e = .returned (.agg #[.bool tr,.bool sc]) ∧ A4 w' r4 rb g cap ws d p0 p1 p2 p3 τ ∧ Fr (some rb) W w':=by
 obtain ⟨hl4,hlb,hlg⟩:=S.out.blk
 have hne4 : r4 ≠ W.heap.size:=by omega
 have hneb : rb ≠ W.heap.size:=by omega
 have hneg : g ≠ W.heap.size:=by omega
 obtain ⟨⟨b1,τ1⟩,h1⟩ : ∃ q,eithF kPublic kSecret σ = q:=⟨_,rfl⟩
 obtain ⟨⟨b2,τ2⟩,h2⟩ : ∃ q,eithF kInt kBool τ1 = q:=⟨_,rfl⟩
 have hq : b2 = tr ∧ b1 = sc ∧ τ2 = τ:=by
  unfold kindF at h
  simp only [h1,h2] at h
  cases h
  exact ⟨rfl,rfl,rfl⟩
 obtain ⟨rfl,rfl,rfl⟩:=hq
 have H1 : Hid (eithF (⟨#[112,117,98,108,105,99]⟩ : ByteArray).data.toList (⟨#[115,101,99,114,101,116]⟩ : ByteArray).data.toList σ = (b1,τ1)):=hid h1
 have H2 : Hid (eithF (⟨#[105,110,116]⟩ : ByteArray).data.toList (⟨#[98,111,111,108]⟩ : ByteArray).data.toList τ1 = (b2,τ2)):=hid h2
 clear h h1 h2
 go_enter Try.func66,Try.ntmps66
 go_wp2_with (first
  | (go_at_call 71;(with_reducible refine (r4_either (hid (S.out.alloc _)) _ _ H1).mono ?_);rintro e1 w1 ⟨rfl,hs1,hf1⟩;have YB1:=(YBlk.new (X:=W) (t:=false) (s:=false) rfl).fr hf1 (Ne.symm hneb))
  | (go_at_call 71;(with_reducible refine (r4_either (hid hs1) _ _ H2).mono ?_);rintro e2 w2 ⟨rfl,hs2,hf2⟩;have YB2:=YB1.fr hf2 (Ne.symm hneb);obtain ⟨yl,y0,y1,yf0,yf1⟩:=YB2.facts))
 refine bodyPost_ret (results_y rfl _ rfl (YB2.all _ _)) rfl ⟨rfl,(hs2.setO hne4 hneb hneg _ _).setO hne4 hneb hneg _ _,?_⟩
 have F1 : Fr (some rb) W w1:=((Fr.refl _ _).alloc _).step hf1
 (with_reducible repeat first | exact Fr.refl _ _ | refine Fr.alloc ?_ _ | refine Fr.drewN ?_ _ | refine Fr.drew ?_ | (refine Fr.set ?_ ?_ _ _;rotate_left;first | exact .inl rfl | (right;simp;done) | (right;simp;omega) | (right;omega)) | refine Fr.step ?_ (by assumption) | refine Fr.stepB ?_ (by assumption))
def VEx (lo : Nat) (W : World) (x : Ex) (k op n : Int) (nm : ByteArray) (p : Option Addr) (l c : Nat) (a : Int) : Prop:=k = x.k ∧ op = x.op ∧ n = x.n ∧ nm = bstr x.nm ∧ l = x.ks.length ∧ a = x.a ∧ IsEx lo W x (.slice p l c)
theorem VEx.kept {lo : Nat} {W X : World} {x : Ex} {k op n : Int} {nm : ByteArray} {p : Option Addr} {l c : Nat} {a : Int} (h : VEx lo W x k op n nm p l c a) (hk : ∀ g,lo ≤ g → g < W.heap.size → X.heap[g]? = W.heap[g]?) : VEx lo X x k op n nm p l c a:=by
 obtain ⟨h1,h2,h3,h4,h5,h6,h7⟩:=h
 exact ⟨h1,h2,h3,h4,h5,h6,h7.kept hk⟩
theorem VEx.low {lo lo' : Nat} {W : World} {x : Ex} {k op n : Int} {nm : ByteArray} {p : Option Addr} {l c : Nat} {a : Int} (h : VEx lo W x k op n nm p l c a) (hl : lo' ≤ lo) : VEx lo' W x k op n nm p l c a:=by
 obtain ⟨h1,h2,h3,h4,h5,h6,h7⟩:=h
 exact ⟨h1,h2,h3,h4,h5,h6,h7.low hl⟩
theorem VEx.zero {lo : Nat} {W : World} : VEx lo W ex0 0 0 0 ⟨#[]⟩ none 0 0 0:=⟨rfl,rfl,rfl,rfl,rfl,rfl,.leaf⟩
def EndX (lo : Nat) (q : Ex × RS) (e : Ending) (w' : World) : Prop:=∃ k op n nm p l c a,e = .returned (.agg #[.int .i64 k,.int .i64 op,.int .i64 n,.string nm,.slice p l c,.int .i64 a]) ∧ ∀ tt,q.2 = .ok tt → VEx lo w' q.1 k op n nm p l c a
theorem r4_exprBad {r4 rb g cap : Nat} {ws : List Wd} {d : Int} {p0 p1 p2 p3 : Value} {W : World} {c0 : Int} {b0 : Nat} (S : Hid (A4 W r4 rb g cap ws d p0 p1 p2 p3 (.bad c0 b0))) :
 Calls Try.prog 68 #[.pointer (some ⟨r4,0,none⟩)] W fun e w' => e = .returned (.agg #[.int .i64 0,.int .i64 0,.int .i64 0,.string ⟨#[]⟩,.slice none 0 0,.int .i64 0]) ∧ A4 w' r4 rb g cap ws d p0 p1 p2 p3 (.bad c0 b0) ∧ Fr (some rb) W w':=by
 obtain ⟨hl4,hlb,hlg⟩:=S.out.blk
 have hne4 : r4 ≠ W.heap.size:=by omega
 have hneb : rb ≠ W.heap.size:=by omega
 have hneg : g ≠ W.heap.size:=by omega
 go_enter Try.func68,Try.ntmps68
 go_wp2_with (go_at_call 23;(with_reducible refine (r4_ok (hid (S.out.alloc _)) false rfl).mono ?_);rintro e1 w1 ⟨rfl,hb1⟩;have BV1:=(Blk.new (X:=W) rfl (.int .i64 0) (.int .i64 0) (.int .i64 0) (.string ⟨#[]⟩) (.slice none 0 0) (.int .i64 0)).stay hb1;(obtain ⟨blv,c0v,c1v,c2v,c3v,c4v,c5v,f0v,f1v,f2v,f3v,f4v,f5v⟩:=(BV1).facts);have S1:=(S.out.alloc _).stay hb1)
 refine bodyPost_ret (results_ex rfl _ rfl (BV1.all _ _ _ _ _ _)) rfl ⟨rfl,?_,by (with_reducible repeat first | exact Fr.refl _ _ | refine Fr.alloc ?_ _ | refine Fr.drewN ?_ _ | refine Fr.drew ?_ | (refine Fr.set ?_ ?_ _ _;rotate_left;first | exact .inl rfl | (right;simp;done) | (right;simp;omega) | (right;omega)) | refine Fr.step ?_ (by assumption) | refine Fr.stepB ?_ (by assumption))⟩
 exact (((((S1.setO hne4 hneb hneg _ _).setO hne4 hneb hneg _ _).setO hne4 hneb hneg _ _).setO hne4 hneb hneg _ _).setO hne4 hneb hneg _ _).setO hne4 hneb hneg _ _
theorem r4_exprOk {r4 rb g cap : Nat} {ws : List Wd} {d : Int} {p0 p1 p2 p3 : Value} {W : World} {tt : List Wd} {r : Res} (S : Hid (A4 W r4 rb g cap ws d p0 p1 p2 p3 (.ok tt))) (hP : P 0 (.expr 1) tt r) :
 Calls Try.prog 68 #[.pointer (some ⟨r4,0,none⟩)] W fun e w' => (∃ k op n nm p l c a,e = .returned (.agg #[.int .i64 k,.int .i64 op,.int .i64 n,.string nm,.slice p l c,.int .i64 a]) ∧ GoodEx W.heap.size w' r k op n nm p l c a) ∧ A4 w' r4 rb g cap ws d p0 p1 p2 p3 r.st ∧ Fr (some rb) W w':=by
 obtain ⟨hl4,hlb,hlg⟩:=S.out.blk
 have hne4 : r4 ≠ W.heap.size:=by omega
 have hneb : rb ≠ W.heap.size:=by omega
 have hneg : g ≠ W.heap.size:=by omega
 have HE:=hid (rexpr_any rb g ws 0 1 tt r hP S.out.st.1 S.out.st.2.1 (by decide) (by decide))
 clear hP
 go_enter Try.func68,Try.ntmps68
 go_wp2_with (first
  | (go_at_call 23;(with_reducible refine (r4_ok (hid (S.out.alloc _)) true rfl).mono ?_);rintro e1 w1 ⟨rfl,hb1⟩;have BV1:=(Blk.new (X:=W) rfl (.int .i64 0) (.int .i64 0) (.int .i64 0) (.string ⟨#[]⟩) (.slice none 0 0) (.int .i64 0)).stay hb1;have S1:=hid ((S.out.alloc _).stay hb1);obtain ⟨m0,_,_,_,_,_⟩:=S1.out.at4.cells;have hl41:=S1.out.at4.lt;have T1 : StR w1 rb g cap ws ((0 : Nat) : Int) (.ok tt):=S1.out.st;have hz1:=hb1.size;(try simp only [World.size_alloc] at hz1))
  | (go_at_call 73;(with_reducible refine (HE.out.use _ cap S1.out.env T1).mono ?_);rintro e2 w2 ⟨hf2,hs2,k5,q5,n5,nm5,p5,l5,c5,a5,rfl,hg5⟩;have BV2:=BV1.fr hf2 (Ne.symm hneb);(obtain ⟨blv,c0v,c1v,c2v,c3v,c4v,c5v,f0v,f1v,f2v,f3v,f4v,f5v⟩:=(BV2).facts)))
 have S2:=S1.out.fr hf2 hs2
 refine bodyPost_ret (results_ex rfl _ rfl (BV2.all _ _ _ _ _ _)) rfl ⟨⟨k5,q5,n5,nm5,p5,l5,c5,a5,rfl,?_⟩,?_,?_⟩
 · intro x' ts' e
   obtain ⟨h1,h2,h3,h4,h5,h6,h7⟩:=hg5 x' ts' e
   refine ⟨h1,h2,h3,h4,h5,h6,IsEx.low (lo:=w1.heap.size) ?_ (by omega)⟩
   exact (((((h7.set (by omega) _ _).set (by omega) _ _).set (by omega) _ _).set (by omega) _ _).set (by omega) _ _).set (by omega) _ _
 · exact (((((S2.setO hne4 hneb hneg _ _).setO hne4 hneb hneg _ _).setO hne4 hneb hneg _ _).setO hne4 hneb hneg _ _).setO hne4 hneb hneg _ _).setO hne4 hneb hneg _ _
 · have F1 : Fr (some rb) W w1:=((Fr.refl _ _).alloc _).stepB hb1
   (with_reducible repeat first | exact Fr.refl _ _ | refine Fr.alloc ?_ _ | refine Fr.drewN ?_ _ | refine Fr.drew ?_ | (refine Fr.set ?_ ?_ _ _;rotate_left;first | exact .inl rfl | (right;simp;done) | (right;simp;omega) | (right;omega)) | refine Fr.step ?_ (by assumption) | refine Fr.stepB ?_ (by assumption))
theorem r4_expr {r4 rb g cap : Nat} {ws : List Wd} {d : Int} {p0 p1 p2 p3 : Value} {W : World} {σ : RS} (S : Hid (A4 W r4 rb g cap ws d p0 p1 p2 p3 σ)) : Calls Try.prog 68 #[.pointer (some ⟨r4,0,none⟩)] W fun e w' => EndX W.heap.size (exF σ) e w' ∧ A4 w' r4 rb g cap ws d p0 p1 p2 p3 (exF σ).2 ∧ Fr (some rb) W w':=by
 cases σ with
 | bad c b => exact (r4_exprBad S).mono fun e w' ⟨h1,h2,h3⟩ => ⟨⟨_,_,_,_,_,_,_,_,h1,fun tt h => by cases h⟩,h2,h3⟩
 | ok tt =>
  obtain ⟨r,hP⟩:=P.total (4 * tt.length + 3) 0 (.expr 1) tt (by simp [Job.wt]) (by simp [Job.may]) S.out.st.2.1 (by decide)
  refine (r4_exprOk S hP).mono fun e w' ⟨⟨k,op,n,nm,p,l,c,a,h1,h2⟩,h3,h4⟩ => ?_
  rcases hP.form (by simp [Job.may]) S.out.st.2.1 rfl with ⟨x,d',ts',rfl,_,_⟩ | ⟨c',a',rfl⟩
  · rw [exF_ok hP]
    exact ⟨⟨k,op,n,nm,p,l,c,a,h1,fun _ _ => h2 _ _ rfl⟩,h3,h4⟩
  · rw [exF_bad hP]
    exact ⟨⟨k,op,n,nm,p,l,c,a,h1,fun tt h => by cases h⟩,h3,h4⟩
theorem r4_bound {r4 rb g cap : Nat} {ws : List Wd} {d : Int} {p0 p1 p2 p3 : Value} {W : World} {σ : RS} (S : Hid (A4 W r4 rb g cap ws d p0 p1 p2 p3 σ)) : Calls Try.prog 74 #[.pointer (some ⟨r4,0,none⟩)] W fun e w' => EndX W.heap.size (boundF σ) e w' ∧ A4 w' r4 rb g cap ws d p0 p1 p2 p3 (boundF σ).2 ∧ Fr (some rb) W w':=by
 obtain ⟨hl4,hlb,hlg⟩:=S.out.blk
 have hne4 : r4 ≠ W.heap.size:=by omega
 have hneb : rb ≠ W.heap.size:=by omega
 have hneg : g ≠ W.heap.size:=by omega
 have H1 : Hid (σ.need (⟨#[40]⟩ : ByteArray).data.toList = σ.need [40]):=hid rfl
 have H2 : Hid ((exF (σ.need [40])).2.need (⟨#[41]⟩ : ByteArray).data.toList = (boundF σ).2):=hid rfl
 go_enter Try.func74,Try.ntmps74
 go_wp2_with (first
  | (go_at_call 48;(with_reducible refine (r4_need (hid (S.out.alloc _)) _ _ H1).mono ?_);rintro e1 w1 ⟨rfl,hs1,hf1⟩;have BV1:=(Blk.new (X:=W) rfl (.int .i64 0) (.int .i64 0) (.int .i64 0) (.string ⟨#[]⟩) (.slice none 0 0) (.int .i64 0)).fr hf1 (Ne.symm hneb);have hz1:=Fr.size hf1;(try simp only [World.size_alloc] at hz1))
  | (go_at_call 68;(with_reducible refine (r4_expr (hid hs1)).mono ?_);rintro e2 w2 ⟨⟨k5,q5,n5,nm5,p5,l5,c5,a5,rfl,hg5⟩,hs2,hf2⟩;have BV2:=(BV1.fr hf2 (Ne.symm hneb)).alloc (.cells #[.int .i64 k5,.int .i64 q5,.int .i64 n5,.string nm5,.slice p5 l5 c5,.int .i64 a5] 63);have BE2:=Blk.new (X:=w2) rfl (.int .i64 k5) (.int .i64 q5) (.int .i64 n5) (.string nm5) (.slice p5 l5 c5) (.int .i64 a5);have hz2:=Fr.size hf2)
  | (go_at_call 48;(with_reducible refine (r4_need (hid (hs2.alloc _)) _ _ H2).mono ?_);rintro e3 w3 ⟨rfl,hs3,hf3⟩;have BV3:=BV2.fr hf3 (Ne.symm hneb);have BE3:=BE2.fr hf3 (by omega);have hz3:=Fr.size hf3;(obtain ⟨blv,c0v,c1v,c2v,c3v,c4v,c5v,f0v,f1v,f2v,f3v,f4v,f5v⟩:=(BV3).facts);(obtain ⟨ble,c0e,c1e,c2e,c3e,c4e,c5e,f0e,f1e,f2e,f3e,f4e,f5e⟩:=(BE3).facts)))
 refine bodyPost_ret (results_ex rfl _ rfl (BV3.all _ _ _ _ _ _)) rfl ⟨⟨k5,q5,n5,nm5,p5,l5,c5,a5,rfl,?_⟩,?_,?_⟩
 · intro tt h
   have hok : ∃ t',(exF (σ.need [40])).2 = .ok t':=by
    have h' : (exF (σ.need [40])).2.need [41] = .ok tt:=h
    cases hq : (exF (σ.need [40])).2 with
    | ok t' => exact ⟨t',rfl⟩
    | bad c a => rw [hq] at h';cases h'
   obtain ⟨t',ht⟩:=hok
   obtain ⟨h1,h2,h3,h4,h5,h6,h7⟩:=hg5 t' ht
   refine ⟨h1,h2,h3,h4,h5,h6,IsEx.low (lo:=w1.heap.size) ?_ (by omega)⟩
   have h8:=(h7.alloc (.cells #[.int .i64 k5,.int .i64 q5,.int .i64 n5,.string nm5,.slice p5 l5 c5,.int .i64 a5] 63)).fr hf3 (by omega)
   exact (((((h8.set (by omega) _ _).set (by omega) _ _).set (by omega) _ _).set (by omega) _ _).set (by omega) _ _).set (by omega) _ _
 · exact (((((hs3.setO hne4 hneb hneg _ _).setO hne4 hneb hneg _ _).setO hne4 hneb hneg _ _).setO hne4 hneb hneg _ _).setO hne4 hneb hneg _ _).setO hne4 hneb hneg _ _
 · have F1 : Fr (some rb) W w1:=((Fr.refl _ _).alloc _).step hf1
   have F3 : Fr (some rb) W w3:=((F1.step hf2).alloc _).step hf3
   clear hf1 hf2 hf3
   (with_reducible repeat first | exact Fr.refl _ _ | refine Fr.alloc ?_ _ | refine Fr.drewN ?_ _ | refine Fr.drew ?_ | (refine Fr.set ?_ ?_ _ _;rotate_left;first | exact .inl rfl | (right;simp;done) | (right;simp;omega) | (right;omega)) | refine Fr.step ?_ (by assumption) | refine Fr.stepB ?_ (by assumption))
end Go.Proofs.Ytbmmjomcjlpnlaa
namespace Go.Proofs.Ytbmmjomcjlpnlaa
open Go Go.RowKit
structure SV where
 (i e b l : Value)
def stCells (s : Stm) (v : SV) : List Value:=[.int .i64 s.k,.int .i64 s.a,.bool s.tr,.bool s.sc,.string (bstr s.nm),v.i,v.e,v.b,v.l]
def exsE (l : List Ex) : Ex:=.mk 0 0 0 [] l 0
inductive IsSts (ok : Nat → Prop) (W : World) : List Stm → Value → Prop
 | nil : IsSts ok W [] (.slice none 0 0)
 | node {l : List Stm} (g cap : Nat) (cs : Array Value) (fr : Nat × Nat) (vs : Nat → SV) : ok g → W.heap[g]? = some (.cells cs 141 fr) → l ≠ [] →
  (∀ i s,l[i]? = some s → ∀ j u,(stCells s (vs i))[j]? = some u → cs[i * 9 + j]? = some u) →
  (∀ i s,l[i]? = some s → IsExP ok W (exsE s.ix) (vs i).i) → (∀ i s,l[i]? = some s → IsExP ok W (exsE s.es) (vs i).e) →
  (∀ i s,l[i]? = some s → IsSts ok W s.bd (vs i).b) → (∀ i s,l[i]? = some s → IsSts ok W s.el (vs i).l) → IsSts ok W l (.slice (some ⟨g,0,none⟩) l.length cap)
theorem IsSts.kept {ok ok' : Nat → Prop} {W X : World} {l : List Stm} {v : Value} (h : IsSts ok W l v) (hk : ∀ g,ok g → g < W.heap.size → X.heap[g]? = W.heap[g]? ∧ ok' g) : IsSts ok' X l v:=by
 induction h with
 | nil => exact .nil
 | node g cap cs fr vs hg hb hne hc hi he _ _ ih1 ih2 =>
  have:=hk g hg (Array.getElem?_eq_some_iff.1 hb).1
  exact .node g cap cs fr vs this.2 (this.1.trans hb) hne hc (fun i s h => (hi i s h).kept hk) (fun i s h => (he i s h).kept hk) ih1 ih2
theorem IsSts.form {ok : Nat → Prop} {W : World} {l : List Stm} {v : Value} (h : IsSts ok W l v) : ∃ p c,v = .slice p l.length c:=by
 cases h with
 | nil => exact ⟨_,_,rfl⟩
 | node g cap => exact ⟨_,_,rfl⟩
def IsSt1 (ok : Nat → Prop) (W : World) (s : Stm) (v : SV) : Prop:=IsExP ok W (exsE s.ix) v.i ∧ IsExP ok W (exsE s.es) v.e ∧ IsSts ok W s.bd v.b ∧ IsSts ok W s.el v.l
theorem IsSt1.kept {ok ok' : Nat → Prop} {W X : World} {s : Stm} {v : SV} (h : IsSt1 ok W s v) (hk : ∀ g,ok g → g < W.heap.size → X.heap[g]? = W.heap[g]? ∧ ok' g) : IsSt1 ok' X s v :=
 ⟨h.1.kept hk,h.2.1.kept hk,h.2.2.1.kept hk,h.2.2.2.kept hk⟩
theorem IsSt1.fr {ok : Nat → Prop} {W X : World} {s : Stm} {v : SV} {rb : Nat} (h : IsSt1 ok W s v) (hf : Fr (some rb) W X) (hr : ∀ g,ok g → g ≠ rb) : IsSt1 ok X s v :=
 h.kept fun g hg hl => ⟨hf.block hl (by simp;exact hr g hg),hg⟩
theorem IsSt1.weak {ok ok' : Nat → Prop} {W : World} {s : Stm} {v : SV} (h : IsSt1 ok W s v) (hk : ∀ g,ok g → ok' g) : IsSt1 ok' W s v:=h.kept fun g hg _ => ⟨rfl,hk g hg⟩
def stRow : List (Stm × SV) → List Value
 | [] => []
 | (s,v) :: r => stCells s v ++ stRow r
theorem stRow_snoc (l : List (Stm × SV)) (s : Stm) (v : SV) : stRow (l ++ [(s,v)]) = stRow l ++ stCells s v:=by
 induction l with
 | nil => simp [stRow]
 | cons y r ih => simp [stRow,ih]
theorem stRow_at : ∀ (l : List (Stm × SV)) (i : Nat) (s : Stm) (v : SV) (j : Nat) (u : Value),l[i]? = some (s,v) → (stCells s v)[j]? = some u → (stRow l)[i * 9 + j]? = some u
 | [],i,s,v,j,u,h,_ => by simp at h
 | y :: r,0,s,v,j,u,h,hv => by
  simp at h
  subst h
  have hj : j < 9:=(List.getElem?_eq_some_iff.1 hv).1
  show (stCells s v ++ stRow r)[0 * 9 + j]? = _
  rw [List.getElem?_append_left (by show 0 * 9 + j < 9;omega),Nat.zero_mul,Nat.zero_add]
  exact hv
 | y :: r,i + 1,s,v,j,u,h,hv => by
  show (stCells y.1 y.2 ++ stRow r)[(i + 1) * 9 + j]? = _
  rw [List.getElem?_append_right (by show 9 ≤ _;omega)]
  have e : (i + 1) * 9 + j - (stCells y.1 y.2).length = i * 9 + j:=by show (i + 1) * 9 + j - 9 = _;omega
  rw [e]
  exact stRow_at r i s v j u (by simpa using h) hv
def SGrows (B : Nat) (W : World) (l : List Stm) (v : Value) (r : List (Stm × SV)) : Prop :=
 r.map (·.1) = l ∧ W.ownsRow B 141 9 v l.length (stRow r) ∧ (∀ p ∈ r,IsSt1 (fun g => B ≤ g ∧ v.ownBlock ≠ some g) W p.1 p.2) ∧ (l = [] → v = .slice none 0 0)
theorem SGrows.nil (B : Nat) (W : World) : SGrows B W [] (.slice none 0 0) []:=⟨rfl,World.ownsRow_nil W B _ 9,by simp,fun _ => rfl⟩
theorem SGrows.form {B : Nat} {W : World} {l : List Stm} {v : Value} {r : List (Stm × SV)} (h : SGrows B W l v r) : ∃ p c,v = .slice p l.length c:=by
 rcases h.2.1.2 with ⟨h1,h2⟩ | ⟨g,cap,cur,h1,_⟩
 · exact ⟨none,0,by rw [h1,h2]⟩
 · exact ⟨_,_,h1⟩
theorem SGrows.fr {B rb : Nat} {W X : World} {l : List Stm} {v : Value} {r : List (Stm × SV)} (h : SGrows B W l v r) (hf : Fr (some rb) W X) (hr : rb < B) : SGrows B X l v r:=by
 obtain ⟨h1,h2,h3,h4⟩:=h
 have hg : W.grownBy X (some rb):=hf
 refine ⟨h1,h2.kept hg ?_,fun p hp => (h3 p hp).kept fun g hg hl => ⟨hf.block hl (by simp;omega),hg⟩,h4⟩
 right
 intro e
 have:=h2.lt _ e
 omega
theorem SGrows.ex {B : Nat} {W : World} {l : List Stm} {v : Value} {r : List (Stm × SV)} (h : SGrows B W l v r) : IsSts (fun g => B ≤ g) W l v:=by
 obtain ⟨rfl,h2,h3,h4⟩:=h
 rcases h2.2 with ⟨rfl,hn⟩ | ⟨g,cap,cur,rfl,hB,hg,hnc,_,hcs,hx⟩
 · have : r.map (·.1) = []:=List.eq_nil_of_length_eq_zero hn
   rw [this]
   exact .nil
 · by_cases hl : r.map (·.1) = []
   · have:=h4 hl
     cases this
   · have key : ∀ (i : Nat) (s : Stm),(r.map (·.1))[i]? = some s → ∃ v : SV,r[i]? = some (s,v):=by
      intro i s he
      rw [List.getElem?_map] at he
      obtain ⟨p,hp,rfl⟩:=Option.map_eq_some_iff.1 he
      exact ⟨p.2,hp⟩
     have hd : ∀ (i : Nat) (s : Stm) (v : SV),r[i]? = some (s,v) → ((r[i]?).map (·.2)).getD ⟨undef,undef,undef,undef⟩ = v:=by
      intro i s v h
      rw [h]
      rfl
     refine .node g cap cur (0,0) (fun i => ((r[i]?).map (·.2)).getD ⟨undef,undef,undef,undef⟩) hB hg hl ?_ ?_ ?_ ?_ ?_
     · intro i s he j u hu
       obtain ⟨v,hp⟩:=key i s he
       rw [hd i s v hp] at hu
       have hcell:=stRow_at r i s v j u hp hu
       rw [← hx] at hcell
       rw [List.getElem?_take] at hcell
       split at hcell
       · simpa using hcell
       · cases hcell
     all_goals
      intro i s he
      obtain ⟨v,hp⟩:=key i s he
      rw [hd i s v hp]
      obtain ⟨a1,a2,a3,a4⟩:=(h3 _ (List.mem_of_getElem? hp)).weak (ok':=fun g => B ≤ g) (fun g hg => hg.1)
      assumption
theorem SGrows.more {B : Nat} {W X : World} {es : List Stm} {v : Value} {x : Stm} {u : SV} {g cap : Nat} {l : List (Stm × SV)} (h : SGrows B W es v l) (hx : IsSt1 (fun b => B ≤ b ∧ v.ownBlock ≠ some b) W x u)
 (hg : W.grownBy X v.ownBlock) (hv : v.ownBlock = some g ∨ g = W.heap.size) (ho : X.ownsRow B 141 9 (.slice (some ⟨g,0,none⟩) (es.length + 1) cap) (es.length + 1) (stRow l ++ stCells x u)) :
 SGrows B X (es ++ [x]) (.slice (some ⟨g,0,none⟩) (es.length + 1) cap) (l ++ [(x,u)]):=by
 obtain ⟨h1,h2,h3,h4⟩:=h
 have hne : ∀ b,b < W.heap.size → v.ownBlock ≠ some b → b ≠ g:=by
  intro b hb hn e
  subst e
  rcases hv with hv | hv
  · exact hn hv
  · omega
 have step : ∀ p : Stm × SV,IsSt1 (fun b => B ≤ b ∧ v.ownBlock ≠ some b) W p.1 p.2 → IsSt1 (fun b => B ≤ b ∧ (Value.slice (some ⟨g,0,none⟩) (es.length + 1) cap).ownBlock ≠ some b) X p.1 p.2:=fun p hp => by
  refine hp.kept fun b hb hl => ⟨hg.block b hl (fun e => hb.2 e.symm),hb.1,?_⟩
  have:=hne b hl hb.2
  simpa [Value.ownBlock] using fun e => this e.symm
 refine ⟨by simp [h1],?_,?_,by simp⟩
 · rw [stRow_snoc,List.length_append]
   exact ho
 · intro p hp
   rcases List.mem_append.1 hp with hp | hp
   · exact step p (h3 p hp)
   · simp at hp
     subst hp
     exact step (x,u) hx
theorem infoSt : (Try.prog.info? 141).map (fun i => (i.zero,i.size,i.bytes)) = some (some (.agg #[.int .i64 0,.int .i64 0,.bool false,.bool false,.string ⟨#[]⟩,.slice none 0 0,.slice none 0 0,.slice none 0 0,.slice none 0 0]),9,136):=by kernel_rfl
def SBlk (X : World) (n : Nat) (k a : Int) (tr sc : Bool) (nm : ByteArray) (vi ve vb vl : Value) : Prop:=X.heap[n]? = some (.cells #[.int .i64 k,.int .i64 a,.bool tr,.bool sc,.string nm,vi,ve,vb,vl] 141 (0,0))
section
variable {X Y : World} {n : Nat} {k a : Int} {tr sc : Bool} {nm : ByteArray} {vi ve vb vl : Value}
theorem SBlk.facts (h : SBlk X n k a tr sc nm vi ve vb vl) : n < X.heap.size ∧ (X.cell? ⟨n,0,none⟩ = some (.int .i64 k) ∧ X.cell? ⟨n,1,none⟩ = some (.int .i64 a) ∧ X.cell? ⟨n,2,none⟩ = some (.bool tr) ∧ X.cell? ⟨n,3,none⟩ = some (.bool sc) ∧ X.cell? ⟨n,4,none⟩ = some (.string nm) ∧ X.cell? ⟨n,5,none⟩ = some vi ∧ X.cell? ⟨n,6,none⟩ = some ve ∧ X.cell? ⟨n,7,none⟩ = some vb ∧ X.cell? ⟨n,8,none⟩ = some vl) ∧
 (X.frozen? ⟨n,0,none⟩ = false ∧ X.frozen? ⟨n,1,none⟩ = false ∧ X.frozen? ⟨n,2,none⟩ = false ∧ X.frozen? ⟨n,3,none⟩ = false ∧ X.frozen? ⟨n,4,none⟩ = false ∧ X.frozen? ⟨n,5,none⟩ = false ∧ X.frozen? ⟨n,6,none⟩ = false ∧ X.frozen? ⟨n,7,none⟩ = false ∧ X.frozen? ⟨n,8,none⟩ = false):=by
 refine ⟨(Array.getElem?_eq_some_iff.1 h).1,⟨?_,?_,?_,?_,?_,?_,?_,?_,?_⟩,frozen_of_row X n _ _ _ h,frozen_of_row X n _ _ _ h,frozen_of_row X n _ _ _ h,frozen_of_row X n _ _ _ h,frozen_of_row X n _ _ _ h,frozen_of_row X n _ _ _ h,frozen_of_row X n _ _ _ h,frozen_of_row X n _ _ _ h,frozen_of_row X n _ _ _ h⟩ <;> rw [cell_of_row _ _ _ _ _ _ h] <;> rfl
theorem SBlk.alloc (h : SBlk X n k a tr sc nm vi ve vb vl) (o : Obj) : SBlk (X.alloc o) n k a tr sc nm vi ve vb vl:=(Below.heap_alloc X o n (Array.getElem?_eq_some_iff.1 h).1).trans h
theorem SBlk.drew (h : SBlk X n k a tr sc nm vi ve vb vl) : SBlk X.drew n k a tr sc nm vi ve vb vl:=h
theorem SBlk.stay (h : SBlk X n k a tr sc nm vi ve vb vl) (hf : Below X.heap.size X Y) : SBlk Y n k a tr sc nm vi ve vb vl:=(hf.block n (Array.getElem?_eq_some_iff.1 h).1).trans h
theorem SBlk.fr {rb : Nat} (h : SBlk X n k a tr sc nm vi ve vb vl) (hf : Fr (some rb) X Y) (hne : n ≠ rb) : SBlk Y n k a tr sc nm vi ve vb vl:=(hf.block (Array.getElem?_eq_some_iff.1 h).1 (by simp;exact hne)).trans h
theorem SBlk.setO (h : SBlk X n k a tr sc nm vi ve vb vl) {b : Nat} (hne : n ≠ b) (o : Nat) (v : Value) : SBlk (X.setCell ⟨b,o,none⟩ v) n k a tr sc nm vi ve vb vl:=(heap_setCell_other X ⟨b,o,none⟩ n v hne).trans h
theorem SBlk.set0 (h : SBlk X n k a tr sc nm vi ve vb vl) (v : Int) : SBlk (X.setCell ⟨n,0,none⟩ (.int .i64 v)) n v a tr sc nm vi ve vb vl:=heap_setCell_same X n 0 _ _ _ h
theorem SBlk.set1 (h : SBlk X n k a tr sc nm vi ve vb vl) (v : Int) : SBlk (X.setCell ⟨n,1,none⟩ (.int .i64 v)) n k v tr sc nm vi ve vb vl:=heap_setCell_same X n 1 _ _ _ h
theorem SBlk.set2 (h : SBlk X n k a tr sc nm vi ve vb vl) (v : Bool) : SBlk (X.setCell ⟨n,2,none⟩ (.bool v)) n k a v sc nm vi ve vb vl:=heap_setCell_same X n 2 _ _ _ h
theorem SBlk.set3 (h : SBlk X n k a tr sc nm vi ve vb vl) (v : Bool) : SBlk (X.setCell ⟨n,3,none⟩ (.bool v)) n k a tr v nm vi ve vb vl:=heap_setCell_same X n 3 _ _ _ h
theorem SBlk.set4 (h : SBlk X n k a tr sc nm vi ve vb vl) (v : ByteArray) : SBlk (X.setCell ⟨n,4,none⟩ (.string v)) n k a tr sc v vi ve vb vl:=heap_setCell_same X n 4 _ _ _ h
theorem SBlk.set5 (h : SBlk X n k a tr sc nm vi ve vb vl) (v : Value) : SBlk (X.setCell ⟨n,5,none⟩ v) n k a tr sc nm v ve vb vl:=heap_setCell_same X n 5 _ _ _ h
theorem SBlk.set6 (h : SBlk X n k a tr sc nm vi ve vb vl) (v : Value) : SBlk (X.setCell ⟨n,6,none⟩ v) n k a tr sc nm vi v vb vl:=heap_setCell_same X n 6 _ _ _ h
theorem SBlk.set7 (h : SBlk X n k a tr sc nm vi ve vb vl) (v : Value) : SBlk (X.setCell ⟨n,7,none⟩ v) n k a tr sc nm vi ve v vl:=heap_setCell_same X n 7 _ _ _ h
theorem SBlk.set8 (h : SBlk X n k a tr sc nm vi ve vb vl) (v : Value) : SBlk (X.setCell ⟨n,8,none⟩ v) n k a tr sc nm vi ve vb v:=heap_setCell_same X n 8 _ _ _ h
theorem SBlk.new (hn : n = X.heap.size) : SBlk (X.alloc (.cells #[.int .i64 k,.int .i64 a,.bool tr,.bool sc,.string nm,vi,ve,vb,vl] 141)) n k a tr sc nm vi ve vb vl:=hn ▸ heap_alloc_new X _
theorem results_s {fn : Func} {p : Tmp} (hfn : fn.results = #[.cell p 141]) (tmps : Array Value) (hp : tmps.getD p undef = .pointer (some ⟨n,0,none⟩)) (h : SBlk X n k a tr sc nm vi ve vb vl) :
 (results fn tmps).run Try.prog X = .ok (.agg #[.int .i64 k,.int .i64 a,.bool tr,.bool sc,.string nm,vi,ve,vb,vl]) X:=by
 have hp' : tmps[p]?.getD undef = .pointer (some ⟨n,0,none⟩):=by simpa using hp
 simp [results,hfn,hp',asAddr,run_loadVar_row X n 141 141 _ (0,0) _ h Try.underlying141 rfl (by kernel_rfl)]
end
end Go.Proofs.Ytbmmjomcjlpnlaa
namespace Go.Proofs.Ytbmmjomcjlpnlaa
open Go
def RS.fin (s : RS) : Prop:=∀ tt,s = .ok tt → Fin tt
def Le (t s : RS) : Prop:=t.len ≤ s.len ∧ t.fin
theorem Le.trans {a b c : RS} (h : Le a b) (k : Le b c) : Le a c:=⟨Nat.le_trans h.1 k.1,h.2⟩
theorem bad_fin (c : Int) (a : Nat) : (RS.bad c a).fin:=fun _ h => by cases h
theorem fail_le {s : RS} (h : s.fin) (e : Int) : Le (s.fail e) s:=by
 cases s with
 | bad c a => exact ⟨Nat.le_refl _,bad_fin c a⟩
 | ok ts =>
  cases ts with
  | nil => exact ⟨Nat.le_refl _,h⟩
  | cons w ts => exact ⟨Nat.zero_le _,bad_fin _ _⟩
theorem adv_le {x : Wd} {tt : List Wd} (h : (RS.ok (x :: tt)).fin) (hx : x.k ≠ 3) : Le (RS.ok tt) (.ok (x :: tt)) ∧ (RS.ok tt).len < (RS.ok (x :: tt)).len :=
 ⟨⟨by simp [RS.len],fun t e => by cases e;exact (h _ rfl).cons hx⟩,by simp [RS.len]⟩
theorem need_le {s : RS} (h : s.fin) (t : List UInt8) : Le (s.need t) s:=by
 cases hb : s.is t with
 | false => rw [RS.need_f hb];exact fail_le h 11
 | true =>
  rw [RS.need_t hb]
  cases s with
  | bad c a => cases hb
  | ok ts =>
   cases ts with
   | nil => cases hb
   | cons x tt => exact (adv_le h (RS.is_ne3 hb)).1
theorem eith_le {s : RS} (h : s.fin) (x y : List UInt8) : Le (eithF x y s).2 s:=by
 unfold eithF
 cases hb : s.is y with
 | false => simp;exact need_le h x
 | true =>
  simp
  cases s with
  | bad c a => cases hb
  | ok ts =>
   cases ts with
   | nil => cases hb
   | cons x tt => exact (adv_le h (RS.is_ne3 hb)).1
theorem kind_le {s : RS} (h : s.fin) : Le (kindF s).2 s:=by
 unfold kindF
 have h1:=eith_le h kPublic kSecret
 exact (eith_le h1.2 kInt kBool).trans h1
theorem nameF_cons (x : Wd) (tt : List Wd) : nameF (.ok (x :: tt)) = if x.k ≠ 0 ∨ keyB x.t = true then (([],0),.bad 11 x.a) else ((x.t,x.a),.ok tt):=rfl
theorem name_le {s : RS} (h : s.fin) : Le (nameF s).2 s:=by
 cases s with
 | bad c a => exact ⟨Nat.le_refl _,bad_fin _ _⟩
 | ok ts =>
  cases ts with
  | nil => exact ⟨Nat.le_refl _,h⟩
  | cons x tt =>
   rw [nameF_cons]
   by_cases hx : x.k ≠ 0 ∨ keyB x.t = true
   · rw [if_pos hx]
     exact ⟨Nat.zero_le _,bad_fin _ _⟩
   · rw [if_neg hx]
     exact (adv_le h (fun e => hx (.inl (by rw [e];decide)))).1
theorem name_lt {x : Wd} {tt : List Wd} (h : (RS.ok (x :: tt)).fin) : (nameF (.ok (x :: tt))).2.len < (RS.ok (x :: tt)).len:=by
 rw [nameF_cons]
 by_cases hx : x.k ≠ 0 ∨ keyB x.t = true
 · rw [if_pos hx]
   simp [RS.len]
 · rw [if_neg hx]
   simp [RS.len]
theorem ex_le {s : RS} (h : s.fin) : Le (exF s).2 s:=by
 cases s with
 | bad c a => exact ⟨Nat.le_refl _,bad_fin _ _⟩
 | ok tt =>
  obtain ⟨r,hP⟩:=P.total (4 * tt.length + 3) 0 (.expr 1) tt (by simp [Job.wt]) (by simp [Job.may]) (h _ rfl) (by decide)
  rcases hP.form (by simp [Job.may]) (h _ rfl) rfl with ⟨x,d',ts',rfl,h1,h2⟩ | ⟨c',a',rfl⟩
  · rw [exF_ok hP]
    refine ⟨?_,fun t e => by cases e;exact h1⟩
    show (d' :: ts').length ≤ tt.length
    omega
  · rw [exF_bad hP]
    exact ⟨Nat.zero_le _,bad_fin _ _⟩
theorem bound_le {s : RS} (h : s.fin) : Le (boundF s).2 s:=by
 have h1:=need_le h [40]
 have h2:=ex_le h1.2
 have h3:=need_le h2.2 [41]
 exact h3.trans (h2.trans h1)
theorem is_cons {s : RS} {t : List UInt8} (h : s.is t = true) : ∃ x tt,s = .ok (x :: tt) ∧ x.k ≠ 3:=by
 cases s with
 | bad c a => cases h
 | ok ts =>
  cases ts with
  | nil => cases h
  | cons x tt => exact ⟨x,tt,rfl,RS.is_ne3 h⟩
theorem is_adv {s : RS} {t : List UInt8} (h : s.is t = true) (hf : s.fin) : Le s.adv s ∧ s.adv.len < s.len:=by
 obtain ⟨x,tt,rfl,hx⟩:=is_cons h
 exact adv_le hf hx
theorem read_le : ∀ n : Nat,(∀ d x tt,(RS.ok (x :: tt)).fin → 0 < n → Le (stmtF n d (.ok (x :: tt))).2 (.ok (x :: tt)) ∧ (stmtF n d (.ok (x :: tt))).2.len < (RS.ok (x :: tt)).len) ∧
 (∀ d s,s.fin → Le (blockF n d s).2 s) ∧ (∀ d t s,s.fin → Le (stmtsF n d t s).2 s):=by
 intro n
 induction n with
 | zero => exact ⟨fun d x tt _ h => absurd h (by omega),fun d s h => by unfold blockF;exact ⟨Nat.le_refl _,h⟩,fun d t s h => by unfold stmtsF;exact ⟨Nat.le_refl _,h⟩⟩
 | succ n ih =>
  obtain ⟨ih1,ih2,ih3⟩:=ih
  refine ⟨fun d x tt hf _ => ?_,fun d s hf => ?_,fun d t s hf => ?_⟩
  · suffices hs : ∃ m,Le m (.ok (x :: tt)) ∧ m.len < (RS.ok (x :: tt)).len ∧ Le (stmtF (n + 1) d (.ok (x :: tt))).2 m by
     obtain ⟨m,h1,h2,h3⟩:=hs
     exact ⟨h3.trans h1,Nat.lt_of_le_of_lt h3.1 h2⟩
    unfold stmtF
    by_cases b1 : (RS.ok (x :: tt)).is kVar = true
    · have ha:=is_adv b1 hf
      rw [if_pos b1]
      have k1:=kind_le ha.1.2
      have k2:=name_le k1.2
      have k3:=need_le k2.2 [61]
      have k4:=ex_le k3.2
      exact ⟨_,ha.1,ha.2,(need_le k4.2 [59]).trans (k4.trans (k3.trans (k2.trans k1)))⟩
    · rw [if_neg b1]
      by_cases b2 : (RS.ok (x :: tt)).is kIf = true
      · have ha:=is_adv b2 hf
        rw [if_pos b2]
        have k1:=bound_le ha.1.2
        have k2:=ih2 d _ k1.2
        refine ⟨_,ha.1,ha.2,?_⟩
        cases b5 : (blockF n d (boundF (RS.ok (x :: tt)).adv).2).2.is kElse with
        | false => simp [b5];exact k2.trans k1
        | true =>
         simp [b5]
         have hb:=is_adv b5 k2.2
         exact (ih2 d _ hb.1.2).trans (hb.1.trans (k2.trans k1))
      · rw [if_neg b2]
        by_cases b3 : (RS.ok (x :: tt)).is kWhile = true
        · have ha:=is_adv b3 hf
          rw [if_pos b3]
          have k1:=bound_le ha.1.2
          exact ⟨_,ha.1,ha.2,(ih2 d _ k1.2).trans k1⟩
        · rw [if_neg b3]
          by_cases b4 : (RS.ok (x :: tt)).is kLock = true
          · have ha:=is_adv b4 hf
            rw [if_pos b4]
            have k1:=name_le ha.1.2
            exact ⟨_,ha.1,ha.2,(ih2 d _ k1.2).trans k1⟩
          · rw [if_neg b4]
            by_cases b5 : (RS.ok (x :: tt)).is kOut = true
            · have ha:=is_adv b5 hf
              rw [if_pos b5]
              have k1:=ex_le ha.1.2
              exact ⟨_,ha.1,ha.2,(need_le k1.2 [59]).trans k1⟩
            · rw [if_neg b5]
              have k1:=name_le hf
              refine ⟨_,k1,name_lt hf,?_⟩
              cases b6 : (nameF (RS.ok (x :: tt))).2.is [91] with
              | false =>
               simp [b6]
               have k2:=need_le k1.2 [61]
               have k3:=ex_le k2.2
               exact (need_le k3.2 [59]).trans (k3.trans k2)
              | true =>
               simp [b6]
               have hb:=is_adv b6 k1.2
               have k2:=ex_le hb.1.2
               have k3:=need_le k2.2 [93]
               have k4:=need_le k3.2 [61]
               have k5:=ex_le k4.2
               exact (need_le k5.2 [59]).trans (k5.trans (k4.trans (k3.trans (k2.trans hb.1))))
  · unfold blockF
    have k0 : Le (if s.is [123] && decide (d = 32) then s.fail 2 else s) s:=by
     split
     · exact fail_le hf 2
     · exact ⟨Nat.le_refl _,hf⟩
    have k1:=need_le k0.2 [123]
    have k2:=ih3 (d + 1) [125] _ k1.2
    exact (need_le k2.2 [125]).trans (k2.trans (k1.trans k0))
  · unfold stmtsF
    split
    · cases s with
      | bad c a =>
       rename_i h
       simp [RS.good] at h
      | ok ts =>
       obtain ⟨x,tt,rfl⟩:=(hf _ rfl).ne
       by_cases hn : 0 < n
       · have k1:=ih1 d x tt hf hn
         exact (ih3 d t _ k1.1.2).trans k1.1
       · obtain rfl : n = 0:=by omega
         simp only [stmtF,stmtsF]
         exact ⟨Nat.le_refl _,hf⟩
    · exact ⟨Nat.le_refl _,hf⟩
end Go.Proofs.Ytbmmjomcjlpnlaa
namespace Go.Proofs.Ytbmmjomcjlpnlaa
open Go Go.RowKit
theorem rfield_a (x0 x1 x2 x3 : Value) (w : World) : (Instr.field 82 (.agg #[x0,x1,x2,x3]) 3).run Try.prog w = .ok x3 w:=by
 simp [Instr.field,run_underlying Try.underlying82,part,asAgg,Try.isAgg3]
def Hi (lo : Nat) (W X : World) : Prop:=W.heap.size ≤ X.heap.size ∧ ∀ g,lo ≤ g → g < W.heap.size → X.heap[g]? = W.heap[g]?
section
variable {lo rb : Nat} {W X Y : World}
theorem Hi.refl (lo : Nat) (W : World) : Hi lo W W:=⟨Nat.le_refl _,fun _ _ _ => rfl⟩
theorem Hi.fr (h : Hi lo W X) (hf : Fr (some rb) X Y) (hr : rb < lo) : Hi lo W Y :=
 ⟨Nat.le_trans h.1 hf.size,fun g hg hl => (hf.block (Nat.lt_of_lt_of_le hl h.1) (by simp;omega)).trans (h.2 g hg hl)⟩
theorem Hi.stay (h : Hi lo W X) (hf : Below X.heap.size X Y) : Hi lo W Y:=⟨Nat.le_trans h.1 hf.size,fun g hg hl => (hf.block g (Nat.lt_of_lt_of_le hl h.1)).trans (h.2 g hg hl)⟩
theorem Hi.alloc (h : Hi lo W X) (o : Obj) : Hi lo W (X.alloc o):=h.stay ((Below.refl _ _).alloc (Nat.le_refl _) _)
theorem Hi.set (h : Hi lo W X) {b : Nat} (hb : b < lo) (o : Nat) (v : Value) : Hi lo W (X.setCell ⟨b,o,none⟩ v) :=
 ⟨by simpa using h.1,fun g hg hl => (heap_setCell_other X ⟨b,o,none⟩ g v (by simp;omega)).trans (h.2 g hg hl)⟩
theorem IsExP.hi {e : Ex} {v : Value} (h : IsExP (fun g => lo ≤ g) W e v) (k : Hi lo W X) : IsExP (fun g => lo ≤ g) X e v:=h.kept fun g hg hl => ⟨k.2 g hg hl,hg⟩
theorem IsSts.hi {l : List Stm} {v : Value} (h : IsSts (fun g => lo ≤ g) W l v) (k : Hi lo W X) : IsSts (fun g => lo ≤ g) X l v:=h.kept fun g hg hl => ⟨k.2 g hg hl,hg⟩
end
theorem IsExP.lo {lo lo' : Nat} {W : World} {e : Ex} {v : Value} (h : IsExP (fun g => lo ≤ g) W e v) (hl : lo' ≤ lo) : IsExP (fun g => lo' ≤ g) W e v:=h.weak fun g hg => Nat.le_trans hl hg
theorem IsSts.lo {lo lo' : Nat} {W : World} {l : List Stm} {v : Value} (h : IsSts (fun g => lo ≤ g) W l v) (hl : lo' ≤ lo) : IsSts (fun g => lo' ≤ g) W l v:=h.kept fun g hg _ => ⟨rfl,Nat.le_trans hl hg⟩
theorem one_new {lo : Nat} {W : World} {x : Ex} {k q n : Int} {nm : ByteArray} {p : Option Addr} {l c : Nat} {a : Int} (h : VEx lo W x k q n nm p l c a) (hl : lo ≤ W.heap.size) :
 IsExP (fun g => lo ≤ g) (W.alloc (.cells #[.int .i64 k,.int .i64 q,.int .i64 n,.string nm,.slice p l c,.int .i64 a] 63)) (exsE [x]) (.slice (some ⟨W.heap.size,0,none⟩) 1 1):=by
 obtain ⟨rfl,rfl,rfl,rfl,rfl,rfl,h7⟩:=h
 exact (IsEx.one h7 hl 0 0 0 [] 0).toP fun g hg _ => ⟨rfl,hg⟩
theorem SBlk.all {X : World} {n : Nat} {k a k' a' : Int} {tr sc tr' sc' : Bool} {nm nm' : ByteArray} {v1 v2 v3 v4 u1 u2 u3 u4 : Value} (h : SBlk X n k a tr sc nm v1 v2 v3 v4) :
 SBlk (((((((((X.setCell ⟨n,0,none⟩ (.int .i64 k')).setCell ⟨n,1,none⟩ (.int .i64 a')).setCell ⟨n,2,none⟩ (.bool tr')).setCell ⟨n,3,none⟩ (.bool sc')).setCell ⟨n,4,none⟩ (.string nm')).setCell ⟨n,5,none⟩ u1).setCell ⟨n,6,none⟩ u2).setCell ⟨n,7,none⟩ u3).setCell ⟨n,8,none⟩ u4) n k' a' tr' sc' nm' u1 u2 u3 u4 :=
 ((((((((h.set0 k').set1 a').set2 tr').set3 sc').set4 nm').set5 u1).set6 u2).set7 u3).set8 u4
def EndSt (lo : Nat) (q : Stm × RS) (e : Ending) (w' : World) : Prop:=∃ k a tr sc nm p1 l1 c1 p2 l2 c2 p3 l3 c3 p4 l4 c4,
 e = .returned (.agg #[.int .i64 k,.int .i64 a,.bool tr,.bool sc,.string nm,.slice p1 l1 c1,.slice p2 l2 c2,.slice p3 l3 c3,.slice p4 l4 c4]) ∧
 ∀ tt,q.2 = .ok tt → (k = q.1.k ∧ a = q.1.a ∧ tr = q.1.tr ∧ sc = q.1.sc ∧ nm = bstr q.1.nm) ∧ IsSt1 (fun g => lo ≤ g) w' q.1 ⟨.slice p1 l1 c1,.slice p2 l2 c2,.slice p3 l3 c3,.slice p4 l4 c4⟩
def EndSs (lo : Nat) (q : List Stm × RS) (e : Ending) (w' : World) : Prop:=∃ p l c,e = .returned (.slice p l c) ∧ ∀ tt,q.2 = .ok tt → IsSts (fun g => lo ≤ g) w' q.1 (.slice p l c)
def GStmt (r4 rb g : Nat) (ws : List Wd) (n : Nat) : Prop:=∀ (W : World) (cap d : Nat) (p0 p1 p2 p3 : Value) (x : Wd) (tt : List Wd),A4 W r4 rb g cap ws d p0 p1 p2 p3 (.ok (x :: tt)) → 3 * (tt.length + 1) ≤ n → d ≤ 32 →
 Calls Try.prog 72 #[.pointer (some ⟨r4,0,none⟩)] W fun e w' => EndSt W.heap.size (stmtF n d (.ok (x :: tt))) e w' ∧ A4 w' r4 rb g cap ws d p0 p1 p2 p3 (stmtF n d (.ok (x :: tt))).2 ∧ Fr (some rb) W w'
def GBlock (r4 rb g : Nat) (ws : List Wd) (n : Nat) : Prop:=∀ (W : World) (cap d : Nat) (p0 p1 p2 p3 : Value) (σ : RS),A4 W r4 rb g cap ws d p0 p1 p2 p3 σ → 3 * σ.len + 2 ≤ n → d ≤ 32 →
 Calls Try.prog 50 #[.pointer (some ⟨r4,0,none⟩)] W fun e w' => EndSs W.heap.size (blockF n d σ) e w' ∧ A4 w' r4 rb g cap ws d p0 p1 p2 p3 (blockF n d σ).2 ∧ Fr (some rb) W w'
def GStmts (r4 rb g : Nat) (ws : List Wd) (n : Nat) : Prop:=∀ (W : World) (cap d : Nat) (p0 p1 p2 p3 : Value) (s : ByteArray) (σ : RS),A4 W r4 rb g cap ws d p0 p1 p2 p3 σ → 3 * σ.len + 1 ≤ n → (d ≤ 32 ∨ ∀ tt,σ ≠ .ok tt) →
 Calls Try.prog 67 #[.pointer (some ⟨r4,0,none⟩),.string s] W fun e w' => EndSs W.heap.size (stmtsF n d s.data.toList σ) e w' ∧ A4 w' r4 rb g cap ws d p0 p1 p2 p3 (stmtsF n d s.data.toList σ).2 ∧ Fr (some rb) W w'
theorem GBlock.use {r4 rb g : Nat} {ws : List Wd} {n : Nat} (h : GBlock r4 rb g ws n) {W : World} {cap d : Nat} {p0 p1 p2 p3 : Value} {σ : RS} (S : Hid (A4 W r4 rb g cap ws d p0 p1 p2 p3 σ)) (hn : 3 * σ.len + 2 ≤ n) (hd : d ≤ 32) (q : List Stm × RS) (hq : blockF n d σ = q) :
 Calls Try.prog 50 #[.pointer (some ⟨r4,0,none⟩)] W fun e w' => EndSs W.heap.size q e w' ∧ A4 w' r4 rb g cap ws d p0 p1 p2 p3 q.2 ∧ Fr (some rb) W w':=hq ▸ h W cap d p0 p1 p2 p3 σ S.out hn hd
theorem need_ok {s : RS} {t : List UInt8} {tt : List Wd} (h : s.need t = .ok tt) : ∃ t',s = .ok t':=by
 cases s with
 | ok t' => exact ⟨t',rfl⟩
 | bad c a => cases h
theorem ex_ok {s : RS} {tt : List Wd} (h : (exF s).2 = .ok tt) : ∃ t',s = .ok t':=by
 cases s with
 | ok t' => exact ⟨t',rfl⟩
 | bad c a => cases h
theorem stmts_bad (n d : Nat) (t : List UInt8) (c : Int) (a : Nat) : stmtsF n d t (.bad c a) = ([],.bad c a):=by
 cases n with
 | zero => simp [stmtsF]
 | succ n => simp [stmtsF,RS.good]
theorem block_bad (n d : Nat) (c : Int) (a : Nat) : blockF n d (.bad c a) = ([],.bad c a):=by
 cases n with
 | zero => simp [blockF]
 | succ n =>
  unfold blockF
  have : (RS.bad c a).is [123] = false:=rfl
  simp only [this,Bool.false_and,Bool.false_eq_true,if_false]
  have h2 : (RS.bad c a).need [123] = .bad c a:=rfl
  rw [h2,stmts_bad]
  rfl
theorem block_ok {n d : Nat} {s : RS} {tt : List Wd} (h : (blockF n d s).2 = .ok tt) : ∃ t',s = .ok t':=by
 cases s with
 | ok t' => exact ⟨t',rfl⟩
 | bad c a => rw [block_bad] at h;cases h
end Go.Proofs.Ytbmmjomcjlpnlaa
