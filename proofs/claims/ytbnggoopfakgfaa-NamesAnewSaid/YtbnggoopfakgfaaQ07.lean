/- Joined texts: Rth BackB RnumB Rsgn Rwords Rwo Par4 Gr Pp Aw5 Gx: lemmas for the law; each says its own conditions. -/
import Derived.Test.YtbnggoopfakgfaaQ06
import Derived.Test.YtbnggoopfakgfaaQ01
import Derived.Lib.ItoaNum
import Derived.Lib.AtoiAllCases
import Derived.WalkLawsBesides
import Derived.WalkSpells
import Derived.Deep.QuietTactic
import Derived.BigQuiet
import Derived.Deep.RegionHeld3
set_option linter.unusedSimpArgs false
set_option linter.unusedVariables false
set_option maxRecDepth 100000
set_option maxHeartbeats 8000000
open Go.Lib (hid)
namespace Go.Proofs.Ytbnggoopfakgfaa
open Go Go.RowKit
def Low (r4 rb B : Nat) (W X : World) : Prop:=(W.heap.size ≤ X.heap.size ∧ X.os = W.os ∧ X.tape = W.tape ∧ X.output = W.output) ∧ ∀ b,b < B → b ≠ r4 → b ≠ rb → X.heap[b]? = W.heap[b]?
theorem Low.trans {r4 rb B : Nat} {W X Y : World} (h : Low r4 rb B W X) (k : Low r4 rb B X Y) : Low r4 rb B W Y :=
 ⟨⟨Nat.le_trans h.1.1 k.1.1,k.1.2.1.trans h.1.2.1,k.1.2.2.1.trans h.1.2.2.1,k.1.2.2.2.trans h.1.2.2.2⟩,fun b hb h4 hr => (k.2 b hb h4 hr).trans (h.2 b hb h4 hr)⟩
theorem fr3_low {r4 rb B T k n : Nat} {v : Value} {xs : List Value} {W X : World} (hf : Fr3 r4 rb v.ownBlock W X) (hv : W.ownsRow B T k v n xs) (hB : B ≤ W.heap.size) : Low r4 rb B W X :=
 ⟨hf.1,fun b hb h4 hr => hf.2 b (Nat.lt_of_lt_of_le hb hB) h4 hr fun e => by (have:=(hv.lt b e.symm).1;omega)⟩
theorem fr_low {r4 rb B : Nat} {W X : World} (hf : Fr (some rb) W X) (hB : B ≤ W.heap.size) : Low r4 rb B W X :=
 ⟨⟨hf.size,(Fr.grown_ hf).os,(Fr.grown_ hf).tape,(Fr.grown_ hf).output⟩,fun b hb _ hr => hf.block (Nat.lt_of_lt_of_le hb hB) (by simp;exact hr)⟩
section
variable {r4 rb B : Nat} {W X : World} {p : Pg} {v0 v1 v2 v3 q : Value} {rf : List (Fn × FV)} {rt : List (List Stm × Value)}
theorem PRows.moreG (R : PRows B W p v0 v1 v2 v3 rf rt) (hf : Fr3 r4 rb v0.ownBlock W X) (h4 : r4 < B) (hr : rb < B) {x : Gl} (ho : X.ownsRow B 56 6 q (p.gs.length + 1) ((p.gs ++ [x]).flatMap glCells)) :
 PRows B X { p with gs:=p.gs ++ [x] } q v1 v2 v3 rf rt:=by
 have hk:=keptT3 hf R.g (by decide) h4 hr
 exact ⟨by simpa using ho,own_fr3 R.l hf R.g (by decide) h4 hr,own_fr3 R.f hf R.g (by decide) h4 hr,own_fr3 R.t hf R.g (by decide) h4 hr,R.ef,R.et,fun q hq => (R.xf q hq).keptT hk,fun q hq => (R.xt q hq).keptT hk⟩
theorem PRows.moreL (R : PRows B W p v0 v1 v2 v3 rf rt) (hf : Fr3 r4 rb v1.ownBlock W X) (h4 : r4 < B) (hr : rb < B) {x : Lk} (ho : X.ownsRow B 95 2 q (p.ls.length + 1) ((p.ls ++ [x]).flatMap lkCells)) :
 PRows B X { p with ls:=p.ls ++ [x] } v0 q v2 v3 rf rt:=by
 have hk:=keptT3 hf R.l (by decide) h4 hr
 exact ⟨own_fr3 R.g hf R.l (by decide) h4 hr,by simpa using ho,own_fr3 R.f hf R.l (by decide) h4 hr,own_fr3 R.t hf R.l (by decide) h4 hr,R.ef,R.et,fun q hq => (R.xf q hq).keptT hk,fun q hq => (R.xt q hq).keptT hk⟩
theorem PRows.moreF (R : PRows B W p v0 v1 v2 v3 rf rt) (hf : Fr3 r4 rb v2.ownBlock W X) (h4 : r4 < B) (hr : rb < B) {x : Fn} {fv : FV} (ho : X.ownsRow B 65 12 q (p.fs.length + 1) (fnRow rf ++ fnCells x fv)) (hx : IsFn1 (fun g => B ≤ g) X x fv) :
 PRows B X { p with fs:=p.fs ++ [x] } v0 v1 q v3 (rf ++ [(x,fv)]) rt:=by
 have hk:=keptT3 hf R.f (by decide) h4 hr
 refine ⟨own_fr3 R.g hf R.f (by decide) h4 hr,own_fr3 R.l hf R.f (by decide) h4 hr,by (rw [fnRow_snoc];simpa using ho),own_fr3 R.t hf R.f (by decide) h4 hr,by simp [R.ef],R.et,fun q hq => ?_,fun q hq => (R.xt q hq).keptT hk⟩
 rcases List.mem_append.1 hq with hq | hq
 · exact (R.xf q hq).keptT hk
 · simp at hq
   subst hq
   exact hx
theorem PRows.moreT (R : PRows B W p v0 v1 v2 v3 rf rt) (hf : Fr3 r4 rb v3.ownBlock W X) (h4 : r4 < B) (hr : rb < B) {x : List Stm} {v : Value} (ho : X.ownsRow B 60 1 q (p.ths.length + 1) (thRow rt ++ [v])) (hx : IsSts (fun g => B ≤ g) X x v) :
 PRows B X { p with ths:=p.ths ++ [x] } v0 v1 v2 q rf (rt ++ [(x,v)]):=by
 have hk:=keptT3 hf R.t (by decide) h4 hr
 refine ⟨own_fr3 R.g hf R.t (by decide) h4 hr,own_fr3 R.l hf R.t (by decide) h4 hr,own_fr3 R.f hf R.t (by decide) h4 hr,by (rw [thRow_snoc];simpa using ho),R.ef,by simp [R.et],fun q hq => (R.xf q hq).keptT hk,fun q hq => ?_⟩
 rcases List.mem_append.1 hq with hq | hq
 · exact (R.xt q hq).keptT hk
 · simp at hq
   subst hq
   exact hx
end
def ThEnd (r4 rb g cap B : Nat) (ws : List Wd) (W : World) (q : Pg × RS) (e : Ending) (w' : World) : Prop :=
 e = .returned (.tuple #[]) ∧ Low r4 rb B W w' ∧ ∃ v0 v1 v2 v3,A4 w' r4 rb g cap ws ((0 : Nat) : Int) v0 v1 v2 v3 q.2 ∧ ∀ t,q.2 = .ok t → ∃ rf rt,PRows B w' q.1 v0 v1 v2 v3 rf rt
theorem rth_any {r4 rb g cap B n : Nat} {ws : List Wd} {W : World} {p : Pg} {v0 v1 v2 v3 : Value} {rf : List (Fn × FV)} {rt : List (List Stm × Value)} {x : Wd} {tt : List Wd} (S : A4 W r4 rb g cap ws ((0 : Nat) : Int) v0 v1 v2 v3 (.ok (x :: tt))) (R : PRows B W p v0 v1 v2 v3 rf rt)
 (hB : r4 < B ∧ rb < B ∧ g < B ∧ B ≤ W.heap.size) (hl : p.gs.length ≤ 1000000 ∧ p.ls.length ≤ 1000000 ∧ p.fs.length ≤ 1000000 ∧ p.ths.length ≤ 1000000) (hx : x.k ≠ 3) (hn : 3 * tt.length + 2 ≤ n) :
 Calls Try.prog 25 #[.pointer (some ⟨r4,0,none⟩)] W (ThEnd r4 rb g cap B ws W (thingF n p (.ok (x :: tt)))):=by
 have hfin : (RS.ok (x :: tt)).fin:=fun t e => by (cases e;exact S.st.2.1)
 have hft : (RS.ok tt).fin:=(adv_le hfin hx).1.2
 have HALL:=all_st r4 rb g ws n
 cases b1 : (RS.ok (x :: tt)).is kLock with
 | true =>
  obtain ⟨p1,k1,rfl⟩:=own_form R.l
  rcases limF_cases p.ls.length 8 x tt with e | e
  · obtain ⟨⟨⟨nm,a⟩,τ2⟩,h2⟩ : ∃ q,nameF (.ok tt) = q:=⟨_,rfl⟩
    have eT : thingF n p (.ok (x :: tt)) = ({ p with ls:=p.ls ++ [⟨a,nm⟩] },τ2.need [59]):=by simp [thingF,b1,e,RS.good,RS.adv,h2]
    rw [eT]
    refine (rth_lockYes (hid S) (hid R.l) hB hl.2.1 (hid b1) (hid e) hx (hid h2) (hid rfl)).mono ?_
    rintro e' w' ⟨rfl,q,hs,ho,hf⟩
    exact ⟨rfl,fr3_low hf R.l hB.2.2.2,_,q,_,_,hs,fun t _ => ⟨rf,rt,R.moreL hf hB.1 hB.2.1 ho⟩⟩
  · have eT : thingF n p (.ok (x :: tt)) = (p,.bad 2 x.a):=by simp [thingF,b1,e,RS.good]
    rw [eT]
    refine (rth_lockNo (B:=B) (τ2:=.ok []) (τ3:=.ok []) (nm:=[]) (a:=0) (x:=x) (tt:=tt) (hid S) (hid b1) (hid e)).mono ?_
    rintro e' w' ⟨rfl,hs,hf⟩
    exact ⟨rfl,fr_low hf hB.2.2.2,_,_,_,_,hs,fun t h => by cases h⟩
 | false =>
  cases b2 : (RS.ok (x :: tt)).is kFunc with
  | true =>
   obtain ⟨p2,k2,rfl⟩:=own_form R.f
   rcases limF_cases p.fs.length 16 x tt with e | e
   · obtain ⟨⟨⟨nm,a⟩,τ1⟩,h1⟩ : ∃ q,nameF (.ok tt) = q:=⟨_,rfl⟩
     obtain ⟨⟨lp,τ2⟩,h2⟩ : ∃ q,paramsF τ1 = q:=⟨_,rfl⟩
     obtain ⟨⟨⟨tr,sc⟩,τ3⟩,h3⟩ : ∃ q,kindF τ2 = q:=⟨_,rfl⟩
     obtain ⟨τ4,h4⟩ : ∃ q,τ3.need [123] = q:=⟨_,rfl⟩
     obtain ⟨⟨lb,τ5⟩,h5⟩ : ∃ q,stmtsF n 1 kReturn τ4 = q:=⟨_,rfl⟩
     obtain ⟨τ6,h6⟩ : ∃ q,τ5.need kReturn = q:=⟨_,rfl⟩
     obtain ⟨⟨ex,τ7⟩,h7⟩ : ∃ q,exF τ6 = q:=⟨_,rfl⟩
     obtain ⟨τ8,h8⟩ : ∃ q,τ7.need [59] = q:=⟨_,rfl⟩
     obtain ⟨τ9,h9⟩ : ∃ q,τ8.need [125] = q:=⟨_,rfl⟩
     have eF : funcF n (.ok (x :: tt)) = (⟨a,nm,lp,tr,sc,lb,ex⟩,τ9):=by simp only [funcF,RS.adv,h1,h2,h3,h4,h5,h6,h7,h8,h9]
     have eT : thingF n p (.ok (x :: tt)) = ({ p with fs:=p.fs ++ [⟨a,nm,lp,tr,sc,lb,ex⟩] },τ9):=by simp [thingF,b1,b2,e,RS.good,eF]
     have l1 : Le τ1 (.ok tt):=by (have:=name_le hft;rwa [h1] at this)
     have l2 : Le τ2 (.ok tt):=by (have:=params_le l1.2;rw [h2] at this;exact this.trans l1)
     have l3 : Le τ3 (.ok tt):=by (have:=kind_le l2.2;rw [h3] at this;exact this.trans l2)
     have l4 : Le τ4 (.ok tt):=by (have:=need_le l3.2 [123];rw [h4] at this;exact this.trans l3)
     have hlen : 3 * τ4.len + 1 ≤ n:=by (have h44 : τ4.len ≤ tt.length:=l4.1;omega)
     rw [eT]
     refine (rth_func (Q:=fun W' w' => ∃ q,A4 w' r4 rb g cap ws ((0 : Nat) : Int) v0 v1 q v3 τ9 ∧ Fr3 r4 rb (Value.slice p2 p.fs.length k2).ownBlock W' w' ∧ ∀ t,τ9 = .ok t → ∃ fv,w'.ownsRow B 65 12 q (p.fs.length + 1) (fnRow rf ++ fnCells ⟨a,nm,lp,tr,sc,lb,ex⟩ fv) ∧ IsFn1 (fun b => W'.heap.size ≤ b) w' ⟨a,nm,lp,tr,sc,lb,ex⟩ fv)
      (hid S) (hid b1) (hid b2) (hid fun W' hb => rfn_yes (hid (S.stay hb)) (hid (own_below R.f hb)) ⟨hB.1,hB.2.1,hB.2.2.1,Nat.le_trans hB.2.2.2 hb.size⟩ hl.2.2.1 (hid e) hx (hid h1) (hid h2) (hid h3) (hid h4) (hid h5) (hid h6) (hid h7) (hid h8) (hid h9) (hid HALL.2.2) hlen (by omega))).mono ?_
     rintro e' w' ⟨rfl,W',hb,q,hs,hf,hx⟩
     have hf':=hf.below hb
     refine ⟨rfl,fr3_low hf' R.f hB.2.2.2,_,_,q,_,hs,fun t ht => ?_⟩
     obtain ⟨fv,ho,hv⟩:=hx t ht
     exact ⟨_,rt,R.moreF hf' hB.1 hB.2.1 ho (hv.low (Nat.le_trans hB.2.2.2 hb.size))⟩
   · have eT : thingF n p (.ok (x :: tt)) = (p,.bad 2 x.a):=by simp [thingF,b1,b2,e,RS.good]
     rw [eT]
     refine (rth_func (Q:=fun W' w' => A4 w' r4 rb g cap ws ((0 : Nat) : Int) v0 v1 (.slice p2 p.fs.length k2) v3 (.bad 2 x.a) ∧ Fr (some rb) W' w') (hid S) (hid b1) (hid b2) (hid fun W' hb => rfn_no (B:=B) (n:=n) (d:=0) (x:=x) (tt:=tt) (hid (S.stay hb)) (hid e))).mono ?_
     rintro e' w' ⟨rfl,W',hb,hs,hf⟩
     exact ⟨rfl,fr_low ((Fr.of hb).step hf) hB.2.2.2,_,_,_,_,hs,fun t h => by cases h⟩
  | false =>
   cases b3 : (RS.ok (x :: tt)).is kThread with
   | true =>
    obtain ⟨p3,k3,rfl⟩:=own_form R.t
    rcases limF_cases p.ths.length 4 x tt with e | e
    · obtain ⟨⟨lb,τ2⟩,h5⟩ : ∃ q,blockF n 0 (.ok tt) = q:=⟨_,rfl⟩
      have eT : thingF n p (.ok (x :: tt)) = ({ p with ths:=p.ths ++ [lb] },τ2):=by simp [thingF,b1,b2,b3,e,RS.good,RS.adv,h5]
      rw [eT]
      refine (rth_thrYes (n:=n) (d:=0) (hid S) (hid R.t) hB hl.2.2.2 (hid b1) (hid b2) (hid b3) (hid e) hx (hid h5) (hid HALL.2.1) hn (by omega)).mono ?_
      rintro e' w' ⟨rfl,q,hs,hf,hx⟩
      refine ⟨rfl,fr3_low hf R.t hB.2.2.2,_,_,_,q,hs,fun t ht => ?_⟩
      obtain ⟨v,ho,hv⟩:=hx t ht
      exact ⟨rf,_,R.moreT hf hB.1 hB.2.1 ho (hv.lo hB.2.2.2)⟩
    · have eT : thingF n p (.ok (x :: tt)) = (p,.bad 2 x.a):=by simp [thingF,b1,b2,b3,e,RS.good]
      rw [eT]
      refine (rth_thrNo (B:=B) (n:=n) (d:=0) (hid S) (hid b1) (hid b2) (hid b3) (hid e)).mono ?_
      rintro e' w' ⟨rfl,hs,hf⟩
      exact ⟨rfl,fr_low hf hB.2.2.2,_,_,_,_,hs,fun t h => by cases h⟩
   | false =>
    cases b4 : (RS.ok (x :: tt)).is kPublic with
    | true =>
     have eT : thingF n p (.ok (x :: tt)) = ({ p with gs:=p.gs ++ [(globF p.gs.length (.ok (x :: tt))).1] },(globF p.gs.length (.ok (x :: tt))).2):=by simp [thingF,b1,b2,b3,b4]
     rw [eT]
     refine (rth_globP (x:=x) (tt:=tt) (hid S) (hid R.g) hB hl.1 (hid b1) (hid b2) (hid b3) (hid b4)).mono ?_
     rintro e' w' ⟨rfl,q,hs,ho,hf⟩
     exact ⟨rfl,fr3_low hf R.g hB.2.2.2,q,_,_,_,hs,fun t _ => ⟨rf,rt,R.moreG hf hB.1 hB.2.1 ho⟩⟩
    | false =>
     cases b5 : (RS.ok (x :: tt)).is kSecret with
     | true =>
      have eT : thingF n p (.ok (x :: tt)) = ({ p with gs:=p.gs ++ [(globF p.gs.length (.ok (x :: tt))).1] },(globF p.gs.length (.ok (x :: tt))).2):=by simp [thingF,b1,b2,b3,b4,b5]
      rw [eT]
      refine (rth_globS (x:=x) (tt:=tt) (hid S) (hid R.g) hB hl.1 (hid b1) (hid b2) (hid b3) (hid b4) (hid b5)).mono ?_
      rintro e' w' ⟨rfl,q,hs,ho,hf⟩
      exact ⟨rfl,fr3_low hf R.g hB.2.2.2,q,_,_,_,hs,fun t _ => ⟨rf,rt,R.moreG hf hB.1 hB.2.1 ho⟩⟩
     | false =>
      have eT : thingF n p (.ok (x :: tt)) = (p,.bad 11 x.a):=by simp [thingF,b1,b2,b3,b4,b5,RS.fail]
      rw [eT]
      refine (rth_none (B:=B) (l:=[]) (σ:=.ok []) (hid S) (hid b1) (hid b2) (hid b3) (hid b4) (hid b5)).mono ?_
      rintro e' w' ⟨rfl,hs,hf⟩
      exact ⟨rfl,fr_low hf hB.2.2.2,_,_,_,_,hs,fun t h => by cases h⟩
end Go.Proofs.Ytbnggoopfakgfaa
namespace Go.Proofs.Ytbnggoopfakgfaa
open Go Go.RowKit
theorem dec_small {u : Nat} (h : u < 10) : Lib.decDigits u = [UInt8.ofNat (48 + u)]:=Lib.decDigits_one h
theorem dec_step {u : Nat} (h : ¬ u < 10) : Lib.decDigits u = Lib.decDigits (u / 10) ++ [UInt8.ofNat (48 + u % 10)]:=by rw [Lib.decDigits,dif_neg h]
theorem byte_of {d : Nat} (h : d < 10) : (UInt8.ofNat (48 + d)).toNat = 48 + d:=by
 rw [UInt8.toNat_ofNat']
 omega
theorem parse_dec (u : Nat) : ∀ r,u < 9223372036854775808 → Lib.parseUint10 0 (Lib.decDigits u ++ r) = Lib.parseUint10 u r:=by
 induction u using Nat.strongRecOn with
 | _ u ih =>
  intro r hu
  by_cases h : u < 10
  · rw [dec_small h]
    simp only [List.singleton_append,Lib.parseUint10,byte_of h]
    rw [if_pos (by omega),if_neg (by omega),if_neg (by omega)]
    congr 1
    omega
  · rw [dec_step h,List.append_assoc,ih (u / 10) (by omega) _ (by omega)]
    have hd : u % 10 < 10:=Nat.mod_lt _ (by decide)
    simp only [List.singleton_append,Lib.parseUint10,byte_of hd]
    rw [if_pos (by omega),if_neg (by omega),if_neg (by omega)]
    congr 1
    omega
theorem dec_head (u : Nat) : ∃ c r,Lib.decDigits u = c :: r ∧ 48 ≤ c.toNat ∧ c.toNat ≤ 57:=by
 induction u using Nat.strongRecOn with
 | _ u ih =>
  by_cases h : u < 10
  · exact ⟨_,[],dec_small h,by rw [byte_of h];omega,by rw [byte_of h];omega⟩
  · obtain ⟨c,r,e,h1,h2⟩:=ih (u / 10) (by omega)
    exact ⟨c,r ++ [UInt8.ofNat (48 + u % 10)],by rw [dec_step h,e];rfl,h1,h2⟩
theorem dec_len (k : Nat) : ∀ u,u < 10 ^ (k + 1) → (Lib.decDigits u).length ≤ k + 1:=by
 induction k with
 | zero =>
  intro u hu
  rw [dec_small (by simpa using hu)]
  simp
 | succ k ih =>
  intro u hu
  by_cases h : u < 10
  · rw [dec_small h]
    simp
  · rw [dec_step h,List.length_append]
    have e : (10 : Nat) ^ (k + 1 + 1) = 10 ^ (k + 1) * 10:=Nat.pow_succ ..
    have:=ih (u / 10) (by omega)
    simp
    omega
theorem dig_nat (u : Nat) : dig (u : Int) = ⟨(Lib.decDigits u).toArray⟩:=by
 unfold dig Lib.itoa
 rw [if_neg (by omega)]
 rfl
theorem dig_neg {n : Int} (h : n < 0) : dig n = ⟨(45 :: Lib.decDigits n.natAbs).toArray⟩:=by
 unfold dig Lib.itoa
 rw [if_pos h]
theorem num_dig {n : Int} (h0 : 0 ≤ n) (h1 : n ≤ 9223372036854775807) : numM (dig n) = (n,true):=by
 obtain ⟨u,rfl⟩:=Int.eq_ofNat_of_zero_le h0
 have hu : u < 9223372036854775808:=by omega
 have hl:=dec_len 18 u (by omega)
 obtain ⟨c,r,e,k1,k2⟩:=dec_head u
 have hp : Lib.parseIntB 64 (dig (u : Int)).data.toList = .ok (u : Int):=by
  rw [Lib.parseIntB_64,dig_nat]
  show Lib.atoiAll (Lib.decDigits u) = _
  have h2:=parse_dec u [] hu
  rw [List.append_nil] at h2
  rw [e,Lib.atoiAll_plain c r (by omega) (by omega),← e]
  unfold Lib.parseMag
  rw [if_neg (by rw [e];simp),h2]
  simp only [Lib.parseUint10,Lib.signless]
  rw [if_neg (by omega)]
 unfold numM
 rw [if_neg (by rw [dig_nat];show ¬ 19 < (Lib.decDigits u).toArray.size;simp;omega),hp]
 simp only
 rw [if_neg (by omega),if_pos (by simp)]
open Go Go.RowKit Go.WideShapes
def tens : ByteArray:=⟨#[48,49,50,51,52,53,54,55,56,57]⟩
theorem tens_at {d : Nat} (h : d < 10) : (tens.extract d (d + 1)).data.toList = [UInt8.ofNat (48 + d)]:=by
 have hd : d = 0 ∨ d = 1 ∨ d = 2 ∨ d = 3 ∨ d = 4 ∨ d = 5 ∨ d = 6 ∨ d = 7 ∨ d = 8 ∨ d = 9:=by omega
 rcases hd with rfl | rfl | rfl | rfl | rfl | rfl | rfl | rfl | rfl | rfl <;> rfl
theorem cat_list (a b : ByteArray) : (a ++ b).data.toList = a.data.toList ++ b.data.toList:=by
 rw [ByteArray.data_append,Array.toList_append]
theorem size_list (a : ByteArray) : a.size = a.data.toList.length:=rfl
def Shown (N u : Nat) (t : ByteArray) : Prop:=Lib.decDigits N = Lib.decDigits u ++ t.data.toList
theorem Shown.size {N u : Nat} {t : ByteArray} (h : Shown N u t) (hN : N ≤ 9223372036854775808) : t.size ≤ 19:=by
 have h1:=congrArg List.length h
 have h2:=dec_len 18 N (by omega)
 rw [List.length_append,← size_list] at h1
 omega
theorem Shown.step {N u : Nat} {t : ByteArray} (h : Shown N u t) (hu : ¬ u < 10) : Shown N (u / 10) (tens.extract (u % 10) (u % 10 + 1) ++ t):=by
 unfold Shown at h ⊢
 rw [h,dec_step hu,cat_list,tens_at (Nat.mod_lt _ (by decide)),List.append_assoc]
theorem Shown.last {N u : Nat} {t : ByteArray} (h : Shown N u t) (hu : u < 10) : (tens.extract (u % 10) (u % 10 + 1) ++ t).data.toList = Lib.decDigits N:=by
 unfold Shown at h
 rw [h,dec_small hu,cat_list,tens_at (Nat.mod_lt _ (by decide)),Nat.mod_eq_of_lt hu]
theorem rdig_pos (n : Nat) (w : World) (hn : (n : Int) ≤ 9223372036854775807) : Calls Try.prog 61 #[.int .i64 n] w fun e w' => e = .returned (.string (dig n)) ∧ w = w':=by
 go_enter Try.func61,Try.ntmps61
 go_wp2
 go_loop [0,3] (fun x s => ∃ (u : Nat) (t : ByteArray),x = .int .i64 u ∧ s = .string t ∧ (u : Int) ≤ 9223372036854775807 ∧ Shown n u t) (fun x _ => (intOf x).toNat)
 case atStart => exact ⟨n,⟨#[]⟩,rfl,rfl,hn,by unfold Shown;exact (List.append_nil _).symm⟩
 case round =>
  obtain ⟨u,t,rfl,rfl,hu,hsh⟩:=hrel
  have hts:=hsh.size (by omega)
  by_cases hz : u < 10
  · have h0 : ((u : Int) / 10 == 0) = true:=by simp;omega
    go_wp2
    go_ret
    refine ⟨congrArg (fun s => Ending.returned (Value.string s)) (bytes_inj ?_),rfl⟩
    rw [dig_nat]
    exact hsh.last hz
  · have h0 : ((u : Int) / 10 == 0) = false:=by simp;omega
    go_wp2
    go_round
    case rel => exact ⟨u / 10,_,by go_num,rfl,by omega,hsh.step hz⟩
    case measure => simp [intOf];omega
theorem neg_parts {u : Nat} : (-(u : Int)).tmod 10 = -((u % 10 : Nat) : Int) ∧ (-(u : Int)).tdiv 10 = -((u / 10 : Nat) : Int):=by
 have h1:=Int.neg_tmod (u : Int) 10
 have h2:=Int.neg_tdiv (u : Int) 10
 have h3 : (u : Int).tmod 10 = (u : Int) % 10:=Int.tmod_eq_emod_of_nonneg (by omega)
 have h4 : (u : Int).tdiv 10 = (u : Int) / 10:=Int.tdiv_eq_ediv_of_nonneg (by omega)
 rw [h3] at h1
 rw [h4] at h2
 exact ⟨h1,h2⟩
theorem rdig_neg (n : Int) (N : Nat) (hN : Hid (n = -(N : Int))) (w : World) (hn : n < 0) (hb : -9223372036854775808 ≤ n) : Calls Try.prog 61 #[.int .i64 n] w fun e w' => e = .returned (.string (dig n)) ∧ w = w':=by
 go_enter Try.func61,Try.ntmps61
 go_wp2
 go_loop [0,3] (fun x s => ∃ (v : Int) (u : Nat) (t : ByteArray),x = .int .i64 v ∧ s = .string t ∧ v < 0 ∧ -9223372036854775808 ≤ v ∧ Hid (v = -(u : Int)) ∧ Shown N u t) (fun x _ => (-(intOf x)).toNat)
 case atStart => exact ⟨n,N,⟨#[]⟩,rfl,rfl,hn,hb,hN,by unfold Shown;exact (List.append_nil _).symm⟩
 case round =>
  obtain ⟨v,u,t,rfl,rfl,hv,hv2,HV,hsh⟩:=hrel
  have hts:=hsh.size (by have:=hN.out;omega)
  have hp:=@neg_parts u
  rw [← HV.out] at hp
  have HP:=hid hp
  clear hp
  have hm0 : -9 ≤ v.tmod 10:=by have:=HP.out.1;omega
  by_cases hz : u < 10
  · have h0 : (v.tdiv 10 == 0) = true:=by have:=HP.out.2;simp;omega
    have hm1 : v.tmod 10 < 0:=by have:=HP.out.1;have:=HV.out;omega
    go_wp2
    go_ret
    refine ⟨congrArg (fun s => Ending.returned (Value.string s)) (bytes_inj ?_),rfl⟩
    rw [dig_neg hn,cat_list]
    have e1 : (-v.tmod 10).toNat = u % 10:=by have:=HP.out.1;omega
    have e2 : (-v.tmod 10 + 1).toNat = u % 10 + 1:=by have:=HP.out.1;omega
    have e3 : n.natAbs = N:=by have:=hN.out;omega
    rw [e1,e2,e3]
    show [45] ++ (tens.extract (u % 10) (u % 10 + 1) ++ t).data.toList = _
    rw [hsh.last hz]
    rfl
  · have h0 : (v.tdiv 10 == 0) = false:=by have:=HP.out.2;simp;omega
    by_cases hr : u % 10 = 0
    · have hm1 : v.tmod 10 = 0:=by have:=HP.out.1;omega
      have HR:=hid hr
      clear hr
      go_wp2
      go_round
      case rel =>
       refine ⟨v.tdiv 10,u / 10,_,rfl,rfl,by have:=HP.out.2;omega,by have:=HP.out.2;have:=HV.out;omega,hid HP.out.2,?_⟩
       have h1:=hsh.step hz
       rw [HR.out] at h1
       exact h1
      case measure => have:=HP.out.2;have:=HV.out;simp [intOf];omega
    · have hm1 : v.tmod 10 < 0:=by have:=HP.out.1;omega
      have HR:=hid hr
      clear hr
      go_wp2
      go_round
      case rel =>
       refine ⟨v.tdiv 10,u / 10,_,rfl,rfl,by have:=HP.out.2;omega,by have:=HP.out.2;have:=HV.out;omega,hid HP.out.2,?_⟩
       have h1:=hsh.step hz
       have e1 : (-v.tmod 10).toNat = u % 10:=by have:=HP.out.1;omega
       have e2 : (-v.tmod 10 + 1).toNat = u % 10 + 1:=by have:=HP.out.1;omega
       rw [e1,e2]
       exact h1
      case measure => have:=HP.out.2;have:=HV.out;simp [intOf];omega
theorem rdigits_any (n : Int) (w : World) (h0 : -9223372036854775808 ≤ n) (h1 : n ≤ 9223372036854775807) : Calls Try.prog 61 #[.int .i64 n] w fun e w' => e = .returned (.string (dig n)) ∧ w = w':=by
 by_cases h : n < 0
 · exact rdig_neg n n.natAbs (hid (by omega)) w h h0
 · obtain ⟨u,rfl⟩:=Int.eq_ofNat_of_zero_le (show 0 ≤ n by omega)
   exact rdig_pos u w h1
def rGo (acc : Int) : List UInt8 → Option Int
 | [] => some acc
 | c :: r => if (c.toNat : Int) < 48 ∨ 57 < (c.toNat : Int) ∨ (9223372036854775807 - ((c.toNat : Int) - 48)) / 10 < acc then none else rGo (10 * acc + ((c.toNat : Int) - 48)) r
def rNum (s : ByteArray) : Int × Bool :=
 if s.size = 0 ∨ 19 < s.size then (0,false)
 else match rGo 0 s.data.toList with
  | none => (0,false)
  | some n => (n,(dig n).toList == s.toList)
theorem drop_at (s : ByteArray) (k : Nat) (h : k < s.size) : s.data.toList.drop k = s[k] :: s.data.toList.drop (k + 1):=by
 rw [List.drop_eq_getElem_cons (by simpa using h)]
 rfl
theorem rnumber_bad (s : ByteArray) (w : World) (he : s.toList.isEmpty = true) : Calls Try.prog 43 #[.string s] w fun e w' => e = .returned (.tuple #[.int .i64 0,.bool false]) ∧ w = w':=by
 go_enter Try.func43,Try.ntmps43
 go_wp2
 go_ret2
 exact ⟨rfl,rfl⟩
theorem rnumber_long (s : ByteArray) (w : World) (he : s.toList.isEmpty = false) (hl : 19 < s.size) (hm : s.size ≤ 9223372036854775807) : Calls Try.prog 43 #[.string s] w fun e w' => e = .returned (.tuple #[.int .i64 0,.bool false]) ∧ w = w':=by
 go_enter Try.func43,Try.ntmps43
 go_wp2
 go_ret2
 exact ⟨rfl,rfl⟩
theorem rGo_bad {acc : Int} {c : UInt8} {r : List UInt8} (h : (c.toNat : Int) < 48 ∨ 57 < (c.toNat : Int) ∨ (9223372036854775807 - ((c.toNat : Int) - 48)) / 10 < acc) : rGo acc (c :: r) = none:=by rw [rGo,if_pos h]
theorem rGo_step {acc : Int} {c : UInt8} {r : List UInt8} (h : ¬ ((c.toNat : Int) < 48 ∨ 57 < (c.toNat : Int) ∨ (9223372036854775807 - ((c.toNat : Int) - 48)) / 10 < acc)) : rGo acc (c :: r) = rGo (10 * acc + ((c.toNat : Int) - 48)) r:=by rw [rGo,if_neg h]
def RN (m : Option Int) (s : ByteArray) (e : Ending) : Prop :=
 e = .returned (.tuple #[.int .i64 (match m with | none => 0 | some n => n),.bool (match m with | none => false | some n => (dig n).toList == s.toList)])
theorem rnumber_good (s : ByteArray) (w : World) (he : s.toList.isEmpty = false) (hl : s.size ≤ 19) : Calls Try.prog 43 #[.string s] w fun e w' => RN (rGo 0 s.data.toList) s e ∧ w = w':=by
 go_enter Try.func43,Try.ntmps43
 go_wp2
 go_loop [4,5] (fun n i => ∃ (k : Nat) (acc : Int),k ≤ s.size ∧ i = .int .i64 k ∧ n = .int .i64 acc ∧ 0 ≤ acc ∧ acc ≤ 9223372036854775807 ∧ Hid (rGo acc (s.data.toList.drop k) = rGo 0 s.data.toList)) (fun _ i => s.size - (intOf i).toNat)
 case atStart => exact ⟨0,0,Nat.zero_le _,rfl,rfl,by omega,by omega,hid rfl⟩
 case round =>
  obtain ⟨k,acc,hk,rfl,rfl,ha0,ha1,HG⟩:=hrel
  by_cases hlt : k < s.size
  · obtain ⟨c,hc⟩ : ∃ c,c = s[k]:=⟨_,rfl⟩
    have hd:=drop_at s k hlt
    rw [← hc] at hd
    have HD:=hid hd
    clear hd
    have hb : c.toNat < 256:=UInt8.toNat_lt c
    by_cases h1 : (c.toNat : Int) < 48
    · have e0 : RN none s (.returned (.tuple #[.int .i64 0,.bool false])):=rfl
      have HE : Hid (rGo 0 s.data.toList = none):=hid (by rw [← HG.out,HD.out];exact rGo_bad (Or.inl h1))
      rw [hc] at h1 hb
      clear hc HD
      go_wp2
      go_ret2
      exact ⟨by rw [HE.out];exact e0,rfl⟩
    · by_cases h2 : 57 < (c.toNat : Int)
      · have e0 : RN none s (.returned (.tuple #[.int .i64 0,.bool false])):=rfl
        have HE : Hid (rGo 0 s.data.toList = none):=hid (by rw [← HG.out,HD.out];exact rGo_bad (Or.inr (Or.inl h2)))
        rw [hc] at h1 h2 hb
        clear hc HD
        go_wp2
        go_ret2
        exact ⟨by rw [HE.out];exact e0,rfl⟩
      · by_cases h3 : (9223372036854775807 - ((c.toNat : Int) - 48)) / 10 < acc
        · have e0 : RN none s (.returned (.tuple #[.int .i64 0,.bool false])):=rfl
          have HE : Hid (rGo 0 s.data.toList = none):=hid (by rw [← HG.out,HD.out];exact rGo_bad (Or.inr (Or.inr h3)))
          rw [hc] at h1 h2 h3 hb
          clear hc HD
          go_wp2
          go_ret2
          exact ⟨by rw [HE.out];exact e0,rfl⟩
        · have HE : Hid (rGo (10 * acc + ((c.toNat : Int) - 48)) (s.data.toList.drop (k + 1)) = rGo 0 s.data.toList):=hid (by rw [← HG.out,HD.out,rGo_step (by omega)])
          rw [hc] at h1 h2 h3 hb HE
          clear hc HD
          go_wp2
          go_round
          case rel => exact ⟨k + 1,_,by omega,by go_num,rfl,by omega,by omega,HE⟩
          case measure => simp [intOf];omega
  · have e0 : s.data.toList.drop k = []:=List.drop_eq_nil_of_le (by show s.data.toList.length ≤ k;rw [← size_list];omega)
    have HE : Hid (rGo 0 s.data.toList = some acc):=hid (by rw [← HG.out,e0,rGo])
    clear e0
    obtain ⟨d,hd⟩ : ∃ d,d = dig acc:=⟨_,rfl⟩
    have hdig : ∀ W : World,Calls Try.prog 61 #[.int .i64 acc] W fun e w' => e = .returned (.string d) ∧ W = w':=by rw [hd];exact fun W => rdigits_any acc W (by omega) ha1
    have HD:=hid hdig
    have HH:=hid hd
    clear hdig hd
    go_wp2_with (go_at_call 61;refine (HD.out _).mono ?_;rintro e w' ⟨rfl,rfl⟩)
    go_ret2
    exact ⟨by rw [HE.out,HH.out];rfl,rfl⟩
theorem rnumber_any (s : ByteArray) (w : World) (hm : s.size ≤ 9223372036854775807) : Calls Try.prog 43 #[.string s] w fun e w' => e = .returned (.tuple #[.int .i64 (rNum s).1,.bool (rNum s).2]) ∧ w = w':=by
 cases he : s.toList.isEmpty
 · have hne : ¬ s.size = 0:=by
    intro h0
    rw [ByteArray.toList_eq] at he
    have : s.data.toList = []:=List.eq_nil_of_length_eq_zero (by rw [← size_list];exact h0)
    rw [this] at he
    cases he
   by_cases hl : 19 < s.size
   · have e1 : rNum s = (0,false):=if_pos (Or.inr hl)
     rw [e1]
     exact rnumber_long s w he hl hm
   · have e1 : rNum s = match rGo 0 s.data.toList with
      | none => (0,false)
      | some n => (n,(dig n).toList == s.toList):=if_neg (by omega)
     refine (rnumber_good s w he (by omega)).mono fun e w' ⟨h1,h2⟩ => ⟨?_,h2⟩
     rw [h1,e1]
     cases rGo 0 s.data.toList <;> rfl
 · have h0 : s.size = 0:=by
    rw [ByteArray.toList_eq,List.isEmpty_iff] at he
    rw [size_list,he]
    rfl
   have e1 : rNum s = (0,false):=if_pos (Or.inl h0)
   rw [e1]
   exact rnumber_bad s w he
theorem go_dec (u : Nat) : ∀ r,u ≤ 9223372036854775807 → rGo 0 (Lib.decDigits u ++ r) = rGo (u : Int) r:=by
 induction u using Nat.strongRecOn with
 | _ u ih =>
  intro r hu
  by_cases h : u < 10
  · rw [dec_small h,List.singleton_append,rGo_step (by rw [byte_of h];omega),byte_of h]
    congr 1
    omega
  · have hd : u % 10 < 10:=Nat.mod_lt _ (by decide)
    rw [dec_step h,List.append_assoc,ih (u / 10) (by omega) _ (by omega),List.singleton_append,rGo_step (by rw [byte_of hd];omega),byte_of hd]
    congr 1
    omega
theorem rGo_bd (l : List UInt8) : ∀ acc n : Int,0 ≤ acc → acc ≤ 9223372036854775807 → rGo acc l = some n → 0 ≤ n ∧ n ≤ 9223372036854775807:=by
 induction l with
 | nil =>
  intro acc n h0 h1 h
  rw [rGo] at h
  cases h
  exact ⟨h0,h1⟩
 | cons c r ih =>
  intro acc n h0 h1 h
  by_cases hb : (c.toNat : Int) < 48 ∨ 57 < (c.toNat : Int) ∨ (9223372036854775807 - ((c.toNat : Int) - 48)) / 10 < acc
  · rw [rGo_bad hb] at h
    cases h
  · rw [rGo_step hb] at h
    exact ih _ n (by omega) (by omega) h
theorem eq_of_lists {a b : ByteArray} (h : (a.toList == b.toList) = true) : a = b:=by
 rw [ByteArray.toList_eq,ByteArray.toList_eq] at h
 exact bytes_inj (eq_of_beq h)
theorem same_num (s : ByteArray) : (∃ v,numM s = (v,true) ∧ rNum s = (v,true)) ∨ (∃ v,numM s = (0,false) ∧ rNum s = (v,false)):=by
 by_cases hr : (rNum s).2 = true
 · left
   by_cases hs : s.size = 0 ∨ 19 < s.size
   · rw [show rNum s = (0,false) from if_pos hs] at hr
     cases hr
   · have e1 : rNum s = match rGo 0 s.data.toList with
      | none => (0,false)
      | some n => (n,(dig n).toList == s.toList):=if_neg hs
     cases hg : rGo 0 s.data.toList with
     | none =>
      rw [e1,hg] at hr
      cases hr
     | some n =>
      rw [e1,hg] at hr
      simp only at hr
      have hb:=rGo_bd _ _ _ (by omega) (by omega) hg
      have he:=eq_of_lists hr
      refine ⟨n,?_,?_⟩
      · rw [← he]
        exact num_dig hb.1 hb.2
      · rw [e1,hg]
        simp only [hr]
 · have hr2 : (rNum s).2 = false:=by simpa using hr
   right
   refine ⟨(rNum s).1,?_,by rw [← hr2]⟩
   unfold numM
   by_cases hl : 19 < s.size
   · rw [if_pos hl]
   · rw [if_neg hl]
     rcases hp : Lib.parseIntB 64 s.data.toList with v | _ | _
     · simp only
       by_cases hv : v < 0
       · rw [if_pos hv]
       · rw [if_neg hv]
         by_cases ht : ((dig v).toList == s.toList) = true
         · exfalso
           have he:=eq_of_lists ht
           obtain ⟨b1,b2⟩:=Lib.parseIntB_bounds hp
           have b3 : v ≤ 9223372036854775807:=by simp at b2;omega
           obtain ⟨u,rfl⟩:=Int.eq_ofNat_of_zero_le (show 0 ≤ v by omega)
           have hsd : s.data.toList = Lib.decDigits u:=by rw [← he,dig_nat]
           have hg:=go_dec u [] (by omega)
           rw [List.append_nil,← hsd] at hg
           obtain ⟨c,r,hc,_⟩:=dec_head u
           have hz : s.size = r.length + 1:=by rw [size_list,hsd,hc];rfl
           have hs0 : ¬ (s.size = 0 ∨ 19 < s.size):=by omega
           apply hr
           unfold rNum
           rw [if_neg hs0,hg]
           simp only [rGo]
           exact ht
         · rw [if_neg ht]
     · rfl
     · rfl
def hasB (l : List UInt8) (c : UInt8) : Bool:=l.contains c
theorem in_any (s : ByteArray) (c : UInt8) (w : World) (hm : s.size ≤ 9223372036854775807) : Calls Try.prog 40 #[.string s,.int .u8 c.toNat] w fun e w' => e = .returned (.bool (hasB s.data.toList c)) ∧ w = w':=by
 go_enter Try.func40,Try.ntmps40
 go_wp2
 go_loop [5] (fun i => ∃ k : Nat,i = .int .i64 k ∧ k ≤ s.size ∧ Hid (∀ j (h : j < s.size),j < k → (s[j]'h) ≠ c)) (fun i => s.size - (intOf i).toNat)
 case atStart => exact ⟨0,rfl,Nat.zero_le _,hid (fun j _ h => absurd h (by omega))⟩
 case round =>
  obtain ⟨k,rfl,hk,HN⟩:=hrel
  by_cases hlt : k < s.size
  · by_cases hc : (s[k]'hlt) = c
    · have hb : (((s[k]'hlt).toNat : Int) == (c.toNat : Int)) = true:=by rw [hc];simp
      have HR : Hid (hasB s.data.toList c = true):=hid (by unfold hasB;rw [List.contains_iff_mem];exact List.mem_of_getElem? (i:=k) (by rw [at_list s k hlt,hc]))
      clear hc
      go_wp2
      go_ret
      exact ⟨ret_bool (by rw [HR.out]),rfl⟩
    · have hb : (((s[k]'hlt).toNat : Int) == (c.toNat : Int)) = false:=by
       rw [beq_eq_false_iff_ne]
       intro h
       exact hc (UInt8.toNat_inj.1 (by omega))
      have HN2 : Hid (∀ j (h : j < s.size),j < k + 1 → (s[j]'h) ≠ c):=hid (fun j h hj => by
       by_cases e : j = k
       · subst e
         exact hc
       · exact HN.out j h (by omega))
      clear hc
      go_wp2
      go_round
      case rel => exact ⟨k + 1,by go_num,by omega,HN2⟩
      case measure => simp [intOf];omega
  · have HR : Hid (hasB s.data.toList c = false):=hid (by
     unfold hasB
     rw [Bool.eq_false_iff]
     intro h
     rw [List.contains_iff_mem] at h
     obtain ⟨j,hj,e⟩:=List.getElem_of_mem h
     have hj2 : j < s.size:=hj
     exact HN.out j hj2 (by omega) e)
    go_wp2
    go_ret
    exact ⟨ret_bool (by rw [HR.out]),rfl⟩
def pairB (k : Nat) : ByteArray:=⟨(pairL.getD k []).toArray⟩
def pairsC : Array Value:=#[.string ⟨#[38,38]⟩,.string ⟨#[124,124]⟩,.string ⟨#[61,61]⟩,.string ⟨#[33,61]⟩,.string ⟨#[60,61]⟩,.string ⟨#[62,61]⟩,.string ⟨#[60,60]⟩,.string ⟨#[62,62]⟩]
theorem pairs_at (k : Nat) (h : k < 8) : pairsC[k]? = some (.string (pairB k)):=by
 match k,h with
 | 0,_ => rfl
 | 1,_ => rfl
 | 2,_ => rfl
 | 3,_ => rfl
 | 4,_ => rfl
 | 5,_ => rfl
 | 6,_ => rfl
 | 7,_ => rfl
theorem in_is {s : ByteArray} {c : UInt8} {b : Bool} (h : hasB s.data.toList c = b) (hm : s.size ≤ 9223372036854775807) (w : World) : Calls Try.prog 40 #[.string s,.int .u8 c.toNat] w fun e w' => e = .returned (.bool b) ∧ w = w':=h ▸ in_any s c w hm
def Unlike (s : ByteArray) (k : Nat) : Prop:=∀ j,j < k → ((s.extract 0 2).toList == (pairB j).toList) = false
theorem Unlike.get {s : ByteArray} {k : Nat} (h : Unlike s k) (j : Nat) (hj : j < k) : ((s.extract 0 2).toList == pairL.getD j []) = false:=by
 have e:=h j hj
 rw [show (pairB j).toList = pairL.getD j [] from ByteArray.toList_eq _] at e
 exact e
theorem Unlike.step {s : ByteArray} {k : Nat} (h : Unlike s k) (h2 : ((s.extract 0 2).toList == (pairB k).toList) = false) : Unlike s (k + 1):=by
 intro j hj
 by_cases e : j = k
 · subst e
   exact h2
 · exact h j (by omega)
theorem pairs_in (k : Nat) (h : k < 8) : pairL.contains (pairB k).toList = true:=by
 rw [ByteArray.toList_eq]
 match k,h with
 | 0,_ => rfl
 | 1,_ => rfl
 | 2,_ => rfl
 | 3,_ => rfl
 | 4,_ => rfl
 | 5,_ => rfl
 | 6,_ => rfl
 | 7,_ => rfl
theorem ext_zero (s : ByteArray) : s.extract 0 0 = ⟨#[]⟩:=by rw [Lib.extract_eq];rfl
theorem rsign_long (s : ByteArray) (w : World) (h2 : 1 < s.size) (hm : s.size ≤ 9223372036854775807) : Calls Try.prog 44 #[.string s] w fun e w' => e = .returned (.string (s.extract 0 (sgnLen s.data.toList))) ∧ Below w.heap.size w w':=by
 go_enter Try.func44,Try.ntmps44
 go_wp2
 go_loopw [4] (fun i wr => ∃ k n : Nat,i = .int .i64 k ∧ k ≤ 8 ∧ wr = (w.alloc (.cells pairsC 9)).drewN n ∧ Hid (Unlike s k)) (fun i _ => 8 - (intOf i).toNat)
 case atStart => exact ⟨0,0,rfl,by omega,rfl,hid (fun j h => absurd h (by omega))⟩
 case round =>
  obtain ⟨k,n,rfl,hk,rfl,HU⟩:=hrel
  by_cases hlt : k < 8
  · obtain ⟨P,hP⟩ : ∃ P,P = pairB k:=⟨_,rfl⟩
    have hcell : (w.alloc (.cells pairsC 9)).cell? ⟨w.heap.size,k,none⟩ = some (.string P):=by
     rw [hP,← pairs_at k hlt]
     exact cell_of_row _ _ k pairsC 9 (0,0) (heap_alloc_new w _)
    have HP:=hid hP
    clear hP
    cases he : ((s.extract 0 2).toList == P.toList)
    · have hz1 : (1 : Int) < s.size:=by omega
      have hk2 : (k : Int) < 8:=by omega
      have hk0 : (0 : Int) ≤ k:=by omega
      go_wp2
      go_quiet (fail)
      go_wp2
      go_roundw
      case rel => exact ⟨k + 1,_,by go_num,by omega,rfl,hid (HU.out.step (by rw [← HP.out];exact he))⟩
      case measure => simp [intOf];omega
    · have HR:=hid (sgn_pair s h2 P.toList (by rw [HP.out];exact pairs_in k hlt) he)
      have HE:=hid (eq_of_lists he)
      have hz1 : (1 : Int) < s.size:=by omega
      have hk2 : (k : Int) < 8:=by omega
      have hk0 : (0 : Int) ≤ k:=by omega
      go_wp2
      go_quiet (fail)
      go_wp2
      go_ret
      exact ⟨ret_str (by rw [HR.out,HE.out]),below_drewN ((Below.refl _ _).alloc (Nat.le_refl _) _) _⟩
  · obtain rfl : k = 8:=by omega
    have HS:=hid (sgn_single s h2 (HU.out.get 0 (by omega)) (HU.out.get 1 (by omega)) (HU.out.get 2 (by omega)) (HU.out.get 3 (by omega)) (HU.out.get 4 (by omega)) (HU.out.get 5 (by omega)) (HU.out.get 6 (by omega)) (HU.out.get 7 (by omega)))
    cases hc : hasB oneL (s[0]'(by omega))
    · have HC:=hid hc
      have HR : Hid (sgnLen s.data.toList = 0):=hid (by rw [HS.out,if_neg (by unfold hasB at hc;rw [hc];decide)])
      clear hc
      go_wp2_with (go_at_call 40;refine (in_is (s:=⟨#[43,45,42,47,37,38,124,94,60,62,33,61,40,41,91,93,123,125,59,44]⟩) HC.out (by decide) _).mono ?_;rintro e' w' ⟨rfl,rfl⟩)
      go_ret
      exact ⟨ret_str (by rw [HR.out];exact (ext_zero s).symm),below_drewN ((Below.refl _ _).alloc (Nat.le_refl _) _) _⟩
    · have HC:=hid hc
      have HR : Hid (sgnLen s.data.toList = 1):=hid (by rw [HS.out,if_pos (by unfold hasB at hc;exact hc)])
      clear hc
      go_wp2_with (go_at_call 40;refine (in_is (s:=⟨#[43,45,42,47,37,38,124,94,60,62,33,61,40,41,91,93,123,125,59,44]⟩) HC.out (by decide) _).mono ?_;rintro e' w' ⟨rfl,rfl⟩)
      go_ret
      exact ⟨ret_str (by rw [HR.out]),below_drewN ((Below.refl _ _).alloc (Nat.le_refl _) _) _⟩
theorem rsign_short (s : ByteArray) (w : World) (h2 : s.size = 1) : Calls Try.prog 44 #[.string s] w fun e w' => e = .returned (.string (s.extract 0 (sgnLen s.data.toList))) ∧ Below w.heap.size w w':=by
 have H2:=hid h2
 have hs1 : ¬ (1 : Int) < s.size:=by omega
 have hs0 : 0 < s.size:=by omega
 clear h2
 go_enter Try.func44,Try.ntmps44
 go_wp2
 go_loopw [4] (fun i wr => ∃ k n : Nat,i = .int .i64 k ∧ k ≤ 8 ∧ wr = (w.alloc (.cells pairsC 9)).drewN n) (fun i _ => 8 - (intOf i).toNat)
 case atStart => exact ⟨0,0,rfl,by omega,rfl⟩
 case round =>
  obtain ⟨k,n,rfl,hk,rfl⟩:=hrel
  by_cases hlt : k < 8
  · have hg : decide ((1 : Int) < s.size) = false:=by simpa using hs1
    go_wp2
    go_quiet (fail)
    go_wp2
    go_roundw
    case rel => exact ⟨k + 1,_,by go_num,by omega,rfl⟩
    case measure => simp [intOf];omega
  · obtain rfl : k = 8:=by omega
    have HS:=hid (sgn_one s H2.out)
    cases hc : hasB oneL (s[0]'(by omega))
    · have HC:=hid hc
      have HR : Hid (sgnLen s.data.toList = 0):=hid (by rw [HS.out,if_neg (by unfold hasB at hc;rw [hc];decide)])
      clear hc
      go_wp2_with (go_at_call 40;refine (in_is (s:=⟨#[43,45,42,47,37,38,124,94,60,62,33,61,40,41,91,93,123,125,59,44]⟩) HC.out (by decide) _).mono ?_;rintro e' w' ⟨rfl,rfl⟩)
      go_ret
      exact ⟨ret_str (by rw [HR.out];exact (ext_zero s).symm),below_drewN ((Below.refl _ _).alloc (Nat.le_refl _) _) _⟩
    · have HC:=hid hc
      have HR : Hid (sgnLen s.data.toList = 1):=hid (by rw [HS.out,if_pos (by unfold hasB at hc;exact hc)])
      clear hc
      go_wp2_with (go_at_call 40;refine (in_is (s:=⟨#[43,45,42,47,37,38,124,94,60,62,33,61,40,41,91,93,123,125,59,44]⟩) HC.out (by decide) _).mono ?_;rintro e' w' ⟨rfl,rfl⟩)
      go_ret
      exact ⟨ret_str (by rw [HR.out]),below_drewN ((Below.refl _ _).alloc (Nat.le_refl _) _) _⟩
theorem rsgn2_any (s : ByteArray) (w : World) (h0 : 0 < s.size) (hm : s.size ≤ 9223372036854775807) : Calls Try.prog 44 #[.string s] w fun e w' => e = .returned (.string (s.extract 0 (sgnLen s.data.toList))) ∧ Below w.heap.size w w':=by
 by_cases h : 1 < s.size
 · exact rsign_long s w h hm
 · exact rsign_short s w (by omega)
theorem infoW : (Try.prog.info? 82).map (fun i => (i.zero,i.size,i.bytes)) = some (some (.agg #[.int .i64 0,.string ⟨#[]⟩,.int .i64 0,.int .i64 0]),4,40):=by kernel_rfl
theorem span_part {l : List UInt8} {i : Nat} {x : UInt8} (h : i < spanL l) (hx : l[i]? = some x) : isPart x = true:=take_all isPart l i x h hx
theorem while_end {α : Type} (p : α → Bool) : ∀ (l : List α) (x : α),l[(l.takeWhile p).length]? = some x → p x = false
 | [],x,h => by simp at h
 | c :: r,x,h => by
  rw [List.takeWhile_cons] at h
  split at h
  · exact while_end p r x (by simpa using h)
  · rename_i hc
    simp at h
    rw [← h]
    simpa using hc
theorem rletter_is {c : UInt8} {b : Bool} (h : isLetter c = b) (w : World) : Calls Try.prog 41 #[.int .u8 c.toNat] w fun e w' => e = .returned (.bool b) ∧ w = w':=by
 rw [← h,← letterR_byte]
 exact rletter_any _ w
theorem rdigit_is {c : UInt8} {b : Bool} (h : isDigit c = b) (w : World) : Calls Try.prog 42 #[.int .u8 c.toNat] w fun e w' => e = .returned (.bool b) ∧ w = w':=by
 rw [← h,← digitR_byte]
 exact rdigit_any _ w
def RwordsEnd (B : Nat) (Wf : List Wd) (Rf : Option (Int × Nat)) (e : Ending) (w' : World) : Prop :=
 match Rf with
 | none => ∃ v,e = .returned (.tuple #[v,.int .i64 0,.int .i64 0]) ∧ w'.ownsRow B 82 4 v Wf.length (cellsW Wf)
 | some (e0,a0) => e = .returned (.tuple #[.slice none 0 0,.int .i64 e0,.int .i64 a0])
theorem blanks_eq (c : UInt8) : hasB (⟨#[32,9,10,13]⟩ : ByteArray).data.toList c = isBlank c:=by
 rw [Bool.eq_iff_iff]
 simp [hasB,isBlank,or_assoc]
theorem blank_in {c : UInt8} {b : Bool} (h : isBlank c = b) (w : World) : Calls Try.prog 40 #[.string ⟨#[32,9,10,13]⟩,.int .u8 c.toNat] w fun e w' => e = .returned (.bool b) ∧ w = w' :=
 in_is ((blanks_eq c).trans h) (by decide) w
theorem own_ne_new {w : World} {B e size n : Nat} {v : Value} {xs : List Value} (h : w.ownsRow B e size v n xs) : v.ownBlock ≠ some w.heap.size:=fun h2 => by
 have:=(h.lt _ h2).2
 omega
theorem own_set {w : World} {B e size n b : Nat} {v : Value} {xs : List Value} (h : w.ownsRow B e size v n xs) (hne : v.ownBlock ≠ some b) (i : Nat) (u : Value) : (w.setCell ⟨b,i,none⟩ u).ownsRow B e size v n xs:=by
 refine ⟨h.1,?_⟩
 rcases h.2 with h0 | ⟨g,cap,cur,rfl,hB,hg,rest⟩
 · exact .inl h0
 · exact .inr ⟨g,cap,cur,rfl,hB,(Below.heap_setCell w ⟨b,i,none⟩ u g (fun e => hne (by rw [e];rfl))).trans hg,rest⟩
theorem below_two {B b i j : Nat} {w w1 : World} (h : Below B w w1) (hb : B ≤ b) (x0 x1 : Value) : Below B w ((w1.setCell ⟨b,i,none⟩ x0).setCell ⟨b,j,none⟩ x1) :=
 (h.setCell (p:=⟨b,i,none⟩) hb x0).setCell (p:=⟨b,j,none⟩) hb x1
theorem span_facts (s : ByteArray) (k m J : Nat) (hm : spanL (s.data.toList.drop k) = m) (hJ : J = k + m) : (∀ j (h : j < s.size),k ≤ j → j < J → isPart (s[j]'h) = true) ∧ ∀ h : J < s.size,isPart (s[J]'h) = false:=by
 subst hJ
 refine ⟨fun j h hj1 hj2 => ?_,fun h => ?_⟩
 · have hx:=list_at s k (j - k) (by omega)
   have e : k + (j - k) = j:=by omega
   simp only [e] at hx
   exact span_part (by omega) hx
 · have hx:=list_at s k m h
   refine while_end isPart (s.data.toList.drop k) _ ?_
   show (s.data.toList.drop k)[spanL (s.data.toList.drop k)]? = _
   rw [hm]
   exact hx
theorem ext_drop (s : ByteArray) (k m J : Nat) (hJ : J = k + m) : s.extract k J = ⟨((s.data.toList.drop k).take m).toArray⟩:=by
 rw [Lib.extract_eq,hJ,Nat.add_sub_cancel_left]
theorem ext_size (s : ByteArray) (k J : Nat) : (s.extract k J).size = min J s.size - k:=by rw [ByteArray.size_extract]
theorem rnum_is {X : ByteArray} {v : Int} {b : Bool} (h : rNum X = (v,b)) (w : World) (hm : X.size ≤ 9223372036854775807) : Calls Try.prog 43 #[.string X] w fun e w' => e = .returned (.tuple #[.int .i64 v,.bool b]) ∧ w = w':=by
 have:=rnumber_any X w hm
 rw [h] at this
 exact this
theorem rnum_some {l : List UInt8} {v : Int} (h : numO l = some v) : rNum ⟨l.toArray⟩ = (v,true):=by
 have h1:=numO_some h
 rcases same_num ⟨l.toArray⟩ with ⟨v',e1,e2⟩ | ⟨v',e1,e2⟩
 · rw [h1] at e1
   rw [e2,(Prod.mk.inj e1).1]
 · rw [h1] at e1
   cases e1
theorem rnum_none {l : List UInt8} (h : numO l = none) : ∃ v,rNum ⟨l.toArray⟩ = (v,false):=by
 obtain ⟨v,h1⟩:=numO_none h
 rcases same_num ⟨l.toArray⟩ with ⟨v',e1,e2⟩ | ⟨v',e1,e2⟩
 · rw [h1] at e1
   cases e1
 · exact ⟨_,e2⟩
theorem rsign_at (s Y : ByteArray) (k n : Nat) (hp : k < s.size) (hm : s.size ≤ 16384) (hn : sgnLen (s.data.toList.drop k) = n) (hY : Y = ⟨((s.data.toList.drop k).take n).toArray⟩) (w : World) :
 Calls Try.prog 44 #[.string (s.extract k s.size)] w fun e w' => e = .returned (.string Y) ∧ Below w.heap.size w w':=by
 have h:=rsgn2_any (s.extract k s.size) w (by rw [rest_size];omega) (by rw [rest_size];omega)
 rw [take_ext,rest_list,hn,← hY] at h
 exact h
theorem rwords_any (s : ByteArray) (w : World) (hs : s.size ≤ 16384) (Wf : List Wd) (Rf : Option (Int × Nat)) (hS : Hid (Sc numO s.data.toList 0 Wf Rf)) :
 Calls Try.prog 22 #[.string s] w fun e w' => RwordsEnd w.heap.size Wf Rf e w' ∧ Below w.heap.size w w':=by
 obtain ⟨i0,hi,hz0,hz1,hz2⟩:=info_parts infoW
 go_enter Try.func22,Try.ntmps22
 go_wp2
 go_loopw [5,6] (fun v q wr => ∃ (k : Nat) (acc ws : List Wd),q = .int .i64 k ∧ k ≤ s.size ∧ wr.ownsRow w.heap.size 82 4 v acc.length (cellsW acc) ∧ Below w.heap.size w wr ∧ acc.length ≤ k ∧
  Hid (Sc numO (s.data.toList.drop k) k ws Rf ∧ acc ++ ws = Wf)) (fun _ q _ => s.size - (intOf q).toNat)
 case atStart => exact ⟨0,[],Wf,rfl,Nat.zero_le _,⟨rfl,.inl ⟨rfl,rfl⟩⟩,Below.refl _ _,Nat.le_refl _,hid ⟨hS.out,rfl⟩⟩
 case round =>
  obtain ⟨k,acc,ws,rfl,hk,hown,hbw,hal,HI⟩:=hrel
  by_cases hp : k < s.size
  · have hne:=drop_ne s k hp
    have hdl:=drop_len s k
    obtain ⟨q,hq⟩ : ∃ q,s.data.toList.drop k = (s[k]'hp) :: q:=by
     have h0:=list_at s k 0 hp
     obtain ⟨c,r,hc⟩:=List.exists_cons_of_ne_nil hne
     rw [hc] at h0 ⊢
     simp only [Nat.add_zero,List.getElem?_cons_zero,Option.some.injEq] at h0
     exact ⟨r,by rw [h0]⟩
    by_cases hb : isBlank (s[k]'hp) = true
    · have HB:=hid hb
      have ht : tok numO (s.data.toList.drop k) = .gap 1:=by rw [hq];simp only [tok,hb,if_true]
      have HI2 : Hid (Sc numO (s.data.toList.drop (k + 1)) (k + 1) ws Rf ∧ acc ++ ws = Wf):=hid ⟨by have:=HI.out.1.gap_inv hne ht;rwa [List.drop_drop] at this,HI.out.2⟩
      clear hb ht hne hdl hq
      go_wp2_with (go_at_call 40;with_reducible refine (blank_in HB.out _).mono ?_;rintro e' w' ⟨rfl,rfl⟩)
      go_roundw
      case rel => exact ⟨k + 1,acc,ws,by go_num,by omega,hown,hbw,by omega,HI2⟩
      case measure => simp [intOf];omega
    · have HB : Hid (isBlank (s[k]'hp) = false):=hid (by simpa using hb)
      by_cases hnt : (s[k]'hp) = 47 ∧ q.head? = some 47
      · obtain ⟨hc47,hq47⟩:=hnt
        have h47 : (((s[k]'hp).toNat : Int) == 47) = true:=by rw [hc47];rfl
        have hk1 : k + 1 < s.size:=by
         have h1:=congrArg List.length hq
         rw [hdl,List.length_cons] at h1
         have h2 : 0 < q.length:=by
          cases q with
          | nil => cases hq47
          | cons a b => simp
         omega
        have h471 : (((s[k + 1]'hk1).toNat : Int) == 47) = true:=by
         have h1:=list_at s k 1 hk1
         rw [hq] at h1
         have h2 : some (s[k + 1]'hk1) = some 47:=by
          rw [← h1,← hq47]
          cases q <;> rfl
         rw [Option.some.inj h2]
         rfl
        obtain ⟨m,hm⟩ : ∃ m,noteL (s.data.toList.drop k) = m:=⟨_,rfl⟩
        have ht : tok numO (s.data.toList.drop k) = .gap m:=by
         rw [← hm,hq]
         simp only [tok]
         rw [if_neg hb,if_pos ⟨hc47,hq47⟩]
        obtain ⟨hm1,hm2⟩:=tok_gap hne ht
        have hm3 : k + m ≤ s.size:=by omega
        have HI2 : Hid (Sc numO (s.data.toList.drop (k + m)) (k + m) ws Rf ∧ acc ++ ws = Wf):=hid ⟨by have:=HI.out.1.gap_inv hne ht;rwa [List.drop_drop] at this,HI.out.2⟩
        have HN : Hid ((∀ j (h : j < s.size),k ≤ j → j < k + m → (((s[j]'h).toNat : Int) == 10) = false) ∧ ∀ h : k + m < s.size,(((s[k + m]'h).toNat : Int) == 10) = true):=by
         refine hid ⟨fun j h hj1 hj2 => ?_,fun h => ?_⟩
         · have hx:=list_at s k (j - k) (by omega)
           have e : k + (j - k) = j:=by omega
           simp only [e] at hx
           have h1:=take_all _ _ (j - k) _ (by have:=hm;unfold noteL at this;rw [this];omega) hx
           rw [beq_eq_false_iff_ne]
           intro h2
           have h3 : (s[j]'h) = 10:=UInt8.toNat_inj.1 (by show _ = 10;omega)
           rw [h3] at h1
           cases h1
         · have hx:=list_at s k m h
           have h10 : s[k + m] = 10:=note_end (by rw [hm];exact hx)
           rw [h10]
           rfl
        clear hb hc47 hq47 ht hne hdl hq hm hm2
        go_wp2_with (go_at_call 40;with_reducible refine (blank_in HB.out _).mono ?_;rintro e' w' ⟨rfl,rfl⟩)
        obtain ⟨wo,hwo⟩ : ∃ wo : World,wo = wr:=⟨_,rfl⟩
        subst hwo
        go_loop [6] (fun i => ∃ j : Nat,i = .int .i64 j ∧ k ≤ j ∧ j ≤ k + m) (fun i => k + m - (intOf i).toNat)
        case atStart => exact ⟨k,rfl,Nat.le_refl _,by omega⟩
        case round =>
         obtain ⟨j,rfl,hj1,hj2⟩:=hrel
         by_cases hj : j < k + m
         · have hjs : j < s.size:=by omega
           have h10:=HN.out.1 j hjs hj1 hj
           have hne10 : (((s[j]'hjs).toNat : Int) != 10) = true:=by simp [bne,h10]
           go_wp2
           go_round
           case rel => exact ⟨j + 1,by go_num,by omega,by omega⟩
           case measure => simp [intOf];omega
         · obtain rfl : j = k + m:=by omega
           by_cases hje : k + m < s.size
           · have h10:=HN.out.2 hje
             have hne10 : (((s[k + m]'hje).toNat : Int) != 10) = false:=by simp [bne,h10]
             go_wp2
             go_roundw
             case rel => exact ⟨k + m,acc,ws,by go_num,by omega,hown,hbw,by omega,HI2⟩
             case measure => simp [intOf];omega
           · go_wp2
             go_roundw
             case rel => exact ⟨k + m,acc,ws,by go_num,by omega,hown,hbw,by omega,HI2⟩
             case measure => simp [intOf];omega
      · obtain ⟨m,hm⟩ : ∃ m,spanL (s.data.toList.drop k) = m:=⟨_,rfl⟩
        obtain ⟨J,hJ⟩ : ∃ J,J = k + m:=⟨_,rfl⟩
        have hml : m ≤ s.size - k:=by rw [← hm,← hdl];exact span_le _
        have hJk : k ≤ J:=by omega
        have hJs : J ≤ s.size:=by omega
        have HP : Hid ((∀ j (h : j < s.size),k ≤ j → j < J → isPart (s[j]'h) = true) ∧ ∀ h : J < s.size,isPart (s[J]'h) = false):=hid (span_facts s k m J hm hJ)
        clear hml
        by_cases hlet : isLetter (s[k]'hp) = true
        · have HL:=hid hlet
          have h47 : (((s[k]'hp).toNat : Int) == 47) = false:=by
           rw [beq_eq_false_iff_ne]
           intro h
           have h2 : (s[k]'hp) = 47:=UInt8.toNat_inj.1 (by show _ = 47;omega)
           rw [h2] at hlet
           exact absurd hlet (by decide)
          by_cases h24 : 24 < m
          · have ht : tok numO (s.data.toList.drop k) = .bad 2:=by
             rw [← hm] at h24
             rw [hq] at h24 ⊢
             simp only [tok]
             rw [if_neg hb,if_neg hnt,if_pos hlet,if_pos h24]
            obtain ⟨e1,e2⟩:=HI.out.1.bad_inv hne ht
            have HR:=hid e2
            have hJ24 : k + 24 < J:=by omega
            clear hb hnt hlet h24 ht hne hdl hq hm e1 e2 hJ
            go_wp2_with (go_at_call 40;with_reducible refine (blank_in HB.out _).mono ?_;rintro e' w' ⟨rfl,rfl⟩)
            obtain ⟨wo,hwo⟩ : ∃ wo : World,wo = wr:=⟨_,rfl⟩
            subst hwo
            go_loop [8] (fun n => ∃ j : Nat,n = .int .i64 j ∧ k ≤ j ∧ j ≤ J) (fun n => J - (intOf n).toNat)
            case atStart => exact ⟨k,rfl,Nat.le_refl _,by omega⟩
            case round =>
             obtain ⟨j,rfl,hj1,hj2⟩:=hrel
             by_cases hj : j < J
             · have hjs : j < s.size:=by omega
               have hpt:=HP.out.1 j hjs hj1 hj
               cases hl : isLetter (s[j]'hjs)
               · have HL1:=hid hl
                 have HD1 : Hid (isDigit (s[j]'hjs) = true):=hid (by unfold isPart at hpt;rw [hl] at hpt;simpa using hpt)
                 clear hl hpt
                 go_wp2_with (first | (go_at_call 41;with_reducible refine (rletter_is HL1.out _).mono ?_;rintro e' w' ⟨rfl,rfl⟩) | (go_at_call 42;with_reducible refine (rdigit_is HD1.out _).mono ?_;rintro e' w' ⟨rfl,rfl⟩))
                 go_round
                 case rel => exact ⟨j + 1,by go_num,by omega,by omega⟩
                 case measure => simp [intOf];omega
               · have HL1:=hid hl
                 clear hl hpt
                 go_wp2_with (first | (go_at_call 41;with_reducible refine (rletter_is HL1.out _).mono ?_;rintro e' w' ⟨rfl,rfl⟩))
                 go_round
                 case rel => exact ⟨j + 1,by go_num,by omega,by omega⟩
                 case measure => simp [intOf];omega
             · obtain rfl : j = J:=by omega
               by_cases hje : j < s.size
               · have hpt:=HP.out.2 hje
                 have HL1 : Hid (isLetter (s[j]'hje) = false):=hid (by unfold isPart at hpt;simp at hpt;exact hpt.1)
                 have HD1 : Hid (isDigit (s[j]'hje) = false):=hid (by unfold isPart at hpt;simp at hpt;exact hpt.2)
                 clear hpt
                 go_wp2_with (first | (go_at_call 41;with_reducible refine (rletter_is HL1.out _).mono ?_;rintro e' w' ⟨rfl,rfl⟩) | (go_at_call 42;with_reducible refine (rdigit_is HD1.out _).mono ?_;rintro e' w' ⟨rfl,rfl⟩) | (go_at_call 41;with_reducible refine (rletter_is HL.out _).mono ?_;rintro e' w' ⟨rfl,rfl⟩))
                 go_ret3
                 exact ⟨by rw [HR.out];rfl,hbw.alloc hbw.size _⟩
               · go_wp2_with (first | (go_at_call 41;with_reducible refine (rletter_is HL.out _).mono ?_;rintro e' w' ⟨rfl,rfl⟩))
                 go_ret3
                 exact ⟨by rw [HR.out];rfl,hbw.alloc hbw.size _⟩
          · have ht : tok numO (s.data.toList.drop k) = .word 0 m 0:=by
             rw [← hm] at h24
             rw [← hm,hq]
             rw [hq] at h24
             simp only [tok]
             rw [if_neg hb,if_neg hnt,if_pos hlet,if_neg h24]
            obtain ⟨ws2,hw2,hsc2⟩:=HI.out.1.word_inv hne ht
            rw [List.drop_drop] at hsc2
            have HI2 : Hid (Sc numO (s.data.toList.drop J) J ws2 Rf ∧ (acc ++ [⟨0,(s.data.toList.drop k).take m,0,k⟩]) ++ ws2 = Wf):=hid ⟨by rw [hJ];exact hsc2,by rw [← HI.out.2,hw2];simp⟩
            have hJ24 : J ≤ k + 24:=by omega
            have hJ1 : k + 1 ≤ J:=by have:=tok_word hne ht;omega
            have HX:=hid (ext_drop s k m J hJ)
            clear hb hnt hlet h24 ht hne hdl hq hm hw2 hsc2 hJ
            go_wp2_with (go_at_call 40;with_reducible refine (blank_in HB.out _).mono ?_;rintro e' w' ⟨rfl,rfl⟩)
            obtain ⟨wo,hwo⟩ : ∃ wo : World,wo = wr:=⟨_,rfl⟩
            subst hwo
            go_loop [8] (fun n => ∃ j : Nat,n = .int .i64 j ∧ k ≤ j ∧ j ≤ J) (fun n => J - (intOf n).toNat)
            case atStart => exact ⟨k,rfl,Nat.le_refl _,by omega⟩
            case round =>
             obtain ⟨j,rfl,hj1,hj2⟩:=hrel
             by_cases hj : j < J
             · have hjs : j < s.size:=by omega
               have hpt:=HP.out.1 j hjs hj1 hj
               cases hl : isLetter (s[j]'hjs)
               · have HL1:=hid hl
                 have HD1 : Hid (isDigit (s[j]'hjs) = true):=hid (by unfold isPart at hpt;rw [hl] at hpt;simpa using hpt)
                 clear hl hpt
                 go_wp2_with (first | (go_at_call 41;with_reducible refine (rletter_is HL1.out _).mono ?_;rintro e' w' ⟨rfl,rfl⟩) | (go_at_call 42;with_reducible refine (rdigit_is HD1.out _).mono ?_;rintro e' w' ⟨rfl,rfl⟩))
                 go_round
                 case rel => exact ⟨j + 1,by go_num,by omega,by omega⟩
                 case measure => simp [intOf];omega
               · have HL1:=hid hl
                 clear hl hpt
                 go_wp2_with (first | (go_at_call 41;with_reducible refine (rletter_is HL1.out _).mono ?_;rintro e' w' ⟨rfl,rfl⟩))
                 go_round
                 case rel => exact ⟨j + 1,by go_num,by omega,by omega⟩
                 case measure => simp [intOf];omega
             · obtain rfl : j = J:=by omega
               by_cases hje : j < s.size
               · have hpt:=HP.out.2 hje
                 have HL1 : Hid (isLetter (s[j]'hje) = false):=hid (by unfold isPart at hpt;simp at hpt;exact hpt.1)
                 have HD1 : Hid (isDigit (s[j]'hje) = false):=hid (by unfold isPart at hpt;simp at hpt;exact hpt.2)
                 clear hpt
                 go_wp2_with (first | (go_at_call 41;with_reducible refine (rletter_is HL1.out _).mono ?_;rintro e' w' ⟨rfl,rfl⟩) | (go_at_call 42;with_reducible refine (rdigit_is HD1.out _).mono ?_;rintro e' w' ⟨rfl,rfl⟩) | (go_at_call 41;with_reducible refine (rletter_is HL.out _).mono ?_;rintro e' w' ⟨rfl,rfl⟩) | (at_builtin;go_must (refine wpList_append_own _ rfl (.tmp 117) (.tmp 119) 72 rfl w.heap.size 82 i0 _ 4 40 Try.underlying72 hi hz0 hz1 hz2 rfl (by decide) _ _ _ rfl ((hown.alloc _).alloc _) ⟨_,0,none⟩ 1 1 [.int .i64 0,.string (s.extract k j),.int .i64 0,.int .i64 k] rfl rfl (cell_four_at _ _ _ _ _ _ _ (by simp)) (four_one _ _ _ _) (by unfold maxLen;omega) (by omega) (by have:=hbw.size;simp;omega) ?_;intro v4 w4 hown4 hgrow4 _)))
                 go_roundw
                 case rel =>
                  refine ⟨j,acc ++ [⟨0,(s.data.toList.drop k).take m,0,k⟩],ws2,rfl,by omega,?_,?_,?_,HI2⟩
                  · rw [cellsW_snoc,List.length_append]
                    have e : wcells ⟨0,(s.data.toList.drop k).take m,0,k⟩ = [.int .i64 0,.string (s.extract k j),.int .i64 0,.int .i64 k]:=by rw [HX.out];rfl
                    rw [e]
                    exact hown4
                  · exact ((hbw.alloc hbw.size _).alloc (by have:=hbw.size;simp;omega) _).grown hgrow4 (by have:=hbw.size;simp;omega) (fun j hj => (hown.lt j hj).1)
                  · rw [List.length_append]
                    show acc.length + 1 ≤ _
                    omega
                 case measure => simp [intOf];omega
               · go_wp2_with (first | (go_at_call 41;with_reducible refine (rletter_is HL.out _).mono ?_;rintro e' w' ⟨rfl,rfl⟩) | (at_builtin;go_must (refine wpList_append_own _ rfl (.tmp 117) (.tmp 119) 72 rfl w.heap.size 82 i0 _ 4 40 Try.underlying72 hi hz0 hz1 hz2 rfl (by decide) _ _ _ rfl ((hown.alloc _).alloc _) ⟨_,0,none⟩ 1 1 [.int .i64 0,.string (s.extract k j),.int .i64 0,.int .i64 k] rfl rfl (cell_four_at _ _ _ _ _ _ _ (by simp)) (four_one _ _ _ _) (by unfold maxLen;omega) (by omega) (by have:=hbw.size;simp;omega) ?_;intro v4 w4 hown4 hgrow4 _)))
                 go_roundw
                 case rel =>
                  refine ⟨j,acc ++ [⟨0,(s.data.toList.drop k).take m,0,k⟩],ws2,rfl,by omega,?_,?_,?_,HI2⟩
                  · rw [cellsW_snoc,List.length_append]
                    have e : wcells ⟨0,(s.data.toList.drop k).take m,0,k⟩ = [.int .i64 0,.string (s.extract k j),.int .i64 0,.int .i64 k]:=by rw [HX.out];rfl
                    rw [e]
                    exact hown4
                  · exact ((hbw.alloc hbw.size _).alloc (by have:=hbw.size;simp;omega) _).grown hgrow4 (by have:=hbw.size;simp;omega) (fun j hj => (hown.lt j hj).1)
                  · rw [List.length_append]
                    show acc.length + 1 ≤ _
                    omega
                 case measure => simp [intOf];omega
        · have HL : Hid (isLetter (s[k]'hp) = false):=hid (by simpa using hlet)
          by_cases hdig : isDigit (s[k]'hp) = true
          · have HD:=hid hdig
            have h47 : (((s[k]'hp).toNat : Int) == 47) = false:=by
             rw [beq_eq_false_iff_ne]
             intro h
             have h2 : (s[k]'hp) = 47:=UInt8.toNat_inj.1 (by show _ = 47;omega)
             rw [h2] at hdig
             exact absurd hdig (by decide)
            cases hnum : numO ((s.data.toList.drop k).take m) with
            | none =>
             have ht : tok numO (s.data.toList.drop k) = .bad 10:=by
              rw [← hm] at hnum
              rw [hq] at hnum ⊢
              simp only [tok]
              rw [if_neg hb,if_neg hnt,if_neg hlet,if_pos hdig,hnum]
             obtain ⟨e1,e2⟩:=HI.out.1.bad_inv hne ht
             have HR:=hid e2
             have HX:=hid (ext_drop s k m J hJ)
             obtain ⟨v,hv⟩:=rnum_none hnum
             have HV : Hid (rNum (s.extract k J) = (v,false)):=hid (by rw [HX.out];exact hv)
             clear hb hnt hlet hdig ht hne hdl hq hm e1 e2 hJ hnum hv
             go_wp2_with (go_at_call 40;with_reducible refine (blank_in HB.out _).mono ?_;rintro e' w' ⟨rfl,rfl⟩)
             obtain ⟨wo,hwo⟩ : ∃ wo : World,wo = wr:=⟨_,rfl⟩
             subst hwo
             go_loop [8] (fun n => ∃ j : Nat,n = .int .i64 j ∧ k ≤ j ∧ j ≤ J) (fun n => J - (intOf n).toNat)
             case atStart => exact ⟨k,rfl,Nat.le_refl _,by omega⟩
             case round =>
              obtain ⟨j,rfl,hj1,hj2⟩:=hrel
              by_cases hj : j < J
              · have hjs : j < s.size:=by omega
                have hpt:=HP.out.1 j hjs hj1 hj
                cases hl : isLetter (s[j]'hjs)
                · have HL1:=hid hl
                  have HD1 : Hid (isDigit (s[j]'hjs) = true):=hid (by unfold isPart at hpt;rw [hl] at hpt;simpa using hpt)
                  clear hl hpt
                  go_wp2_with (first | (go_at_call 41;with_reducible refine (rletter_is HL1.out _).mono ?_;rintro e' w' ⟨rfl,rfl⟩) | (go_at_call 42;with_reducible refine (rdigit_is HD1.out _).mono ?_;rintro e' w' ⟨rfl,rfl⟩))
                  go_round
                  case rel => exact ⟨j + 1,by go_num,by omega,by omega⟩
                  case measure => simp [intOf];omega
                · have HL1:=hid hl
                  clear hl hpt
                  go_wp2_with (first | (go_at_call 41;with_reducible refine (rletter_is HL1.out _).mono ?_;rintro e' w' ⟨rfl,rfl⟩))
                  go_round
                  case rel => exact ⟨j + 1,by go_num,by omega,by omega⟩
                  case measure => simp [intOf];omega
              · obtain rfl : j = J:=by omega
                by_cases hje : j < s.size
                · have hpt:=HP.out.2 hje
                  have HL1 : Hid (isLetter (s[j]'hje) = false):=hid (by unfold isPart at hpt;simp at hpt;exact hpt.1)
                  have HD1 : Hid (isDigit (s[j]'hje) = false):=hid (by unfold isPart at hpt;simp at hpt;exact hpt.2)
                  clear hpt
                  go_wp2_with (first | (go_at_call 41;with_reducible refine (rletter_is HL1.out _).mono ?_;rintro e' w' ⟨rfl,rfl⟩) | (go_at_call 42;with_reducible refine (rdigit_is HD1.out _).mono ?_;rintro e' w' ⟨rfl,rfl⟩) | (go_at_call 41;with_reducible refine (rletter_is HL.out _).mono ?_;rintro e' w' ⟨rfl,rfl⟩) | (go_at_call 42;with_reducible refine (rdigit_is HD.out _).mono ?_;rintro e' w' ⟨rfl,rfl⟩) | (go_at_call 43;refine (rnum_is HV.out _ (by rw [ext_size];omega)).mono ?_;rintro e' w' ⟨rfl,rfl⟩))
                  go_ret3
                  exact ⟨by rw [HR.out];rfl,hbw.alloc hbw.size _⟩
                · go_wp2_with (first | (go_at_call 41;with_reducible refine (rletter_is HL.out _).mono ?_;rintro e' w' ⟨rfl,rfl⟩) | (go_at_call 42;with_reducible refine (rdigit_is HD.out _).mono ?_;rintro e' w' ⟨rfl,rfl⟩) | (go_at_call 43;refine (rnum_is HV.out _ (by rw [ext_size];omega)).mono ?_;rintro e' w' ⟨rfl,rfl⟩))
                  go_ret3
                  exact ⟨by rw [HR.out];rfl,hbw.alloc hbw.size _⟩
            | some v =>
             have ht : tok numO (s.data.toList.drop k) = .word 1 m v:=by
              rw [← hm] at hnum
              rw [← hm,hq]
              rw [hq] at hnum
              simp only [tok]
              rw [if_neg hb,if_neg hnt,if_neg hlet,if_pos hdig,hnum]
             obtain ⟨ws2,hw2,hsc2⟩:=HI.out.1.word_inv hne ht
             rw [List.drop_drop] at hsc2
             have HI2 : Hid (Sc numO (s.data.toList.drop J) J ws2 Rf ∧ (acc ++ [⟨1,(s.data.toList.drop k).take m,v,k⟩]) ++ ws2 = Wf):=hid ⟨by rw [hJ];exact hsc2,by rw [← HI.out.2,hw2];simp⟩
             have hJ1 : k + 1 ≤ J:=by have:=tok_word hne ht;omega
             have HX:=hid (ext_drop s k m J hJ)
             have HV : Hid (rNum (s.extract k J) = (v,true)):=hid (by rw [HX.out];exact rnum_some hnum)
             clear hb hnt hlet hdig ht hne hdl hq hm hw2 hsc2 hJ hnum
             go_wp2_with (go_at_call 40;with_reducible refine (blank_in HB.out _).mono ?_;rintro e' w' ⟨rfl,rfl⟩)
             obtain ⟨wo,hwo⟩ : ∃ wo : World,wo = wr:=⟨_,rfl⟩
             subst hwo
             go_loop [8] (fun n => ∃ j : Nat,n = .int .i64 j ∧ k ≤ j ∧ j ≤ J) (fun n => J - (intOf n).toNat)
             case atStart => exact ⟨k,rfl,Nat.le_refl _,by omega⟩
             case round =>
              obtain ⟨j,rfl,hj1,hj2⟩:=hrel
              by_cases hj : j < J
              · have hjs : j < s.size:=by omega
                have hpt:=HP.out.1 j hjs hj1 hj
                cases hl : isLetter (s[j]'hjs)
                · have HL1:=hid hl
                  have HD1 : Hid (isDigit (s[j]'hjs) = true):=hid (by unfold isPart at hpt;rw [hl] at hpt;simpa using hpt)
                  clear hl hpt
                  go_wp2_with (first | (go_at_call 41;with_reducible refine (rletter_is HL1.out _).mono ?_;rintro e' w' ⟨rfl,rfl⟩) | (go_at_call 42;with_reducible refine (rdigit_is HD1.out _).mono ?_;rintro e' w' ⟨rfl,rfl⟩))
                  go_round
                  case rel => exact ⟨j + 1,by go_num,by omega,by omega⟩
                  case measure => simp [intOf];omega
                · have HL1:=hid hl
                  clear hl hpt
                  go_wp2_with (first | (go_at_call 41;with_reducible refine (rletter_is HL1.out _).mono ?_;rintro e' w' ⟨rfl,rfl⟩))
                  go_round
                  case rel => exact ⟨j + 1,by go_num,by omega,by omega⟩
                  case measure => simp [intOf];omega
              · obtain rfl : j = J:=by omega
                by_cases hje : j < s.size
                · have hpt:=HP.out.2 hje
                  have HL1 : Hid (isLetter (s[j]'hje) = false):=hid (by unfold isPart at hpt;simp at hpt;exact hpt.1)
                  have HD1 : Hid (isDigit (s[j]'hje) = false):=hid (by unfold isPart at hpt;simp at hpt;exact hpt.2)
                  clear hpt
                  go_wp2_with (first | (go_at_call 41;with_reducible refine (rletter_is HL1.out _).mono ?_;rintro e' w' ⟨rfl,rfl⟩) | (go_at_call 42;with_reducible refine (rdigit_is HD1.out _).mono ?_;rintro e' w' ⟨rfl,rfl⟩) | (go_at_call 41;with_reducible refine (rletter_is HL.out _).mono ?_;rintro e' w' ⟨rfl,rfl⟩) | (go_at_call 42;with_reducible refine (rdigit_is HD.out _).mono ?_;rintro e' w' ⟨rfl,rfl⟩) | (go_at_call 43;refine (rnum_is HV.out _ (by rw [ext_size];omega)).mono ?_;rintro e' w' ⟨rfl,rfl⟩) | (at_builtin;go_must (refine wpList_append_own _ rfl (.tmp 117) (.tmp 119) 72 rfl w.heap.size 82 i0 _ 4 40 Try.underlying72 hi hz0 hz1 hz2 rfl (by decide) _ _ _ rfl ((hown.alloc _).alloc _) ⟨_,0,none⟩ 1 1 [.int .i64 1,.string (s.extract k j),.int .i64 v,.int .i64 k] rfl rfl (cell_four_at _ _ _ _ _ _ _ (by simp)) (four_one _ _ _ _) (by unfold maxLen;omega) (by omega) (by have:=hbw.size;simp;omega) ?_;intro v4 w4 hown4 hgrow4 _)))
                  go_roundw
                  case rel =>
                   refine ⟨j,acc ++ [⟨1,(s.data.toList.drop k).take m,v,k⟩],ws2,rfl,by omega,?_,?_,?_,HI2⟩
                   · rw [cellsW_snoc,List.length_append]
                     have e : wcells ⟨1,(s.data.toList.drop k).take m,v,k⟩ = [.int .i64 1,.string (s.extract k j),.int .i64 v,.int .i64 k]:=by rw [HX.out];rfl
                     rw [e]
                     exact hown4
                   · exact ((hbw.alloc hbw.size _).alloc (by have:=hbw.size;simp;omega) _).grown hgrow4 (by have:=hbw.size;simp;omega) (fun j hj => (hown.lt j hj).1)
                   · rw [List.length_append]
                     show acc.length + 1 ≤ _
                     omega
                  case measure => simp [intOf];omega
                · go_wp2_with (first | (go_at_call 41;with_reducible refine (rletter_is HL.out _).mono ?_;rintro e' w' ⟨rfl,rfl⟩) | (go_at_call 42;with_reducible refine (rdigit_is HD.out _).mono ?_;rintro e' w' ⟨rfl,rfl⟩) | (go_at_call 43;refine (rnum_is HV.out _ (by rw [ext_size];omega)).mono ?_;rintro e' w' ⟨rfl,rfl⟩) | (at_builtin;go_must (refine wpList_append_own _ rfl (.tmp 117) (.tmp 119) 72 rfl w.heap.size 82 i0 _ 4 40 Try.underlying72 hi hz0 hz1 hz2 rfl (by decide) _ _ _ rfl ((hown.alloc _).alloc _) ⟨_,0,none⟩ 1 1 [.int .i64 1,.string (s.extract k j),.int .i64 v,.int .i64 k] rfl rfl (cell_four_at _ _ _ _ _ _ _ (by simp)) (four_one _ _ _ _) (by unfold maxLen;omega) (by omega) (by have:=hbw.size;simp;omega) ?_;intro v4 w4 hown4 hgrow4 _)))
                  go_roundw
                  case rel =>
                   refine ⟨j,acc ++ [⟨1,(s.data.toList.drop k).take m,v,k⟩],ws2,rfl,by omega,?_,?_,?_,HI2⟩
                   · rw [cellsW_snoc,List.length_append]
                     have e : wcells ⟨1,(s.data.toList.drop k).take m,v,k⟩ = [.int .i64 1,.string (s.extract k j),.int .i64 v,.int .i64 k]:=by rw [HX.out];rfl
                     rw [e]
                     exact hown4
                   · exact ((hbw.alloc hbw.size _).alloc (by have:=hbw.size;simp;omega) _).grown hgrow4 (by have:=hbw.size;simp;omega) (fun j hj => (hown.lt j hj).1)
                   · rw [List.length_append]
                     show acc.length + 1 ≤ _
                     omega
                  case measure => simp [intOf];omega
          · have HD : Hid (isDigit (s[k]'hp) = false):=hid (by simpa using hdig)
            obtain ⟨n,hn⟩ : ∃ n,sgnLen (s.data.toList.drop k) = n:=⟨_,rfl⟩
            obtain ⟨Y,hY⟩ : ∃ Y : ByteArray,Y = ⟨((s.data.toList.drop k).take n).toArray⟩:=⟨_,rfl⟩
            by_cases hn0 : n = 0
            · have ht : tok numO (s.data.toList.drop k) = .bad 10:=by
               rw [hn0,hq] at hn
               rw [hq]
               simp only [tok]
               rw [if_neg hb,if_neg hnt,if_neg hlet,if_neg hdig,if_pos hn]
              have h47 : (((s[k]'hp).toNat : Int) == 47) = false:=by
               rw [beq_eq_false_iff_ne]
               intro h
               have h2 : (s[k]'hp) = 47:=UInt8.toNat_inj.1 (by show _ = 47;omega)
               rw [hq,h2,hn0] at hn
               cases q <;> simp [sgnLen,pairL,oneL] at hn
              obtain ⟨e1,e2⟩:=HI.out.1.bad_inv hne ht
              have HR:=hid e2
              have HN:=hid hn
              have HY:=hid hY
              have hE : Y.toList.isEmpty = true:=by rw [ByteArray.toList_eq,hY,hn0];rfl
              clear hb hnt hlet hdig ht hne hdl hq hm e1 e2 hJ hn hY hn0
              go_wp2_with (go_at_call 40;with_reducible refine (blank_in HB.out _).mono ?_;rintro e' w' ⟨rfl,rfl⟩)
              obtain ⟨wo,hwo⟩ : ∃ wo : World,wo = wr:=⟨_,rfl⟩
              subst hwo
              go_loop [8] (fun n => ∃ j : Nat,n = .int .i64 j ∧ k ≤ j ∧ j ≤ J) (fun n => J - (intOf n).toNat)
              case atStart => exact ⟨k,rfl,Nat.le_refl _,by omega⟩
              case round =>
               obtain ⟨j,rfl,hj1,hj2⟩:=hrel
               by_cases hj : j < J
               · have hjs : j < s.size:=by omega
                 have hpt:=HP.out.1 j hjs hj1 hj
                 cases hl : isLetter (s[j]'hjs)
                 · have HL1:=hid hl
                   have HD1 : Hid (isDigit (s[j]'hjs) = true):=hid (by unfold isPart at hpt;rw [hl] at hpt;simpa using hpt)
                   clear hl hpt
                   go_wp2_with (first | (go_at_call 41;with_reducible refine (rletter_is HL1.out _).mono ?_;rintro e' w' ⟨rfl,rfl⟩) | (go_at_call 42;with_reducible refine (rdigit_is HD1.out _).mono ?_;rintro e' w' ⟨rfl,rfl⟩))
                   go_round
                   case rel => exact ⟨j + 1,by go_num,by omega,by omega⟩
                   case measure => simp [intOf];omega
                 · have HL1:=hid hl
                   clear hl hpt
                   go_wp2_with (first | (go_at_call 41;with_reducible refine (rletter_is HL1.out _).mono ?_;rintro e' w' ⟨rfl,rfl⟩))
                   go_round
                   case rel => exact ⟨j + 1,by go_num,by omega,by omega⟩
                   case measure => simp [intOf];omega
               · obtain rfl : j = J:=by omega
                 by_cases hje : j < s.size
                 · have hpt:=HP.out.2 hje
                   have HL1 : Hid (isLetter (s[j]'hje) = false):=hid (by unfold isPart at hpt;simp at hpt;exact hpt.1)
                   have HD1 : Hid (isDigit (s[j]'hje) = false):=hid (by unfold isPart at hpt;simp at hpt;exact hpt.2)
                   clear hpt
                   go_wp2_with (first | (go_at_call 41;with_reducible refine (rletter_is HL1.out _).mono ?_;rintro e' w' ⟨rfl,rfl⟩) | (go_at_call 42;with_reducible refine (rdigit_is HD1.out _).mono ?_;rintro e' w' ⟨rfl,rfl⟩) | (go_at_call 41;with_reducible refine (rletter_is HL.out _).mono ?_;rintro e' w' ⟨rfl,rfl⟩) | (go_at_call 42;with_reducible refine (rdigit_is HD.out _).mono ?_;rintro e' w' ⟨rfl,rfl⟩) | (go_at_call 44;with_reducible refine (rsign_at s Y k n hp hs HN.out HY.out _).mono ?_;rintro e' w1 ⟨rfl,hb1⟩;obtain ⟨hc1,hf1⟩:=bcell hb1;have hbw1:=hbw.trans ((below_after hb1).mono hbw.size);have hne:=own_ne_new hown;have hzz : wo.heap.size < w1.heap.size:=by have:=hb1.size;simp at this;omega))
                   go_ret3
                   exact ⟨by rw [HR.out];rfl,below_two hbw1 hbw.size _ _⟩
                 · go_wp2_with (first | (go_at_call 41;with_reducible refine (rletter_is HL.out _).mono ?_;rintro e' w' ⟨rfl,rfl⟩) | (go_at_call 42;with_reducible refine (rdigit_is HD.out _).mono ?_;rintro e' w' ⟨rfl,rfl⟩) | (go_at_call 44;with_reducible refine (rsign_at s Y k n hp hs HN.out HY.out _).mono ?_;rintro e' w1 ⟨rfl,hb1⟩;obtain ⟨hc1,hf1⟩:=bcell hb1;have hbw1:=hbw.trans ((below_after hb1).mono hbw.size);have hne:=own_ne_new hown;have hzz : wo.heap.size < w1.heap.size:=by have:=hb1.size;simp at this;omega))
                   go_ret3
                   exact ⟨by rw [HR.out];rfl,below_two hbw1 hbw.size _ _⟩
            · by_cases hslash : (s[k]'hp) = 47
              · by_cases hend : k + 1 < s.size
                · have h47 : (((s[k]'hp).toNat : Int) == 47) = true:=by rw [hslash];rfl
                  have h471 : (((s[k + 1]'hend).toNat : Int) == 47) = false:=by
                   rw [beq_eq_false_iff_ne]
                   intro h
                   have h2 : (s[k + 1]'hend) = 47:=UInt8.toNat_inj.1 (by show _ = 47;omega)
                   have h1:=list_at s k 1 hend
                   rw [hq,h2] at h1
                   refine hnt ⟨hslash,?_⟩
                   rw [← h1]
                   cases q <;> rfl
                  have ht : tok numO (s.data.toList.drop k) = .word 2 n 0:=by
                   rw [← hn] at hn0
                   rw [← hn,hq]
                   rw [hq] at hn0
                   simp only [tok]
                   rw [if_neg hb,if_neg hnt,if_neg hlet,if_neg hdig,if_neg hn0]
                  obtain ⟨ws2,hw2,hsc2⟩:=HI.out.1.word_inv hne ht
                  rw [List.drop_drop] at hsc2
                  have HI2 : Hid (Sc numO (s.data.toList.drop (k + n)) (k + n) ws2 Rf ∧ (acc ++ [⟨2,(s.data.toList.drop k).take n,0,k⟩]) ++ ws2 = Wf):=hid ⟨hsc2,by rw [← HI.out.2,hw2];simp⟩
                  have hn1:=tok_word hne ht
                  have HN:=hid hn
                  have HY:=hid hY
                  have hYs : Y.size = n:=by
                   rw [hY]
                   show ((s.data.toList.drop k).take n).toArray.size = n
                   rw [List.size_toArray,List.length_take]
                   omega
                  have hE : Y.toList.isEmpty = false:=by
                   rw [ByteArray.toList_eq,List.isEmpty_eq_false_iff]
                   intro h
                   have h1 : Y.size = 0:=by
                    show Y.data.toList.length = 0
                    rw [h]
                    rfl
                   omega
                  have hY1 : Y.size ≤ n:=by omega
                  have hY2 : n ≤ Y.size:=by omega
                  have hn3 : k + n ≤ s.size:=by omega
                  have hn4 : 1 ≤ n:=hn1.1
                  clear hb hnt hlet hdig ht hne hdl hq hm hw2 hsc2 hJ hn hY hn0 hn1 hYs hslash
                  go_wp2_with (go_at_call 40;with_reducible refine (blank_in HB.out _).mono ?_;rintro e' w' ⟨rfl,rfl⟩)
                  obtain ⟨wo,hwo⟩ : ∃ wo : World,wo = wr:=⟨_,rfl⟩
                  subst hwo
                  go_loop [8] (fun n => ∃ j : Nat,n = .int .i64 j ∧ k ≤ j ∧ j ≤ J) (fun n => J - (intOf n).toNat)
                  case atStart => exact ⟨k,rfl,Nat.le_refl _,by omega⟩
                  case round =>
                   obtain ⟨j,rfl,hj1,hj2⟩:=hrel
                   by_cases hj : j < J
                   · have hjs : j < s.size:=by omega
                     have hpt:=HP.out.1 j hjs hj1 hj
                     cases hl : isLetter (s[j]'hjs)
                     · have HL1:=hid hl
                       have HD1 : Hid (isDigit (s[j]'hjs) = true):=hid (by unfold isPart at hpt;rw [hl] at hpt;simpa using hpt)
                       clear hl hpt
                       go_wp2_with (first | (go_at_call 41;with_reducible refine (rletter_is HL1.out _).mono ?_;rintro e' w' ⟨rfl,rfl⟩) | (go_at_call 42;with_reducible refine (rdigit_is HD1.out _).mono ?_;rintro e' w' ⟨rfl,rfl⟩))
                       go_round
                       case rel => exact ⟨j + 1,by go_num,by omega,by omega⟩
                       case measure => simp [intOf];omega
                     · have HL1:=hid hl
                       clear hl hpt
                       go_wp2_with (first | (go_at_call 41;with_reducible refine (rletter_is HL1.out _).mono ?_;rintro e' w' ⟨rfl,rfl⟩))
                       go_round
                       case rel => exact ⟨j + 1,by go_num,by omega,by omega⟩
                       case measure => simp [intOf];omega
                   · obtain rfl : j = J:=by omega
                     by_cases hje : j < s.size
                     · have hpt:=HP.out.2 hje
                       have HL1 : Hid (isLetter (s[j]'hje) = false):=hid (by unfold isPart at hpt;simp at hpt;exact hpt.1)
                       have HD1 : Hid (isDigit (s[j]'hje) = false):=hid (by unfold isPart at hpt;simp at hpt;exact hpt.2)
                       clear hpt
                       go_wp2_with (first | (go_at_call 41;with_reducible refine (rletter_is HL1.out _).mono ?_;rintro e' w' ⟨rfl,rfl⟩) | (go_at_call 42;with_reducible refine (rdigit_is HD1.out _).mono ?_;rintro e' w' ⟨rfl,rfl⟩) | (go_at_call 41;with_reducible refine (rletter_is HL.out _).mono ?_;rintro e' w' ⟨rfl,rfl⟩) | (go_at_call 42;with_reducible refine (rdigit_is HD.out _).mono ?_;rintro e' w' ⟨rfl,rfl⟩) | (go_at_call 44;with_reducible refine (rsign_at s Y k n hp hs HN.out HY.out _).mono ?_;rintro e' w1 ⟨rfl,hb1⟩;obtain ⟨hc1,hf1⟩:=bcell hb1;have hbw1:=hbw.trans ((below_after hb1).mono hbw.size);have hne:=own_ne_new hown;have hzz : wo.heap.size < w1.heap.size:=by have:=hb1.size;simp at this;omega) | (at_builtin;go_must (refine wpList_append_own _ rfl (.tmp 117) (.tmp 119) 72 rfl w.heap.size 82 i0 _ 4 40 Try.underlying72 hi hz0 hz1 hz2 rfl (by decide) _ _ _ rfl ((own_set (own_set (own_below (hown.alloc _) hb1) hne _ _) hne _ _).alloc _) ⟨_,0,none⟩ 1 1 [.int .i64 2,.string Y,.int .i64 0,.int .i64 k] rfl rfl (cell_four_at _ _ _ _ _ _ _ (by simp)) (four_one _ _ _ _) (by unfold maxLen;omega) (by omega) (by have:=hbw.size;simp;omega) ?_;intro v4 w4 hown4 hgrow4 _)))
                       go_roundw
                       case rel =>
                        refine ⟨k + n,acc ++ [⟨2,(s.data.toList.drop k).take n,0,k⟩],ws2,?_,by omega,?_,?_,?_,HI2⟩
                        · rw [show Y.size = n by omega]
                          go_num
                        · rw [cellsW_snoc,List.length_append]
                          have e : wcells ⟨2,(s.data.toList.drop k).take n,0,k⟩ = [.int .i64 2,.string Y,.int .i64 0,.int .i64 k]:=by rw [HY.out];rfl
                          rw [e]
                          exact hown4
                        · exact ((below_two hbw1 hbw.size _ _).alloc (by have:=hbw1.size;simp;omega) _).grown hgrow4 (by have:=hbw1.size;simp;omega) (fun j hj => (hown.lt j hj).1)
                        · rw [List.length_append]
                          show acc.length + 1 ≤ _
                          omega
                       case measure => simp [intOf];omega
                     · go_wp2_with (first | (go_at_call 41;with_reducible refine (rletter_is HL.out _).mono ?_;rintro e' w' ⟨rfl,rfl⟩) | (go_at_call 42;with_reducible refine (rdigit_is HD.out _).mono ?_;rintro e' w' ⟨rfl,rfl⟩) | (go_at_call 44;with_reducible refine (rsign_at s Y k n hp hs HN.out HY.out _).mono ?_;rintro e' w1 ⟨rfl,hb1⟩;obtain ⟨hc1,hf1⟩:=bcell hb1;have hbw1:=hbw.trans ((below_after hb1).mono hbw.size);have hne:=own_ne_new hown;have hzz : wo.heap.size < w1.heap.size:=by have:=hb1.size;simp at this;omega) | (at_builtin;go_must (refine wpList_append_own _ rfl (.tmp 117) (.tmp 119) 72 rfl w.heap.size 82 i0 _ 4 40 Try.underlying72 hi hz0 hz1 hz2 rfl (by decide) _ _ _ rfl ((own_set (own_set (own_below (hown.alloc _) hb1) hne _ _) hne _ _).alloc _) ⟨_,0,none⟩ 1 1 [.int .i64 2,.string Y,.int .i64 0,.int .i64 k] rfl rfl (cell_four_at _ _ _ _ _ _ _ (by simp)) (four_one _ _ _ _) (by unfold maxLen;omega) (by omega) (by have:=hbw.size;simp;omega) ?_;intro v4 w4 hown4 hgrow4 _)))
                       go_roundw
                       case rel =>
                        refine ⟨k + n,acc ++ [⟨2,(s.data.toList.drop k).take n,0,k⟩],ws2,?_,by omega,?_,?_,?_,HI2⟩
                        · rw [show Y.size = n by omega]
                          go_num
                        · rw [cellsW_snoc,List.length_append]
                          have e : wcells ⟨2,(s.data.toList.drop k).take n,0,k⟩ = [.int .i64 2,.string Y,.int .i64 0,.int .i64 k]:=by rw [HY.out];rfl
                          rw [e]
                          exact hown4
                        · exact ((below_two hbw1 hbw.size _ _).alloc (by have:=hbw1.size;simp;omega) _).grown hgrow4 (by have:=hbw1.size;simp;omega) (fun j hj => (hown.lt j hj).1)
                        · rw [List.length_append]
                          show acc.length + 1 ≤ _
                          omega
                       case measure => simp [intOf];omega
                · have h47 : (((s[k]'hp).toNat : Int) == 47) = true:=by rw [hslash];rfl
                  have ht : tok numO (s.data.toList.drop k) = .word 2 n 0:=by
                   rw [← hn] at hn0
                   rw [← hn,hq]
                   rw [hq] at hn0
                   simp only [tok]
                   rw [if_neg hb,if_neg hnt,if_neg hlet,if_neg hdig,if_neg hn0]
                  obtain ⟨ws2,hw2,hsc2⟩:=HI.out.1.word_inv hne ht
                  rw [List.drop_drop] at hsc2
                  have HI2 : Hid (Sc numO (s.data.toList.drop (k + n)) (k + n) ws2 Rf ∧ (acc ++ [⟨2,(s.data.toList.drop k).take n,0,k⟩]) ++ ws2 = Wf):=hid ⟨hsc2,by rw [← HI.out.2,hw2];simp⟩
                  have hn1:=tok_word hne ht
                  have HN:=hid hn
                  have HY:=hid hY
                  have hYs : Y.size = n:=by
                   rw [hY]
                   show ((s.data.toList.drop k).take n).toArray.size = n
                   rw [List.size_toArray,List.length_take]
                   omega
                  have hE : Y.toList.isEmpty = false:=by
                   rw [ByteArray.toList_eq,List.isEmpty_eq_false_iff]
                   intro h
                   have h1 : Y.size = 0:=by
                    show Y.data.toList.length = 0
                    rw [h]
                    rfl
                   omega
                  have hY1 : Y.size ≤ n:=by omega
                  have hY2 : n ≤ Y.size:=by omega
                  have hn3 : k + n ≤ s.size:=by omega
                  have hn4 : 1 ≤ n:=hn1.1
                  clear hb hnt hlet hdig ht hne hdl hq hm hw2 hsc2 hJ hn hY hn0 hn1 hYs hslash
                  go_wp2_with (go_at_call 40;with_reducible refine (blank_in HB.out _).mono ?_;rintro e' w' ⟨rfl,rfl⟩)
                  obtain ⟨wo,hwo⟩ : ∃ wo : World,wo = wr:=⟨_,rfl⟩
                  subst hwo
                  go_loop [8] (fun n => ∃ j : Nat,n = .int .i64 j ∧ k ≤ j ∧ j ≤ J) (fun n => J - (intOf n).toNat)
                  case atStart => exact ⟨k,rfl,Nat.le_refl _,by omega⟩
                  case round =>
                   obtain ⟨j,rfl,hj1,hj2⟩:=hrel
                   by_cases hj : j < J
                   · have hjs : j < s.size:=by omega
                     have hpt:=HP.out.1 j hjs hj1 hj
                     cases hl : isLetter (s[j]'hjs)
                     · have HL1:=hid hl
                       have HD1 : Hid (isDigit (s[j]'hjs) = true):=hid (by unfold isPart at hpt;rw [hl] at hpt;simpa using hpt)
                       clear hl hpt
                       go_wp2_with (first | (go_at_call 41;with_reducible refine (rletter_is HL1.out _).mono ?_;rintro e' w' ⟨rfl,rfl⟩) | (go_at_call 42;with_reducible refine (rdigit_is HD1.out _).mono ?_;rintro e' w' ⟨rfl,rfl⟩))
                       go_round
                       case rel => exact ⟨j + 1,by go_num,by omega,by omega⟩
                       case measure => simp [intOf];omega
                     · have HL1:=hid hl
                       clear hl hpt
                       go_wp2_with (first | (go_at_call 41;with_reducible refine (rletter_is HL1.out _).mono ?_;rintro e' w' ⟨rfl,rfl⟩))
                       go_round
                       case rel => exact ⟨j + 1,by go_num,by omega,by omega⟩
                       case measure => simp [intOf];omega
                   · obtain rfl : j = J:=by omega
                     by_cases hje : j < s.size
                     · have hpt:=HP.out.2 hje
                       have HL1 : Hid (isLetter (s[j]'hje) = false):=hid (by unfold isPart at hpt;simp at hpt;exact hpt.1)
                       have HD1 : Hid (isDigit (s[j]'hje) = false):=hid (by unfold isPart at hpt;simp at hpt;exact hpt.2)
                       clear hpt
                       go_wp2_with (first | (go_at_call 41;with_reducible refine (rletter_is HL1.out _).mono ?_;rintro e' w' ⟨rfl,rfl⟩) | (go_at_call 42;with_reducible refine (rdigit_is HD1.out _).mono ?_;rintro e' w' ⟨rfl,rfl⟩) | (go_at_call 41;with_reducible refine (rletter_is HL.out _).mono ?_;rintro e' w' ⟨rfl,rfl⟩) | (go_at_call 42;with_reducible refine (rdigit_is HD.out _).mono ?_;rintro e' w' ⟨rfl,rfl⟩) | (go_at_call 44;with_reducible refine (rsign_at s Y k n hp hs HN.out HY.out _).mono ?_;rintro e' w1 ⟨rfl,hb1⟩;obtain ⟨hc1,hf1⟩:=bcell hb1;have hbw1:=hbw.trans ((below_after hb1).mono hbw.size);have hne:=own_ne_new hown;have hzz : wo.heap.size < w1.heap.size:=by have:=hb1.size;simp at this;omega) | (at_builtin;go_must (refine wpList_append_own _ rfl (.tmp 117) (.tmp 119) 72 rfl w.heap.size 82 i0 _ 4 40 Try.underlying72 hi hz0 hz1 hz2 rfl (by decide) _ _ _ rfl ((own_set (own_set (own_below (hown.alloc _) hb1) hne _ _) hne _ _).alloc _) ⟨_,0,none⟩ 1 1 [.int .i64 2,.string Y,.int .i64 0,.int .i64 k] rfl rfl (cell_four_at _ _ _ _ _ _ _ (by simp)) (four_one _ _ _ _) (by unfold maxLen;omega) (by omega) (by have:=hbw.size;simp;omega) ?_;intro v4 w4 hown4 hgrow4 _)))
                       go_roundw
                       case rel =>
                        refine ⟨k + n,acc ++ [⟨2,(s.data.toList.drop k).take n,0,k⟩],ws2,?_,by omega,?_,?_,?_,HI2⟩
                        · rw [show Y.size = n by omega]
                          go_num
                        · rw [cellsW_snoc,List.length_append]
                          have e : wcells ⟨2,(s.data.toList.drop k).take n,0,k⟩ = [.int .i64 2,.string Y,.int .i64 0,.int .i64 k]:=by rw [HY.out];rfl
                          rw [e]
                          exact hown4
                        · exact ((below_two hbw1 hbw.size _ _).alloc (by have:=hbw1.size;simp;omega) _).grown hgrow4 (by have:=hbw1.size;simp;omega) (fun j hj => (hown.lt j hj).1)
                        · rw [List.length_append]
                          show acc.length + 1 ≤ _
                          omega
                       case measure => simp [intOf];omega
                     · go_wp2_with (first | (go_at_call 41;with_reducible refine (rletter_is HL.out _).mono ?_;rintro e' w' ⟨rfl,rfl⟩) | (go_at_call 42;with_reducible refine (rdigit_is HD.out _).mono ?_;rintro e' w' ⟨rfl,rfl⟩) | (go_at_call 44;with_reducible refine (rsign_at s Y k n hp hs HN.out HY.out _).mono ?_;rintro e' w1 ⟨rfl,hb1⟩;obtain ⟨hc1,hf1⟩:=bcell hb1;have hbw1:=hbw.trans ((below_after hb1).mono hbw.size);have hne:=own_ne_new hown;have hzz : wo.heap.size < w1.heap.size:=by have:=hb1.size;simp at this;omega) | (at_builtin;go_must (refine wpList_append_own _ rfl (.tmp 117) (.tmp 119) 72 rfl w.heap.size 82 i0 _ 4 40 Try.underlying72 hi hz0 hz1 hz2 rfl (by decide) _ _ _ rfl ((own_set (own_set (own_below (hown.alloc _) hb1) hne _ _) hne _ _).alloc _) ⟨_,0,none⟩ 1 1 [.int .i64 2,.string Y,.int .i64 0,.int .i64 k] rfl rfl (cell_four_at _ _ _ _ _ _ _ (by simp)) (four_one _ _ _ _) (by unfold maxLen;omega) (by omega) (by have:=hbw.size;simp;omega) ?_;intro v4 w4 hown4 hgrow4 _)))
                       go_roundw
                       case rel =>
                        refine ⟨k + n,acc ++ [⟨2,(s.data.toList.drop k).take n,0,k⟩],ws2,?_,by omega,?_,?_,?_,HI2⟩
                        · rw [show Y.size = n by omega]
                          go_num
                        · rw [cellsW_snoc,List.length_append]
                          have e : wcells ⟨2,(s.data.toList.drop k).take n,0,k⟩ = [.int .i64 2,.string Y,.int .i64 0,.int .i64 k]:=by rw [HY.out];rfl
                          rw [e]
                          exact hown4
                        · exact ((below_two hbw1 hbw.size _ _).alloc (by have:=hbw1.size;simp;omega) _).grown hgrow4 (by have:=hbw1.size;simp;omega) (fun j hj => (hown.lt j hj).1)
                        · rw [List.length_append]
                          show acc.length + 1 ≤ _
                          omega
                       case measure => simp [intOf];omega
              · have h47 : (((s[k]'hp).toNat : Int) == 47) = false:=by
                 rw [beq_eq_false_iff_ne]
                 intro h
                 exact hslash (UInt8.toNat_inj.1 (by show _ = 47;omega))
                have ht : tok numO (s.data.toList.drop k) = .word 2 n 0:=by
                 rw [← hn] at hn0
                 rw [← hn,hq]
                 rw [hq] at hn0
                 simp only [tok]
                 rw [if_neg hb,if_neg hnt,if_neg hlet,if_neg hdig,if_neg hn0]
                obtain ⟨ws2,hw2,hsc2⟩:=HI.out.1.word_inv hne ht
                rw [List.drop_drop] at hsc2
                have HI2 : Hid (Sc numO (s.data.toList.drop (k + n)) (k + n) ws2 Rf ∧ (acc ++ [⟨2,(s.data.toList.drop k).take n,0,k⟩]) ++ ws2 = Wf):=hid ⟨hsc2,by rw [← HI.out.2,hw2];simp⟩
                have hn1:=tok_word hne ht
                have HN:=hid hn
                have HY:=hid hY
                have hYs : Y.size = n:=by
                 rw [hY]
                 show ((s.data.toList.drop k).take n).toArray.size = n
                 rw [List.size_toArray,List.length_take]
                 omega
                have hE : Y.toList.isEmpty = false:=by
                 rw [ByteArray.toList_eq,List.isEmpty_eq_false_iff]
                 intro h
                 have h1 : Y.size = 0:=by
                  show Y.data.toList.length = 0
                  rw [h]
                  rfl
                 omega
                have hY1 : Y.size ≤ n:=by omega
                have hY2 : n ≤ Y.size:=by omega
                have hn3 : k + n ≤ s.size:=by omega
                have hn4 : 1 ≤ n:=hn1.1
                clear hb hnt hlet hdig ht hne hdl hq hm hw2 hsc2 hJ hn hY hn0 hn1 hYs hslash
                go_wp2_with (go_at_call 40;with_reducible refine (blank_in HB.out _).mono ?_;rintro e' w' ⟨rfl,rfl⟩)
                obtain ⟨wo,hwo⟩ : ∃ wo : World,wo = wr:=⟨_,rfl⟩
                subst hwo
                go_loop [8] (fun n => ∃ j : Nat,n = .int .i64 j ∧ k ≤ j ∧ j ≤ J) (fun n => J - (intOf n).toNat)
                case atStart => exact ⟨k,rfl,Nat.le_refl _,by omega⟩
                case round =>
                 obtain ⟨j,rfl,hj1,hj2⟩:=hrel
                 by_cases hj : j < J
                 · have hjs : j < s.size:=by omega
                   have hpt:=HP.out.1 j hjs hj1 hj
                   cases hl : isLetter (s[j]'hjs)
                   · have HL1:=hid hl
                     have HD1 : Hid (isDigit (s[j]'hjs) = true):=hid (by unfold isPart at hpt;rw [hl] at hpt;simpa using hpt)
                     clear hl hpt
                     go_wp2_with (first | (go_at_call 41;with_reducible refine (rletter_is HL1.out _).mono ?_;rintro e' w' ⟨rfl,rfl⟩) | (go_at_call 42;with_reducible refine (rdigit_is HD1.out _).mono ?_;rintro e' w' ⟨rfl,rfl⟩))
                     go_round
                     case rel => exact ⟨j + 1,by go_num,by omega,by omega⟩
                     case measure => simp [intOf];omega
                   · have HL1:=hid hl
                     clear hl hpt
                     go_wp2_with (first | (go_at_call 41;with_reducible refine (rletter_is HL1.out _).mono ?_;rintro e' w' ⟨rfl,rfl⟩))
                     go_round
                     case rel => exact ⟨j + 1,by go_num,by omega,by omega⟩
                     case measure => simp [intOf];omega
                 · obtain rfl : j = J:=by omega
                   by_cases hje : j < s.size
                   · have hpt:=HP.out.2 hje
                     have HL1 : Hid (isLetter (s[j]'hje) = false):=hid (by unfold isPart at hpt;simp at hpt;exact hpt.1)
                     have HD1 : Hid (isDigit (s[j]'hje) = false):=hid (by unfold isPart at hpt;simp at hpt;exact hpt.2)
                     clear hpt
                     go_wp2_with (first | (go_at_call 41;with_reducible refine (rletter_is HL1.out _).mono ?_;rintro e' w' ⟨rfl,rfl⟩) | (go_at_call 42;with_reducible refine (rdigit_is HD1.out _).mono ?_;rintro e' w' ⟨rfl,rfl⟩) | (go_at_call 41;with_reducible refine (rletter_is HL.out _).mono ?_;rintro e' w' ⟨rfl,rfl⟩) | (go_at_call 42;with_reducible refine (rdigit_is HD.out _).mono ?_;rintro e' w' ⟨rfl,rfl⟩) | (go_at_call 44;with_reducible refine (rsign_at s Y k n hp hs HN.out HY.out _).mono ?_;rintro e' w1 ⟨rfl,hb1⟩;obtain ⟨hc1,hf1⟩:=bcell hb1;have hbw1:=hbw.trans ((below_after hb1).mono hbw.size);have hne:=own_ne_new hown;have hzz : wo.heap.size < w1.heap.size:=by have:=hb1.size;simp at this;omega) | (at_builtin;go_must (refine wpList_append_own _ rfl (.tmp 117) (.tmp 119) 72 rfl w.heap.size 82 i0 _ 4 40 Try.underlying72 hi hz0 hz1 hz2 rfl (by decide) _ _ _ rfl ((own_set (own_set (own_below (hown.alloc _) hb1) hne _ _) hne _ _).alloc _) ⟨_,0,none⟩ 1 1 [.int .i64 2,.string Y,.int .i64 0,.int .i64 k] rfl rfl (cell_four_at _ _ _ _ _ _ _ (by simp)) (four_one _ _ _ _) (by unfold maxLen;omega) (by omega) (by have:=hbw.size;simp;omega) ?_;intro v4 w4 hown4 hgrow4 _)))
                     go_roundw
                     case rel =>
                      refine ⟨k + n,acc ++ [⟨2,(s.data.toList.drop k).take n,0,k⟩],ws2,?_,by omega,?_,?_,?_,HI2⟩
                      · rw [show Y.size = n by omega]
                        go_num
                      · rw [cellsW_snoc,List.length_append]
                        have e : wcells ⟨2,(s.data.toList.drop k).take n,0,k⟩ = [.int .i64 2,.string Y,.int .i64 0,.int .i64 k]:=by rw [HY.out];rfl
                        rw [e]
                        exact hown4
                      · exact ((below_two hbw1 hbw.size _ _).alloc (by have:=hbw1.size;simp;omega) _).grown hgrow4 (by have:=hbw1.size;simp;omega) (fun j hj => (hown.lt j hj).1)
                      · rw [List.length_append]
                        show acc.length + 1 ≤ _
                        omega
                     case measure => simp [intOf];omega
                   · go_wp2_with (first | (go_at_call 41;with_reducible refine (rletter_is HL.out _).mono ?_;rintro e' w' ⟨rfl,rfl⟩) | (go_at_call 42;with_reducible refine (rdigit_is HD.out _).mono ?_;rintro e' w' ⟨rfl,rfl⟩) | (go_at_call 44;with_reducible refine (rsign_at s Y k n hp hs HN.out HY.out _).mono ?_;rintro e' w1 ⟨rfl,hb1⟩;obtain ⟨hc1,hf1⟩:=bcell hb1;have hbw1:=hbw.trans ((below_after hb1).mono hbw.size);have hne:=own_ne_new hown;have hzz : wo.heap.size < w1.heap.size:=by have:=hb1.size;simp at this;omega) | (at_builtin;go_must (refine wpList_append_own _ rfl (.tmp 117) (.tmp 119) 72 rfl w.heap.size 82 i0 _ 4 40 Try.underlying72 hi hz0 hz1 hz2 rfl (by decide) _ _ _ rfl ((own_set (own_set (own_below (hown.alloc _) hb1) hne _ _) hne _ _).alloc _) ⟨_,0,none⟩ 1 1 [.int .i64 2,.string Y,.int .i64 0,.int .i64 k] rfl rfl (cell_four_at _ _ _ _ _ _ _ (by simp)) (four_one _ _ _ _) (by unfold maxLen;omega) (by omega) (by have:=hbw.size;simp;omega) ?_;intro v4 w4 hown4 hgrow4 _)))
                     go_roundw
                     case rel =>
                      refine ⟨k + n,acc ++ [⟨2,(s.data.toList.drop k).take n,0,k⟩],ws2,?_,by omega,?_,?_,?_,HI2⟩
                      · rw [show Y.size = n by omega]
                        go_num
                      · rw [cellsW_snoc,List.length_append]
                        have e : wcells ⟨2,(s.data.toList.drop k).take n,0,k⟩ = [.int .i64 2,.string Y,.int .i64 0,.int .i64 k]:=by rw [HY.out];rfl
                        rw [e]
                        exact hown4
                      · exact ((below_two hbw1 hbw.size _ _).alloc (by have:=hbw1.size;simp;omega) _).grown hgrow4 (by have:=hbw1.size;simp;omega) (fun j hj => (hown.lt j hj).1)
                      · rw [List.length_append]
                        show acc.length + 1 ≤ _
                        omega
                     case measure => simp [intOf];omega
  · have HE : Hid ((∃ ws',ws' = ws ∧ ws = [⟨3,[],0,s.size⟩]) ∧ Rf = none):=by
     have h1:=HI.out.1
     rw [show s.data.toList.drop k = [] from List.drop_eq_nil_of_le (by show s.size ≤ k;omega)] at h1
     obtain ⟨e1,e2⟩:=h1.nil_inv
     exact hid ⟨⟨ws,rfl,by rw [e1,show k = s.size by omega]⟩,e2⟩
    go_wp2_with (first
     | (at_builtin;go_must (refine wpList_append_own _ rfl (.tmp 122) (.tmp 126) 72 rfl w.heap.size 82 i0 _ 4 40 Try.underlying72 hi hz0 hz1 hz2 rfl (by decide) _ _ _ rfl (hown.alloc _) ⟨_,0,none⟩ 1 1 [.int .i64 3,.string ⟨#[]⟩,.int .i64 0,.int .i64 s.size] rfl rfl (cell_four_at _ _ _ _ _ _ _ (by simp)) (four_one _ _ _ _) (by unfold maxLen;omega) (by omega) (by have:=hbw.size;simp;omega) ?_;intro v4 w4 hown4 hgrow4 _)))
    go_ret3
    refine ⟨?_,(hbw.alloc hbw.size _).grown hgrow4 (by have:=hbw.size;simp;omega) (fun j hj => (hown.lt j hj).1)⟩
    obtain ⟨⟨ws',_,e1⟩,e2⟩:=HE.out
    have e3:=HI.out.2
    rw [e1] at e3
    rw [e2,← e3]
    refine ⟨_,rfl,?_⟩
    rw [cellsW_snoc,List.length_append]
    exact hown4
def OkEnd (T : TypeId) (B : Nat) (W : List Wd) (e : Ending) (w' : World) : Prop :=
 ∃ g cap,e = .returned (.tuple #[.slice (some ⟨g,0,none⟩) W.length cap,.int .i64 0,.int .i64 0]) ∧ w'.ownsRow B T 4 (.slice (some ⟨g,0,none⟩) W.length cap) W.length (cellsW W)
theorem rwords_ok (s : ByteArray) (w : World) (hs : s.size ≤ 16384) (W : List Wd) (hS : Hid (Sc numO s.data.toList 0 W none)) :
 Calls Try.prog 22 #[.string s] w fun e w' => OkEnd 82 w.heap.size W e w' ∧ Below w.heap.size w w' :=
 (rwords_any s w hs W none hS).mono fun e w' ⟨h1,h2⟩ => by
  obtain ⟨v,e1,e2⟩:=h1
  obtain ⟨g,cap,e3,_⟩:=e2.form (hS.out.some_words rfl)
  subst e3
  exact ⟨⟨g,cap,e1,e2⟩,h2⟩
theorem rwords_err (s : ByteArray) (w : World) (hs : s.size ≤ 16384) (W : List Wd) (e0 : Int) (a0 : Nat) (hS : Hid (Sc numO s.data.toList 0 W (some (e0,a0)))) :
 Calls Try.prog 22 #[.string s] w fun e w' => e = .returned (.tuple #[.slice none 0 0,.int .i64 e0,.int .i64 a0]) ∧ Below w.heap.size w w' :=
 rwords_any s w hs W _ hS
end Go.Proofs.Ytbnggoopfakgfaa
namespace Go.Proofs.Ytbnggoopfakgfaa
open Go Go.RowKit
theorem own_wcellsR {w : World} {B g cap n : Nat} {Wf : List Wd} (h : w.ownsRow B 82 4 (.slice (some ⟨g,0,none⟩) n cap) Wf.length (cellsW Wf)) : WCells w g Wf ∧ B ≤ g ∧ n = Wf.length:=by
 rcases h.2 with ⟨h1,_⟩ | ⟨g',cap',cur,hv,hB,hg,rest⟩
 · cases h1
 · cases hv
   exact ⟨⟨(Array.getElem?_eq_some_iff.1 hg).1,fun i x hx => row_at h hx⟩,hB,rfl⟩
theorem Sc.kok {num : List UInt8 → Option Int} {l : List UInt8} {a : Nat} {ws : List Wd} {r : Option (Int × Nat)} (h : Sc num l a ws r) : ∀ w ∈ ws,KOk w:=by
 induction h with
 | done a => intro w hw;simp at hw;subst hw;exact ⟨fun h => absurd (show (3 : Int) = 0 from h) (by decide),fun h => absurd (show (3 : Int) = 2 from h) (by decide)⟩
 | bad => intro w hw;simp at hw
 | gap _ _ _ _ _ _ _ _ ih => exact ih
 | word l a n k v ws r hl ht hs ih =>
  intro w hw
  rcases List.mem_cons.1 hw with rfl | hw
  · have hn:=tok_word hl ht
    obtain ⟨c,q,rfl⟩:=List.exists_cons_of_ne_nil hl
    obtain ⟨m,rfl⟩ : ∃ m,n = m + 1:=⟨n - 1,by omega⟩
    refine ⟨fun hk => ⟨c,q.take m,rfl,?_⟩,fun hk => ⟨c,q.take m,rfl,?_⟩⟩
    · obtain rfl : k = 0:=hk
      simp only [tok] at ht
      repeat' split at ht
      all_goals first
       | assumption
       | (cases ht;done)
    · obtain rfl : k = 2:=hk
      simp only [tok] at ht
      repeat' split at ht
      all_goals first
       | (rename_i h1 h2 h3 h4 h5;simpa using h3)
       | (cases ht;done)
       | simp_all
  · exact ih w hw
noncomputable def parF (ws : List Wd) : Pg × RS:=wholeF (3 * ws.length + 2) (ws.length + 1) ⟨[],[],[],[]⟩ (.ok ws)
def ParEnd (B : Nat) (q : Pg × RS) (e : Ending) (w' : World) : Prop:=∃ v0 v1 v2 v3 c a,e = .returned (.tuple #[.agg #[v0,v1,v2,v3],.int .i64 c,.int .i64 a]) ∧
 (∀ t,q.2 = .ok t → c = 0 ∧ a = 0 ∧ ∃ rf rt,PRows B w' q.1 v0 v1 v2 v3 rf rt) ∧ (∀ c' a',q.2 = .bad c' a' → c = c' ∧ a = (a' : Int) ∧ c ≠ 0 ∧ v0 = .slice none 0 0 ∧ v1 = .slice none 0 0 ∧ v2 = .slice none 0 0 ∧ v3 = .slice none 0 0)
def PgBlk (X : World) (n : Nat) (p0 p1 p2 p3 : Value) : Prop:=X.heap[n]? = some (.cells #[p0,p1,p2,p3] 29 (0,0))
section
variable {X Y : World} {n : Nat} {p0 p1 p2 p3 : Value}
theorem PgBlk.facts (h : PgBlk X n p0 p1 p2 p3) : n < X.heap.size ∧ (X.cell? ⟨n,0,none⟩ = some p0 ∧ X.cell? ⟨n,1,none⟩ = some p1 ∧ X.cell? ⟨n,2,none⟩ = some p2 ∧ X.cell? ⟨n,3,none⟩ = some p3) ∧ (X.frozen? ⟨n,0,none⟩ = false ∧ X.frozen? ⟨n,1,none⟩ = false ∧ X.frozen? ⟨n,2,none⟩ = false ∧ X.frozen? ⟨n,3,none⟩ = false):=by
 refine ⟨(Array.getElem?_eq_some_iff.1 h).1,⟨?_,?_,?_,?_⟩,frozen_of_row X n _ _ _ h,frozen_of_row X n _ _ _ h,frozen_of_row X n _ _ _ h,frozen_of_row X n _ _ _ h⟩ <;> rw [cell_of_row _ _ _ _ _ _ h] <;> rfl
theorem PgBlk.new (hn : n = X.heap.size) : PgBlk (X.alloc (.cells #[p0,p1,p2,p3] 29)) n p0 p1 p2 p3:=hn ▸ heap_alloc_new X _
theorem PgBlk.of (h : PgBlk X n p0 p1 p2 p3) (hf : Y.heap[n]? = X.heap[n]?) : PgBlk Y n p0 p1 p2 p3:=hf.trans h
theorem PgBlk.all (h : PgBlk X n p0 p1 p2 p3) (q0 q1 q2 q3 : Value) : PgBlk ((((X.setCell ⟨n,0,none⟩ q0).setCell ⟨n,1,none⟩ q1).setCell ⟨n,2,none⟩ q2).setCell ⟨n,3,none⟩ q3) n q0 q1 q2 q3 :=
 heap_setCell_same _ n 3 _ _ _ (heap_setCell_same _ n 2 _ _ _ (heap_setCell_same _ n 1 _ _ _ (heap_setCell_same X n 0 _ _ _ h)))
theorem results_pg {fn : Func} {p q r : Tmp} (hfn : fn.results = #[.cell p 29,.tmp q,.tmp r]) (tmps : Array Value) (u u' : Value) (hp : tmps.getD p undef = .pointer (some ⟨n,0,none⟩)) (hq : tmps.getD q undef = u) (hr : tmps.getD r undef = u') (h : PgBlk X n p0 p1 p2 p3) :
 (results fn tmps).run Try.prog X = .ok (.tuple #[.agg #[p0,p1,p2,p3],u,u']) X:=by
 have hp' : tmps[p]?.getD undef = .pointer (some ⟨n,0,none⟩):=by simpa using hp
 have hq' : tmps[q]?.getD undef = u:=by simpa using hq
 have hr' : tmps[r]?.getD undef = u':=by simpa using hr
 simp [results,hfn,hp',hq',hr',asAddr,run_loadVar_row X n 29 29 _ (0,0) _ h Try.underlying29 rfl (by kernel_rfl)]
end
theorem PRows.stay {B : Nat} {W X : World} {p : Pg} {v0 v1 v2 v3 : Value} {rf : List (Fn × FV)} {rt : List (List Stm × Value)} (R : PRows B W p v0 v1 v2 v3 rf rt) (hb : Below W.heap.size W X) : PRows B X p v0 v1 v2 v3 rf rt:=by
 have hk : KeptT B W X:=⟨hb.size,fun g _ _ _ _ hg _ => hb.block g (Array.getElem?_eq_some_iff.1 hg).1⟩
 exact ⟨own_below R.g hb,own_below R.l hb,own_below R.f hb,own_below R.t hb,R.ef,R.et,fun q hq => (R.xf q hq).keptT hk,fun q hq => (R.xt q hq).keptT hk⟩
theorem own_keptB {B T k n : Nat} {W X : World} {v : Value} {xs : List Value} (h : W.ownsRow B T k v n xs) (hk : ∀ g,B ≤ g → g < W.heap.size → X.heap[g]? = W.heap[g]?) : X.ownsRow B T k v n xs:=by
 refine ⟨h.1,?_⟩
 rcases h.2 with h0 | ⟨g,cap,cur,rfl,hb,hg,rest⟩
 · exact .inl h0
 · exact .inr ⟨g,cap,cur,rfl,hb,(hk g hb (Array.getElem?_eq_some_iff.1 hg).1).trans hg,rest⟩
theorem own_lower {B B' T k n : Nat} {W : World} {v : Value} {xs : List Value} (h : W.ownsRow B T k v n xs) (hl : B' ≤ B) : W.ownsRow B' T k v n xs:=by
 refine ⟨h.1,?_⟩
 rcases h.2 with h0 | ⟨g,cap,cur,rfl,hb,rest⟩
 · exact .inl h0
 · exact .inr ⟨g,cap,cur,rfl,Nat.le_trans hl hb,rest⟩
theorem PRows.keptB {B : Nat} {W X : World} {p : Pg} {v0 v1 v2 v3 : Value} {rf : List (Fn × FV)} {rt : List (List Stm × Value)} (R : PRows B W p v0 v1 v2 v3 rf rt) (hk : ∀ g,B ≤ g → g < W.heap.size → X.heap[g]? = W.heap[g]?) (hs : W.heap.size ≤ X.heap.size) : PRows B X p v0 v1 v2 v3 rf rt:=by
 have hT : KeptT B W X:=⟨hs,fun g _ _ _ hg hb _ => hk g hg (Array.getElem?_eq_some_iff.1 hb).1⟩
 exact ⟨own_keptB R.g hk,own_keptB R.l hk,own_keptB R.f hk,own_keptB R.t hk,R.ef,R.et,fun q hq => (R.xf q hq).keptT hT,fun q hq => (R.xt q hq).keptT hT⟩
theorem PRows.lower {B B' : Nat} {W : World} {p : Pg} {v0 v1 v2 v3 : Value} {rf : List (Fn × FV)} {rt : List (List Stm × Value)} (R : PRows B W p v0 v1 v2 v3 rf rt) (hl : B' ≤ B) : PRows B' W p v0 v1 v2 v3 rf rt :=
 ⟨own_lower R.g hl,own_lower R.l hl,own_lower R.f hl,own_lower R.t hl,R.ef,R.et,fun q hq => (R.xf q hq).low hl,fun q hq => (R.xt q hq).lo hl⟩
def PRel (B : Nat) (ws : List Wd) (wr : World) (σ : RS) (m : Nat) (p : Pg) (v0 v1 v2 v3 : Value) : Prop :=
 parF ws = wholeF (3 * ws.length + 2) m p σ ∧ ∀ t,σ = .ok t → (∃ rf rt,PRows B wr p v0 v1 v2 v3 rf rt) ∧ t.length < m ∧ p.gs.length + t.length ≤ ws.length ∧ p.ls.length + t.length ≤ ws.length ∧ p.fs.length + t.length ≤ ws.length ∧ p.ths.length + t.length ≤ ws.length
theorem whole_stop {n m : Nat} {p : Pg} {x : Wd} {tt : List Wd} (h : x.k = 3) : wholeF n m p (.ok (x :: tt)) = (p,.ok (x :: tt)):=by
 cases m with
 | zero => rfl
 | succ m => simp [wholeF,RS.hd,h]
theorem whole_bad {n m : Nat} {p : Pg} {c : Int} {a : Nat} : wholeF n m p (.bad c a) = (p,.bad c a):=by
 cases m with
 | zero => rfl
 | succ m => simp [wholeF,RS.good]
theorem whole_more {n m : Nat} {p : Pg} {x : Wd} {tt : List Wd} (h : x.k ≠ 3) : wholeF n (m + 1) p (.ok (x :: tt)) = wholeF n m (thingF n p (.ok (x :: tt))).1 (thingF n p (.ok (x :: tt))).2:=by
 simp [wholeF,RS.hd,RS.good,h]
theorem below_set4 {w X : World} (h : Below w.heap.size w X) (q0 q1 q2 q3 : Value) : Below w.heap.size w ((((X.setCell ⟨w.heap.size,0,none⟩ q0).setCell ⟨w.heap.size,1,none⟩ q1).setCell ⟨w.heap.size,2,none⟩ q2).setCell ⟨w.heap.size,3,none⟩ q3) :=
 (((h.setCell (p:=⟨w.heap.size,0,none⟩) (Nat.le_refl _) _).setCell (p:=⟨w.heap.size,1,none⟩) (Nat.le_refl _) _).setCell (p:=⟨w.heap.size,2,none⟩) (Nat.le_refl _) _).setCell (p:=⟨w.heap.size,3,none⟩) (Nat.le_refl _) _
theorem rfield_k (x0 x1 x2 x3 : Value) (w : World) : (Instr.field 82 (.agg #[x0,x1,x2,x3]) 0).run Try.prog w = .ok x0 w:=by
 simp [Instr.field,run_underlying Try.underlying82,part,asAgg,Try.isAgg3]
theorem r4_parse (s : ByteArray) (w : World) (hs : s.size ≤ 16384) (ws : List Wd) (hS : Hid (Sc numO s.data.toList 0 ws none)) :
 Calls Try.prog 7 #[.string s] w fun e w' => ParEnd w.heap.size (parF ws) e w' ∧ Below w.heap.size w w':=by
 have hfin : Fin ws:=hS.out.fin rfl
 have hfew : ws.length ≤ 16385:=by (have:=hS.out.few rfl;have e : s.data.toList.length = s.size:=(by simp);omega)
 have hlong : Hid (∀ x ∈ ws,x.t.length ≤ 100000):=hid fun x hx => by (have:=hS.out.short x hx;have e : s.data.toList.length = s.size:=(by simp);omega)
 have HK:=hid hS.out.kok
 have HF:=hid hfin
 clear hfin
 go_enter Try.func7,Try.ntmps7
 go_upto_region 4 with (go_at_call 22;(with_reducible refine (rwords_ok s _ hs ws hS).mono ?_);rintro e1 w1 ⟨⟨g,cap,rfl,ho1⟩,hb1⟩)
 have B1 : Hid (Below w.heap.size w w1):=hid ((((Below.refl w.heap.size w).alloc (Nat.le_refl _) _)).trans (hb1.mono (by simp)))
 have GP1 : Hid (PgBlk w1 w.heap.size (.slice none 0 0) (.slice none 0 0) (.slice none 0 0) (.slice none 0 0)):=hid ((PgBlk.new rfl).of (hb1.block _ (by simp)))
 obtain ⟨hwc,hgB,_⟩:=own_wcellsR ho1
 have hgB' : w.heap.size + 1 ≤ g:=by simpa using hgB
 have HWC:=hid hwc
 have hgl:=hwc.lt
 clear hwc hgB ho1 hb1
 obtain ⟨hgp,_⟩:=GP1.out.facts
 have hz1 : w.heap.size < w1.heap.size:=hgp
 clear hgp
 go_wp2
 refine name_world ?_
 intro W2 hW2
 have R2 : RrAt W2 w1.heap.size (.slice (some ⟨g,0,none⟩) ws.length cap) ((0 : Nat) : Int) 0 0 0:=by (rw [hW2];exact (RrAt.alloc (W:=w1.alloc _) (heap_alloc_new _ _) _))
 have hz2 : W2.heap.size = w1.heap.size + 2:=by (rw [hW2];simp)
 have BW2 : Below w1.heap.size w1 W2:=by (rw [hW2];exact ((Below.refl _ _).alloc (Nat.le_refl _) _).alloc (by simp) _)
 have S2 : Hid (A4 W2 (w1.heap.size + 1) w1.heap.size g cap ws ((0 : Nat) : Int) (.slice none 0 0) (.slice none 0 0) (.slice none 0 0) (.slice none 0 0) (.ok ws)):=hid
  ⟨by (rw [hW2];exact alloc2_new _ _ _),StR.mk_ok R2 (by simp) (List.suffix_refl _) HF.out,⟨HWC.out.kept (fun k e => BW2.block k (by rw [e];exact hgl)) BW2.size,by omega,by omega,hlong.out,HK.out⟩,by omega,by omega⟩
 have HB2:=hid BW2
 have HP2 : Hid (PRel (w1.heap.size + 2) ws W2 (.ok ws) (ws.length + 1) ⟨[],[],[],[]⟩ (.slice none 0 0) (.slice none 0 0) (.slice none 0 0) (.slice none 0 0)):=hid ⟨rfl,fun t e => by
  cases e
  exact ⟨⟨[],[],PRows.nil _ _⟩,by omega,by simp,by simp,by simp,by simp⟩⟩
 clear hW2 R2 BW2
 go_loopw [] (fun wr => ∃ σ p v0 v1 v2 v3 m,A4 wr (w1.heap.size + 1) w1.heap.size g cap ws ((0 : Nat) : Int) v0 v1 v2 v3 σ ∧ Low (w1.heap.size + 1) w1.heap.size (w1.heap.size + 2) W2 wr ∧ PRel (w1.heap.size + 2) ws wr σ m p v0 v1 v2 v3) (fun wr => msR wr w1.heap.size ws.length)
 case atStart => exact ⟨_,_,_,_,_,_,_,S2.out,⟨⟨Nat.le_refl _,rfl,rfl,rfl⟩,fun _ _ _ _ => rfl⟩,HP2.out⟩
 case round =>
  obtain ⟨σ,p,v0,v1,v2,v3,m,hS,hL,hR1,hR2⟩:=hrel
  have hPB : PgBlk wr w.heap.size (.slice none 0 0) (.slice none 0 0) (.slice none 0 0) (.slice none 0 0):=(GP1.out.of (HB2.out.block _ (by omega))).of (hL.2 _ (by omega) (by omega) (by omega))
  have hBel : Hid (∀ X,Below wr.heap.size wr X → Below w.heap.size w X):=hid fun X hX => by
   have h1:=B1.out
   have h2:=HB2.out
   refine ⟨hX.os.trans (hL.1.2.1.trans (h2.os.trans h1.os)),hX.tape.trans (hL.1.2.2.1.trans (h2.tape.trans h1.tape)),hX.output.trans (hL.1.2.2.2.trans (h2.output.trans h1.output)),by (have:=hX.size;have:=hL.1.1;omega),fun k hk => ?_⟩
   have hl:=hL.1.1
   rw [hX.block k (by omega),hL.2 k (by omega) (by omega) (by omega),h2.block k (by omega),h1.block k hk]
  have S1:=hid hS
  have HPB:=hid hPB
  have HL:=hid hL
  have HR1:=hid hR1
  have HR2:=hid hR2
  cases σ with
  | bad c a =>
   have hw2 : parF ws = (p,.bad c a):=by (rw [hR1,whole_bad])
   have HW2:=hid hw2
   clear hS hPB hL hR1 hR2 hw2
   go_upto_region 8 with (first
    | (go_at_call 23;(with_reducible refine (r4_ok S1 false rfl).mono ?_);rintro e1 x1 ⟨rfl,hb1⟩;have T1:=hid (S1.out.stay hb1))
    | (go_at_call 23;(with_reducible refine (r4_ok T1 false rfl).mono ?_);rintro e2 x2 ⟨rfl,hb2⟩;have T2:=hid (T1.out.stay hb2)))
   have hPB2 : PgBlk x2 w.heap.size (.slice none 0 0) (.slice none 0 0) (.slice none 0 0) (.slice none 0 0):=(HPB.out.of (hb1.block _ HPB.out.facts.1)).of (hb2.block _ (Nat.lt_of_lt_of_le HPB.out.facts.1 hb1.size))
   have HPB2:=hid hPB2
   obtain ⟨gpl,⟨pc0,pc1,pc2,pc3⟩,pf0,pf1,pf2,pf3⟩:=hPB2.facts
   obtain ⟨hc0,i,hi,hrr⟩ : c ≠ 0 ∧ ∃ i : Nat,i < ws.length ∧ RrAt x2 w1.heap.size (.slice (some ⟨g,0,none⟩) ws.length cap) i 0 c a:=T2.out.st
   obtain ⟨q0,q1,q2,q3,q4⟩:=hrr.cells
   have hrl:=hrr.lt
   obtain ⟨m0,m1,m2,m3,m4,m5⟩:=T2.out.at4.cells
   have ml:=T2.out.at4.lt
   have HBB:=hid (hBel.out x2 (below_dual hb1 hb2))
   have HC0:=hid hc0
   clear hPB2 hrr hb1 hb2 hc0 hi
   go_region
   all_goals go_wp2
   all_goals refine bodyPost_ret (results_pg rfl _ (.int .i64 c) (.int .i64 a) rfl rfl rfl (PgBlk.all (X:=x2) HPB2.out _ _ _ _)) rfl ⟨⟨_,_,_,_,c,(a : Int),rfl,?_,?_⟩,?_⟩
   · intro t ht
     rw [HW2.out] at ht
     cases ht
   · intro c' a' h
     rw [HW2.out] at h
     cases h
     exact ⟨rfl,rfl,HC0.out,rfl,rfl,rfl,rfl⟩
   · first | exact below_set4 HBB.out _ _ _ _ | exact below_set4 HBB.out.drew _ _ _ _ | exact below_set4 (below_drewN HBB.out _) _ _ _ _
  | ok t =>
   obtain ⟨x,tt,rfl⟩:=hS.st.2.1.ne
   have hfd:=rfield_k
   cases hx : (x.k != 3) with
   | false =>
    have hx3 : x.k = 3:=by simpa using hx
    have hw2 : parF ws = (p,.ok (x :: tt)):=by (rw [hR1,whole_stop hx3])
    obtain ⟨⟨rf,rt,hPR⟩,_⟩:=hR2 _ rfl
    obtain ⟨z0,y0,rfl⟩:=own_form hPR.g
    obtain ⟨z1,y1,rfl⟩:=own_form hPR.l
    obtain ⟨z2,y2,rfl⟩:=own_form hPR.f
    obtain ⟨z3,y3,rfl⟩:=own_form hPR.t
    have HW2:=hid hw2
    have HPR:=hid hPR
    clear hS hPB hL hR1 hR2 hw2 hPR
    go_upto_region 9 with (first
     | (go_at_call 23;(with_reducible refine (r4_ok S1 true rfl).mono ?_);rintro e1 x1 ⟨rfl,hb1⟩;have T1:=hid (S1.out.stay hb1))
     | (go_at_call 24;(with_reducible refine (r4_wordOk T1).mono ?_);rintro e2 x2 ⟨rfl,hb2⟩;have T2:=hid (T1.out.stay hb2))
     | (go_at_call 23;(with_reducible refine (r4_ok T2 true rfl).mono ?_);rintro e3 x3 ⟨rfl,hb3⟩;have T3:=hid (T2.out.stay hb3)))
    have hPB2 : PgBlk x3 w.heap.size (.slice none 0 0) (.slice none 0 0) (.slice none 0 0) (.slice none 0 0):=((HPB.out.of (hb1.block _ HPB.out.facts.1)).of (hb2.block _ (Nat.lt_of_lt_of_le HPB.out.facts.1 hb1.size))).of (hb3.block _ (Nat.lt_of_lt_of_le HPB.out.facts.1 (Nat.le_trans hb1.size hb2.size)))
    have HPB2:=hid hPB2
    obtain ⟨gpl,⟨pc0,pc1,pc2,pc3⟩,pf0,pf1,pf2,pf3⟩:=hPB2.facts
    obtain ⟨m0,m1,m2,m3,m4,m5⟩:=T3.out.at4.cells
    have ml:=T3.out.at4.lt
    have hB3:=below_dual (below_dual hb1 hb2) hb3
    have HBB:=hid (hBel.out x3 hB3)
    have HPR3:=hid (HPR.out.stay hB3)
    clear hPB2 hb1 hb2 hb3 hB3
    go_wp2
    refine bodyPost_ret (results_pg rfl _ (.int .i64 0) (.int .i64 0) rfl rfl rfl (PgBlk.all (X:=x3) HPB2.out _ _ _ _)) rfl ⟨⟨_,_,_,_,0,0,rfl,?_,?_⟩,?_⟩
    · intro t ht
      rw [HW2.out] at ht ⊢
      refine ⟨rfl,rfl,rf,rt,(HPR3.out.keptB (fun g hg hl => ?_) (by simp)).lower (by omega)⟩
      rw [heap_setCell_other _ ⟨w.heap.size,3,none⟩ g _ (by simp;omega),heap_setCell_other _ ⟨w.heap.size,2,none⟩ g _ (by simp;omega),heap_setCell_other _ ⟨w.heap.size,1,none⟩ g _ (by simp;omega),heap_setCell_other _ ⟨w.heap.size,0,none⟩ g _ (by simp;omega)]
    · intro c' a' h
      rw [HW2.out] at h
      cases h
    · exact below_set4 HBB.out _ _ _ _
   | true =>
    have hx3 : x.k ≠ 3:=by simpa using hx
    obtain ⟨⟨rf,rt,hPR⟩,hm,h1,h2,h3,h4⟩:=hR2 _ rfl
    have HPR:=hid hPR
    have HM:=hid (And.intro hm (And.intro h1 (And.intro h2 (And.intro h3 h4))))
    have HLEN : Hid ((p.gs.length ≤ 1000000 ∧ p.ls.length ≤ 1000000 ∧ p.fs.length ≤ 1000000 ∧ p.ths.length ≤ 1000000) ∧ 3 * tt.length + 2 ≤ 3 * ws.length + 2):=hid (by (simp only [List.length_cons] at h1 h2 h3 h4;refine ⟨⟨?_,?_,?_,?_⟩,?_⟩ <;> omega))
    clear hS hPB hL hR1 hR2 hPR hm h1 h2 h3 h4
    go_wp2_with (first
     | (go_at_call 23;(with_reducible refine (r4_ok S1 true rfl).mono ?_);rintro e1 x1 ⟨rfl,hb1⟩;have T1:=hid (S1.out.stay hb1))
     | (go_at_call 24;(with_reducible refine (r4_wordOk T1).mono ?_);rintro e2 x2 ⟨rfl,hb2⟩;have T2:=hid (T1.out.stay hb2);have HB12:=hid (below_dual hb1 hb2);have hsz2 : w1.heap.size + 2 ≤ x2.heap.size:=Nat.le_trans (by (have:=HL.out.1.1;omega)) HB12.out.size)
     | (go_at_call 25;(with_reducible refine (rth_any T2.out (HPR.out.stay HB12.out) ⟨by omega,by omega,by omega,hsz2⟩ HLEN.out.1 hx3 HLEN.out.2).mono ?_);rintro e3 x3 ⟨rfl,hlow3,q0,q1,q2,q3,hs3,hrow3⟩))
    refine ⟨⟨_,(thingF (3 * ws.length + 2) p (.ok (x :: tt))).1,q0,q1,q2,q3,m - 1,hs3,?_,?_,?_⟩,?_⟩
    · refine HL.out.trans (Low.trans ⟨⟨HB12.out.size,HB12.out.os,HB12.out.tape,HB12.out.output⟩,fun b hb _ _ => HB12.out.block b (by (have:=HL.out.1.1;omega))⟩ hlow3)
    · obtain ⟨m',rfl⟩ : ∃ m',m = m' + 1:=⟨m - 1,by (have:=HM.out.1;omega)⟩
      rw [HR1.out,whole_more hx3]
      rfl
    · intro t ht
      have hle:=(thing_le (3 * ws.length + 2) p (fun t e => by (cases e;exact S1.out.st.2.1)) hx3).1
      obtain ⟨g1,g2,g3,g4⟩:=thing_more (3 * ws.length + 2) p (.ok (x :: tt))
      obtain ⟨hm,h1,h2,h3,h4⟩:=HM.out
      have hlt : t.length ≤ tt.length:=by (rw [ht] at hle;exact hle)
      simp only [List.length_cons] at hm h1 h2 h3 h4
      exact ⟨hrow3 t ht,by omega,by omega,by omega,by omega,by omega⟩
    · have hle:=(thing_le (3 * ws.length + 2) p (fun t e => by (cases e;exact S1.out.st.2.1)) hx3).1
      rw [hs3.st.ms,S1.out.st.ms]
      have hle' : (thingF (3 * ws.length + 2) p (.ok (x :: tt))).2.len ≤ tt.length:=hle
      cases hq : (thingF (3 * ws.length + 2) p (.ok (x :: tt))).2 with
      | ok t2 => rw [hq] at hle';simp only [RS.ms,RS.len,List.length_cons] at hle' ⊢;omega
      | bad c a => simp only [RS.ms,List.length_cons];omega
theorem rwords_long (s : ByteArray) (w : World) (hs : 16384 < s.size) :
 Calls Try.prog 22 #[.string s] w fun e w' => e = .returned (.tuple #[.slice none 0 0,.int .i64 2,.int .i64 0]) ∧ Below w.heap.size w w':=by
 have h1 : decide ((s.size : Int) > 16384) = true:=by simp;omega
 go_enter Try.func22,Try.ntmps22
 go_wp2
 go_ret3
 exact ⟨rfl,by (refine Fr.below ?_;(with_reducible repeat first | exact Fr.refl _ _ | refine Fr.alloc ?_ _ | refine Fr.drewN ?_ _ | refine Fr.drew ?_ | (refine Fr.set ?_ ?_ _ _;rotate_left;first | exact .inl rfl | (right;simp;done) | (right;simp;omega) | (right;omega)) | refine Fr.step ?_ (by assumption) | refine Fr.stepB ?_ (by assumption)))⟩
theorem r4_parse_no (s : ByteArray) (w : World) (e0 a0 : Int) (he : e0 ≠ 0) (hW : ∀ W,Calls Try.prog 22 #[.string s] W fun e w' => e = .returned (.tuple #[.slice none 0 0,.int .i64 e0,.int .i64 a0]) ∧ Below W.heap.size W w') :
 Calls Try.prog 7 #[.string s] w fun e w' => e = .returned (.tuple #[.agg #[.slice none 0 0,.slice none 0 0,.slice none 0 0,.slice none 0 0],.int .i64 e0,.int .i64 a0]) ∧ Below w.heap.size w w':=by
 have HW:=hid hW
 have k : (e0 != 0) = true:=by simpa using he
 clear hW he
 go_enter Try.func7,Try.ntmps7
 go_upto_region 3 with (go_at_call 22;(with_reducible refine (HW.out _).mono ?_);rintro e1 w1 ⟨rfl,hb1⟩)
 have B1 : Hid (Below w.heap.size w w1):=hid ((((Below.refl w.heap.size w).alloc (Nat.le_refl _) _)).trans (hb1.mono (by simp)))
 have GP1 : Hid (PgBlk w1 w.heap.size (.slice none 0 0) (.slice none 0 0) (.slice none 0 0) (.slice none 0 0)):=hid ((PgBlk.new rfl).of (hb1.block _ (by simp)))
 obtain ⟨gpl,⟨pc0,pc1,pc2,pc3⟩,pf0,pf1,pf2,pf3⟩:=GP1.out.facts
 clear hb1
 go_wp2
 exact bodyPost_ret (results_pg rfl _ (.int .i64 e0) (.int .i64 a0) rfl rfl rfl (PgBlk.all (X:=w1) GP1.out _ _ _ _)) rfl ⟨rfl,below_set4 B1.out _ _ _ _⟩
theorem r4_parse_any (s : ByteArray) (w : World) :
 Calls Try.prog 7 #[.string s] w fun e w' => Below w.heap.size w w' ∧ ∃ v0 v1 v2 v3 c a,e = .returned (.tuple #[.agg #[v0,v1,v2,v3],.int .i64 c,.int .i64 a]) ∧
  ((c ≠ 0 ∧ v0 = .slice none 0 0 ∧ v1 = .slice none 0 0 ∧ v2 = .slice none 0 0 ∧ v3 = .slice none 0 0) ∨ (c = 0 ∧ s.size ≤ 16384 ∧ ∃ ws p t rf rt,Sc numO s.data.toList 0 ws none ∧ parF ws = (p,.ok t) ∧ PRows w.heap.size w' p v0 v1 v2 v3 rf rt)):=by
 by_cases hs : s.size ≤ 16384
 · obtain ⟨ws,r,hS⟩:=Sc.total numO s.data.toList.length s.data.toList 0 (Nat.le_refl _)
   cases r with
   | none =>
    refine (r4_parse s w hs ws (hid hS)).mono ?_
    rintro e w' ⟨⟨v0,v1,v2,v3,c,a,rfl,h1,h2⟩,hb⟩
    refine ⟨hb,v0,v1,v2,v3,c,a,rfl,?_⟩
    obtain ⟨⟨p,σ⟩,hq⟩ : ∃ q,parF ws = q:=⟨_,rfl⟩
    rw [hq] at h1 h2
    cases σ with
    | ok t =>
     obtain ⟨e1,_,rf,rt,h3⟩:=h1 t rfl
     exact .inr ⟨e1,hs,ws,p,t,rf,rt,hS,hq,h3⟩
    | bad c' a' =>
     obtain ⟨_,_,e1,e2⟩:=h2 c' a' rfl
     exact .inl ⟨e1,e2⟩
   | some q =>
    obtain ⟨e0,a0⟩:=q
    have he : e0 ≠ 0:=by rcases hS.bad_code e0 a0 rfl with h | h <;> omega
    refine (r4_parse_no s w e0 a0 he fun W => rwords_err s W hs ws e0 a0 (hid hS)).mono ?_
    rintro e w' ⟨rfl,hb⟩
    exact ⟨hb,_,_,_,_,_,_,rfl,.inl ⟨he,rfl,rfl,rfl,rfl⟩⟩
 · refine (r4_parse_no s w 2 0 (by decide) fun W => rwords_long s W (by omega)).mono ?_
   rintro e w' ⟨rfl,hb⟩
   exact ⟨hb,_,_,_,_,_,_,rfl,.inl ⟨by decide,rfl,rfl,rfl,rfl⟩⟩
end Go.Proofs.Ytbnggoopfakgfaa
namespace Go.Proofs.Ytbnggoopfakgfaa
open Go Go.RowKit
def dstG (k : Nat) : Nat:=31 + k
section
variable {vs : List (Option Value)} {t0 : Array Value} {listed : Array Bool} {a : Act} {B b : Nat} {W1 X X' : World} {cs : Array Value} {R : World → Prop}
theorem putG (h : Ins 11 66 dstG vs t0 listed a) (k d : Nat) (v : Value) (hk : k < 11) (hd : dstG k = d) (hv : ∀ u,vs[k]? = some (some u) → u = v) : Ins 11 66 dstG vs t0 (listed.setIfInBounds k true) (a.put (some d) v):=by
 subst hd
 exact h.put hk (by unfold dstG;omega) (fun i hi e => by unfold dstG at e;omega) hv
structure GI (vs : List (Option Value)) (t0 : Array Value) (W1 : World) (cs : Array Value) (R : World → Prop) (listed : Array Bool) (a : Act) (X : World) : Prop where
 ins : Ins 11 66 dstG vs t0 listed a
 wd : (listed.getD 10 false = false ∧ Below W1.heap.size W1 X ∧ (listed.getD 9 false = true → ∃ g,a.tmps.getD 40 undef = .slice (some ⟨g,0,none⟩) 6 6 ∧ X.heap[g]? = some (.cells cs 9 (0,0)))) ∨ (listed.getD 10 false = true ∧ R X)
theorem getD_other {k j : Nat} (h : j ≠ k) : (listed.setIfInBounds k true).getD j false = listed.getD j false:=by
 simp only [Array.getD_eq_getD_getElem?,Array.getElem?_setIfInBounds]
 rw [if_neg (Ne.symm h)]
theorem GI.put (h : GI vs t0 W1 cs R listed a X) (k d : Nat) (v : Value) (hk : k < 9) (hd : dstG k = d) (hv : ∀ u,vs[k]? = some (some u) → u = v) (hb : Below X.heap.size X X') (hR : R X → R X') : GI vs t0 W1 cs R (listed.setIfInBounds k true) (a.put (some d) v) X':=by
 refine ⟨putG h.ins k d v (by omega) hd hv,?_⟩
 rw [getD_other (by omega : 10 ≠ k),getD_other (by omega : 9 ≠ k)]
 rcases h.wd with ⟨h1,h2,h3⟩ | ⟨h1,h2⟩
 · refine .inl ⟨h1,below_dual h2 hb,fun h9 => ?_⟩
   obtain ⟨g,e1,e2⟩:=h3 h9
   refine ⟨g,?_,(hb.block g (Array.getElem?_eq_some_iff.1 e2).1).trans e2⟩
   subst hd
   rw [getD_put a _ _ _ (by rw [h.ins.tsz];unfold dstG;omega),if_neg (by unfold dstG;omega)]
   exact e1
 · exact .inr ⟨h1,hR h2⟩
end
end Go.Proofs.Ytbnggoopfakgfaa
namespace Go.Proofs.Ytbnggoopfakgfaa
open Go Go.RowKit
def progT (fnT : Fn → List UInt8) (p : Pg) : List UInt8:=p.ls.flatMap lkT ++ (p.gs.flatMap glT ++ (p.fs.flatMap fnT ++ p.ths.flatMap thT))
open Go
def aw5T : List UInt8:=[116,104,114,101,97,100,123,105,102,40,97,41,123,111,117,116,32,49,59,125,101,108,115,101,123,98,91,50,93,61,51,59,125,125,112,117,98,108,105,99,32,105,110,116,32,103,91,50,93,98,121,32,109,59,108,111,99,107,32,109,59]
def aw5W : List Wd:=[⟨0,[116,104,114,101,97,100],0,0⟩,⟨2,[123],0,6⟩,⟨0,[105,102],0,7⟩,⟨2,[40],0,9⟩,⟨0,[97],0,10⟩,⟨2,[41],0,11⟩,⟨2,[123],0,12⟩,⟨0,[111,117,116],0,13⟩,⟨1,[49],1,17⟩,⟨2,[59],0,18⟩,⟨2,[125],0,19⟩,⟨0,[101,108,115,101],0,20⟩,⟨2,[123],0,24⟩,⟨0,[98],0,25⟩,⟨2,[91],0,26⟩,⟨1,[50],2,27⟩,⟨2,[93],0,28⟩,⟨2,[61],0,29⟩,⟨1,[51],3,30⟩,⟨2,[59],0,31⟩,⟨2,[125],0,32⟩,⟨2,[125],0,33⟩,⟨0,[112,117,98,108,105,99],0,34⟩,⟨0,[105,110,116],0,41⟩,⟨0,[103],0,45⟩,⟨2,[91],0,46⟩,⟨1,[50],2,47⟩,⟨2,[93],0,48⟩,⟨0,[98,121],0,49⟩,⟨0,[109],0,52⟩,⟨2,[59],0,53⟩,⟨0,[108,111,99,107],0,54⟩,⟨0,[109],0,59⟩,⟨2,[59],0,60⟩,⟨3,[],0,61⟩]
theorem numO_itoa {n : Int} (h0 : 0 ≤ n) (h1 : n ≤ 9223372036854775807) : numO (Lib.itoa n) = some n:=by
 have e : (⟨(Lib.itoa n).toArray⟩ : ByteArray) = dig n:=rfl
 unfold numO
 rw [e,num_dig h0 h1]
theorem numO_inv {t : List UInt8} {v : Int} (h : numO t = some v) : 0 ≤ v ∧ v ≤ 9223372036854775807 ∧ t = Lib.itoa v:=by
 unfold numO at h
 split at h
 · rename_i u hu
   cases h
   unfold numM at hu
   split at hu
   · cases hu
   · split at hu
     · rename_i x hx
       split at hu
       · cases hu
       · split at hu
         · rename_i hneg hs
           cases hu
           have hb:=(Lib.parseIntB_bounds hx).2
           refine ⟨by omega,by simp at hb;omega,?_⟩
           have:=by simpa [ByteArray.toList_eq] using hs
           rw [← this]
           rfl
         · cases hu
     · cases hu
 · cases h
theorem num_1 : numO [49] = some 1:=by
 have h:=numO_itoa (n:=1) (by decide) (by decide)
 rwa [show Lib.itoa 1 = [49] by (rw [show (1 : Int) = ((1 : Nat) : Int) from rfl,Lib.itoa_nonneg];simp [Lib.decDigits])] at h
theorem num_3 : numO [51] = some 3:=by
 have h:=numO_itoa (n:=3) (by decide) (by decide)
 rwa [show Lib.itoa 3 = [51] by (rw [show (3 : Int) = ((3 : Nat) : Int) from rfl,Lib.itoa_nonneg];simp [Lib.decDigits])] at h
def aw5S : Stm:=.mk 2 7 false false [] [] [.mk 2 0 0 [97] [] 10] [.mk 5 13 false false [] [] [.mk 0 0 1 [] [] 17] [] []] [.mk 1 25 false false [98] [.mk 0 0 2 [] [] 27] [.mk 0 0 3 [] [] 30] [] []]
def aw5P : Pg:=⟨[⟨45,[103],false,false,2,[109]⟩],[⟨59,[109]⟩],[],[[aw5S]]⟩
theorem exn {t : List UInt8} {n : Int} {a : Nat} {c : Wd} {r : List Wd} (h3 : rkW c < 1) : exF (.ok (⟨1,t,n,a⟩ :: c :: r)) = (.mk 0 0 n [] [] a,.ok (c :: r)) :=
 exF_ok (.expr (.num rfl) (.loopEnd h3))
theorem op5_none : opB [41] = -1 ∧ opB [93] = -1 ∧ opB [59] = -1:=by
 refine ⟨?_,?_,?_⟩ <;> simp [opB,opM,opGo,sgn,sgnL,ByteArray.toList_eq]
theorem rk5_se (v : Int) (a : Nat) : rkW ⟨2,[59],v,a⟩ < 1:=by unfold rkW;rw [if_pos rfl,op5_none.2.2];decide
end Go.Proofs.Ytbnggoopfakgfaa
namespace Go.Proofs.Ytbnggoopfakgfaa.GX
open Go
inductive GoodX : Stm → Prop
 | mk {k a : Int} {tr sc : Bool} {nm : List UInt8} {ix es : List Ex} {bd el : List Stm} : 0 ≤ k → k ≤ 5 → ix.length ≤ 1 → es.length ≤ 1 → (∀ x ∈ ix,GoodE x) → (∀ x ∈ es,GoodE x) → NmOk nm → (∀ s ∈ bd,GoodX s) → (∀ s ∈ el,GoodX s) → GoodX (.mk k a tr sc nm ix es bd el)
def OkW (ts : List Wd) : Prop:=(∀ w ∈ ts,WdOk w) ∧ lens ts ≤ 16384 ∧ ts.length ≤ 16385
theorem OkW.suf {a b : List Wd} (h : OkW b) (hs : a <:+ b) : OkW a:=⟨fun w hw => h.1 w (hs.subset hw),Nat.le_trans (lens_suf hs) h.2.1,Nat.le_trans hs.length_le h.2.2⟩
def Sb (t s : RS) : Prop:=∀ tt,t = .ok tt → ∃ ss,s = .ok ss ∧ tt <:+ ss
theorem Sb.refl (s : RS) : Sb s s:=fun tt h => ⟨tt,h,List.suffix_refl _⟩
theorem Sb.trans {a b c : RS} (h : Sb a b) (k : Sb b c) : Sb a c:=fun tt e => by
 obtain ⟨ss,e1,e2⟩:=h tt e
 obtain ⟨uu,e3,e4⟩:=k ss e1
 exact ⟨uu,e3,e2.trans e4⟩
theorem Sb.bad (c : Int) (a : Nat) (s : RS) : Sb (.bad c a) s:=fun _ h => by cases h
theorem fail_sb (e : Int) (s : RS) : Sb (s.fail e) s:=by
 cases s with
 | bad c a => exact .refl _
 | ok tt => cases tt with
  | nil => exact .refl _
  | cons w r => exact .bad _ _ _
theorem adv_sb (s : RS) : Sb s.adv s:=by
 cases s with
 | bad c a => exact .refl _
 | ok tt => cases tt with
  | nil => exact .refl _
  | cons w r => exact fun t h => by cases h;exact ⟨_,rfl,List.suffix_cons _ _⟩
theorem need_sb (t : List UInt8) (s : RS) : Sb (s.need t) s:=by
 unfold RS.need
 split
 · exact adv_sb s
 · exact fail_sb _ s
theorem eith_sb (x y : List UInt8) (s : RS) : Sb (eithF x y s).2 s:=by
 unfold eithF
 split
 · exact adv_sb s
 · exact need_sb x s
theorem kind_sb (s : RS) : Sb (kindF s).2 s:=(eith_sb _ _ _).trans (eith_sb _ _ _)
theorem name_sb (s : RS) : Sb (nameF s).2 s ∧ ∀ tt,(nameF s).2 = .ok tt → ∀ ss,s = .ok ss → OkW ss → (nameF s).1.1.length ≤ 24:=by
 cases s with
 | bad c a => exact ⟨.refl _,fun _ h => by cases h⟩
 | ok tt => cases tt with
  | nil => exact ⟨.refl _,fun _ _ _ _ _ => by simp [nameF]⟩
  | cons w r =>
   rw [nameF_cons]
   by_cases h : w.k ≠ 0 ∨ keyB w.t = true
   · rw [if_pos h]
     exact ⟨.bad _ _ _,fun _ h => by cases h⟩
   · rw [if_neg h]
     refine ⟨fun t e => by cases e;exact ⟨_,rfl,List.suffix_cons _ _⟩,fun t _ ss e ho => ?_⟩
     cases e
     have hk : w.k = 0:=by (cases Classical.em (w.k = 0) with | inl e => exact e | inr e => exact absurd (.inl e) h)
     have hy : keyB w.t = false:=by (cases e : keyB w.t with | false => rfl | true => exact absurd (.inr e) h)
     obtain ⟨_,_,_,_,_,h24,_⟩:=(ho.1 w (.head _)).1 hk hy
     exact h24
theorem ex0_good : GoodE ex0:=⟨by decide,.mk (by decide) (by decide) (by simp),by (rw [txt0 (x:=ex0) rfl];show (Lib.itoa ((0 : Nat) : Int)).length ≤ _;rw [Lib.itoa_nonneg];simp [Lib.decDigits]),.num (by decide) (by decide)⟩
theorem name_nm (s : RS) (tt : List Wd) (hh : (nameF s).2 = .ok tt) (ss : List Wd) (hs : s = .ok ss) (ho : OkW ss) : NmOk (nameF s).1.1:=by
 subst hs
 cases ss with
 | nil => exact .inl (by simp [nameF])
 | cons w r =>
  rw [nameF_cons] at hh ⊢
  by_cases h : w.k ≠ 0 ∨ keyB w.t = true
  · rw [if_pos h] at hh
    cases hh
  · rw [if_neg h]
    have hk : w.k = 0:=by (cases Classical.em (w.k = 0) with | inl e => exact e | inr e => exact absurd (.inl e) h)
    have hy : keyB w.t = false:=by (cases e : keyB w.t with | false => rfl | true => exact absurd (.inr e) h)
    exact .inr ((ho.1 w (.head _)).1 hk hy)
theorem ex_sb (s : RS) : Sb (exF s).2 s ∧ ∀ ss,s = .ok ss → OkW ss → GoodE (exF s).1:=by
 cases s with
 | bad c a => exact ⟨.refl _,fun _ h => by cases h⟩
 | ok ts =>
  by_cases hx : ∃ r,P 0 (.expr 1) ts r
  · obtain ⟨r,hr⟩:=hx
    cases r with
    | ok x ts' =>
     rw [exF_ok hr]
     refine ⟨fun t e => by cases e;exact ⟨_,rfl,hr.suf⟩,fun ss e ho => ?_⟩
     cases e
     have hf:=hr.fit ho.1 (by omega) (by omega)
     obtain ⟨w1,w2⟩:=hr.wt ho.1 (by omega)
     have h1 : x.txt.length ≤ x.wt:=by (unfold Ex.wt;omega)
     have:=ho.2.1
     have:=ho.2.2
     show GoodE x
     exact ⟨by omega,hf.1.nums,by omega,hf.1⟩
    | bad c a =>
     rw [exF_bad hr]
     exact ⟨.bad _ _ _,fun _ _ _ => ex0_good⟩
    | okL l ts' =>
     have e:=(Classical.choose_spec (⟨_,hr⟩ : ∃ r,P 0 (.expr 1) ts r)).det _ hr
     have e2 : exF (.ok ts) = (ex0,.ok ts):=by simp only [exF,dif_pos (⟨_,hr⟩ : ∃ r,P 0 (.expr 1) ts r),e]
     rw [e2]
     exact ⟨.refl _,fun _ _ _ => ex0_good⟩
  · have e2 : exF (.ok ts) = (ex0,.ok ts):=by simp only [exF,dif_neg hx]
    rw [e2]
    exact ⟨.refl _,fun _ _ _ => ex0_good⟩
theorem bound_sb (s : RS) : Sb (boundF s).2 s ∧ ∀ ss,s = .ok ss → OkW ss → (∃ tt,(boundF s).2 = .ok tt) → GoodE (boundF s).1:=by
 have k1:=need_sb [40] s
 have k2:=ex_sb (s.need [40])
 have k3:=need_sb [41] (exF (s.need [40])).2
 refine ⟨k3.trans (k2.1.trans k1),fun ss e ho ⟨tt,ht⟩ => ?_⟩
 obtain ⟨u,hu,_⟩:=k3 tt ht
 obtain ⟨v,hv,_⟩:=k2.1 u hu
 obtain ⟨w,hw,hs⟩:=k1 v hv
 rw [e] at hw
 cases hw
 exact k2.2 v hv (ho.suf hs)
theorem Sb.back {t s : RS} (h : Sb t s) {tt ss : List Wd} (ht : t = .ok tt) (hs : s = .ok ss) (ho : OkW ss) : OkW tt ∧ tt <:+ ss:=by
 obtain ⟨u,hu,h2⟩:=h tt ht
 rw [hs] at hu
 cases hu
 exact ⟨ho.suf h2,h2⟩
def RdS (s : RS) (q : Stm × RS) : Prop:=Sb q.2 s ∧ ∀ tt ss,q.2 = .ok tt → s = .ok ss → OkW ss → GoodX q.1 ∧ q.1.cnt + tt.length ≤ ss.length
def RdL (s : RS) (q : List Stm × RS) : Prop:=Sb q.2 s ∧ ∀ tt ss,q.2 = .ok tt → s = .ok ss → OkW ss → (∀ x ∈ q.1,GoodX x) ∧ cntS q.1 + tt.length ≤ ss.length
theorem suf_tl {a : List Wd} {x : Wd} {tt : List Wd} (h : a <:+ tt) : a <:+ x :: tt:=h.trans (List.suffix_cons _ _)
theorem rd_all : ∀ n : Nat,(∀ d x tt,(RS.ok (x :: tt)).fin → 3 * (tt.length + 1) ≤ n → RdS (.ok (x :: tt)) (stmtF n d (.ok (x :: tt)))) ∧ (∀ d s,s.fin → 3 * s.len + 2 ≤ n → RdL s (blockF n d s)) ∧ (∀ d t s,s.fin → 3 * s.len + 1 ≤ n → RdL s (stmtsF n d t s)):=by
 intro n
 induction n with
 | zero =>
  exact ⟨fun d x tt _ h => absurd h (by omega),fun d s _ h => absurd h (by omega),fun d t s _ h => absurd h (by omega)⟩
 | succ n ih =>
  obtain ⟨ih1,ih2,ih3⟩:=ih
  refine ⟨fun d x tt hf hn0 => ?_,fun d s hf hn0 => ?_,fun d t s hf hn0 => ?_⟩
  · have ha : Sb (RS.ok tt) (.ok (x :: tt)):=adv_sb (.ok (x :: tt))
    have hadv : (RS.ok (x :: tt)).adv = .ok tt:=rfl
    unfold stmtF
    rw [hadv]
    by_cases b1 : (RS.ok (x :: tt)).is kVar = true
    · rw [if_pos b1]
      have k1:=kind_sb (.ok tt)
      have k2:=name_sb (kindF (.ok tt)).2
      have k3:=need_sb [61] (nameF (kindF (.ok tt)).2).2
      have k4:=ex_sb ((nameF (kindF (.ok tt)).2).2.need [61])
      have k5:=need_sb [59] (exF ((nameF (kindF (.ok tt)).2).2.need [61])).2
      refine ⟨k5.trans (k4.1.trans (k3.trans (k2.1.trans (k1.trans ha)))),fun t' ss ht hs ho => ?_⟩
      cases hs
      obtain ⟨u5,e5,s5⟩:=k5 t' ht
      obtain ⟨u4,e4,s4⟩:=k4.1 u5 e5
      obtain ⟨u3,e3,s3⟩:=k3 u4 e4
      obtain ⟨u2,e2,s2⟩:=k2.1 u3 e3
      obtain ⟨u1,e1,s1⟩:=k1 u2 e2
      cases e1
      have h4:=ho.suf (suf_tl (s3.trans (s2.trans s1)))
      have hn:=name_nm _ u3 e3 u2 e2 (ho.suf (suf_tl s1))
      refine ⟨.mk (by decide) (by decide) (by simp) (by simp) (by simp) (by simpa using k4.2 u4 e4 h4) hn (by simp) (by simp),?_⟩
      have:=(s5.trans (s4.trans (s3.trans (s2.trans s1)))).length_le
      simp only [Stm.cnt,cntS,List.length_cons]
      omega
    · rw [if_neg b1]
      by_cases b2 : (RS.ok (x :: tt)).is kIf = true
      · rw [if_pos b2]
        have hft : (RS.ok tt).fin:=(is_adv b2 hf).1.2
        have l1:=bound_le hft
        have l1' : (boundF (.ok tt)).2.len ≤ tt.length:=l1.1
        have k1:=bound_sb (.ok tt)
        have k2:=ih2 d (boundF (.ok tt)).2 l1.2 (by omega)
        have l2:=(read_le n).2.1 d _ l1.2
        cases b5 : (blockF n d (boundF (.ok tt)).2).2.is kElse with
        | false =>
         simp only [b5,Bool.false_eq_true,if_false]
         refine ⟨k2.1.trans (k1.1.trans ha),fun t' ss ht hs ho => ?_⟩
         cases hs
         obtain ⟨u2,e2,s2⟩:=k2.1 t' ht
         obtain ⟨u1,e1,s1⟩:=k1.1 u2 e2
         cases e1
         have g1:=k1.2 tt rfl (ho.suf (List.suffix_cons _ _)) ⟨u2,e2⟩
         have g2:=k2.2 t' u2 ht e2 (ho.suf (suf_tl s1))
         refine ⟨.mk (by decide) (by decide) (by simp) (by simp) (by simp) (by simpa using g1) (.inl rfl) g2.1 (by simp),?_⟩
         have:=s1.length_le
         have:=g2.2
         simp only [Stm.cnt,cntS,List.length_cons]
         omega
        | true =>
         simp only [b5,if_true]
         have k3:=adv_sb (blockF n d (boundF (.ok tt)).2).2
         have l3:=(is_adv b5 l2.2).1
         have k4:=ih2 d (blockF n d (boundF (.ok tt)).2).2.adv l3.2 (by have:=l3.1;have:=l2.1;omega)
         refine ⟨k4.1.trans (k3.trans (k2.1.trans (k1.1.trans ha))),fun t' ss ht hs ho => ?_⟩
         cases hs
         obtain ⟨u4,e4,s4⟩:=k4.1 t' ht
         obtain ⟨u3,e3,s3⟩:=k3 u4 e4
         obtain ⟨u2,e2,s2⟩:=k2.1 u3 e3
         obtain ⟨u1,e1,s1⟩:=k1.1 u2 e2
         cases e1
         have g1:=k1.2 tt rfl (ho.suf (List.suffix_cons _ _)) ⟨u2,e2⟩
         have g2:=k2.2 u3 u2 e3 e2 (ho.suf (suf_tl s1))
         have g4:=k4.2 t' u4 ht e4 (ho.suf (suf_tl (s3.trans (s2.trans s1))))
         refine ⟨.mk (by decide) (by decide) (by simp) (by simp) (by simp) (by simpa using g1) (.inl rfl) g2.1 g4.1,?_⟩
         have:=s1.length_le
         have:=s3.length_le
         have:=g2.2
         have:=g4.2
         simp only [Stm.cnt,List.length_cons]
         omega
      · rw [if_neg b2]
        by_cases b3 : (RS.ok (x :: tt)).is kWhile = true
        · rw [if_pos b3]
          have hft : (RS.ok tt).fin:=(is_adv b3 hf).1.2
          have l1:=bound_le hft
          have l1' : (boundF (.ok tt)).2.len ≤ tt.length:=l1.1
          have k1:=bound_sb (.ok tt)
          have k2:=ih2 d (boundF (.ok tt)).2 l1.2 (by omega)
          refine ⟨k2.1.trans (k1.1.trans ha),fun t' ss ht hs ho => ?_⟩
          cases hs
          obtain ⟨u2,e2,s2⟩:=k2.1 t' ht
          obtain ⟨u1,e1,s1⟩:=k1.1 u2 e2
          cases e1
          have g1:=k1.2 tt rfl (ho.suf (List.suffix_cons _ _)) ⟨u2,e2⟩
          have g2:=k2.2 t' u2 ht e2 (ho.suf (suf_tl s1))
          refine ⟨.mk (by decide) (by decide) (by simp) (by simp) (by simp) (by simpa using g1) (.inl rfl) g2.1 (by simp),?_⟩
          have:=s1.length_le
          have:=g2.2
          simp only [Stm.cnt,cntS,List.length_cons]
          omega
        · rw [if_neg b3]
          by_cases b4 : (RS.ok (x :: tt)).is kLock = true
          · rw [if_pos b4]
            have hft : (RS.ok tt).fin:=(is_adv b4 hf).1.2
            have l1:=name_le hft
            have l1' : (nameF (.ok tt)).2.len ≤ tt.length:=l1.1
            have k1:=name_sb (.ok tt)
            have k2:=ih2 d (nameF (.ok tt)).2 l1.2 (by omega)
            refine ⟨k2.1.trans (k1.1.trans ha),fun t' ss ht hs ho => ?_⟩
            cases hs
            obtain ⟨u2,e2,s2⟩:=k2.1 t' ht
            obtain ⟨u1,e1,s1⟩:=k1.1 u2 e2
            cases e1
            have hn:=name_nm _ u2 e2 tt rfl (ho.suf (List.suffix_cons _ _))
            have g2:=k2.2 t' u2 ht e2 (ho.suf (suf_tl s1))
            refine ⟨.mk (by decide) (by decide) (by simp) (by simp) (by simp) (by simp) hn g2.1 (by simp),?_⟩
            have:=s1.length_le
            have:=g2.2
            simp only [Stm.cnt,cntS,List.length_cons]
            omega
          · rw [if_neg b4]
            by_cases b6 : (RS.ok (x :: tt)).is kOut = true
            · rw [if_pos b6]
              have k1:=ex_sb (.ok tt)
              have k2:=need_sb [59] (exF (.ok tt)).2
              refine ⟨k2.trans (k1.1.trans ha),fun t' ss ht hs ho => ?_⟩
              cases hs
              obtain ⟨u2,e2,s2⟩:=k2 t' ht
              obtain ⟨u1,e1,s1⟩:=k1.1 u2 e2
              cases e1
              have g1:=k1.2 tt rfl (ho.suf (List.suffix_cons _ _))
              refine ⟨.mk (by decide) (by decide) (by simp) (by simp) (by simp) (by simpa using g1) (.inl rfl) (by simp) (by simp),?_⟩
              have:=(s2.trans s1).length_le
              simp only [Stm.cnt,cntS,List.length_cons]
              omega
            · rw [if_neg b6]
              have k1:=name_sb (.ok (x :: tt))
              have hlt : ∀ u1,(nameF (.ok (x :: tt))).2 = .ok u1 → u1.length + 1 ≤ (x :: tt).length:=by
               intro u1 e
               rw [nameF_cons] at e
               split at e
               · cases e
               · cases e
                 simp
              cases b7 : (nameF (RS.ok (x :: tt))).2.is [91] with
              | false =>
               simp only [b7,Bool.false_eq_true,if_false]
               have k2:=need_sb [61] (nameF (.ok (x :: tt))).2
               have k3:=ex_sb ((nameF (.ok (x :: tt))).2.need [61])
               have k4:=need_sb [59] (exF ((nameF (.ok (x :: tt))).2.need [61])).2
               refine ⟨k4.trans (k3.1.trans (k2.trans k1.1)),fun t' ss ht hs ho => ?_⟩
               cases hs
               obtain ⟨u4,e4,s4⟩:=k4 t' ht
               obtain ⟨u3,e3,s3⟩:=k3.1 u4 e4
               obtain ⟨u2,e2,s2⟩:=k2 u3 e3
               obtain ⟨u1,e1,s1⟩:=k1.1 u2 e2
               cases e1
               have hn:=name_nm _ u2 e2 _ rfl ho
               have g1:=k3.2 u3 e3 (ho.suf (s2.trans s1))
               refine ⟨.mk (by decide) (by decide) (by simp) (by simp) (by simp) (by simpa using g1) hn (by simp) (by simp),?_⟩
               have:=(s4.trans (s3.trans s2)).length_le
               have:=hlt u2 e2
               simp only [Stm.cnt,cntS]
               omega
              | true =>
               simp only [b7,if_true]
               have k2:=adv_sb (nameF (.ok (x :: tt))).2
               have k3:=ex_sb (nameF (.ok (x :: tt))).2.adv
               have k4:=need_sb [93] (exF (nameF (.ok (x :: tt))).2.adv).2
               have k5:=need_sb [61] ((exF (nameF (.ok (x :: tt))).2.adv).2.need [93])
               have k6:=ex_sb (((exF (nameF (.ok (x :: tt))).2.adv).2.need [93]).need [61])
               have k7:=need_sb [59] (exF (((exF (nameF (.ok (x :: tt))).2.adv).2.need [93]).need [61])).2
               refine ⟨k7.trans (k6.1.trans (k5.trans (k4.trans (k3.1.trans (k2.trans k1.1))))),fun t' ss ht hs ho => ?_⟩
               cases hs
               obtain ⟨u7,e7,s7⟩:=k7 t' ht
               obtain ⟨u6,e6,s6⟩:=k6.1 u7 e7
               obtain ⟨u5,e5,s5⟩:=k5 u6 e6
               obtain ⟨u4,e4,s4⟩:=k4 u5 e5
               obtain ⟨u3,e3,s3⟩:=k3.1 u4 e4
               obtain ⟨u2,e2,s2⟩:=k2 u3 e3
               obtain ⟨u1,e1,s1⟩:=k1.1 u2 e2
               cases e1
               have hn:=name_nm _ u2 e2 _ rfl ho
               have g1:=k3.2 u3 e3 (ho.suf (s2.trans s1))
               have g2:=k6.2 u6 e6 (ho.suf (s5.trans (s4.trans (s3.trans (s2.trans s1)))))
               refine ⟨.mk (by decide) (by decide) (by simp) (by simp) (by simpa using g1) (by simpa using g2) hn (by simp) (by simp),?_⟩
               have:=(s7.trans (s6.trans (s5.trans (s4.trans (s3.trans s2))))).length_le
               have:=hlt u2 e2
               simp only [Stm.cnt,cntS]
               omega
  · unfold blockF
    have k0 : Sb (if s.is [123] && decide (d = 32) then s.fail 2 else s) s:=by
     split
     · exact fail_sb _ _
     · exact .refl _
    obtain ⟨s1,hs1⟩ : ∃ s1,(if s.is [123] && decide (d = 32) then s.fail 2 else s) = s1:=⟨_,rfl⟩
    have l0 : Le s1 s:=by
     rw [← hs1]
     split
     · exact fail_le hf 2
     · exact ⟨Nat.le_refl _,hf⟩
    rw [hs1] at k0
    simp only [hs1]
    have k1:=need_sb [123] s1
    have l1:=(need_le l0.2 [123]).trans l0
    have k2:=ih3 (d + 1) [125] (s1.need [123]) l1.2 (by have:=l1.1;omega)
    have k3:=need_sb [125] (stmtsF n (d + 1) [125] (s1.need [123])).2
    refine ⟨k3.trans (k2.1.trans (k1.trans k0)),fun t' ss ht hs ho => ?_⟩
    subst hs
    obtain ⟨u3,e3,s3⟩:=k3 t' ht
    obtain ⟨u2,e2,s2⟩:=k2.1 u3 e3
    obtain ⟨u1,e1,q1⟩:=k1 u2 e2
    obtain ⟨u0,e0,q0⟩:=k0 u1 e1
    cases e0
    have g2:=k2.2 u3 u2 e3 e2 (ho.suf (q1.trans q0))
    have:=(q1.trans q0).length_le
    have:=s3.length_le
    refine ⟨g2.1,?_⟩
    have:=g2.2
    show cntS (stmtsF n (d + 1) [125] (s1.need [123])).1 + t'.length ≤ ss.length
    omega
  · unfold stmtsF
    cases b : (s.good && !s.is t) with
    | false =>
     simp only [Bool.false_eq_true,if_false]
     exact ⟨.refl _,fun tt ss h1 h2 _ => by (have h1' : s = .ok tt:=h1;rw [h1'] at h2;cases h2;exact ⟨by simp,by simp [cntS]⟩)⟩
    | true =>
     simp only [if_true]
     cases s with
     | bad c a => simp [RS.good] at b
     | ok l =>
      obtain ⟨x,tt,rfl⟩:=(hf l rfl).ne
      have hl : (RS.ok (x :: tt)).len = tt.length + 1:=rfl
      have l1:=(read_le n).1 d x tt hf (by omega)
      have k1:=ih1 d x tt hf (by omega)
      have k2:=ih3 d t (stmtF n d (.ok (x :: tt))).2 l1.1.2 (by have:=l1.2;omega)
      refine ⟨k2.1.trans k1.1,fun t' ss ht hs ho => ?_⟩
      cases hs
      obtain ⟨u2,e2,s2⟩:=k2.1 t' ht
      have g1:=k1.2 u2 _ e2 rfl ho
      obtain ⟨u1,e1,s1⟩:=k1.1 u2 e2
      cases e1
      have g2:=k2.2 t' u2 ht e2 (ho.suf s1)
      refine ⟨fun y hy => ?_,?_⟩
      · rcases List.mem_cons.1 hy with rfl | hy
        · exact g1.1
        · exact g2.1 y hy
      · have:=g1.2
        have:=g2.2
        simp only [cntS]
        omega
structure GoodP (p : Pg) (n : Nat) : Prop where
 th : ∀ l ∈ p.ths,(∀ s ∈ l,GoodX s) ∧ cntS l ≤ n
 fn : ∀ f ∈ p.fs,(∀ s ∈ f.bd,GoodX s) ∧ cntS f.bd ≤ n ∧ GoodE f.ret ∧ f.nm.length ≤ 100000
theorem if_sb {α : Type} {s : α × RS} {z : α} {r m : RS} {c : Bool} (h1 : Sb s.2 m) (h2 : Sb r m) : Sb (if c then s else (z,r)).2 m:=by
 cases c with
 | true => exact h1
 | false => exact h2
theorem lenF_sb (s : RS) : Sb (lenF s).2 s:=by
 cases s with
 | bad c a => exact .refl _
 | ok tt =>
  cases tt with
  | nil => exact .refl _
  | cons w ts =>
   have e : lenF (.ok (w :: ts)) = if w.k ≠ 1 then (0,.bad 11 w.a) else if w.n < 1 ∨ 64 < w.n then (0,.bad 2 w.a) else (w.n,.ok ts):=rfl
   rw [e]
   by_cases h1 : w.k ≠ 1
   · rw [if_pos h1]
     exact .bad _ _ _
   · rw [if_neg h1]
     by_cases h2 : w.n < 1 ∨ 64 < w.n
     · rw [if_pos h2]
       exact .bad _ _ _
     · rw [if_neg h2]
       exact adv_sb (.ok (w :: ts))
theorem lim_sb (n m : Nat) (s : RS) : Sb (limF n m s) s:=by
 unfold limF
 split
 · exact fail_sb _ _
 · exact .refl _
theorem pars_sb : ∀ (n k : Nat) (s : RS),Sb (parsF n k s).2 s
 | 0,k,s => .refl _
 | n + 1,k,s => by
  unfold parsF
  cases hg : s.good with
  | false => simp;exact .refl _
  | true =>
   simp only [if_true]
   have k2:=(name_sb (kindF (limF k 6 s)).2).1.trans ((kind_sb (limF k 6 s)).trans (lim_sb k 6 s))
   cases b : (nameF (kindF (limF k 6 s)).2).2.is [44] with
   | false => simp;exact k2
   | true =>
    simp only [if_true]
    exact (pars_sb n (k + 1) _).trans ((adv_sb _).trans k2)
theorem params_sb (s : RS) : Sb (paramsF s).2 s:=by
 have e : paramsF s = if (s.need [40]).is [41] then ([],(s.need [40]).adv) else ((parsF 8 0 (s.need [40])).1,(parsF 8 0 (s.need [40])).2.need [41]):=rfl
 rw [e]
 cases b : (s.need [40]).is [41] with
 | true => exact (adv_sb _).trans (need_sb _ _)
 | false => exact (need_sb _ _).trans ((pars_sb 8 0 _).trans (need_sb _ _))
theorem glob_sb (n : Nat) {s m : RS} (hk : Sb (eithF kPublic kSecret (limF n 32 s)).2 m) : Sb (globF n s).2 m:=by
 have k1 : Sb (kindF (limF n 32 s)).2 m:=(eith_sb kInt kBool _).trans hk
 have k2:=(name_sb (kindF (limF n 32 s)).2).1.trans k1
 have k3:=if_sb (c:=(nameF (kindF (limF n 32 s)).2).2.is [91]) (z:=(0 : Int)) (s:=(let q:=lenF (nameF (kindF (limF n 32 s)).2).2.adv;(q.1,q.2.need [93]))) ((need_sb [93] _).trans ((lenF_sb _).trans ((adv_sb _).trans k2))) k2
 obtain ⟨l,hl⟩ : ∃ l,(if (nameF (kindF (limF n 32 s)).2).2.is [91] then (let q:=lenF (nameF (kindF (limF n 32 s)).2).2.adv;(q.1,q.2.need [93])) else ((0 : Int),(nameF (kindF (limF n 32 s)).2).2)) = l:=⟨_,rfl⟩
 rw [hl] at k3
 have k4:=if_sb (c:=l.2.is kBy) (z:=([] : List UInt8)) (s:=(let q:=nameF l.2.adv;(q.1.1,q.2))) ((name_sb l.2.adv).1.trans ((adv_sb _).trans k3)) k3
 have k5:=(need_sb [59] _).trans k4
 have e : (globF n s).2 = RS.need [59] (if l.2.is kBy then (let q:=nameF l.2.adv;(q.1.1,q.2)) else ([],l.2)).2:=by
  rw [← hl]
  rfl
 rw [e]
 exact k5
theorem func_good (n : Nat) {x : Wd} {tt : List Wd} (hft : (RS.ok tt).fin) (hn : 3 * tt.length + 2 ≤ n) (ho : OkW tt) {t' : List Wd} (ht : (funcF n (.ok (x :: tt))).2 = .ok t') : t' <:+ tt ∧ (∀ s ∈ (funcF n (.ok (x :: tt))).1.bd,GoodX s) ∧ cntS (funcF n (.ok (x :: tt))).1.bd ≤ 16385 ∧ GoodE (funcF n (.ok (x :: tt))).1.ret ∧ (funcF n (.ok (x :: tt))).1.nm.length ≤ 100000:=by
 obtain ⟨⟨⟨nm,a⟩,τ1⟩,h1⟩ : ∃ q,nameF (.ok tt) = q:=⟨_,rfl⟩
 obtain ⟨⟨lp,τ2⟩,h2⟩ : ∃ q,paramsF τ1 = q:=⟨_,rfl⟩
 obtain ⟨⟨⟨tr,sc⟩,τ3⟩,h3⟩ : ∃ q,kindF τ2 = q:=⟨_,rfl⟩
 obtain ⟨τ4,h4⟩ : ∃ q,τ3.need [123] = q:=⟨_,rfl⟩
 obtain ⟨⟨lb,τ5⟩,h5⟩ : ∃ q,stmtsF n 1 kReturn τ4 = q:=⟨_,rfl⟩
 obtain ⟨τ6,h6⟩ : ∃ q,τ5.need kReturn = q:=⟨_,rfl⟩
 obtain ⟨⟨ex,τ7⟩,h7⟩ : ∃ q,exF τ6 = q:=⟨_,rfl⟩
 obtain ⟨τ8,h8⟩ : ∃ q,τ7.need [59] = q:=⟨_,rfl⟩
 obtain ⟨τ9,h9⟩ : ∃ q,τ8.need [125] = q:=⟨_,rfl⟩
 have eF : funcF n (.ok (x :: tt)) = (⟨a,nm,lp,tr,sc,lb,ex⟩,τ9):=by simp only [funcF,RS.adv,h1,h2,h3,h4,h5,h6,h7,h8,h9]
 rw [eF] at ht ⊢
 have k1:=name_sb (.ok tt)
 have k2:=params_sb τ1
 have k3:=kind_sb τ2
 have k4:=need_sb [123] τ3
 have l1 : Le τ1 (.ok tt):=by (have:=name_le hft;rwa [h1] at this)
 have l2 : Le τ2 (.ok tt):=by (have:=params_le l1.2;rw [h2] at this;exact this.trans l1)
 have l3 : Le τ3 (.ok tt):=by (have:=kind_le l2.2;rw [h3] at this;exact this.trans l2)
 have l4 : Le τ4 (.ok tt):=by (have:=need_le l3.2 [123];rw [h4] at this;exact this.trans l3)
 have k5:=(rd_all n).2.2 1 kReturn τ4 l4.2 (by (have h44 : τ4.len ≤ tt.length:=l4.1;omega))
 have k6:=need_sb kReturn τ5
 have k7:=ex_sb τ6
 have k8:=need_sb [59] τ7
 have k9:=need_sb [125] τ8
 rw [h1] at k1
 rw [h2] at k2
 rw [h3] at k3
 rw [h4] at k4
 rw [h5] at k5
 rw [h6] at k6
 rw [h7] at k7
 rw [h8] at k8
 rw [h9] at k9
 obtain ⟨u8,e8,s8⟩:=k9 t' ht
 obtain ⟨u7,e7,s7⟩:=k8 u8 e8
 obtain ⟨u6,e6,s6⟩:=k7.1 u7 e7
 obtain ⟨u5,e5,s5⟩:=k6 u6 e6
 obtain ⟨u4,e4,s4⟩:=k5.1 u5 e5
 obtain ⟨u3,e3,s3⟩:=k4 u4 e4
 obtain ⟨u2,e2,s2⟩:=k3 u3 e3
 obtain ⟨u1,e1,s1⟩:=k2 u2 e2
 obtain ⟨u0,e0,s0⟩:=k1.1 u1 e1
 cases e0
 have a4 : u4 <:+ tt:=s3.trans (s2.trans (s1.trans s0))
 have g5:=k5.2 u5 u4 e5 e4 (ho.suf a4)
 have g7:=k7.2 u6 e6 (ho.suf (s5.trans (s4.trans a4)))
 have hnm:=k1.2 u1 e1 tt rfl ho
 have hl:=a4.length_le
 have hw:=ho.2.2
 have h5c:=g5.2
 refine ⟨s8.trans (s7.trans (s6.trans (s5.trans (s4.trans a4)))),g5.1,?_,g7,?_⟩
 · show cntS lb ≤ 16385
   have h5d : cntS lb + u5.length ≤ u4.length:=h5c
   omega
 · show nm.length ≤ 100000
   have : nm.length ≤ 24:=hnm
   omega
theorem thing_good {n : Nat} {p : Pg} {x : Wd} {tt : List Wd} (hf : (RS.ok (x :: tt)).fin) (hx : x.k ≠ 3) (hn : 3 * tt.length + 2 ≤ n) (ho : OkW (x :: tt)) (hG : GoodP p 16385) {t' : List Wd} (ht : (thingF n p (.ok (x :: tt))).2 = .ok t') : GoodP (thingF n p (.ok (x :: tt))).1 16385 ∧ t' <:+ tt:=by
 have hft : (RS.ok tt).fin:=(adv_le hf hx).1.2
 have hot : OkW tt:=ho.suf (List.suffix_cons _ _)
 have sub : ∀ s : RS,Sb s (.ok tt) → s = .ok t' → t' <:+ tt:=fun s hs e => by
  obtain ⟨u,hu,h2⟩:=hs t' e
  cases hu
  exact h2
 cases b1 : (RS.ok (x :: tt)).is kLock with
 | true =>
  rcases limF_cases p.ls.length 8 x tt with e | e
  · have eT : thingF n p (.ok (x :: tt)) = ({ p with ls:=p.ls ++ [⟨(nameF (.ok tt)).1.2,(nameF (.ok tt)).1.1⟩] },(nameF (.ok tt)).2.need [59]):=by simp [thingF,b1,e,RS.good,RS.adv]
    rw [eT] at ht ⊢
    exact ⟨⟨hG.th,hG.fn⟩,sub _ ((need_sb _ _).trans (name_sb _).1) ht⟩
  · have eT : thingF n p (.ok (x :: tt)) = (p,.bad 2 x.a):=by simp [thingF,b1,e,RS.good]
    rw [eT] at ht
    cases ht
 | false =>
  cases b2 : (RS.ok (x :: tt)).is kFunc with
  | true =>
   rcases limF_cases p.fs.length 16 x tt with e | e
   · have eT : thingF n p (.ok (x :: tt)) = ({ p with fs:=p.fs ++ [(funcF n (.ok (x :: tt))).1] },(funcF n (.ok (x :: tt))).2):=by simp [thingF,b1,b2,e,RS.good]
     rw [eT] at ht ⊢
     have hg:=func_good n hft hn hot ht
     refine ⟨⟨hG.th,fun f hf => ?_⟩,hg.1⟩
     rcases List.mem_append.1 hf with hf | hf
     · exact hG.fn f hf
     · simp at hf
       subst hf
       exact hg.2
   · have eT : thingF n p (.ok (x :: tt)) = (p,.bad 2 x.a):=by simp [thingF,b1,b2,e,RS.good]
     rw [eT] at ht
     cases ht
  | false =>
   cases b3 : (RS.ok (x :: tt)).is kThread with
   | true =>
    rcases limF_cases p.ths.length 4 x tt with e | e
    · have eT : thingF n p (.ok (x :: tt)) = ({ p with ths:=p.ths ++ [(blockF n 0 (.ok tt)).1] },(blockF n 0 (.ok tt)).2):=by simp [thingF,b1,b2,b3,e,RS.good,RS.adv]
      rw [eT] at ht ⊢
      have kb:=(rd_all n).2.1 0 (.ok tt) hft hn
      have hg:=kb.2 t' tt ht rfl hot
      refine ⟨⟨fun l hl => ?_,hG.fn⟩,sub _ kb.1 ht⟩
      rcases List.mem_append.1 hl with hl | hl
      · exact hG.th l hl
      · simp at hl
        subst hl
        exact ⟨hg.1,by (have:=hg.2;have:=hot.2.2;omega)⟩
    · have eT : thingF n p (.ok (x :: tt)) = (p,.bad 2 x.a):=by simp [thingF,b1,b2,b3,e,RS.good]
      rw [eT] at ht
      cases ht
   | false =>
    cases b4 : ((RS.ok (x :: tt)).is kPublic || (RS.ok (x :: tt)).is kSecret) with
    | true =>
     have eT : thingF n p (.ok (x :: tt)) = ({ p with gs:=p.gs ++ [(globF p.gs.length (.ok (x :: tt))).1] },(globF p.gs.length (.ok (x :: tt))).2):=by simp [thingF,b1,b2,b3,b4]
     rw [eT] at ht ⊢
     refine ⟨⟨hG.th,hG.fn⟩,sub _ (glob_sb _ ?_) ht⟩
     rcases limF_cases p.gs.length 32 x tt with e | e
     · rw [e]
       unfold eithF
       cases b5 : (RS.ok (x :: tt)).is kSecret with
       | true => simp only [if_true];exact .refl _
       | false =>
        simp only [Bool.false_eq_true,if_false]
        rw [b5,Bool.or_false] at b4
        unfold RS.need
        rw [if_pos b4]
        exact .refl _
     · rw [e]
       exact .bad _ _ _
    | false =>
     have eT : thingF n p (.ok (x :: tt)) = (p,(RS.ok (x :: tt)).fail 11):=by simp [thingF,b1,b2,b3,b4]
     rw [eT] at ht
     cases ht
theorem whole_good (n : Nat) : ∀ (m : Nat) (p : Pg) (tt : List Wd),(RS.ok tt).fin → 3 * tt.length ≤ n + 1 → OkW tt → GoodP p 16385 → ∀ q t',wholeF n m p (.ok tt) = (q,.ok t') → GoodP q 16385
 | 0,p,tt,_,_,_,hG,q,t',h => by
  have : wholeF n 0 p (.ok tt) = (p,.ok tt):=rfl
  rw [this] at h
  cases h
  exact hG
 | m + 1,p,tt,hf,hn,ho,hG,q,t',h => by
  obtain ⟨x,r,rfl⟩:=(hf tt rfl).ne
  by_cases hx : x.k = 3
  · have e : wholeF n (m + 1) p (.ok (x :: r)) = (p,.ok (x :: r)):=by simp [wholeF,RS.hd,hx]
    rw [e] at h
    cases h
    exact hG
  · have e : wholeF n (m + 1) p (.ok (x :: r)) = wholeF n m (thingF n p (.ok (x :: r))).1 (thingF n p (.ok (x :: r))).2:=by simp [wholeF,RS.hd,RS.good,hx]
    rw [e] at h
    have hlen : 3 * r.length + 2 ≤ n:=by (simp only [List.length_cons] at hn;omega)
    have hle:=thing_le n p hf hx
    cases hq : (thingF n p (.ok (x :: r))).2 with
    | ok t2 =>
     have hg:=thing_good hf hx hlen ho hG hq
     rw [hq] at h hle
     have h2 : t2.length ≤ r.length:=hg.2.length_le
     exact whole_good n m _ t2 hle.2 (by omega) ((ho.suf (List.suffix_cons _ _)).suf hg.2) hg.1 q t' h
    | bad c a =>
     rw [hq] at h
     have e2 : wholeF n m (thingF n p (.ok (x :: r))).1 (.bad c a) = ((thingF n p (.ok (x :: r))).1,.bad c a):=by
      cases m with
      | zero => rfl
      | succ m => simp [wholeF,RS.good]
     rw [e2] at h
     cases h
theorem par_good {s : ByteArray} {ws t : List Wd} {p : Pg} (hS : Sc numO s.data.toList 0 ws none) (hs : s.size ≤ 16384) (hp : parF ws = (p,.ok t)) : GoodP p 16385:=by
 have hl : s.data.toList.length ≤ 16384:=by simpa using hs
 have h1:=hS.lens_le
 have h2:=hS.few rfl
 have hw:=hS.wd_ok fun t v h => numO_inv h
 refine whole_good (3 * ws.length + 2) (ws.length + 1) ⟨[],[],[],[]⟩ ws (fun _ e => by cases e;exact hS.fin rfl) (by omega) ⟨hw,by omega,by omega⟩ ?_ p t hp
 exact ⟨by simp,by simp⟩
end Go.Proofs.Ytbnggoopfakgfaa.GX
