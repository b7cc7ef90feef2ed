/- Joined texts: Rglo ThM RthG Rth BackB RnumB Rsgn Rwords Rwo: lemmas for the law; each says its own conditions. -/
import Derived.Test.YtbmmjomcjlpnlaaQ08
import Derived.Test.YtbmmjomcjlpnlaaQ07
import Derived.Test.YtbmmjomcjlpnlaaQ01
import Derived.Lib.ItoaNum
import Derived.Lib.AtoiAllCases
import Derived.WalkLawsBesides
import Derived.WalkSpells
import Derived.Deep.QuietTactic
import Derived.BigQuiet
import Derived.Deep.RegionHeld3
set_option linter.unusedSimpArgs false
set_option linter.unusedVariables false
set_option maxRecDepth 100000
set_option maxHeartbeats 8000000
open Go.Lib (hid)
namespace Go.Proofs.Ytbmmjomcjlpnlaa
open Go Go.RowKit
def w00 : Wd:=⟨0,[],0,0⟩
theorem lim_le {s : RS} (h : s.fin) (n m : Nat) : Le (limF n m s) s:=by
 unfold limF
 split
 · exact fail_le h 2
 · exact ⟨Nat.le_refl _,h⟩
theorem GRow.form {B : Nat} {W : World} {l : List Gl} {v : Value} (h : W.ownsRow B 56 6 v l.length (l.flatMap glCells)) : ∃ p c,v = .slice p l.length c:=by
 rcases h.2 with ⟨h1,h2⟩ | ⟨g,cap,cur,h1,_⟩
 · exact ⟨none,0,by rw [h1,h2]⟩
 · exact ⟨_,_,h1⟩
theorem r4_global {r4 rb g cap B : Nat} {ws : List Wd} {d : Int} {p0 p1 p2 p3 : Value} {W : World} {σ : RS} {l : List Gl} (S : Hid (A4 W r4 rb g cap ws d p0 p1 p2 p3 σ)) (G : Hid (W.ownsRow B 56 6 p0 l.length (l.flatMap glCells))) (hB : r4 < B ∧ rb < B ∧ g < B ∧ B ≤ W.heap.size) (hl : l.length ≤ 1000000) :
 Calls Try.prog 51 #[.pointer (some ⟨r4,0,none⟩)] W fun e w' => e = .returned (.tuple #[]) ∧ ∃ q,A4 w' r4 rb g cap ws d q p1 p2 p3 (globF l.length σ).2 ∧ w'.ownsRow B 56 6 q (l.length + 1) ((l ++ [(globF l.length σ).1]).flatMap glCells) ∧ Fr3 r4 rb p0.ownBlock W w':=by
 obtain ⟨p,k,rfl⟩:=GRow.form G.out
 have hfin : σ.fin:=fun tt e => by (subst e;exact S.out.st.fin)
 obtain ⟨⟨⟨tr,sc⟩,τ1⟩,h1⟩ : ∃ q,kindF (limF l.length 32 σ) = q:=⟨_,rfl⟩
 obtain ⟨⟨⟨nm,a⟩,τ2⟩,h2⟩ : ∃ q,nameF τ1 = q:=⟨_,rfl⟩
 have hf1 : τ1.fin:=by (have:=(kind_le (lim_le hfin l.length 32).2).2;rw [h1] at this;exact this)
 have hf2 : τ2.fin:=by (have:=(name_le hf1).2;rw [h2] at this;exact this)
 cases hb : τ2.is [91] with
 | false =>
  cases hy : τ2.is kBy with
  | false =>
   have e : globF l.length σ = (⟨a,nm,tr,sc,0,[]⟩,τ2.need [59]):=by simp [globF,h1,h2,hb,hy]
   rw [e]
   exact rgl_00 (by_:=[]) (ba:=0) (y2:=w00) (r2:=[]) (τ4:=.ok []) (y:=w00) (z:=w00) (r:=[]) (τ3:=.ok []) S G hB hl (hid h1) (hid h2) (hid hb) (hid hy) (hid rfl)
  | true =>
   obtain ⟨y2,r2,hE⟩:=is_ok hy
   obtain ⟨⟨⟨by_,ba⟩,τ4⟩,h4⟩ : ∃ q,nameF (.ok r2) = q:=⟨_,rfl⟩
   have e : globF l.length σ = (⟨a,nm,tr,sc,0,by_⟩,τ4.need [59]):=by
    have hA : (τ2).adv = .ok r2:=by (rw [hE];rfl)
    simp [globF,h1,h2,hb,hy,hA,h4]
   rw [e]
   exact rgl_01 (y:=w00) (z:=w00) (r:=[]) (τ3:=.ok []) S G hB hl (hid h1) (hid h2) (hid hb) hE (hid (hE ▸ hy)) (hid h4) (hid rfl)
 | true =>
  obtain ⟨y,tt,rfl,hy3⟩:=is_cons hb
  obtain ⟨z,r,rfl⟩:=((is_adv hb hf2).1.2 tt rfl).ne
  have hadv : (RS.ok (y :: z :: r)).adv = .ok (z :: r):=rfl
  cases hk : (z.k != 1) with
  | true =>
   have hk' : z.k ≠ 1:=by simpa using hk
   obtain ⟨τ3,h3⟩ : ∃ q,(RS.bad 11 z.a).need [93] = q:=⟨_,rfl⟩
   have hl1 : lenF (.ok (z :: r)) = (0,.bad 11 z.a):=by simp [lenF,hk']
   cases hy : τ3.is kBy with
   | false =>
    have e : globF l.length σ = (⟨a,nm,tr,sc,0,[]⟩,τ3.need [59]):=by simp [globF,h1,h2,hb,hadv,hl1,h3,hy]
    rw [e]
    exact rgl_10 (by_:=[]) (ba:=0) (y2:=w00) (r2:=[]) (τ4:=.ok []) (τ2:=.ok []) S G hB hl (hid h1) (hid h2) (hid hb) hk (hid h3) (hid hy) (hid rfl)
   | true =>
    obtain ⟨y2,r2,hE⟩:=is_ok hy
    obtain ⟨⟨⟨by_,ba⟩,τ4⟩,h4⟩ : ∃ q,nameF (.ok r2) = q:=⟨_,rfl⟩
    have e : globF l.length σ = (⟨a,nm,tr,sc,0,by_⟩,τ4.need [59]):=by
     have hA : (τ3).adv = .ok r2:=by (rw [hE];rfl)
     simp [globF,h1,h2,hb,hadv,hl1,h3,hy,hA,h4]
    rw [e]
    exact rgl_11 (τ2:=.ok []) S G hB hl (hid h1) (hid h2) (hid hb) hk (hid h3) hE (hid (hE ▸ hy)) (hid h4) (hid rfl)
  | false =>
   have hk' : z.k = 1:=by simpa using hk
   cases hn : decide (z.n < 1) with
   | true =>
    have hn' : z.n < 1:=by simpa using hn
    obtain ⟨τ3,h3⟩ : ∃ q,(RS.bad 2 z.a).need [93] = q:=⟨_,rfl⟩
    have hl1 : lenF (.ok (z :: r)) = (0,.bad 2 z.a):=by simp [lenF,hk',hn']
    cases hy : τ3.is kBy with
    | false =>
     have e : globF l.length σ = (⟨a,nm,tr,sc,0,[]⟩,τ3.need [59]):=by simp [globF,h1,h2,hb,hadv,hl1,h3,hy]
     rw [e]
     exact rgl_20 (by_:=[]) (ba:=0) (y2:=w00) (r2:=[]) (τ4:=.ok []) (τ2:=.ok []) S G hB hl (hid h1) (hid h2) (hid hb) hk hn (hid h3) (hid hy) (hid rfl)
    | true =>
     obtain ⟨y2,r2,hE⟩:=is_ok hy
     obtain ⟨⟨⟨by_,ba⟩,τ4⟩,h4⟩ : ∃ q,nameF (.ok r2) = q:=⟨_,rfl⟩
     have e : globF l.length σ = (⟨a,nm,tr,sc,0,by_⟩,τ4.need [59]):=by
      have hA : (τ3).adv = .ok r2:=by (rw [hE];rfl)
      simp [globF,h1,h2,hb,hadv,hl1,h3,hy,hA,h4]
     rw [e]
     exact rgl_21 (τ2:=.ok []) S G hB hl (hid h1) (hid h2) (hid hb) hk hn (hid h3) hE (hid (hE ▸ hy)) (hid h4) (hid rfl)
   | false =>
    have hn' : ¬ z.n < 1:=by simpa using hn
    cases hm : decide (z.n > 64) with
    | true =>
     have hm' : 64 < z.n:=by simpa using hm
     obtain ⟨τ3,h3⟩ : ∃ q,(RS.bad 2 z.a).need [93] = q:=⟨_,rfl⟩
     have hl1 : lenF (.ok (z :: r)) = (0,.bad 2 z.a):=by simp [lenF,hk',hm']
     cases hy : τ3.is kBy with
     | false =>
      have e : globF l.length σ = (⟨a,nm,tr,sc,0,[]⟩,τ3.need [59]):=by simp [globF,h1,h2,hb,hadv,hl1,h3,hy]
      rw [e]
      exact rgl_30 (by_:=[]) (ba:=0) (y2:=w00) (r2:=[]) (τ4:=.ok []) (τ2:=.ok []) S G hB hl (hid h1) (hid h2) (hid hb) hk hn hm (hid h3) (hid hy) (hid rfl)
     | true =>
      obtain ⟨y2,r2,hE⟩:=is_ok hy
      obtain ⟨⟨⟨by_,ba⟩,τ4⟩,h4⟩ : ∃ q,nameF (.ok r2) = q:=⟨_,rfl⟩
      have e : globF l.length σ = (⟨a,nm,tr,sc,0,by_⟩,τ4.need [59]):=by
       have hA : (τ3).adv = .ok r2:=by (rw [hE];rfl)
       simp [globF,h1,h2,hb,hadv,hl1,h3,hy,hA,h4]
      rw [e]
      exact rgl_31 (τ2:=.ok []) S G hB hl (hid h1) (hid h2) (hid hb) hk hn hm (hid h3) hE (hid (hE ▸ hy)) (hid h4) (hid rfl)
    | false =>
     have hm' : ¬ 64 < z.n:=by simpa using hm
     obtain ⟨τ3,h3⟩ : ∃ q,(RS.ok r).need [93] = q:=⟨_,rfl⟩
     have hl1 : lenF (.ok (z :: r)) = (z.n,.ok r):=by simp [lenF,hk',hn',hm']
     cases hy : τ3.is kBy with
     | false =>
      have e : globF l.length σ = (⟨a,nm,tr,sc,z.n,[]⟩,τ3.need [59]):=by simp [globF,h1,h2,hb,hadv,hl1,h3,hy]
      rw [e]
      exact rgl_40 (by_:=[]) (ba:=0) (y2:=w00) (r2:=[]) (τ4:=.ok []) (τ2:=.ok []) S G hB hl (hid h1) (hid h2) (hid hb) hk hn hm (by omega) (hid h3) (hid hy) (hid rfl)
     | true =>
      obtain ⟨y2,r2,hE⟩:=is_ok hy
      obtain ⟨⟨⟨by_,ba⟩,τ4⟩,h4⟩ : ∃ q,nameF (.ok r2) = q:=⟨_,rfl⟩
      have e : globF l.length σ = (⟨a,nm,tr,sc,z.n,by_⟩,τ4.need [59]):=by
       have hA : (τ3).adv = .ok r2:=by (rw [hE];rfl)
       simp [globF,h1,h2,hb,hadv,hl1,h3,hy,hA,h4]
      rw [e]
      exact rgl_41 (τ2:=.ok []) S G hB hl (hid h1) (hid h2) (hid hb) hk hn hm (by omega) (hid h3) hE (hid (hE ▸ hy)) (hid h4) (hid rfl)
theorem lenF_le {s : RS} (h : s.fin) : Le (lenF s).2 s:=by
 cases s with
 | bad c a => exact ⟨Nat.le_refl _,h⟩
 | ok tt =>
  cases tt with
  | nil => exact ⟨Nat.le_refl _,h⟩
  | cons w ts =>
   have bad : ∀ c a,Le (RS.bad c a) (.ok (w :: ts)):=fun c a => ⟨Nat.zero_le _,bad_fin _ _⟩
   have e : lenF (.ok (w :: ts)) = if w.k ≠ 1 then (0,.bad 11 w.a) else if w.n < 1 ∨ 64 < w.n then (0,.bad 2 w.a) else (w.n,.ok ts):=rfl
   rw [e]
   by_cases h1 : w.k ≠ 1
   · rw [if_pos h1]
     exact bad _ _
   · rw [if_neg h1]
     by_cases h2 : w.n < 1 ∨ 64 < w.n
     · rw [if_pos h2]
       exact bad _ _
     · rw [if_neg h2]
       exact (adv_le h (by omega)).1
theorem pars_le : ∀ (n k : Nat) (s : RS),s.fin → Le (parsF n k s).2 s
 | 0,k,s,h => ⟨Nat.le_refl _,h⟩
 | n + 1,k,s,h => by
  unfold parsF
  cases hg : s.good with
  | false => simp;exact ⟨Nat.le_refl _,h⟩
  | true =>
   simp only [if_true]
   have k1:=kind_le (lim_le h k 6).2
   have k2:=name_le k1.2
   have k12:=k2.trans (k1.trans (lim_le h k 6))
   cases b : (nameF (kindF (limF k 6 s)).2).2.is [44] with
   | false => simp;exact k12
   | true =>
    simp only [if_true]
    have ha:=is_adv b k2.2
    exact (pars_le n (k + 1) _ ha.1.2).trans (ha.1.trans k12)
theorem params_le {s : RS} (h : s.fin) : Le (paramsF s).2 s:=by
 have k1:=need_le h [40]
 have e : paramsF s = if (s.need [40]).is [41] then ([],(s.need [40]).adv) else ((parsF 8 0 (s.need [40])).1,(parsF 8 0 (s.need [40])).2.need [41]):=rfl
 rw [e]
 cases b : (s.need [40]).is [41] with
 | true => exact (is_adv b k1.2).1.trans k1
 | false =>
  have k2:=pars_le 8 0 _ k1.2
  exact (need_le k2.2 [41]).trans (k2.trans k1)
theorem func_le (n : Nat) {s : RS} (h : s.adv.fin) : Le (funcF n s).2 s.adv:=by
 unfold funcF
 have k1:=name_le h
 have k2:=params_le k1.2
 have k3:=kind_le k2.2
 have k4:=need_le k3.2 [123]
 have k5:=(read_le n).2.2 1 kReturn _ k4.2
 have k6:=need_le k5.2 kReturn
 have k7:=ex_le k6.2
 have k8:=need_le k7.2 [59]
 exact (need_le k8.2 [125]).trans (k8.trans (k7.trans (k6.trans (k5.trans (k4.trans (k3.trans (k2.trans k1)))))))
theorem if_le {α : Type} {s : α × RS} {z : α} {r m : RS} {c : Bool} (h1 : c = true → Le s.2 m) (h2 : Le r m) : Le (if c then s else (z,r)).2 m:=by
 cases c with
 | true => exact h1 rfl
 | false => exact h2
theorem glob_le (n : Nat) {s m : RS} (hk : Le (eithF kPublic kSecret (limF n 32 s)).2 m) : Le (globF n s).2 m:=by
 have k1 : Le (kindF (limF n 32 s)).2 m:=(eith_le hk.2 kInt kBool).trans hk
 have k2:=(name_le k1.2).trans k1
 have k3:=if_le (c:=(nameF (kindF (limF n 32 s)).2).2.is [91]) (z:=(0 : Int)) (s:=(let q:=lenF (nameF (kindF (limF n 32 s)).2).2.adv;(q.1,q.2.need [93]))) (fun b => (need_le (lenF_le (is_adv b k2.2).1.2).2 [93]).trans ((lenF_le (is_adv b k2.2).1.2).trans ((is_adv b k2.2).1.trans k2))) k2
 obtain ⟨l,hl⟩ : ∃ l,(if (nameF (kindF (limF n 32 s)).2).2.is [91] then (let q:=lenF (nameF (kindF (limF n 32 s)).2).2.adv;(q.1,q.2.need [93])) else ((0 : Int),(nameF (kindF (limF n 32 s)).2).2)) = l:=⟨_,rfl⟩
 rw [hl] at k3
 have k4:=if_le (c:=l.2.is kBy) (z:=([] : List UInt8)) (s:=(let q:=nameF l.2.adv;(q.1.1,q.2))) (fun b => (name_le (is_adv b k3.2).1.2).trans ((is_adv b k3.2).1.trans k3)) k3
 have k5:=(need_le k4.2 [59]).trans k4
 have e : (globF n s).2 = RS.need [59] (if l.2.is kBy then (let q:=nameF l.2.adv;(q.1.1,q.2)) else ([],l.2)).2:=by
  rw [← hl]
  rfl
 rw [e]
 exact k5
theorem thing_le (n : Nat) (p : Pg) {x : Wd} {tt : List Wd} (h : (RS.ok (x :: tt)).fin) (hx : x.k ≠ 3) : Le (thingF n p (.ok (x :: tt))).2 (.ok tt):=by
 have ha : Le (RS.ok tt) (.ok tt):=⟨Nat.le_refl _,(adv_le h hx).1.2⟩
 have bad : ∀ c a,Le (RS.bad c a) (.ok tt):=fun c a => ⟨Nat.zero_le _,bad_fin _ _⟩
 unfold thingF
 cases b1 : (RS.ok (x :: tt)).is kLock with
 | true =>
  simp only [if_true]
  rcases limF_cases p.ls.length 8 x tt with e | e
  · rw [e]
    have k1:=name_le ha.2
    exact (need_le k1.2 [59]).trans k1
  · rw [e]
    exact bad _ _
 | false =>
  simp only [Bool.false_eq_true,if_false]
  cases b2 : (RS.ok (x :: tt)).is kFunc with
  | true =>
   simp only [if_true]
   rcases limF_cases p.fs.length 16 x tt with e | e
   · rw [e]
     exact func_le n (s:=.ok (x :: tt)) ha.2
   · rw [e]
     exact bad _ _
  | false =>
   simp only [Bool.false_eq_true,if_false]
   cases b3 : (RS.ok (x :: tt)).is kThread with
   | true =>
    simp only [if_true]
    rcases limF_cases p.ths.length 4 x tt with e | e
    · rw [e]
      exact (read_le n).2.1 0 _ ha.2
    · rw [e]
      exact bad _ _
   | false =>
    simp only [Bool.false_eq_true,if_false]
    cases b4 : ((RS.ok (x :: tt)).is kPublic || (RS.ok (x :: tt)).is kSecret) with
    | true =>
     simp only [if_true]
     refine glob_le _ ?_
     rcases limF_cases p.gs.length 32 x tt with e | e
     · rw [e]
       unfold eithF
       cases b5 : (RS.ok (x :: tt)).is kSecret with
       | true => simp only [if_true];exact ha
       | false =>
        simp only [Bool.false_eq_true,if_false]
        rw [b5,Bool.or_false] at b4
        unfold RS.need
        rw [if_pos b4]
        exact ha
     · rw [e]
       exact bad _ _
    | false =>
     simp only [Bool.false_eq_true,if_false]
     exact bad _ _
theorem thing_more (n : Nat) (p : Pg) (s : RS) : (thingF n p s).1.gs.length ≤ p.gs.length + 1 ∧ (thingF n p s).1.ls.length ≤ p.ls.length + 1 ∧ (thingF n p s).1.fs.length ≤ p.fs.length + 1 ∧ (thingF n p s).1.ths.length ≤ p.ths.length + 1:=by
 unfold thingF
 dsimp only
 repeat' split
 all_goals simp
theorem below_step {W a c : World} (h : Below W.heap.size W a) (k : Below a.heap.size a c) : Below W.heap.size W c :=
 ⟨k.os.trans h.os,k.tape.trans h.tape,k.output.trans h.output,Nat.le_trans h.size k.size,fun i hi => (k.block i (Nat.lt_of_lt_of_le hi h.size)).trans (h.block i hi)⟩
theorem Fr3.below {r4 rb : Nat} {row : Option Nat} {W X Y : World} (hb : Below W.heap.size W X) (h : Fr3 r4 rb row X Y) : Fr3 r4 rb row W Y :=
 ⟨⟨Nat.le_trans hb.size h.1.1,h.1.2.1.trans hb.os,h.1.2.2.1.trans hb.tape,h.1.2.2.2.trans hb.output⟩,fun b hl h4 hr hrow => (h.2 b (Nat.lt_of_lt_of_le hl hb.size) h4 hr hrow).trans (hb.block b hl)⟩
theorem below_chain4 {W w1 w2 w3 w4 : World} (hb1 : Below W.heap.size W w1) (hb2 : Below w1.heap.size w1 w2) (hb3 : Below w2.heap.size w2 w3) (hb4 : Below w3.heap.size w3 w4) : Below W.heap.size W w4:=below_step (below_step (below_step hb1 hb2) hb3) hb4
theorem rth_globP {r4 rb g cap B : Nat} {ws : List Wd} {d : Int} {p0 p1 p2 p3 : Value} {W : World} {σ : RS} {l : List Gl} {x : Wd} {tt : List Wd} (S : Hid (A4 W r4 rb g cap ws d p0 p1 p2 p3 σ)) (G : Hid (W.ownsRow B 56 6 p0 l.length (l.flatMap glCells))) (hB : r4 < B ∧ rb < B ∧ g < B ∧ B ≤ W.heap.size) (hl : l.length ≤ 1000000) (h1 : Hid (σ.is (⟨#[108,111,99,107]⟩ : ByteArray).data.toList = false)) (h2 : Hid (σ.is (⟨#[102,117,110,99]⟩ : ByteArray).data.toList = false)) (h3 : Hid (σ.is (⟨#[116,104,114,101,97,100]⟩ : ByteArray).data.toList = false)) (h4 : Hid (σ.is (⟨#[112,117,98,108,105,99]⟩ : ByteArray).data.toList = true)) :
 Calls Try.prog 25 #[.pointer (some ⟨r4,0,none⟩)] W fun e w' => e = .returned (.tuple #[]) ∧ ∃ q,A4 w' r4 rb g cap ws d q p1 p2 p3 (globF l.length σ).2 ∧ w'.ownsRow B 56 6 q (l.length + 1) ((l ++ [(globF l.length σ).1]).flatMap glCells) ∧ Fr3 r4 rb p0.ownBlock W w':=by
 go_enter Try.func25,Try.ntmps25
 go_wp2_with (first
  | (go_at_call 45;(with_reducible refine (r4_is S _ false h1).mono ?_);rintro e1 w1 ⟨rfl,hb1⟩;have S1:=hid (S.out.stay hb1))
  | (go_at_call 45;(with_reducible refine (r4_is S1 _ false h2).mono ?_);rintro e2 w2 ⟨rfl,hb2⟩;have S2:=hid (S1.out.stay hb2))
  | (go_at_call 45;(with_reducible refine (r4_is S2 _ false h3).mono ?_);rintro e3 w3 ⟨rfl,hb3⟩;have S3:=hid (S2.out.stay hb3))
  | (go_at_call 45;(with_reducible refine (r4_is S3 _ true h4).mono ?_);rintro e4 w4 ⟨rfl,hb4⟩;have S4:=hid (S3.out.stay hb4);have hB0 : Below W.heap.size W w4:=below_chain4 hb1 hb2 hb3 hb4)
  | (go_at_call 51;(with_reducible refine (r4_global S4 (hid (own_below G.out hB0)) ⟨hB.1,hB.2.1,hB.2.2.1,Nat.le_trans hB.2.2.2 hB0.size⟩ hl).mono ?_);rintro e9 w9 ⟨rfl,q,hs9,hg9,hf9⟩))
 first
  | (((try simp only [Exit.inBlock,Exit.then]);refine bodyPost_ret (results_none rfl _ _ _) rfl ?_);exact ⟨rfl,q,hs9,hg9,.below hB0 hf9⟩)
  | (go_end0;exact ⟨rfl,q,hs9,hg9,.below hB0 hf9⟩)
theorem below_chain5 {W w1 w2 w3 w4 w5 : World} (hb1 : Below W.heap.size W w1) (hb2 : Below w1.heap.size w1 w2) (hb3 : Below w2.heap.size w2 w3) (hb4 : Below w3.heap.size w3 w4) (hb5 : Below w4.heap.size w4 w5) : Below W.heap.size W w5:=below_step (below_step (below_step (below_step hb1 hb2) hb3) hb4) hb5
theorem rth_globS {r4 rb g cap B : Nat} {ws : List Wd} {d : Int} {p0 p1 p2 p3 : Value} {W : World} {σ : RS} {l : List Gl} {x : Wd} {tt : List Wd} (S : Hid (A4 W r4 rb g cap ws d p0 p1 p2 p3 σ)) (G : Hid (W.ownsRow B 56 6 p0 l.length (l.flatMap glCells))) (hB : r4 < B ∧ rb < B ∧ g < B ∧ B ≤ W.heap.size) (hl : l.length ≤ 1000000) (h1 : Hid (σ.is (⟨#[108,111,99,107]⟩ : ByteArray).data.toList = false)) (h2 : Hid (σ.is (⟨#[102,117,110,99]⟩ : ByteArray).data.toList = false)) (h3 : Hid (σ.is (⟨#[116,104,114,101,97,100]⟩ : ByteArray).data.toList = false)) (h4 : Hid (σ.is (⟨#[112,117,98,108,105,99]⟩ : ByteArray).data.toList = false)) (h5 : Hid (σ.is (⟨#[115,101,99,114,101,116]⟩ : ByteArray).data.toList = true)) :
 Calls Try.prog 25 #[.pointer (some ⟨r4,0,none⟩)] W fun e w' => e = .returned (.tuple #[]) ∧ ∃ q,A4 w' r4 rb g cap ws d q p1 p2 p3 (globF l.length σ).2 ∧ w'.ownsRow B 56 6 q (l.length + 1) ((l ++ [(globF l.length σ).1]).flatMap glCells) ∧ Fr3 r4 rb p0.ownBlock W w':=by
 go_enter Try.func25,Try.ntmps25
 go_wp2_with (first
  | (go_at_call 45;(with_reducible refine (r4_is S _ false h1).mono ?_);rintro e1 w1 ⟨rfl,hb1⟩;have S1:=hid (S.out.stay hb1))
  | (go_at_call 45;(with_reducible refine (r4_is S1 _ false h2).mono ?_);rintro e2 w2 ⟨rfl,hb2⟩;have S2:=hid (S1.out.stay hb2))
  | (go_at_call 45;(with_reducible refine (r4_is S2 _ false h3).mono ?_);rintro e3 w3 ⟨rfl,hb3⟩;have S3:=hid (S2.out.stay hb3))
  | (go_at_call 45;(with_reducible refine (r4_is S3 _ false h4).mono ?_);rintro e4 w4 ⟨rfl,hb4⟩;have S4:=hid (S3.out.stay hb4))
  | (go_at_call 45;(with_reducible refine (r4_is S4 _ true h5).mono ?_);rintro e5 w5 ⟨rfl,hb5⟩;have S5:=hid (S4.out.stay hb5);have hB0 : Below W.heap.size W w5:=below_chain5 hb1 hb2 hb3 hb4 hb5)
  | (go_at_call 51;(with_reducible refine (r4_global S5 (hid (own_below G.out hB0)) ⟨hB.1,hB.2.1,hB.2.2.1,Nat.le_trans hB.2.2.2 hB0.size⟩ hl).mono ?_);rintro e9 w9 ⟨rfl,q,hs9,hg9,hf9⟩))
 first
  | (((try simp only [Exit.inBlock,Exit.then]);refine bodyPost_ret (results_none rfl _ _ _) rfl ?_);exact ⟨rfl,q,hs9,hg9,.below hB0 hf9⟩)
  | (go_end0;exact ⟨rfl,q,hs9,hg9,.below hB0 hf9⟩)
theorem rth_none {r4 rb g cap B : Nat} {ws : List Wd} {d : Int} {p0 p1 p2 p3 : Value} {W : World} {σ : RS} {l : List Gl} {x : Wd} {tt : List Wd} (S : Hid (A4 W r4 rb g cap ws d p0 p1 p2 p3 (.ok (x :: tt)))) (h1 : Hid ((RS.ok (x :: tt)).is (⟨#[108,111,99,107]⟩ : ByteArray).data.toList = false)) (h2 : Hid ((RS.ok (x :: tt)).is (⟨#[102,117,110,99]⟩ : ByteArray).data.toList = false)) (h3 : Hid ((RS.ok (x :: tt)).is (⟨#[116,104,114,101,97,100]⟩ : ByteArray).data.toList = false)) (h4 : Hid ((RS.ok (x :: tt)).is (⟨#[112,117,98,108,105,99]⟩ : ByteArray).data.toList = false)) (h5 : Hid ((RS.ok (x :: tt)).is (⟨#[115,101,99,114,101,116]⟩ : ByteArray).data.toList = false)) :
 Calls Try.prog 25 #[.pointer (some ⟨r4,0,none⟩)] W fun e w' => e = .returned (.tuple #[]) ∧ A4 w' r4 rb g cap ws d p0 p1 p2 p3 (.bad 11 x.a) ∧ Fr (some rb) W w':=by
 have hfd:=rfield_a
 go_enter Try.func25,Try.ntmps25
 go_wp2_with (first
  | (go_at_call 45;(with_reducible refine (r4_is S _ false h1).mono ?_);rintro e1 w1 ⟨rfl,hb1⟩;have S1:=hid (S.out.stay hb1))
  | (go_at_call 45;(with_reducible refine (r4_is S1 _ false h2).mono ?_);rintro e2 w2 ⟨rfl,hb2⟩;have S2:=hid (S1.out.stay hb2))
  | (go_at_call 45;(with_reducible refine (r4_is S2 _ false h3).mono ?_);rintro e3 w3 ⟨rfl,hb3⟩;have S3:=hid (S2.out.stay hb3))
  | (go_at_call 45;(with_reducible refine (r4_is S3 _ false h4).mono ?_);rintro e4 w4 ⟨rfl,hb4⟩;have S4:=hid (S3.out.stay hb4))
  | (go_at_call 45;(with_reducible refine (r4_is S4 _ false h5).mono ?_);rintro e5 w5 ⟨rfl,hb5⟩;have S5:=hid (S4.out.stay hb5))
  | (go_at_call 24;(with_reducible refine (r4_wordOk S5).mono ?_);rintro e6 w6 ⟨rfl,hb6⟩)
  | (go_at_call 52;(with_reducible refine (r4_fail0 (hid (S5.out.stay hb6)) 11 (by decide) x.a).mono ?_);rintro e7 w7 ⟨rfl,hs7,hf7⟩))
 go_end0
 exact ⟨rfl,hs7,(((((((Fr.refl _ _).stepB hb1).stepB hb2).stepB hb3).stepB hb4).stepB hb5).stepB hb6).step hf7⟩
end Go.Proofs.Ytbmmjomcjlpnlaa
namespace Go.Proofs.Ytbmmjomcjlpnlaa
open Go Go.RowKit
def Low (r4 rb B : Nat) (W X : World) : Prop:=(W.heap.size ≤ X.heap.size ∧ X.os = W.os ∧ X.tape = W.tape ∧ X.output = W.output) ∧ ∀ b,b < B → b ≠ r4 → b ≠ rb → X.heap[b]? = W.heap[b]?
theorem Low.trans {r4 rb B : Nat} {W X Y : World} (h : Low r4 rb B W X) (k : Low r4 rb B X Y) : Low r4 rb B W Y :=
 ⟨⟨Nat.le_trans h.1.1 k.1.1,k.1.2.1.trans h.1.2.1,k.1.2.2.1.trans h.1.2.2.1,k.1.2.2.2.trans h.1.2.2.2⟩,fun b hb h4 hr => (k.2 b hb h4 hr).trans (h.2 b hb h4 hr)⟩
theorem fr3_low {r4 rb B T k n : Nat} {v : Value} {xs : List Value} {W X : World} (hf : Fr3 r4 rb v.ownBlock W X) (hv : W.ownsRow B T k v n xs) (hB : B ≤ W.heap.size) : Low r4 rb B W X :=
 ⟨hf.1,fun b hb h4 hr => hf.2 b (Nat.lt_of_lt_of_le hb hB) h4 hr fun e => by (have:=(hv.lt b e.symm).1;omega)⟩
theorem fr_low {r4 rb B : Nat} {W X : World} (hf : Fr (some rb) W X) (hB : B ≤ W.heap.size) : Low r4 rb B W X :=
 ⟨⟨hf.size,(Fr.grown_ hf).os,(Fr.grown_ hf).tape,(Fr.grown_ hf).output⟩,fun b hb _ hr => hf.block (Nat.lt_of_lt_of_le hb hB) (by simp;exact hr)⟩
section
variable {r4 rb B : Nat} {W X : World} {p : Pg} {v0 v1 v2 v3 q : Value} {rf : List (Fn × FV)} {rt : List (List Stm × Value)}
theorem PRows.moreG (R : PRows B W p v0 v1 v2 v3 rf rt) (hf : Fr3 r4 rb v0.ownBlock W X) (h4 : r4 < B) (hr : rb < B) {x : Gl} (ho : X.ownsRow B 56 6 q (p.gs.length + 1) ((p.gs ++ [x]).flatMap glCells)) :
 PRows B X { p with gs:=p.gs ++ [x] } q v1 v2 v3 rf rt:=by
 have hk:=keptT3 hf R.g (by decide) h4 hr
 exact ⟨by simpa using ho,own_fr3 R.l hf R.g (by decide) h4 hr,own_fr3 R.f hf R.g (by decide) h4 hr,own_fr3 R.t hf R.g (by decide) h4 hr,R.ef,R.et,fun q hq => (R.xf q hq).keptT hk,fun q hq => (R.xt q hq).keptT hk⟩
theorem PRows.moreL (R : PRows B W p v0 v1 v2 v3 rf rt) (hf : Fr3 r4 rb v1.ownBlock W X) (h4 : r4 < B) (hr : rb < B) {x : Lk} (ho : X.ownsRow B 95 2 q (p.ls.length + 1) ((p.ls ++ [x]).flatMap lkCells)) :
 PRows B X { p with ls:=p.ls ++ [x] } v0 q v2 v3 rf rt:=by
 have hk:=keptT3 hf R.l (by decide) h4 hr
 exact ⟨own_fr3 R.g hf R.l (by decide) h4 hr,by simpa using ho,own_fr3 R.f hf R.l (by decide) h4 hr,own_fr3 R.t hf R.l (by decide) h4 hr,R.ef,R.et,fun q hq => (R.xf q hq).keptT hk,fun q hq => (R.xt q hq).keptT hk⟩
theorem PRows.moreF (R : PRows B W p v0 v1 v2 v3 rf rt) (hf : Fr3 r4 rb v2.ownBlock W X) (h4 : r4 < B) (hr : rb < B) {x : Fn} {fv : FV} (ho : X.ownsRow B 65 12 q (p.fs.length + 1) (fnRow rf ++ fnCells x fv)) (hx : IsFn1 (fun g => B ≤ g) X x fv) :
 PRows B X { p with fs:=p.fs ++ [x] } v0 v1 q v3 (rf ++ [(x,fv)]) rt:=by
 have hk:=keptT3 hf R.f (by decide) h4 hr
 refine ⟨own_fr3 R.g hf R.f (by decide) h4 hr,own_fr3 R.l hf R.f (by decide) h4 hr,by (rw [fnRow_snoc];simpa using ho),own_fr3 R.t hf R.f (by decide) h4 hr,by simp [R.ef],R.et,fun q hq => ?_,fun q hq => (R.xt q hq).keptT hk⟩
 rcases List.mem_append.1 hq with hq | hq
 · exact (R.xf q hq).keptT hk
 · simp at hq
   subst hq
   exact hx
theorem PRows.moreT (R : PRows B W p v0 v1 v2 v3 rf rt) (hf : Fr3 r4 rb v3.ownBlock W X) (h4 : r4 < B) (hr : rb < B) {x : List Stm} {v : Value} (ho : X.ownsRow B 60 1 q (p.ths.length + 1) (thRow rt ++ [v])) (hx : IsSts (fun g => B ≤ g) X x v) :
 PRows B X { p with ths:=p.ths ++ [x] } v0 v1 v2 q rf (rt ++ [(x,v)]):=by
 have hk:=keptT3 hf R.t (by decide) h4 hr
 refine ⟨own_fr3 R.g hf R.t (by decide) h4 hr,own_fr3 R.l hf R.t (by decide) h4 hr,own_fr3 R.f hf R.t (by decide) h4 hr,by (rw [thRow_snoc];simpa using ho),R.ef,by simp [R.et],fun q hq => (R.xf q hq).keptT hk,fun q hq => ?_⟩
 rcases List.mem_append.1 hq with hq | hq
 · exact (R.xt q hq).keptT hk
 · simp at hq
   subst hq
   exact hx
end
def ThEnd (r4 rb g cap B : Nat) (ws : List Wd) (W : World) (q : Pg × RS) (e : Ending) (w' : World) : Prop :=
 e = .returned (.tuple #[]) ∧ Low r4 rb B W w' ∧ ∃ v0 v1 v2 v3,A4 w' r4 rb g cap ws ((0 : Nat) : Int) v0 v1 v2 v3 q.2 ∧ ∀ t,q.2 = .ok t → ∃ rf rt,PRows B w' q.1 v0 v1 v2 v3 rf rt
theorem rth_any {r4 rb g cap B n : Nat} {ws : List Wd} {W : World} {p : Pg} {v0 v1 v2 v3 : Value} {rf : List (Fn × FV)} {rt : List (List Stm × Value)} {x : Wd} {tt : List Wd} (S : A4 W r4 rb g cap ws ((0 : Nat) : Int) v0 v1 v2 v3 (.ok (x :: tt))) (R : PRows B W p v0 v1 v2 v3 rf rt)
 (hB : r4 < B ∧ rb < B ∧ g < B ∧ B ≤ W.heap.size) (hl : p.gs.length ≤ 1000000 ∧ p.ls.length ≤ 1000000 ∧ p.fs.length ≤ 1000000 ∧ p.ths.length ≤ 1000000) (hx : x.k ≠ 3) (hn : 3 * tt.length + 2 ≤ n) :
 Calls Try.prog 25 #[.pointer (some ⟨r4,0,none⟩)] W (ThEnd r4 rb g cap B ws W (thingF n p (.ok (x :: tt)))):=by
 have hfin : (RS.ok (x :: tt)).fin:=fun t e => by (cases e;exact S.st.2.1)
 have hft : (RS.ok tt).fin:=(adv_le hfin hx).1.2
 have HALL:=all_st r4 rb g ws n
 cases b1 : (RS.ok (x :: tt)).is kLock with
 | true =>
  obtain ⟨p1,k1,rfl⟩:=own_form R.l
  rcases limF_cases p.ls.length 8 x tt with e | e
  · obtain ⟨⟨⟨nm,a⟩,τ2⟩,h2⟩ : ∃ q,nameF (.ok tt) = q:=⟨_,rfl⟩
    have eT : thingF n p (.ok (x :: tt)) = ({ p with ls:=p.ls ++ [⟨a,nm⟩] },τ2.need [59]):=by simp [thingF,b1,e,RS.good,RS.adv,h2]
    rw [eT]
    refine (rth_lockYes (hid S) (hid R.l) hB hl.2.1 (hid b1) (hid e) hx (hid h2) (hid rfl)).mono ?_
    rintro e' w' ⟨rfl,q,hs,ho,hf⟩
    exact ⟨rfl,fr3_low hf R.l hB.2.2.2,_,q,_,_,hs,fun t _ => ⟨rf,rt,R.moreL hf hB.1 hB.2.1 ho⟩⟩
  · have eT : thingF n p (.ok (x :: tt)) = (p,.bad 2 x.a):=by simp [thingF,b1,e,RS.good]
    rw [eT]
    refine (rth_lockNo (B:=B) (τ2:=.ok []) (τ3:=.ok []) (nm:=[]) (a:=0) (x:=x) (tt:=tt) (hid S) (hid b1) (hid e)).mono ?_
    rintro e' w' ⟨rfl,hs,hf⟩
    exact ⟨rfl,fr_low hf hB.2.2.2,_,_,_,_,hs,fun t h => by cases h⟩
 | false =>
  cases b2 : (RS.ok (x :: tt)).is kFunc with
  | true =>
   obtain ⟨p2,k2,rfl⟩:=own_form R.f
   rcases limF_cases p.fs.length 16 x tt with e | e
   · obtain ⟨⟨⟨nm,a⟩,τ1⟩,h1⟩ : ∃ q,nameF (.ok tt) = q:=⟨_,rfl⟩
     obtain ⟨⟨lp,τ2⟩,h2⟩ : ∃ q,paramsF τ1 = q:=⟨_,rfl⟩
     obtain ⟨⟨⟨tr,sc⟩,τ3⟩,h3⟩ : ∃ q,kindF τ2 = q:=⟨_,rfl⟩
     obtain ⟨τ4,h4⟩ : ∃ q,τ3.need [123] = q:=⟨_,rfl⟩
     obtain ⟨⟨lb,τ5⟩,h5⟩ : ∃ q,stmtsF n 1 kReturn τ4 = q:=⟨_,rfl⟩
     obtain ⟨τ6,h6⟩ : ∃ q,τ5.need kReturn = q:=⟨_,rfl⟩
     obtain ⟨⟨ex,τ7⟩,h7⟩ : ∃ q,exF τ6 = q:=⟨_,rfl⟩
     obtain ⟨τ8,h8⟩ : ∃ q,τ7.need [59] = q:=⟨_,rfl⟩
     obtain ⟨τ9,h9⟩ : ∃ q,τ8.need [125] = q:=⟨_,rfl⟩
     have eF : funcF n (.ok (x :: tt)) = (⟨a,nm,lp,tr,sc,lb,ex⟩,τ9):=by simp only [funcF,RS.adv,h1,h2,h3,h4,h5,h6,h7,h8,h9]
     have eT : thingF n p (.ok (x :: tt)) = ({ p with fs:=p.fs ++ [⟨a,nm,lp,tr,sc,lb,ex⟩] },τ9):=by simp [thingF,b1,b2,e,RS.good,eF]
     have l1 : Le τ1 (.ok tt):=by (have:=name_le hft;rwa [h1] at this)
     have l2 : Le τ2 (.ok tt):=by (have:=params_le l1.2;rw [h2] at this;exact this.trans l1)
     have l3 : Le τ3 (.ok tt):=by (have:=kind_le l2.2;rw [h3] at this;exact this.trans l2)
     have l4 : Le τ4 (.ok tt):=by (have:=need_le l3.2 [123];rw [h4] at this;exact this.trans l3)
     have hlen : 3 * τ4.len + 1 ≤ n:=by (have h44 : τ4.len ≤ tt.length:=l4.1;omega)
     rw [eT]
     refine (rth_func (Q:=fun W' w' => ∃ q,A4 w' r4 rb g cap ws ((0 : Nat) : Int) v0 v1 q v3 τ9 ∧ Fr3 r4 rb (Value.slice p2 p.fs.length k2).ownBlock W' w' ∧ ∀ t,τ9 = .ok t → ∃ fv,w'.ownsRow B 65 12 q (p.fs.length + 1) (fnRow rf ++ fnCells ⟨a,nm,lp,tr,sc,lb,ex⟩ fv) ∧ IsFn1 (fun b => W'.heap.size ≤ b) w' ⟨a,nm,lp,tr,sc,lb,ex⟩ fv)
      (hid S) (hid b1) (hid b2) (hid fun W' hb => rfn_yes (hid (S.stay hb)) (hid (own_below R.f hb)) ⟨hB.1,hB.2.1,hB.2.2.1,Nat.le_trans hB.2.2.2 hb.size⟩ hl.2.2.1 (hid e) hx (hid h1) (hid h2) (hid h3) (hid h4) (hid h5) (hid h6) (hid h7) (hid h8) (hid h9) (hid HALL.2.2) hlen (by omega))).mono ?_
     rintro e' w' ⟨rfl,W',hb,q,hs,hf,hx⟩
     have hf':=hf.below hb
     refine ⟨rfl,fr3_low hf' R.f hB.2.2.2,_,_,q,_,hs,fun t ht => ?_⟩
     obtain ⟨fv,ho,hv⟩:=hx t ht
     exact ⟨_,rt,R.moreF hf' hB.1 hB.2.1 ho (hv.low (Nat.le_trans hB.2.2.2 hb.size))⟩
   · have eT : thingF n p (.ok (x :: tt)) = (p,.bad 2 x.a):=by simp [thingF,b1,b2,e,RS.good]
     rw [eT]
     refine (rth_func (Q:=fun W' w' => A4 w' r4 rb g cap ws ((0 : Nat) : Int) v0 v1 (.slice p2 p.fs.length k2) v3 (.bad 2 x.a) ∧ Fr (some rb) W' w') (hid S) (hid b1) (hid b2) (hid fun W' hb => rfn_no (B:=B) (n:=n) (d:=0) (x:=x) (tt:=tt) (hid (S.stay hb)) (hid e))).mono ?_
     rintro e' w' ⟨rfl,W',hb,hs,hf⟩
     exact ⟨rfl,fr_low ((Fr.of hb).step hf) hB.2.2.2,_,_,_,_,hs,fun t h => by cases h⟩
  | false =>
   cases b3 : (RS.ok (x :: tt)).is kThread with
   | true =>
    obtain ⟨p3,k3,rfl⟩:=own_form R.t
    rcases limF_cases p.ths.length 4 x tt with e | e
    · obtain ⟨⟨lb,τ2⟩,h5⟩ : ∃ q,blockF n 0 (.ok tt) = q:=⟨_,rfl⟩
      have eT : thingF n p (.ok (x :: tt)) = ({ p with ths:=p.ths ++ [lb] },τ2):=by simp [thingF,b1,b2,b3,e,RS.good,RS.adv,h5]
      rw [eT]
      refine (rth_thrYes (n:=n) (d:=0) (hid S) (hid R.t) hB hl.2.2.2 (hid b1) (hid b2) (hid b3) (hid e) hx (hid h5) (hid HALL.2.1) hn (by omega)).mono ?_
      rintro e' w' ⟨rfl,q,hs,hf,hx⟩
      refine ⟨rfl,fr3_low hf R.t hB.2.2.2,_,_,_,q,hs,fun t ht => ?_⟩
      obtain ⟨v,ho,hv⟩:=hx t ht
      exact ⟨rf,_,R.moreT hf hB.1 hB.2.1 ho (hv.lo hB.2.2.2)⟩
    · have eT : thingF n p (.ok (x :: tt)) = (p,.bad 2 x.a):=by simp [thingF,b1,b2,b3,e,RS.good]
      rw [eT]
      refine (rth_thrNo (B:=B) (n:=n) (d:=0) (hid S) (hid b1) (hid b2) (hid b3) (hid e)).mono ?_
      rintro e' w' ⟨rfl,hs,hf⟩
      exact ⟨rfl,fr_low hf hB.2.2.2,_,_,_,_,hs,fun t h => by cases h⟩
   | false =>
    cases b4 : (RS.ok (x :: tt)).is kPublic with
    | true =>
     have eT : thingF n p (.ok (x :: tt)) = ({ p with gs:=p.gs ++ [(globF p.gs.length (.ok (x :: tt))).1] },(globF p.gs.length (.ok (x :: tt))).2):=by simp [thingF,b1,b2,b3,b4]
     rw [eT]
     refine (rth_globP (x:=x) (tt:=tt) (hid S) (hid R.g) hB hl.1 (hid b1) (hid b2) (hid b3) (hid b4)).mono ?_
     rintro e' w' ⟨rfl,q,hs,ho,hf⟩
     exact ⟨rfl,fr3_low hf R.g hB.2.2.2,q,_,_,_,hs,fun t _ => ⟨rf,rt,R.moreG hf hB.1 hB.2.1 ho⟩⟩
    | false =>
     cases b5 : (RS.ok (x :: tt)).is kSecret with
     | true =>
      have eT : thingF n p (.ok (x :: tt)) = ({ p with gs:=p.gs ++ [(globF p.gs.length (.ok (x :: tt))).1] },(globF p.gs.length (.ok (x :: tt))).2):=by simp [thingF,b1,b2,b3,b4,b5]
      rw [eT]
      refine (rth_globS (x:=x) (tt:=tt) (hid S) (hid R.g) hB hl.1 (hid b1) (hid b2) (hid b3) (hid b4) (hid b5)).mono ?_
      rintro e' w' ⟨rfl,q,hs,ho,hf⟩
      exact ⟨rfl,fr3_low hf R.g hB.2.2.2,q,_,_,_,hs,fun t _ => ⟨rf,rt,R.moreG hf hB.1 hB.2.1 ho⟩⟩
     | false =>
      have eT : thingF n p (.ok (x :: tt)) = (p,.bad 11 x.a):=by simp [thingF,b1,b2,b3,b4,b5,RS.fail]
      rw [eT]
      refine (rth_none (B:=B) (l:=[]) (σ:=.ok []) (hid S) (hid b1) (hid b2) (hid b3) (hid b4) (hid b5)).mono ?_
      rintro e' w' ⟨rfl,hs,hf⟩
      exact ⟨rfl,fr_low hf hB.2.2.2,_,_,_,_,hs,fun t h => by cases h⟩
end Go.Proofs.Ytbmmjomcjlpnlaa
namespace Go.Proofs.Ytbmmjomcjlpnlaa
open Go Go.RowKit
theorem dec_small {u : Nat} (h : u < 10) : Lib.decDigits u = [UInt8.ofNat (48 + u)]:=Lib.decDigits_one h
theorem dec_step {u : Nat} (h : ¬ u < 10) : Lib.decDigits u = Lib.decDigits (u / 10) ++ [UInt8.ofNat (48 + u % 10)]:=by rw [Lib.decDigits,dif_neg h]
theorem byte_of {d : Nat} (h : d < 10) : (UInt8.ofNat (48 + d)).toNat = 48 + d:=by
 rw [UInt8.toNat_ofNat']
 omega
theorem parse_dec (u : Nat) : ∀ r,u < 9223372036854775808 → Lib.parseUint10 0 (Lib.decDigits u ++ r) = Lib.parseUint10 u r:=by
 induction u using Nat.strongRecOn with
 | _ u ih =>
  intro r hu
  by_cases h : u < 10
  · rw [dec_small h]
    simp only [List.singleton_append,Lib.parseUint10,byte_of h]
    rw [if_pos (by omega),if_neg (by omega),if_neg (by omega)]
    congr 1
    omega
  · rw [dec_step h,List.append_assoc,ih (u / 10) (by omega) _ (by omega)]
    have hd : u % 10 < 10:=Nat.mod_lt _ (by decide)
    simp only [List.singleton_append,Lib.parseUint10,byte_of hd]
    rw [if_pos (by omega),if_neg (by omega),if_neg (by omega)]
    congr 1
    omega
theorem dec_head (u : Nat) : ∃ c r,Lib.decDigits u = c :: r ∧ 48 ≤ c.toNat ∧ c.toNat ≤ 57:=by
 induction u using Nat.strongRecOn with
 | _ u ih =>
  by_cases h : u < 10
  · exact ⟨_,[],dec_small h,by rw [byte_of h];omega,by rw [byte_of h];omega⟩
  · obtain ⟨c,r,e,h1,h2⟩:=ih (u / 10) (by omega)
    exact ⟨c,r ++ [UInt8.ofNat (48 + u % 10)],by rw [dec_step h,e];rfl,h1,h2⟩
theorem dec_len (k : Nat) : ∀ u,u < 10 ^ (k + 1) → (Lib.decDigits u).length ≤ k + 1:=by
 induction k with
 | zero =>
  intro u hu
  rw [dec_small (by simpa using hu)]
  simp
 | succ k ih =>
  intro u hu
  by_cases h : u < 10
  · rw [dec_small h]
    simp
  · rw [dec_step h,List.length_append]
    have e : (10 : Nat) ^ (k + 1 + 1) = 10 ^ (k + 1) * 10:=Nat.pow_succ ..
    have:=ih (u / 10) (by omega)
    simp
    omega
theorem dig_nat (u : Nat) : dig (u : Int) = ⟨(Lib.decDigits u).toArray⟩:=by
 unfold dig Lib.itoa
 rw [if_neg (by omega)]
 rfl
theorem dig_neg {n : Int} (h : n < 0) : dig n = ⟨(45 :: Lib.decDigits n.natAbs).toArray⟩:=by
 unfold dig Lib.itoa
 rw [if_pos h]
theorem num_dig {n : Int} (h0 : 0 ≤ n) (h1 : n ≤ 9223372036854775807) : numM (dig n) = (n,true):=by
 obtain ⟨u,rfl⟩:=Int.eq_ofNat_of_zero_le h0
 have hu : u < 9223372036854775808:=by omega
 have hl:=dec_len 18 u (by omega)
 obtain ⟨c,r,e,k1,k2⟩:=dec_head u
 have hp : Lib.parseIntB 64 (dig (u : Int)).data.toList = .ok (u : Int):=by
  rw [Lib.parseIntB_64,dig_nat]
  show Lib.atoiAll (Lib.decDigits u) = _
  have h2:=parse_dec u [] hu
  rw [List.append_nil] at h2
  rw [e,Lib.atoiAll_plain c r (by omega) (by omega),← e]
  unfold Lib.parseMag
  rw [if_neg (by rw [e];simp),h2]
  simp only [Lib.parseUint10,Lib.signless]
  rw [if_neg (by omega)]
 unfold numM
 rw [if_neg (by rw [dig_nat];show ¬ 19 < (Lib.decDigits u).toArray.size;simp;omega),hp]
 simp only
 rw [if_neg (by omega),if_pos (by simp)]
open Go Go.RowKit Go.WideShapes
def tens : ByteArray:=⟨#[48,49,50,51,52,53,54,55,56,57]⟩
theorem tens_at {d : Nat} (h : d < 10) : (tens.extract d (d + 1)).data.toList = [UInt8.ofNat (48 + d)]:=by
 have hd : d = 0 ∨ d = 1 ∨ d = 2 ∨ d = 3 ∨ d = 4 ∨ d = 5 ∨ d = 6 ∨ d = 7 ∨ d = 8 ∨ d = 9:=by omega
 rcases hd with rfl | rfl | rfl | rfl | rfl | rfl | rfl | rfl | rfl | rfl <;> rfl
theorem cat_list (a b : ByteArray) : (a ++ b).data.toList = a.data.toList ++ b.data.toList:=by
 rw [ByteArray.data_append,Array.toList_append]
theorem size_list (a : ByteArray) : a.size = a.data.toList.length:=rfl
def Shown (N u : Nat) (t : ByteArray) : Prop:=Lib.decDigits N = Lib.decDigits u ++ t.data.toList
theorem Shown.size {N u : Nat} {t : ByteArray} (h : Shown N u t) (hN : N ≤ 9223372036854775808) : t.size ≤ 19:=by
 have h1:=congrArg List.length h
 have h2:=dec_len 18 N (by omega)
 rw [List.length_append,← size_list] at h1
 omega
theorem Shown.step {N u : Nat} {t : ByteArray} (h : Shown N u t) (hu : ¬ u < 10) : Shown N (u / 10) (tens.extract (u % 10) (u % 10 + 1) ++ t):=by
 unfold Shown at h ⊢
 rw [h,dec_step hu,cat_list,tens_at (Nat.mod_lt _ (by decide)),List.append_assoc]
theorem Shown.last {N u : Nat} {t : ByteArray} (h : Shown N u t) (hu : u < 10) : (tens.extract (u % 10) (u % 10 + 1) ++ t).data.toList = Lib.decDigits N:=by
 unfold Shown at h
 rw [h,dec_small hu,cat_list,tens_at (Nat.mod_lt _ (by decide)),Nat.mod_eq_of_lt hu]
theorem rdig_pos (n : Nat) (w : World) (hn : (n : Int) ≤ 9223372036854775807) : Calls Try.prog 61 #[.int .i64 n] w fun e w' => e = .returned (.string (dig n)) ∧ w = w':=by
 go_enter Try.func61,Try.ntmps61
 go_wp2
 go_loop [0,3] (fun x s => ∃ (u : Nat) (t : ByteArray),x = .int .i64 u ∧ s = .string t ∧ (u : Int) ≤ 9223372036854775807 ∧ Shown n u t) (fun x _ => (intOf x).toNat)
 case atStart => exact ⟨n,⟨#[]⟩,rfl,rfl,hn,by unfold Shown;exact (List.append_nil _).symm⟩
 case round =>
  obtain ⟨u,t,rfl,rfl,hu,hsh⟩:=hrel
  have hts:=hsh.size (by omega)
  by_cases hz : u < 10
  · have h0 : ((u : Int) / 10 == 0) = true:=by simp;omega
    go_wp2
    go_ret
    refine ⟨congrArg (fun s => Ending.returned (Value.string s)) (bytes_inj ?_),rfl⟩
    rw [dig_nat]
    exact hsh.last hz
  · have h0 : ((u : Int) / 10 == 0) = false:=by simp;omega
    go_wp2
    go_round
    case rel => exact ⟨u / 10,_,by go_num,rfl,by omega,hsh.step hz⟩
    case measure => simp [intOf];omega
theorem neg_parts {u : Nat} : (-(u : Int)).tmod 10 = -((u % 10 : Nat) : Int) ∧ (-(u : Int)).tdiv 10 = -((u / 10 : Nat) : Int):=by
 have h1:=Int.neg_tmod (u : Int) 10
 have h2:=Int.neg_tdiv (u : Int) 10
 have h3 : (u : Int).tmod 10 = (u : Int) % 10:=Int.tmod_eq_emod_of_nonneg (by omega)
 have h4 : (u : Int).tdiv 10 = (u : Int) / 10:=Int.tdiv_eq_ediv_of_nonneg (by omega)
 rw [h3] at h1
 rw [h4] at h2
 exact ⟨h1,h2⟩
theorem rdig_neg (n : Int) (N : Nat) (hN : Hid (n = -(N : Int))) (w : World) (hn : n < 0) (hb : -9223372036854775808 ≤ n) : Calls Try.prog 61 #[.int .i64 n] w fun e w' => e = .returned (.string (dig n)) ∧ w = w':=by
 go_enter Try.func61,Try.ntmps61
 go_wp2
 go_loop [0,3] (fun x s => ∃ (v : Int) (u : Nat) (t : ByteArray),x = .int .i64 v ∧ s = .string t ∧ v < 0 ∧ -9223372036854775808 ≤ v ∧ Hid (v = -(u : Int)) ∧ Shown N u t) (fun x _ => (-(intOf x)).toNat)
 case atStart => exact ⟨n,N,⟨#[]⟩,rfl,rfl,hn,hb,hN,by unfold Shown;exact (List.append_nil _).symm⟩
 case round =>
  obtain ⟨v,u,t,rfl,rfl,hv,hv2,HV,hsh⟩:=hrel
  have hts:=hsh.size (by have:=hN.out;omega)
  have hp:=@neg_parts u
  rw [← HV.out] at hp
  have HP:=hid hp
  clear hp
  have hm0 : -9 ≤ v.tmod 10:=by have:=HP.out.1;omega
  by_cases hz : u < 10
  · have h0 : (v.tdiv 10 == 0) = true:=by have:=HP.out.2;simp;omega
    have hm1 : v.tmod 10 < 0:=by have:=HP.out.1;have:=HV.out;omega
    go_wp2
    go_ret
    refine ⟨congrArg (fun s => Ending.returned (Value.string s)) (bytes_inj ?_),rfl⟩
    rw [dig_neg hn,cat_list]
    have e1 : (-v.tmod 10).toNat = u % 10:=by have:=HP.out.1;omega
    have e2 : (-v.tmod 10 + 1).toNat = u % 10 + 1:=by have:=HP.out.1;omega
    have e3 : n.natAbs = N:=by have:=hN.out;omega
    rw [e1,e2,e3]
    show [45] ++ (tens.extract (u % 10) (u % 10 + 1) ++ t).data.toList = _
    rw [hsh.last hz]
    rfl
  · have h0 : (v.tdiv 10 == 0) = false:=by have:=HP.out.2;simp;omega
    by_cases hr : u % 10 = 0
    · have hm1 : v.tmod 10 = 0:=by have:=HP.out.1;omega
      have HR:=hid hr
      clear hr
      go_wp2
      go_round
      case rel =>
       refine ⟨v.tdiv 10,u / 10,_,rfl,rfl,by have:=HP.out.2;omega,by have:=HP.out.2;have:=HV.out;omega,hid HP.out.2,?_⟩
       have h1:=hsh.step hz
       rw [HR.out] at h1
       exact h1
      case measure => have:=HP.out.2;have:=HV.out;simp [intOf];omega
    · have hm1 : v.tmod 10 < 0:=by have:=HP.out.1;omega
      have HR:=hid hr
      clear hr
      go_wp2
      go_round
      case rel =>
       refine ⟨v.tdiv 10,u / 10,_,rfl,rfl,by have:=HP.out.2;omega,by have:=HP.out.2;have:=HV.out;omega,hid HP.out.2,?_⟩
       have h1:=hsh.step hz
       have e1 : (-v.tmod 10).toNat = u % 10:=by have:=HP.out.1;omega
       have e2 : (-v.tmod 10 + 1).toNat = u % 10 + 1:=by have:=HP.out.1;omega
       rw [e1,e2]
       exact h1
      case measure => have:=HP.out.2;have:=HV.out;simp [intOf];omega
theorem rdigits_any (n : Int) (w : World) (h0 : -9223372036854775808 ≤ n) (h1 : n ≤ 9223372036854775807) : Calls Try.prog 61 #[.int .i64 n] w fun e w' => e = .returned (.string (dig n)) ∧ w = w':=by
 by_cases h : n < 0
 · exact rdig_neg n n.natAbs (hid (by omega)) w h h0
 · obtain ⟨u,rfl⟩:=Int.eq_ofNat_of_zero_le (show 0 ≤ n by omega)
   exact rdig_pos u w h1
def rGo (acc : Int) : List UInt8 → Option Int
 | [] => some acc
 | c :: r => if (c.toNat : Int) < 48 ∨ 57 < (c.toNat : Int) ∨ (9223372036854775807 - ((c.toNat : Int) - 48)) / 10 < acc then none else rGo (10 * acc + ((c.toNat : Int) - 48)) r
def rNum (s : ByteArray) : Int × Bool :=
 if s.size = 0 ∨ 19 < s.size then (0,false)
 else match rGo 0 s.data.toList with
  | none => (0,false)
  | some n => (n,(dig n).toList == s.toList)
theorem drop_at (s : ByteArray) (k : Nat) (h : k < s.size) : s.data.toList.drop k = s[k] :: s.data.toList.drop (k + 1):=by
 rw [List.drop_eq_getElem_cons (by simpa using h)]
 rfl
theorem rnumber_bad (s : ByteArray) (w : World) (he : s.toList.isEmpty = true) : Calls Try.prog 43 #[.string s] w fun e w' => e = .returned (.tuple #[.int .i64 0,.bool false]) ∧ w = w':=by
 go_enter Try.func43,Try.ntmps43
 go_wp2
 go_ret2
 exact ⟨rfl,rfl⟩
theorem rnumber_long (s : ByteArray) (w : World) (he : s.toList.isEmpty = false) (hl : 19 < s.size) (hm : s.size ≤ 9223372036854775807) : Calls Try.prog 43 #[.string s] w fun e w' => e = .returned (.tuple #[.int .i64 0,.bool false]) ∧ w = w':=by
 go_enter Try.func43,Try.ntmps43
 go_wp2
 go_ret2
 exact ⟨rfl,rfl⟩
theorem rGo_bad {acc : Int} {c : UInt8} {r : List UInt8} (h : (c.toNat : Int) < 48 ∨ 57 < (c.toNat : Int) ∨ (9223372036854775807 - ((c.toNat : Int) - 48)) / 10 < acc) : rGo acc (c :: r) = none:=by rw [rGo,if_pos h]
theorem rGo_step {acc : Int} {c : UInt8} {r : List UInt8} (h : ¬ ((c.toNat : Int) < 48 ∨ 57 < (c.toNat : Int) ∨ (9223372036854775807 - ((c.toNat : Int) - 48)) / 10 < acc)) : rGo acc (c :: r) = rGo (10 * acc + ((c.toNat : Int) - 48)) r:=by rw [rGo,if_neg h]
def RN (m : Option Int) (s : ByteArray) (e : Ending) : Prop :=
 e = .returned (.tuple #[.int .i64 (match m with | none => 0 | some n => n),.bool (match m with | none => false | some n => (dig n).toList == s.toList)])
theorem rnumber_good (s : ByteArray) (w : World) (he : s.toList.isEmpty = false) (hl : s.size ≤ 19) : Calls Try.prog 43 #[.string s] w fun e w' => RN (rGo 0 s.data.toList) s e ∧ w = w':=by
 go_enter Try.func43,Try.ntmps43
 go_wp2
 go_loop [4,5] (fun n i => ∃ (k : Nat) (acc : Int),k ≤ s.size ∧ i = .int .i64 k ∧ n = .int .i64 acc ∧ 0 ≤ acc ∧ acc ≤ 9223372036854775807 ∧ Hid (rGo acc (s.data.toList.drop k) = rGo 0 s.data.toList)) (fun _ i => s.size - (intOf i).toNat)
 case atStart => exact ⟨0,0,Nat.zero_le _,rfl,rfl,by omega,by omega,hid rfl⟩
 case round =>
  obtain ⟨k,acc,hk,rfl,rfl,ha0,ha1,HG⟩:=hrel
  by_cases hlt : k < s.size
  · obtain ⟨c,hc⟩ : ∃ c,c = s[k]:=⟨_,rfl⟩
    have hd:=drop_at s k hlt
    rw [← hc] at hd
    have HD:=hid hd
    clear hd
    have hb : c.toNat < 256:=UInt8.toNat_lt c
    by_cases h1 : (c.toNat : Int) < 48
    · have e0 : RN none s (.returned (.tuple #[.int .i64 0,.bool false])):=rfl
      have HE : Hid (rGo 0 s.data.toList = none):=hid (by rw [← HG.out,HD.out];exact rGo_bad (Or.inl h1))
      rw [hc] at h1 hb
      clear hc HD
      go_wp2
      go_ret2
      exact ⟨by rw [HE.out];exact e0,rfl⟩
    · by_cases h2 : 57 < (c.toNat : Int)
      · have e0 : RN none s (.returned (.tuple #[.int .i64 0,.bool false])):=rfl
        have HE : Hid (rGo 0 s.data.toList = none):=hid (by rw [← HG.out,HD.out];exact rGo_bad (Or.inr (Or.inl h2)))
        rw [hc] at h1 h2 hb
        clear hc HD
        go_wp2
        go_ret2
        exact ⟨by rw [HE.out];exact e0,rfl⟩
      · by_cases h3 : (9223372036854775807 - ((c.toNat : Int) - 48)) / 10 < acc
        · have e0 : RN none s (.returned (.tuple #[.int .i64 0,.bool false])):=rfl
          have HE : Hid (rGo 0 s.data.toList = none):=hid (by rw [← HG.out,HD.out];exact rGo_bad (Or.inr (Or.inr h3)))
          rw [hc] at h1 h2 h3 hb
          clear hc HD
          go_wp2
          go_ret2
          exact ⟨by rw [HE.out];exact e0,rfl⟩
        · have HE : Hid (rGo (10 * acc + ((c.toNat : Int) - 48)) (s.data.toList.drop (k + 1)) = rGo 0 s.data.toList):=hid (by rw [← HG.out,HD.out,rGo_step (by omega)])
          rw [hc] at h1 h2 h3 hb HE
          clear hc HD
          go_wp2
          go_round
          case rel => exact ⟨k + 1,_,by omega,by go_num,rfl,by omega,by omega,HE⟩
          case measure => simp [intOf];omega
  · have e0 : s.data.toList.drop k = []:=List.drop_eq_nil_of_le (by show s.data.toList.length ≤ k;rw [← size_list];omega)
    have HE : Hid (rGo 0 s.data.toList = some acc):=hid (by rw [← HG.out,e0,rGo])
    clear e0
    obtain ⟨d,hd⟩ : ∃ d,d = dig acc:=⟨_,rfl⟩
    have hdig : ∀ W : World,Calls Try.prog 61 #[.int .i64 acc] W fun e w' => e = .returned (.string d) ∧ W = w':=by rw [hd];exact fun W => rdigits_any acc W (by omega) ha1
    have HD:=hid hdig
    have HH:=hid hd
    clear hdig hd
    go_wp2_with (go_at_call 61;refine (HD.out _).mono ?_;rintro e w' ⟨rfl,rfl⟩)
    go_ret2
    exact ⟨by rw [HE.out,HH.out];rfl,rfl⟩
theorem rnumber_any (s : ByteArray) (w : World) (hm : s.size ≤ 9223372036854775807) : Calls Try.prog 43 #[.string s] w fun e w' => e = .returned (.tuple #[.int .i64 (rNum s).1,.bool (rNum s).2]) ∧ w = w':=by
 cases he : s.toList.isEmpty
 · have hne : ¬ s.size = 0:=by
    intro h0
    rw [ByteArray.toList_eq] at he
    have : s.data.toList = []:=List.eq_nil_of_length_eq_zero (by rw [← size_list];exact h0)
    rw [this] at he
    cases he
   by_cases hl : 19 < s.size
   · have e1 : rNum s = (0,false):=if_pos (Or.inr hl)
     rw [e1]
     exact rnumber_long s w he hl hm
   · have e1 : rNum s = match rGo 0 s.data.toList with
      | none => (0,false)
      | some n => (n,(dig n).toList == s.toList):=if_neg (by omega)
     refine (rnumber_good s w he (by omega)).mono fun e w' ⟨h1,h2⟩ => ⟨?_,h2⟩
     rw [h1,e1]
     cases rGo 0 s.data.toList <;> rfl
 · have h0 : s.size = 0:=by
    rw [ByteArray.toList_eq,List.isEmpty_iff] at he
    rw [size_list,he]
    rfl
   have e1 : rNum s = (0,false):=if_pos (Or.inl h0)
   rw [e1]
   exact rnumber_bad s w he
theorem go_dec (u : Nat) : ∀ r,u ≤ 9223372036854775807 → rGo 0 (Lib.decDigits u ++ r) = rGo (u : Int) r:=by
 induction u using Nat.strongRecOn with
 | _ u ih =>
  intro r hu
  by_cases h : u < 10
  · rw [dec_small h,List.singleton_append,rGo_step (by rw [byte_of h];omega),byte_of h]
    congr 1
    omega
  · have hd : u % 10 < 10:=Nat.mod_lt _ (by decide)
    rw [dec_step h,List.append_assoc,ih (u / 10) (by omega) _ (by omega),List.singleton_append,rGo_step (by rw [byte_of hd];omega),byte_of hd]
    congr 1
    omega
theorem rGo_bd (l : List UInt8) : ∀ acc n : Int,0 ≤ acc → acc ≤ 9223372036854775807 → rGo acc l = some n → 0 ≤ n ∧ n ≤ 9223372036854775807:=by
 induction l with
 | nil =>
  intro acc n h0 h1 h
  rw [rGo] at h
  cases h
  exact ⟨h0,h1⟩
 | cons c r ih =>
  intro acc n h0 h1 h
  by_cases hb : (c.toNat : Int) < 48 ∨ 57 < (c.toNat : Int) ∨ (9223372036854775807 - ((c.toNat : Int) - 48)) / 10 < acc
  · rw [rGo_bad hb] at h
    cases h
  · rw [rGo_step hb] at h
    exact ih _ n (by omega) (by omega) h
theorem eq_of_lists {a b : ByteArray} (h : (a.toList == b.toList) = true) : a = b:=by
 rw [ByteArray.toList_eq,ByteArray.toList_eq] at h
 exact bytes_inj (eq_of_beq h)
theorem same_num (s : ByteArray) : (∃ v,numM s = (v,true) ∧ rNum s = (v,true)) ∨ (∃ v,numM s = (0,false) ∧ rNum s = (v,false)):=by
 by_cases hr : (rNum s).2 = true
 · left
   by_cases hs : s.size = 0 ∨ 19 < s.size
   · rw [show rNum s = (0,false) from if_pos hs] at hr
     cases hr
   · have e1 : rNum s = match rGo 0 s.data.toList with
      | none => (0,false)
      | some n => (n,(dig n).toList == s.toList):=if_neg hs
     cases hg : rGo 0 s.data.toList with
     | none =>
      rw [e1,hg] at hr
      cases hr
     | some n =>
      rw [e1,hg] at hr
      simp only at hr
      have hb:=rGo_bd _ _ _ (by omega) (by omega) hg
      have he:=eq_of_lists hr
      refine ⟨n,?_,?_⟩
      · rw [← he]
        exact num_dig hb.1 hb.2
      · rw [e1,hg]
        simp only [hr]
 · have hr2 : (rNum s).2 = false:=by simpa using hr
   right
   refine ⟨(rNum s).1,?_,by rw [← hr2]⟩
   unfold numM
   by_cases hl : 19 < s.size
   · rw [if_pos hl]
   · rw [if_neg hl]
     rcases hp : Lib.parseIntB 64 s.data.toList with v | _ | _
     · simp only
       by_cases hv : v < 0
       · rw [if_pos hv]
       · rw [if_neg hv]
         by_cases ht : ((dig v).toList == s.toList) = true
         · exfalso
           have he:=eq_of_lists ht
           obtain ⟨b1,b2⟩:=Lib.parseIntB_bounds hp
           have b3 : v ≤ 9223372036854775807:=by simp at b2;omega
           obtain ⟨u,rfl⟩:=Int.eq_ofNat_of_zero_le (show 0 ≤ v by omega)
           have hsd : s.data.toList = Lib.decDigits u:=by rw [← he,dig_nat]
           have hg:=go_dec u [] (by omega)
           rw [List.append_nil,← hsd] at hg
           obtain ⟨c,r,hc,_⟩:=dec_head u
           have hz : s.size = r.length + 1:=by rw [size_list,hsd,hc];rfl
           have hs0 : ¬ (s.size = 0 ∨ 19 < s.size):=by omega
           apply hr
           unfold rNum
           rw [if_neg hs0,hg]
           simp only [rGo]
           exact ht
         · rw [if_neg ht]
     · rfl
     · rfl
def hasB (l : List UInt8) (c : UInt8) : Bool:=l.contains c
theorem in_any (s : ByteArray) (c : UInt8) (w : World) (hm : s.size ≤ 9223372036854775807) : Calls Try.prog 40 #[.string s,.int .u8 c.toNat] w fun e w' => e = .returned (.bool (hasB s.data.toList c)) ∧ w = w':=by
 go_enter Try.func40,Try.ntmps40
 go_wp2
 go_loop [5] (fun i => ∃ k : Nat,i = .int .i64 k ∧ k ≤ s.size ∧ Hid (∀ j (h : j < s.size),j < k → (s[j]'h) ≠ c)) (fun i => s.size - (intOf i).toNat)
 case atStart => exact ⟨0,rfl,Nat.zero_le _,hid (fun j _ h => absurd h (by omega))⟩
 case round =>
  obtain ⟨k,rfl,hk,HN⟩:=hrel
  by_cases hlt : k < s.size
  · by_cases hc : (s[k]'hlt) = c
    · have hb : (((s[k]'hlt).toNat : Int) == (c.toNat : Int)) = true:=by rw [hc];simp
      have HR : Hid (hasB s.data.toList c = true):=hid (by unfold hasB;rw [List.contains_iff_mem];exact List.mem_of_getElem? (i:=k) (by rw [at_list s k hlt,hc]))
      clear hc
      go_wp2
      go_ret
      exact ⟨ret_bool (by rw [HR.out]),rfl⟩
    · have hb : (((s[k]'hlt).toNat : Int) == (c.toNat : Int)) = false:=by
       rw [beq_eq_false_iff_ne]
       intro h
       exact hc (UInt8.toNat_inj.1 (by omega))
      have HN2 : Hid (∀ j (h : j < s.size),j < k + 1 → (s[j]'h) ≠ c):=hid (fun j h hj => by
       by_cases e : j = k
       · subst e
         exact hc
       · exact HN.out j h (by omega))
      clear hc
      go_wp2
      go_round
      case rel => exact ⟨k + 1,by go_num,by omega,HN2⟩
      case measure => simp [intOf];omega
  · have HR : Hid (hasB s.data.toList c = false):=hid (by
     unfold hasB
     rw [Bool.eq_false_iff]
     intro h
     rw [List.contains_iff_mem] at h
     obtain ⟨j,hj,e⟩:=List.getElem_of_mem h
     have hj2 : j < s.size:=hj
     exact HN.out j hj2 (by omega) e)
    go_wp2
    go_ret
    exact ⟨ret_bool (by rw [HR.out]),rfl⟩
def pairB (k : Nat) : ByteArray:=⟨(pairL.getD k []).toArray⟩
def pairsC : Array Value:=#[.string ⟨#[38,38]⟩,.string ⟨#[124,124]⟩,.string ⟨#[61,61]⟩,.string ⟨#[33,61]⟩,.string ⟨#[60,61]⟩,.string ⟨#[62,61]⟩,.string ⟨#[60,60]⟩,.string ⟨#[62,62]⟩]
theorem pairs_at (k : Nat) (h : k < 8) : pairsC[k]? = some (.string (pairB k)):=by
 match k,h with
 | 0,_ => rfl
 | 1,_ => rfl
 | 2,_ => rfl
 | 3,_ => rfl
 | 4,_ => rfl
 | 5,_ => rfl
 | 6,_ => rfl
 | 7,_ => rfl
theorem in_is {s : ByteArray} {c : UInt8} {b : Bool} (h : hasB s.data.toList c = b) (hm : s.size ≤ 9223372036854775807) (w : World) : Calls Try.prog 40 #[.string s,.int .u8 c.toNat] w fun e w' => e = .returned (.bool b) ∧ w = w':=h ▸ in_any s c w hm
def Unlike (s : ByteArray) (k : Nat) : Prop:=∀ j,j < k → ((s.extract 0 2).toList == (pairB j).toList) = false
theorem Unlike.get {s : ByteArray} {k : Nat} (h : Unlike s k) (j : Nat) (hj : j < k) : ((s.extract 0 2).toList == pairL.getD j []) = false:=by
 have e:=h j hj
 rw [show (pairB j).toList = pairL.getD j [] from ByteArray.toList_eq _] at e
 exact e
theorem Unlike.step {s : ByteArray} {k : Nat} (h : Unlike s k) (h2 : ((s.extract 0 2).toList == (pairB k).toList) = false) : Unlike s (k + 1):=by
 intro j hj
 by_cases e : j = k
 · subst e
   exact h2
 · exact h j (by omega)
theorem pairs_in (k : Nat) (h : k < 8) : pairL.contains (pairB k).toList = true:=by
 rw [ByteArray.toList_eq]
 match k,h with
 | 0,_ => rfl
 | 1,_ => rfl
 | 2,_ => rfl
 | 3,_ => rfl
 | 4,_ => rfl
 | 5,_ => rfl
 | 6,_ => rfl
 | 7,_ => rfl
theorem ext_zero (s : ByteArray) : s.extract 0 0 = ⟨#[]⟩:=by rw [Lib.extract_eq];rfl
theorem rsign_long (s : ByteArray) (w : World) (h2 : 1 < s.size) (hm : s.size ≤ 9223372036854775807) : Calls Try.prog 44 #[.string s] w fun e w' => e = .returned (.string (s.extract 0 (sgnLen s.data.toList))) ∧ Below w.heap.size w w':=by
 go_enter Try.func44,Try.ntmps44
 go_wp2
 go_loopw [4] (fun i wr => ∃ k n : Nat,i = .int .i64 k ∧ k ≤ 8 ∧ wr = (w.alloc (.cells pairsC 9)).drewN n ∧ Hid (Unlike s k)) (fun i _ => 8 - (intOf i).toNat)
 case atStart => exact ⟨0,0,rfl,by omega,rfl,hid (fun j h => absurd h (by omega))⟩
 case round =>
  obtain ⟨k,n,rfl,hk,rfl,HU⟩:=hrel
  by_cases hlt : k < 8
  · obtain ⟨P,hP⟩ : ∃ P,P = pairB k:=⟨_,rfl⟩
    have hcell : (w.alloc (.cells pairsC 9)).cell? ⟨w.heap.size,k,none⟩ = some (.string P):=by
     rw [hP,← pairs_at k hlt]
     exact cell_of_row _ _ k pairsC 9 (0,0) (heap_alloc_new w _)
    have HP:=hid hP
    clear hP
    cases he : ((s.extract 0 2).toList == P.toList)
    · have hz1 : (1 : Int) < s.size:=by omega
      have hk2 : (k : Int) < 8:=by omega
      have hk0 : (0 : Int) ≤ k:=by omega
      go_wp2
      go_quiet (fail)
      go_wp2
      go_roundw
      case rel => exact ⟨k + 1,_,by go_num,by omega,rfl,hid (HU.out.step (by rw [← HP.out];exact he))⟩
      case measure => simp [intOf];omega
    · have HR:=hid (sgn_pair s h2 P.toList (by rw [HP.out];exact pairs_in k hlt) he)
      have HE:=hid (eq_of_lists he)
      have hz1 : (1 : Int) < s.size:=by omega
      have hk2 : (k : Int) < 8:=by omega
      have hk0 : (0 : Int) ≤ k:=by omega
      go_wp2
      go_quiet (fail)
      go_wp2
      go_ret
      exact ⟨ret_str (by rw [HR.out,HE.out]),below_drewN ((Below.refl _ _).alloc (Nat.le_refl _) _) _⟩
  · obtain rfl : k = 8:=by omega
    have HS:=hid (sgn_single s h2 (HU.out.get 0 (by omega)) (HU.out.get 1 (by omega)) (HU.out.get 2 (by omega)) (HU.out.get 3 (by omega)) (HU.out.get 4 (by omega)) (HU.out.get 5 (by omega)) (HU.out.get 6 (by omega)) (HU.out.get 7 (by omega)))
    cases hc : hasB oneL (s[0]'(by omega))
    · have HC:=hid hc
      have HR : Hid (sgnLen s.data.toList = 0):=hid (by rw [HS.out,if_neg (by unfold hasB at hc;rw [hc];decide)])
      clear hc
      go_wp2_with (go_at_call 40;refine (in_is (s:=⟨#[43,45,42,47,37,38,124,94,60,62,33,61,40,41,91,93,123,125,59,44]⟩) HC.out (by decide) _).mono ?_;rintro e' w' ⟨rfl,rfl⟩)
      go_ret
      exact ⟨ret_str (by rw [HR.out];exact (ext_zero s).symm),below_drewN ((Below.refl _ _).alloc (Nat.le_refl _) _) _⟩
    · have HC:=hid hc
      have HR : Hid (sgnLen s.data.toList = 1):=hid (by rw [HS.out,if_pos (by unfold hasB at hc;exact hc)])
      clear hc
      go_wp2_with (go_at_call 40;refine (in_is (s:=⟨#[43,45,42,47,37,38,124,94,60,62,33,61,40,41,91,93,123,125,59,44]⟩) HC.out (by decide) _).mono ?_;rintro e' w' ⟨rfl,rfl⟩)
      go_ret
      exact ⟨ret_str (by rw [HR.out]),below_drewN ((Below.refl _ _).alloc (Nat.le_refl _) _) _⟩
theorem rsign_short (s : ByteArray) (w : World) (h2 : s.size = 1) : Calls Try.prog 44 #[.string s] w fun e w' => e = .returned (.string (s.extract 0 (sgnLen s.data.toList))) ∧ Below w.heap.size w w':=by
 have H2:=hid h2
 have hs1 : ¬ (1 : Int) < s.size:=by omega
 have hs0 : 0 < s.size:=by omega
 clear h2
 go_enter Try.func44,Try.ntmps44
 go_wp2
 go_loopw [4] (fun i wr => ∃ k n : Nat,i = .int .i64 k ∧ k ≤ 8 ∧ wr = (w.alloc (.cells pairsC 9)).drewN n) (fun i _ => 8 - (intOf i).toNat)
 case atStart => exact ⟨0,0,rfl,by omega,rfl⟩
 case round =>
  obtain ⟨k,n,rfl,hk,rfl⟩:=hrel
  by_cases hlt : k < 8
  · have hg : decide ((1 : Int) < s.size) = false:=by simpa using hs1
    go_wp2
    go_quiet (fail)
    go_wp2
    go_roundw
    case rel => exact ⟨k + 1,_,by go_num,by omega,rfl⟩
    case measure => simp [intOf];omega
  · obtain rfl : k = 8:=by omega
    have HS:=hid (sgn_one s H2.out)
    cases hc : hasB oneL (s[0]'(by omega))
    · have HC:=hid hc
      have HR : Hid (sgnLen s.data.toList = 0):=hid (by rw [HS.out,if_neg (by unfold hasB at hc;rw [hc];decide)])
      clear hc
      go_wp2_with (go_at_call 40;refine (in_is (s:=⟨#[43,45,42,47,37,38,124,94,60,62,33,61,40,41,91,93,123,125,59,44]⟩) HC.out (by decide) _).mono ?_;rintro e' w' ⟨rfl,rfl⟩)
      go_ret
      exact ⟨ret_str (by rw [HR.out];exact (ext_zero s).symm),below_drewN ((Below.refl _ _).alloc (Nat.le_refl _) _) _⟩
    · have HC:=hid hc
      have HR : Hid (sgnLen s.data.toList = 1):=hid (by rw [HS.out,if_pos (by unfold hasB at hc;exact hc)])
      clear hc
      go_wp2_with (go_at_call 40;refine (in_is (s:=⟨#[43,45,42,47,37,38,124,94,60,62,33,61,40,41,91,93,123,125,59,44]⟩) HC.out (by decide) _).mono ?_;rintro e' w' ⟨rfl,rfl⟩)
      go_ret
      exact ⟨ret_str (by rw [HR.out]),below_drewN ((Below.refl _ _).alloc (Nat.le_refl _) _) _⟩
theorem rsgn2_any (s : ByteArray) (w : World) (h0 : 0 < s.size) (hm : s.size ≤ 9223372036854775807) : Calls Try.prog 44 #[.string s] w fun e w' => e = .returned (.string (s.extract 0 (sgnLen s.data.toList))) ∧ Below w.heap.size w w':=by
 by_cases h : 1 < s.size
 · exact rsign_long s w h hm
 · exact rsign_short s w (by omega)
theorem infoW : (Try.prog.info? 82).map (fun i => (i.zero,i.size,i.bytes)) = some (some (.agg #[.int .i64 0,.string ⟨#[]⟩,.int .i64 0,.int .i64 0]),4,40):=by kernel_rfl
theorem span_part {l : List UInt8} {i : Nat} {x : UInt8} (h : i < spanL l) (hx : l[i]? = some x) : isPart x = true:=take_all isPart l i x h hx
theorem while_end {α : Type} (p : α → Bool) : ∀ (l : List α) (x : α),l[(l.takeWhile p).length]? = some x → p x = false
 | [],x,h => by simp at h
 | c :: r,x,h => by
  rw [List.takeWhile_cons] at h
  split at h
  · exact while_end p r x (by simpa using h)
  · rename_i hc
    simp at h
    rw [← h]
    simpa using hc
theorem rletter_is {c : UInt8} {b : Bool} (h : isLetter c = b) (w : World) : Calls Try.prog 41 #[.int .u8 c.toNat] w fun e w' => e = .returned (.bool b) ∧ w = w':=by
 rw [← h,← letterR_byte]
 exact rletter_any _ w
theorem rdigit_is {c : UInt8} {b : Bool} (h : isDigit c = b) (w : World) : Calls Try.prog 42 #[.int .u8 c.toNat] w fun e w' => e = .returned (.bool b) ∧ w = w':=by
 rw [← h,← digitR_byte]
 exact rdigit_any _ w
def RwordsEnd (B : Nat) (Wf : List Wd) (Rf : Option (Int × Nat)) (e : Ending) (w' : World) : Prop :=
 match Rf with
 | none => ∃ v,e = .returned (.tuple #[v,.int .i64 0,.int .i64 0]) ∧ w'.ownsRow B 82 4 v Wf.length (cellsW Wf)
 | some (e0,a0) => e = .returned (.tuple #[.slice none 0 0,.int .i64 e0,.int .i64 a0])
theorem blanks_eq (c : UInt8) : hasB (⟨#[32,9,10,13]⟩ : ByteArray).data.toList c = isBlank c:=by
 rw [Bool.eq_iff_iff]
 simp [hasB,isBlank,or_assoc]
theorem blank_in {c : UInt8} {b : Bool} (h : isBlank c = b) (w : World) : Calls Try.prog 40 #[.string ⟨#[32,9,10,13]⟩,.int .u8 c.toNat] w fun e w' => e = .returned (.bool b) ∧ w = w' :=
 in_is ((blanks_eq c).trans h) (by decide) w
theorem own_ne_new {w : World} {B e size n : Nat} {v : Value} {xs : List Value} (h : w.ownsRow B e size v n xs) : v.ownBlock ≠ some w.heap.size:=fun h2 => by
 have:=(h.lt _ h2).2
 omega
theorem own_set {w : World} {B e size n b : Nat} {v : Value} {xs : List Value} (h : w.ownsRow B e size v n xs) (hne : v.ownBlock ≠ some b) (i : Nat) (u : Value) : (w.setCell ⟨b,i,none⟩ u).ownsRow B e size v n xs:=by
 refine ⟨h.1,?_⟩
 rcases h.2 with h0 | ⟨g,cap,cur,rfl,hB,hg,rest⟩
 · exact .inl h0
 · exact .inr ⟨g,cap,cur,rfl,hB,(Below.heap_setCell w ⟨b,i,none⟩ u g (fun e => hne (by rw [e];rfl))).trans hg,rest⟩
theorem below_two {B b i j : Nat} {w w1 : World} (h : Below B w w1) (hb : B ≤ b) (x0 x1 : Value) : Below B w ((w1.setCell ⟨b,i,none⟩ x0).setCell ⟨b,j,none⟩ x1) :=
 (h.setCell (p:=⟨b,i,none⟩) hb x0).setCell (p:=⟨b,j,none⟩) hb x1
theorem span_facts (s : ByteArray) (k m J : Nat) (hm : spanL (s.data.toList.drop k) = m) (hJ : J = k + m) : (∀ j (h : j < s.size),k ≤ j → j < J → isPart (s[j]'h) = true) ∧ ∀ h : J < s.size,isPart (s[J]'h) = false:=by
 subst hJ
 refine ⟨fun j h hj1 hj2 => ?_,fun h => ?_⟩
 · have hx:=list_at s k (j - k) (by omega)
   have e : k + (j - k) = j:=by omega
   simp only [e] at hx
   exact span_part (by omega) hx
 · have hx:=list_at s k m h
   refine while_end isPart (s.data.toList.drop k) _ ?_
   show (s.data.toList.drop k)[spanL (s.data.toList.drop k)]? = _
   rw [hm]
   exact hx
theorem ext_drop (s : ByteArray) (k m J : Nat) (hJ : J = k + m) : s.extract k J = ⟨((s.data.toList.drop k).take m).toArray⟩:=by
 rw [Lib.extract_eq,hJ,Nat.add_sub_cancel_left]
theorem ext_size (s : ByteArray) (k J : Nat) : (s.extract k J).size = min J s.size - k:=by rw [ByteArray.size_extract]
theorem rnum_is {X : ByteArray} {v : Int} {b : Bool} (h : rNum X = (v,b)) (w : World) (hm : X.size ≤ 9223372036854775807) : Calls Try.prog 43 #[.string X] w fun e w' => e = .returned (.tuple #[.int .i64 v,.bool b]) ∧ w = w':=by
 have:=rnumber_any X w hm
 rw [h] at this
 exact this
theorem rnum_some {l : List UInt8} {v : Int} (h : numO l = some v) : rNum ⟨l.toArray⟩ = (v,true):=by
 have h1:=numO_some h
 rcases same_num ⟨l.toArray⟩ with ⟨v',e1,e2⟩ | ⟨v',e1,e2⟩
 · rw [h1] at e1
   rw [e2,(Prod.mk.inj e1).1]
 · rw [h1] at e1
   cases e1
theorem rnum_none {l : List UInt8} (h : numO l = none) : ∃ v,rNum ⟨l.toArray⟩ = (v,false):=by
 obtain ⟨v,h1⟩:=numO_none h
 rcases same_num ⟨l.toArray⟩ with ⟨v',e1,e2⟩ | ⟨v',e1,e2⟩
 · rw [h1] at e1
   cases e1
 · exact ⟨_,e2⟩
theorem rsign_at (s Y : ByteArray) (k n : Nat) (hp : k < s.size) (hm : s.size ≤ 16384) (hn : sgnLen (s.data.toList.drop k) = n) (hY : Y = ⟨((s.data.toList.drop k).take n).toArray⟩) (w : World) :
 Calls Try.prog 44 #[.string (s.extract k s.size)] w fun e w' => e = .returned (.string Y) ∧ Below w.heap.size w w':=by
 have h:=rsgn2_any (s.extract k s.size) w (by rw [rest_size];omega) (by rw [rest_size];omega)
 rw [take_ext,rest_list,hn,← hY] at h
 exact h
theorem rwords_any (s : ByteArray) (w : World) (hs : s.size ≤ 16384) (Wf : List Wd) (Rf : Option (Int × Nat)) (hS : Hid (Sc numO s.data.toList 0 Wf Rf)) :
 Calls Try.prog 22 #[.string s] w fun e w' => RwordsEnd w.heap.size Wf Rf e w' ∧ Below w.heap.size w w':=by
 obtain ⟨i0,hi,hz0,hz1,hz2⟩:=info_parts infoW
 go_enter Try.func22,Try.ntmps22
 go_wp2
 go_loopw [5,6] (fun v q wr => ∃ (k : Nat) (acc ws : List Wd),q = .int .i64 k ∧ k ≤ s.size ∧ wr.ownsRow w.heap.size 82 4 v acc.length (cellsW acc) ∧ Below w.heap.size w wr ∧ acc.length ≤ k ∧
  Hid (Sc numO (s.data.toList.drop k) k ws Rf ∧ acc ++ ws = Wf)) (fun _ q _ => s.size - (intOf q).toNat)
 case atStart => exact ⟨0,[],Wf,rfl,Nat.zero_le _,⟨rfl,.inl ⟨rfl,rfl⟩⟩,Below.refl _ _,Nat.le_refl _,hid ⟨hS.out,rfl⟩⟩
 case round =>
  obtain ⟨k,acc,ws,rfl,hk,hown,hbw,hal,HI⟩:=hrel
  by_cases hp : k < s.size
  · have hne:=drop_ne s k hp
    have hdl:=drop_len s k
    obtain ⟨q,hq⟩ : ∃ q,s.data.toList.drop k = (s[k]'hp) :: q:=by
     have h0:=list_at s k 0 hp
     obtain ⟨c,r,hc⟩:=List.exists_cons_of_ne_nil hne
     rw [hc] at h0 ⊢
     simp only [Nat.add_zero,List.getElem?_cons_zero,Option.some.injEq] at h0
     exact ⟨r,by rw [h0]⟩
    by_cases hb : isBlank (s[k]'hp) = true
    · have HB:=hid hb
      have ht : tok numO (s.data.toList.drop k) = .gap 1:=by rw [hq];simp only [tok,hb,if_true]
      have HI2 : Hid (Sc numO (s.data.toList.drop (k + 1)) (k + 1) ws Rf ∧ acc ++ ws = Wf):=hid ⟨by have:=HI.out.1.gap_inv hne ht;rwa [List.drop_drop] at this,HI.out.2⟩
      clear hb ht hne hdl hq
      go_wp2_with (go_at_call 40;with_reducible refine (blank_in HB.out _).mono ?_;rintro e' w' ⟨rfl,rfl⟩)
      go_roundw
      case rel => exact ⟨k + 1,acc,ws,by go_num,by omega,hown,hbw,by omega,HI2⟩
      case measure => simp [intOf];omega
    · have HB : Hid (isBlank (s[k]'hp) = false):=hid (by simpa using hb)
      by_cases hnt : (s[k]'hp) = 47 ∧ q.head? = some 47
      · obtain ⟨hc47,hq47⟩:=hnt
        have h47 : (((s[k]'hp).toNat : Int) == 47) = true:=by rw [hc47];rfl
        have hk1 : k + 1 < s.size:=by
         have h1:=congrArg List.length hq
         rw [hdl,List.length_cons] at h1
         have h2 : 0 < q.length:=by
          cases q with
          | nil => cases hq47
          | cons a b => simp
         omega
        have h471 : (((s[k + 1]'hk1).toNat : Int) == 47) = true:=by
         have h1:=list_at s k 1 hk1
         rw [hq] at h1
         have h2 : some (s[k + 1]'hk1) = some 47:=by
          rw [← h1,← hq47]
          cases q <;> rfl
         rw [Option.some.inj h2]
         rfl
        obtain ⟨m,hm⟩ : ∃ m,noteL (s.data.toList.drop k) = m:=⟨_,rfl⟩
        have ht : tok numO (s.data.toList.drop k) = .gap m:=by
         rw [← hm,hq]
         simp only [tok]
         rw [if_neg hb,if_pos ⟨hc47,hq47⟩]
        obtain ⟨hm1,hm2⟩:=tok_gap hne ht
        have hm3 : k + m ≤ s.size:=by omega
        have HI2 : Hid (Sc numO (s.data.toList.drop (k + m)) (k + m) ws Rf ∧ acc ++ ws = Wf):=hid ⟨by have:=HI.out.1.gap_inv hne ht;rwa [List.drop_drop] at this,HI.out.2⟩
        have HN : Hid ((∀ j (h : j < s.size),k ≤ j → j < k + m → (((s[j]'h).toNat : Int) == 10) = false) ∧ ∀ h : k + m < s.size,(((s[k + m]'h).toNat : Int) == 10) = true):=by
         refine hid ⟨fun j h hj1 hj2 => ?_,fun h => ?_⟩
         · have hx:=list_at s k (j - k) (by omega)
           have e : k + (j - k) = j:=by omega
           simp only [e] at hx
           have h1:=take_all _ _ (j - k) _ (by have:=hm;unfold noteL at this;rw [this];omega) hx
           rw [beq_eq_false_iff_ne]
           intro h2
           have h3 : (s[j]'h) = 10:=UInt8.toNat_inj.1 (by show _ = 10;omega)
           rw [h3] at h1
           cases h1
         · have hx:=list_at s k m h
           have h10 : s[k + m] = 10:=note_end (by rw [hm];exact hx)
           rw [h10]
           rfl
        clear hb hc47 hq47 ht hne hdl hq hm hm2
        go_wp2_with (go_at_call 40;with_reducible refine (blank_in HB.out _).mono ?_;rintro e' w' ⟨rfl,rfl⟩)
        obtain ⟨wo,hwo⟩ : ∃ wo : World,wo = wr:=⟨_,rfl⟩
        subst hwo
        go_loop [6] (fun i => ∃ j : Nat,i = .int .i64 j ∧ k ≤ j ∧ j ≤ k + m) (fun i => k + m - (intOf i).toNat)
        case atStart => exact ⟨k,rfl,Nat.le_refl _,by omega⟩
        case round =>
         obtain ⟨j,rfl,hj1,hj2⟩:=hrel
         by_cases hj : j < k + m
         · have hjs : j < s.size:=by omega
           have h10:=HN.out.1 j hjs hj1 hj
           have hne10 : (((s[j]'hjs).toNat : Int) != 10) = true:=by simp [bne,h10]
           go_wp2
           go_round
           case rel => exact ⟨j + 1,by go_num,by omega,by omega⟩
           case measure => simp [intOf];omega
         · obtain rfl : j = k + m:=by omega
           by_cases hje : k + m < s.size
           · have h10:=HN.out.2 hje
             have hne10 : (((s[k + m]'hje).toNat : Int) != 10) = false:=by simp [bne,h10]
             go_wp2
             go_roundw
             case rel => exact ⟨k + m,acc,ws,by go_num,by omega,hown,hbw,by omega,HI2⟩
             case measure => simp [intOf];omega
           · go_wp2
             go_roundw
             case rel => exact ⟨k + m,acc,ws,by go_num,by omega,hown,hbw,by omega,HI2⟩
             case measure => simp [intOf];omega
      · obtain ⟨m,hm⟩ : ∃ m,spanL (s.data.toList.drop k) = m:=⟨_,rfl⟩
        obtain ⟨J,hJ⟩ : ∃ J,J = k + m:=⟨_,rfl⟩
        have hml : m ≤ s.size - k:=by rw [← hm,← hdl];exact span_le _
        have hJk : k ≤ J:=by omega
        have hJs : J ≤ s.size:=by omega
        have HP : Hid ((∀ j (h : j < s.size),k ≤ j → j < J → isPart (s[j]'h) = true) ∧ ∀ h : J < s.size,isPart (s[J]'h) = false):=hid (span_facts s k m J hm hJ)
        clear hml
        by_cases hlet : isLetter (s[k]'hp) = true
        · have HL:=hid hlet
          have h47 : (((s[k]'hp).toNat : Int) == 47) = false:=by
           rw [beq_eq_false_iff_ne]
           intro h
           have h2 : (s[k]'hp) = 47:=UInt8.toNat_inj.1 (by show _ = 47;omega)
           rw [h2] at hlet
           exact absurd hlet (by decide)
          by_cases h24 : 24 < m
          · have ht : tok numO (s.data.toList.drop k) = .bad 2:=by
             rw [← hm] at h24
             rw [hq] at h24 ⊢
             simp only [tok]
             rw [if_neg hb,if_neg hnt,if_pos hlet,if_pos h24]
            obtain ⟨e1,e2⟩:=HI.out.1.bad_inv hne ht
            have HR:=hid e2
            have hJ24 : k + 24 < J:=by omega
            clear hb hnt hlet h24 ht hne hdl hq hm e1 e2 hJ
            go_wp2_with (go_at_call 40;with_reducible refine (blank_in HB.out _).mono ?_;rintro e' w' ⟨rfl,rfl⟩)
            obtain ⟨wo,hwo⟩ : ∃ wo : World,wo = wr:=⟨_,rfl⟩
            subst hwo
            go_loop [8] (fun n => ∃ j : Nat,n = .int .i64 j ∧ k ≤ j ∧ j ≤ J) (fun n => J - (intOf n).toNat)
            case atStart => exact ⟨k,rfl,Nat.le_refl _,by omega⟩
            case round =>
             obtain ⟨j,rfl,hj1,hj2⟩:=hrel
             by_cases hj : j < J
             · have hjs : j < s.size:=by omega
               have hpt:=HP.out.1 j hjs hj1 hj
               cases hl : isLetter (s[j]'hjs)
               · have HL1:=hid hl
                 have HD1 : Hid (isDigit (s[j]'hjs) = true):=hid (by unfold isPart at hpt;rw [hl] at hpt;simpa using hpt)
                 clear hl hpt
                 go_wp2_with (first | (go_at_call 41;with_reducible refine (rletter_is HL1.out _).mono ?_;rintro e' w' ⟨rfl,rfl⟩) | (go_at_call 42;with_reducible refine (rdigit_is HD1.out _).mono ?_;rintro e' w' ⟨rfl,rfl⟩))
                 go_round
                 case rel => exact ⟨j + 1,by go_num,by omega,by omega⟩
                 case measure => simp [intOf];omega
               · have HL1:=hid hl
                 clear hl hpt
                 go_wp2_with (first | (go_at_call 41;with_reducible refine (rletter_is HL1.out _).mono ?_;rintro e' w' ⟨rfl,rfl⟩))
                 go_round
                 case rel => exact ⟨j + 1,by go_num,by omega,by omega⟩
                 case measure => simp [intOf];omega
             · obtain rfl : j = J:=by omega
               by_cases hje : j < s.size
               · have hpt:=HP.out.2 hje
                 have HL1 : Hid (isLetter (s[j]'hje) = false):=hid (by unfold isPart at hpt;simp at hpt;exact hpt.1)
                 have HD1 : Hid (isDigit (s[j]'hje) = false):=hid (by unfold isPart at hpt;simp at hpt;exact hpt.2)
                 clear hpt
                 go_wp2_with (first | (go_at_call 41;with_reducible refine (rletter_is HL1.out _).mono ?_;rintro e' w' ⟨rfl,rfl⟩) | (go_at_call 42;with_reducible refine (rdigit_is HD1.out _).mono ?_;rintro e' w' ⟨rfl,rfl⟩) | (go_at_call 41;with_reducible refine (rletter_is HL.out _).mono ?_;rintro e' w' ⟨rfl,rfl⟩))
                 go_ret3
                 exact ⟨by rw [HR.out];rfl,hbw.alloc hbw.size _⟩
               · go_wp2_with (first | (go_at_call 41;with_reducible refine (rletter_is HL.out _).mono ?_;rintro e' w' ⟨rfl,rfl⟩))
                 go_ret3
                 exact ⟨by rw [HR.out];rfl,hbw.alloc hbw.size _⟩
          · have ht : tok numO (s.data.toList.drop k) = .word 0 m 0:=by
             rw [← hm] at h24
             rw [← hm,hq]
             rw [hq] at h24
             simp only [tok]
             rw [if_neg hb,if_neg hnt,if_pos hlet,if_neg h24]
            obtain ⟨ws2,hw2,hsc2⟩:=HI.out.1.word_inv hne ht
            rw [List.drop_drop] at hsc2
            have HI2 : Hid (Sc numO (s.data.toList.drop J) J ws2 Rf ∧ (acc ++ [⟨0,(s.data.toList.drop k).take m,0,k⟩]) ++ ws2 = Wf):=hid ⟨by rw [hJ];exact hsc2,by rw [← HI.out.2,hw2];simp⟩
            have hJ24 : J ≤ k + 24:=by omega
            have hJ1 : k + 1 ≤ J:=by have:=tok_word hne ht;omega
            have HX:=hid (ext_drop s k m J hJ)
            clear hb hnt hlet h24 ht hne hdl hq hm hw2 hsc2 hJ
            go_wp2_with (go_at_call 40;with_reducible refine (blank_in HB.out _).mono ?_;rintro e' w' ⟨rfl,rfl⟩)
            obtain ⟨wo,hwo⟩ : ∃ wo : World,wo = wr:=⟨_,rfl⟩
            subst hwo
            go_loop [8] (fun n => ∃ j : Nat,n = .int .i64 j ∧ k ≤ j ∧ j ≤ J) (fun n => J - (intOf n).toNat)
            case atStart => exact ⟨k,rfl,Nat.le_refl _,by omega⟩
            case round =>
             obtain ⟨j,rfl,hj1,hj2⟩:=hrel
             by_cases hj : j < J
             · have hjs : j < s.size:=by omega
               have hpt:=HP.out.1 j hjs hj1 hj
               cases hl : isLetter (s[j]'hjs)
               · have HL1:=hid hl
                 have HD1 : Hid (isDigit (s[j]'hjs) = true):=hid (by unfold isPart at hpt;rw [hl] at hpt;simpa using hpt)
                 clear hl hpt
                 go_wp2_with (first | (go_at_call 41;with_reducible refine (rletter_is HL1.out _).mono ?_;rintro e' w' ⟨rfl,rfl⟩) | (go_at_call 42;with_reducible refine (rdigit_is HD1.out _).mono ?_;rintro e' w' ⟨rfl,rfl⟩))
                 go_round
                 case rel => exact ⟨j + 1,by go_num,by omega,by omega⟩
                 case measure => simp [intOf];omega
               · have HL1:=hid hl
                 clear hl hpt
                 go_wp2_with (first | (go_at_call 41;with_reducible refine (rletter_is HL1.out _).mono ?_;rintro e' w' ⟨rfl,rfl⟩))
                 go_round
                 case rel => exact ⟨j + 1,by go_num,by omega,by omega⟩
                 case measure => simp [intOf];omega
             · obtain rfl : j = J:=by omega
               by_cases hje : j < s.size
               · have hpt:=HP.out.2 hje
                 have HL1 : Hid (isLetter (s[j]'hje) = false):=hid (by unfold isPart at hpt;simp at hpt;exact hpt.1)
                 have HD1 : Hid (isDigit (s[j]'hje) = false):=hid (by unfold isPart at hpt;simp at hpt;exact hpt.2)
                 clear hpt
                 go_wp2_with (first | (go_at_call 41;with_reducible refine (rletter_is HL1.out _).mono ?_;rintro e' w' ⟨rfl,rfl⟩) | (go_at_call 42;with_reducible refine (rdigit_is HD1.out _).mono ?_;rintro e' w' ⟨rfl,rfl⟩) | (go_at_call 41;with_reducible refine (rletter_is HL.out _).mono ?_;rintro e' w' ⟨rfl,rfl⟩) | (at_builtin;go_must (refine wpList_append_own _ rfl (.tmp 117) (.tmp 119) 72 rfl w.heap.size 82 i0 _ 4 40 Try.underlying72 hi hz0 hz1 hz2 rfl (by decide) _ _ _ rfl ((hown.alloc _).alloc _) ⟨_,0,none⟩ 1 1 [.int .i64 0,.string (s.extract k j),.int .i64 0,.int .i64 k] rfl rfl (cell_four_at _ _ _ _ _ _ _ (by simp)) (four_one _ _ _ _) (by unfold maxLen;omega) (by omega) (by have:=hbw.size;simp;omega) ?_;intro v4 w4 hown4 hgrow4 _)))
                 go_roundw
                 case rel =>
                  refine ⟨j,acc ++ [⟨0,(s.data.toList.drop k).take m,0,k⟩],ws2,rfl,by omega,?_,?_,?_,HI2⟩
                  · rw [cellsW_snoc,List.length_append]
                    have e : wcells ⟨0,(s.data.toList.drop k).take m,0,k⟩ = [.int .i64 0,.string (s.extract k j),.int .i64 0,.int .i64 k]:=by rw [HX.out];rfl
                    rw [e]
                    exact hown4
                  · exact ((hbw.alloc hbw.size _).alloc (by have:=hbw.size;simp;omega) _).grown hgrow4 (by have:=hbw.size;simp;omega) (fun j hj => (hown.lt j hj).1)
                  · rw [List.length_append]
                    show acc.length + 1 ≤ _
                    omega
                 case measure => simp [intOf];omega
               · go_wp2_with (first | (go_at_call 41;with_reducible refine (rletter_is HL.out _).mono ?_;rintro e' w' ⟨rfl,rfl⟩) | (at_builtin;go_must (refine wpList_append_own _ rfl (.tmp 117) (.tmp 119) 72 rfl w.heap.size 82 i0 _ 4 40 Try.underlying72 hi hz0 hz1 hz2 rfl (by decide) _ _ _ rfl ((hown.alloc _).alloc _) ⟨_,0,none⟩ 1 1 [.int .i64 0,.string (s.extract k j),.int .i64 0,.int .i64 k] rfl rfl (cell_four_at _ _ _ _ _ _ _ (by simp)) (four_one _ _ _ _) (by unfold maxLen;omega) (by omega) (by have:=hbw.size;simp;omega) ?_;intro v4 w4 hown4 hgrow4 _)))
                 go_roundw
                 case rel =>
                  refine ⟨j,acc ++ [⟨0,(s.data.toList.drop k).take m,0,k⟩],ws2,rfl,by omega,?_,?_,?_,HI2⟩
                  · rw [cellsW_snoc,List.length_append]
                    have e : wcells ⟨0,(s.data.toList.drop k).take m,0,k⟩ = [.int .i64 0,.string (s.extract k j),.int .i64 0,.int .i64 k]:=by rw [HX.out];rfl
                    rw [e]
                    exact hown4
                  · exact ((hbw.alloc hbw.size _).alloc (by have:=hbw.size;simp;omega) _).grown hgrow4 (by have:=hbw.size;simp;omega) (fun j hj => (hown.lt j hj).1)
                  · rw [List.length_append]
                    show acc.length + 1 ≤ _
                    omega
                 case measure => simp [intOf];omega
        · have HL : Hid (isLetter (s[k]'hp) = false):=hid (by simpa using hlet)
          by_cases hdig : isDigit (s[k]'hp) = true
          · have HD:=hid hdig
            have h47 : (((s[k]'hp).toNat : Int) == 47) = false:=by
             rw [beq_eq_false_iff_ne]
             intro h
             have h2 : (s[k]'hp) = 47:=UInt8.toNat_inj.1 (by show _ = 47;omega)
             rw [h2] at hdig
             exact absurd hdig (by decide)
            cases hnum : numO ((s.data.toList.drop k).take m) with
            | none =>
             have ht : tok numO (s.data.toList.drop k) = .bad 10:=by
              rw [← hm] at hnum
              rw [hq] at hnum ⊢
              simp only [tok]
              rw [if_neg hb,if_neg hnt,if_neg hlet,if_pos hdig,hnum]
             obtain ⟨e1,e2⟩:=HI.out.1.bad_inv hne ht
             have HR:=hid e2
             have HX:=hid (ext_drop s k m J hJ)
             obtain ⟨v,hv⟩:=rnum_none hnum
             have HV : Hid (rNum (s.extract k J) = (v,false)):=hid (by rw [HX.out];exact hv)
             clear hb hnt hlet hdig ht hne hdl hq hm e1 e2 hJ hnum hv
             go_wp2_with (go_at_call 40;with_reducible refine (blank_in HB.out _).mono ?_;rintro e' w' ⟨rfl,rfl⟩)
             obtain ⟨wo,hwo⟩ : ∃ wo : World,wo = wr:=⟨_,rfl⟩
             subst hwo
             go_loop [8] (fun n => ∃ j : Nat,n = .int .i64 j ∧ k ≤ j ∧ j ≤ J) (fun n => J - (intOf n).toNat)
             case atStart => exact ⟨k,rfl,Nat.le_refl _,by omega⟩
             case round =>
              obtain ⟨j,rfl,hj1,hj2⟩:=hrel
              by_cases hj : j < J
              · have hjs : j < s.size:=by omega
                have hpt:=HP.out.1 j hjs hj1 hj
                cases hl : isLetter (s[j]'hjs)
                · have HL1:=hid hl
                  have HD1 : Hid (isDigit (s[j]'hjs) = true):=hid (by unfold isPart at hpt;rw [hl] at hpt;simpa using hpt)
                  clear hl hpt
                  go_wp2_with (first | (go_at_call 41;with_reducible refine (rletter_is HL1.out _).mono ?_;rintro e' w' ⟨rfl,rfl⟩) | (go_at_call 42;with_reducible refine (rdigit_is HD1.out _).mono ?_;rintro e' w' ⟨rfl,rfl⟩))
                  go_round
                  case rel => exact ⟨j + 1,by go_num,by omega,by omega⟩
                  case measure => simp [intOf];omega
                · have HL1:=hid hl
                  clear hl hpt
                  go_wp2_with (first | (go_at_call 41;with_reducible refine (rletter_is HL1.out _).mono ?_;rintro e' w' ⟨rfl,rfl⟩))
                  go_round
                  case rel => exact ⟨j + 1,by go_num,by omega,by omega⟩
                  case measure => simp [intOf];omega
              · obtain rfl : j = J:=by omega
                by_cases hje : j < s.size
                · have hpt:=HP.out.2 hje
                  have HL1 : Hid (isLetter (s[j]'hje) = false):=hid (by unfold isPart at hpt;simp at hpt;exact hpt.1)
                  have HD1 : Hid (isDigit (s[j]'hje) = false):=hid (by unfold isPart at hpt;simp at hpt;exact hpt.2)
                  clear hpt
                  go_wp2_with (first | (go_at_call 41;with_reducible refine (rletter_is HL1.out _).mono ?_;rintro e' w' ⟨rfl,rfl⟩) | (go_at_call 42;with_reducible refine (rdigit_is HD1.out _).mono ?_;rintro e' w' ⟨rfl,rfl⟩) | (go_at_call 41;with_reducible refine (rletter_is HL.out _).mono ?_;rintro e' w' ⟨rfl,rfl⟩) | (go_at_call 42;with_reducible refine (rdigit_is HD.out _).mono ?_;rintro e' w' ⟨rfl,rfl⟩) | (go_at_call 43;refine (rnum_is HV.out _ (by rw [ext_size];omega)).mono ?_;rintro e' w' ⟨rfl,rfl⟩))
                  go_ret3
                  exact ⟨by rw [HR.out];rfl,hbw.alloc hbw.size _⟩
                · go_wp2_with (first | (go_at_call 41;with_reducible refine (rletter_is HL.out _).mono ?_;rintro e' w' ⟨rfl,rfl⟩) | (go_at_call 42;with_reducible refine (rdigit_is HD.out _).mono ?_;rintro e' w' ⟨rfl,rfl⟩) | (go_at_call 43;refine (rnum_is HV.out _ (by rw [ext_size];omega)).mono ?_;rintro e' w' ⟨rfl,rfl⟩))
                  go_ret3
                  exact ⟨by rw [HR.out];rfl,hbw.alloc hbw.size _⟩
            | some v =>
             have ht : tok numO (s.data.toList.drop k) = .word 1 m v:=by
              rw [← hm] at hnum
              rw [← hm,hq]
              rw [hq] at hnum
              simp only [tok]
              rw [if_neg hb,if_neg hnt,if_neg hlet,if_pos hdig,hnum]
             obtain ⟨ws2,hw2,hsc2⟩:=HI.out.1.word_inv hne ht
             rw [List.drop_drop] at hsc2
             have HI2 : Hid (Sc numO (s.data.toList.drop J) J ws2 Rf ∧ (acc ++ [⟨1,(s.data.toList.drop k).take m,v,k⟩]) ++ ws2 = Wf):=hid ⟨by rw [hJ];exact hsc2,by rw [← HI.out.2,hw2];simp⟩
             have hJ1 : k + 1 ≤ J:=by have:=tok_word hne ht;omega
             have HX:=hid (ext_drop s k m J hJ)
             have HV : Hid (rNum (s.extract k J) = (v,true)):=hid (by rw [HX.out];exact rnum_some hnum)
             clear hb hnt hlet hdig ht hne hdl hq hm hw2 hsc2 hJ hnum
             go_wp2_with (go_at_call 40;with_reducible refine (blank_in HB.out _).mono ?_;rintro e' w' ⟨rfl,rfl⟩)
             obtain ⟨wo,hwo⟩ : ∃ wo : World,wo = wr:=⟨_,rfl⟩
             subst hwo
             go_loop [8] (fun n => ∃ j : Nat,n = .int .i64 j ∧ k ≤ j ∧ j ≤ J) (fun n => J - (intOf n).toNat)
             case atStart => exact ⟨k,rfl,Nat.le_refl _,by omega⟩
             case round =>
              obtain ⟨j,rfl,hj1,hj2⟩:=hrel
              by_cases hj : j < J
              · have hjs : j < s.size:=by omega
                have hpt:=HP.out.1 j hjs hj1 hj
                cases hl : isLetter (s[j]'hjs)
                · have HL1:=hid hl
                  have HD1 : Hid (isDigit (s[j]'hjs) = true):=hid (by unfold isPart at hpt;rw [hl] at hpt;simpa using hpt)
                  clear hl hpt
                  go_wp2_with (first | (go_at_call 41;with_reducible refine (rletter_is HL1.out _).mono ?_;rintro e' w' ⟨rfl,rfl⟩) | (go_at_call 42;with_reducible refine (rdigit_is HD1.out _).mono ?_;rintro e' w' ⟨rfl,rfl⟩))
                  go_round
                  case rel => exact ⟨j + 1,by go_num,by omega,by omega⟩
                  case measure => simp [intOf];omega
                · have HL1:=hid hl
                  clear hl hpt
                  go_wp2_with (first | (go_at_call 41;with_reducible refine (rletter_is HL1.out _).mono ?_;rintro e' w' ⟨rfl,rfl⟩))
                  go_round
                  case rel => exact ⟨j + 1,by go_num,by omega,by omega⟩
                  case measure => simp [intOf];omega
              · obtain rfl : j = J:=by omega
                by_cases hje : j < s.size
                · have hpt:=HP.out.2 hje
                  have HL1 : Hid (isLetter (s[j]'hje) = false):=hid (by unfold isPart at hpt;simp at hpt;exact hpt.1)
                  have HD1 : Hid (isDigit (s[j]'hje) = false):=hid (by unfold isPart at hpt;simp at hpt;exact hpt.2)
                  clear hpt
                  go_wp2_with (first | (go_at_call 41;with_reducible refine (rletter_is HL1.out _).mono ?_;rintro e' w' ⟨rfl,rfl⟩) | (go_at_call 42;with_reducible refine (rdigit_is HD1.out _).mono ?_;rintro e' w' ⟨rfl,rfl⟩) | (go_at_call 41;with_reducible refine (rletter_is HL.out _).mono ?_;rintro e' w' ⟨rfl,rfl⟩) | (go_at_call 42;with_reducible refine (rdigit_is HD.out _).mono ?_;rintro e' w' ⟨rfl,rfl⟩) | (go_at_call 43;refine (rnum_is HV.out _ (by rw [ext_size];omega)).mono ?_;rintro e' w' ⟨rfl,rfl⟩) | (at_builtin;go_must (refine wpList_append_own _ rfl (.tmp 117) (.tmp 119) 72 rfl w.heap.size 82 i0 _ 4 40 Try.underlying72 hi hz0 hz1 hz2 rfl (by decide) _ _ _ rfl ((hown.alloc _).alloc _) ⟨_,0,none⟩ 1 1 [.int .i64 1,.string (s.extract k j),.int .i64 v,.int .i64 k] rfl rfl (cell_four_at _ _ _ _ _ _ _ (by simp)) (four_one _ _ _ _) (by unfold maxLen;omega) (by omega) (by have:=hbw.size;simp;omega) ?_;intro v4 w4 hown4 hgrow4 _)))
                  go_roundw
                  case rel =>
                   refine ⟨j,acc ++ [⟨1,(s.data.toList.drop k).take m,v,k⟩],ws2,rfl,by omega,?_,?_,?_,HI2⟩
                   · rw [cellsW_snoc,List.length_append]
                     have e : wcells ⟨1,(s.data.toList.drop k).take m,v,k⟩ = [.int .i64 1,.string (s.extract k j),.int .i64 v,.int .i64 k]:=by rw [HX.out];rfl
                     rw [e]
                     exact hown4
                   · exact ((hbw.alloc hbw.size _).alloc (by have:=hbw.size;simp;omega) _).grown hgrow4 (by have:=hbw.size;simp;omega) (fun j hj => (hown.lt j hj).1)
                   · rw [List.length_append]
                     show acc.length + 1 ≤ _
                     omega
                  case measure => simp [intOf];omega
                · go_wp2_with (first | (go_at_call 41;with_reducible refine (rletter_is HL.out _).mono ?_;rintro e' w' ⟨rfl,rfl⟩) | (go_at_call 42;with_reducible refine (rdigit_is HD.out _).mono ?_;rintro e' w' ⟨rfl,rfl⟩) | (go_at_call 43;refine (rnum_is HV.out _ (by rw [ext_size];omega)).mono ?_;rintro e' w' ⟨rfl,rfl⟩) | (at_builtin;go_must (refine wpList_append_own _ rfl (.tmp 117) (.tmp 119) 72 rfl w.heap.size 82 i0 _ 4 40 Try.underlying72 hi hz0 hz1 hz2 rfl (by decide) _ _ _ rfl ((hown.alloc _).alloc _) ⟨_,0,none⟩ 1 1 [.int .i64 1,.string (s.extract k j),.int .i64 v,.int .i64 k] rfl rfl (cell_four_at _ _ _ _ _ _ _ (by simp)) (four_one _ _ _ _) (by unfold maxLen;omega) (by omega) (by have:=hbw.size;simp;omega) ?_;intro v4 w4 hown4 hgrow4 _)))
                  go_roundw
                  case rel =>
                   refine ⟨j,acc ++ [⟨1,(s.data.toList.drop k).take m,v,k⟩],ws2,rfl,by omega,?_,?_,?_,HI2⟩
                   · rw [cellsW_snoc,List.length_append]
                     have e : wcells ⟨1,(s.data.toList.drop k).take m,v,k⟩ = [.int .i64 1,.string (s.extract k j),.int .i64 v,.int .i64 k]:=by rw [HX.out];rfl
                     rw [e]
                     exact hown4
                   · exact ((hbw.alloc hbw.size _).alloc (by have:=hbw.size;simp;omega) _).grown hgrow4 (by have:=hbw.size;simp;omega) (fun j hj => (hown.lt j hj).1)
                   · rw [List.length_append]
                     show acc.length + 1 ≤ _
                     omega
                  case measure => simp [intOf];omega
          · have HD : Hid (isDigit (s[k]'hp) = false):=hid (by simpa using hdig)
            obtain ⟨n,hn⟩ : ∃ n,sgnLen (s.data.toList.drop k) = n:=⟨_,rfl⟩
            obtain ⟨Y,hY⟩ : ∃ Y : ByteArray,Y = ⟨((s.data.toList.drop k).take n).toArray⟩:=⟨_,rfl⟩
            by_cases hn0 : n = 0
            · have ht : tok numO (s.data.toList.drop k) = .bad 10:=by
               rw [hn0,hq] at hn
               rw [hq]
               simp only [tok]
               rw [if_neg hb,if_neg hnt,if_neg hlet,if_neg hdig,if_pos hn]
              have h47 : (((s[k]'hp).toNat : Int) == 47) = false:=by
               rw [beq_eq_false_iff_ne]
               intro h
               have h2 : (s[k]'hp) = 47:=UInt8.toNat_inj.1 (by show _ = 47;omega)
               rw [hq,h2,hn0] at hn
               cases q <;> simp [sgnLen,pairL,oneL] at hn
              obtain ⟨e1,e2⟩:=HI.out.1.bad_inv hne ht
              have HR:=hid e2
              have HN:=hid hn
              have HY:=hid hY
              have hE : Y.toList.isEmpty = true:=by rw [ByteArray.toList_eq,hY,hn0];rfl
              clear hb hnt hlet hdig ht hne hdl hq hm e1 e2 hJ hn hY hn0
              go_wp2_with (go_at_call 40;with_reducible refine (blank_in HB.out _).mono ?_;rintro e' w' ⟨rfl,rfl⟩)
              obtain ⟨wo,hwo⟩ : ∃ wo : World,wo = wr:=⟨_,rfl⟩
              subst hwo
              go_loop [8] (fun n => ∃ j : Nat,n = .int .i64 j ∧ k ≤ j ∧ j ≤ J) (fun n => J - (intOf n).toNat)
              case atStart => exact ⟨k,rfl,Nat.le_refl _,by omega⟩
              case round =>
               obtain ⟨j,rfl,hj1,hj2⟩:=hrel
               by_cases hj : j < J
               · have hjs : j < s.size:=by omega
                 have hpt:=HP.out.1 j hjs hj1 hj
                 cases hl : isLetter (s[j]'hjs)
                 · have HL1:=hid hl
                   have HD1 : Hid (isDigit (s[j]'hjs) = true):=hid (by unfold isPart at hpt;rw [hl] at hpt;simpa using hpt)
                   clear hl hpt
                   go_wp2_with (first | (go_at_call 41;with_reducible refine (rletter_is HL1.out _).mono ?_;rintro e' w' ⟨rfl,rfl⟩) | (go_at_call 42;with_reducible refine (rdigit_is HD1.out _).mono ?_;rintro e' w' ⟨rfl,rfl⟩))
                   go_round
                   case rel => exact ⟨j + 1,by go_num,by omega,by omega⟩
                   case measure => simp [intOf];omega
                 · have HL1:=hid hl
                   clear hl hpt
                   go_wp2_with (first | (go_at_call 41;with_reducible refine (rletter_is HL1.out _).mono ?_;rintro e' w' ⟨rfl,rfl⟩))
                   go_round
                   case rel => exact ⟨j + 1,by go_num,by omega,by omega⟩
                   case measure => simp [intOf];omega
               · obtain rfl : j = J:=by omega
                 by_cases hje : j < s.size
                 · have hpt:=HP.out.2 hje
                   have HL1 : Hid (isLetter (s[j]'hje) = false):=hid (by unfold isPart at hpt;simp at hpt;exact hpt.1)
                   have HD1 : Hid (isDigit (s[j]'hje) = false):=hid (by unfold isPart at hpt;simp at hpt;exact hpt.2)
                   clear hpt
                   go_wp2_with (first | (go_at_call 41;with_reducible refine (rletter_is HL1.out _).mono ?_;rintro e' w' ⟨rfl,rfl⟩) | (go_at_call 42;with_reducible refine (rdigit_is HD1.out _).mono ?_;rintro e' w' ⟨rfl,rfl⟩) | (go_at_call 41;with_reducible refine (rletter_is HL.out _).mono ?_;rintro e' w' ⟨rfl,rfl⟩) | (go_at_call 42;with_reducible refine (rdigit_is HD.out _).mono ?_;rintro e' w' ⟨rfl,rfl⟩) | (go_at_call 44;with_reducible refine (rsign_at s Y k n hp hs HN.out HY.out _).mono ?_;rintro e' w1 ⟨rfl,hb1⟩;obtain ⟨hc1,hf1⟩:=bcell hb1;have hbw1:=hbw.trans ((below_after hb1).mono hbw.size);have hne:=own_ne_new hown;have hzz : wo.heap.size < w1.heap.size:=by have:=hb1.size;simp at this;omega))
                   go_ret3
                   exact ⟨by rw [HR.out];rfl,below_two hbw1 hbw.size _ _⟩
                 · go_wp2_with (first | (go_at_call 41;with_reducible refine (rletter_is HL.out _).mono ?_;rintro e' w' ⟨rfl,rfl⟩) | (go_at_call 42;with_reducible refine (rdigit_is HD.out _).mono ?_;rintro e' w' ⟨rfl,rfl⟩) | (go_at_call 44;with_reducible refine (rsign_at s Y k n hp hs HN.out HY.out _).mono ?_;rintro e' w1 ⟨rfl,hb1⟩;obtain ⟨hc1,hf1⟩:=bcell hb1;have hbw1:=hbw.trans ((below_after hb1).mono hbw.size);have hne:=own_ne_new hown;have hzz : wo.heap.size < w1.heap.size:=by have:=hb1.size;simp at this;omega))
                   go_ret3
                   exact ⟨by rw [HR.out];rfl,below_two hbw1 hbw.size _ _⟩
            · by_cases hslash : (s[k]'hp) = 47
              · by_cases hend : k + 1 < s.size
                · have h47 : (((s[k]'hp).toNat : Int) == 47) = true:=by rw [hslash];rfl
                  have h471 : (((s[k + 1]'hend).toNat : Int) == 47) = false:=by
                   rw [beq_eq_false_iff_ne]
                   intro h
                   have h2 : (s[k + 1]'hend) = 47:=UInt8.toNat_inj.1 (by show _ = 47;omega)
                   have h1:=list_at s k 1 hend
                   rw [hq,h2] at h1
                   refine hnt ⟨hslash,?_⟩
                   rw [← h1]
                   cases q <;> rfl
                  have ht : tok numO (s.data.toList.drop k) = .word 2 n 0:=by
                   rw [← hn] at hn0
                   rw [← hn,hq]
                   rw [hq] at hn0
                   simp only [tok]
                   rw [if_neg hb,if_neg hnt,if_neg hlet,if_neg hdig,if_neg hn0]
                  obtain ⟨ws2,hw2,hsc2⟩:=HI.out.1.word_inv hne ht
                  rw [List.drop_drop] at hsc2
                  have HI2 : Hid (Sc numO (s.data.toList.drop (k + n)) (k + n) ws2 Rf ∧ (acc ++ [⟨2,(s.data.toList.drop k).take n,0,k⟩]) ++ ws2 = Wf):=hid ⟨hsc2,by rw [← HI.out.2,hw2];simp⟩
                  have hn1:=tok_word hne ht
                  have HN:=hid hn
                  have HY:=hid hY
                  have hYs : Y.size = n:=by
                   rw [hY]
                   show ((s.data.toList.drop k).take n).toArray.size = n
                   rw [List.size_toArray,List.length_take]
                   omega
                  have hE : Y.toList.isEmpty = false:=by
                   rw [ByteArray.toList_eq,List.isEmpty_eq_false_iff]
                   intro h
                   have h1 : Y.size = 0:=by
                    show Y.data.toList.length = 0
                    rw [h]
                    rfl
                   omega
                  have hY1 : Y.size ≤ n:=by omega
                  have hY2 : n ≤ Y.size:=by omega
                  have hn3 : k + n ≤ s.size:=by omega
                  have hn4 : 1 ≤ n:=hn1.1
                  clear hb hnt hlet hdig ht hne hdl hq hm hw2 hsc2 hJ hn hY hn0 hn1 hYs hslash
                  go_wp2_with (go_at_call 40;with_reducible refine (blank_in HB.out _).mono ?_;rintro e' w' ⟨rfl,rfl⟩)
                  obtain ⟨wo,hwo⟩ : ∃ wo : World,wo = wr:=⟨_,rfl⟩
                  subst hwo
                  go_loop [8] (fun n => ∃ j : Nat,n = .int .i64 j ∧ k ≤ j ∧ j ≤ J) (fun n => J - (intOf n).toNat)
                  case atStart => exact ⟨k,rfl,Nat.le_refl _,by omega⟩
                  case round =>
                   obtain ⟨j,rfl,hj1,hj2⟩:=hrel
                   by_cases hj : j < J
                   · have hjs : j < s.size:=by omega
                     have hpt:=HP.out.1 j hjs hj1 hj
                     cases hl : isLetter (s[j]'hjs)
                     · have HL1:=hid hl
                       have HD1 : Hid (isDigit (s[j]'hjs) = true):=hid (by unfold isPart at hpt;rw [hl] at hpt;simpa using hpt)
                       clear hl hpt
                       go_wp2_with (first | (go_at_call 41;with_reducible refine (rletter_is HL1.out _).mono ?_;rintro e' w' ⟨rfl,rfl⟩) | (go_at_call 42;with_reducible refine (rdigit_is HD1.out _).mono ?_;rintro e' w' ⟨rfl,rfl⟩))
                       go_round
                       case rel => exact ⟨j + 1,by go_num,by omega,by omega⟩
                       case measure => simp [intOf];omega
                     · have HL1:=hid hl
                       clear hl hpt
                       go_wp2_with (first | (go_at_call 41;with_reducible refine (rletter_is HL1.out _).mono ?_;rintro e' w' ⟨rfl,rfl⟩))
                       go_round
                       case rel => exact ⟨j + 1,by go_num,by omega,by omega⟩
                       case measure => simp [intOf];omega
                   · obtain rfl : j = J:=by omega
                     by_cases hje : j < s.size
                     · have hpt:=HP.out.2 hje
                       have HL1 : Hid (isLetter (s[j]'hje) = false):=hid (by unfold isPart at hpt;simp at hpt;exact hpt.1)
                       have HD1 : Hid (isDigit (s[j]'hje) = false):=hid (by unfold isPart at hpt;simp at hpt;exact hpt.2)
                       clear hpt
                       go_wp2_with (first | (go_at_call 41;with_reducible refine (rletter_is HL1.out _).mono ?_;rintro e' w' ⟨rfl,rfl⟩) | (go_at_call 42;with_reducible refine (rdigit_is HD1.out _).mono ?_;rintro e' w' ⟨rfl,rfl⟩) | (go_at_call 41;with_reducible refine (rletter_is HL.out _).mono ?_;rintro e' w' ⟨rfl,rfl⟩) | (go_at_call 42;with_reducible refine (rdigit_is HD.out _).mono ?_;rintro e' w' ⟨rfl,rfl⟩) | (go_at_call 44;with_reducible refine (rsign_at s Y k n hp hs HN.out HY.out _).mono ?_;rintro e' w1 ⟨rfl,hb1⟩;obtain ⟨hc1,hf1⟩:=bcell hb1;have hbw1:=hbw.trans ((below_after hb1).mono hbw.size);have hne:=own_ne_new hown;have hzz : wo.heap.size < w1.heap.size:=by have:=hb1.size;simp at this;omega) | (at_builtin;go_must (refine wpList_append_own _ rfl (.tmp 117) (.tmp 119) 72 rfl w.heap.size 82 i0 _ 4 40 Try.underlying72 hi hz0 hz1 hz2 rfl (by decide) _ _ _ rfl ((own_set (own_set (own_below (hown.alloc _) hb1) hne _ _) hne _ _).alloc _) ⟨_,0,none⟩ 1 1 [.int .i64 2,.string Y,.int .i64 0,.int .i64 k] rfl rfl (cell_four_at _ _ _ _ _ _ _ (by simp)) (four_one _ _ _ _) (by unfold maxLen;omega) (by omega) (by have:=hbw.size;simp;omega) ?_;intro v4 w4 hown4 hgrow4 _)))
                       go_roundw
                       case rel =>
                        refine ⟨k + n,acc ++ [⟨2,(s.data.toList.drop k).take n,0,k⟩],ws2,?_,by omega,?_,?_,?_,HI2⟩
                        · rw [show Y.size = n by omega]
                          go_num
                        · rw [cellsW_snoc,List.length_append]
                          have e : wcells ⟨2,(s.data.toList.drop k).take n,0,k⟩ = [.int .i64 2,.string Y,.int .i64 0,.int .i64 k]:=by rw [HY.out];rfl
                          rw [e]
                          exact hown4
                        · exact ((below_two hbw1 hbw.size _ _).alloc (by have:=hbw1.size;simp;omega) _).grown hgrow4 (by have:=hbw1.size;simp;omega) (fun j hj => (hown.lt j hj).1)
                        · rw [List.length_append]
                          show acc.length + 1 ≤ _
                          omega
                       case measure => simp [intOf];omega
                     · go_wp2_with (first | (go_at_call 41;with_reducible refine (rletter_is HL.out _).mono ?_;rintro e' w' ⟨rfl,rfl⟩) | (go_at_call 42;with_reducible refine (rdigit_is HD.out _).mono ?_;rintro e' w' ⟨rfl,rfl⟩) | (go_at_call 44;with_reducible refine (rsign_at s Y k n hp hs HN.out HY.out _).mono ?_;rintro e' w1 ⟨rfl,hb1⟩;obtain ⟨hc1,hf1⟩:=bcell hb1;have hbw1:=hbw.trans ((below_after hb1).mono hbw.size);have hne:=own_ne_new hown;have hzz : wo.heap.size < w1.heap.size:=by have:=hb1.size;simp at this;omega) | (at_builtin;go_must (refine wpList_append_own _ rfl (.tmp 117) (.tmp 119) 72 rfl w.heap.size 82 i0 _ 4 40 Try.underlying72 hi hz0 hz1 hz2 rfl (by decide) _ _ _ rfl ((own_set (own_set (own_below (hown.alloc _) hb1) hne _ _) hne _ _).alloc _) ⟨_,0,none⟩ 1 1 [.int .i64 2,.string Y,.int .i64 0,.int .i64 k] rfl rfl (cell_four_at _ _ _ _ _ _ _ (by simp)) (four_one _ _ _ _) (by unfold maxLen;omega) (by omega) (by have:=hbw.size;simp;omega) ?_;intro v4 w4 hown4 hgrow4 _)))
                       go_roundw
                       case rel =>
                        refine ⟨k + n,acc ++ [⟨2,(s.data.toList.drop k).take n,0,k⟩],ws2,?_,by omega,?_,?_,?_,HI2⟩
                        · rw [show Y.size = n by omega]
                          go_num
                        · rw [cellsW_snoc,List.length_append]
                          have e : wcells ⟨2,(s.data.toList.drop k).take n,0,k⟩ = [.int .i64 2,.string Y,.int .i64 0,.int .i64 k]:=by rw [HY.out];rfl
                          rw [e]
                          exact hown4
                        · exact ((below_two hbw1 hbw.size _ _).alloc (by have:=hbw1.size;simp;omega) _).grown hgrow4 (by have:=hbw1.size;simp;omega) (fun j hj => (hown.lt j hj).1)
                        · rw [List.length_append]
                          show acc.length + 1 ≤ _
                          omega
                       case measure => simp [intOf];omega
                · have h47 : (((s[k]'hp).toNat : Int) == 47) = true:=by rw [hslash];rfl
                  have ht : tok numO (s.data.toList.drop k) = .word 2 n 0:=by
                   rw [← hn] at hn0
                   rw [← hn,hq]
                   rw [hq] at hn0
                   simp only [tok]
                   rw [if_neg hb,if_neg hnt,if_neg hlet,if_neg hdig,if_neg hn0]
                  obtain ⟨ws2,hw2,hsc2⟩:=HI.out.1.word_inv hne ht
                  rw [List.drop_drop] at hsc2
                  have HI2 : Hid (Sc numO (s.data.toList.drop (k + n)) (k + n) ws2 Rf ∧ (acc ++ [⟨2,(s.data.toList.drop k).take n,0,k⟩]) ++ ws2 = Wf):=hid ⟨hsc2,by rw [← HI.out.2,hw2];simp⟩
                  have hn1:=tok_word hne ht
                  have HN:=hid hn
                  have HY:=hid hY
                  have hYs : Y.size = n:=by
                   rw [hY]
                   show ((s.data.toList.drop k).take n).toArray.size = n
                   rw [List.size_toArray,List.length_take]
                   omega
                  have hE : Y.toList.isEmpty = false:=by
                   rw [ByteArray.toList_eq,List.isEmpty_eq_false_iff]
                   intro h
                   have h1 : Y.size = 0:=by
                    show Y.data.toList.length = 0
                    rw [h]
                    rfl
                   omega
                  have hY1 : Y.size ≤ n:=by omega
                  have hY2 : n ≤ Y.size:=by omega
                  have hn3 : k + n ≤ s.size:=by omega
                  have hn4 : 1 ≤ n:=hn1.1
                  clear hb hnt hlet hdig ht hne hdl hq hm hw2 hsc2 hJ hn hY hn0 hn1 hYs hslash
                  go_wp2_with (go_at_call 40;with_reducible refine (blank_in HB.out _).mono ?_;rintro e' w' ⟨rfl,rfl⟩)
                  obtain ⟨wo,hwo⟩ : ∃ wo : World,wo = wr:=⟨_,rfl⟩
                  subst hwo
                  go_loop [8] (fun n => ∃ j : Nat,n = .int .i64 j ∧ k ≤ j ∧ j ≤ J) (fun n => J - (intOf n).toNat)
                  case atStart => exact ⟨k,rfl,Nat.le_refl _,by omega⟩
                  case round =>
                   obtain ⟨j,rfl,hj1,hj2⟩:=hrel
                   by_cases hj : j < J
                   · have hjs : j < s.size:=by omega
                     have hpt:=HP.out.1 j hjs hj1 hj
                     cases hl : isLetter (s[j]'hjs)
                     · have HL1:=hid hl
                       have HD1 : Hid (isDigit (s[j]'hjs) = true):=hid (by unfold isPart at hpt;rw [hl] at hpt;simpa using hpt)
                       clear hl hpt
                       go_wp2_with (first | (go_at_call 41;with_reducible refine (rletter_is HL1.out _).mono ?_;rintro e' w' ⟨rfl,rfl⟩) | (go_at_call 42;with_reducible refine (rdigit_is HD1.out _).mono ?_;rintro e' w' ⟨rfl,rfl⟩))
                       go_round
                       case rel => exact ⟨j + 1,by go_num,by omega,by omega⟩
                       case measure => simp [intOf];omega
                     · have HL1:=hid hl
                       clear hl hpt
                       go_wp2_with (first | (go_at_call 41;with_reducible refine (rletter_is HL1.out _).mono ?_;rintro e' w' ⟨rfl,rfl⟩))
                       go_round
                       case rel => exact ⟨j + 1,by go_num,by omega,by omega⟩
                       case measure => simp [intOf];omega
                   · obtain rfl : j = J:=by omega
                     by_cases hje : j < s.size
                     · have hpt:=HP.out.2 hje
                       have HL1 : Hid (isLetter (s[j]'hje) = false):=hid (by unfold isPart at hpt;simp at hpt;exact hpt.1)
                       have HD1 : Hid (isDigit (s[j]'hje) = false):=hid (by unfold isPart at hpt;simp at hpt;exact hpt.2)
                       clear hpt
                       go_wp2_with (first | (go_at_call 41;with_reducible refine (rletter_is HL1.out _).mono ?_;rintro e' w' ⟨rfl,rfl⟩) | (go_at_call 42;with_reducible refine (rdigit_is HD1.out _).mono ?_;rintro e' w' ⟨rfl,rfl⟩) | (go_at_call 41;with_reducible refine (rletter_is HL.out _).mono ?_;rintro e' w' ⟨rfl,rfl⟩) | (go_at_call 42;with_reducible refine (rdigit_is HD.out _).mono ?_;rintro e' w' ⟨rfl,rfl⟩) | (go_at_call 44;with_reducible refine (rsign_at s Y k n hp hs HN.out HY.out _).mono ?_;rintro e' w1 ⟨rfl,hb1⟩;obtain ⟨hc1,hf1⟩:=bcell hb1;have hbw1:=hbw.trans ((below_after hb1).mono hbw.size);have hne:=own_ne_new hown;have hzz : wo.heap.size < w1.heap.size:=by have:=hb1.size;simp at this;omega) | (at_builtin;go_must (refine wpList_append_own _ rfl (.tmp 117) (.tmp 119) 72 rfl w.heap.size 82 i0 _ 4 40 Try.underlying72 hi hz0 hz1 hz2 rfl (by decide) _ _ _ rfl ((own_set (own_set (own_below (hown.alloc _) hb1) hne _ _) hne _ _).alloc _) ⟨_,0,none⟩ 1 1 [.int .i64 2,.string Y,.int .i64 0,.int .i64 k] rfl rfl (cell_four_at _ _ _ _ _ _ _ (by simp)) (four_one _ _ _ _) (by unfold maxLen;omega) (by omega) (by have:=hbw.size;simp;omega) ?_;intro v4 w4 hown4 hgrow4 _)))
                       go_roundw
                       case rel =>
                        refine ⟨k + n,acc ++ [⟨2,(s.data.toList.drop k).take n,0,k⟩],ws2,?_,by omega,?_,?_,?_,HI2⟩
                        · rw [show Y.size = n by omega]
                          go_num
                        · rw [cellsW_snoc,List.length_append]
                          have e : wcells ⟨2,(s.data.toList.drop k).take n,0,k⟩ = [.int .i64 2,.string Y,.int .i64 0,.int .i64 k]:=by rw [HY.out];rfl
                          rw [e]
                          exact hown4
                        · exact ((below_two hbw1 hbw.size _ _).alloc (by have:=hbw1.size;simp;omega) _).grown hgrow4 (by have:=hbw1.size;simp;omega) (fun j hj => (hown.lt j hj).1)
                        · rw [List.length_append]
                          show acc.length + 1 ≤ _
                          omega
                       case measure => simp [intOf];omega
                     · go_wp2_with (first | (go_at_call 41;with_reducible refine (rletter_is HL.out _).mono ?_;rintro e' w' ⟨rfl,rfl⟩) | (go_at_call 42;with_reducible refine (rdigit_is HD.out _).mono ?_;rintro e' w' ⟨rfl,rfl⟩) | (go_at_call 44;with_reducible refine (rsign_at s Y k n hp hs HN.out HY.out _).mono ?_;rintro e' w1 ⟨rfl,hb1⟩;obtain ⟨hc1,hf1⟩:=bcell hb1;have hbw1:=hbw.trans ((below_after hb1).mono hbw.size);have hne:=own_ne_new hown;have hzz : wo.heap.size < w1.heap.size:=by have:=hb1.size;simp at this;omega) | (at_builtin;go_must (refine wpList_append_own _ rfl (.tmp 117) (.tmp 119) 72 rfl w.heap.size 82 i0 _ 4 40 Try.underlying72 hi hz0 hz1 hz2 rfl (by decide) _ _ _ rfl ((own_set (own_set (own_below (hown.alloc _) hb1) hne _ _) hne _ _).alloc _) ⟨_,0,none⟩ 1 1 [.int .i64 2,.string Y,.int .i64 0,.int .i64 k] rfl rfl (cell_four_at _ _ _ _ _ _ _ (by simp)) (four_one _ _ _ _) (by unfold maxLen;omega) (by omega) (by have:=hbw.size;simp;omega) ?_;intro v4 w4 hown4 hgrow4 _)))
                       go_roundw
                       case rel =>
                        refine ⟨k + n,acc ++ [⟨2,(s.data.toList.drop k).take n,0,k⟩],ws2,?_,by omega,?_,?_,?_,HI2⟩
                        · rw [show Y.size = n by omega]
                          go_num
                        · rw [cellsW_snoc,List.length_append]
                          have e : wcells ⟨2,(s.data.toList.drop k).take n,0,k⟩ = [.int .i64 2,.string Y,.int .i64 0,.int .i64 k]:=by rw [HY.out];rfl
                          rw [e]
                          exact hown4
                        · exact ((below_two hbw1 hbw.size _ _).alloc (by have:=hbw1.size;simp;omega) _).grown hgrow4 (by have:=hbw1.size;simp;omega) (fun j hj => (hown.lt j hj).1)
                        · rw [List.length_append]
                          show acc.length + 1 ≤ _
                          omega
                       case measure => simp [intOf];omega
              · have h47 : (((s[k]'hp).toNat : Int) == 47) = false:=by
                 rw [beq_eq_false_iff_ne]
                 intro h
                 exact hslash (UInt8.toNat_inj.1 (by show _ = 47;omega))
                have ht : tok numO (s.data.toList.drop k) = .word 2 n 0:=by
                 rw [← hn] at hn0
                 rw [← hn,hq]
                 rw [hq] at hn0
                 simp only [tok]
                 rw [if_neg hb,if_neg hnt,if_neg hlet,if_neg hdig,if_neg hn0]
                obtain ⟨ws2,hw2,hsc2⟩:=HI.out.1.word_inv hne ht
                rw [List.drop_drop] at hsc2
                have HI2 : Hid (Sc numO (s.data.toList.drop (k + n)) (k + n) ws2 Rf ∧ (acc ++ [⟨2,(s.data.toList.drop k).take n,0,k⟩]) ++ ws2 = Wf):=hid ⟨hsc2,by rw [← HI.out.2,hw2];simp⟩
                have hn1:=tok_word hne ht
                have HN:=hid hn
                have HY:=hid hY
                have hYs : Y.size = n:=by
                 rw [hY]
                 show ((s.data.toList.drop k).take n).toArray.size = n
                 rw [List.size_toArray,List.length_take]
                 omega
                have hE : Y.toList.isEmpty = false:=by
                 rw [ByteArray.toList_eq,List.isEmpty_eq_false_iff]
                 intro h
                 have h1 : Y.size = 0:=by
                  show Y.data.toList.length = 0
                  rw [h]
                  rfl
                 omega
                have hY1 : Y.size ≤ n:=by omega
                have hY2 : n ≤ Y.size:=by omega
                have hn3 : k + n ≤ s.size:=by omega
                have hn4 : 1 ≤ n:=hn1.1
                clear hb hnt hlet hdig ht hne hdl hq hm hw2 hsc2 hJ hn hY hn0 hn1 hYs hslash
                go_wp2_with (go_at_call 40;with_reducible refine (blank_in HB.out _).mono ?_;rintro e' w' ⟨rfl,rfl⟩)
                obtain ⟨wo,hwo⟩ : ∃ wo : World,wo = wr:=⟨_,rfl⟩
                subst hwo
                go_loop [8] (fun n => ∃ j : Nat,n = .int .i64 j ∧ k ≤ j ∧ j ≤ J) (fun n => J - (intOf n).toNat)
                case atStart => exact ⟨k,rfl,Nat.le_refl _,by omega⟩
                case round =>
                 obtain ⟨j,rfl,hj1,hj2⟩:=hrel
                 by_cases hj : j < J
                 · have hjs : j < s.size:=by omega
                   have hpt:=HP.out.1 j hjs hj1 hj
                   cases hl : isLetter (s[j]'hjs)
                   · have HL1:=hid hl
                     have HD1 : Hid (isDigit (s[j]'hjs) = true):=hid (by unfold isPart at hpt;rw [hl] at hpt;simpa using hpt)
                     clear hl hpt
                     go_wp2_with (first | (go_at_call 41;with_reducible refine (rletter_is HL1.out _).mono ?_;rintro e' w' ⟨rfl,rfl⟩) | (go_at_call 42;with_reducible refine (rdigit_is HD1.out _).mono ?_;rintro e' w' ⟨rfl,rfl⟩))
                     go_round
                     case rel => exact ⟨j + 1,by go_num,by omega,by omega⟩
                     case measure => simp [intOf];omega
                   · have HL1:=hid hl
                     clear hl hpt
                     go_wp2_with (first | (go_at_call 41;with_reducible refine (rletter_is HL1.out _).mono ?_;rintro e' w' ⟨rfl,rfl⟩))
                     go_round
                     case rel => exact ⟨j + 1,by go_num,by omega,by omega⟩
                     case measure => simp [intOf];omega
                 · obtain rfl : j = J:=by omega
                   by_cases hje : j < s.size
                   · have hpt:=HP.out.2 hje
                     have HL1 : Hid (isLetter (s[j]'hje) = false):=hid (by unfold isPart at hpt;simp at hpt;exact hpt.1)
                     have HD1 : Hid (isDigit (s[j]'hje) = false):=hid (by unfold isPart at hpt;simp at hpt;exact hpt.2)
                     clear hpt
                     go_wp2_with (first | (go_at_call 41;with_reducible refine (rletter_is HL1.out _).mono ?_;rintro e' w' ⟨rfl,rfl⟩) | (go_at_call 42;with_reducible refine (rdigit_is HD1.out _).mono ?_;rintro e' w' ⟨rfl,rfl⟩) | (go_at_call 41;with_reducible refine (rletter_is HL.out _).mono ?_;rintro e' w' ⟨rfl,rfl⟩) | (go_at_call 42;with_reducible refine (rdigit_is HD.out _).mono ?_;rintro e' w' ⟨rfl,rfl⟩) | (go_at_call 44;with_reducible refine (rsign_at s Y k n hp hs HN.out HY.out _).mono ?_;rintro e' w1 ⟨rfl,hb1⟩;obtain ⟨hc1,hf1⟩:=bcell hb1;have hbw1:=hbw.trans ((below_after hb1).mono hbw.size);have hne:=own_ne_new hown;have hzz : wo.heap.size < w1.heap.size:=by have:=hb1.size;simp at this;omega) | (at_builtin;go_must (refine wpList_append_own _ rfl (.tmp 117) (.tmp 119) 72 rfl w.heap.size 82 i0 _ 4 40 Try.underlying72 hi hz0 hz1 hz2 rfl (by decide) _ _ _ rfl ((own_set (own_set (own_below (hown.alloc _) hb1) hne _ _) hne _ _).alloc _) ⟨_,0,none⟩ 1 1 [.int .i64 2,.string Y,.int .i64 0,.int .i64 k] rfl rfl (cell_four_at _ _ _ _ _ _ _ (by simp)) (four_one _ _ _ _) (by unfold maxLen;omega) (by omega) (by have:=hbw.size;simp;omega) ?_;intro v4 w4 hown4 hgrow4 _)))
                     go_roundw
                     case rel =>
                      refine ⟨k + n,acc ++ [⟨2,(s.data.toList.drop k).take n,0,k⟩],ws2,?_,by omega,?_,?_,?_,HI2⟩
                      · rw [show Y.size = n by omega]
                        go_num
                      · rw [cellsW_snoc,List.length_append]
                        have e : wcells ⟨2,(s.data.toList.drop k).take n,0,k⟩ = [.int .i64 2,.string Y,.int .i64 0,.int .i64 k]:=by rw [HY.out];rfl
                        rw [e]
                        exact hown4
                      · exact ((below_two hbw1 hbw.size _ _).alloc (by have:=hbw1.size;simp;omega) _).grown hgrow4 (by have:=hbw1.size;simp;omega) (fun j hj => (hown.lt j hj).1)
                      · rw [List.length_append]
                        show acc.length + 1 ≤ _
                        omega
                     case measure => simp [intOf];omega
                   · go_wp2_with (first | (go_at_call 41;with_reducible refine (rletter_is HL.out _).mono ?_;rintro e' w' ⟨rfl,rfl⟩) | (go_at_call 42;with_reducible refine (rdigit_is HD.out _).mono ?_;rintro e' w' ⟨rfl,rfl⟩) | (go_at_call 44;with_reducible refine (rsign_at s Y k n hp hs HN.out HY.out _).mono ?_;rintro e' w1 ⟨rfl,hb1⟩;obtain ⟨hc1,hf1⟩:=bcell hb1;have hbw1:=hbw.trans ((below_after hb1).mono hbw.size);have hne:=own_ne_new hown;have hzz : wo.heap.size < w1.heap.size:=by have:=hb1.size;simp at this;omega) | (at_builtin;go_must (refine wpList_append_own _ rfl (.tmp 117) (.tmp 119) 72 rfl w.heap.size 82 i0 _ 4 40 Try.underlying72 hi hz0 hz1 hz2 rfl (by decide) _ _ _ rfl ((own_set (own_set (own_below (hown.alloc _) hb1) hne _ _) hne _ _).alloc _) ⟨_,0,none⟩ 1 1 [.int .i64 2,.string Y,.int .i64 0,.int .i64 k] rfl rfl (cell_four_at _ _ _ _ _ _ _ (by simp)) (four_one _ _ _ _) (by unfold maxLen;omega) (by omega) (by have:=hbw.size;simp;omega) ?_;intro v4 w4 hown4 hgrow4 _)))
                     go_roundw
                     case rel =>
                      refine ⟨k + n,acc ++ [⟨2,(s.data.toList.drop k).take n,0,k⟩],ws2,?_,by omega,?_,?_,?_,HI2⟩
                      · rw [show Y.size = n by omega]
                        go_num
                      · rw [cellsW_snoc,List.length_append]
                        have e : wcells ⟨2,(s.data.toList.drop k).take n,0,k⟩ = [.int .i64 2,.string Y,.int .i64 0,.int .i64 k]:=by rw [HY.out];rfl
                        rw [e]
                        exact hown4
                      · exact ((below_two hbw1 hbw.size _ _).alloc (by have:=hbw1.size;simp;omega) _).grown hgrow4 (by have:=hbw1.size;simp;omega) (fun j hj => (hown.lt j hj).1)
                      · rw [List.length_append]
                        show acc.length + 1 ≤ _
                        omega
                     case measure => simp [intOf];omega
  · have HE : Hid ((∃ ws',ws' = ws ∧ ws = [⟨3,[],0,s.size⟩]) ∧ Rf = none):=by
     have h1:=HI.out.1
     rw [show s.data.toList.drop k = [] from List.drop_eq_nil_of_le (by show s.size ≤ k;omega)] at h1
     obtain ⟨e1,e2⟩:=h1.nil_inv
     exact hid ⟨⟨ws,rfl,by rw [e1,show k = s.size by omega]⟩,e2⟩
    go_wp2_with (first
     | (at_builtin;go_must (refine wpList_append_own _ rfl (.tmp 122) (.tmp 126) 72 rfl w.heap.size 82 i0 _ 4 40 Try.underlying72 hi hz0 hz1 hz2 rfl (by decide) _ _ _ rfl (hown.alloc _) ⟨_,0,none⟩ 1 1 [.int .i64 3,.string ⟨#[]⟩,.int .i64 0,.int .i64 s.size] rfl rfl (cell_four_at _ _ _ _ _ _ _ (by simp)) (four_one _ _ _ _) (by unfold maxLen;omega) (by omega) (by have:=hbw.size;simp;omega) ?_;intro v4 w4 hown4 hgrow4 _)))
    go_ret3
    refine ⟨?_,(hbw.alloc hbw.size _).grown hgrow4 (by have:=hbw.size;simp;omega) (fun j hj => (hown.lt j hj).1)⟩
    obtain ⟨⟨ws',_,e1⟩,e2⟩:=HE.out
    have e3:=HI.out.2
    rw [e1] at e3
    rw [e2,← e3]
    refine ⟨_,rfl,?_⟩
    rw [cellsW_snoc,List.length_append]
    exact hown4
def OkEnd (T : TypeId) (B : Nat) (W : List Wd) (e : Ending) (w' : World) : Prop :=
 ∃ g cap,e = .returned (.tuple #[.slice (some ⟨g,0,none⟩) W.length cap,.int .i64 0,.int .i64 0]) ∧ w'.ownsRow B T 4 (.slice (some ⟨g,0,none⟩) W.length cap) W.length (cellsW W)
theorem rwords_ok (s : ByteArray) (w : World) (hs : s.size ≤ 16384) (W : List Wd) (hS : Hid (Sc numO s.data.toList 0 W none)) :
 Calls Try.prog 22 #[.string s] w fun e w' => OkEnd 82 w.heap.size W e w' ∧ Below w.heap.size w w' :=
 (rwords_any s w hs W none hS).mono fun e w' ⟨h1,h2⟩ => by
  obtain ⟨v,e1,e2⟩:=h1
  obtain ⟨g,cap,e3,_⟩:=e2.form (hS.out.some_words rfl)
  subst e3
  exact ⟨⟨g,cap,e1,e2⟩,h2⟩
theorem rwords_err (s : ByteArray) (w : World) (hs : s.size ≤ 16384) (W : List Wd) (e0 : Int) (a0 : Nat) (hS : Hid (Sc numO s.data.toList 0 W (some (e0,a0)))) :
 Calls Try.prog 22 #[.string s] w fun e w' => e = .returned (.tuple #[.slice none 0 0,.int .i64 e0,.int .i64 a0]) ∧ Below w.heap.size w w' :=
 rwords_any s w hs W _ hS
end Go.Proofs.Ytbmmjomcjlpnlaa
