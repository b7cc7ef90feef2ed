/- Joined texts: Rglo ThM Facts Wr Small Ln Sw Sd Gd Lg Ord RthG Rth BackB RnumB Rsgn: lemmas for the law; each says its own conditions. -/
import Derived.Test.YtbmmjomcjlpnlaaQ08
import Derived.Test.YtbmmjomcjlpnlaaQ07
import Derived.Test.YtbmmjomcjlpnlaaQ01
import Derived.Orders
import Derived.Conc.Own4
import Derived.Lib.ItoaNum
import Derived.Lib.AtoiAllCases
import Derived.WalkLawsBesides
import Derived.WalkSpells
import Derived.Deep.QuietTactic
import Derived.BigQuiet
set_option linter.unusedSimpArgs false
set_option linter.unusedVariables false
set_option maxRecDepth 100000
set_option maxHeartbeats 8000000
open Go.Lib (hid)
namespace Go.Proofs.Ytbmmjomcjlpnlaa
open Go Go.RowKit
def w00 : Wd:=⟨0,[],0,0⟩
theorem lim_le {s : RS} (h : s.fin) (n m : Nat) : Le (limF n m s) s:=by
 unfold limF
 split
 · exact fail_le h 2
 · exact ⟨Nat.le_refl _,h⟩
theorem GRow.form {B : Nat} {W : World} {l : List Gl} {v : Value} (h : W.ownsRow B 56 6 v l.length (l.flatMap glCells)) : ∃ p c,v = .slice p l.length c:=by
 rcases h.2 with ⟨h1,h2⟩ | ⟨g,cap,cur,h1,_⟩
 · exact ⟨none,0,by rw [h1,h2]⟩
 · exact ⟨_,_,h1⟩
theorem r4_global {r4 rb g cap B : Nat} {ws : List Wd} {d : Int} {p0 p1 p2 p3 : Value} {W : World} {σ : RS} {l : List Gl} (S : Hid (A4 W r4 rb g cap ws d p0 p1 p2 p3 σ)) (G : Hid (W.ownsRow B 56 6 p0 l.length (l.flatMap glCells))) (hB : r4 < B ∧ rb < B ∧ g < B ∧ B ≤ W.heap.size) (hl : l.length ≤ 1000000) :
 Calls Try.prog 51 #[.pointer (some ⟨r4,0,none⟩)] W fun e w' => e = .returned (.tuple #[]) ∧ ∃ q,A4 w' r4 rb g cap ws d q p1 p2 p3 (globF l.length σ).2 ∧ w'.ownsRow B 56 6 q (l.length + 1) ((l ++ [(globF l.length σ).1]).flatMap glCells) ∧ Fr3 r4 rb p0.ownBlock W w':=by
 obtain ⟨p,k,rfl⟩:=GRow.form G.out
 have hfin : σ.fin:=fun tt e => by (subst e;exact S.out.st.fin)
 obtain ⟨⟨⟨tr,sc⟩,τ1⟩,h1⟩ : ∃ q,kindF (limF l.length 32 σ) = q:=⟨_,rfl⟩
 obtain ⟨⟨⟨nm,a⟩,τ2⟩,h2⟩ : ∃ q,nameF τ1 = q:=⟨_,rfl⟩
 have hf1 : τ1.fin:=by (have:=(kind_le (lim_le hfin l.length 32).2).2;rw [h1] at this;exact this)
 have hf2 : τ2.fin:=by (have:=(name_le hf1).2;rw [h2] at this;exact this)
 cases hb : τ2.is [91] with
 | false =>
  cases hy : τ2.is kBy with
  | false =>
   have e : globF l.length σ = (⟨a,nm,tr,sc,0,[]⟩,τ2.need [59]):=by simp [globF,h1,h2,hb,hy]
   rw [e]
   exact rgl_00 (by_:=[]) (ba:=0) (y2:=w00) (r2:=[]) (τ4:=.ok []) (y:=w00) (z:=w00) (r:=[]) (τ3:=.ok []) S G hB hl (hid h1) (hid h2) (hid hb) (hid hy) (hid rfl)
  | true =>
   obtain ⟨y2,r2,hE⟩:=is_ok hy
   obtain ⟨⟨⟨by_,ba⟩,τ4⟩,h4⟩ : ∃ q,nameF (.ok r2) = q:=⟨_,rfl⟩
   have e : globF l.length σ = (⟨a,nm,tr,sc,0,by_⟩,τ4.need [59]):=by
    have hA : (τ2).adv = .ok r2:=by (rw [hE];rfl)
    simp [globF,h1,h2,hb,hy,hA,h4]
   rw [e]
   exact rgl_01 (y:=w00) (z:=w00) (r:=[]) (τ3:=.ok []) S G hB hl (hid h1) (hid h2) (hid hb) hE (hid (hE ▸ hy)) (hid h4) (hid rfl)
 | true =>
  obtain ⟨y,tt,rfl,hy3⟩:=is_cons hb
  obtain ⟨z,r,rfl⟩:=((is_adv hb hf2).1.2 tt rfl).ne
  have hadv : (RS.ok (y :: z :: r)).adv = .ok (z :: r):=rfl
  cases hk : (z.k != 1) with
  | true =>
   have hk' : z.k ≠ 1:=by simpa using hk
   obtain ⟨τ3,h3⟩ : ∃ q,(RS.bad 11 z.a).need [93] = q:=⟨_,rfl⟩
   have hl1 : lenF (.ok (z :: r)) = (0,.bad 11 z.a):=by simp [lenF,hk']
   cases hy : τ3.is kBy with
   | false =>
    have e : globF l.length σ = (⟨a,nm,tr,sc,0,[]⟩,τ3.need [59]):=by simp [globF,h1,h2,hb,hadv,hl1,h3,hy]
    rw [e]
    exact rgl_10 (by_:=[]) (ba:=0) (y2:=w00) (r2:=[]) (τ4:=.ok []) (τ2:=.ok []) S G hB hl (hid h1) (hid h2) (hid hb) hk (hid h3) (hid hy) (hid rfl)
   | true =>
    obtain ⟨y2,r2,hE⟩:=is_ok hy
    obtain ⟨⟨⟨by_,ba⟩,τ4⟩,h4⟩ : ∃ q,nameF (.ok r2) = q:=⟨_,rfl⟩
    have e : globF l.length σ = (⟨a,nm,tr,sc,0,by_⟩,τ4.need [59]):=by
     have hA : (τ3).adv = .ok r2:=by (rw [hE];rfl)
     simp [globF,h1,h2,hb,hadv,hl1,h3,hy,hA,h4]
    rw [e]
    exact rgl_11 (τ2:=.ok []) S G hB hl (hid h1) (hid h2) (hid hb) hk (hid h3) hE (hid (hE ▸ hy)) (hid h4) (hid rfl)
  | false =>
   have hk' : z.k = 1:=by simpa using hk
   cases hn : decide (z.n < 1) with
   | true =>
    have hn' : z.n < 1:=by simpa using hn
    obtain ⟨τ3,h3⟩ : ∃ q,(RS.bad 2 z.a).need [93] = q:=⟨_,rfl⟩
    have hl1 : lenF (.ok (z :: r)) = (0,.bad 2 z.a):=by simp [lenF,hk',hn']
    cases hy : τ3.is kBy with
    | false =>
     have e : globF l.length σ = (⟨a,nm,tr,sc,0,[]⟩,τ3.need [59]):=by simp [globF,h1,h2,hb,hadv,hl1,h3,hy]
     rw [e]
     exact rgl_20 (by_:=[]) (ba:=0) (y2:=w00) (r2:=[]) (τ4:=.ok []) (τ2:=.ok []) S G hB hl (hid h1) (hid h2) (hid hb) hk hn (hid h3) (hid hy) (hid rfl)
    | true =>
     obtain ⟨y2,r2,hE⟩:=is_ok hy
     obtain ⟨⟨⟨by_,ba⟩,τ4⟩,h4⟩ : ∃ q,nameF (.ok r2) = q:=⟨_,rfl⟩
     have e : globF l.length σ = (⟨a,nm,tr,sc,0,by_⟩,τ4.need [59]):=by
      have hA : (τ3).adv = .ok r2:=by (rw [hE];rfl)
      simp [globF,h1,h2,hb,hadv,hl1,h3,hy,hA,h4]
     rw [e]
     exact rgl_21 (τ2:=.ok []) S G hB hl (hid h1) (hid h2) (hid hb) hk hn (hid h3) hE (hid (hE ▸ hy)) (hid h4) (hid rfl)
   | false =>
    have hn' : ¬ z.n < 1:=by simpa using hn
    cases hm : decide (z.n > 64) with
    | true =>
     have hm' : 64 < z.n:=by simpa using hm
     obtain ⟨τ3,h3⟩ : ∃ q,(RS.bad 2 z.a).need [93] = q:=⟨_,rfl⟩
     have hl1 : lenF (.ok (z :: r)) = (0,.bad 2 z.a):=by simp [lenF,hk',hm']
     cases hy : τ3.is kBy with
     | false =>
      have e : globF l.length σ = (⟨a,nm,tr,sc,0,[]⟩,τ3.need [59]):=by simp [globF,h1,h2,hb,hadv,hl1,h3,hy]
      rw [e]
      exact rgl_30 (by_:=[]) (ba:=0) (y2:=w00) (r2:=[]) (τ4:=.ok []) (τ2:=.ok []) S G hB hl (hid h1) (hid h2) (hid hb) hk hn hm (hid h3) (hid hy) (hid rfl)
     | true =>
      obtain ⟨y2,r2,hE⟩:=is_ok hy
      obtain ⟨⟨⟨by_,ba⟩,τ4⟩,h4⟩ : ∃ q,nameF (.ok r2) = q:=⟨_,rfl⟩
      have e : globF l.length σ = (⟨a,nm,tr,sc,0,by_⟩,τ4.need [59]):=by
       have hA : (τ3).adv = .ok r2:=by (rw [hE];rfl)
       simp [globF,h1,h2,hb,hadv,hl1,h3,hy,hA,h4]
      rw [e]
      exact rgl_31 (τ2:=.ok []) S G hB hl (hid h1) (hid h2) (hid hb) hk hn hm (hid h3) hE (hid (hE ▸ hy)) (hid h4) (hid rfl)
    | false =>
     have hm' : ¬ 64 < z.n:=by simpa using hm
     obtain ⟨τ3,h3⟩ : ∃ q,(RS.ok r).need [93] = q:=⟨_,rfl⟩
     have hl1 : lenF (.ok (z :: r)) = (z.n,.ok r):=by simp [lenF,hk',hn',hm']
     cases hy : τ3.is kBy with
     | false =>
      have e : globF l.length σ = (⟨a,nm,tr,sc,z.n,[]⟩,τ3.need [59]):=by simp [globF,h1,h2,hb,hadv,hl1,h3,hy]
      rw [e]
      exact rgl_40 (by_:=[]) (ba:=0) (y2:=w00) (r2:=[]) (τ4:=.ok []) (τ2:=.ok []) S G hB hl (hid h1) (hid h2) (hid hb) hk hn hm (by omega) (hid h3) (hid hy) (hid rfl)
     | true =>
      obtain ⟨y2,r2,hE⟩:=is_ok hy
      obtain ⟨⟨⟨by_,ba⟩,τ4⟩,h4⟩ : ∃ q,nameF (.ok r2) = q:=⟨_,rfl⟩
      have e : globF l.length σ = (⟨a,nm,tr,sc,z.n,by_⟩,τ4.need [59]):=by
       have hA : (τ3).adv = .ok r2:=by (rw [hE];rfl)
       simp [globF,h1,h2,hb,hadv,hl1,h3,hy,hA,h4]
      rw [e]
      exact rgl_41 (τ2:=.ok []) S G hB hl (hid h1) (hid h2) (hid hb) hk hn hm (by omega) (hid h3) hE (hid (hE ▸ hy)) (hid h4) (hid rfl)
theorem lenF_le {s : RS} (h : s.fin) : Le (lenF s).2 s:=by
 cases s with
 | bad c a => exact ⟨Nat.le_refl _,h⟩
 | ok tt =>
  cases tt with
  | nil => exact ⟨Nat.le_refl _,h⟩
  | cons w ts =>
   have bad : ∀ c a,Le (RS.bad c a) (.ok (w :: ts)):=fun c a => ⟨Nat.zero_le _,bad_fin _ _⟩
   have e : lenF (.ok (w :: ts)) = if w.k ≠ 1 then (0,.bad 11 w.a) else if w.n < 1 ∨ 64 < w.n then (0,.bad 2 w.a) else (w.n,.ok ts):=rfl
   rw [e]
   by_cases h1 : w.k ≠ 1
   · rw [if_pos h1]
     exact bad _ _
   · rw [if_neg h1]
     by_cases h2 : w.n < 1 ∨ 64 < w.n
     · rw [if_pos h2]
       exact bad _ _
     · rw [if_neg h2]
       exact (adv_le h (by omega)).1
theorem pars_le : ∀ (n k : Nat) (s : RS),s.fin → Le (parsF n k s).2 s
 | 0,k,s,h => ⟨Nat.le_refl _,h⟩
 | n + 1,k,s,h => by
  unfold parsF
  cases hg : s.good with
  | false => simp;exact ⟨Nat.le_refl _,h⟩
  | true =>
   simp only [if_true]
   have k1:=kind_le (lim_le h k 6).2
   have k2:=name_le k1.2
   have k12:=k2.trans (k1.trans (lim_le h k 6))
   cases b : (nameF (kindF (limF k 6 s)).2).2.is [44] with
   | false => simp;exact k12
   | true =>
    simp only [if_true]
    have ha:=is_adv b k2.2
    exact (pars_le n (k + 1) _ ha.1.2).trans (ha.1.trans k12)
theorem params_le {s : RS} (h : s.fin) : Le (paramsF s).2 s:=by
 have k1:=need_le h [40]
 have e : paramsF s = if (s.need [40]).is [41] then ([],(s.need [40]).adv) else ((parsF 8 0 (s.need [40])).1,(parsF 8 0 (s.need [40])).2.need [41]):=rfl
 rw [e]
 cases b : (s.need [40]).is [41] with
 | true => exact (is_adv b k1.2).1.trans k1
 | false =>
  have k2:=pars_le 8 0 _ k1.2
  exact (need_le k2.2 [41]).trans (k2.trans k1)
theorem func_le (n : Nat) {s : RS} (h : s.adv.fin) : Le (funcF n s).2 s.adv:=by
 unfold funcF
 have k1:=name_le h
 have k2:=params_le k1.2
 have k3:=kind_le k2.2
 have k4:=need_le k3.2 [123]
 have k5:=(read_le n).2.2 1 kReturn _ k4.2
 have k6:=need_le k5.2 kReturn
 have k7:=ex_le k6.2
 have k8:=need_le k7.2 [59]
 exact (need_le k8.2 [125]).trans (k8.trans (k7.trans (k6.trans (k5.trans (k4.trans (k3.trans (k2.trans k1)))))))
theorem if_le {α : Type} {s : α × RS} {z : α} {r m : RS} {c : Bool} (h1 : c = true → Le s.2 m) (h2 : Le r m) : Le (if c then s else (z,r)).2 m:=by
 cases c with
 | true => exact h1 rfl
 | false => exact h2
theorem glob_le (n : Nat) {s m : RS} (hk : Le (eithF kPublic kSecret (limF n 32 s)).2 m) : Le (globF n s).2 m:=by
 have k1 : Le (kindF (limF n 32 s)).2 m:=(eith_le hk.2 kInt kBool).trans hk
 have k2:=(name_le k1.2).trans k1
 have k3:=if_le (c:=(nameF (kindF (limF n 32 s)).2).2.is [91]) (z:=(0 : Int)) (s:=(let q:=lenF (nameF (kindF (limF n 32 s)).2).2.adv;(q.1,q.2.need [93]))) (fun b => (need_le (lenF_le (is_adv b k2.2).1.2).2 [93]).trans ((lenF_le (is_adv b k2.2).1.2).trans ((is_adv b k2.2).1.trans k2))) k2
 obtain ⟨l,hl⟩ : ∃ l,(if (nameF (kindF (limF n 32 s)).2).2.is [91] then (let q:=lenF (nameF (kindF (limF n 32 s)).2).2.adv;(q.1,q.2.need [93])) else ((0 : Int),(nameF (kindF (limF n 32 s)).2).2)) = l:=⟨_,rfl⟩
 rw [hl] at k3
 have k4:=if_le (c:=l.2.is kBy) (z:=([] : List UInt8)) (s:=(let q:=nameF l.2.adv;(q.1.1,q.2))) (fun b => (name_le (is_adv b k3.2).1.2).trans ((is_adv b k3.2).1.trans k3)) k3
 have k5:=(need_le k4.2 [59]).trans k4
 have e : (globF n s).2 = RS.need [59] (if l.2.is kBy then (let q:=nameF l.2.adv;(q.1.1,q.2)) else ([],l.2)).2:=by
  rw [← hl]
  rfl
 rw [e]
 exact k5
theorem thing_le (n : Nat) (p : Pg) {x : Wd} {tt : List Wd} (h : (RS.ok (x :: tt)).fin) (hx : x.k ≠ 3) : Le (thingF n p (.ok (x :: tt))).2 (.ok tt):=by
 have ha : Le (RS.ok tt) (.ok tt):=⟨Nat.le_refl _,(adv_le h hx).1.2⟩
 have bad : ∀ c a,Le (RS.bad c a) (.ok tt):=fun c a => ⟨Nat.zero_le _,bad_fin _ _⟩
 unfold thingF
 cases b1 : (RS.ok (x :: tt)).is kLock with
 | true =>
  simp only [if_true]
  rcases limF_cases p.ls.length 8 x tt with e | e
  · rw [e]
    have k1:=name_le ha.2
    exact (need_le k1.2 [59]).trans k1
  · rw [e]
    exact bad _ _
 | false =>
  simp only [Bool.false_eq_true,if_false]
  cases b2 : (RS.ok (x :: tt)).is kFunc with
  | true =>
   simp only [if_true]
   rcases limF_cases p.fs.length 16 x tt with e | e
   · rw [e]
     exact func_le n (s:=.ok (x :: tt)) ha.2
   · rw [e]
     exact bad _ _
  | false =>
   simp only [Bool.false_eq_true,if_false]
   cases b3 : (RS.ok (x :: tt)).is kThread with
   | true =>
    simp only [if_true]
    rcases limF_cases p.ths.length 4 x tt with e | e
    · rw [e]
      exact (read_le n).2.1 0 _ ha.2
    · rw [e]
      exact bad _ _
   | false =>
    simp only [Bool.false_eq_true,if_false]
    cases b4 : ((RS.ok (x :: tt)).is kPublic || (RS.ok (x :: tt)).is kSecret) with
    | true =>
     simp only [if_true]
     refine glob_le _ ?_
     rcases limF_cases p.gs.length 32 x tt with e | e
     · rw [e]
       unfold eithF
       cases b5 : (RS.ok (x :: tt)).is kSecret with
       | true => simp only [if_true];exact ha
       | false =>
        simp only [Bool.false_eq_true,if_false]
        rw [b5,Bool.or_false] at b4
        unfold RS.need
        rw [if_pos b4]
        exact ha
     · rw [e]
       exact bad _ _
    | false =>
     simp only [Bool.false_eq_true,if_false]
     exact bad _ _
theorem thing_more (n : Nat) (p : Pg) (s : RS) : (thingF n p s).1.gs.length ≤ p.gs.length + 1 ∧ (thingF n p s).1.ls.length ≤ p.ls.length + 1 ∧ (thingF n p s).1.fs.length ≤ p.fs.length + 1 ∧ (thingF n p s).1.ths.length ≤ p.ths.length + 1:=by
 unfold thingF
 dsimp only
 repeat' split
 all_goals simp
end Go.Proofs.Ytbmmjomcjlpnlaa
namespace Go.Proofs.Ytbmmjomcjlpnlaa
open Go
section
variable {num : List UInt8 → Option Int}
theorem mem_tw {p : UInt8 → Bool} : ∀ (l : List UInt8) (c : UInt8),c ∈ l.takeWhile p → p c = true
 | [],c,h => by simp at h
 | x :: r,c,h => by
  rw [List.takeWhile_cons] at h
  split at h
  · rcases List.mem_cons.1 h with rfl | h
    · assumption
    · exact mem_tw r c h
  · simp at h
theorem all_take {p : UInt8 → Bool} : ∀ l : List UInt8,∀ c ∈ l.take (l.takeWhile p).length,p c = true:=by
 intro l
 rw [take_takeWhile]
 intro c hc
 exact mem_tw l c hc
theorem Sc.wd_ok (hnum : ∀ t v,num t = some v → 0 ≤ v ∧ v ≤ 9223372036854775807 ∧ t = Lib.itoa v) {l : List UInt8} {a : Nat} {ws : List Wd} {r : Option (Int × Nat)} (h : Sc num l a ws r) : ∀ w ∈ ws,WdOk w:=by
 induction h with
 | done a => intro w hw;simp at hw;subst hw;exact ⟨fun h => absurd (show (3 : Int) = 0 from h) (by decide),fun h => absurd (show (3 : Int) = 1 from h) (by decide),fun h => absurd rfl h⟩
 | bad => intro w hw;simp at hw
 | gap _ _ _ _ _ _ _ _ ih => exact ih
 | word l a n k v ws r hl ht hs ih =>
  intro w hw
  rcases List.mem_cons.1 hw with rfl | hw
  · have hn:=tok_word hl ht
    refine ⟨fun hk hy => ?_,fun hk => ?_,fun _ => by show 1 ≤ (l.take n).length;rw [List.length_take];omega⟩
    · obtain rfl : k = 0:=hk
      obtain ⟨c,q,rfl⟩:=List.exists_cons_of_ne_nil hl
      simp only [tok] at ht
      split at ht
      · cases ht
      split at ht
      · cases ht
      split at ht
      · rename_i hc
        split at ht
        · cases ht
        · rename_i hs24
          injection ht with e1 e2 e3
          subst e2
          have hall:=all_take (p:=isPart) (c :: q)
          obtain ⟨m,hm⟩ : ∃ m,spanL (c :: q) = m + 1:=⟨spanL (c :: q) - 1,by have:=hn.1;omega⟩
          refine ⟨c,q.take m,by rw [hm];rfl,hc,fun d hd => hall d ?_,by rw [List.length_take];omega,hy⟩
          show d ∈ (c :: q).take (spanL (c :: q))
          rw [hm,List.take_succ_cons]
          exact List.mem_cons_of_mem _ hd
      · split at ht
        · split at ht
          · injection ht with e1;cases e1
          · cases ht
        · split at ht
          · cases ht
          · injection ht with e1;cases e1
    · obtain rfl : k = 1:=hk
      obtain ⟨c,q,rfl⟩:=List.exists_cons_of_ne_nil hl
      simp only [tok] at ht
      split at ht
      · cases ht
      split at ht
      · cases ht
      split at ht
      · split at ht
        · cases ht
        · injection ht with e1;cases e1
      · split at ht
        · split at ht
          · rename_i v' hv
            injection ht with e1 e2 e3
            subst e3
            rw [e2] at hv
            exact hnum _ _ hv
          · cases ht
        · split at ht
          · cases ht
          · injection ht with e1;cases e1
  · exact ih w hw
theorem Sc.lens_le {l : List UInt8} {a : Nat} {ws : List Wd} {r : Option (Int × Nat)} (h : Sc num l a ws r) : lens ws ≤ l.length:=by
 induction h with
 | done a => simp [lens]
 | bad => simp [lens]
 | gap l a n ws r _ _ _ ih =>
  rw [List.length_drop] at ih
  omega
 | word l a n k v ws r hl ht _ ih =>
  have:=tok_word hl ht
  simp only [lens,List.length_take]
  rw [List.length_drop] at ih
  omega
theorem Sc.place {l : List UInt8} {a : Nat} {ws : List Wd} {r : Option (Int × Nat)} (h : Sc num l a ws r) : ∀ w ∈ ws,w.a ≤ a + l.length ∧ (w.k ≠ 3 → w.a < a + l.length):=by
 induction h with
 | done a => intro w hw;simp at hw;subst hw;exact ⟨Nat.le_refl _,fun h => absurd rfl h⟩
 | bad => intro w hw;simp at hw
 | gap l a n ws r hl ht _ ih =>
  intro w hw
  have h1:=tok_gap hl ht
  have:=ih w hw
  rw [List.length_drop] at this
  exact ⟨by omega,fun h => by have:=this.2 h;omega⟩
 | word l a n k v ws r hl ht _ ih =>
  intro w hw
  have h1:=tok_word hl ht
  rcases List.mem_cons.1 hw with rfl | hw
  · exact ⟨by show a ≤ _;omega,fun _ => by show a < _;omega⟩
  · have:=ih w hw
    rw [List.length_drop] at this
    exact ⟨by omega,fun h => by have:=this.2 h;omega⟩
theorem Sc.ends {l : List UInt8} {a : Nat} {ws : List Wd} {r : Option (Int × Nat)} (h : Sc num l a ws r) (hr : r = none) : ∃ ws0 e,ws = ws0 ++ [e] ∧ e.k = 3 ∧ ∀ w ∈ ws0,w.k ≠ 3:=by
 induction h with
 | done a => exact ⟨[],_,rfl,rfl,by simp⟩
 | bad => cases hr
 | gap _ _ _ _ _ _ _ _ ih => exact ih hr
 | word l a n k v ws r hl ht _ ih =>
  obtain ⟨w0,e,h1,h2,h3⟩:=ih hr
  exact ⟨_ :: w0,e,by rw [h1];rfl,h2,fun w hw => by
   rcases List.mem_cons.1 hw with rfl | hw
   · exact tok_kind ht
   · exact h3 w hw⟩
end
theorem P.ne {o : Nat} {j : Job} {ts : List Wd} {r : Res} (h : P o j ts r) : ts ≠ []:=by
 induction h with
 | lstMore _ _ _ ih _ => exact ih
 | lstEnd _ _ ih => exact ih
 | lstBad _ ih => exact ih
 | expr _ _ ih _ => exact ih
 | exprBad _ ih => exact ih
 | _ => simp
theorem P.begins {o : Nat} {j : Job} {ts : List Wd} {r : Res} (h : P o j ts r) : (j = .thing ∨ (∃ q,j = .expr q) ∨ ∃ acc,j = .list acc) → (∀ c a,r ≠ .bad c a) → ∀ w t,ts = w :: t → w.k ≠ 3:=by
 induction h with
 | num h => rintro _ _ w t e;cases e;rw [h];decide
 | tru h _ | fls h _ => rintro _ _ w t e;cases e;rw [h];decide
 | neg h _ _ | not h _ _ | par h _ _ => rintro _ _ w t e;cases e;exact h.ne
 | name h _ _ _ => rintro _ _ w t e;cases e;rw [h];decide
 | stray | behLim | behBad | wthLim | wthNo | wthBad | namElemBad | namCallBad | givLim | givNo | givBad | lstBad | exprBad | loopBad => intro _ h;exact absurd rfl (h _ _)
 | behOk | wthOk | namVar | namElem | namCall | givNone | givSome | loopEnd | loopMore => intro h;rcases h with h | ⟨_,h⟩ | ⟨_,h⟩ <;> cases h
 | lstMore _ _ _ ih _ => intro _ _;exact ih (.inr (.inl ⟨_,rfl⟩)) (by intros;simp)
 | lstEnd _ _ ih => intro _ _;exact ih (.inr (.inl ⟨_,rfl⟩)) (by intros;simp)
 | expr _ _ ih _ => intro _ _;exact ih (.inl rfl) (by intros;simp)
end Go.Proofs.Ytbmmjomcjlpnlaa
namespace Go.Proofs.Ytbmmjomcjlpnlaa
open Go Go.RowKit
def KW (B b : Nat) (w w' : World) : Prop:=Below B w w' ∧ Lib.OthersKept 5 (some b) w w'
section
variable {B b : Nat} {bs : List Value} {tabs : Int} {w w' w'' : World}
theorem KW.refl (B b : Nat) (w : World) : KW B b w w:=⟨Below.refl _ _,Lib.OthersKept.refl _ _ _⟩
theorem KW.trans (h : KW B b w w') (k : KW B b w' w'') : KW B b w w'':=⟨h.1.trans k.1,h.2.trans k.2⟩
theorem KW.size (h : KW B b w w') : w.heap.size ≤ w'.heap.size:=h.1.size
theorem KW.alloc (h : KW B b w w') (hB : B ≤ w'.heap.size) (o : Obj) : KW B b w (w'.alloc o):=⟨h.1.alloc hB _,h.2.alloc o⟩
theorem KW.below (hB : B ≤ w.heap.size) (hb : Below w.heap.size w w') : KW B b w w':=⟨hb.mono hB,fun k o ho _ _ => (hb.block k (Array.getElem?_eq_some_iff.1 ho).1).trans ho⟩
theorem KW.stay (h : KW B b w w') (hB : B ≤ w'.heap.size) (hb : Below w'.heap.size w' w'') : KW B b w w'':=h.trans (.below hB hb)
end
end Go.Proofs.Ytbmmjomcjlpnlaa
namespace Go.Proofs.Ytbmmjomcjlpnlaa
open Go Go.RowKit
theorem IsExP.form {ok : Nat → Prop} {W : World} {e : Ex} {v : Value} (h : IsExP ok W e v) : ∃ p c,v = .slice p e.ks.length c:=by
 cases h with
 | leaf => exact ⟨_,_,rfl⟩
 | node g cap => exact ⟨_,_,rfl⟩
def Strs (w : World) (g : Nat) (ps : List (List UInt8)) : Prop:=w.heap[g]? = some (.cells (ps.map fun p => Value.string (bstr p)).toArray 9 (0,0))
theorem Strs.at_ {w : World} {g : Nat} {ps : List (List UInt8)} (h : Strs w g ps) (k : Nat) (p : List UInt8) (hp : ps[k]? = some p) : w.cell? ⟨g,k,none⟩ = some (.string (bstr p)):=by
 rw [cell_of_row _ _ _ _ _ _ h]
 simp [hp]
theorem below_of_alloc (W : World) (o : Obj) : Below W.heap.size W (W.alloc o):=(Below.refl _ _).alloc (Nat.le_refl _) _
theorem below_ch {W a c : World} (h : Below W.heap.size W a) (k : Below a.heap.size a c) : Below W.heap.size W c :=
 ⟨k.os.trans h.os,k.tape.trans h.tape,k.output.trans h.output,Nat.le_trans h.size k.size,fun i hi => (k.block i (Nat.lt_of_lt_of_le hi h.size)).trans (h.block i hi)⟩
theorem IsSt1.slices {ok : Nat → Prop} {W : World} {s : Stm} {v : SV} (h : IsSt1 ok W s v) : ∃ z1 k1 z2 k2 z3 k3 z4 k4,v = ⟨.slice z1 s.ix.length k1,.slice z2 s.es.length k2,.slice z3 s.bd.length k3,.slice z4 s.el.length k4⟩:=by
 obtain ⟨h1,h2,h3,h4⟩:=h
 obtain ⟨z1,k1,e1⟩:=h1.form
 obtain ⟨z2,k2,e2⟩:=h2.form
 obtain ⟨z3,k3,e3⟩:=h3.form
 obtain ⟨z4,k4,e4⟩:=h4.form
 refine ⟨z1,k1,z2,k2,z3,k3,z4,k4,?_⟩
 cases v
 simp only at e1 e2 e3 e4
 rw [e1,e2,e3,e4]
 rfl
theorem IsSt1.keptT {lo : Nat} {W X : World} {s : Stm} {v : SV} (h : IsSt1 (fun g => lo ≤ g) W s v) (k : KeptT lo W X) : IsSt1 (fun g => lo ≤ g) X s v:=⟨h.1.keptT k,h.2.1.keptT k,h.2.2.1.keptT k,h.2.2.2.keptT k⟩
open Go
def OkW (ts : List Wd) : Prop:=(∀ w ∈ ts,WdOk w) ∧ lens ts ≤ 16384 ∧ ts.length ≤ 16385
theorem OkW.suf {a b : List Wd} (h : OkW b) (hs : a <:+ b) : OkW a:=⟨fun w hw => h.1 w (hs.subset hw),Nat.le_trans (lens_suf hs) h.2.1,Nat.le_trans hs.length_le h.2.2⟩
def Sb (t s : RS) : Prop:=∀ tt,t = .ok tt → ∃ ss,s = .ok ss ∧ tt <:+ ss
theorem Sb.refl (s : RS) : Sb s s:=fun tt h => ⟨tt,h,List.suffix_refl _⟩
theorem Sb.trans {a b c : RS} (h : Sb a b) (k : Sb b c) : Sb a c:=fun tt e => by
 obtain ⟨ss,e1,e2⟩:=h tt e
 obtain ⟨uu,e3,e4⟩:=k ss e1
 exact ⟨uu,e3,e2.trans e4⟩
theorem Sb.bad (c : Int) (a : Nat) (s : RS) : Sb (.bad c a) s:=fun _ h => by cases h
theorem fail_sb (e : Int) (s : RS) : Sb (s.fail e) s:=by
 cases s with
 | bad c a => exact .refl _
 | ok tt => cases tt with
  | nil => exact .refl _
  | cons w r => exact .bad _ _ _
theorem adv_sb (s : RS) : Sb s.adv s:=by
 cases s with
 | bad c a => exact .refl _
 | ok tt => cases tt with
  | nil => exact .refl _
  | cons w r => exact fun t h => by cases h;exact ⟨_,rfl,List.suffix_cons _ _⟩
theorem need_sb (t : List UInt8) (s : RS) : Sb (s.need t) s:=by
 unfold RS.need
 split
 · exact adv_sb s
 · exact fail_sb _ s
theorem eith_sb (x y : List UInt8) (s : RS) : Sb (eithF x y s).2 s:=by
 unfold eithF
 split
 · exact adv_sb s
 · exact need_sb x s
theorem kind_sb (s : RS) : Sb (kindF s).2 s:=(eith_sb _ _ _).trans (eith_sb _ _ _)
theorem name_sb (s : RS) : Sb (nameF s).2 s ∧ ∀ tt,(nameF s).2 = .ok tt → ∀ ss,s = .ok ss → OkW ss → (nameF s).1.1.length ≤ 24:=by
 cases s with
 | bad c a => exact ⟨.refl _,fun _ h => by cases h⟩
 | ok tt => cases tt with
  | nil => exact ⟨.refl _,fun _ _ _ _ _ => by simp [nameF]⟩
  | cons w r =>
   rw [nameF_cons]
   by_cases h : w.k ≠ 0 ∨ keyB w.t = true
   · rw [if_pos h]
     exact ⟨.bad _ _ _,fun _ h => by cases h⟩
   · rw [if_neg h]
     refine ⟨fun t e => by cases e;exact ⟨_,rfl,List.suffix_cons _ _⟩,fun t _ ss e ho => ?_⟩
     cases e
     have hk : w.k = 0:=by (cases Classical.em (w.k = 0) with | inl e => exact e | inr e => exact absurd (.inl e) h)
     have hy : keyB w.t = false:=by (cases e : keyB w.t with | false => rfl | true => exact absurd (.inr e) h)
     obtain ⟨_,_,_,_,_,h24,_⟩:=(ho.1 w (.head _)).1 hk hy
     exact h24
theorem ex0_good : GoodE ex0:=⟨by decide,.mk (by decide) (by decide) (by simp),by (rw [txt0 (x:=ex0) rfl];show (Lib.itoa ((0 : Nat) : Int)).length ≤ _;rw [Lib.itoa_nonneg];simp [Lib.decDigits]),.num (by decide) (by decide)⟩
theorem name_nm (s : RS) (tt : List Wd) (hh : (nameF s).2 = .ok tt) (ss : List Wd) (hs : s = .ok ss) (ho : OkW ss) : NmOk (nameF s).1.1:=by
 subst hs
 cases ss with
 | nil => exact .inl (by simp [nameF])
 | cons w r =>
  rw [nameF_cons] at hh ⊢
  by_cases h : w.k ≠ 0 ∨ keyB w.t = true
  · rw [if_pos h] at hh
    cases hh
  · rw [if_neg h]
    have hk : w.k = 0:=by (cases Classical.em (w.k = 0) with | inl e => exact e | inr e => exact absurd (.inl e) h)
    have hy : keyB w.t = false:=by (cases e : keyB w.t with | false => rfl | true => exact absurd (.inr e) h)
    exact .inr ((ho.1 w (.head _)).1 hk hy)
theorem ex_sb (s : RS) : Sb (exF s).2 s ∧ ∀ ss,s = .ok ss → OkW ss → GoodE (exF s).1:=by
 cases s with
 | bad c a => exact ⟨.refl _,fun _ h => by cases h⟩
 | ok ts =>
  by_cases hx : ∃ r,P 0 (.expr 1) ts r
  · obtain ⟨r,hr⟩:=hx
    cases r with
    | ok x ts' =>
     rw [exF_ok hr]
     refine ⟨fun t e => by cases e;exact ⟨_,rfl,hr.suf⟩,fun ss e ho => ?_⟩
     cases e
     have hf:=hr.fit ho.1 (by omega) (by omega)
     obtain ⟨w1,w2⟩:=hr.wt ho.1 (by omega)
     have h1 : x.txt.length ≤ x.wt:=by (unfold Ex.wt;omega)
     have:=ho.2.1
     have:=ho.2.2
     show GoodE x
     exact ⟨by omega,hf.1.nums,by omega,hf.1⟩
    | bad c a =>
     rw [exF_bad hr]
     exact ⟨.bad _ _ _,fun _ _ _ => ex0_good⟩
    | okL l ts' =>
     have e:=(Classical.choose_spec (⟨_,hr⟩ : ∃ r,P 0 (.expr 1) ts r)).det _ hr
     have e2 : exF (.ok ts) = (ex0,.ok ts):=by simp only [exF,dif_pos (⟨_,hr⟩ : ∃ r,P 0 (.expr 1) ts r),e]
     rw [e2]
     exact ⟨.refl _,fun _ _ _ => ex0_good⟩
  · have e2 : exF (.ok ts) = (ex0,.ok ts):=by simp only [exF,dif_neg hx]
    rw [e2]
    exact ⟨.refl _,fun _ _ _ => ex0_good⟩
theorem bound_sb (s : RS) : Sb (boundF s).2 s ∧ ∀ ss,s = .ok ss → OkW ss → (∃ tt,(boundF s).2 = .ok tt) → GoodE (boundF s).1:=by
 have k1:=need_sb [40] s
 have k2:=ex_sb (s.need [40])
 have k3:=need_sb [41] (exF (s.need [40])).2
 refine ⟨k3.trans (k2.1.trans k1),fun ss e ho ⟨tt,ht⟩ => ?_⟩
 obtain ⟨u,hu,_⟩:=k3 tt ht
 obtain ⟨v,hv,_⟩:=k2.1 u hu
 obtain ⟨w,hw,hs⟩:=k1 v hv
 rw [e] at hw
 cases hw
 exact k2.2 v hv (ho.suf hs)
theorem Sb.back {t s : RS} (h : Sb t s) {tt ss : List Wd} (ht : t = .ok tt) (hs : s = .ok ss) (ho : OkW ss) : OkW tt ∧ tt <:+ ss:=by
 obtain ⟨u,hu,h2⟩:=h tt ht
 rw [hs] at hu
 cases hu
 exact ⟨ho.suf h2,h2⟩
def RdS (s : RS) (q : Stm × RS) : Prop:=Sb q.2 s ∧ ∀ tt ss,q.2 = .ok tt → s = .ok ss → OkW ss → GoodS q.1 ∧ q.1.cnt + tt.length ≤ ss.length
def RdL (s : RS) (q : List Stm × RS) : Prop:=Sb q.2 s ∧ ∀ tt ss,q.2 = .ok tt → s = .ok ss → OkW ss → (∀ x ∈ q.1,GoodS x) ∧ cntS q.1 + tt.length ≤ ss.length
theorem suf_tl {a : List Wd} {x : Wd} {tt : List Wd} (h : a <:+ tt) : a <:+ x :: tt:=h.trans (List.suffix_cons _ _)
theorem rd_all : ∀ n : Nat,(∀ d x tt,(RS.ok (x :: tt)).fin → 3 * (tt.length + 1) ≤ n → RdS (.ok (x :: tt)) (stmtF n d (.ok (x :: tt)))) ∧ (∀ d s,s.fin → 3 * s.len + 2 ≤ n → RdL s (blockF n d s)) ∧ (∀ d t s,s.fin → 3 * s.len + 1 ≤ n → RdL s (stmtsF n d t s)):=by
 intro n
 induction n with
 | zero =>
  exact ⟨fun d x tt _ h => absurd h (by omega),fun d s _ h => absurd h (by omega),fun d t s _ h => absurd h (by omega)⟩
 | succ n ih =>
  obtain ⟨ih1,ih2,ih3⟩:=ih
  refine ⟨fun d x tt hf hn0 => ?_,fun d s hf hn0 => ?_,fun d t s hf hn0 => ?_⟩
  · have ha : Sb (RS.ok tt) (.ok (x :: tt)):=adv_sb (.ok (x :: tt))
    have hadv : (RS.ok (x :: tt)).adv = .ok tt:=rfl
    unfold stmtF
    rw [hadv]
    by_cases b1 : (RS.ok (x :: tt)).is kVar = true
    · rw [if_pos b1]
      have k1:=kind_sb (.ok tt)
      have k2:=name_sb (kindF (.ok tt)).2
      have k3:=need_sb [61] (nameF (kindF (.ok tt)).2).2
      have k4:=ex_sb ((nameF (kindF (.ok tt)).2).2.need [61])
      have k5:=need_sb [59] (exF ((nameF (kindF (.ok tt)).2).2.need [61])).2
      refine ⟨k5.trans (k4.1.trans (k3.trans (k2.1.trans (k1.trans ha)))),fun t' ss ht hs ho => ?_⟩
      cases hs
      obtain ⟨u5,e5,s5⟩:=k5 t' ht
      obtain ⟨u4,e4,s4⟩:=k4.1 u5 e5
      obtain ⟨u3,e3,s3⟩:=k3 u4 e4
      obtain ⟨u2,e2,s2⟩:=k2.1 u3 e3
      obtain ⟨u1,e1,s1⟩:=k1 u2 e2
      cases e1
      have h4:=ho.suf (suf_tl (s3.trans (s2.trans s1)))
      have hn:=name_nm _ u3 e3 u2 e2 (ho.suf (suf_tl s1))
      refine ⟨.mk (by decide) (by decide) (by simp) (by simpa using k4.2 u4 e4 h4) hn (by simp) (by simp),?_⟩
      have:=(s5.trans (s4.trans (s3.trans (s2.trans s1)))).length_le
      simp only [Stm.cnt,cntS,List.length_cons]
      omega
    · rw [if_neg b1]
      by_cases b2 : (RS.ok (x :: tt)).is kIf = true
      · rw [if_pos b2]
        have hft : (RS.ok tt).fin:=(is_adv b2 hf).1.2
        have l1:=bound_le hft
        have l1' : (boundF (.ok tt)).2.len ≤ tt.length:=l1.1
        have k1:=bound_sb (.ok tt)
        have k2:=ih2 d (boundF (.ok tt)).2 l1.2 (by omega)
        have l2:=(read_le n).2.1 d _ l1.2
        cases b5 : (blockF n d (boundF (.ok tt)).2).2.is kElse with
        | false =>
         simp only [b5,Bool.false_eq_true,if_false]
         refine ⟨k2.1.trans (k1.1.trans ha),fun t' ss ht hs ho => ?_⟩
         cases hs
         obtain ⟨u2,e2,s2⟩:=k2.1 t' ht
         obtain ⟨u1,e1,s1⟩:=k1.1 u2 e2
         cases e1
         have g1:=k1.2 tt rfl (ho.suf (List.suffix_cons _ _)) ⟨u2,e2⟩
         have g2:=k2.2 t' u2 ht e2 (ho.suf (suf_tl s1))
         refine ⟨.mk (by decide) (by decide) (by simp) (by simpa using g1) (.inl rfl) g2.1 (by simp),?_⟩
         have:=s1.length_le
         have:=g2.2
         simp only [Stm.cnt,cntS,List.length_cons]
         omega
        | true =>
         simp only [b5,if_true]
         have k3:=adv_sb (blockF n d (boundF (.ok tt)).2).2
         have l3:=(is_adv b5 l2.2).1
         have k4:=ih2 d (blockF n d (boundF (.ok tt)).2).2.adv l3.2 (by have:=l3.1;have:=l2.1;omega)
         refine ⟨k4.1.trans (k3.trans (k2.1.trans (k1.1.trans ha))),fun t' ss ht hs ho => ?_⟩
         cases hs
         obtain ⟨u4,e4,s4⟩:=k4.1 t' ht
         obtain ⟨u3,e3,s3⟩:=k3 u4 e4
         obtain ⟨u2,e2,s2⟩:=k2.1 u3 e3
         obtain ⟨u1,e1,s1⟩:=k1.1 u2 e2
         cases e1
         have g1:=k1.2 tt rfl (ho.suf (List.suffix_cons _ _)) ⟨u2,e2⟩
         have g2:=k2.2 u3 u2 e3 e2 (ho.suf (suf_tl s1))
         have g4:=k4.2 t' u4 ht e4 (ho.suf (suf_tl (s3.trans (s2.trans s1))))
         refine ⟨.mk (by decide) (by decide) (by simp) (by simpa using g1) (.inl rfl) g2.1 g4.1,?_⟩
         have:=s1.length_le
         have:=s3.length_le
         have:=g2.2
         have:=g4.2
         simp only [Stm.cnt,List.length_cons]
         omega
      · rw [if_neg b2]
        by_cases b3 : (RS.ok (x :: tt)).is kWhile = true
        · rw [if_pos b3]
          have hft : (RS.ok tt).fin:=(is_adv b3 hf).1.2
          have l1:=bound_le hft
          have l1' : (boundF (.ok tt)).2.len ≤ tt.length:=l1.1
          have k1:=bound_sb (.ok tt)
          have k2:=ih2 d (boundF (.ok tt)).2 l1.2 (by omega)
          refine ⟨k2.1.trans (k1.1.trans ha),fun t' ss ht hs ho => ?_⟩
          cases hs
          obtain ⟨u2,e2,s2⟩:=k2.1 t' ht
          obtain ⟨u1,e1,s1⟩:=k1.1 u2 e2
          cases e1
          have g1:=k1.2 tt rfl (ho.suf (List.suffix_cons _ _)) ⟨u2,e2⟩
          have g2:=k2.2 t' u2 ht e2 (ho.suf (suf_tl s1))
          refine ⟨.mk (by decide) (by decide) (by simp) (by simpa using g1) (.inl rfl) g2.1 (by simp),?_⟩
          have:=s1.length_le
          have:=g2.2
          simp only [Stm.cnt,cntS,List.length_cons]
          omega
        · rw [if_neg b3]
          by_cases b4 : (RS.ok (x :: tt)).is kLock = true
          · rw [if_pos b4]
            have hft : (RS.ok tt).fin:=(is_adv b4 hf).1.2
            have l1:=name_le hft
            have l1' : (nameF (.ok tt)).2.len ≤ tt.length:=l1.1
            have k1:=name_sb (.ok tt)
            have k2:=ih2 d (nameF (.ok tt)).2 l1.2 (by omega)
            refine ⟨k2.1.trans (k1.1.trans ha),fun t' ss ht hs ho => ?_⟩
            cases hs
            obtain ⟨u2,e2,s2⟩:=k2.1 t' ht
            obtain ⟨u1,e1,s1⟩:=k1.1 u2 e2
            cases e1
            have hn:=name_nm _ u2 e2 tt rfl (ho.suf (List.suffix_cons _ _))
            have g2:=k2.2 t' u2 ht e2 (ho.suf (suf_tl s1))
            refine ⟨.mk (by decide) (by decide) (by simp) (by simp) hn g2.1 (by simp),?_⟩
            have:=s1.length_le
            have:=g2.2
            simp only [Stm.cnt,cntS,List.length_cons]
            omega
          · rw [if_neg b4]
            by_cases b6 : (RS.ok (x :: tt)).is kOut = true
            · rw [if_pos b6]
              have k1:=ex_sb (.ok tt)
              have k2:=need_sb [59] (exF (.ok tt)).2
              refine ⟨k2.trans (k1.1.trans ha),fun t' ss ht hs ho => ?_⟩
              cases hs
              obtain ⟨u2,e2,s2⟩:=k2 t' ht
              obtain ⟨u1,e1,s1⟩:=k1.1 u2 e2
              cases e1
              have g1:=k1.2 tt rfl (ho.suf (List.suffix_cons _ _))
              refine ⟨.mk (by decide) (by decide) (by simp) (by simpa using g1) (.inl rfl) (by simp) (by simp),?_⟩
              have:=(s2.trans s1).length_le
              simp only [Stm.cnt,cntS,List.length_cons]
              omega
            · rw [if_neg b6]
              have k1:=name_sb (.ok (x :: tt))
              have hlt : ∀ u1,(nameF (.ok (x :: tt))).2 = .ok u1 → u1.length + 1 ≤ (x :: tt).length:=by
               intro u1 e
               rw [nameF_cons] at e
               split at e
               · cases e
               · cases e
                 simp
              cases b7 : (nameF (RS.ok (x :: tt))).2.is [91] with
              | false =>
               simp only [b7,Bool.false_eq_true,if_false]
               have k2:=need_sb [61] (nameF (.ok (x :: tt))).2
               have k3:=ex_sb ((nameF (.ok (x :: tt))).2.need [61])
               have k4:=need_sb [59] (exF ((nameF (.ok (x :: tt))).2.need [61])).2
               refine ⟨k4.trans (k3.1.trans (k2.trans k1.1)),fun t' ss ht hs ho => ?_⟩
               cases hs
               obtain ⟨u4,e4,s4⟩:=k4 t' ht
               obtain ⟨u3,e3,s3⟩:=k3.1 u4 e4
               obtain ⟨u2,e2,s2⟩:=k2 u3 e3
               obtain ⟨u1,e1,s1⟩:=k1.1 u2 e2
               cases e1
               have hn:=name_nm _ u2 e2 _ rfl ho
               have g1:=k3.2 u3 e3 (ho.suf (s2.trans s1))
               refine ⟨.mk (by decide) (by decide) (by simp) (by simpa using g1) hn (by simp) (by simp),?_⟩
               have:=(s4.trans (s3.trans s2)).length_le
               have:=hlt u2 e2
               simp only [Stm.cnt,cntS]
               omega
              | true =>
               simp only [b7,if_true]
               have k2:=adv_sb (nameF (.ok (x :: tt))).2
               have k3:=ex_sb (nameF (.ok (x :: tt))).2.adv
               have k4:=need_sb [93] (exF (nameF (.ok (x :: tt))).2.adv).2
               have k5:=need_sb [61] ((exF (nameF (.ok (x :: tt))).2.adv).2.need [93])
               have k6:=ex_sb (((exF (nameF (.ok (x :: tt))).2.adv).2.need [93]).need [61])
               have k7:=need_sb [59] (exF (((exF (nameF (.ok (x :: tt))).2.adv).2.need [93]).need [61])).2
               refine ⟨k7.trans (k6.1.trans (k5.trans (k4.trans (k3.1.trans (k2.trans k1.1))))),fun t' ss ht hs ho => ?_⟩
               cases hs
               obtain ⟨u7,e7,s7⟩:=k7 t' ht
               obtain ⟨u6,e6,s6⟩:=k6.1 u7 e7
               obtain ⟨u5,e5,s5⟩:=k5 u6 e6
               obtain ⟨u4,e4,s4⟩:=k4 u5 e5
               obtain ⟨u3,e3,s3⟩:=k3.1 u4 e4
               obtain ⟨u2,e2,s2⟩:=k2 u3 e3
               obtain ⟨u1,e1,s1⟩:=k1.1 u2 e2
               cases e1
               have hn:=name_nm _ u2 e2 _ rfl ho
               have g1:=k3.2 u3 e3 (ho.suf (s2.trans s1))
               have g2:=k6.2 u6 e6 (ho.suf (s5.trans (s4.trans (s3.trans (s2.trans s1)))))
               refine ⟨.mk (by decide) (by decide) (by simpa using g1) (by simpa using g2) hn (by simp) (by simp),?_⟩
               have:=(s7.trans (s6.trans (s5.trans (s4.trans (s3.trans s2))))).length_le
               have:=hlt u2 e2
               simp only [Stm.cnt,cntS]
               omega
  · unfold blockF
    have k0 : Sb (if s.is [123] && decide (d = 32) then s.fail 2 else s) s:=by
     split
     · exact fail_sb _ _
     · exact .refl _
    obtain ⟨s1,hs1⟩ : ∃ s1,(if s.is [123] && decide (d = 32) then s.fail 2 else s) = s1:=⟨_,rfl⟩
    have l0 : Le s1 s:=by
     rw [← hs1]
     split
     · exact fail_le hf 2
     · exact ⟨Nat.le_refl _,hf⟩
    rw [hs1] at k0
    simp only [hs1]
    have k1:=need_sb [123] s1
    have l1:=(need_le l0.2 [123]).trans l0
    have k2:=ih3 (d + 1) [125] (s1.need [123]) l1.2 (by have:=l1.1;omega)
    have k3:=need_sb [125] (stmtsF n (d + 1) [125] (s1.need [123])).2
    refine ⟨k3.trans (k2.1.trans (k1.trans k0)),fun t' ss ht hs ho => ?_⟩
    subst hs
    obtain ⟨u3,e3,s3⟩:=k3 t' ht
    obtain ⟨u2,e2,s2⟩:=k2.1 u3 e3
    obtain ⟨u1,e1,q1⟩:=k1 u2 e2
    obtain ⟨u0,e0,q0⟩:=k0 u1 e1
    cases e0
    have g2:=k2.2 u3 u2 e3 e2 (ho.suf (q1.trans q0))
    have:=(q1.trans q0).length_le
    have:=s3.length_le
    refine ⟨g2.1,?_⟩
    have:=g2.2
    show cntS (stmtsF n (d + 1) [125] (s1.need [123])).1 + t'.length ≤ ss.length
    omega
  · unfold stmtsF
    cases b : (s.good && !s.is t) with
    | false =>
     simp only [Bool.false_eq_true,if_false]
     exact ⟨.refl _,fun tt ss h1 h2 _ => by (have h1' : s = .ok tt:=h1;rw [h1'] at h2;cases h2;exact ⟨by simp,by simp [cntS]⟩)⟩
    | true =>
     simp only [if_true]
     cases s with
     | bad c a => simp [RS.good] at b
     | ok l =>
      obtain ⟨x,tt,rfl⟩:=(hf l rfl).ne
      have hl : (RS.ok (x :: tt)).len = tt.length + 1:=rfl
      have l1:=(read_le n).1 d x tt hf (by omega)
      have k1:=ih1 d x tt hf (by omega)
      have k2:=ih3 d t (stmtF n d (.ok (x :: tt))).2 l1.1.2 (by have:=l1.2;omega)
      refine ⟨k2.1.trans k1.1,fun t' ss ht hs ho => ?_⟩
      cases hs
      obtain ⟨u2,e2,s2⟩:=k2.1 t' ht
      have g1:=k1.2 u2 _ e2 rfl ho
      obtain ⟨u1,e1,s1⟩:=k1.1 u2 e2
      cases e1
      have g2:=k2.2 t' u2 ht e2 (ho.suf s1)
      refine ⟨fun y hy => ?_,?_⟩
      · rcases List.mem_cons.1 hy with rfl | hy
        · exact g1.1
        · exact g2.1 y hy
      · have:=g1.2
        have:=g2.2
        simp only [cntS]
        omega
structure GoodP (p : Pg) (n : Nat) : Prop where
 th : ∀ l ∈ p.ths,(∀ s ∈ l,GoodS s) ∧ cntS l ≤ n
 fn : ∀ f ∈ p.fs,(∀ s ∈ f.bd,GoodS s) ∧ cntS f.bd ≤ n ∧ GoodE f.ret ∧ f.nm.length ≤ 100000
theorem if_sb {α : Type} {s : α × RS} {z : α} {r m : RS} {c : Bool} (h1 : Sb s.2 m) (h2 : Sb r m) : Sb (if c then s else (z,r)).2 m:=by
 cases c with
 | true => exact h1
 | false => exact h2
theorem lenF_sb (s : RS) : Sb (lenF s).2 s:=by
 cases s with
 | bad c a => exact .refl _
 | ok tt =>
  cases tt with
  | nil => exact .refl _
  | cons w ts =>
   have e : lenF (.ok (w :: ts)) = if w.k ≠ 1 then (0,.bad 11 w.a) else if w.n < 1 ∨ 64 < w.n then (0,.bad 2 w.a) else (w.n,.ok ts):=rfl
   rw [e]
   by_cases h1 : w.k ≠ 1
   · rw [if_pos h1]
     exact .bad _ _ _
   · rw [if_neg h1]
     by_cases h2 : w.n < 1 ∨ 64 < w.n
     · rw [if_pos h2]
       exact .bad _ _ _
     · rw [if_neg h2]
       exact adv_sb (.ok (w :: ts))
theorem lim_sb (n m : Nat) (s : RS) : Sb (limF n m s) s:=by
 unfold limF
 split
 · exact fail_sb _ _
 · exact .refl _
theorem pars_sb : ∀ (n k : Nat) (s : RS),Sb (parsF n k s).2 s
 | 0,k,s => .refl _
 | n + 1,k,s => by
  unfold parsF
  cases hg : s.good with
  | false => simp;exact .refl _
  | true =>
   simp only [if_true]
   have k2:=(name_sb (kindF (limF k 6 s)).2).1.trans ((kind_sb (limF k 6 s)).trans (lim_sb k 6 s))
   cases b : (nameF (kindF (limF k 6 s)).2).2.is [44] with
   | false => simp;exact k2
   | true =>
    simp only [if_true]
    exact (pars_sb n (k + 1) _).trans ((adv_sb _).trans k2)
theorem params_sb (s : RS) : Sb (paramsF s).2 s:=by
 have e : paramsF s = if (s.need [40]).is [41] then ([],(s.need [40]).adv) else ((parsF 8 0 (s.need [40])).1,(parsF 8 0 (s.need [40])).2.need [41]):=rfl
 rw [e]
 cases b : (s.need [40]).is [41] with
 | true => exact (adv_sb _).trans (need_sb _ _)
 | false => exact (need_sb _ _).trans ((pars_sb 8 0 _).trans (need_sb _ _))
theorem glob_sb (n : Nat) {s m : RS} (hk : Sb (eithF kPublic kSecret (limF n 32 s)).2 m) : Sb (globF n s).2 m:=by
 have k1 : Sb (kindF (limF n 32 s)).2 m:=(eith_sb kInt kBool _).trans hk
 have k2:=(name_sb (kindF (limF n 32 s)).2).1.trans k1
 have k3:=if_sb (c:=(nameF (kindF (limF n 32 s)).2).2.is [91]) (z:=(0 : Int)) (s:=(let q:=lenF (nameF (kindF (limF n 32 s)).2).2.adv;(q.1,q.2.need [93]))) ((need_sb [93] _).trans ((lenF_sb _).trans ((adv_sb _).trans k2))) k2
 obtain ⟨l,hl⟩ : ∃ l,(if (nameF (kindF (limF n 32 s)).2).2.is [91] then (let q:=lenF (nameF (kindF (limF n 32 s)).2).2.adv;(q.1,q.2.need [93])) else ((0 : Int),(nameF (kindF (limF n 32 s)).2).2)) = l:=⟨_,rfl⟩
 rw [hl] at k3
 have k4:=if_sb (c:=l.2.is kBy) (z:=([] : List UInt8)) (s:=(let q:=nameF l.2.adv;(q.1.1,q.2))) ((name_sb l.2.adv).1.trans ((adv_sb _).trans k3)) k3
 have k5:=(need_sb [59] _).trans k4
 have e : (globF n s).2 = RS.need [59] (if l.2.is kBy then (let q:=nameF l.2.adv;(q.1.1,q.2)) else ([],l.2)).2:=by
  rw [← hl]
  rfl
 rw [e]
 exact k5
theorem func_good (n : Nat) {x : Wd} {tt : List Wd} (hft : (RS.ok tt).fin) (hn : 3 * tt.length + 2 ≤ n) (ho : OkW tt) {t' : List Wd} (ht : (funcF n (.ok (x :: tt))).2 = .ok t') : t' <:+ tt ∧ (∀ s ∈ (funcF n (.ok (x :: tt))).1.bd,GoodS s) ∧ cntS (funcF n (.ok (x :: tt))).1.bd ≤ 16385 ∧ GoodE (funcF n (.ok (x :: tt))).1.ret ∧ (funcF n (.ok (x :: tt))).1.nm.length ≤ 100000:=by
 obtain ⟨⟨⟨nm,a⟩,τ1⟩,h1⟩ : ∃ q,nameF (.ok tt) = q:=⟨_,rfl⟩
 obtain ⟨⟨lp,τ2⟩,h2⟩ : ∃ q,paramsF τ1 = q:=⟨_,rfl⟩
 obtain ⟨⟨⟨tr,sc⟩,τ3⟩,h3⟩ : ∃ q,kindF τ2 = q:=⟨_,rfl⟩
 obtain ⟨τ4,h4⟩ : ∃ q,τ3.need [123] = q:=⟨_,rfl⟩
 obtain ⟨⟨lb,τ5⟩,h5⟩ : ∃ q,stmtsF n 1 kReturn τ4 = q:=⟨_,rfl⟩
 obtain ⟨τ6,h6⟩ : ∃ q,τ5.need kReturn = q:=⟨_,rfl⟩
 obtain ⟨⟨ex,τ7⟩,h7⟩ : ∃ q,exF τ6 = q:=⟨_,rfl⟩
 obtain ⟨τ8,h8⟩ : ∃ q,τ7.need [59] = q:=⟨_,rfl⟩
 obtain ⟨τ9,h9⟩ : ∃ q,τ8.need [125] = q:=⟨_,rfl⟩
 have eF : funcF n (.ok (x :: tt)) = (⟨a,nm,lp,tr,sc,lb,ex⟩,τ9):=by simp only [funcF,RS.adv,h1,h2,h3,h4,h5,h6,h7,h8,h9]
 rw [eF] at ht ⊢
 have k1:=name_sb (.ok tt)
 have k2:=params_sb τ1
 have k3:=kind_sb τ2
 have k4:=need_sb [123] τ3
 have l1 : Le τ1 (.ok tt):=by (have:=name_le hft;rwa [h1] at this)
 have l2 : Le τ2 (.ok tt):=by (have:=params_le l1.2;rw [h2] at this;exact this.trans l1)
 have l3 : Le τ3 (.ok tt):=by (have:=kind_le l2.2;rw [h3] at this;exact this.trans l2)
 have l4 : Le τ4 (.ok tt):=by (have:=need_le l3.2 [123];rw [h4] at this;exact this.trans l3)
 have k5:=(rd_all n).2.2 1 kReturn τ4 l4.2 (by (have h44 : τ4.len ≤ tt.length:=l4.1;omega))
 have k6:=need_sb kReturn τ5
 have k7:=ex_sb τ6
 have k8:=need_sb [59] τ7
 have k9:=need_sb [125] τ8
 rw [h1] at k1
 rw [h2] at k2
 rw [h3] at k3
 rw [h4] at k4
 rw [h5] at k5
 rw [h6] at k6
 rw [h7] at k7
 rw [h8] at k8
 rw [h9] at k9
 obtain ⟨u8,e8,s8⟩:=k9 t' ht
 obtain ⟨u7,e7,s7⟩:=k8 u8 e8
 obtain ⟨u6,e6,s6⟩:=k7.1 u7 e7
 obtain ⟨u5,e5,s5⟩:=k6 u6 e6
 obtain ⟨u4,e4,s4⟩:=k5.1 u5 e5
 obtain ⟨u3,e3,s3⟩:=k4 u4 e4
 obtain ⟨u2,e2,s2⟩:=k3 u3 e3
 obtain ⟨u1,e1,s1⟩:=k2 u2 e2
 obtain ⟨u0,e0,s0⟩:=k1.1 u1 e1
 cases e0
 have a4 : u4 <:+ tt:=s3.trans (s2.trans (s1.trans s0))
 have g5:=k5.2 u5 u4 e5 e4 (ho.suf a4)
 have g7:=k7.2 u6 e6 (ho.suf (s5.trans (s4.trans a4)))
 have hnm:=k1.2 u1 e1 tt rfl ho
 have hl:=a4.length_le
 have hw:=ho.2.2
 have h5c:=g5.2
 refine ⟨s8.trans (s7.trans (s6.trans (s5.trans (s4.trans a4)))),g5.1,?_,g7,?_⟩
 · show cntS lb ≤ 16385
   have h5d : cntS lb + u5.length ≤ u4.length:=h5c
   omega
 · show nm.length ≤ 100000
   have : nm.length ≤ 24:=hnm
   omega
theorem thing_good {n : Nat} {p : Pg} {x : Wd} {tt : List Wd} (hf : (RS.ok (x :: tt)).fin) (hx : x.k ≠ 3) (hn : 3 * tt.length + 2 ≤ n) (ho : OkW (x :: tt)) (hG : GoodP p 16385) {t' : List Wd} (ht : (thingF n p (.ok (x :: tt))).2 = .ok t') : GoodP (thingF n p (.ok (x :: tt))).1 16385 ∧ t' <:+ tt:=by
 have hft : (RS.ok tt).fin:=(adv_le hf hx).1.2
 have hot : OkW tt:=ho.suf (List.suffix_cons _ _)
 have sub : ∀ s : RS,Sb s (.ok tt) → s = .ok t' → t' <:+ tt:=fun s hs e => by
  obtain ⟨u,hu,h2⟩:=hs t' e
  cases hu
  exact h2
 cases b1 : (RS.ok (x :: tt)).is kLock with
 | true =>
  rcases limF_cases p.ls.length 8 x tt with e | e
  · have eT : thingF n p (.ok (x :: tt)) = ({ p with ls:=p.ls ++ [⟨(nameF (.ok tt)).1.2,(nameF (.ok tt)).1.1⟩] },(nameF (.ok tt)).2.need [59]):=by simp [thingF,b1,e,RS.good,RS.adv]
    rw [eT] at ht ⊢
    exact ⟨⟨hG.th,hG.fn⟩,sub _ ((need_sb _ _).trans (name_sb _).1) ht⟩
  · have eT : thingF n p (.ok (x :: tt)) = (p,.bad 2 x.a):=by simp [thingF,b1,e,RS.good]
    rw [eT] at ht
    cases ht
 | false =>
  cases b2 : (RS.ok (x :: tt)).is kFunc with
  | true =>
   rcases limF_cases p.fs.length 16 x tt with e | e
   · have eT : thingF n p (.ok (x :: tt)) = ({ p with fs:=p.fs ++ [(funcF n (.ok (x :: tt))).1] },(funcF n (.ok (x :: tt))).2):=by simp [thingF,b1,b2,e,RS.good]
     rw [eT] at ht ⊢
     have hg:=func_good n hft hn hot ht
     refine ⟨⟨hG.th,fun f hf => ?_⟩,hg.1⟩
     rcases List.mem_append.1 hf with hf | hf
     · exact hG.fn f hf
     · simp at hf
       subst hf
       exact hg.2
   · have eT : thingF n p (.ok (x :: tt)) = (p,.bad 2 x.a):=by simp [thingF,b1,b2,e,RS.good]
     rw [eT] at ht
     cases ht
  | false =>
   cases b3 : (RS.ok (x :: tt)).is kThread with
   | true =>
    rcases limF_cases p.ths.length 4 x tt with e | e
    · have eT : thingF n p (.ok (x :: tt)) = ({ p with ths:=p.ths ++ [(blockF n 0 (.ok tt)).1] },(blockF n 0 (.ok tt)).2):=by simp [thingF,b1,b2,b3,e,RS.good,RS.adv]
      rw [eT] at ht ⊢
      have kb:=(rd_all n).2.1 0 (.ok tt) hft hn
      have hg:=kb.2 t' tt ht rfl hot
      refine ⟨⟨fun l hl => ?_,hG.fn⟩,sub _ kb.1 ht⟩
      rcases List.mem_append.1 hl with hl | hl
      · exact hG.th l hl
      · simp at hl
        subst hl
        exact ⟨hg.1,by (have:=hg.2;have:=hot.2.2;omega)⟩
    · have eT : thingF n p (.ok (x :: tt)) = (p,.bad 2 x.a):=by simp [thingF,b1,b2,b3,e,RS.good]
      rw [eT] at ht
      cases ht
   | false =>
    cases b4 : ((RS.ok (x :: tt)).is kPublic || (RS.ok (x :: tt)).is kSecret) with
    | true =>
     have eT : thingF n p (.ok (x :: tt)) = ({ p with gs:=p.gs ++ [(globF p.gs.length (.ok (x :: tt))).1] },(globF p.gs.length (.ok (x :: tt))).2):=by simp [thingF,b1,b2,b3,b4]
     rw [eT] at ht ⊢
     refine ⟨⟨hG.th,hG.fn⟩,sub _ (glob_sb _ ?_) ht⟩
     rcases limF_cases p.gs.length 32 x tt with e | e
     · rw [e]
       unfold eithF
       cases b5 : (RS.ok (x :: tt)).is kSecret with
       | true => simp only [if_true];exact .refl _
       | false =>
        simp only [Bool.false_eq_true,if_false]
        rw [b5,Bool.or_false] at b4
        unfold RS.need
        rw [if_pos b4]
        exact .refl _
     · rw [e]
       exact .bad _ _ _
    | false =>
     have eT : thingF n p (.ok (x :: tt)) = (p,(RS.ok (x :: tt)).fail 11):=by simp [thingF,b1,b2,b3,b4]
     rw [eT] at ht
     cases ht
theorem whole_good (n : Nat) : ∀ (m : Nat) (p : Pg) (tt : List Wd),(RS.ok tt).fin → 3 * tt.length ≤ n + 1 → OkW tt → GoodP p 16385 → ∀ q t',wholeF n m p (.ok tt) = (q,.ok t') → GoodP q 16385
 | 0,p,tt,_,_,_,hG,q,t',h => by
  have : wholeF n 0 p (.ok tt) = (p,.ok tt):=rfl
  rw [this] at h
  cases h
  exact hG
 | m + 1,p,tt,hf,hn,ho,hG,q,t',h => by
  obtain ⟨x,r,rfl⟩:=(hf tt rfl).ne
  by_cases hx : x.k = 3
  · have e : wholeF n (m + 1) p (.ok (x :: r)) = (p,.ok (x :: r)):=by simp [wholeF,RS.hd,hx]
    rw [e] at h
    cases h
    exact hG
  · have e : wholeF n (m + 1) p (.ok (x :: r)) = wholeF n m (thingF n p (.ok (x :: r))).1 (thingF n p (.ok (x :: r))).2:=by simp [wholeF,RS.hd,RS.good,hx]
    rw [e] at h
    have hlen : 3 * r.length + 2 ≤ n:=by (simp only [List.length_cons] at hn;omega)
    have hle:=thing_le n p hf hx
    cases hq : (thingF n p (.ok (x :: r))).2 with
    | ok t2 =>
     have hg:=thing_good hf hx hlen ho hG hq
     rw [hq] at h hle
     have h2 : t2.length ≤ r.length:=hg.2.length_le
     exact whole_good n m _ t2 hle.2 (by omega) ((ho.suf (List.suffix_cons _ _)).suf hg.2) hg.1 q t' h
    | bad c a =>
     rw [hq] at h
     have e2 : wholeF n m (thingF n p (.ok (x :: r))).1 (.bad c a) = ((thingF n p (.ok (x :: r))).1,.bad c a):=by
      cases m with
      | zero => rfl
      | succ m => simp [wholeF,RS.good]
     rw [e2] at h
     cases h
def lenT (n : Int) : List UInt8:=if n = 0 then [] else 91 :: (Lib.itoa n ++ [93])
def byT (t : List UInt8) : List UInt8:=if t = [] then [] else 32 :: 98 :: 121 :: 32 :: t
def lkT (x : Lk) : List UInt8:=lineT 0 [tLock,x.nm,[59]]
def glT (x : Gl) : List UInt8:=lineT 0 [typeT x.tr x.sc,[32],x.nm,lenT x.len,byT x.by_,[59]]
def thT (l : List Stm) : List UInt8:=lineT 0 [tThr] ++ (stsT l 1 ++ lineT 0 [[125]])
end Go.Proofs.Ytbmmjomcjlpnlaa
namespace Go.Proofs.Ytbmmjomcjlpnlaa
open Go
theorem getD_put (a : Act) (d e : Nat) (v : Value) (hd : d < a.tmps.size) : (a.put (some d) v).tmps.getD e undef = if e = d then v else a.tmps.getD e undef:=by
 show (a.tmps.setIfInBounds d v).getD e undef = _
 simp only [Array.getD_eq_getD_getElem?,Array.getElem?_setIfInBounds]
 by_cases h : d = e
 · subst h
   simp [hd]
 · rw [if_neg h,if_neg (fun e' => h e'.symm)]
theorem getD_set (listed : Array Bool) (i j : Nat) : (listed.setIfInBounds i true).getD j false = true → j = i ∨ listed.getD j false = true:=by
 intro h
 by_cases hij : i = j
 · exact .inl hij.symm
 · right
   simp only [Array.getD_eq_getD_getElem?,Array.getElem?_setIfInBounds,if_neg hij] at h ⊢
   exact h
structure Ins (n sz : Nat) (dst : Nat → Nat) (vs : List (Option Value)) (t0 : Array Value) (listed : Array Bool) (a : Act) : Prop where
 size : listed.size = n
 tsz : a.tmps.size = sz
 defs : a.defers = []
 old : ∀ d,(∀ k,k < n → dst k ≠ d) → a.tmps.getD d undef = t0.getD d undef
 new : ∀ k v,k < n → vs[k]? = some (some v) → listed.getD k false = true → a.tmps.getD (dst k) undef = v
section
variable {n sz : Nat} {dst : Nat → Nat} {vs : List (Option Value)} {t0 : Array Value} {listed : Array Bool} {a : Act}
theorem Ins.put (h : Ins n sz dst vs t0 listed a) {k : Nat} {v : Value} (hk : k < n) (hlt : dst k < sz) (inj : ∀ i,i < n → dst i = dst k → i = k) (hv : ∀ u,vs[k]? = some (some u) → u = v) : Ins n sz dst vs t0 (listed.setIfInBounds k true) (a.put (some (dst k)) v) where
 size:=by simpa using h.size
 tsz:=by simpa [Act.put] using h.tsz
 defs:=h.defs
 old:=fun d hd => by
  rw [getD_put a _ _ _ (by rw [h.tsz];exact hlt),if_neg (fun e => hd k hk e.symm)]
  exact h.old d hd
 new:=fun j u hj hu hl => by
  rw [getD_put a _ _ _ (by rw [h.tsz];exact hlt)]
  by_cases e : dst j = dst k
  · obtain rfl:=inj j hj e
    rw [if_pos rfl]
    exact (hv u hu).symm
  · rw [if_neg e]
    rcases getD_set listed k j hl with rfl | hl
    · exact absurd rfl e
    · exact h.new j u hj hu hl
end
section
variable {P : Program} {o : Oper} {a : Act} {w : World} {K : Act → World → Prop} {Q : Exit → Act → World → Prop}
end
end Go.Proofs.Ytbmmjomcjlpnlaa
namespace Go.Proofs.Ytbmmjomcjlpnlaa
open Go Go.RowKit
theorem below_step {W a c : World} (h : Below W.heap.size W a) (k : Below a.heap.size a c) : Below W.heap.size W c :=
 ⟨k.os.trans h.os,k.tape.trans h.tape,k.output.trans h.output,Nat.le_trans h.size k.size,fun i hi => (k.block i (Nat.lt_of_lt_of_le hi h.size)).trans (h.block i hi)⟩
theorem Fr3.below {r4 rb : Nat} {row : Option Nat} {W X Y : World} (hb : Below W.heap.size W X) (h : Fr3 r4 rb row X Y) : Fr3 r4 rb row W Y :=
 ⟨⟨Nat.le_trans hb.size h.1.1,h.1.2.1.trans hb.os,h.1.2.2.1.trans hb.tape,h.1.2.2.2.trans hb.output⟩,fun b hl h4 hr hrow => (h.2 b (Nat.lt_of_lt_of_le hl hb.size) h4 hr hrow).trans (hb.block b hl)⟩
theorem below_chain4 {W w1 w2 w3 w4 : World} (hb1 : Below W.heap.size W w1) (hb2 : Below w1.heap.size w1 w2) (hb3 : Below w2.heap.size w2 w3) (hb4 : Below w3.heap.size w3 w4) : Below W.heap.size W w4:=below_step (below_step (below_step hb1 hb2) hb3) hb4
theorem rth_globP {r4 rb g cap B : Nat} {ws : List Wd} {d : Int} {p0 p1 p2 p3 : Value} {W : World} {σ : RS} {l : List Gl} {x : Wd} {tt : List Wd} (S : Hid (A4 W r4 rb g cap ws d p0 p1 p2 p3 σ)) (G : Hid (W.ownsRow B 56 6 p0 l.length (l.flatMap glCells))) (hB : r4 < B ∧ rb < B ∧ g < B ∧ B ≤ W.heap.size) (hl : l.length ≤ 1000000) (h1 : Hid (σ.is (⟨#[108,111,99,107]⟩ : ByteArray).data.toList = false)) (h2 : Hid (σ.is (⟨#[102,117,110,99]⟩ : ByteArray).data.toList = false)) (h3 : Hid (σ.is (⟨#[116,104,114,101,97,100]⟩ : ByteArray).data.toList = false)) (h4 : Hid (σ.is (⟨#[112,117,98,108,105,99]⟩ : ByteArray).data.toList = true)) :
 Calls Try.prog 25 #[.pointer (some ⟨r4,0,none⟩)] W fun e w' => e = .returned (.tuple #[]) ∧ ∃ q,A4 w' r4 rb g cap ws d q p1 p2 p3 (globF l.length σ).2 ∧ w'.ownsRow B 56 6 q (l.length + 1) ((l ++ [(globF l.length σ).1]).flatMap glCells) ∧ Fr3 r4 rb p0.ownBlock W w':=by
 go_enter Try.func25,Try.ntmps25
 go_wp2_with (first
  | (go_at_call 45;(with_reducible refine (r4_is S _ false h1).mono ?_);rintro e1 w1 ⟨rfl,hb1⟩;have S1:=hid (S.out.stay hb1))
  | (go_at_call 45;(with_reducible refine (r4_is S1 _ false h2).mono ?_);rintro e2 w2 ⟨rfl,hb2⟩;have S2:=hid (S1.out.stay hb2))
  | (go_at_call 45;(with_reducible refine (r4_is S2 _ false h3).mono ?_);rintro e3 w3 ⟨rfl,hb3⟩;have S3:=hid (S2.out.stay hb3))
  | (go_at_call 45;(with_reducible refine (r4_is S3 _ true h4).mono ?_);rintro e4 w4 ⟨rfl,hb4⟩;have S4:=hid (S3.out.stay hb4);have hB0 : Below W.heap.size W w4:=below_chain4 hb1 hb2 hb3 hb4)
  | (go_at_call 51;(with_reducible refine (r4_global S4 (hid (own_below G.out hB0)) ⟨hB.1,hB.2.1,hB.2.2.1,Nat.le_trans hB.2.2.2 hB0.size⟩ hl).mono ?_);rintro e9 w9 ⟨rfl,q,hs9,hg9,hf9⟩))
 first
  | (((try simp only [Exit.inBlock,Exit.then]);refine bodyPost_ret (results_none rfl _ _ _) rfl ?_);exact ⟨rfl,q,hs9,hg9,.below hB0 hf9⟩)
  | (go_end0;exact ⟨rfl,q,hs9,hg9,.below hB0 hf9⟩)
theorem below_chain5 {W w1 w2 w3 w4 w5 : World} (hb1 : Below W.heap.size W w1) (hb2 : Below w1.heap.size w1 w2) (hb3 : Below w2.heap.size w2 w3) (hb4 : Below w3.heap.size w3 w4) (hb5 : Below w4.heap.size w4 w5) : Below W.heap.size W w5:=below_step (below_step (below_step (below_step hb1 hb2) hb3) hb4) hb5
theorem rth_globS {r4 rb g cap B : Nat} {ws : List Wd} {d : Int} {p0 p1 p2 p3 : Value} {W : World} {σ : RS} {l : List Gl} {x : Wd} {tt : List Wd} (S : Hid (A4 W r4 rb g cap ws d p0 p1 p2 p3 σ)) (G : Hid (W.ownsRow B 56 6 p0 l.length (l.flatMap glCells))) (hB : r4 < B ∧ rb < B ∧ g < B ∧ B ≤ W.heap.size) (hl : l.length ≤ 1000000) (h1 : Hid (σ.is (⟨#[108,111,99,107]⟩ : ByteArray).data.toList = false)) (h2 : Hid (σ.is (⟨#[102,117,110,99]⟩ : ByteArray).data.toList = false)) (h3 : Hid (σ.is (⟨#[116,104,114,101,97,100]⟩ : ByteArray).data.toList = false)) (h4 : Hid (σ.is (⟨#[112,117,98,108,105,99]⟩ : ByteArray).data.toList = false)) (h5 : Hid (σ.is (⟨#[115,101,99,114,101,116]⟩ : ByteArray).data.toList = true)) :
 Calls Try.prog 25 #[.pointer (some ⟨r4,0,none⟩)] W fun e w' => e = .returned (.tuple #[]) ∧ ∃ q,A4 w' r4 rb g cap ws d q p1 p2 p3 (globF l.length σ).2 ∧ w'.ownsRow B 56 6 q (l.length + 1) ((l ++ [(globF l.length σ).1]).flatMap glCells) ∧ Fr3 r4 rb p0.ownBlock W w':=by
 go_enter Try.func25,Try.ntmps25
 go_wp2_with (first
  | (go_at_call 45;(with_reducible refine (r4_is S _ false h1).mono ?_);rintro e1 w1 ⟨rfl,hb1⟩;have S1:=hid (S.out.stay hb1))
  | (go_at_call 45;(with_reducible refine (r4_is S1 _ false h2).mono ?_);rintro e2 w2 ⟨rfl,hb2⟩;have S2:=hid (S1.out.stay hb2))
  | (go_at_call 45;(with_reducible refine (r4_is S2 _ false h3).mono ?_);rintro e3 w3 ⟨rfl,hb3⟩;have S3:=hid (S2.out.stay hb3))
  | (go_at_call 45;(with_reducible refine (r4_is S3 _ false h4).mono ?_);rintro e4 w4 ⟨rfl,hb4⟩;have S4:=hid (S3.out.stay hb4))
  | (go_at_call 45;(with_reducible refine (r4_is S4 _ true h5).mono ?_);rintro e5 w5 ⟨rfl,hb5⟩;have S5:=hid (S4.out.stay hb5);have hB0 : Below W.heap.size W w5:=below_chain5 hb1 hb2 hb3 hb4 hb5)
  | (go_at_call 51;(with_reducible refine (r4_global S5 (hid (own_below G.out hB0)) ⟨hB.1,hB.2.1,hB.2.2.1,Nat.le_trans hB.2.2.2 hB0.size⟩ hl).mono ?_);rintro e9 w9 ⟨rfl,q,hs9,hg9,hf9⟩))
 first
  | (((try simp only [Exit.inBlock,Exit.then]);refine bodyPost_ret (results_none rfl _ _ _) rfl ?_);exact ⟨rfl,q,hs9,hg9,.below hB0 hf9⟩)
  | (go_end0;exact ⟨rfl,q,hs9,hg9,.below hB0 hf9⟩)
theorem rth_none {r4 rb g cap B : Nat} {ws : List Wd} {d : Int} {p0 p1 p2 p3 : Value} {W : World} {σ : RS} {l : List Gl} {x : Wd} {tt : List Wd} (S : Hid (A4 W r4 rb g cap ws d p0 p1 p2 p3 (.ok (x :: tt)))) (h1 : Hid ((RS.ok (x :: tt)).is (⟨#[108,111,99,107]⟩ : ByteArray).data.toList = false)) (h2 : Hid ((RS.ok (x :: tt)).is (⟨#[102,117,110,99]⟩ : ByteArray).data.toList = false)) (h3 : Hid ((RS.ok (x :: tt)).is (⟨#[116,104,114,101,97,100]⟩ : ByteArray).data.toList = false)) (h4 : Hid ((RS.ok (x :: tt)).is (⟨#[112,117,98,108,105,99]⟩ : ByteArray).data.toList = false)) (h5 : Hid ((RS.ok (x :: tt)).is (⟨#[115,101,99,114,101,116]⟩ : ByteArray).data.toList = false)) :
 Calls Try.prog 25 #[.pointer (some ⟨r4,0,none⟩)] W fun e w' => e = .returned (.tuple #[]) ∧ A4 w' r4 rb g cap ws d p0 p1 p2 p3 (.bad 11 x.a) ∧ Fr (some rb) W w':=by
 have hfd:=rfield_a
 go_enter Try.func25,Try.ntmps25
 go_wp2_with (first
  | (go_at_call 45;(with_reducible refine (r4_is S _ false h1).mono ?_);rintro e1 w1 ⟨rfl,hb1⟩;have S1:=hid (S.out.stay hb1))
  | (go_at_call 45;(with_reducible refine (r4_is S1 _ false h2).mono ?_);rintro e2 w2 ⟨rfl,hb2⟩;have S2:=hid (S1.out.stay hb2))
  | (go_at_call 45;(with_reducible refine (r4_is S2 _ false h3).mono ?_);rintro e3 w3 ⟨rfl,hb3⟩;have S3:=hid (S2.out.stay hb3))
  | (go_at_call 45;(with_reducible refine (r4_is S3 _ false h4).mono ?_);rintro e4 w4 ⟨rfl,hb4⟩;have S4:=hid (S3.out.stay hb4))
  | (go_at_call 45;(with_reducible refine (r4_is S4 _ false h5).mono ?_);rintro e5 w5 ⟨rfl,hb5⟩;have S5:=hid (S4.out.stay hb5))
  | (go_at_call 24;(with_reducible refine (r4_wordOk S5).mono ?_);rintro e6 w6 ⟨rfl,hb6⟩)
  | (go_at_call 52;(with_reducible refine (r4_fail0 (hid (S5.out.stay hb6)) 11 (by decide) x.a).mono ?_);rintro e7 w7 ⟨rfl,hs7,hf7⟩))
 go_end0
 exact ⟨rfl,hs7,(((((((Fr.refl _ _).stepB hb1).stepB hb2).stepB hb3).stepB hb4).stepB hb5).stepB hb6).step hf7⟩
end Go.Proofs.Ytbmmjomcjlpnlaa
namespace Go.Proofs.Ytbmmjomcjlpnlaa
open Go Go.RowKit
def Low (r4 rb B : Nat) (W X : World) : Prop:=(W.heap.size ≤ X.heap.size ∧ X.os = W.os ∧ X.tape = W.tape ∧ X.output = W.output) ∧ ∀ b,b < B → b ≠ r4 → b ≠ rb → X.heap[b]? = W.heap[b]?
theorem Low.trans {r4 rb B : Nat} {W X Y : World} (h : Low r4 rb B W X) (k : Low r4 rb B X Y) : Low r4 rb B W Y :=
 ⟨⟨Nat.le_trans h.1.1 k.1.1,k.1.2.1.trans h.1.2.1,k.1.2.2.1.trans h.1.2.2.1,k.1.2.2.2.trans h.1.2.2.2⟩,fun b hb h4 hr => (k.2 b hb h4 hr).trans (h.2 b hb h4 hr)⟩
theorem fr3_low {r4 rb B T k n : Nat} {v : Value} {xs : List Value} {W X : World} (hf : Fr3 r4 rb v.ownBlock W X) (hv : W.ownsRow B T k v n xs) (hB : B ≤ W.heap.size) : Low r4 rb B W X :=
 ⟨hf.1,fun b hb h4 hr => hf.2 b (Nat.lt_of_lt_of_le hb hB) h4 hr fun e => by (have:=(hv.lt b e.symm).1;omega)⟩
theorem fr_low {r4 rb B : Nat} {W X : World} (hf : Fr (some rb) W X) (hB : B ≤ W.heap.size) : Low r4 rb B W X :=
 ⟨⟨hf.size,(Fr.grown_ hf).os,(Fr.grown_ hf).tape,(Fr.grown_ hf).output⟩,fun b hb _ hr => hf.block (Nat.lt_of_lt_of_le hb hB) (by simp;exact hr)⟩
section
variable {r4 rb B : Nat} {W X : World} {p : Pg} {v0 v1 v2 v3 q : Value} {rf : List (Fn × FV)} {rt : List (List Stm × Value)}
theorem PRows.moreG (R : PRows B W p v0 v1 v2 v3 rf rt) (hf : Fr3 r4 rb v0.ownBlock W X) (h4 : r4 < B) (hr : rb < B) {x : Gl} (ho : X.ownsRow B 56 6 q (p.gs.length + 1) ((p.gs ++ [x]).flatMap glCells)) :
 PRows B X { p with gs:=p.gs ++ [x] } q v1 v2 v3 rf rt:=by
 have hk:=keptT3 hf R.g (by decide) h4 hr
 exact ⟨by simpa using ho,own_fr3 R.l hf R.g (by decide) h4 hr,own_fr3 R.f hf R.g (by decide) h4 hr,own_fr3 R.t hf R.g (by decide) h4 hr,R.ef,R.et,fun q hq => (R.xf q hq).keptT hk,fun q hq => (R.xt q hq).keptT hk⟩
theorem PRows.moreL (R : PRows B W p v0 v1 v2 v3 rf rt) (hf : Fr3 r4 rb v1.ownBlock W X) (h4 : r4 < B) (hr : rb < B) {x : Lk} (ho : X.ownsRow B 95 2 q (p.ls.length + 1) ((p.ls ++ [x]).flatMap lkCells)) :
 PRows B X { p with ls:=p.ls ++ [x] } v0 q v2 v3 rf rt:=by
 have hk:=keptT3 hf R.l (by decide) h4 hr
 exact ⟨own_fr3 R.g hf R.l (by decide) h4 hr,by simpa using ho,own_fr3 R.f hf R.l (by decide) h4 hr,own_fr3 R.t hf R.l (by decide) h4 hr,R.ef,R.et,fun q hq => (R.xf q hq).keptT hk,fun q hq => (R.xt q hq).keptT hk⟩
theorem PRows.moreF (R : PRows B W p v0 v1 v2 v3 rf rt) (hf : Fr3 r4 rb v2.ownBlock W X) (h4 : r4 < B) (hr : rb < B) {x : Fn} {fv : FV} (ho : X.ownsRow B 65 12 q (p.fs.length + 1) (fnRow rf ++ fnCells x fv)) (hx : IsFn1 (fun g => B ≤ g) X x fv) :
 PRows B X { p with fs:=p.fs ++ [x] } v0 v1 q v3 (rf ++ [(x,fv)]) rt:=by
 have hk:=keptT3 hf R.f (by decide) h4 hr
 refine ⟨own_fr3 R.g hf R.f (by decide) h4 hr,own_fr3 R.l hf R.f (by decide) h4 hr,by (rw [fnRow_snoc];simpa using ho),own_fr3 R.t hf R.f (by decide) h4 hr,by simp [R.ef],R.et,fun q hq => ?_,fun q hq => (R.xt q hq).keptT hk⟩
 rcases List.mem_append.1 hq with hq | hq
 · exact (R.xf q hq).keptT hk
 · simp at hq
   subst hq
   exact hx
theorem PRows.moreT (R : PRows B W p v0 v1 v2 v3 rf rt) (hf : Fr3 r4 rb v3.ownBlock W X) (h4 : r4 < B) (hr : rb < B) {x : List Stm} {v : Value} (ho : X.ownsRow B 60 1 q (p.ths.length + 1) (thRow rt ++ [v])) (hx : IsSts (fun g => B ≤ g) X x v) :
 PRows B X { p with ths:=p.ths ++ [x] } v0 v1 v2 q rf (rt ++ [(x,v)]):=by
 have hk:=keptT3 hf R.t (by decide) h4 hr
 refine ⟨own_fr3 R.g hf R.t (by decide) h4 hr,own_fr3 R.l hf R.t (by decide) h4 hr,own_fr3 R.f hf R.t (by decide) h4 hr,by (rw [thRow_snoc];simpa using ho),R.ef,by simp [R.et],fun q hq => (R.xf q hq).keptT hk,fun q hq => ?_⟩
 rcases List.mem_append.1 hq with hq | hq
 · exact (R.xt q hq).keptT hk
 · simp at hq
   subst hq
   exact hx
end
def ThEnd (r4 rb g cap B : Nat) (ws : List Wd) (W : World) (q : Pg × RS) (e : Ending) (w' : World) : Prop :=
 e = .returned (.tuple #[]) ∧ Low r4 rb B W w' ∧ ∃ v0 v1 v2 v3,A4 w' r4 rb g cap ws ((0 : Nat) : Int) v0 v1 v2 v3 q.2 ∧ ∀ t,q.2 = .ok t → ∃ rf rt,PRows B w' q.1 v0 v1 v2 v3 rf rt
theorem rth_any {r4 rb g cap B n : Nat} {ws : List Wd} {W : World} {p : Pg} {v0 v1 v2 v3 : Value} {rf : List (Fn × FV)} {rt : List (List Stm × Value)} {x : Wd} {tt : List Wd} (S : A4 W r4 rb g cap ws ((0 : Nat) : Int) v0 v1 v2 v3 (.ok (x :: tt))) (R : PRows B W p v0 v1 v2 v3 rf rt)
 (hB : r4 < B ∧ rb < B ∧ g < B ∧ B ≤ W.heap.size) (hl : p.gs.length ≤ 1000000 ∧ p.ls.length ≤ 1000000 ∧ p.fs.length ≤ 1000000 ∧ p.ths.length ≤ 1000000) (hx : x.k ≠ 3) (hn : 3 * tt.length + 2 ≤ n) :
 Calls Try.prog 25 #[.pointer (some ⟨r4,0,none⟩)] W (ThEnd r4 rb g cap B ws W (thingF n p (.ok (x :: tt)))):=by
 have hfin : (RS.ok (x :: tt)).fin:=fun t e => by (cases e;exact S.st.2.1)
 have hft : (RS.ok tt).fin:=(adv_le hfin hx).1.2
 have HALL:=all_st r4 rb g ws n
 cases b1 : (RS.ok (x :: tt)).is kLock with
 | true =>
  obtain ⟨p1,k1,rfl⟩:=own_form R.l
  rcases limF_cases p.ls.length 8 x tt with e | e
  · obtain ⟨⟨⟨nm,a⟩,τ2⟩,h2⟩ : ∃ q,nameF (.ok tt) = q:=⟨_,rfl⟩
    have eT : thingF n p (.ok (x :: tt)) = ({ p with ls:=p.ls ++ [⟨a,nm⟩] },τ2.need [59]):=by simp [thingF,b1,e,RS.good,RS.adv,h2]
    rw [eT]
    refine (rth_lockYes (hid S) (hid R.l) hB hl.2.1 (hid b1) (hid e) hx (hid h2) (hid rfl)).mono ?_
    rintro e' w' ⟨rfl,q,hs,ho,hf⟩
    exact ⟨rfl,fr3_low hf R.l hB.2.2.2,_,q,_,_,hs,fun t _ => ⟨rf,rt,R.moreL hf hB.1 hB.2.1 ho⟩⟩
  · have eT : thingF n p (.ok (x :: tt)) = (p,.bad 2 x.a):=by simp [thingF,b1,e,RS.good]
    rw [eT]
    refine (rth_lockNo (B:=B) (τ2:=.ok []) (τ3:=.ok []) (nm:=[]) (a:=0) (x:=x) (tt:=tt) (hid S) (hid b1) (hid e)).mono ?_
    rintro e' w' ⟨rfl,hs,hf⟩
    exact ⟨rfl,fr_low hf hB.2.2.2,_,_,_,_,hs,fun t h => by cases h⟩
 | false =>
  cases b2 : (RS.ok (x :: tt)).is kFunc with
  | true =>
   obtain ⟨p2,k2,rfl⟩:=own_form R.f
   rcases limF_cases p.fs.length 16 x tt with e | e
   · obtain ⟨⟨⟨nm,a⟩,τ1⟩,h1⟩ : ∃ q,nameF (.ok tt) = q:=⟨_,rfl⟩
     obtain ⟨⟨lp,τ2⟩,h2⟩ : ∃ q,paramsF τ1 = q:=⟨_,rfl⟩
     obtain ⟨⟨⟨tr,sc⟩,τ3⟩,h3⟩ : ∃ q,kindF τ2 = q:=⟨_,rfl⟩
     obtain ⟨τ4,h4⟩ : ∃ q,τ3.need [123] = q:=⟨_,rfl⟩
     obtain ⟨⟨lb,τ5⟩,h5⟩ : ∃ q,stmtsF n 1 kReturn τ4 = q:=⟨_,rfl⟩
     obtain ⟨τ6,h6⟩ : ∃ q,τ5.need kReturn = q:=⟨_,rfl⟩
     obtain ⟨⟨ex,τ7⟩,h7⟩ : ∃ q,exF τ6 = q:=⟨_,rfl⟩
     obtain ⟨τ8,h8⟩ : ∃ q,τ7.need [59] = q:=⟨_,rfl⟩
     obtain ⟨τ9,h9⟩ : ∃ q,τ8.need [125] = q:=⟨_,rfl⟩
     have eF : funcF n (.ok (x :: tt)) = (⟨a,nm,lp,tr,sc,lb,ex⟩,τ9):=by simp only [funcF,RS.adv,h1,h2,h3,h4,h5,h6,h7,h8,h9]
     have eT : thingF n p (.ok (x :: tt)) = ({ p with fs:=p.fs ++ [⟨a,nm,lp,tr,sc,lb,ex⟩] },τ9):=by simp [thingF,b1,b2,e,RS.good,eF]
     have l1 : Le τ1 (.ok tt):=by (have:=name_le hft;rwa [h1] at this)
     have l2 : Le τ2 (.ok tt):=by (have:=params_le l1.2;rw [h2] at this;exact this.trans l1)
     have l3 : Le τ3 (.ok tt):=by (have:=kind_le l2.2;rw [h3] at this;exact this.trans l2)
     have l4 : Le τ4 (.ok tt):=by (have:=need_le l3.2 [123];rw [h4] at this;exact this.trans l3)
     have hlen : 3 * τ4.len + 1 ≤ n:=by (have h44 : τ4.len ≤ tt.length:=l4.1;omega)
     rw [eT]
     refine (rth_func (Q:=fun W' w' => ∃ q,A4 w' r4 rb g cap ws ((0 : Nat) : Int) v0 v1 q v3 τ9 ∧ Fr3 r4 rb (Value.slice p2 p.fs.length k2).ownBlock W' w' ∧ ∀ t,τ9 = .ok t → ∃ fv,w'.ownsRow B 65 12 q (p.fs.length + 1) (fnRow rf ++ fnCells ⟨a,nm,lp,tr,sc,lb,ex⟩ fv) ∧ IsFn1 (fun b => W'.heap.size ≤ b) w' ⟨a,nm,lp,tr,sc,lb,ex⟩ fv)
      (hid S) (hid b1) (hid b2) (hid fun W' hb => rfn_yes (hid (S.stay hb)) (hid (own_below R.f hb)) ⟨hB.1,hB.2.1,hB.2.2.1,Nat.le_trans hB.2.2.2 hb.size⟩ hl.2.2.1 (hid e) hx (hid h1) (hid h2) (hid h3) (hid h4) (hid h5) (hid h6) (hid h7) (hid h8) (hid h9) (hid HALL.2.2) hlen (by omega))).mono ?_
     rintro e' w' ⟨rfl,W',hb,q,hs,hf,hx⟩
     have hf':=hf.below hb
     refine ⟨rfl,fr3_low hf' R.f hB.2.2.2,_,_,q,_,hs,fun t ht => ?_⟩
     obtain ⟨fv,ho,hv⟩:=hx t ht
     exact ⟨_,rt,R.moreF hf' hB.1 hB.2.1 ho (hv.low (Nat.le_trans hB.2.2.2 hb.size))⟩
   · have eT : thingF n p (.ok (x :: tt)) = (p,.bad 2 x.a):=by simp [thingF,b1,b2,e,RS.good]
     rw [eT]
     refine (rth_func (Q:=fun W' w' => A4 w' r4 rb g cap ws ((0 : Nat) : Int) v0 v1 (.slice p2 p.fs.length k2) v3 (.bad 2 x.a) ∧ Fr (some rb) W' w') (hid S) (hid b1) (hid b2) (hid fun W' hb => rfn_no (B:=B) (n:=n) (d:=0) (x:=x) (tt:=tt) (hid (S.stay hb)) (hid e))).mono ?_
     rintro e' w' ⟨rfl,W',hb,hs,hf⟩
     exact ⟨rfl,fr_low ((Fr.of hb).step hf) hB.2.2.2,_,_,_,_,hs,fun t h => by cases h⟩
  | false =>
   cases b3 : (RS.ok (x :: tt)).is kThread with
   | true =>
    obtain ⟨p3,k3,rfl⟩:=own_form R.t
    rcases limF_cases p.ths.length 4 x tt with e | e
    · obtain ⟨⟨lb,τ2⟩,h5⟩ : ∃ q,blockF n 0 (.ok tt) = q:=⟨_,rfl⟩
      have eT : thingF n p (.ok (x :: tt)) = ({ p with ths:=p.ths ++ [lb] },τ2):=by simp [thingF,b1,b2,b3,e,RS.good,RS.adv,h5]
      rw [eT]
      refine (rth_thrYes (n:=n) (d:=0) (hid S) (hid R.t) hB hl.2.2.2 (hid b1) (hid b2) (hid b3) (hid e) hx (hid h5) (hid HALL.2.1) hn (by omega)).mono ?_
      rintro e' w' ⟨rfl,q,hs,hf,hx⟩
      refine ⟨rfl,fr3_low hf R.t hB.2.2.2,_,_,_,q,hs,fun t ht => ?_⟩
      obtain ⟨v,ho,hv⟩:=hx t ht
      exact ⟨rf,_,R.moreT hf hB.1 hB.2.1 ho (hv.lo hB.2.2.2)⟩
    · have eT : thingF n p (.ok (x :: tt)) = (p,.bad 2 x.a):=by simp [thingF,b1,b2,b3,e,RS.good]
      rw [eT]
      refine (rth_thrNo (B:=B) (n:=n) (d:=0) (hid S) (hid b1) (hid b2) (hid b3) (hid e)).mono ?_
      rintro e' w' ⟨rfl,hs,hf⟩
      exact ⟨rfl,fr_low hf hB.2.2.2,_,_,_,_,hs,fun t h => by cases h⟩
   | false =>
    cases b4 : (RS.ok (x :: tt)).is kPublic with
    | true =>
     have eT : thingF n p (.ok (x :: tt)) = ({ p with gs:=p.gs ++ [(globF p.gs.length (.ok (x :: tt))).1] },(globF p.gs.length (.ok (x :: tt))).2):=by simp [thingF,b1,b2,b3,b4]
     rw [eT]
     refine (rth_globP (x:=x) (tt:=tt) (hid S) (hid R.g) hB hl.1 (hid b1) (hid b2) (hid b3) (hid b4)).mono ?_
     rintro e' w' ⟨rfl,q,hs,ho,hf⟩
     exact ⟨rfl,fr3_low hf R.g hB.2.2.2,q,_,_,_,hs,fun t _ => ⟨rf,rt,R.moreG hf hB.1 hB.2.1 ho⟩⟩
    | false =>
     cases b5 : (RS.ok (x :: tt)).is kSecret with
     | true =>
      have eT : thingF n p (.ok (x :: tt)) = ({ p with gs:=p.gs ++ [(globF p.gs.length (.ok (x :: tt))).1] },(globF p.gs.length (.ok (x :: tt))).2):=by simp [thingF,b1,b2,b3,b4,b5]
      rw [eT]
      refine (rth_globS (x:=x) (tt:=tt) (hid S) (hid R.g) hB hl.1 (hid b1) (hid b2) (hid b3) (hid b4) (hid b5)).mono ?_
      rintro e' w' ⟨rfl,q,hs,ho,hf⟩
      exact ⟨rfl,fr3_low hf R.g hB.2.2.2,q,_,_,_,hs,fun t _ => ⟨rf,rt,R.moreG hf hB.1 hB.2.1 ho⟩⟩
     | false =>
      have eT : thingF n p (.ok (x :: tt)) = (p,.bad 11 x.a):=by simp [thingF,b1,b2,b3,b4,b5,RS.fail]
      rw [eT]
      refine (rth_none (B:=B) (l:=[]) (σ:=.ok []) (hid S) (hid b1) (hid b2) (hid b3) (hid b4) (hid b5)).mono ?_
      rintro e' w' ⟨rfl,hs,hf⟩
      exact ⟨rfl,fr_low hf hB.2.2.2,_,_,_,_,hs,fun t h => by cases h⟩
end Go.Proofs.Ytbmmjomcjlpnlaa
namespace Go.Proofs.Ytbmmjomcjlpnlaa
open Go Go.RowKit
theorem dec_small {u : Nat} (h : u < 10) : Lib.decDigits u = [UInt8.ofNat (48 + u)]:=Lib.decDigits_one h
theorem dec_step {u : Nat} (h : ¬ u < 10) : Lib.decDigits u = Lib.decDigits (u / 10) ++ [UInt8.ofNat (48 + u % 10)]:=by rw [Lib.decDigits,dif_neg h]
theorem byte_of {d : Nat} (h : d < 10) : (UInt8.ofNat (48 + d)).toNat = 48 + d:=by
 rw [UInt8.toNat_ofNat']
 omega
theorem parse_dec (u : Nat) : ∀ r,u < 9223372036854775808 → Lib.parseUint10 0 (Lib.decDigits u ++ r) = Lib.parseUint10 u r:=by
 induction u using Nat.strongRecOn with
 | _ u ih =>
  intro r hu
  by_cases h : u < 10
  · rw [dec_small h]
    simp only [List.singleton_append,Lib.parseUint10,byte_of h]
    rw [if_pos (by omega),if_neg (by omega),if_neg (by omega)]
    congr 1
    omega
  · rw [dec_step h,List.append_assoc,ih (u / 10) (by omega) _ (by omega)]
    have hd : u % 10 < 10:=Nat.mod_lt _ (by decide)
    simp only [List.singleton_append,Lib.parseUint10,byte_of hd]
    rw [if_pos (by omega),if_neg (by omega),if_neg (by omega)]
    congr 1
    omega
theorem dec_head (u : Nat) : ∃ c r,Lib.decDigits u = c :: r ∧ 48 ≤ c.toNat ∧ c.toNat ≤ 57:=by
 induction u using Nat.strongRecOn with
 | _ u ih =>
  by_cases h : u < 10
  · exact ⟨_,[],dec_small h,by rw [byte_of h];omega,by rw [byte_of h];omega⟩
  · obtain ⟨c,r,e,h1,h2⟩:=ih (u / 10) (by omega)
    exact ⟨c,r ++ [UInt8.ofNat (48 + u % 10)],by rw [dec_step h,e];rfl,h1,h2⟩
theorem dec_len (k : Nat) : ∀ u,u < 10 ^ (k + 1) → (Lib.decDigits u).length ≤ k + 1:=by
 induction k with
 | zero =>
  intro u hu
  rw [dec_small (by simpa using hu)]
  simp
 | succ k ih =>
  intro u hu
  by_cases h : u < 10
  · rw [dec_small h]
    simp
  · rw [dec_step h,List.length_append]
    have e : (10 : Nat) ^ (k + 1 + 1) = 10 ^ (k + 1) * 10:=Nat.pow_succ ..
    have:=ih (u / 10) (by omega)
    simp
    omega
theorem dig_nat (u : Nat) : dig (u : Int) = ⟨(Lib.decDigits u).toArray⟩:=by
 unfold dig Lib.itoa
 rw [if_neg (by omega)]
 rfl
theorem dig_neg {n : Int} (h : n < 0) : dig n = ⟨(45 :: Lib.decDigits n.natAbs).toArray⟩:=by
 unfold dig Lib.itoa
 rw [if_pos h]
theorem num_dig {n : Int} (h0 : 0 ≤ n) (h1 : n ≤ 9223372036854775807) : numM (dig n) = (n,true):=by
 obtain ⟨u,rfl⟩:=Int.eq_ofNat_of_zero_le h0
 have hu : u < 9223372036854775808:=by omega
 have hl:=dec_len 18 u (by omega)
 obtain ⟨c,r,e,k1,k2⟩:=dec_head u
 have hp : Lib.parseIntB 64 (dig (u : Int)).data.toList = .ok (u : Int):=by
  rw [Lib.parseIntB_64,dig_nat]
  show Lib.atoiAll (Lib.decDigits u) = _
  have h2:=parse_dec u [] hu
  rw [List.append_nil] at h2
  rw [e,Lib.atoiAll_plain c r (by omega) (by omega),← e]
  unfold Lib.parseMag
  rw [if_neg (by rw [e];simp),h2]
  simp only [Lib.parseUint10,Lib.signless]
  rw [if_neg (by omega)]
 unfold numM
 rw [if_neg (by rw [dig_nat];show ¬ 19 < (Lib.decDigits u).toArray.size;simp;omega),hp]
 simp only
 rw [if_neg (by omega),if_pos (by simp)]
open Go Go.RowKit Go.WideShapes
def tens : ByteArray:=⟨#[48,49,50,51,52,53,54,55,56,57]⟩
theorem tens_at {d : Nat} (h : d < 10) : (tens.extract d (d + 1)).data.toList = [UInt8.ofNat (48 + d)]:=by
 have hd : d = 0 ∨ d = 1 ∨ d = 2 ∨ d = 3 ∨ d = 4 ∨ d = 5 ∨ d = 6 ∨ d = 7 ∨ d = 8 ∨ d = 9:=by omega
 rcases hd with rfl | rfl | rfl | rfl | rfl | rfl | rfl | rfl | rfl | rfl <;> rfl
theorem cat_list (a b : ByteArray) : (a ++ b).data.toList = a.data.toList ++ b.data.toList:=by
 rw [ByteArray.data_append,Array.toList_append]
theorem size_list (a : ByteArray) : a.size = a.data.toList.length:=rfl
def Shown (N u : Nat) (t : ByteArray) : Prop:=Lib.decDigits N = Lib.decDigits u ++ t.data.toList
theorem Shown.size {N u : Nat} {t : ByteArray} (h : Shown N u t) (hN : N ≤ 9223372036854775808) : t.size ≤ 19:=by
 have h1:=congrArg List.length h
 have h2:=dec_len 18 N (by omega)
 rw [List.length_append,← size_list] at h1
 omega
theorem Shown.step {N u : Nat} {t : ByteArray} (h : Shown N u t) (hu : ¬ u < 10) : Shown N (u / 10) (tens.extract (u % 10) (u % 10 + 1) ++ t):=by
 unfold Shown at h ⊢
 rw [h,dec_step hu,cat_list,tens_at (Nat.mod_lt _ (by decide)),List.append_assoc]
theorem Shown.last {N u : Nat} {t : ByteArray} (h : Shown N u t) (hu : u < 10) : (tens.extract (u % 10) (u % 10 + 1) ++ t).data.toList = Lib.decDigits N:=by
 unfold Shown at h
 rw [h,dec_small hu,cat_list,tens_at (Nat.mod_lt _ (by decide)),Nat.mod_eq_of_lt hu]
theorem rdig_pos (n : Nat) (w : World) (hn : (n : Int) ≤ 9223372036854775807) : Calls Try.prog 61 #[.int .i64 n] w fun e w' => e = .returned (.string (dig n)) ∧ w = w':=by
 go_enter Try.func61,Try.ntmps61
 go_wp2
 go_loop [0,3] (fun x s => ∃ (u : Nat) (t : ByteArray),x = .int .i64 u ∧ s = .string t ∧ (u : Int) ≤ 9223372036854775807 ∧ Shown n u t) (fun x _ => (intOf x).toNat)
 case atStart => exact ⟨n,⟨#[]⟩,rfl,rfl,hn,by unfold Shown;exact (List.append_nil _).symm⟩
 case round =>
  obtain ⟨u,t,rfl,rfl,hu,hsh⟩:=hrel
  have hts:=hsh.size (by omega)
  by_cases hz : u < 10
  · have h0 : ((u : Int) / 10 == 0) = true:=by simp;omega
    go_wp2
    go_ret
    refine ⟨congrArg (fun s => Ending.returned (Value.string s)) (bytes_inj ?_),rfl⟩
    rw [dig_nat]
    exact hsh.last hz
  · have h0 : ((u : Int) / 10 == 0) = false:=by simp;omega
    go_wp2
    go_round
    case rel => exact ⟨u / 10,_,by go_num,rfl,by omega,hsh.step hz⟩
    case measure => simp [intOf];omega
theorem neg_parts {u : Nat} : (-(u : Int)).tmod 10 = -((u % 10 : Nat) : Int) ∧ (-(u : Int)).tdiv 10 = -((u / 10 : Nat) : Int):=by
 have h1:=Int.neg_tmod (u : Int) 10
 have h2:=Int.neg_tdiv (u : Int) 10
 have h3 : (u : Int).tmod 10 = (u : Int) % 10:=Int.tmod_eq_emod_of_nonneg (by omega)
 have h4 : (u : Int).tdiv 10 = (u : Int) / 10:=Int.tdiv_eq_ediv_of_nonneg (by omega)
 rw [h3] at h1
 rw [h4] at h2
 exact ⟨h1,h2⟩
theorem rdig_neg (n : Int) (N : Nat) (hN : Hid (n = -(N : Int))) (w : World) (hn : n < 0) (hb : -9223372036854775808 ≤ n) : Calls Try.prog 61 #[.int .i64 n] w fun e w' => e = .returned (.string (dig n)) ∧ w = w':=by
 go_enter Try.func61,Try.ntmps61
 go_wp2
 go_loop [0,3] (fun x s => ∃ (v : Int) (u : Nat) (t : ByteArray),x = .int .i64 v ∧ s = .string t ∧ v < 0 ∧ -9223372036854775808 ≤ v ∧ Hid (v = -(u : Int)) ∧ Shown N u t) (fun x _ => (-(intOf x)).toNat)
 case atStart => exact ⟨n,N,⟨#[]⟩,rfl,rfl,hn,hb,hN,by unfold Shown;exact (List.append_nil _).symm⟩
 case round =>
  obtain ⟨v,u,t,rfl,rfl,hv,hv2,HV,hsh⟩:=hrel
  have hts:=hsh.size (by have:=hN.out;omega)
  have hp:=@neg_parts u
  rw [← HV.out] at hp
  have HP:=hid hp
  clear hp
  have hm0 : -9 ≤ v.tmod 10:=by have:=HP.out.1;omega
  by_cases hz : u < 10
  · have h0 : (v.tdiv 10 == 0) = true:=by have:=HP.out.2;simp;omega
    have hm1 : v.tmod 10 < 0:=by have:=HP.out.1;have:=HV.out;omega
    go_wp2
    go_ret
    refine ⟨congrArg (fun s => Ending.returned (Value.string s)) (bytes_inj ?_),rfl⟩
    rw [dig_neg hn,cat_list]
    have e1 : (-v.tmod 10).toNat = u % 10:=by have:=HP.out.1;omega
    have e2 : (-v.tmod 10 + 1).toNat = u % 10 + 1:=by have:=HP.out.1;omega
    have e3 : n.natAbs = N:=by have:=hN.out;omega
    rw [e1,e2,e3]
    show [45] ++ (tens.extract (u % 10) (u % 10 + 1) ++ t).data.toList = _
    rw [hsh.last hz]
    rfl
  · have h0 : (v.tdiv 10 == 0) = false:=by have:=HP.out.2;simp;omega
    by_cases hr : u % 10 = 0
    · have hm1 : v.tmod 10 = 0:=by have:=HP.out.1;omega
      have HR:=hid hr
      clear hr
      go_wp2
      go_round
      case rel =>
       refine ⟨v.tdiv 10,u / 10,_,rfl,rfl,by have:=HP.out.2;omega,by have:=HP.out.2;have:=HV.out;omega,hid HP.out.2,?_⟩
       have h1:=hsh.step hz
       rw [HR.out] at h1
       exact h1
      case measure => have:=HP.out.2;have:=HV.out;simp [intOf];omega
    · have hm1 : v.tmod 10 < 0:=by have:=HP.out.1;omega
      have HR:=hid hr
      clear hr
      go_wp2
      go_round
      case rel =>
       refine ⟨v.tdiv 10,u / 10,_,rfl,rfl,by have:=HP.out.2;omega,by have:=HP.out.2;have:=HV.out;omega,hid HP.out.2,?_⟩
       have h1:=hsh.step hz
       have e1 : (-v.tmod 10).toNat = u % 10:=by have:=HP.out.1;omega
       have e2 : (-v.tmod 10 + 1).toNat = u % 10 + 1:=by have:=HP.out.1;omega
       rw [e1,e2]
       exact h1
      case measure => have:=HP.out.2;have:=HV.out;simp [intOf];omega
theorem rdigits_any (n : Int) (w : World) (h0 : -9223372036854775808 ≤ n) (h1 : n ≤ 9223372036854775807) : Calls Try.prog 61 #[.int .i64 n] w fun e w' => e = .returned (.string (dig n)) ∧ w = w':=by
 by_cases h : n < 0
 · exact rdig_neg n n.natAbs (hid (by omega)) w h h0
 · obtain ⟨u,rfl⟩:=Int.eq_ofNat_of_zero_le (show 0 ≤ n by omega)
   exact rdig_pos u w h1
def rGo (acc : Int) : List UInt8 → Option Int
 | [] => some acc
 | c :: r => if (c.toNat : Int) < 48 ∨ 57 < (c.toNat : Int) ∨ (9223372036854775807 - ((c.toNat : Int) - 48)) / 10 < acc then none else rGo (10 * acc + ((c.toNat : Int) - 48)) r
def rNum (s : ByteArray) : Int × Bool :=
 if s.size = 0 ∨ 19 < s.size then (0,false)
 else match rGo 0 s.data.toList with
  | none => (0,false)
  | some n => (n,(dig n).toList == s.toList)
theorem drop_at (s : ByteArray) (k : Nat) (h : k < s.size) : s.data.toList.drop k = s[k] :: s.data.toList.drop (k + 1):=by
 rw [List.drop_eq_getElem_cons (by simpa using h)]
 rfl
theorem rnumber_bad (s : ByteArray) (w : World) (he : s.toList.isEmpty = true) : Calls Try.prog 43 #[.string s] w fun e w' => e = .returned (.tuple #[.int .i64 0,.bool false]) ∧ w = w':=by
 go_enter Try.func43,Try.ntmps43
 go_wp2
 go_ret2
 exact ⟨rfl,rfl⟩
theorem rnumber_long (s : ByteArray) (w : World) (he : s.toList.isEmpty = false) (hl : 19 < s.size) (hm : s.size ≤ 9223372036854775807) : Calls Try.prog 43 #[.string s] w fun e w' => e = .returned (.tuple #[.int .i64 0,.bool false]) ∧ w = w':=by
 go_enter Try.func43,Try.ntmps43
 go_wp2
 go_ret2
 exact ⟨rfl,rfl⟩
theorem rGo_bad {acc : Int} {c : UInt8} {r : List UInt8} (h : (c.toNat : Int) < 48 ∨ 57 < (c.toNat : Int) ∨ (9223372036854775807 - ((c.toNat : Int) - 48)) / 10 < acc) : rGo acc (c :: r) = none:=by rw [rGo,if_pos h]
theorem rGo_step {acc : Int} {c : UInt8} {r : List UInt8} (h : ¬ ((c.toNat : Int) < 48 ∨ 57 < (c.toNat : Int) ∨ (9223372036854775807 - ((c.toNat : Int) - 48)) / 10 < acc)) : rGo acc (c :: r) = rGo (10 * acc + ((c.toNat : Int) - 48)) r:=by rw [rGo,if_neg h]
def RN (m : Option Int) (s : ByteArray) (e : Ending) : Prop :=
 e = .returned (.tuple #[.int .i64 (match m with | none => 0 | some n => n),.bool (match m with | none => false | some n => (dig n).toList == s.toList)])
theorem rnumber_good (s : ByteArray) (w : World) (he : s.toList.isEmpty = false) (hl : s.size ≤ 19) : Calls Try.prog 43 #[.string s] w fun e w' => RN (rGo 0 s.data.toList) s e ∧ w = w':=by
 go_enter Try.func43,Try.ntmps43
 go_wp2
 go_loop [4,5] (fun n i => ∃ (k : Nat) (acc : Int),k ≤ s.size ∧ i = .int .i64 k ∧ n = .int .i64 acc ∧ 0 ≤ acc ∧ acc ≤ 9223372036854775807 ∧ Hid (rGo acc (s.data.toList.drop k) = rGo 0 s.data.toList)) (fun _ i => s.size - (intOf i).toNat)
 case atStart => exact ⟨0,0,Nat.zero_le _,rfl,rfl,by omega,by omega,hid rfl⟩
 case round =>
  obtain ⟨k,acc,hk,rfl,rfl,ha0,ha1,HG⟩:=hrel
  by_cases hlt : k < s.size
  · obtain ⟨c,hc⟩ : ∃ c,c = s[k]:=⟨_,rfl⟩
    have hd:=drop_at s k hlt
    rw [← hc] at hd
    have HD:=hid hd
    clear hd
    have hb : c.toNat < 256:=UInt8.toNat_lt c
    by_cases h1 : (c.toNat : Int) < 48
    · have e0 : RN none s (.returned (.tuple #[.int .i64 0,.bool false])):=rfl
      have HE : Hid (rGo 0 s.data.toList = none):=hid (by rw [← HG.out,HD.out];exact rGo_bad (Or.inl h1))
      rw [hc] at h1 hb
      clear hc HD
      go_wp2
      go_ret2
      exact ⟨by rw [HE.out];exact e0,rfl⟩
    · by_cases h2 : 57 < (c.toNat : Int)
      · have e0 : RN none s (.returned (.tuple #[.int .i64 0,.bool false])):=rfl
        have HE : Hid (rGo 0 s.data.toList = none):=hid (by rw [← HG.out,HD.out];exact rGo_bad (Or.inr (Or.inl h2)))
        rw [hc] at h1 h2 hb
        clear hc HD
        go_wp2
        go_ret2
        exact ⟨by rw [HE.out];exact e0,rfl⟩
      · by_cases h3 : (9223372036854775807 - ((c.toNat : Int) - 48)) / 10 < acc
        · have e0 : RN none s (.returned (.tuple #[.int .i64 0,.bool false])):=rfl
          have HE : Hid (rGo 0 s.data.toList = none):=hid (by rw [← HG.out,HD.out];exact rGo_bad (Or.inr (Or.inr h3)))
          rw [hc] at h1 h2 h3 hb
          clear hc HD
          go_wp2
          go_ret2
          exact ⟨by rw [HE.out];exact e0,rfl⟩
        · have HE : Hid (rGo (10 * acc + ((c.toNat : Int) - 48)) (s.data.toList.drop (k + 1)) = rGo 0 s.data.toList):=hid (by rw [← HG.out,HD.out,rGo_step (by omega)])
          rw [hc] at h1 h2 h3 hb HE
          clear hc HD
          go_wp2
          go_round
          case rel => exact ⟨k + 1,_,by omega,by go_num,rfl,by omega,by omega,HE⟩
          case measure => simp [intOf];omega
  · have e0 : s.data.toList.drop k = []:=List.drop_eq_nil_of_le (by show s.data.toList.length ≤ k;rw [← size_list];omega)
    have HE : Hid (rGo 0 s.data.toList = some acc):=hid (by rw [← HG.out,e0,rGo])
    clear e0
    obtain ⟨d,hd⟩ : ∃ d,d = dig acc:=⟨_,rfl⟩
    have hdig : ∀ W : World,Calls Try.prog 61 #[.int .i64 acc] W fun e w' => e = .returned (.string d) ∧ W = w':=by rw [hd];exact fun W => rdigits_any acc W (by omega) ha1
    have HD:=hid hdig
    have HH:=hid hd
    clear hdig hd
    go_wp2_with (go_at_call 61;refine (HD.out _).mono ?_;rintro e w' ⟨rfl,rfl⟩)
    go_ret2
    exact ⟨by rw [HE.out,HH.out];rfl,rfl⟩
theorem rnumber_any (s : ByteArray) (w : World) (hm : s.size ≤ 9223372036854775807) : Calls Try.prog 43 #[.string s] w fun e w' => e = .returned (.tuple #[.int .i64 (rNum s).1,.bool (rNum s).2]) ∧ w = w':=by
 cases he : s.toList.isEmpty
 · have hne : ¬ s.size = 0:=by
    intro h0
    rw [ByteArray.toList_eq] at he
    have : s.data.toList = []:=List.eq_nil_of_length_eq_zero (by rw [← size_list];exact h0)
    rw [this] at he
    cases he
   by_cases hl : 19 < s.size
   · have e1 : rNum s = (0,false):=if_pos (Or.inr hl)
     rw [e1]
     exact rnumber_long s w he hl hm
   · have e1 : rNum s = match rGo 0 s.data.toList with
      | none => (0,false)
      | some n => (n,(dig n).toList == s.toList):=if_neg (by omega)
     refine (rnumber_good s w he (by omega)).mono fun e w' ⟨h1,h2⟩ => ⟨?_,h2⟩
     rw [h1,e1]
     cases rGo 0 s.data.toList <;> rfl
 · have h0 : s.size = 0:=by
    rw [ByteArray.toList_eq,List.isEmpty_iff] at he
    rw [size_list,he]
    rfl
   have e1 : rNum s = (0,false):=if_pos (Or.inl h0)
   rw [e1]
   exact rnumber_bad s w he
theorem go_dec (u : Nat) : ∀ r,u ≤ 9223372036854775807 → rGo 0 (Lib.decDigits u ++ r) = rGo (u : Int) r:=by
 induction u using Nat.strongRecOn with
 | _ u ih =>
  intro r hu
  by_cases h : u < 10
  · rw [dec_small h,List.singleton_append,rGo_step (by rw [byte_of h];omega),byte_of h]
    congr 1
    omega
  · have hd : u % 10 < 10:=Nat.mod_lt _ (by decide)
    rw [dec_step h,List.append_assoc,ih (u / 10) (by omega) _ (by omega),List.singleton_append,rGo_step (by rw [byte_of hd];omega),byte_of hd]
    congr 1
    omega
theorem rGo_bd (l : List UInt8) : ∀ acc n : Int,0 ≤ acc → acc ≤ 9223372036854775807 → rGo acc l = some n → 0 ≤ n ∧ n ≤ 9223372036854775807:=by
 induction l with
 | nil =>
  intro acc n h0 h1 h
  rw [rGo] at h
  cases h
  exact ⟨h0,h1⟩
 | cons c r ih =>
  intro acc n h0 h1 h
  by_cases hb : (c.toNat : Int) < 48 ∨ 57 < (c.toNat : Int) ∨ (9223372036854775807 - ((c.toNat : Int) - 48)) / 10 < acc
  · rw [rGo_bad hb] at h
    cases h
  · rw [rGo_step hb] at h
    exact ih _ n (by omega) (by omega) h
theorem eq_of_lists {a b : ByteArray} (h : (a.toList == b.toList) = true) : a = b:=by
 rw [ByteArray.toList_eq,ByteArray.toList_eq] at h
 exact bytes_inj (eq_of_beq h)
theorem same_num (s : ByteArray) : (∃ v,numM s = (v,true) ∧ rNum s = (v,true)) ∨ (∃ v,numM s = (0,false) ∧ rNum s = (v,false)):=by
 by_cases hr : (rNum s).2 = true
 · left
   by_cases hs : s.size = 0 ∨ 19 < s.size
   · rw [show rNum s = (0,false) from if_pos hs] at hr
     cases hr
   · have e1 : rNum s = match rGo 0 s.data.toList with
      | none => (0,false)
      | some n => (n,(dig n).toList == s.toList):=if_neg hs
     cases hg : rGo 0 s.data.toList with
     | none =>
      rw [e1,hg] at hr
      cases hr
     | some n =>
      rw [e1,hg] at hr
      simp only at hr
      have hb:=rGo_bd _ _ _ (by omega) (by omega) hg
      have he:=eq_of_lists hr
      refine ⟨n,?_,?_⟩
      · rw [← he]
        exact num_dig hb.1 hb.2
      · rw [e1,hg]
        simp only [hr]
 · have hr2 : (rNum s).2 = false:=by simpa using hr
   right
   refine ⟨(rNum s).1,?_,by rw [← hr2]⟩
   unfold numM
   by_cases hl : 19 < s.size
   · rw [if_pos hl]
   · rw [if_neg hl]
     rcases hp : Lib.parseIntB 64 s.data.toList with v | _ | _
     · simp only
       by_cases hv : v < 0
       · rw [if_pos hv]
       · rw [if_neg hv]
         by_cases ht : ((dig v).toList == s.toList) = true
         · exfalso
           have he:=eq_of_lists ht
           obtain ⟨b1,b2⟩:=Lib.parseIntB_bounds hp
           have b3 : v ≤ 9223372036854775807:=by simp at b2;omega
           obtain ⟨u,rfl⟩:=Int.eq_ofNat_of_zero_le (show 0 ≤ v by omega)
           have hsd : s.data.toList = Lib.decDigits u:=by rw [← he,dig_nat]
           have hg:=go_dec u [] (by omega)
           rw [List.append_nil,← hsd] at hg
           obtain ⟨c,r,hc,_⟩:=dec_head u
           have hz : s.size = r.length + 1:=by rw [size_list,hsd,hc];rfl
           have hs0 : ¬ (s.size = 0 ∨ 19 < s.size):=by omega
           apply hr
           unfold rNum
           rw [if_neg hs0,hg]
           simp only [rGo]
           exact ht
         · rw [if_neg ht]
     · rfl
     · rfl
def hasB (l : List UInt8) (c : UInt8) : Bool:=l.contains c
theorem in_any (s : ByteArray) (c : UInt8) (w : World) (hm : s.size ≤ 9223372036854775807) : Calls Try.prog 40 #[.string s,.int .u8 c.toNat] w fun e w' => e = .returned (.bool (hasB s.data.toList c)) ∧ w = w':=by
 go_enter Try.func40,Try.ntmps40
 go_wp2
 go_loop [5] (fun i => ∃ k : Nat,i = .int .i64 k ∧ k ≤ s.size ∧ Hid (∀ j (h : j < s.size),j < k → (s[j]'h) ≠ c)) (fun i => s.size - (intOf i).toNat)
 case atStart => exact ⟨0,rfl,Nat.zero_le _,hid (fun j _ h => absurd h (by omega))⟩
 case round =>
  obtain ⟨k,rfl,hk,HN⟩:=hrel
  by_cases hlt : k < s.size
  · by_cases hc : (s[k]'hlt) = c
    · have hb : (((s[k]'hlt).toNat : Int) == (c.toNat : Int)) = true:=by rw [hc];simp
      have HR : Hid (hasB s.data.toList c = true):=hid (by unfold hasB;rw [List.contains_iff_mem];exact List.mem_of_getElem? (i:=k) (by rw [at_list s k hlt,hc]))
      clear hc
      go_wp2
      go_ret
      exact ⟨ret_bool (by rw [HR.out]),rfl⟩
    · have hb : (((s[k]'hlt).toNat : Int) == (c.toNat : Int)) = false:=by
       rw [beq_eq_false_iff_ne]
       intro h
       exact hc (UInt8.toNat_inj.1 (by omega))
      have HN2 : Hid (∀ j (h : j < s.size),j < k + 1 → (s[j]'h) ≠ c):=hid (fun j h hj => by
       by_cases e : j = k
       · subst e
         exact hc
       · exact HN.out j h (by omega))
      clear hc
      go_wp2
      go_round
      case rel => exact ⟨k + 1,by go_num,by omega,HN2⟩
      case measure => simp [intOf];omega
  · have HR : Hid (hasB s.data.toList c = false):=hid (by
     unfold hasB
     rw [Bool.eq_false_iff]
     intro h
     rw [List.contains_iff_mem] at h
     obtain ⟨j,hj,e⟩:=List.getElem_of_mem h
     have hj2 : j < s.size:=hj
     exact HN.out j hj2 (by omega) e)
    go_wp2
    go_ret
    exact ⟨ret_bool (by rw [HR.out]),rfl⟩
def pairB (k : Nat) : ByteArray:=⟨(pairL.getD k []).toArray⟩
def pairsC : Array Value:=#[.string ⟨#[38,38]⟩,.string ⟨#[124,124]⟩,.string ⟨#[61,61]⟩,.string ⟨#[33,61]⟩,.string ⟨#[60,61]⟩,.string ⟨#[62,61]⟩,.string ⟨#[60,60]⟩,.string ⟨#[62,62]⟩]
theorem pairs_at (k : Nat) (h : k < 8) : pairsC[k]? = some (.string (pairB k)):=by
 match k,h with
 | 0,_ => rfl
 | 1,_ => rfl
 | 2,_ => rfl
 | 3,_ => rfl
 | 4,_ => rfl
 | 5,_ => rfl
 | 6,_ => rfl
 | 7,_ => rfl
theorem in_is {s : ByteArray} {c : UInt8} {b : Bool} (h : hasB s.data.toList c = b) (hm : s.size ≤ 9223372036854775807) (w : World) : Calls Try.prog 40 #[.string s,.int .u8 c.toNat] w fun e w' => e = .returned (.bool b) ∧ w = w':=h ▸ in_any s c w hm
def Unlike (s : ByteArray) (k : Nat) : Prop:=∀ j,j < k → ((s.extract 0 2).toList == (pairB j).toList) = false
theorem Unlike.get {s : ByteArray} {k : Nat} (h : Unlike s k) (j : Nat) (hj : j < k) : ((s.extract 0 2).toList == pairL.getD j []) = false:=by
 have e:=h j hj
 rw [show (pairB j).toList = pairL.getD j [] from ByteArray.toList_eq _] at e
 exact e
theorem Unlike.step {s : ByteArray} {k : Nat} (h : Unlike s k) (h2 : ((s.extract 0 2).toList == (pairB k).toList) = false) : Unlike s (k + 1):=by
 intro j hj
 by_cases e : j = k
 · subst e
   exact h2
 · exact h j (by omega)
theorem pairs_in (k : Nat) (h : k < 8) : pairL.contains (pairB k).toList = true:=by
 rw [ByteArray.toList_eq]
 match k,h with
 | 0,_ => rfl
 | 1,_ => rfl
 | 2,_ => rfl
 | 3,_ => rfl
 | 4,_ => rfl
 | 5,_ => rfl
 | 6,_ => rfl
 | 7,_ => rfl
theorem ext_zero (s : ByteArray) : s.extract 0 0 = ⟨#[]⟩:=by rw [Lib.extract_eq];rfl
theorem rsign_long (s : ByteArray) (w : World) (h2 : 1 < s.size) (hm : s.size ≤ 9223372036854775807) : Calls Try.prog 44 #[.string s] w fun e w' => e = .returned (.string (s.extract 0 (sgnLen s.data.toList))) ∧ Below w.heap.size w w':=by
 go_enter Try.func44,Try.ntmps44
 go_wp2
 go_loopw [4] (fun i wr => ∃ k n : Nat,i = .int .i64 k ∧ k ≤ 8 ∧ wr = (w.alloc (.cells pairsC 9)).drewN n ∧ Hid (Unlike s k)) (fun i _ => 8 - (intOf i).toNat)
 case atStart => exact ⟨0,0,rfl,by omega,rfl,hid (fun j h => absurd h (by omega))⟩
 case round =>
  obtain ⟨k,n,rfl,hk,rfl,HU⟩:=hrel
  by_cases hlt : k < 8
  · obtain ⟨P,hP⟩ : ∃ P,P = pairB k:=⟨_,rfl⟩
    have hcell : (w.alloc (.cells pairsC 9)).cell? ⟨w.heap.size,k,none⟩ = some (.string P):=by
     rw [hP,← pairs_at k hlt]
     exact cell_of_row _ _ k pairsC 9 (0,0) (heap_alloc_new w _)
    have HP:=hid hP
    clear hP
    cases he : ((s.extract 0 2).toList == P.toList)
    · have hz1 : (1 : Int) < s.size:=by omega
      have hk2 : (k : Int) < 8:=by omega
      have hk0 : (0 : Int) ≤ k:=by omega
      go_wp2
      go_quiet (fail)
      go_wp2
      go_roundw
      case rel => exact ⟨k + 1,_,by go_num,by omega,rfl,hid (HU.out.step (by rw [← HP.out];exact he))⟩
      case measure => simp [intOf];omega
    · have HR:=hid (sgn_pair s h2 P.toList (by rw [HP.out];exact pairs_in k hlt) he)
      have HE:=hid (eq_of_lists he)
      have hz1 : (1 : Int) < s.size:=by omega
      have hk2 : (k : Int) < 8:=by omega
      have hk0 : (0 : Int) ≤ k:=by omega
      go_wp2
      go_quiet (fail)
      go_wp2
      go_ret
      exact ⟨ret_str (by rw [HR.out,HE.out]),below_drewN ((Below.refl _ _).alloc (Nat.le_refl _) _) _⟩
  · obtain rfl : k = 8:=by omega
    have HS:=hid (sgn_single s h2 (HU.out.get 0 (by omega)) (HU.out.get 1 (by omega)) (HU.out.get 2 (by omega)) (HU.out.get 3 (by omega)) (HU.out.get 4 (by omega)) (HU.out.get 5 (by omega)) (HU.out.get 6 (by omega)) (HU.out.get 7 (by omega)))
    cases hc : hasB oneL (s[0]'(by omega))
    · have HC:=hid hc
      have HR : Hid (sgnLen s.data.toList = 0):=hid (by rw [HS.out,if_neg (by unfold hasB at hc;rw [hc];decide)])
      clear hc
      go_wp2_with (go_at_call 40;refine (in_is (s:=⟨#[43,45,42,47,37,38,124,94,60,62,33,61,40,41,91,93,123,125,59,44]⟩) HC.out (by decide) _).mono ?_;rintro e' w' ⟨rfl,rfl⟩)
      go_ret
      exact ⟨ret_str (by rw [HR.out];exact (ext_zero s).symm),below_drewN ((Below.refl _ _).alloc (Nat.le_refl _) _) _⟩
    · have HC:=hid hc
      have HR : Hid (sgnLen s.data.toList = 1):=hid (by rw [HS.out,if_pos (by unfold hasB at hc;exact hc)])
      clear hc
      go_wp2_with (go_at_call 40;refine (in_is (s:=⟨#[43,45,42,47,37,38,124,94,60,62,33,61,40,41,91,93,123,125,59,44]⟩) HC.out (by decide) _).mono ?_;rintro e' w' ⟨rfl,rfl⟩)
      go_ret
      exact ⟨ret_str (by rw [HR.out]),below_drewN ((Below.refl _ _).alloc (Nat.le_refl _) _) _⟩
theorem rsign_short (s : ByteArray) (w : World) (h2 : s.size = 1) : Calls Try.prog 44 #[.string s] w fun e w' => e = .returned (.string (s.extract 0 (sgnLen s.data.toList))) ∧ Below w.heap.size w w':=by
 have H2:=hid h2
 have hs1 : ¬ (1 : Int) < s.size:=by omega
 have hs0 : 0 < s.size:=by omega
 clear h2
 go_enter Try.func44,Try.ntmps44
 go_wp2
 go_loopw [4] (fun i wr => ∃ k n : Nat,i = .int .i64 k ∧ k ≤ 8 ∧ wr = (w.alloc (.cells pairsC 9)).drewN n) (fun i _ => 8 - (intOf i).toNat)
 case atStart => exact ⟨0,0,rfl,by omega,rfl⟩
 case round =>
  obtain ⟨k,n,rfl,hk,rfl⟩:=hrel
  by_cases hlt : k < 8
  · have hg : decide ((1 : Int) < s.size) = false:=by simpa using hs1
    go_wp2
    go_quiet (fail)
    go_wp2
    go_roundw
    case rel => exact ⟨k + 1,_,by go_num,by omega,rfl⟩
    case measure => simp [intOf];omega
  · obtain rfl : k = 8:=by omega
    have HS:=hid (sgn_one s H2.out)
    cases hc : hasB oneL (s[0]'(by omega))
    · have HC:=hid hc
      have HR : Hid (sgnLen s.data.toList = 0):=hid (by rw [HS.out,if_neg (by unfold hasB at hc;rw [hc];decide)])
      clear hc
      go_wp2_with (go_at_call 40;refine (in_is (s:=⟨#[43,45,42,47,37,38,124,94,60,62,33,61,40,41,91,93,123,125,59,44]⟩) HC.out (by decide) _).mono ?_;rintro e' w' ⟨rfl,rfl⟩)
      go_ret
      exact ⟨ret_str (by rw [HR.out];exact (ext_zero s).symm),below_drewN ((Below.refl _ _).alloc (Nat.le_refl _) _) _⟩
    · have HC:=hid hc
      have HR : Hid (sgnLen s.data.toList = 1):=hid (by rw [HS.out,if_pos (by unfold hasB at hc;exact hc)])
      clear hc
      go_wp2_with (go_at_call 40;refine (in_is (s:=⟨#[43,45,42,47,37,38,124,94,60,62,33,61,40,41,91,93,123,125,59,44]⟩) HC.out (by decide) _).mono ?_;rintro e' w' ⟨rfl,rfl⟩)
      go_ret
      exact ⟨ret_str (by rw [HR.out]),below_drewN ((Below.refl _ _).alloc (Nat.le_refl _) _) _⟩
theorem rsgn2_any (s : ByteArray) (w : World) (h0 : 0 < s.size) (hm : s.size ≤ 9223372036854775807) : Calls Try.prog 44 #[.string s] w fun e w' => e = .returned (.string (s.extract 0 (sgnLen s.data.toList))) ∧ Below w.heap.size w w':=by
 by_cases h : 1 < s.size
 · exact rsign_long s w h hm
 · exact rsign_short s w (by omega)
end Go.Proofs.Ytbmmjomcjlpnlaa
