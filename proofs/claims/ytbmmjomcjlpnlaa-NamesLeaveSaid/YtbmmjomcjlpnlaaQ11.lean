/- Joined texts: Gx Ge CpB CpL Km CpP CpQ CpE CpX CpS CpT CpF CpG Sp Ta Sk Sl Sg: lemmas for the law; each says its own conditions. -/
import Derived.Test.YtbmmjomcjlpnlaaQ01
import Derived.Test.YtbmmjomcjlpnlaaQ09
import Derived.Test.YtbmmjomcjlpnlaaQ10
import Derived.Test.YtbmmjomcjlpnlaaQ07
import Derived.Laws.MakeOwn
import Derived.Lib.SliceRun
import Derived.Maps.OwnSet
set_option linter.unusedSimpArgs false
set_option linter.unusedVariables false
set_option maxRecDepth 100000
set_option maxHeartbeats 8000000
open Go.Lib (hid)
namespace Go.Proofs.Ytbmmjomcjlpnlaa.GX
open Go
inductive GoodX : Stm → Prop
 | mk {k a : Int} {tr sc : Bool} {nm : List UInt8} {ix es : List Ex} {bd el : List Stm} : 0 ≤ k → k ≤ 5 → ix.length ≤ 1 → es.length ≤ 1 → (∀ x ∈ ix,GoodE x) → (∀ x ∈ es,GoodE x) → NmOk nm → (∀ s ∈ bd,GoodX s) → (∀ s ∈ el,GoodX s) → GoodX (.mk k a tr sc nm ix es bd el)
def OkW (ts : List Wd) : Prop:=(∀ w ∈ ts,WdOk w) ∧ lens ts ≤ 16384 ∧ ts.length ≤ 16385
theorem OkW.suf {a b : List Wd} (h : OkW b) (hs : a <:+ b) : OkW a:=⟨fun w hw => h.1 w (hs.subset hw),Nat.le_trans (lens_suf hs) h.2.1,Nat.le_trans hs.length_le h.2.2⟩
def Sb (t s : RS) : Prop:=∀ tt,t = .ok tt → ∃ ss,s = .ok ss ∧ tt <:+ ss
theorem Sb.refl (s : RS) : Sb s s:=fun tt h => ⟨tt,h,List.suffix_refl _⟩
theorem Sb.trans {a b c : RS} (h : Sb a b) (k : Sb b c) : Sb a c:=fun tt e => by
 obtain ⟨ss,e1,e2⟩:=h tt e
 obtain ⟨uu,e3,e4⟩:=k ss e1
 exact ⟨uu,e3,e2.trans e4⟩
theorem Sb.bad (c : Int) (a : Nat) (s : RS) : Sb (.bad c a) s:=fun _ h => by cases h
theorem fail_sb (e : Int) (s : RS) : Sb (s.fail e) s:=by
 cases s with
 | bad c a => exact .refl _
 | ok tt => cases tt with
  | nil => exact .refl _
  | cons w r => exact .bad _ _ _
theorem adv_sb (s : RS) : Sb s.adv s:=by
 cases s with
 | bad c a => exact .refl _
 | ok tt => cases tt with
  | nil => exact .refl _
  | cons w r => exact fun t h => by cases h;exact ⟨_,rfl,List.suffix_cons _ _⟩
theorem need_sb (t : List UInt8) (s : RS) : Sb (s.need t) s:=by
 unfold RS.need
 split
 · exact adv_sb s
 · exact fail_sb _ s
theorem eith_sb (x y : List UInt8) (s : RS) : Sb (eithF x y s).2 s:=by
 unfold eithF
 split
 · exact adv_sb s
 · exact need_sb x s
theorem kind_sb (s : RS) : Sb (kindF s).2 s:=(eith_sb _ _ _).trans (eith_sb _ _ _)
theorem name_sb (s : RS) : Sb (nameF s).2 s ∧ ∀ tt,(nameF s).2 = .ok tt → ∀ ss,s = .ok ss → OkW ss → (nameF s).1.1.length ≤ 24:=by
 cases s with
 | bad c a => exact ⟨.refl _,fun _ h => by cases h⟩
 | ok tt => cases tt with
  | nil => exact ⟨.refl _,fun _ _ _ _ _ => by simp [nameF]⟩
  | cons w r =>
   rw [nameF_cons]
   by_cases h : w.k ≠ 0 ∨ keyB w.t = true
   · rw [if_pos h]
     exact ⟨.bad _ _ _,fun _ h => by cases h⟩
   · rw [if_neg h]
     refine ⟨fun t e => by cases e;exact ⟨_,rfl,List.suffix_cons _ _⟩,fun t _ ss e ho => ?_⟩
     cases e
     have hk : w.k = 0:=by (cases Classical.em (w.k = 0) with | inl e => exact e | inr e => exact absurd (.inl e) h)
     have hy : keyB w.t = false:=by (cases e : keyB w.t with | false => rfl | true => exact absurd (.inr e) h)
     obtain ⟨_,_,_,_,_,h24,_⟩:=(ho.1 w (.head _)).1 hk hy
     exact h24
theorem ex0_good : GoodE ex0:=⟨by decide,.mk (by decide) (by decide) (by simp),by (rw [txt0 (x:=ex0) rfl];show (Lib.itoa ((0 : Nat) : Int)).length ≤ _;rw [Lib.itoa_nonneg];simp [Lib.decDigits]),.num (by decide) (by decide)⟩
theorem name_nm (s : RS) (tt : List Wd) (hh : (nameF s).2 = .ok tt) (ss : List Wd) (hs : s = .ok ss) (ho : OkW ss) : NmOk (nameF s).1.1:=by
 subst hs
 cases ss with
 | nil => exact .inl (by simp [nameF])
 | cons w r =>
  rw [nameF_cons] at hh ⊢
  by_cases h : w.k ≠ 0 ∨ keyB w.t = true
  · rw [if_pos h] at hh
    cases hh
  · rw [if_neg h]
    have hk : w.k = 0:=by (cases Classical.em (w.k = 0) with | inl e => exact e | inr e => exact absurd (.inl e) h)
    have hy : keyB w.t = false:=by (cases e : keyB w.t with | false => rfl | true => exact absurd (.inr e) h)
    exact .inr ((ho.1 w (.head _)).1 hk hy)
theorem ex_sb (s : RS) : Sb (exF s).2 s ∧ ∀ ss,s = .ok ss → OkW ss → GoodE (exF s).1:=by
 cases s with
 | bad c a => exact ⟨.refl _,fun _ h => by cases h⟩
 | ok ts =>
  by_cases hx : ∃ r,P 0 (.expr 1) ts r
  · obtain ⟨r,hr⟩:=hx
    cases r with
    | ok x ts' =>
     rw [exF_ok hr]
     refine ⟨fun t e => by cases e;exact ⟨_,rfl,hr.suf⟩,fun ss e ho => ?_⟩
     cases e
     have hf:=hr.fit ho.1 (by omega) (by omega)
     obtain ⟨w1,w2⟩:=hr.wt ho.1 (by omega)
     have h1 : x.txt.length ≤ x.wt:=by (unfold Ex.wt;omega)
     have:=ho.2.1
     have:=ho.2.2
     show GoodE x
     exact ⟨by omega,hf.1.nums,by omega,hf.1⟩
    | bad c a =>
     rw [exF_bad hr]
     exact ⟨.bad _ _ _,fun _ _ _ => ex0_good⟩
    | okL l ts' =>
     have e:=(Classical.choose_spec (⟨_,hr⟩ : ∃ r,P 0 (.expr 1) ts r)).det _ hr
     have e2 : exF (.ok ts) = (ex0,.ok ts):=by simp only [exF,dif_pos (⟨_,hr⟩ : ∃ r,P 0 (.expr 1) ts r),e]
     rw [e2]
     exact ⟨.refl _,fun _ _ _ => ex0_good⟩
  · have e2 : exF (.ok ts) = (ex0,.ok ts):=by simp only [exF,dif_neg hx]
    rw [e2]
    exact ⟨.refl _,fun _ _ _ => ex0_good⟩
theorem bound_sb (s : RS) : Sb (boundF s).2 s ∧ ∀ ss,s = .ok ss → OkW ss → (∃ tt,(boundF s).2 = .ok tt) → GoodE (boundF s).1:=by
 have k1:=need_sb [40] s
 have k2:=ex_sb (s.need [40])
 have k3:=need_sb [41] (exF (s.need [40])).2
 refine ⟨k3.trans (k2.1.trans k1),fun ss e ho ⟨tt,ht⟩ => ?_⟩
 obtain ⟨u,hu,_⟩:=k3 tt ht
 obtain ⟨v,hv,_⟩:=k2.1 u hu
 obtain ⟨w,hw,hs⟩:=k1 v hv
 rw [e] at hw
 cases hw
 exact k2.2 v hv (ho.suf hs)
theorem Sb.back {t s : RS} (h : Sb t s) {tt ss : List Wd} (ht : t = .ok tt) (hs : s = .ok ss) (ho : OkW ss) : OkW tt ∧ tt <:+ ss:=by
 obtain ⟨u,hu,h2⟩:=h tt ht
 rw [hs] at hu
 cases hu
 exact ⟨ho.suf h2,h2⟩
def RdS (s : RS) (q : Stm × RS) : Prop:=Sb q.2 s ∧ ∀ tt ss,q.2 = .ok tt → s = .ok ss → OkW ss → GoodX q.1 ∧ q.1.cnt + tt.length ≤ ss.length
def RdL (s : RS) (q : List Stm × RS) : Prop:=Sb q.2 s ∧ ∀ tt ss,q.2 = .ok tt → s = .ok ss → OkW ss → (∀ x ∈ q.1,GoodX x) ∧ cntS q.1 + tt.length ≤ ss.length
theorem suf_tl {a : List Wd} {x : Wd} {tt : List Wd} (h : a <:+ tt) : a <:+ x :: tt:=h.trans (List.suffix_cons _ _)
theorem rd_all : ∀ n : Nat,(∀ d x tt,(RS.ok (x :: tt)).fin → 3 * (tt.length + 1) ≤ n → RdS (.ok (x :: tt)) (stmtF n d (.ok (x :: tt)))) ∧ (∀ d s,s.fin → 3 * s.len + 2 ≤ n → RdL s (blockF n d s)) ∧ (∀ d t s,s.fin → 3 * s.len + 1 ≤ n → RdL s (stmtsF n d t s)):=by
 intro n
 induction n with
 | zero =>
  exact ⟨fun d x tt _ h => absurd h (by omega),fun d s _ h => absurd h (by omega),fun d t s _ h => absurd h (by omega)⟩
 | succ n ih =>
  obtain ⟨ih1,ih2,ih3⟩:=ih
  refine ⟨fun d x tt hf hn0 => ?_,fun d s hf hn0 => ?_,fun d t s hf hn0 => ?_⟩
  · have ha : Sb (RS.ok tt) (.ok (x :: tt)):=adv_sb (.ok (x :: tt))
    have hadv : (RS.ok (x :: tt)).adv = .ok tt:=rfl
    unfold stmtF
    rw [hadv]
    by_cases b1 : (RS.ok (x :: tt)).is kVar = true
    · rw [if_pos b1]
      have k1:=kind_sb (.ok tt)
      have k2:=name_sb (kindF (.ok tt)).2
      have k3:=need_sb [61] (nameF (kindF (.ok tt)).2).2
      have k4:=ex_sb ((nameF (kindF (.ok tt)).2).2.need [61])
      have k5:=need_sb [59] (exF ((nameF (kindF (.ok tt)).2).2.need [61])).2
      refine ⟨k5.trans (k4.1.trans (k3.trans (k2.1.trans (k1.trans ha)))),fun t' ss ht hs ho => ?_⟩
      cases hs
      obtain ⟨u5,e5,s5⟩:=k5 t' ht
      obtain ⟨u4,e4,s4⟩:=k4.1 u5 e5
      obtain ⟨u3,e3,s3⟩:=k3 u4 e4
      obtain ⟨u2,e2,s2⟩:=k2.1 u3 e3
      obtain ⟨u1,e1,s1⟩:=k1 u2 e2
      cases e1
      have h4:=ho.suf (suf_tl (s3.trans (s2.trans s1)))
      have hn:=name_nm _ u3 e3 u2 e2 (ho.suf (suf_tl s1))
      refine ⟨.mk (by decide) (by decide) (by simp) (by simp) (by simp) (by simpa using k4.2 u4 e4 h4) hn (by simp) (by simp),?_⟩
      have:=(s5.trans (s4.trans (s3.trans (s2.trans s1)))).length_le
      simp only [Stm.cnt,cntS,List.length_cons]
      omega
    · rw [if_neg b1]
      by_cases b2 : (RS.ok (x :: tt)).is kIf = true
      · rw [if_pos b2]
        have hft : (RS.ok tt).fin:=(is_adv b2 hf).1.2
        have l1:=bound_le hft
        have l1' : (boundF (.ok tt)).2.len ≤ tt.length:=l1.1
        have k1:=bound_sb (.ok tt)
        have k2:=ih2 d (boundF (.ok tt)).2 l1.2 (by omega)
        have l2:=(read_le n).2.1 d _ l1.2
        cases b5 : (blockF n d (boundF (.ok tt)).2).2.is kElse with
        | false =>
         simp only [b5,Bool.false_eq_true,if_false]
         refine ⟨k2.1.trans (k1.1.trans ha),fun t' ss ht hs ho => ?_⟩
         cases hs
         obtain ⟨u2,e2,s2⟩:=k2.1 t' ht
         obtain ⟨u1,e1,s1⟩:=k1.1 u2 e2
         cases e1
         have g1:=k1.2 tt rfl (ho.suf (List.suffix_cons _ _)) ⟨u2,e2⟩
         have g2:=k2.2 t' u2 ht e2 (ho.suf (suf_tl s1))
         refine ⟨.mk (by decide) (by decide) (by simp) (by simp) (by simp) (by simpa using g1) (.inl rfl) g2.1 (by simp),?_⟩
         have:=s1.length_le
         have:=g2.2
         simp only [Stm.cnt,cntS,List.length_cons]
         omega
        | true =>
         simp only [b5,if_true]
         have k3:=adv_sb (blockF n d (boundF (.ok tt)).2).2
         have l3:=(is_adv b5 l2.2).1
         have k4:=ih2 d (blockF n d (boundF (.ok tt)).2).2.adv l3.2 (by have:=l3.1;have:=l2.1;omega)
         refine ⟨k4.1.trans (k3.trans (k2.1.trans (k1.1.trans ha))),fun t' ss ht hs ho => ?_⟩
         cases hs
         obtain ⟨u4,e4,s4⟩:=k4.1 t' ht
         obtain ⟨u3,e3,s3⟩:=k3 u4 e4
         obtain ⟨u2,e2,s2⟩:=k2.1 u3 e3
         obtain ⟨u1,e1,s1⟩:=k1.1 u2 e2
         cases e1
         have g1:=k1.2 tt rfl (ho.suf (List.suffix_cons _ _)) ⟨u2,e2⟩
         have g2:=k2.2 u3 u2 e3 e2 (ho.suf (suf_tl s1))
         have g4:=k4.2 t' u4 ht e4 (ho.suf (suf_tl (s3.trans (s2.trans s1))))
         refine ⟨.mk (by decide) (by decide) (by simp) (by simp) (by simp) (by simpa using g1) (.inl rfl) g2.1 g4.1,?_⟩
         have:=s1.length_le
         have:=s3.length_le
         have:=g2.2
         have:=g4.2
         simp only [Stm.cnt,List.length_cons]
         omega
      · rw [if_neg b2]
        by_cases b3 : (RS.ok (x :: tt)).is kWhile = true
        · rw [if_pos b3]
          have hft : (RS.ok tt).fin:=(is_adv b3 hf).1.2
          have l1:=bound_le hft
          have l1' : (boundF (.ok tt)).2.len ≤ tt.length:=l1.1
          have k1:=bound_sb (.ok tt)
          have k2:=ih2 d (boundF (.ok tt)).2 l1.2 (by omega)
          refine ⟨k2.1.trans (k1.1.trans ha),fun t' ss ht hs ho => ?_⟩
          cases hs
          obtain ⟨u2,e2,s2⟩:=k2.1 t' ht
          obtain ⟨u1,e1,s1⟩:=k1.1 u2 e2
          cases e1
          have g1:=k1.2 tt rfl (ho.suf (List.suffix_cons _ _)) ⟨u2,e2⟩
          have g2:=k2.2 t' u2 ht e2 (ho.suf (suf_tl s1))
          refine ⟨.mk (by decide) (by decide) (by simp) (by simp) (by simp) (by simpa using g1) (.inl rfl) g2.1 (by simp),?_⟩
          have:=s1.length_le
          have:=g2.2
          simp only [Stm.cnt,cntS,List.length_cons]
          omega
        · rw [if_neg b3]
          by_cases b4 : (RS.ok (x :: tt)).is kLock = true
          · rw [if_pos b4]
            have hft : (RS.ok tt).fin:=(is_adv b4 hf).1.2
            have l1:=name_le hft
            have l1' : (nameF (.ok tt)).2.len ≤ tt.length:=l1.1
            have k1:=name_sb (.ok tt)
            have k2:=ih2 d (nameF (.ok tt)).2 l1.2 (by omega)
            refine ⟨k2.1.trans (k1.1.trans ha),fun t' ss ht hs ho => ?_⟩
            cases hs
            obtain ⟨u2,e2,s2⟩:=k2.1 t' ht
            obtain ⟨u1,e1,s1⟩:=k1.1 u2 e2
            cases e1
            have hn:=name_nm _ u2 e2 tt rfl (ho.suf (List.suffix_cons _ _))
            have g2:=k2.2 t' u2 ht e2 (ho.suf (suf_tl s1))
            refine ⟨.mk (by decide) (by decide) (by simp) (by simp) (by simp) (by simp) hn g2.1 (by simp),?_⟩
            have:=s1.length_le
            have:=g2.2
            simp only [Stm.cnt,cntS,List.length_cons]
            omega
          · rw [if_neg b4]
            by_cases b6 : (RS.ok (x :: tt)).is kOut = true
            · rw [if_pos b6]
              have k1:=ex_sb (.ok tt)
              have k2:=need_sb [59] (exF (.ok tt)).2
              refine ⟨k2.trans (k1.1.trans ha),fun t' ss ht hs ho => ?_⟩
              cases hs
              obtain ⟨u2,e2,s2⟩:=k2 t' ht
              obtain ⟨u1,e1,s1⟩:=k1.1 u2 e2
              cases e1
              have g1:=k1.2 tt rfl (ho.suf (List.suffix_cons _ _))
              refine ⟨.mk (by decide) (by decide) (by simp) (by simp) (by simp) (by simpa using g1) (.inl rfl) (by simp) (by simp),?_⟩
              have:=(s2.trans s1).length_le
              simp only [Stm.cnt,cntS,List.length_cons]
              omega
            · rw [if_neg b6]
              have k1:=name_sb (.ok (x :: tt))
              have hlt : ∀ u1,(nameF (.ok (x :: tt))).2 = .ok u1 → u1.length + 1 ≤ (x :: tt).length:=by
               intro u1 e
               rw [nameF_cons] at e
               split at e
               · cases e
               · cases e
                 simp
              cases b7 : (nameF (RS.ok (x :: tt))).2.is [91] with
              | false =>
               simp only [b7,Bool.false_eq_true,if_false]
               have k2:=need_sb [61] (nameF (.ok (x :: tt))).2
               have k3:=ex_sb ((nameF (.ok (x :: tt))).2.need [61])
               have k4:=need_sb [59] (exF ((nameF (.ok (x :: tt))).2.need [61])).2
               refine ⟨k4.trans (k3.1.trans (k2.trans k1.1)),fun t' ss ht hs ho => ?_⟩
               cases hs
               obtain ⟨u4,e4,s4⟩:=k4 t' ht
               obtain ⟨u3,e3,s3⟩:=k3.1 u4 e4
               obtain ⟨u2,e2,s2⟩:=k2 u3 e3
               obtain ⟨u1,e1,s1⟩:=k1.1 u2 e2
               cases e1
               have hn:=name_nm _ u2 e2 _ rfl ho
               have g1:=k3.2 u3 e3 (ho.suf (s2.trans s1))
               refine ⟨.mk (by decide) (by decide) (by simp) (by simp) (by simp) (by simpa using g1) hn (by simp) (by simp),?_⟩
               have:=(s4.trans (s3.trans s2)).length_le
               have:=hlt u2 e2
               simp only [Stm.cnt,cntS]
               omega
              | true =>
               simp only [b7,if_true]
               have k2:=adv_sb (nameF (.ok (x :: tt))).2
               have k3:=ex_sb (nameF (.ok (x :: tt))).2.adv
               have k4:=need_sb [93] (exF (nameF (.ok (x :: tt))).2.adv).2
               have k5:=need_sb [61] ((exF (nameF (.ok (x :: tt))).2.adv).2.need [93])
               have k6:=ex_sb (((exF (nameF (.ok (x :: tt))).2.adv).2.need [93]).need [61])
               have k7:=need_sb [59] (exF (((exF (nameF (.ok (x :: tt))).2.adv).2.need [93]).need [61])).2
               refine ⟨k7.trans (k6.1.trans (k5.trans (k4.trans (k3.1.trans (k2.trans k1.1))))),fun t' ss ht hs ho => ?_⟩
               cases hs
               obtain ⟨u7,e7,s7⟩:=k7 t' ht
               obtain ⟨u6,e6,s6⟩:=k6.1 u7 e7
               obtain ⟨u5,e5,s5⟩:=k5 u6 e6
               obtain ⟨u4,e4,s4⟩:=k4 u5 e5
               obtain ⟨u3,e3,s3⟩:=k3.1 u4 e4
               obtain ⟨u2,e2,s2⟩:=k2 u3 e3
               obtain ⟨u1,e1,s1⟩:=k1.1 u2 e2
               cases e1
               have hn:=name_nm _ u2 e2 _ rfl ho
               have g1:=k3.2 u3 e3 (ho.suf (s2.trans s1))
               have g2:=k6.2 u6 e6 (ho.suf (s5.trans (s4.trans (s3.trans (s2.trans s1)))))
               refine ⟨.mk (by decide) (by decide) (by simp) (by simp) (by simpa using g1) (by simpa using g2) hn (by simp) (by simp),?_⟩
               have:=(s7.trans (s6.trans (s5.trans (s4.trans (s3.trans s2))))).length_le
               have:=hlt u2 e2
               simp only [Stm.cnt,cntS]
               omega
  · unfold blockF
    have k0 : Sb (if s.is [123] && decide (d = 32) then s.fail 2 else s) s:=by
     split
     · exact fail_sb _ _
     · exact .refl _
    obtain ⟨s1,hs1⟩ : ∃ s1,(if s.is [123] && decide (d = 32) then s.fail 2 else s) = s1:=⟨_,rfl⟩
    have l0 : Le s1 s:=by
     rw [← hs1]
     split
     · exact fail_le hf 2
     · exact ⟨Nat.le_refl _,hf⟩
    rw [hs1] at k0
    simp only [hs1]
    have k1:=need_sb [123] s1
    have l1:=(need_le l0.2 [123]).trans l0
    have k2:=ih3 (d + 1) [125] (s1.need [123]) l1.2 (by have:=l1.1;omega)
    have k3:=need_sb [125] (stmtsF n (d + 1) [125] (s1.need [123])).2
    refine ⟨k3.trans (k2.1.trans (k1.trans k0)),fun t' ss ht hs ho => ?_⟩
    subst hs
    obtain ⟨u3,e3,s3⟩:=k3 t' ht
    obtain ⟨u2,e2,s2⟩:=k2.1 u3 e3
    obtain ⟨u1,e1,q1⟩:=k1 u2 e2
    obtain ⟨u0,e0,q0⟩:=k0 u1 e1
    cases e0
    have g2:=k2.2 u3 u2 e3 e2 (ho.suf (q1.trans q0))
    have:=(q1.trans q0).length_le
    have:=s3.length_le
    refine ⟨g2.1,?_⟩
    have:=g2.2
    show cntS (stmtsF n (d + 1) [125] (s1.need [123])).1 + t'.length ≤ ss.length
    omega
  · unfold stmtsF
    cases b : (s.good && !s.is t) with
    | false =>
     simp only [Bool.false_eq_true,if_false]
     exact ⟨.refl _,fun tt ss h1 h2 _ => by (have h1' : s = .ok tt:=h1;rw [h1'] at h2;cases h2;exact ⟨by simp,by simp [cntS]⟩)⟩
    | true =>
     simp only [if_true]
     cases s with
     | bad c a => simp [RS.good] at b
     | ok l =>
      obtain ⟨x,tt,rfl⟩:=(hf l rfl).ne
      have hl : (RS.ok (x :: tt)).len = tt.length + 1:=rfl
      have l1:=(read_le n).1 d x tt hf (by omega)
      have k1:=ih1 d x tt hf (by omega)
      have k2:=ih3 d t (stmtF n d (.ok (x :: tt))).2 l1.1.2 (by have:=l1.2;omega)
      refine ⟨k2.1.trans k1.1,fun t' ss ht hs ho => ?_⟩
      cases hs
      obtain ⟨u2,e2,s2⟩:=k2.1 t' ht
      have g1:=k1.2 u2 _ e2 rfl ho
      obtain ⟨u1,e1,s1⟩:=k1.1 u2 e2
      cases e1
      have g2:=k2.2 t' u2 ht e2 (ho.suf s1)
      refine ⟨fun y hy => ?_,?_⟩
      · rcases List.mem_cons.1 hy with rfl | hy
        · exact g1.1
        · exact g2.1 y hy
      · have:=g1.2
        have:=g2.2
        simp only [cntS]
        omega
structure GoodP (p : Pg) (n : Nat) : Prop where
 th : ∀ l ∈ p.ths,(∀ s ∈ l,GoodX s) ∧ cntS l ≤ n
 fn : ∀ f ∈ p.fs,(∀ s ∈ f.bd,GoodX s) ∧ cntS f.bd ≤ n ∧ GoodE f.ret ∧ f.nm.length ≤ 100000
theorem if_sb {α : Type} {s : α × RS} {z : α} {r m : RS} {c : Bool} (h1 : Sb s.2 m) (h2 : Sb r m) : Sb (if c then s else (z,r)).2 m:=by
 cases c with
 | true => exact h1
 | false => exact h2
theorem lenF_sb (s : RS) : Sb (lenF s).2 s:=by
 cases s with
 | bad c a => exact .refl _
 | ok tt =>
  cases tt with
  | nil => exact .refl _
  | cons w ts =>
   have e : lenF (.ok (w :: ts)) = if w.k ≠ 1 then (0,.bad 11 w.a) else if w.n < 1 ∨ 64 < w.n then (0,.bad 2 w.a) else (w.n,.ok ts):=rfl
   rw [e]
   by_cases h1 : w.k ≠ 1
   · rw [if_pos h1]
     exact .bad _ _ _
   · rw [if_neg h1]
     by_cases h2 : w.n < 1 ∨ 64 < w.n
     · rw [if_pos h2]
       exact .bad _ _ _
     · rw [if_neg h2]
       exact adv_sb (.ok (w :: ts))
theorem lim_sb (n m : Nat) (s : RS) : Sb (limF n m s) s:=by
 unfold limF
 split
 · exact fail_sb _ _
 · exact .refl _
theorem pars_sb : ∀ (n k : Nat) (s : RS),Sb (parsF n k s).2 s
 | 0,k,s => .refl _
 | n + 1,k,s => by
  unfold parsF
  cases hg : s.good with
  | false => simp;exact .refl _
  | true =>
   simp only [if_true]
   have k2:=(name_sb (kindF (limF k 6 s)).2).1.trans ((kind_sb (limF k 6 s)).trans (lim_sb k 6 s))
   cases b : (nameF (kindF (limF k 6 s)).2).2.is [44] with
   | false => simp;exact k2
   | true =>
    simp only [if_true]
    exact (pars_sb n (k + 1) _).trans ((adv_sb _).trans k2)
theorem params_sb (s : RS) : Sb (paramsF s).2 s:=by
 have e : paramsF s = if (s.need [40]).is [41] then ([],(s.need [40]).adv) else ((parsF 8 0 (s.need [40])).1,(parsF 8 0 (s.need [40])).2.need [41]):=rfl
 rw [e]
 cases b : (s.need [40]).is [41] with
 | true => exact (adv_sb _).trans (need_sb _ _)
 | false => exact (need_sb _ _).trans ((pars_sb 8 0 _).trans (need_sb _ _))
theorem glob_sb (n : Nat) {s m : RS} (hk : Sb (eithF kPublic kSecret (limF n 32 s)).2 m) : Sb (globF n s).2 m:=by
 have k1 : Sb (kindF (limF n 32 s)).2 m:=(eith_sb kInt kBool _).trans hk
 have k2:=(name_sb (kindF (limF n 32 s)).2).1.trans k1
 have k3:=if_sb (c:=(nameF (kindF (limF n 32 s)).2).2.is [91]) (z:=(0 : Int)) (s:=(let q:=lenF (nameF (kindF (limF n 32 s)).2).2.adv;(q.1,q.2.need [93]))) ((need_sb [93] _).trans ((lenF_sb _).trans ((adv_sb _).trans k2))) k2
 obtain ⟨l,hl⟩ : ∃ l,(if (nameF (kindF (limF n 32 s)).2).2.is [91] then (let q:=lenF (nameF (kindF (limF n 32 s)).2).2.adv;(q.1,q.2.need [93])) else ((0 : Int),(nameF (kindF (limF n 32 s)).2).2)) = l:=⟨_,rfl⟩
 rw [hl] at k3
 have k4:=if_sb (c:=l.2.is kBy) (z:=([] : List UInt8)) (s:=(let q:=nameF l.2.adv;(q.1.1,q.2))) ((name_sb l.2.adv).1.trans ((adv_sb _).trans k3)) k3
 have k5:=(need_sb [59] _).trans k4
 have e : (globF n s).2 = RS.need [59] (if l.2.is kBy then (let q:=nameF l.2.adv;(q.1.1,q.2)) else ([],l.2)).2:=by
  rw [← hl]
  rfl
 rw [e]
 exact k5
theorem func_good (n : Nat) {x : Wd} {tt : List Wd} (hft : (RS.ok tt).fin) (hn : 3 * tt.length + 2 ≤ n) (ho : OkW tt) {t' : List Wd} (ht : (funcF n (.ok (x :: tt))).2 = .ok t') : t' <:+ tt ∧ (∀ s ∈ (funcF n (.ok (x :: tt))).1.bd,GoodX s) ∧ cntS (funcF n (.ok (x :: tt))).1.bd ≤ 16385 ∧ GoodE (funcF n (.ok (x :: tt))).1.ret ∧ (funcF n (.ok (x :: tt))).1.nm.length ≤ 100000:=by
 obtain ⟨⟨⟨nm,a⟩,τ1⟩,h1⟩ : ∃ q,nameF (.ok tt) = q:=⟨_,rfl⟩
 obtain ⟨⟨lp,τ2⟩,h2⟩ : ∃ q,paramsF τ1 = q:=⟨_,rfl⟩
 obtain ⟨⟨⟨tr,sc⟩,τ3⟩,h3⟩ : ∃ q,kindF τ2 = q:=⟨_,rfl⟩
 obtain ⟨τ4,h4⟩ : ∃ q,τ3.need [123] = q:=⟨_,rfl⟩
 obtain ⟨⟨lb,τ5⟩,h5⟩ : ∃ q,stmtsF n 1 kReturn τ4 = q:=⟨_,rfl⟩
 obtain ⟨τ6,h6⟩ : ∃ q,τ5.need kReturn = q:=⟨_,rfl⟩
 obtain ⟨⟨ex,τ7⟩,h7⟩ : ∃ q,exF τ6 = q:=⟨_,rfl⟩
 obtain ⟨τ8,h8⟩ : ∃ q,τ7.need [59] = q:=⟨_,rfl⟩
 obtain ⟨τ9,h9⟩ : ∃ q,τ8.need [125] = q:=⟨_,rfl⟩
 have eF : funcF n (.ok (x :: tt)) = (⟨a,nm,lp,tr,sc,lb,ex⟩,τ9):=by simp only [funcF,RS.adv,h1,h2,h3,h4,h5,h6,h7,h8,h9]
 rw [eF] at ht ⊢
 have k1:=name_sb (.ok tt)
 have k2:=params_sb τ1
 have k3:=kind_sb τ2
 have k4:=need_sb [123] τ3
 have l1 : Le τ1 (.ok tt):=by (have:=name_le hft;rwa [h1] at this)
 have l2 : Le τ2 (.ok tt):=by (have:=params_le l1.2;rw [h2] at this;exact this.trans l1)
 have l3 : Le τ3 (.ok tt):=by (have:=kind_le l2.2;rw [h3] at this;exact this.trans l2)
 have l4 : Le τ4 (.ok tt):=by (have:=need_le l3.2 [123];rw [h4] at this;exact this.trans l3)
 have k5:=(rd_all n).2.2 1 kReturn τ4 l4.2 (by (have h44 : τ4.len ≤ tt.length:=l4.1;omega))
 have k6:=need_sb kReturn τ5
 have k7:=ex_sb τ6
 have k8:=need_sb [59] τ7
 have k9:=need_sb [125] τ8
 rw [h1] at k1
 rw [h2] at k2
 rw [h3] at k3
 rw [h4] at k4
 rw [h5] at k5
 rw [h6] at k6
 rw [h7] at k7
 rw [h8] at k8
 rw [h9] at k9
 obtain ⟨u8,e8,s8⟩:=k9 t' ht
 obtain ⟨u7,e7,s7⟩:=k8 u8 e8
 obtain ⟨u6,e6,s6⟩:=k7.1 u7 e7
 obtain ⟨u5,e5,s5⟩:=k6 u6 e6
 obtain ⟨u4,e4,s4⟩:=k5.1 u5 e5
 obtain ⟨u3,e3,s3⟩:=k4 u4 e4
 obtain ⟨u2,e2,s2⟩:=k3 u3 e3
 obtain ⟨u1,e1,s1⟩:=k2 u2 e2
 obtain ⟨u0,e0,s0⟩:=k1.1 u1 e1
 cases e0
 have a4 : u4 <:+ tt:=s3.trans (s2.trans (s1.trans s0))
 have g5:=k5.2 u5 u4 e5 e4 (ho.suf a4)
 have g7:=k7.2 u6 e6 (ho.suf (s5.trans (s4.trans a4)))
 have hnm:=k1.2 u1 e1 tt rfl ho
 have hl:=a4.length_le
 have hw:=ho.2.2
 have h5c:=g5.2
 refine ⟨s8.trans (s7.trans (s6.trans (s5.trans (s4.trans a4)))),g5.1,?_,g7,?_⟩
 · show cntS lb ≤ 16385
   have h5d : cntS lb + u5.length ≤ u4.length:=h5c
   omega
 · show nm.length ≤ 100000
   have : nm.length ≤ 24:=hnm
   omega
theorem thing_good {n : Nat} {p : Pg} {x : Wd} {tt : List Wd} (hf : (RS.ok (x :: tt)).fin) (hx : x.k ≠ 3) (hn : 3 * tt.length + 2 ≤ n) (ho : OkW (x :: tt)) (hG : GoodP p 16385) {t' : List Wd} (ht : (thingF n p (.ok (x :: tt))).2 = .ok t') : GoodP (thingF n p (.ok (x :: tt))).1 16385 ∧ t' <:+ tt:=by
 have hft : (RS.ok tt).fin:=(adv_le hf hx).1.2
 have hot : OkW tt:=ho.suf (List.suffix_cons _ _)
 have sub : ∀ s : RS,Sb s (.ok tt) → s = .ok t' → t' <:+ tt:=fun s hs e => by
  obtain ⟨u,hu,h2⟩:=hs t' e
  cases hu
  exact h2
 cases b1 : (RS.ok (x :: tt)).is kLock with
 | true =>
  rcases limF_cases p.ls.length 8 x tt with e | e
  · have eT : thingF n p (.ok (x :: tt)) = ({ p with ls:=p.ls ++ [⟨(nameF (.ok tt)).1.2,(nameF (.ok tt)).1.1⟩] },(nameF (.ok tt)).2.need [59]):=by simp [thingF,b1,e,RS.good,RS.adv]
    rw [eT] at ht ⊢
    exact ⟨⟨hG.th,hG.fn⟩,sub _ ((need_sb _ _).trans (name_sb _).1) ht⟩
  · have eT : thingF n p (.ok (x :: tt)) = (p,.bad 2 x.a):=by simp [thingF,b1,e,RS.good]
    rw [eT] at ht
    cases ht
 | false =>
  cases b2 : (RS.ok (x :: tt)).is kFunc with
  | true =>
   rcases limF_cases p.fs.length 16 x tt with e | e
   · have eT : thingF n p (.ok (x :: tt)) = ({ p with fs:=p.fs ++ [(funcF n (.ok (x :: tt))).1] },(funcF n (.ok (x :: tt))).2):=by simp [thingF,b1,b2,e,RS.good]
     rw [eT] at ht ⊢
     have hg:=func_good n hft hn hot ht
     refine ⟨⟨hG.th,fun f hf => ?_⟩,hg.1⟩
     rcases List.mem_append.1 hf with hf | hf
     · exact hG.fn f hf
     · simp at hf
       subst hf
       exact hg.2
   · have eT : thingF n p (.ok (x :: tt)) = (p,.bad 2 x.a):=by simp [thingF,b1,b2,e,RS.good]
     rw [eT] at ht
     cases ht
  | false =>
   cases b3 : (RS.ok (x :: tt)).is kThread with
   | true =>
    rcases limF_cases p.ths.length 4 x tt with e | e
    · have eT : thingF n p (.ok (x :: tt)) = ({ p with ths:=p.ths ++ [(blockF n 0 (.ok tt)).1] },(blockF n 0 (.ok tt)).2):=by simp [thingF,b1,b2,b3,e,RS.good,RS.adv]
      rw [eT] at ht ⊢
      have kb:=(rd_all n).2.1 0 (.ok tt) hft hn
      have hg:=kb.2 t' tt ht rfl hot
      refine ⟨⟨fun l hl => ?_,hG.fn⟩,sub _ kb.1 ht⟩
      rcases List.mem_append.1 hl with hl | hl
      · exact hG.th l hl
      · simp at hl
        subst hl
        exact ⟨hg.1,by (have:=hg.2;have:=hot.2.2;omega)⟩
    · have eT : thingF n p (.ok (x :: tt)) = (p,.bad 2 x.a):=by simp [thingF,b1,b2,b3,e,RS.good]
      rw [eT] at ht
      cases ht
   | false =>
    cases b4 : ((RS.ok (x :: tt)).is kPublic || (RS.ok (x :: tt)).is kSecret) with
    | true =>
     have eT : thingF n p (.ok (x :: tt)) = ({ p with gs:=p.gs ++ [(globF p.gs.length (.ok (x :: tt))).1] },(globF p.gs.length (.ok (x :: tt))).2):=by simp [thingF,b1,b2,b3,b4]
     rw [eT] at ht ⊢
     refine ⟨⟨hG.th,hG.fn⟩,sub _ (glob_sb _ ?_) ht⟩
     rcases limF_cases p.gs.length 32 x tt with e | e
     · rw [e]
       unfold eithF
       cases b5 : (RS.ok (x :: tt)).is kSecret with
       | true => simp only [if_true];exact .refl _
       | false =>
        simp only [Bool.false_eq_true,if_false]
        rw [b5,Bool.or_false] at b4
        unfold RS.need
        rw [if_pos b4]
        exact .refl _
     · rw [e]
       exact .bad _ _ _
    | false =>
     have eT : thingF n p (.ok (x :: tt)) = (p,(RS.ok (x :: tt)).fail 11):=by simp [thingF,b1,b2,b3,b4]
     rw [eT] at ht
     cases ht
theorem whole_good (n : Nat) : ∀ (m : Nat) (p : Pg) (tt : List Wd),(RS.ok tt).fin → 3 * tt.length ≤ n + 1 → OkW tt → GoodP p 16385 → ∀ q t',wholeF n m p (.ok tt) = (q,.ok t') → GoodP q 16385
 | 0,p,tt,_,_,_,hG,q,t',h => by
  have : wholeF n 0 p (.ok tt) = (p,.ok tt):=rfl
  rw [this] at h
  cases h
  exact hG
 | m + 1,p,tt,hf,hn,ho,hG,q,t',h => by
  obtain ⟨x,r,rfl⟩:=(hf tt rfl).ne
  by_cases hx : x.k = 3
  · have e : wholeF n (m + 1) p (.ok (x :: r)) = (p,.ok (x :: r)):=by simp [wholeF,RS.hd,hx]
    rw [e] at h
    cases h
    exact hG
  · have e : wholeF n (m + 1) p (.ok (x :: r)) = wholeF n m (thingF n p (.ok (x :: r))).1 (thingF n p (.ok (x :: r))).2:=by simp [wholeF,RS.hd,RS.good,hx]
    rw [e] at h
    have hlen : 3 * r.length + 2 ≤ n:=by (simp only [List.length_cons] at hn;omega)
    have hle:=thing_le n p hf hx
    cases hq : (thingF n p (.ok (x :: r))).2 with
    | ok t2 =>
     have hg:=thing_good hf hx hlen ho hG hq
     rw [hq] at h hle
     have h2 : t2.length ≤ r.length:=hg.2.length_le
     exact whole_good n m _ t2 hle.2 (by omega) ((ho.suf (List.suffix_cons _ _)).suf hg.2) hg.1 q t' h
    | bad c a =>
     rw [hq] at h
     have e2 : wholeF n m (thingF n p (.ok (x :: r))).1 (.bad c a) = ((thingF n p (.ok (x :: r))).1,.bad c a):=by
      cases m with
      | zero => rfl
      | succ m => simp [wholeF,RS.good]
     rw [e2] at h
     cases h
theorem par_good {s : ByteArray} {ws t : List Wd} {p : Pg} (hS : Sc numO s.data.toList 0 ws none) (hs : s.size ≤ 16384) (hp : parF ws = (p,.ok t)) : GoodP p 16385:=by
 have hl : s.data.toList.length ≤ 16384:=by simpa using hs
 have h1:=hS.lens_le
 have h2:=hS.few rfl
 have hw:=hS.wd_ok fun t v h => numO_inv h
 refine whole_good (3 * ws.length + 2) (ws.length + 1) ⟨[],[],[],[]⟩ ws (fun _ e => by cases e;exact hS.fin rfl) (by omega) ⟨hw,by omega,by omega⟩ ?_ p t hp
 exact ⟨by simp,by simp⟩
end Go.Proofs.Ytbmmjomcjlpnlaa.GX
namespace Go.Proofs.Ytbmmjomcjlpnlaa
open Go Go.RowKit
structure NiceP (p : Pg) : Prop where
 nl : p.ls.length ≤ 8
 ng : p.gs.length ≤ 32
 nf : p.fs.length ≤ 16
 nt : p.ths.length ≤ 4
 ls : ∀ l ∈ p.ls,NameB l.nm
 gs : ∀ g ∈ p.gs,NameB g.nm ∧ (g.len = 0 ∨ 1 ≤ g.len ∧ g.len ≤ 64) ∧ NmOk g.by_
 fs : ∀ f ∈ p.fs,NameB f.nm ∧ f.ps.length ≤ 6 ∧ ∀ q ∈ f.ps,NameB q.nm
theorem name_nb {s : RS} (hf : s.fin) {tt : List Wd} (hh : (nameF s).2 = .ok tt) {ss : List Wd} (hs : s = .ok ss) (ho : OkW ss) : NameB (nameF s).1.1:=by
 subst hs
 obtain ⟨w,r,rfl⟩:=(hf ss rfl).ne
 rw [nameF_cons] at hh ⊢
 by_cases h : w.k ≠ 0 ∨ keyB w.t = true
 · rw [if_pos h] at hh
   cases hh
 · rw [if_neg h]
   have hk : w.k = 0:=by (cases Classical.em (w.k = 0) with | inl e => exact e | inr e => exact absurd (.inl e) h)
   have hy : keyB w.t = false:=by (cases e : keyB w.t with | false => rfl | true => exact absurd (.inr e) h)
   exact (ho.1 w (.head _)).1 hk hy
theorem lim_lt {n m : Nat} {s : RS} {u : List Wd} (hf : s.fin) (h : limF n m s = .ok u) : n < m ∧ s = .ok u:=by
 unfold limF at h
 split at h
 · cases s with
   | bad c a => cases h
   | ok ss =>
    obtain ⟨w,r,rfl⟩:=(hf ss rfl).ne
    cases h
 · exact ⟨by omega,h⟩
theorem pars_nice : ∀ (n k : Nat) (s : RS),k ≤ 6 → s.fin → ∀ (ss : List Wd),s = .ok ss → OkW ss → ∀ tt,(parsF n k s).2 = .ok tt → (∀ q ∈ (parsF n k s).1,NameB q.nm) ∧ k + (parsF n k s).1.length ≤ 6
 | 0,k,s,hk,_,_,_,_,_,_ => ⟨by simp [parsF],by simpa [parsF] using hk⟩
 | n + 1,k,s,hk,hf,ss,hs,ho,tt,ht => by
  subst hs
  have hg : (RS.ok ss).good = true:=rfl
  have l1:=lim_le hf k 6
  have l2:=kind_le l1.2
  have l3:=name_le l2.2
  unfold parsF at ht ⊢
  simp only [hg,if_true] at ht ⊢
  cases b : (nameF (kindF (limF k 6 (.ok ss))).2).2.is [44] with
  | false =>
   simp only [b,Bool.false_eq_true,if_false] at ht ⊢
   obtain ⟨u1,e1,s1⟩:=(name_sb _).1 tt ht
   obtain ⟨u0,e0,s0⟩:=kind_sb _ u1 e1
   obtain ⟨hlt,es⟩:=lim_lt hf e0
   cases es
   have hn:=name_nb l2.2 ht e1 (ho.suf s0)
   refine ⟨fun q hq => ?_,?_⟩
   · simp only [List.mem_singleton] at hq
     subst hq
     exact hn
   · simp only [List.length_cons,List.length_nil]
     omega
  | true =>
   simp only [b,if_true] at ht ⊢
   have l4:=(is_adv b l3.2).1
   have k5:=pars_sb n (k + 1) (nameF (kindF (limF k 6 (.ok ss))).2).2.adv
   obtain ⟨u4,e4,s4⟩:=k5 tt ht
   obtain ⟨u3,e3,s3⟩:=adv_sb _ u4 e4
   obtain ⟨u1,e1,s1⟩:=(name_sb _).1 u3 e3
   obtain ⟨u0,e0,s0⟩:=kind_sb _ u1 e1
   obtain ⟨hlt,es⟩:=lim_lt hf e0
   cases es
   have hn:=name_nb l2.2 e3 e1 (ho.suf s0)
   obtain ⟨i1,i2⟩:=pars_nice n (k + 1) _ (by omega) l4.2 u4 e4 (ho.suf (s3.trans (s1.trans s0))) tt ht
   refine ⟨fun q hq => ?_,?_⟩
   · rcases List.mem_cons.1 hq with rfl | hq
     · exact hn
     · exact i1 q hq
   · simp only [List.length_cons]
     omega
theorem params_nice {s : RS} (hf : s.fin) {ss : List Wd} (hs : s = .ok ss) (ho : OkW ss) {tt : List Wd} (ht : (paramsF s).2 = .ok tt) : (∀ q ∈ (paramsF s).1,NameB q.nm) ∧ (paramsF s).1.length ≤ 6:=by
 have e : paramsF s = if (s.need [40]).is [41] then ([],(s.need [40]).adv) else ((parsF 8 0 (s.need [40])).1,(parsF 8 0 (s.need [40])).2.need [41]):=rfl
 rw [e] at ht ⊢
 have l1:=need_le hf [40]
 cases b : (s.need [40]).is [41] with
 | true => simp
 | false =>
  simp only [b,Bool.false_eq_true,if_false] at ht ⊢
  obtain ⟨u2,e2,s2⟩:=need_sb [41] _ tt ht
  obtain ⟨u1,e1,s1⟩:=pars_sb 8 0 _ u2 e2
  obtain ⟨u0,e0,s0⟩:=need_sb [40] _ u1 e1
  rw [hs] at e0
  cases e0
  have h:=pars_nice 8 0 _ (by omega) l1.2 u1 e1 (ho.suf s0) u2 e2
  exact ⟨h.1,by simpa using h.2⟩
theorem lenF_nice {s : RS} (hf : s.fin) {tt : List Wd} (ht : (lenF s).2 = .ok tt) : 1 ≤ (lenF s).1 ∧ (lenF s).1 ≤ 64:=by
 cases s with
 | bad c a => cases ht
 | ok ss =>
  obtain ⟨w,r,rfl⟩:=(hf ss rfl).ne
  have e : lenF (.ok (w :: r)) = if w.k ≠ 1 then (0,.bad 11 w.a) else if w.n < 1 ∨ 64 < w.n then (0,.bad 2 w.a) else (w.n,.ok r):=rfl
  rw [e] at ht ⊢
  by_cases h1 : w.k ≠ 1
  · rw [if_pos h1] at ht
    cases ht
  · rw [if_neg h1] at ht ⊢
    by_cases h2 : w.n < 1 ∨ 64 < w.n
    · rw [if_pos h2] at ht
      cases ht
    · rw [if_neg h2]
      show 1 ≤ w.n ∧ w.n ≤ 64
      omega
theorem glob_nice {n : Nat} {s : RS} (hf : s.fin) {ss : List Wd} (hs : s = .ok ss) (ho : OkW ss) {tt : List Wd} (ht : (globF n s).2 = .ok tt) : n < 32 ∧ NameB (globF n s).1.nm ∧ ((globF n s).1.len = 0 ∨ 1 ≤ (globF n s).1.len ∧ (globF n s).1.len ≤ 64) ∧ NmOk (globF n s).1.by_:=by
 obtain ⟨τ0,h0⟩ : ∃ q,limF n 32 s = q:=⟨_,rfl⟩
 obtain ⟨⟨⟨tr,sc⟩,τ1⟩,h1⟩ : ∃ q,kindF τ0 = q:=⟨_,rfl⟩
 obtain ⟨⟨⟨nm,a⟩,τ2⟩,h2⟩ : ∃ q,nameF τ1 = q:=⟨_,rfl⟩
 obtain ⟨⟨l,τ3⟩,h3⟩ : ∃ q,(if τ2.is [91] then (let q:=lenF τ2.adv;(q.1,q.2.need [93])) else ((0 : Int),τ2)) = q:=⟨_,rfl⟩
 obtain ⟨⟨y,τ4⟩,h4⟩ : ∃ q,(if τ3.is kBy then (let q:=nameF τ3.adv;(q.1.1,q.2)) else (([] : List UInt8),τ3)) = q:=⟨_,rfl⟩
 have eG : globF n s = (⟨a,nm,tr,sc,l,y⟩,τ4.need [59]):=by
  simp only [globF,h0,h1,h2]
  rw [h3]
  simp only [h4]
 rw [eG] at ht ⊢
 have l0 : Le τ0 s:=by (have:=lim_le hf n 32;rwa [h0] at this)
 have l1 : Le τ1 τ0:=by (have:=kind_le l0.2;rwa [h1] at this)
 have l2 : Le τ2 τ1:=by (have:=name_le l1.2;rwa [h2] at this)
 obtain ⟨u4,e4,s4⟩:=need_sb [59] _ tt ht
 have k0 : Sb τ0 s:=by (have:=lim_sb n 32 s;rwa [h0] at this)
 have k1 : Sb τ1 τ0:=by (have:=kind_sb τ0;rwa [h1] at this)
 have k2 : Sb τ2 τ1:=by (have:=(name_sb τ1).1;rwa [h2] at this)
 have q3 : Sb τ3 τ2 ∧ τ3.fin ∧ ((∃ u,τ3 = .ok u) → l = 0 ∨ 1 ≤ l ∧ l ≤ 64):=by
  cases b : τ2.is [91] with
  | false =>
   rw [b] at h3
   cases h3
   exact ⟨.refl _,l2.2,fun _ => .inl rfl⟩
  | true =>
   rw [b] at h3
   cases h3
   have m1:=(is_adv b l2.2).1
   have m2 : Sb (lenF τ2.adv).2 τ2.adv:=lenF_sb _
   have m3 : (lenF τ2.adv).2.fin:=by
    cases ha : τ2.adv with
    | bad c a => exact bad_fin _ _
    | ok q =>
     obtain ⟨w,r,rfl⟩:=(m1.2 q ha).ne
     have e : lenF (.ok (w :: r)) = if w.k ≠ 1 then (0,.bad 11 w.a) else if w.n < 1 ∨ 64 < w.n then (0,.bad 2 w.a) else (w.n,.ok r):=rfl
     rw [e]
     by_cases p1 : w.k ≠ 1
     · rw [if_pos p1]
       exact bad_fin _ _
     · rw [if_neg p1]
       by_cases p2 : w.n < 1 ∨ 64 < w.n
       · rw [if_pos p2]
         exact bad_fin _ _
       · rw [if_neg p2]
         have hf2 : (RS.ok (w :: r)).fin:=fun t e => by cases e;exact m1.2 _ ha
         exact (adv_le hf2 (by omega)).1.2
   refine ⟨(need_sb _ _).trans (m2.trans (adv_sb _)),(need_le m3 [93]).2,fun ⟨u,hu⟩ => .inr ?_⟩
   obtain ⟨v,hv,_⟩:=need_sb [93] _ u hu
   exact lenF_nice m1.2 hv
 have q4 : Sb τ4 τ3 ∧ ∀ u v,τ4 = .ok u → τ3 = .ok v → OkW v → NmOk y:=by
  cases b : τ3.is kBy with
  | false =>
   rw [b] at h4
   cases h4
   exact ⟨.refl _,fun _ _ _ _ _ => .inl rfl⟩
  | true =>
   rw [b] at h4
   cases h4
   refine ⟨(name_sb _).1.trans (adv_sb _),fun u v hu hv hov => ?_⟩
   obtain ⟨w,hw,_⟩:=(name_sb τ3.adv).1 u hu
   obtain ⟨x,hx,sx⟩:=adv_sb τ3 w hw
   rw [hv] at hx
   cases hx
   exact name_nm _ u hu w hw (hov.suf sx)
 obtain ⟨u3,e3,s3⟩:=q4.1 u4 e4
 obtain ⟨u2,e2,s2⟩:=q3.1 u3 e3
 obtain ⟨u1,e1,s1⟩:=k2 u2 e2
 obtain ⟨u0,e0,s0⟩:=k1 u1 e1
 obtain ⟨hlt,es⟩:=lim_lt hf (h0.trans e0)
 rw [hs] at es
 cases es
 have hn:=name_nb l1.2 (by rw [h2];exact e2) e1 (ho.suf s0)
 rw [h2] at hn
 exact ⟨hlt,hn,q3.2.2 ⟨u3,e3⟩,q4.2 u4 u3 e4 e3 (ho.suf (s2.trans (s1.trans s0)))⟩
theorem func_nice (n : Nat) {x : Wd} {tt : List Wd} (hft : (RS.ok tt).fin) (hn : 3 * tt.length + 2 ≤ n) (ho : OkW tt) {t' : List Wd} (ht : (funcF n (.ok (x :: tt))).2 = .ok t') : NameB (funcF n (.ok (x :: tt))).1.nm ∧ (funcF n (.ok (x :: tt))).1.ps.length ≤ 6 ∧ ∀ q ∈ (funcF n (.ok (x :: tt))).1.ps,NameB q.nm:=by
 obtain ⟨⟨⟨nm,a⟩,τ1⟩,h1⟩ : ∃ q,nameF (.ok tt) = q:=⟨_,rfl⟩
 obtain ⟨⟨lp,τ2⟩,h2⟩ : ∃ q,paramsF τ1 = q:=⟨_,rfl⟩
 obtain ⟨⟨⟨tr,sc⟩,τ3⟩,h3⟩ : ∃ q,kindF τ2 = q:=⟨_,rfl⟩
 obtain ⟨τ4,h4⟩ : ∃ q,τ3.need [123] = q:=⟨_,rfl⟩
 obtain ⟨⟨lb,τ5⟩,h5⟩ : ∃ q,stmtsF n 1 kReturn τ4 = q:=⟨_,rfl⟩
 obtain ⟨τ6,h6⟩ : ∃ q,τ5.need kReturn = q:=⟨_,rfl⟩
 obtain ⟨⟨ex,τ7⟩,h7⟩ : ∃ q,exF τ6 = q:=⟨_,rfl⟩
 obtain ⟨τ8,h8⟩ : ∃ q,τ7.need [59] = q:=⟨_,rfl⟩
 obtain ⟨τ9,h9⟩ : ∃ q,τ8.need [125] = q:=⟨_,rfl⟩
 have eF : funcF n (.ok (x :: tt)) = (⟨a,nm,lp,tr,sc,lb,ex⟩,τ9):=by simp only [funcF,RS.adv,h1,h2,h3,h4,h5,h6,h7,h8,h9]
 rw [eF] at ht ⊢
 have k1:=(name_sb (.ok tt)).1
 have k2:=params_sb τ1
 have k3:=kind_sb τ2
 have k4:=need_sb [123] τ3
 have l1 : Le τ1 (.ok tt):=by (have:=name_le hft;rwa [h1] at this)
 have l2 : Le τ2 (.ok tt):=by (have:=params_le l1.2;rw [h2] at this;exact this.trans l1)
 have l3 : Le τ3 (.ok tt):=by (have:=kind_le l2.2;rw [h3] at this;exact this.trans l2)
 have l4 : Le τ4 (.ok tt):=by (have:=need_le l3.2 [123];rw [h4] at this;exact this.trans l3)
 have k5:=((rd_all n).2.2 1 kReturn τ4 l4.2 (by (have h44 : τ4.len ≤ tt.length:=l4.1;omega))).1
 have k6:=need_sb kReturn τ5
 have k7:=(ex_sb τ6).1
 have k8:=need_sb [59] τ7
 have k9:=need_sb [125] τ8
 rw [h1] at k1
 rw [h2] at k2
 rw [h3] at k3
 rw [h4] at k4
 rw [h5] at k5
 rw [h6] at k6
 rw [h7] at k7
 rw [h8] at k8
 rw [h9] at k9
 obtain ⟨u8,e8,s8⟩:=k9 t' ht
 obtain ⟨u7,e7,s7⟩:=k8 u8 e8
 obtain ⟨u6,e6,s6⟩:=k7 u7 e7
 obtain ⟨u5,e5,s5⟩:=k6 u6 e6
 obtain ⟨u4,e4,s4⟩:=k5 u5 e5
 obtain ⟨u3,e3,s3⟩:=k4 u4 e4
 obtain ⟨u2,e2,s2⟩:=k3 u3 e3
 obtain ⟨u1,e1,s1⟩:=k2 u2 e2
 obtain ⟨u0,e0,s0⟩:=k1 u1 e1
 cases e0
 have g1:=name_nb hft (by rw [h1];exact e1) rfl ho
 have g2:=params_nice l1.2 e1 (ho.suf s0) (by rw [h2];exact e2)
 rw [h1] at g1
 rw [h2] at g2
 exact ⟨g1,g2.2,g2.1⟩
theorem thing_nice {n : Nat} {p : Pg} {x : Wd} {tt : List Wd} (hf : (RS.ok (x :: tt)).fin) (hx : x.k ≠ 3) (hn : 3 * tt.length + 2 ≤ n) (ho : OkW (x :: tt)) (hG : NiceP p) {t' : List Wd} (ht : (thingF n p (.ok (x :: tt))).2 = .ok t') : NiceP (thingF n p (.ok (x :: tt))).1:=by
 have hft : (RS.ok tt).fin:=(adv_le hf hx).1.2
 have hot : OkW tt:=ho.suf (List.suffix_cons _ _)
 obtain ⟨q1,q2,q3,q4,q5,q6,q7⟩:=hG
 cases b1 : (RS.ok (x :: tt)).is kLock with
 | true =>
  rcases limF_cases p.ls.length 8 x tt with e | e
  · have eT : thingF n p (.ok (x :: tt)) = ({ p with ls:=p.ls ++ [⟨(nameF (.ok tt)).1.2,(nameF (.ok tt)).1.1⟩] },(nameF (.ok tt)).2.need [59]):=by simp [thingF,b1,e,RS.good,RS.adv]
    rw [eT] at ht ⊢
    have hl:=(lim_lt hf e).1
    obtain ⟨u1,e1,s1⟩:=need_sb [59] _ t' ht
    have hnm:=name_nb hft e1 rfl hot
    refine ⟨by (simp only [List.length_append,List.length_cons,List.length_nil];omega),q2,q3,q4,fun l hl => ?_,q6,q7⟩
    rcases List.mem_append.1 hl with hl | hl
    · exact q5 l hl
    · simp only [List.mem_singleton] at hl
      subst hl
      exact hnm
  · have eT : thingF n p (.ok (x :: tt)) = (p,.bad 2 x.a):=by simp [thingF,b1,e,RS.good]
    rw [eT] at ht
    cases ht
 | false =>
  cases b2 : (RS.ok (x :: tt)).is kFunc with
  | true =>
   rcases limF_cases p.fs.length 16 x tt with e | e
   · have eT : thingF n p (.ok (x :: tt)) = ({ p with fs:=p.fs ++ [(funcF n (.ok (x :: tt))).1] },(funcF n (.ok (x :: tt))).2):=by simp [thingF,b1,b2,e,RS.good]
     rw [eT] at ht ⊢
     have hl:=(lim_lt hf e).1
     have hg:=func_nice n hft hn hot ht
     refine ⟨q1,q2,by (simp only [List.length_append,List.length_cons,List.length_nil];omega),q4,q5,q6,fun f hf => ?_⟩
     rcases List.mem_append.1 hf with hf | hf
     · exact q7 f hf
     · simp only [List.mem_singleton] at hf
       subst hf
       exact hg
   · have eT : thingF n p (.ok (x :: tt)) = (p,.bad 2 x.a):=by simp [thingF,b1,b2,e,RS.good]
     rw [eT] at ht
     cases ht
  | false =>
   cases b3 : (RS.ok (x :: tt)).is kThread with
   | true =>
    rcases limF_cases p.ths.length 4 x tt with e | e
    · have eT : thingF n p (.ok (x :: tt)) = ({ p with ths:=p.ths ++ [(blockF n 0 (.ok tt)).1] },(blockF n 0 (.ok tt)).2):=by simp [thingF,b1,b2,b3,e,RS.good,RS.adv]
      rw [eT] at ht ⊢
      have hl:=(lim_lt hf e).1
      exact ⟨q1,q2,q3,by (simp only [List.length_append,List.length_cons,List.length_nil];omega),q5,q6,q7⟩
    · have eT : thingF n p (.ok (x :: tt)) = (p,.bad 2 x.a):=by simp [thingF,b1,b2,b3,e,RS.good]
      rw [eT] at ht
      cases ht
   | false =>
    cases b4 : ((RS.ok (x :: tt)).is kPublic || (RS.ok (x :: tt)).is kSecret) with
    | true =>
     have eT : thingF n p (.ok (x :: tt)) = ({ p with gs:=p.gs ++ [(globF p.gs.length (.ok (x :: tt))).1] },(globF p.gs.length (.ok (x :: tt))).2):=by simp [thingF,b1,b2,b3,b4]
     rw [eT] at ht ⊢
     obtain ⟨hl,hg⟩:=glob_nice hf rfl ho ht
     refine ⟨q1,by (simp only [List.length_append,List.length_cons,List.length_nil];omega),q3,q4,q5,fun g hg2 => ?_,q7⟩
     rcases List.mem_append.1 hg2 with hg2 | hg2
     · exact q6 g hg2
     · simp only [List.mem_singleton] at hg2
       subst hg2
       exact hg
    | false =>
     have eT : thingF n p (.ok (x :: tt)) = (p,(RS.ok (x :: tt)).fail 11):=by simp [thingF,b1,b2,b3,b4]
     rw [eT] at ht
     cases ht
theorem whole_nice (n : Nat) : ∀ (m : Nat) (p : Pg) (tt : List Wd),(RS.ok tt).fin → 3 * tt.length ≤ n + 1 → OkW tt → GoodP p 16385 → NiceP p → ∀ q t',wholeF n m p (.ok tt) = (q,.ok t') → NiceP q
 | 0,p,tt,_,_,_,_,hN,q,t',h => by
  have : wholeF n 0 p (.ok tt) = (p,.ok tt):=rfl
  rw [this] at h
  cases h
  exact hN
 | m + 1,p,tt,hf,hn,ho,hG,hN,q,t',h => by
  obtain ⟨x,r,rfl⟩:=(hf tt rfl).ne
  by_cases hx : x.k = 3
  · have e : wholeF n (m + 1) p (.ok (x :: r)) = (p,.ok (x :: r)):=by simp [wholeF,RS.hd,hx]
    rw [e] at h
    cases h
    exact hN
  · have e : wholeF n (m + 1) p (.ok (x :: r)) = wholeF n m (thingF n p (.ok (x :: r))).1 (thingF n p (.ok (x :: r))).2:=by simp [wholeF,RS.hd,RS.good,hx]
    rw [e] at h
    have hlen : 3 * r.length + 2 ≤ n:=by (simp only [List.length_cons] at hn;omega)
    have hle:=thing_le n p hf hx
    cases hq : (thingF n p (.ok (x :: r))).2 with
    | ok t2 =>
     have hg:=thing_good hf hx hlen ho hG hq
     have hi:=thing_nice hf hx hlen ho hN hq
     rw [hq] at h hle
     have h2 : t2.length ≤ r.length:=hg.2.length_le
     exact whole_nice n m _ t2 hle.2 (by omega) ((ho.suf (List.suffix_cons _ _)).suf hg.2) hg.1 hi q t' h
    | bad c a =>
     rw [hq] at h
     have e2 : wholeF n m (thingF n p (.ok (x :: r))).1 (.bad c a) = ((thingF n p (.ok (x :: r))).1,.bad c a):=by
      cases m with
      | zero => rfl
      | succ m => simp [wholeF,RS.good]
     rw [e2] at h
     cases h
theorem par_nice {s : ByteArray} {ws t : List Wd} {p : Pg} (hS : Sc numO s.data.toList 0 ws none) (hs : s.size ≤ 16384) (hp : parF ws = (p,.ok t)) : NiceP p:=by
 have hl : s.data.toList.length ≤ 16384:=by simpa using hs
 have h1:=hS.lens_le
 have h2:=hS.few rfl
 have hw:=hS.wd_ok fun t v h => numO_inv h
 refine whole_nice (3 * ws.length + 2) (ws.length + 1) ⟨[],[],[],[]⟩ ws (fun _ e => by cases e;exact hS.fin rfl) (by omega) ⟨hw,by omega,by omega⟩ ?_ ?_ p t hp
 · exact ⟨by simp,by simp⟩
 · exact ⟨by simp,by simp,by simp,by simp,by simp,by simp,by simp⟩
end Go.Proofs.Ytbmmjomcjlpnlaa
namespace Go.Proofs.Ytbmmjomcjlpnlaa
open Go Go.RowKit
def setsAt (X : World) (g o : Nat) : List Value → Nat → World
 | [],_ => X
 | v :: r,i => setsAt (X.setCell ⟨g,o + i,none⟩ v) g o r (i + 1)
theorem setsAt_other (g o b : Nat) (hb : b ≠ g) : ∀ (vs : List Value) (i : Nat) (X : World),(setsAt X g o vs i).heap[b]? = X.heap[b]?
 | [],_,_ => rfl
 | v :: r,i,X => (setsAt_other g o b hb r (i + 1) _).trans (heap_setCell_other X ⟨g,o + i,none⟩ b v hb)
theorem setsAt_size (g o : Nat) : ∀ (vs : List Value) (i : Nat) (X : World),(setsAt X g o vs i).heap.size = X.heap.size
 | [],_,_ => rfl
 | v :: r,i,X => (setsAt_size g o r (i + 1) _).trans (by simp)
theorem setsAt_else (g o : Nat) : ∀ (vs : List Value) (i : Nat) (X : World),(setsAt X g o vs i).os = X.os ∧ (setsAt X g o vs i).tape = X.tape ∧ (setsAt X g o vs i).output = X.output
 | [],_,_ => ⟨rfl,rfl,rfl⟩
 | v :: r,i,X => by
  obtain ⟨a,b,c⟩:=setsAt_else g o r (i + 1) (X.setCell ⟨g,o + i,none⟩ v)
  obtain ⟨e1,e2,e3⟩:=setCell_else X ⟨g,o + i,none⟩ v
  exact ⟨a.trans e1,b.trans e2,c.trans e3⟩
theorem setsAt_same (g o : Nat) (T : TypeId) : ∀ (vs : List Value) (i : Nat) (X : World) (cs : Array Value),X.heap[g]? = some (.cells cs T (0,0)) → o + i + vs.length ≤ cs.size →
 ∃ cs',(setsAt X g o vs i).heap[g]? = some (.cells cs' T (0,0)) ∧ cs'.size = cs.size ∧ (∀ j u,vs[j]? = some u → cs'[o + i + j]? = some u) ∧ ∀ q,(q < o + i ∨ o + i + vs.length ≤ q) → cs'[q]? = cs[q]?
 | [],i,X,cs,h,_ => ⟨cs,h,rfl,fun j u hu => by simp at hu,fun _ _ => rfl⟩
 | v :: r,i,X,cs,h,hl => by
  have hs:=heap_setCell_same X g (o + i) cs T v h
  simp only [List.length_cons] at hl
  obtain ⟨cs',h1,h2,h3,h4⟩:=setsAt_same g o T r (i + 1) _ _ hs (by simp;omega)
  refine ⟨cs',h1,by rw [h2];simp,fun j u hu => ?_,fun q hq => ?_⟩
  · cases j with
    | zero =>
     simp only [List.getElem?_cons_zero,Option.some.injEq] at hu
     subst hu
     rw [Nat.add_zero,h4 (o + i) (by omega)]
     have : o + i < cs.size:=by omega
     simp [Array.getElem?_setIfInBounds,this]
    | succ j =>
     simp only [List.getElem?_cons_succ] at hu
     have:=h3 j u hu
     rw [show o + i + (j + 1) = o + (i + 1) + j by omega]
     exact this
  · simp only [List.length_cons] at hq
    rw [h4 q (by omega),Array.getElem?_setIfInBounds,if_neg (by omega)]
def Filled (W : World) (g : Nat) (T : TypeId) (n K k : Nat) (F : Nat → List Value) : Prop :=
 ∃ cs,W.heap[g]? = some (.cells cs T (0,0)) ∧ cs.size = n * K ∧ ∀ i,i < k → ∀ j u,j < K → (F i)[j]? = some u → cs[i * K + j]? = some u
section
variable {W X : World} {g n K k : Nat} {T : TypeId} {F : Nat → List Value}
theorem Filled.zero (z : Array Value) (F : Nat → List Value) : Filled (W.alloc (.cells (madeCells z (n * K)) T)) W.heap.size T n K 0 F:=⟨_,heap_alloc_new W _,size_madeCells _ _,fun i h => absurd h (Nat.not_lt_zero i)⟩
theorem Filled.stay (h : Filled W g T n K k F) (hb : Below W.heap.size W X) : Filled X g T n K k F:=by
 obtain ⟨cs,h1,h2⟩:=h
 exact ⟨cs,(hb.block g (Array.getElem?_eq_some_iff.1 h1).1).trans h1,h2⟩
theorem Filled.lt (h : Filled W g T n K k F) : g < W.heap.size:=by
 obtain ⟨cs,h1,_⟩:=h
 exact (Array.getElem?_eq_some_iff.1 h1).1
theorem Filled.frozen (h : Filled W g T n K k F) (j : Nat) : W.frozen? ⟨g,j,none⟩ = false:=by
 obtain ⟨cs,h1,_⟩:=h
 exact frozen_of_row W g j cs T h1
theorem Filled.cell (h : Filled W g T n K k F) {j : Nat} (hj : j < n * K) : ∃ u,W.cell? ⟨g,j,none⟩ = some u:=by
 obtain ⟨cs,h1,h2,_⟩:=h
 exact ⟨_,(cell_of_row W g j cs T _ h1).trans (Array.getElem?_eq_getElem (by omega))⟩
theorem Filled.more (h : Filled W g T n K k F) (hk : k < n) (us : List Value) (hu : us.length = K) (hF : F k = us) : Filled (setsAt W g (k * K) us 0) g T n K (k + 1) F:=by
 obtain ⟨cs,h1,h2,h3⟩:=h
 have hle : (k + 1) * K ≤ n * K:=Nat.mul_le_mul_right K hk
 rw [Nat.add_mul,Nat.one_mul] at hle
 obtain ⟨cs',e1,e2,e3,e4⟩:=setsAt_same g (k * K) T us 0 W cs h1 (by omega)
 refine ⟨cs',e1,e2.trans h2,fun i hi j u hjK hj => ?_⟩
 by_cases he : i = k
 · subst he
   rw [hF] at hj
   exact e3 j u hj
 · have hlt : i < k:=by omega
   have : (i + 1) * K ≤ k * K:=Nat.mul_le_mul_right K hlt
   rw [Nat.add_mul,Nat.one_mul] at this
   rw [e4 _ (by omega)]
   exact h3 i hlt j u hjK hj
end
theorem below_sets {B : Nat} {V W : World} (h : Below B V W) {g : Nat} (hg : B ≤ g) (o : Nat) (us : List Value) (i : Nat) : Below B V (setsAt W g o us i):=by
 obtain ⟨e1,e2,e3⟩:=setsAt_else g o us i W
 exact ⟨e1.trans h.os,e2.trans h.tape,e3.trans h.output,by rw [setsAt_size];exact h.size,fun b hb => (setsAt_other g o b (by omega) us i W).trans (h.block b hb)⟩
end Go.Proofs.Ytbmmjomcjlpnlaa
namespace Go.Proofs.Ytbmmjomcjlpnlaa
open Go Go.RowKit
theorem infoS1 : (Try.prog.info? 9).map (fun i => (i.zero,i.size,i.bytes)) = some (some (.string ⟨#[]⟩),1,16):=by kernel_rfl
def strF (l : List ByteArray) (i : Nat) : List Value:=[.string (l.getD i ⟨#[]⟩)]
theorem cstrs_some {l : List ByteArray} {gs c : Nat} (w : World) (hgl : gs < w.heap.size) (hcs : ∀ i a,l[i]? = some a → w.cell? ⟨gs,i,none⟩ = some (.string a)) (n : Nat) (hln : l.length = n) (hn : n ≤ 1000000) (hm : ∀ q ∈ l,q.size ≤ 281474976710656) :
 Calls Try.prog 39 #[.slice (some ⟨gs,0,none⟩) n c,.func (.func 33) #[] #[]] w fun e w' => Below w.heap.size w w' ∧ ∃ g,e = .returned (.slice (some ⟨g,0,none⟩) n n) ∧ w.heap.size ≤ g ∧ Filled w' g 9 n 1 n (strF l):=by
 obtain ⟨i0,hinf,hzi0,hzi1,hzi2⟩:=info_parts infoS1
 have hmk : (Instr.makeSlice 50 (.int .i64 n) (.int .i64 n)).run Try.prog w = .ok (.slice (some ⟨w.heap.size,0,none⟩) n n) (w.alloc (.cells (madeCells (Value.string ⟨#[]⟩).cells (n * 1)) 9)):=by
  have h:=run_make (P:=Try.prog) w 50 9 i0 _ Try.underlying50 hinf hzi0 .i64 .i64 n n (by omega) (Int.le_refl _) (by rw [hzi2];omega) (by omega)
  rw [hzi1] at h
  simpa using h
 have heq : (binOp .eql 50 (.slice (some ⟨gs,0,none⟩) n c) (.slice none 0 0)).run Try.prog w = .ok (.bool false) w:=Lib.run_eql_slice_nil w _ _ _ _ _ _ _ Try.underlying50
 have HCS:=hid hcs
 have HLN:=hid hln
 have HM:=hid hm
 clear hcs hln hm
 go_enter Try.func39,Try.ntmps39
 go_upto_region 4 with (fail)
 refine name_world ?_
 intro W1 hW1
 have HF0 : Filled W1 w.heap.size 9 n 1 0 (strF l):=by (rw [hW1];have h:=Filled.zero (W:=w) (T:=9) (n:=n) (K:=1) #[.string ⟨#[]⟩] (strF l);rwa [Nat.mul_one] at h)
 have HB1 : Below w.heap.size w W1:=by (rw [hW1];exact (Below.refl _ _).alloc (Nat.le_refl _) _)
 have hgg : w.heap.size < W1.heap.size:=HF0.lt
 have hHF:=hid HF0
 have hHB:=hid HB1
 clear HF0 HB1 hW1 hmk hinf hzi0 hzi1 hzi2
 go_wp2
 go_loopw [15] (fun iv wr => ∃ k : Nat,iv = .int .i64 k ∧ k ≤ n ∧ Below w.heap.size w wr ∧ Filled wr w.heap.size 9 n 1 k (strF l)) (fun iv _ => n - (intOf iv).toNat)
 case atStart => exact ⟨0,rfl,Nat.zero_le _,hHB.out,hHF.out⟩
 case round =>
  obtain ⟨k,rfl,hk,hbr,hfr⟩:=hrel
  have HBR:=hid hbr
  have HFR:=hid hfr
  by_cases hkl : k < n
  · obtain ⟨x,hx⟩ : ∃ x,l[k]? = some x:=⟨_,List.getElem?_eq_getElem (by (have:=HLN.out;omega))⟩
    have d0 : wr.cell? ⟨gs,k,none⟩ = some (.string x):=(hbr.cell (p:=⟨gs,k,none⟩) hgl).trans (HCS.out k x hx)
    have hlt : (k : Int) < (n : Int):=by omega
    have hk0 : (0 : Int) ≤ (k : Int):=Int.natCast_nonneg _
    have HX:=hid hx
    have hnb : x.size ≤ 281474976710656:=HM.out x (List.mem_of_getElem? hx)
    clear hbr hfr hx
    go_upto_region 8 with (go_at_call 33;(with_reducible refine (clone_any _ _ hnb).mono ?_);rintro e1 w9 ⟨rfl,hb9⟩;have HF9:=hid (HFR.out.stay hb9);have HB9:=hid (below_ch HBR.out hb9);have fz0:=HF9.out.frozen k;have hl9:=HF9.out.lt;obtain ⟨y0,cy0⟩:=HF9.out.cell (j:=k) (by omega);clear hb9)
    have hset : w9.setCell ⟨w.heap.size,k,none⟩ (.string x) = setsAt w9 w.heap.size k [.string x] 0:=rfl
    rw [hset]
    have HFn : Hid (Filled (setsAt w9 w.heap.size k [.string x] 0) w.heap.size 9 n 1 (k + 1) (strF l)):=hid (by (have h:=HF9.out.more hkl [.string x] rfl (by show [Value.string (l.getD k _)] = _;rw [List.getD_eq_getElem?_getD,HX.out];rfl);rwa [Nat.mul_one] at h))
    have HBn:=hid (below_sets HB9.out (Nat.le_refl _) k [.string x] 0)
    clear hset
    go_wp2
    go_roundw
    case rel => exact ⟨k + 1,by go_num,by omega,HBn.out,HFn.out⟩
    case measure =>
     simp [intOf]
     omega
  · have hlt : ¬ (k : Int) < (n : Int):=by omega
    obtain rfl : n = k:=by omega
    go_wp2
    go_ret
    exact ⟨HBR.out,_,rfl,Nat.le_refl _,HFR.out⟩
theorem cstrs_nil (n c : Nat) (w : World) :
 Calls Try.prog 39 #[.slice none n c,.func (.func 33) #[] #[]] w fun e w' => e = .returned (.slice none 0 0) ∧ w' = w:=by
 have heq : (binOp .eql 50 (.slice none n c) (.slice none 0 0)).run Try.prog w = .ok (.bool true) w:=Lib.run_eql_slice_nil w _ _ _ _ _ _ _ Try.underlying50
 go_enter Try.func39,Try.ntmps39
 go_wp2
 go_ret
 exact ⟨rfl,rfl⟩
end Go.Proofs.Ytbmmjomcjlpnlaa
namespace Go.Proofs.Ytbmmjomcjlpnlaa
open Go Go.RowKit Go.ChangeMaps Go.MapKept Go.WideElems Go.Maps
def RV (v : Value) : Option (DataW Value × List MemPlace):=some (.held v,[])
abbrev KF : Type:=List UInt8 → Option Value
def KF.upd (f : KF) (s : List UInt8) (v : Value) : KF:=fun t => if t = s then some v else f t
def KF.del (f : KF) (s : List UInt8) : KF:=fun t => if t = s then none else f t
def KMap (W : World) (b n : Nat) (f : KF) : Prop:=∃ D : DataW Value,W.ownsMap Try.prog 9 RV b n D ∧ ∀ (s : List UInt8) (z : DataW Value),D.atKey (.string s) z = match f s with | some v => .held v | none => z
theorem keyedM : Keyed Try.prog 9:=string_keyed Try.underlying9
theorem keyOfS {s : ByteArray} (h : s.size ≤ maxLen) : keyOf Try.prog 9 (.string s) = some (.string s.data.toList):=by
 simp [keyOf,mapKey,Try.underlying9,h]
section
variable {W X : World} {b n : Nat} {f : KF}
theorem KMap.made (W : World) : KMap (W.alloc (.map #[] 0)) W.heap.size 0 (fun _ => none):=⟨.map [],World.ownsMap_made W _ _ RV,fun _ _ => rfl⟩
theorem KMap.lt (h : KMap W b n f) : b < W.heap.size:=by
 obtain ⟨D,h1,_⟩:=h
 exact h1.lt
theorem KMap.kept (h : KMap W b n f) {row : Option Nat} (hg : W.grownBy X row) (hne : some b ≠ row) : KMap X b n f:=by
 obtain ⟨D,h1,h2⟩:=h
 exact ⟨D,h1.kept hg hne,h2⟩
theorem KMap.stay (h : KMap W b n f) (hb : Below W.heap.size W X) : KMap X b n f:=h.kept (row:=none) ⟨hb.os,hb.tape,hb.output,hb.size,fun k hk _ => hb.block k hk⟩ (by simp)
theorem KMap.setCell (h : KMap W b n f) {c : Nat} (hc : b ≠ c) (o : Nat) (v : Value) : KMap (W.setCell ⟨c,o,none⟩ v) b n f:=by
 obtain ⟨D,h1,h2⟩:=h
 exact ⟨D,h1.setCell (a:=⟨c,o,none⟩) hc v,h2⟩
theorem KMap.mono (h : KMap W b n f) {m : Nat} (hm : n ≤ m) : KMap W b m f:=by
 obtain ⟨D,h1,h2⟩:=h
 exact ⟨D,h1.mono hm,h2⟩
theorem zeroIface (W : World) : (zeroValue 20).run Try.prog W = .ok .nilIface W:=by
 kernel_rfl
theorem KMap.look (h : KMap W b n f) {s : ByteArray} (hs : s.size ≤ maxLen) : (Instr.lookup 86 (.map (some b)) (.string s) false).run Try.prog W = .ok ((f s.data.toList).getD .nilIface) W:=by
 obtain ⟨D,h1,h2⟩:=h
 obtain ⟨v,ps,hr,hv⟩:=h1.lookup keyedM Try.underlying86 (zeroIface W) (zd:=.held .nilIface) (zp:=[]) rfl (keyOfS hs)
 rw [h2] at hv
 have e : v = (f s.data.toList).getD .nilIface:=by
  cases hf : f s.data.toList with
  | none =>
   rw [hf] at hv
   exact (by simpa [RV] using hv : _ ∧ _).1
  | some u =>
   rw [hf] at hv
   exact (by simpa [RV] using hv : _ ∧ _).1
 rw [hr,e]
theorem look_nil {s : ByteArray} (hs : s.size ≤ maxLen) (W : World) : (Instr.lookup 86 (.map none) (.string s) false).run Try.prog W = .ok .nilIface W :=
 Maps.look_nil false keyedM Try.underlying86 (zeroIface W) (keyOfS hs)
theorem KMap.put_ {D : DataW Value} {s : List UInt8} {v : Value} (hm : IsMap D) (h2 : ∀ (t : List UInt8) (z : DataW Value),D.atKey (.string t) z = match f t with | some v => .held v | none => z) (t : List UInt8) (z : DataW Value) :
 (D.put (.string s) (.held v)).atKey (.string t) z = match f.upd s v t with | some v => .held v | none => z:=by
 by_cases e : t = s
 · subst e
   rw [atKey_put_same hm (show WideAt.IsKeyLit (.string t) from trivial)]
   simp [KF.upd]
 · rw [atKey_put_other (by simpa using e),h2]
   simp [KF.upd,e]
theorem KMap.del_ {D : DataW Value} {s : List UInt8} (h2 : ∀ (t : List UInt8) (z : DataW Value),D.atKey (.string t) z = match f t with | some v => .held v | none => z) (t : List UInt8) (z : DataW Value) :
 (D.del (.string s)).atKey (.string t) z = match f.del s t with | some v => .held v | none => z:=by
 by_cases e : t = s
 · subst e
   rw [atKey_del_same]
   simp [KF.del]
 · rw [atKey_del_other (by simpa using e),h2]
   simp [KF.del,e]
theorem KMap.run_put (h : KMap W b n f) (hn : n < maxLen) {s : ByteArray} (hs : s.size ≤ maxLen) (val : Value) :
 ∃ w',(Instr.mapUpdate 86 (.map (some b)) (.string s) val).run Try.prog W = .ok () w' ∧ KMap w' b (n + 1) (f.upd s.data.toList val) ∧ W.grownBy w' (some b):=by
 obtain ⟨D,h1,h2⟩:=h
 obtain ⟨w',hrun,r1,r2⟩:=h1.update keyedM Try.underlying86 hn (keyOfS hs) (val:=val) rfl
 exact ⟨w',hrun,⟨_,r1,KMap.put_ h1.isMap h2⟩,r2⟩
theorem KMap.run_del (h : KMap W b n f) {s : ByteArray} (hs : s.size ≤ maxLen) (ty : TypeId) :
 ∃ w',(Builtin.delete_ #[86,9] ty #[.map (some b),.string s]).run Try.prog W = .ok (.tuple #[]) w' ∧ KMap w' b n (f.del s.data.toList) ∧ W.grownBy w' (some b):=by
 obtain ⟨D,h1,h2⟩:=h
 obtain ⟨w',hrun,r1,r2⟩:=h1.drop keyedM Try.underlying86 (keyOfS hs) ty
 exact ⟨w',hrun,⟨_,r1,KMap.del_ h2⟩,r2.grown⟩
end
theorem run_eql_map_nil (W : World) (m : Option Nat) : (binOp .eql 86 (.map m) (.map none)).run Try.prog W = .ok (.bool m.isNone) W:=by
 have h:=run_neq_map_nil (P:=Try.prog) W 86 _ _ m Try.underlying86
 cases m with
 | none =>
  simp only [binOp] at h ⊢
  simp [run_equal_map_nil W 86 _ _ none Try.underlying86]
 | some b =>
  simp only [binOp] at h ⊢
  simp [run_equal_map_nil W 86 _ _ (some b) Try.underlying86]
end Go.Proofs.Ytbmmjomcjlpnlaa
namespace Go.Proofs.Ytbmmjomcjlpnlaa
open Go Go.RowKit
theorem PBlk.setO {X : World} {n : Nat} {s : ByteArray} {tr sc : Bool} (h : PBlk X n s tr sc) {b : Nat} (hne : n ≠ b) (o : Nat) (v : Value) : PBlk (X.setCell ⟨b,o,none⟩ v) n s tr sc:=(heap_setCell_other X ⟨b,o,none⟩ n v hne).trans h
theorem PBlk.all {X : World} {n : Nat} {s s' : ByteArray} {tr sc tr' sc' : Bool} (h : PBlk X n s tr sc) : PBlk (((X.setCell ⟨n,0,none⟩ (.string s')).setCell ⟨n,1,none⟩ (.bool tr')).setCell ⟨n,2,none⟩ (.bool sc')) n s' tr' sc' :=
 heap_setCell_same _ n 2 _ _ _ (heap_setCell_same _ n 1 _ _ _ (heap_setCell_same X n 0 _ _ _ h))
theorem results_pm {X : World} {n : Nat} {s : ByteArray} {tr sc : Bool} {fn : Func} {p : Tmp} (hfn : fn.results = #[.cell p 137]) (tmps : Array Value) (hp : tmps.getD p undef = .pointer (some ⟨n,0,none⟩)) (h : PBlk X n s tr sc) :
 (results fn tmps).run Try.prog X = .ok (.agg #[.string s,.bool tr,.bool sc]) X:=by
 have hp' : tmps[p]?.getD undef = .pointer (some ⟨n,0,none⟩):=by simpa using hp
 simp [results,hfn,hp',asAddr,run_loadVar_row X n 137 137 _ (0,0) _ h Try.underlying137 rfl (by kernel_rfl)]
theorem cparam_any (s : ByteArray) (tr sc : Bool) (w : World) (hs : s.size ≤ 281474976710656) :
 Calls Try.prog 55 #[.agg #[.string s,.bool tr,.bool sc]] w fun e w' => e = .returned (.agg #[.string s,.bool tr,.bool sc]) ∧ Below w.heap.size w w':=by
 go_enter Try.func55,Try.ntmps55
 go_upto_region 1 with (fail)
 refine name_world ?_
 intro W1 hW1
 have BA : PBlk W1 w.heap.size s tr sc:=by (rw [hW1];exact (PBlk.new rfl).alloc _)
 have BB : PBlk W1 (w.heap.size + 1) ⟨#[]⟩ false false:=by (rw [hW1];exact PBlk.new (by simp))
 have HB : Below w.heap.size w W1:=by (rw [hW1];exact ((Below.refl _ _).alloc (Nat.le_refl _) _).alloc (by simp) _)
 clear hW1
 have HB1:=hid HB
 clear HB
 obtain ⟨al,a0,a1,a2,f0,f1,f2⟩:=BA.facts
 go_upto_region 2 with (go_at_call 33;(with_reducible refine (clone_any _ _ hs).mono ?_);rintro e1 w1 ⟨rfl,hb1⟩;obtain ⟨al1,a01,a11,a21,f01,f11,f21⟩:=(BA.stay hb1).facts;have HB2:=hid (below_ch HB1.out hb1);replace BA:=BA.stay hb1;replace BB:=BB.stay hb1;clear hb1)
 refine name_world ?_
 intro W2 hW2
 replace BA : PBlk W2 w.heap.size s tr sc:=by (rw [hW2];exact BA.set0 s)
 replace BB : PBlk W2 (w.heap.size + 1) ⟨#[]⟩ false false:=by (rw [hW2];exact BB.setO (by omega) _ _)
 have HB3 : Hid (Below w.heap.size w W2):=hid (by (rw [hW2];exact HB2.out.setCell (by simp) _))
 clear hW2 HB1 HB2 al a0 a1 a2 f0 f1 f2 al1 a01 a11 a21 f01 f11 f21
 obtain ⟨al,a0,a1,a2,_⟩:=BA.facts
 obtain ⟨bl,b0,b1,b2,f0,f1,f2⟩:=BB.facts
 go_wp2
 refine bodyPost_ret (results_pm rfl _ rfl BB.all) rfl ⟨rfl,?_⟩
 exact (((HB3.out.setCell (by simp) _).setCell (by simp) _).setCell (by simp) _)
theorem cparams_some {l : List Pm} {gs c : Nat} (w : World) (cs0 : Array Value) (fr0 : Nat × Nat) (hg : w.heap[gs]? = some (.cells cs0 137 fr0)) (hcs : ∀ i a,l[i]? = some a → ∀ j u,(pmCells a)[j]? = some u → cs0[i * 3 + j]? = some u) (n : Nat) (hln : l.length = n) (hn : n ≤ 1000000) (hm : ∀ q ∈ l,q.nm.length ≤ 100000) :
 Calls Try.prog 54 #[.slice (some ⟨gs,0,none⟩) n c,.func (.func 55) #[] #[]] w fun e w' => Below w.heap.size w w' ∧ ∃ g,e = .returned (.slice (some ⟨g,0,none⟩) n n) ∧ w.heap.size ≤ g ∧ Filled w' g 137 n 3 n (fun i => pmCells (l.getD i ⟨[],false,false⟩)):=by
 obtain ⟨i0,hinf,hzi0,hzi1,hzi2⟩:=info_parts infoPm
 have hmk : (Instr.makeSlice 59 (.int .i64 n) (.int .i64 n)).run Try.prog w = .ok (.slice (some ⟨w.heap.size,0,none⟩) n n) (w.alloc (.cells (madeCells (Value.agg #[.string ⟨#[]⟩,.bool false,.bool false]).cells (n * 3)) 137)):=by
  have h:=run_make (P:=Try.prog) w 59 137 i0 _ Try.underlying59 hinf hzi0 .i64 .i64 n n (by omega) (Int.le_refl _) (by rw [hzi2];omega) (by omega)
  rw [hzi1] at h
  simpa using h
 have heq : (binOp .eql 59 (.slice (some ⟨gs,0,none⟩) n c) (.slice none 0 0)).run Try.prog w = .ok (.bool false) w:=Lib.run_eql_slice_nil w _ _ _ _ _ _ _ Try.underlying59
 have HCS:=hid hcs
 have HLN:=hid hln
 have HM:=hid hm
 have hgl : gs < w.heap.size:=(Array.getElem?_eq_some_iff.1 hg).1
 have HG:=hid hg
 clear hcs hln hm hg
 go_enter Try.func54,Try.ntmps54
 go_upto_region 4 with (fail)
 refine name_world ?_
 intro W1 hW1
 have HF0 : Filled W1 w.heap.size 137 n 3 0 (fun i => pmCells (l.getD i ⟨[],false,false⟩)):=by (rw [hW1];exact Filled.zero _ _)
 have HB1 : Below w.heap.size w W1:=by (rw [hW1];exact (Below.refl _ _).alloc (Nat.le_refl _) _)
 have hgg : w.heap.size < W1.heap.size:=HF0.lt
 have hHF:=hid HF0
 have hHB:=hid HB1
 clear HF0 HB1 hW1 hmk hinf hzi0 hzi1 hzi2
 go_wp2
 go_loopw [15] (fun iv wr => ∃ k : Nat,iv = .int .i64 k ∧ k ≤ n ∧ Below w.heap.size w wr ∧ Filled wr w.heap.size 137 n 3 k (fun i => pmCells (l.getD i ⟨[],false,false⟩))) (fun iv _ => n - (intOf iv).toNat)
 case atStart => exact ⟨0,rfl,Nat.zero_le _,hHB.out,hHF.out⟩
 case round =>
  obtain ⟨k,rfl,hk,hbr,hfr⟩:=hrel
  have HBR:=hid hbr
  have HFR:=hid hfr
  by_cases hkl : k < n
  · obtain ⟨x,hx⟩ : ∃ x,l[k]? = some x:=⟨_,List.getElem?_eq_getElem (by (have:=HLN.out;omega))⟩
    have hgr:=(hbr.block gs hgl).trans HG.out
    have hgw : gs < wr.heap.size:=Nat.lt_of_lt_of_le hgl hbr.size
    have d0 : wr.cell? ⟨gs,k * 3,none⟩ = some (.string (bstr x.nm)):=(Lib.cell_of_heap hgr _).trans (HCS.out k x hx 0 _ rfl)
    have d1 : wr.cell? ⟨gs,k * 3 + 1,none⟩ = some (.bool x.tr):=(Lib.cell_of_heap hgr _).trans (HCS.out k x hx 1 _ rfl)
    have d2 : wr.cell? ⟨gs,k * 3 + 2,none⟩ = some (.bool x.sc):=(Lib.cell_of_heap hgr _).trans (HCS.out k x hx 2 _ rfl)
    have hlt : (k : Int) < (n : Int):=by omega
    have hk0 : (0 : Int) ≤ (k : Int):=Int.natCast_nonneg _
    have HX:=hid hx
    have hnb : (bstr x.nm).size ≤ 281474976710656:=by (have h : x.nm.length ≤ 100000:=HM.out x (List.mem_of_getElem? hx);show x.nm.length ≤ _;omega)
    clear hbr hfr hgr hx
    go_upto_region 7 with (fail)
    refine name_world ?_
    intro W2 hW2
    have HP : PBlk W2 wr.heap.size (bstr x.nm) x.tr x.sc:=by (rw [hW2];exact PBlk.new rfl)
    have HB2 : Hid (Below w.heap.size w W2):=hid (by (rw [hW2];exact HBR.out.alloc HBR.out.size _))
    have HF2 : Hid (Filled W2 w.heap.size 137 n 3 k (fun i => pmCells (l.getD i ⟨[],false,false⟩))):=hid (by (rw [hW2];exact HFR.out.stay ((Below.refl _ _).alloc (Nat.le_refl _) _)))
    obtain ⟨pl,pc0,pc1,pc2,_⟩:=HP.facts
    clear hW2 d0 d1 d2 HP
    go_upto_region 8 with (go_at_call 55;(with_reducible refine (cparam_any _ _ _ _ hnb).mono ?_);rintro e1 w9 ⟨rfl,hb9⟩;have HF9:=hid (HF2.out.stay hb9);have HB9:=hid (below_ch HB2.out hb9);have fz0:=HF9.out.frozen (k * 3);have fz1:=HF9.out.frozen (k * 3 + 1);have fz2:=HF9.out.frozen (k * 3 + 2);have hl9:=HF9.out.lt;obtain ⟨y0,cy0⟩:=HF9.out.cell (j:=k * 3) (by omega);obtain ⟨y1,cy1⟩:=HF9.out.cell (j:=k * 3 + 1) (by omega);obtain ⟨y2,cy2⟩:=HF9.out.cell (j:=k * 3 + 2) (by omega))
    have hget : (fun i => pmCells (l.getD i ⟨[],false,false⟩)) k = pmCells x:=by
     show pmCells (l.getD k _) = _
     rw [List.getD_eq_getElem?_getD,HX.out]
     rfl
    have hset : ((w9.setCell ⟨w.heap.size,k * 3,none⟩ (.string (bstr x.nm))).setCell ⟨w.heap.size,k * 3 + 1,none⟩ (.bool x.tr)).setCell ⟨w.heap.size,k * 3 + 2,none⟩ (.bool x.sc) = setsAt w9 w.heap.size (k * 3) (pmCells x) 0:=rfl
    rw [hset]
    have HFn:=hid (HF9.out.more hkl (pmCells x) rfl hget)
    have HBn:=hid (below_sets HB9.out (Nat.le_refl _) (k * 3) (pmCells x) 0)
    clear hset hget
    go_wp2
    go_roundw
    case rel =>
     exact ⟨k + 1,by go_num,by omega,HBn.out,HFn.out⟩
    case measure =>
     simp [intOf]
     omega
  · have hlt : ¬ (k : Int) < (n : Int):=by omega
    obtain rfl : n = k:=by omega
    go_wp2
    go_ret
    exact ⟨HBR.out,_,rfl,Nat.le_refl _,HFR.out⟩
theorem cparams_zero (a : Addr) (c : Nat) (w : World) :
 Calls Try.prog 54 #[.slice (some a) 0 c,.func (.func 55) #[] #[]] w fun e w' => Below w.heap.size w w' ∧ ∃ p c',e = .returned (.slice p 0 c'):=by
 obtain ⟨i0,hinf,hzi0,hzi1,hzi2⟩:=info_parts infoPm
 have hmk : (Instr.makeSlice 59 (.int .i64 0) (.int .i64 0)).run Try.prog w = .ok (.slice (some ⟨w.heap.size,0,none⟩) 0 0) (w.alloc (.cells (madeCells (Value.agg #[.string ⟨#[]⟩,.bool false,.bool false]).cells (0 * 3)) 137)):=by
  have h:=run_make (P:=Try.prog) w 59 137 i0 _ Try.underlying59 hinf hzi0 .i64 .i64 0 0 (by omega) (Int.le_refl _) (by rw [hzi2];omega) (by omega)
  rw [hzi1] at h
  simpa using h
 have heq : (binOp .eql 59 (.slice (some a) 0 c) (.slice none 0 0)).run Try.prog w = .ok (.bool false) w:=Lib.run_eql_slice_nil w _ _ _ _ _ _ _ Try.underlying59
 go_enter Try.func54,Try.ntmps54
 go_upto_region 4 with (fail)
 refine name_world ?_
 intro W1 hW1
 have HB1 : Hid (Below w.heap.size w W1):=hid (by rw [hW1];exact (Below.refl _ _).alloc (Nat.le_refl _) _)
 clear hW1 hmk
 go_wp2
 go_loopw [15] (fun iv wr => iv = .int .i64 0 ∧ wr = W1) (fun _ _ => 0)
 case atStart => exact ⟨rfl,rfl⟩
 case round =>
  obtain ⟨rfl,rfl⟩:=hrel
  go_wp2
  go_ret
  exact ⟨HB1.out,_,_,rfl⟩
theorem cparams_any (l : List Pm) (w : World) (v : Value) (hi : Hid (IsPl (fun g => 0 ≤ g) 137 3 pmCells w l v)) (hn : l.length ≤ 1000000) (hm : ∀ q ∈ l,q.nm.length ≤ 100000) :
 Calls Try.prog 54 #[v,.func (.func 55) #[] #[]] w fun e w' => Below w.heap.size w w' ∧ ∃ p c,e = .returned (.slice p l.length c) ∧ IsPl (fun b => w.heap.size ≤ b) 137 3 pmCells w' l (.slice p l.length c):=by
 obtain ⟨⟨p,c,rfl⟩,h2⟩:=hi.out
 by_cases hl : l = []
 · subst hl
   cases p with
   | none =>
    have heq : (binOp .eql 59 (.slice none 0 c) (.slice none 0 0)).run Try.prog w = .ok (.bool true) w:=Lib.run_eql_slice_nil w _ _ _ _ _ _ _ Try.underlying59
    show Calls _ _ #[.slice none 0 c,_] _ _
    go_enter Try.func54,Try.ntmps54
    go_wp2
    go_ret
    exact ⟨Below.refl _ _,none,0,rfl,IsPl.nil _ _⟩
   | some a =>
    refine (cparams_zero a c w).mono ?_
    rintro e w' ⟨hb,p',c',rfl⟩
    exact ⟨hb,p',c',rfl,IsPl.nil _ _⟩
 · obtain ⟨g,cap,cs,fr,hv,_,hg,hcs⟩:=h2 hl
   cases hv
   refine (cparams_some (l:=l) w cs fr hg hcs l.length rfl hn hm).mono ?_
   rintro e w' ⟨hb,g',rfl,hge,cs',e1,e2,e3⟩
   refine ⟨hb,_,_,rfl,⟨_,_,rfl⟩,fun _ => ⟨g',_,cs',(0,0),rfl,hge,e1,fun i a ha j u hu => ?_⟩⟩
   have hj : j < 3:=(List.getElem?_eq_some_iff.1 hu).1
   exact e3 i (List.getElem?_eq_some_iff.1 ha).1 j u hj (by show (pmCells (l.getD i _))[j]? = _;rw [List.getD_eq_getElem?_getD,ha];exact hu)
inductive ShE : Ex → Prop
 | mk {k o n : Int} {nm : List UInt8} {es : List Ex} {a : Nat} : nm.length ≤ 100000 → es.length ≤ 1000000 → (∀ e ∈ es,ShE e) → ShE (.mk k o n nm es a)
def ex00 : Ex:=.mk 0 0 0 [] [] 0
theorem Filled.congr {W : World} {g n K k : Nat} {T : TypeId} {F G : Nat → List Value} (h : Filled W g T n K k F) (e : ∀ i,i < k → F i = G i) : Filled W g T n K k G:=by
 obtain ⟨cs,h1,h2,h3⟩:=h
 exact ⟨cs,h1,h2,fun i hi j u hj hu => h3 i hi j u hj (by rw [e i hi];exact hu)⟩
theorem IsExP.sets {lo g : Nat} {W : World} {e : Ex} {v : Value} (h : IsExP (fun b => lo ≤ b) W e v) (hg : g < lo) (o : Nat) (us : List Value) (i : Nat) : IsExP (fun b => lo ≤ b) (setsAt W g o us i) e v :=
 h.kept fun b hb _ => ⟨setsAt_other g o b (by omega) us i W,hb⟩
def CpE (X : World) (e : Ex) (r : Ending) (w' : World) : Prop:=Below X.heap.size X w' ∧ ∃ p c,r = .returned (exVal e (.slice p e.ks.length c)) ∧ IsExP (fun g => X.heap.size ≤ g) w' e (.slice p e.ks.length c)
theorem cexprs_some (x : Ex) {gs c n : Nat} (w : World) (hi : Hid (IsEx 0 w x (.slice (some ⟨gs,0,none⟩) n c))) (hln : x.ks.length = n) (hn : n ≤ 1000000)
 (hee : Hid (∀ e ∈ x.ks,∀ X v,IsEx 0 X e v → Calls Try.prog 58 #[exVal e v] X (CpE X e))) :
 Calls Try.prog 69 #[.slice (some ⟨gs,0,none⟩) n c,.func (.func 58) #[] #[]] w fun e w' => Below w.heap.size w w' ∧ ∃ g,e = .returned (.slice (some ⟨g,0,none⟩) n n) ∧ w.heap.size ≤ g ∧ ∃ vs : Nat → Value,Filled w' g 63 n 6 n (fun i => exCells (x.ks.getD i ex00) (vs i)) ∧ ∀ i,i < n → IsExP (fun b => w.heap.size + 1 ≤ b) w' (x.ks.getD i ex00) (vs i):=by
 obtain ⟨i0,hinf,hzi0,hzi1,hzi2⟩:=info_parts infoEx
 have hmk : (Instr.makeSlice 61 (.int .i64 n) (.int .i64 n)).run Try.prog w = .ok (.slice (some ⟨w.heap.size,0,none⟩) n n) (w.alloc (.cells (madeCells (Value.agg #[.int .i64 0,.int .i64 0,.int .i64 0,.string ⟨#[]⟩,.slice none 0 0,.int .i64 0]).cells (n * 6)) 63)):=by
  have h:=run_make (P:=Try.prog) w 61 63 i0 _ Try.underlying61 hinf hzi0 .i64 .i64 n n (by omega) (Int.le_refl _) (by rw [hzi2];omega) (by omega)
  rw [hzi1] at h
  simpa using h
 have heq : (binOp .eql 61 (.slice (some ⟨gs,0,none⟩) n c) (.slice none 0 0)).run Try.prog w = .ok (.bool false) w:=Lib.run_eql_slice_nil w _ _ _ _ _ _ _ Try.underlying61
 have HLN:=hid hln
 clear hln
 go_enter Try.func69,Try.ntmps69
 go_upto_region 4 with (fail)
 refine name_world ?_
 intro W1 hW1
 have HF0 : Filled W1 w.heap.size 63 n 6 0 (fun i => exCells (x.ks.getD i ex00) undef):=by (rw [hW1];exact Filled.zero _ _)
 have HB1 : Below w.heap.size w W1:=by (rw [hW1];exact (Below.refl _ _).alloc (Nat.le_refl _) _)
 have hgg : w.heap.size < W1.heap.size:=HF0.lt
 have hHF:=hid HF0
 have hHB:=hid HB1
 clear HF0 HB1 hW1 hmk hinf hzi0 hzi1 hzi2
 go_wp2
 go_loopw [15] (fun iv wr => ∃ k : Nat,iv = .int .i64 k ∧ k ≤ n ∧ Below w.heap.size w wr ∧ ∃ vs : Nat → Value,Filled wr w.heap.size 63 n 6 k (fun i => exCells (x.ks.getD i ex00) (vs i)) ∧ ∀ i,i < k → IsExP (fun b => w.heap.size + 1 ≤ b) wr (x.ks.getD i ex00) (vs i)) (fun iv _ => n - (intOf iv).toNat)
 case atStart => exact ⟨0,rfl,Nat.zero_le _,hHB.out,_,hHF.out,fun i h => absurd h (Nat.not_lt_zero i)⟩
 case round =>
  obtain ⟨k,rfl,hk,hbr,vs,hfr,hxr⟩:=hrel
  have HBR:=hid hbr
  have HFR:=hid hfr
  have HXR:=hid hxr
  by_cases hkl : k < n
  · obtain ⟨y,hy⟩ : ∃ y,x.ks[k]? = some y:=⟨_,List.getElem?_eq_getElem (by (have:=HLN.out;omega))⟩
    obtain ⟨g0,cap0,u0,hv0,_,hgl,hy1,d0,d1,d2,d3,d4,d5⟩:=(hi.out.stay hbr).kid hy
    rw [HLN.out] at hv0
    cases hv0
    obtain ⟨py,cy,rfl⟩:=hy1.form
    have hlt : (k : Int) < (n : Int):=by omega
    have hk0 : (0 : Int) ≤ (k : Int):=Int.natCast_nonneg _
    have HY:=hid hy
    have HY1:=hid hy1
    obtain ⟨ny,hny⟩ : ∃ q,y.ks.length = q:=⟨_,rfl⟩
    rw [hny] at d4 HY1
    have HNY:=hid hny
    have HC : Hid (∀ X,Below wr.heap.size wr X → Calls Try.prog 58 #[.agg #[.int .i64 y.k,.int .i64 y.op,.int .i64 y.n,.string (bstr y.nm),.slice py ny cy,.int .i64 y.a]] X (CpE X y)):=hid fun X hX => hee.out y (List.mem_of_getElem? hy) X _ (HY1.out.stay hX)
    clear hbr hfr hxr hy hy1 hny
    go_upto_region 7 with (fail)
    refine name_world ?_
    intro W2 hW2
    have HP : Blk W2 wr.heap.size (.int .i64 y.k) (.int .i64 y.op) (.int .i64 y.n) (.string (bstr y.nm)) (.slice py ny cy) (.int .i64 y.a):=by (rw [hW2];exact Blk.new rfl _ _ _ _ _ _)
    have HA : Hid (Below wr.heap.size wr W2):=hid (by (rw [hW2];exact (Below.refl _ _).alloc (Nat.le_refl _) _))
    have HB2 : Hid (Below w.heap.size w W2):=hid (below_ch HBR.out HA.out)
    have HF2 : Hid (Filled W2 w.heap.size 63 n 6 k (fun i => exCells (x.ks.getD i ex00) (vs i))):=hid (HFR.out.stay HA.out)
    obtain ⟨pl,pc0,pc1,pc2,pc3,pc4,pc5,_⟩:=HP.facts
    clear hW2 d0 d1 d2 d3 d4 d5 HP
    go_upto_region 8 with (go_at_call 58;(with_reducible refine (HC.out _ HA.out).mono ?_);rintro e1 w9 ⟨hb9,p9,c9,rfl,hx9⟩;rw [HNY.out] at hx9;(try rw [HNY.out]);have HX9:=hid hx9;have HB92:=hid hb9;have HF9:=hid (HF2.out.stay hb9);have HB9:=hid (below_ch HB2.out hb9);have fz0:=HF9.out.frozen (k * 6);have fz1:=HF9.out.frozen (k * 6 + 1);have fz2:=HF9.out.frozen (k * 6 + 2);have fz3:=HF9.out.frozen (k * 6 + 3);have fz4:=HF9.out.frozen (k * 6 + 4);have fz5:=HF9.out.frozen (k * 6 + 5);have hl9:=HF9.out.lt;obtain ⟨y0,cy0⟩:=HF9.out.cell (j:=k * 6) (by omega);obtain ⟨y1,cy1⟩:=HF9.out.cell (j:=k * 6 + 1) (by omega);obtain ⟨y2,cy2⟩:=HF9.out.cell (j:=k * 6 + 2) (by omega);obtain ⟨y3,cy3⟩:=HF9.out.cell (j:=k * 6 + 3) (by omega);obtain ⟨y4,cy4⟩:=HF9.out.cell (j:=k * 6 + 4) (by omega);obtain ⟨y5,cy5⟩:=HF9.out.cell (j:=k * 6 + 5) (by omega);clear hb9 hx9)
    have hset : (((((w9.setCell ⟨w.heap.size,k * 6,none⟩ (.int .i64 y.k)).setCell ⟨w.heap.size,k * 6 + 1,none⟩ (.int .i64 y.op)).setCell ⟨w.heap.size,k * 6 + 2,none⟩ (.int .i64 y.n)).setCell ⟨w.heap.size,k * 6 + 3,none⟩ (.string (bstr y.nm))).setCell ⟨w.heap.size,k * 6 + 4,none⟩ (.slice p9 ny c9)).setCell ⟨w.heap.size,k * 6 + 5,none⟩ (.int .i64 y.a) = setsAt w9 w.heap.size (k * 6) (exCells y (.slice p9 ny c9)) 0:=rfl
    rw [hset]
    have hgy : x.ks.getD k ex00 = y:=by (rw [List.getD_eq_getElem?_getD,HY.out];rfl)
    have HFn : Hid (Filled (setsAt w9 w.heap.size (k * 6) (exCells y (.slice p9 ny c9)) 0) w.heap.size 63 n 6 (k + 1) (fun i => exCells (x.ks.getD i ex00) (if i = k then .slice p9 ny c9 else vs i))):=hid ((HF9.out.congr (G:=fun i => exCells (x.ks.getD i ex00) (if i = k then .slice p9 ny c9 else vs i)) (fun i h => by show _ = exCells _ (if i = k then _ else _);rw [if_neg (by omega)])).more hkl (exCells y (.slice p9 ny c9)) rfl (by show exCells (x.ks.getD k ex00) (if k = k then _ else _) = _;rw [if_pos rfl,hgy]))
    have HXn : Hid (∀ i,i < k + 1 → IsExP (fun b => w.heap.size + 1 ≤ b) (setsAt w9 w.heap.size (k * 6) (exCells y (.slice p9 ny c9)) 0) (x.ks.getD i ex00) (if i = k then .slice p9 ny c9 else vs i)):=hid fun i h => by
     refine IsExP.sets ?_ (Nat.lt_succ_self _) _ _ _
     by_cases he : i = k
     · rw [if_pos he,he,hgy]
       exact HX9.out.weak fun b hb => Nat.le_trans (Nat.succ_le_of_lt HF2.out.lt) hb
     · rw [if_neg he]
       exact ((HXR.out i (by omega)).stay HA.out).stay HB92.out
    have HBn:=hid (below_sets HB9.out (Nat.le_refl _) (k * 6) (exCells y (.slice p9 ny c9)) 0)
    clear hset hgy
    go_wp2
    go_roundw
    case rel => exact ⟨k + 1,by go_num,by omega,HBn.out,_,HFn.out,HXn.out⟩
    case measure =>
     simp [intOf]
     omega
  · have hlt : ¬ (k : Int) < (n : Int):=by omega
    obtain rfl : n = k:=by omega
    go_wp2
    go_ret
    exact ⟨HBR.out,_,rfl,Nat.le_refl _,vs,HFR.out,HXR.out⟩
theorem ex_of_filled {w w' : World} {g n : Nat} (hg : w.heap.size ≤ g) (x : Ex) (hn : x.ks.length = n) (hne : x.ks ≠ []) (vs : Nat → Value) (hf : Filled w' g 63 n 6 n (fun i => exCells (x.ks.getD i ex00) (vs i))) (hx : ∀ i,i < n → IsExP (fun b => w.heap.size + 1 ≤ b) w' (x.ks.getD i ex00) (vs i)) :
 IsExP (fun b => w.heap.size ≤ b) w' x (.slice (some ⟨g,0,none⟩) n n):=by
 subst hn
 obtain ⟨cs,h1,h2,h3⟩:=hf
 have key : ∀ i e,x.ks[i]? = some e → i < x.ks.length ∧ x.ks.getD i ex00 = e:=fun i e h => ⟨(List.getElem?_eq_some_iff.1 h).1,by rw [List.getD_eq_getElem?_getD,h];rfl⟩
 cases x with
 | mk k o m nm ks a =>
  refine .node g _ cs (0,0) vs hg h1 hne (fun i e h j u hu => ?_) fun i e h => ?_
  · obtain ⟨k1,k2⟩:=key i e h
    have hj : j < 6:=(List.getElem?_eq_some_iff.1 hu).1
    exact h3 i k1 j u hj (by show (exCells ((Ex.mk k o m nm ks a).ks.getD i ex00) (vs i))[j]? = _;rw [k2];exact hu)
  · obtain ⟨k1,k2⟩:=key i e h
    have:=hx i k1
    rw [k2] at this
    exact this.weak fun b hb => by omega
theorem cexprs_any (x : Ex) (w : World) (v : Value) (hi : Hid (IsEx 0 w x v)) (hn : x.ks.length ≤ 1000000)
 (hee : Hid (∀ e ∈ x.ks,∀ X v,IsEx 0 X e v → Calls Try.prog 58 #[exVal e v] X (CpE X e))) :
 Calls Try.prog 69 #[v,.func (.func 58) #[] #[]] w fun e w' => Below w.heap.size w w' ∧ ∃ p c,e = .returned (.slice p x.ks.length c) ∧ IsExP (fun b => w.heap.size ≤ b) w' x (.slice p x.ks.length c):=by
 by_cases hne : x.ks = []
 · have hv : v = .slice none 0 0:=by
    cases hi.out with
    | leaf => rfl
    | node _ _ _ _ _ _ _ h => exact absurd hne h
   subst hv
   have heq : (binOp .eql 61 (.slice none 0 0) (.slice none 0 0)).run Try.prog w = .ok (.bool true) w:=Lib.run_eql_slice_nil w _ _ _ _ _ _ _ Try.underlying61
   go_enter Try.func69,Try.ntmps69
   go_wp2
   go_ret
   refine ⟨Below.refl _ _,none,0,by rw [hne];rfl,?_⟩
   cases x with
   | mk k o m nm ks a =>
    cases (show ks = [] from hne)
    exact .leaf
 · obtain ⟨p,c,rfl⟩:=hi.out.form
   obtain ⟨n,hln⟩ : ∃ n,x.ks.length = n:=⟨_,rfl⟩
   have hpos : 0 < n:=by (rw [← hln];exact List.length_pos_iff.2 hne)
   obtain ⟨g,cap,u,hv,_⟩:=hi.out.kid (i:=0) (x:=x.ks[0]'(by omega)) (List.getElem?_eq_getElem (by omega))
   cases hv
   rw [hln] at hn hi ⊢
   refine (cexprs_some x w hi hln hn hee).mono ?_
   rintro e w' ⟨hb,g',rfl,hg,vs,hf,hx⟩
   exact ⟨hb,_,_,rfl,ex_of_filled hg x hln hne vs hf hx⟩
theorem results_ex1 {X : World} {n : Nat} {v0 v1 v2 v3 v4 v5 : Value} {fn : Func} {p : Tmp} (hfn : fn.results = #[.cell p 63]) (tmps : Array Value) (hp : tmps.getD p undef = .pointer (some ⟨n,0,none⟩)) (h : Blk X n v0 v1 v2 v3 v4 v5) :
 (results fn tmps).run Try.prog X = .ok (.agg #[v0,v1,v2,v3,v4,v5]) X:=by
 have hp' : tmps[p]?.getD undef = .pointer (some ⟨n,0,none⟩):=by simpa using hp
 simp [results,hfn,hp',asAddr,run_loadVar_row X n 63 63 _ (0,0) _ h Try.underlying63 rfl (by kernel_rfl)]
theorem cexpr_step (x : Ex) (w : World) (v : Value) (hi : Hid (IsEx 0 w x v)) (hn : x.ks.length ≤ 1000000) (hnm : x.nm.length ≤ 100000)
 (hee : Hid (∀ e ∈ x.ks,∀ X v,IsEx 0 X e v → Calls Try.prog 58 #[exVal e v] X (CpE X e))) :
 Calls Try.prog 58 #[exVal x v] w (CpE w x):=by
 obtain ⟨p,c,rfl⟩:=hi.out.form
 obtain ⟨n,hln⟩ : ∃ n,x.ks.length = n:=⟨_,rfl⟩
 rw [hln] at hi hn ⊢
 have HLN:=hid hln
 have hnb : (bstr x.nm).size ≤ 281474976710656:=by (show x.nm.length ≤ _;omega)
 have HC : Hid (∀ X,Below w.heap.size w X → Calls Try.prog 69 #[.slice p n c,.func (.func 58) #[] #[]] X fun e w' => Below X.heap.size X w' ∧ ∃ p c,e = .returned (.slice p n c) ∧ IsExP (fun b => X.heap.size ≤ b) w' x (.slice p n c)):=hid fun X hX => by
  have h:=cexprs_any x X _ (hid (hi.out.stay hX)) (by omega) hee
  rw [HLN.out] at h
  exact h
 clear hln hnm
 go_enter Try.func58,Try.ntmps58
 go_upto_region 1 with (fail)
 refine name_world ?_
 intro W1 hW1
 have BA : Blk W1 w.heap.size (.int .i64 x.k) (.int .i64 x.op) (.int .i64 x.n) (.string (bstr x.nm)) (.slice p n c) (.int .i64 x.a):=by (rw [hW1];exact (Blk.new rfl _ _ _ _ _ _).alloc _)
 have BB : Blk W1 (w.heap.size + 1) (.int .i64 0) (.int .i64 0) (.int .i64 0) (.string ⟨#[]⟩) (.slice none 0 0) (.int .i64 0):=by (rw [hW1];exact Blk.new (by simp) _ _ _ _ _ _)
 have HB1 : Hid (Below w.heap.size w W1):=hid (by rw [hW1];exact ((Below.refl _ _).alloc (Nat.le_refl _) _).alloc (by simp) _)
 clear hW1
 obtain ⟨al,a0,a1,a2,a3,a4,a5,f0,f1,f2,f3,f4,f5⟩:=BA.facts
 go_upto_region 2 with (go_at_call 33;(with_reducible refine (clone_any _ _ hnb).mono ?_);rintro e1 w1 ⟨rfl,hb1⟩;have HB2:=hid (below_ch HB1.out hb1);replace BA:=BA.stay hb1;replace BB:=BB.stay hb1;obtain ⟨al1,a01,a11,a21,a31,a41,a51,f01,f11,f21,f31,f41,f51⟩:=BA.facts;clear hb1)
 refine name_world ?_
 intro W2 hW2
 replace BA : Blk W2 w.heap.size (.int .i64 x.k) (.int .i64 x.op) (.int .i64 x.n) (.string (bstr x.nm)) (.slice p n c) (.int .i64 x.a):=by (rw [hW2];exact BA.set3 _)
 replace BB : Blk W2 (w.heap.size + 1) (.int .i64 0) (.int .i64 0) (.int .i64 0) (.string ⟨#[]⟩) (.slice none 0 0) (.int .i64 0):=by (rw [hW2];exact BB.setO (by omega) _ _)
 have HB3 : Hid (Below w.heap.size w W2):=hid (by (rw [hW2];exact HB2.out.setCell (by simp) _))
 clear hW2 HB1 HB2 al a0 a1 a2 a3 a4 a5 f0 f1 f2 f3 f4 f5 al1 a01 a11 a21 a31 a41 a51 f01 f11 f21 f31 f41 f51
 obtain ⟨al,a0,a1,a2,a3,a4,a5,f0,f1,f2,f3,f4,f5⟩:=BA.facts
 obtain ⟨bl,_⟩:=BB.facts
 go_upto_region 3 with (go_at_call 69;(with_reducible refine (HC.out _ HB3.out).mono ?_);rintro e1 w1 ⟨hb1,p1,c1,rfl,hx1⟩;have HX1:=hid hx1;have HB4:=hid (below_ch HB3.out hb1);replace BA:=BA.stay hb1;replace BB:=BB.stay hb1;obtain ⟨al1,a01,a11,a21,a31,a41,a51,f01,f11,f21,f31,f41,f51⟩:=BA.facts;clear hb1 hx1)
 refine name_world ?_
 intro W3 hW3
 have BA3 : Blk W3 w.heap.size (.int .i64 x.k) (.int .i64 x.op) (.int .i64 x.n) (.string (bstr x.nm)) (.slice p1 n c1) (.int .i64 x.a):=by (rw [hW3];exact BA.set4 _)
 have BB3 : Blk W3 (w.heap.size + 1) (.int .i64 0) (.int .i64 0) (.int .i64 0) (.string ⟨#[]⟩) (.slice none 0 0) (.int .i64 0):=by (rw [hW3];exact BB.setO (by omega) _ _)
 have HB5 : Hid (Below w.heap.size w W3):=hid (by (rw [hW3];exact HB4.out.setCell (by simp) _))
 have HX3 : Hid (IsExP (fun b => W2.heap.size ≤ b) W3 x (.slice p1 n c1)):=hid (by (rw [hW3];exact HX1.out.set (fun g hg => by omega) _ _))
 clear hW3 HB4 HX1 BA BB al a0 a1 a2 a3 a4 a5 f0 f1 f2 f3 f4 f5 al1 a01 a11 a21 a31 a41 a51 f01 f11 f21 f31 f41 f51
 obtain ⟨al3,a0,a1,a2,a3,a4,a5,_⟩:=BA3.facts
 obtain ⟨bl3,b0,b1,b2,b3,b4,b5,f0,f1,f2,f3,f4,f5⟩:=BB3.facts
 go_wp2
 refine bodyPost_ret (results_ex1 rfl _ rfl (BB3.all _ _ _ _ _ _)) rfl ⟨?_,p1,c1,?_,?_⟩
 · exact (((((HB5.out.setCell (by simp) _).setCell (by simp) _).setCell (by simp) _).setCell (by simp) _).setCell (by simp) _).setCell (by simp) _
 · rw [HLN.out]
 · rw [HLN.out]
   have h : ∀ g,W2.heap.size ≤ g → g ≠ w.heap.size + 1:=fun g hg => by omega
   exact ((((((HX3.out.set h _ _).set h _ _).set h _ _).set h _ _).set h _ _).set h _ _).weak fun b hb => by omega
theorem cexpr_any : ∀ (x : Ex),ShE x → ∀ (w : World) (v : Value),IsEx 0 w x v → Calls Try.prog 58 #[exVal x v] w (CpE w x):=by
 intro x hs
 induction hs with
 | mk h1 h2 _ ih => exact fun w v hi => cexpr_step _ w v (hid hi) h2 h1 (hid fun e he X u hu => ih e he X u hu)
abbrev stVal (s : Stm) (v : SV) : Value:=.agg #[.int .i64 s.k,.int .i64 s.a,.bool s.tr,.bool s.sc,.string (bstr s.nm),v.i,v.e,v.b,v.l]
def st00 : Stm:=.mk 0 0 false false [] [] [] [] []
inductive ShS : Stm → Prop
 | mk {k a : Int} {tr sc : Bool} {nm : List UInt8} {ix es : List Ex} {bd el : List Stm} : nm.length ≤ 100000 → ix.length ≤ 1000000 → es.length ≤ 1000000 → bd.length ≤ 1000000 → el.length ≤ 1000000 → (∀ e ∈ ix,ShE e) → (∀ e ∈ es,ShE e) → (∀ s ∈ bd,ShS s) → (∀ s ∈ el,ShS s) → ShS (.mk k a tr sc nm ix es bd el)
theorem IsSts.stay {ok : Nat → Prop} {W X : World} {l : List Stm} {v : Value} (h : IsSts ok W l v) (k : Below W.heap.size W X) : IsSts ok X l v:=h.kept fun g hg hl => ⟨k.block g hl,hg⟩
theorem IsSt1.stay {ok : Nat → Prop} {W X : World} {s : Stm} {v : SV} (h : IsSt1 ok W s v) (k : Below W.heap.size W X) : IsSt1 ok X s v:=h.kept fun g hg hl => ⟨k.block g hl,hg⟩
theorem IsSt1.set {ok : Nat → Prop} {W : World} {s : Stm} {v : SV} (h : IsSt1 ok W s v) {b : Nat} (hb : ∀ g,ok g → g ≠ b) (o : Nat) (x : Value) : IsSt1 ok (W.setCell ⟨b,o,none⟩ x) s v:=h.kept fun g hg _ => ⟨heap_setCell_other W ⟨b,o,none⟩ g x (hb g hg),hg⟩
theorem IsSts.set {ok : Nat → Prop} {W : World} {s : List Stm} {v : Value} (h : IsSts ok W s v) {b : Nat} (hb : ∀ g,ok g → g ≠ b) (o : Nat) (x : Value) : IsSts ok (W.setCell ⟨b,o,none⟩ x) s v:=h.kept fun g hg _ => ⟨heap_setCell_other W ⟨b,o,none⟩ g x (hb g hg),hg⟩
theorem IsSt1.sets {lo g : Nat} {W : World} {s : Stm} {v : SV} (h : IsSt1 (fun b => lo ≤ b) W s v) (hg : g < lo) (o : Nat) (us : List Value) (i : Nat) : IsSt1 (fun b => lo ≤ b) (setsAt W g o us i) s v :=
 h.kept fun b hb _ => ⟨setsAt_other g o b (by omega) us i W,hb⟩
theorem IsSts.one {ok : Nat → Prop} {W : World} {l : List Stm} {v : Value} (h : IsSts ok W l v) {i : Nat} {s : Stm} (hs : l[i]? = some s) :
 ∃ g cap u,v = .slice (some ⟨g,0,none⟩) l.length cap ∧ ok g ∧ g < W.heap.size ∧ IsSt1 ok W s u ∧ ∀ j x,(stCells s u)[j]? = some x → W.cell? ⟨g,i * 9 + j,none⟩ = some x:=by
 cases h with
 | nil => simp at hs
 | node g cap cs fr vs hg hb hne hc hi he h1 h2 =>
  exact ⟨g,cap,vs i,rfl,hg,(Array.getElem?_eq_some_iff.1 hb).1,⟨hi i s hs,he i s hs,h1 i s hs,h2 i s hs⟩,fun j x hx => (cell_of_row _ _ _ _ _ _ hb).trans (hc i s hs j x hx)⟩
def CpS (X : World) (s : Stm) (r : Ending) (w' : World) : Prop:=Below X.heap.size X w' ∧ ∃ z0 k0 z1 k1 z2 k2 z3 k3,r = .returned (stVal s ⟨.slice z0 s.ix.length k0,.slice z1 s.es.length k1,.slice z2 s.bd.length k2,.slice z3 s.el.length k3⟩) ∧ IsSt1 (fun g => X.heap.size ≤ g) w' s ⟨.slice z0 s.ix.length k0,.slice z1 s.es.length k1,.slice z2 s.bd.length k2,.slice z3 s.el.length k3⟩
theorem csts_some (l : List Stm) {gs c n : Nat} (w : World) (hi : Hid (IsSts (fun g => 0 ≤ g) w l (.slice (some ⟨gs,0,none⟩) n c))) (hln : l.length = n) (hn : n ≤ 1000000)
 (hee : Hid (∀ s ∈ l,∀ X v,IsSt1 (fun g => 0 ≤ g) X s v → Calls Try.prog 57 #[stVal s v] X (CpS X s))) :
 Calls Try.prog 56 #[.slice (some ⟨gs,0,none⟩) n c,.func (.func 57) #[] #[]] w fun e w' => Below w.heap.size w w' ∧ ∃ g,e = .returned (.slice (some ⟨g,0,none⟩) n n) ∧ w.heap.size ≤ g ∧ ∃ vs : Nat → SV,Filled w' g 141 n 9 n (fun i => stCells (l.getD i st00) (vs i)) ∧ ∀ i,i < n → IsSt1 (fun b => w.heap.size + 1 ≤ b) w' (l.getD i st00) (vs i):=by
 obtain ⟨i0,hinf,hzi0,hzi1,hzi2⟩:=info_parts infoSt
 have hmk : (Instr.makeSlice 60 (.int .i64 n) (.int .i64 n)).run Try.prog w = .ok (.slice (some ⟨w.heap.size,0,none⟩) n n) (w.alloc (.cells (madeCells (Value.agg #[.int .i64 0,.int .i64 0,.bool false,.bool false,.string ⟨#[]⟩,.slice none 0 0,.slice none 0 0,.slice none 0 0,.slice none 0 0]).cells (n * 9)) 141)):=by
  have h:=run_make (P:=Try.prog) w 60 141 i0 _ Try.underlying60 hinf hzi0 .i64 .i64 n n (by omega) (Int.le_refl _) (by rw [hzi2];omega) (by omega)
  rw [hzi1] at h
  simpa using h
 have heq : (binOp .eql 60 (.slice (some ⟨gs,0,none⟩) n c) (.slice none 0 0)).run Try.prog w = .ok (.bool false) w:=Lib.run_eql_slice_nil w _ _ _ _ _ _ _ Try.underlying60
 have HLN:=hid hln
 clear hln
 go_enter Try.func56,Try.ntmps56
 go_upto_region 4 with (fail)
 refine name_world ?_
 intro W1 hW1
 have HF0 : Filled W1 w.heap.size 141 n 9 0 (fun i => stCells (l.getD i st00) ⟨undef,undef,undef,undef⟩):=by (rw [hW1];exact Filled.zero _ _)
 have HB1 : Below w.heap.size w W1:=by (rw [hW1];exact (Below.refl _ _).alloc (Nat.le_refl _) _)
 have hgg : w.heap.size < W1.heap.size:=HF0.lt
 have hHF:=hid HF0
 have hHB:=hid HB1
 clear HF0 HB1 hW1 hmk hinf hzi0 hzi1 hzi2
 go_wp2
 go_loopw [15] (fun iv wr => ∃ k : Nat,iv = .int .i64 k ∧ k ≤ n ∧ Below w.heap.size w wr ∧ ∃ vs : Nat → SV,Filled wr w.heap.size 141 n 9 k (fun i => stCells (l.getD i st00) (vs i)) ∧ ∀ i,i < k → IsSt1 (fun b => w.heap.size + 1 ≤ b) wr (l.getD i st00) (vs i)) (fun iv _ => n - (intOf iv).toNat)
 case atStart => exact ⟨0,rfl,Nat.zero_le _,hHB.out,_,hHF.out,fun i h => absurd h (Nat.not_lt_zero i)⟩
 case round =>
  obtain ⟨k,rfl,hk,hbr,vs,hfr,hxr⟩:=hrel
  have HBR:=hid hbr
  have HFR:=hid hfr
  have HXR:=hid hxr
  by_cases hkl : k < n
  · obtain ⟨y,hy⟩ : ∃ y,l[k]? = some y:=⟨_,List.getElem?_eq_getElem (by (have:=HLN.out;omega))⟩
    obtain ⟨g0,cap0,u0,hv0,_,hgl,hy1,hcc⟩:=(hi.out.stay hbr).one hy
    rw [HLN.out] at hv0
    cases hv0
    obtain ⟨p0,c0,p1,c1,p2,c2,p3,c3,rfl⟩:=hy1.slices
    obtain ⟨n0,hn0⟩ : ∃ q,y.ix.length = q:=⟨_,rfl⟩
    obtain ⟨n1,hn1⟩ : ∃ q,y.es.length = q:=⟨_,rfl⟩
    obtain ⟨n2,hn2⟩ : ∃ q,y.bd.length = q:=⟨_,rfl⟩
    obtain ⟨n3,hn3⟩ : ∃ q,y.el.length = q:=⟨_,rfl⟩
    rw [hn0,hn1,hn2,hn3] at hy1 hcc
    have hlt : (k : Int) < (n : Int):=by omega
    have hk0 : (0 : Int) ≤ (k : Int):=Int.natCast_nonneg _
    have d0 : wr.cell? ⟨gs,k * 9,none⟩ = some (.int .i64 y.k):=hcc 0 _ rfl
    have d1 : wr.cell? ⟨gs,k * 9 + 1,none⟩ = some (.int .i64 y.a):=hcc 1 _ rfl
    have d2 : wr.cell? ⟨gs,k * 9 + 2,none⟩ = some (.bool y.tr):=hcc 2 _ rfl
    have d3 : wr.cell? ⟨gs,k * 9 + 3,none⟩ = some (.bool y.sc):=hcc 3 _ rfl
    have d4 : wr.cell? ⟨gs,k * 9 + 4,none⟩ = some (.string (bstr y.nm)):=hcc 4 _ rfl
    have d5 : wr.cell? ⟨gs,k * 9 + 5,none⟩ = some (.slice p0 n0 c0):=hcc 5 _ rfl
    have d6 : wr.cell? ⟨gs,k * 9 + 6,none⟩ = some (.slice p1 n1 c1):=hcc 6 _ rfl
    have d7 : wr.cell? ⟨gs,k * 9 + 7,none⟩ = some (.slice p2 n2 c2):=hcc 7 _ rfl
    have d8 : wr.cell? ⟨gs,k * 9 + 8,none⟩ = some (.slice p3 n3 c3):=hcc 8 _ rfl
    have HY:=hid hy
    have HY1:=hid hy1
    have HN : Hid (y.ix.length = n0 ∧ y.es.length = n1 ∧ y.bd.length = n2 ∧ y.el.length = n3):=hid ⟨hn0,hn1,hn2,hn3⟩
    have HC : Hid (∀ X,Below wr.heap.size wr X → Calls Try.prog 57 #[.agg #[.int .i64 y.k,.int .i64 y.a,.bool y.tr,.bool y.sc,.string (bstr y.nm),.slice p0 n0 c0,.slice p1 n1 c1,.slice p2 n2 c2,.slice p3 n3 c3]] X fun r w' => Below X.heap.size X w' ∧ ∃ z0 k0 z1 k1 z2 k2 z3 k3,r = .returned (.agg #[.int .i64 y.k,.int .i64 y.a,.bool y.tr,.bool y.sc,.string (bstr y.nm),.slice z0 n0 k0,.slice z1 n1 k1,.slice z2 n2 k2,.slice z3 n3 k3]) ∧ IsSt1 (fun g => X.heap.size ≤ g) w' y ⟨.slice z0 n0 k0,.slice z1 n1 k1,.slice z2 n2 k2,.slice z3 n3 k3⟩):=hid fun X hX => by
     have h:=hee.out y (List.mem_of_getElem? hy) X _ (HY1.out.stay hX)
     unfold CpS at h
     rw [hn0,hn1,hn2,hn3] at h
     exact h
    clear hbr hfr hxr hy hy1 hn0 hn1 hn2 hn3 hcc
    go_upto_region 7 with (fail)
    refine name_world ?_
    intro W2 hW2
    have HP : SBlk W2 wr.heap.size y.k y.a y.tr y.sc (bstr y.nm) (.slice p0 n0 c0) (.slice p1 n1 c1) (.slice p2 n2 c2) (.slice p3 n3 c3):=by (rw [hW2];exact SBlk.new rfl)
    have HA : Hid (Below wr.heap.size wr W2):=hid (by (rw [hW2];exact (Below.refl _ _).alloc (Nat.le_refl _) _))
    have HB2 : Hid (Below w.heap.size w W2):=hid (below_ch HBR.out HA.out)
    have HF2 : Hid (Filled W2 w.heap.size 141 n 9 k (fun i => stCells (l.getD i st00) (vs i))):=hid (HFR.out.stay HA.out)
    obtain ⟨pl,⟨pc0,pc1,pc2,pc3,pc4,pc5,pc6,pc7,pc8⟩,_⟩:=HP.facts
    clear hW2 d0 d1 d2 d3 d4 d5 d6 d7 d8 HP
    go_upto_region 8 with (go_at_call 57;(with_reducible refine (HC.out _ HA.out).mono ?_);rintro e1 w9 ⟨hb9,z0,k0,z1,k1,z2,k2,z3,k3,rfl,hx9⟩;have HX9:=hid hx9;have HB92:=hid hb9;have HF9:=hid (HF2.out.stay hb9);have HB9:=hid (below_ch HB2.out hb9);have hl9:=HF9.out.lt;have fz0:=HF9.out.frozen (k * 9);obtain ⟨y0,cy0⟩:=HF9.out.cell (j:=k * 9) (by omega);have fz1:=HF9.out.frozen (k * 9 + 1);obtain ⟨y1,cy1⟩:=HF9.out.cell (j:=k * 9 + 1) (by omega);have fz2:=HF9.out.frozen (k * 9 + 2);obtain ⟨y2,cy2⟩:=HF9.out.cell (j:=k * 9 + 2) (by omega);have fz3:=HF9.out.frozen (k * 9 + 3);obtain ⟨y3,cy3⟩:=HF9.out.cell (j:=k * 9 + 3) (by omega);have fz4:=HF9.out.frozen (k * 9 + 4);obtain ⟨y4,cy4⟩:=HF9.out.cell (j:=k * 9 + 4) (by omega);have fz5:=HF9.out.frozen (k * 9 + 5);obtain ⟨y5,cy5⟩:=HF9.out.cell (j:=k * 9 + 5) (by omega);have fz6:=HF9.out.frozen (k * 9 + 6);obtain ⟨y6,cy6⟩:=HF9.out.cell (j:=k * 9 + 6) (by omega);have fz7:=HF9.out.frozen (k * 9 + 7);obtain ⟨y7,cy7⟩:=HF9.out.cell (j:=k * 9 + 7) (by omega);have fz8:=HF9.out.frozen (k * 9 + 8);obtain ⟨y8,cy8⟩:=HF9.out.cell (j:=k * 9 + 8) (by omega);clear hb9 hx9)
    have hset : (((((((((w9.setCell ⟨w.heap.size,k * 9,none⟩ (.int .i64 y.k)).setCell ⟨w.heap.size,k * 9 + 1,none⟩ (.int .i64 y.a)).setCell ⟨w.heap.size,k * 9 + 2,none⟩ (.bool y.tr)).setCell ⟨w.heap.size,k * 9 + 3,none⟩ (.bool y.sc)).setCell ⟨w.heap.size,k * 9 + 4,none⟩ (.string (bstr y.nm))).setCell ⟨w.heap.size,k * 9 + 5,none⟩ (.slice z0 n0 k0)).setCell ⟨w.heap.size,k * 9 + 6,none⟩ (.slice z1 n1 k1)).setCell ⟨w.heap.size,k * 9 + 7,none⟩ (.slice z2 n2 k2)).setCell ⟨w.heap.size,k * 9 + 8,none⟩ (.slice z3 n3 k3)) = setsAt w9 w.heap.size (k * 9) (stCells y ⟨.slice z0 n0 k0,.slice z1 n1 k1,.slice z2 n2 k2,.slice z3 n3 k3⟩) 0:=rfl
    rw [hset]
    have hgy : l.getD k st00 = y:=by (rw [List.getD_eq_getElem?_getD,HY.out];rfl)
    have HFn : Hid (Filled (setsAt w9 w.heap.size (k * 9) (stCells y ⟨.slice z0 n0 k0,.slice z1 n1 k1,.slice z2 n2 k2,.slice z3 n3 k3⟩) 0) w.heap.size 141 n 9 (k + 1) (fun i => stCells (l.getD i st00) (if i = k then ⟨.slice z0 n0 k0,.slice z1 n1 k1,.slice z2 n2 k2,.slice z3 n3 k3⟩ else vs i))):=hid ((HF9.out.congr (G:=fun i => stCells (l.getD i st00) (if i = k then ⟨.slice z0 n0 k0,.slice z1 n1 k1,.slice z2 n2 k2,.slice z3 n3 k3⟩ else vs i)) (fun i h => by show _ = stCells _ (if i = k then _ else _);rw [if_neg (by omega)])).more hkl (stCells y ⟨.slice z0 n0 k0,.slice z1 n1 k1,.slice z2 n2 k2,.slice z3 n3 k3⟩) rfl (by show stCells (l.getD k st00) (if k = k then _ else _) = _;rw [if_pos rfl,hgy]))
    have HXn : Hid (∀ i,i < k + 1 → IsSt1 (fun b => w.heap.size + 1 ≤ b) (setsAt w9 w.heap.size (k * 9) (stCells y ⟨.slice z0 n0 k0,.slice z1 n1 k1,.slice z2 n2 k2,.slice z3 n3 k3⟩) 0) (l.getD i st00) (if i = k then ⟨.slice z0 n0 k0,.slice z1 n1 k1,.slice z2 n2 k2,.slice z3 n3 k3⟩ else vs i)):=hid fun i h => by
     refine IsSt1.sets ?_ (Nat.lt_succ_self _) _ _ _
     by_cases he : i = k
     · rw [if_pos he,he,hgy]
       exact HX9.out.weak fun b hb => Nat.le_trans (Nat.succ_le_of_lt HF2.out.lt) hb
     · rw [if_neg he]
       exact ((HXR.out i (by omega)).stay HA.out).stay HB92.out
    have HBn:=hid (below_sets HB9.out (Nat.le_refl _) (k * 9) (stCells y ⟨.slice z0 n0 k0,.slice z1 n1 k1,.slice z2 n2 k2,.slice z3 n3 k3⟩) 0)
    clear hset hgy
    go_wp2
    go_roundw
    case rel => exact ⟨k + 1,by go_num,by omega,HBn.out,_,HFn.out,HXn.out⟩
    case measure =>
     simp [intOf]
     omega
  · have hlt : ¬ (k : Int) < (n : Int):=by omega
    obtain rfl : n = k:=by omega
    go_wp2
    go_ret
    exact ⟨HBR.out,_,rfl,Nat.le_refl _,vs,HFR.out,HXR.out⟩
theorem sts_of_filled {w w' : World} {g n : Nat} (hg : w.heap.size ≤ g) (l : List Stm) (hn : l.length = n) (hne : l ≠ []) (vs : Nat → SV) (hf : Filled w' g 141 n 9 n (fun i => stCells (l.getD i st00) (vs i))) (hx : ∀ i,i < n → IsSt1 (fun b => w.heap.size + 1 ≤ b) w' (l.getD i st00) (vs i)) :
 IsSts (fun b => w.heap.size ≤ b) w' l (.slice (some ⟨g,0,none⟩) n n):=by
 subst hn
 obtain ⟨cs,h1,h2,h3⟩:=hf
 have key : ∀ i e,l[i]? = some e → i < l.length ∧ l.getD i st00 = e:=fun i e h => ⟨(List.getElem?_eq_some_iff.1 h).1,by rw [List.getD_eq_getElem?_getD,h];rfl⟩
 have key2 : ∀ i e,l[i]? = some e → IsSt1 (fun b => w.heap.size ≤ b) w' e (vs i):=fun i e h => by
  obtain ⟨k1,k2⟩:=key i e h
  have:=hx i k1
  rw [k2] at this
  exact this.weak fun b hb => by omega
 refine .node g _ cs (0,0) vs hg h1 hne (fun i e h j u hu => ?_) (fun i e h => (key2 i e h).1) (fun i e h => (key2 i e h).2.1) (fun i e h => (key2 i e h).2.2.1) (fun i e h => (key2 i e h).2.2.2)
 obtain ⟨k1,k2⟩:=key i e h
 have hj : j < 9:=(List.getElem?_eq_some_iff.1 hu).1
 exact h3 i k1 j u hj (by show (stCells (l.getD i st00) (vs i))[j]? = _;rw [k2];exact hu)
theorem csts_any (l : List Stm) (w : World) (v : Value) (hi : Hid (IsSts (fun g => 0 ≤ g) w l v)) (hn : l.length ≤ 1000000)
 (hee : Hid (∀ s ∈ l,∀ X v,IsSt1 (fun g => 0 ≤ g) X s v → Calls Try.prog 57 #[stVal s v] X (CpS X s))) :
 Calls Try.prog 56 #[v,.func (.func 57) #[] #[]] w fun e w' => Below w.heap.size w w' ∧ ∃ p c,e = .returned (.slice p l.length c) ∧ IsSts (fun b => w.heap.size ≤ b) w' l (.slice p l.length c):=by
 by_cases hne : l = []
 · have hv : v = .slice none 0 0:=by
    cases hi.out with
    | nil => rfl
    | node _ _ _ _ _ _ _ h => exact absurd hne h
   subst hv
   have heq : (binOp .eql 60 (.slice none 0 0) (.slice none 0 0)).run Try.prog w = .ok (.bool true) w:=Lib.run_eql_slice_nil w _ _ _ _ _ _ _ Try.underlying60
   go_enter Try.func56,Try.ntmps56
   go_wp2
   go_ret
   refine ⟨Below.refl _ _,none,0,by rw [hne];rfl,?_⟩
   cases hne
   exact .nil
 · obtain ⟨p,c,rfl⟩:=hi.out.form
   obtain ⟨n,hln⟩ : ∃ n,l.length = n:=⟨_,rfl⟩
   have hpos : 0 < n:=by (rw [← hln];exact List.length_pos_iff.2 hne)
   obtain ⟨g,cap,u,hv,_⟩:=hi.out.one (i:=0) (s:=l[0]'(by omega)) (List.getElem?_eq_getElem (by omega))
   cases hv
   rw [hln] at hn hi ⊢
   refine (csts_some l w hi hln hn hee).mono ?_
   rintro e w' ⟨hb,g',rfl,hg,vs,hf,hx⟩
   exact ⟨hb,_,_,rfl,sts_of_filled hg l hln hne vs hf hx⟩
theorem exsE_ks (l : List Ex) : (exsE l).ks = l:=rfl
theorem cstmt_step (y : Stm) (w : World) (v : SV) (hi : Hid (IsSt1 (fun g => 0 ≤ g) w y v)) (hnm : y.nm.length ≤ 100000) (h0 : y.ix.length ≤ 1000000) (h1 : y.es.length ≤ 1000000) (h2 : y.bd.length ≤ 1000000) (h3 : y.el.length ≤ 1000000) (hx0 : ∀ e ∈ y.ix,ShE e) (hx1 : ∀ e ∈ y.es,ShE e)
 (hee : Hid (∀ s,s ∈ y.bd ∨ s ∈ y.el → ∀ X v,IsSt1 (fun g => 0 ≤ g) X s v → Calls Try.prog 57 #[stVal s v] X (CpS X s))) :
 Calls Try.prog 57 #[stVal y v] w (CpS w y):=by
 obtain ⟨p0,c0,p1,c1,p2,c2,p3,c3,rfl⟩:=hi.out.slices
 obtain ⟨n0,hn0⟩ : ∃ q,y.ix.length = q:=⟨_,rfl⟩
 obtain ⟨n1,hn1⟩ : ∃ q,y.es.length = q:=⟨_,rfl⟩
 obtain ⟨n2,hn2⟩ : ∃ q,y.bd.length = q:=⟨_,rfl⟩
 obtain ⟨n3,hn3⟩ : ∃ q,y.el.length = q:=⟨_,rfl⟩
 have hnb : (bstr y.nm).size ≤ 281474976710656:=by (show y.nm.length ≤ _;omega)
 have HN : Hid (y.ix.length = n0 ∧ y.es.length = n1 ∧ y.bd.length = n2 ∧ y.el.length = n3):=hid ⟨hn0,hn1,hn2,hn3⟩
 have HC0 : Hid (∀ X,Below w.heap.size w X → Calls Try.prog 69 #[.slice p0 n0 c0,.func (.func 58) #[] #[]] X fun e w' => Below X.heap.size X w' ∧ ∃ p c,e = .returned (.slice p n0 c) ∧ IsExP (fun b => X.heap.size ≤ b) w' (exsE y.ix) (.slice p n0 c)):=hid fun X hX => by
  have h:=cexprs_any (exsE y.ix) X _ (hid ((hi.out.1.stay hX).toEx (lo:=0) fun g _ => Nat.zero_le g)) (by rw [exsE_ks];omega) (hid fun e he X v hv => cexpr_any e (hx0 e he) X v hv)
  rw [exsE_ks,hn0] at h
  exact h
 have HC1 : Hid (∀ X,Below w.heap.size w X → Calls Try.prog 69 #[.slice p1 n1 c1,.func (.func 58) #[] #[]] X fun e w' => Below X.heap.size X w' ∧ ∃ p c,e = .returned (.slice p n1 c) ∧ IsExP (fun b => X.heap.size ≤ b) w' (exsE y.es) (.slice p n1 c)):=hid fun X hX => by
  have h:=cexprs_any (exsE y.es) X _ (hid ((hi.out.2.1.stay hX).toEx (lo:=0) fun g _ => Nat.zero_le g)) (by rw [exsE_ks];omega) (hid fun e he X v hv => cexpr_any e (hx1 e he) X v hv)
  rw [exsE_ks,hn1] at h
  exact h
 have HC2 : Hid (∀ X,Below w.heap.size w X → Calls Try.prog 56 #[.slice p2 n2 c2,.func (.func 57) #[] #[]] X fun e w' => Below X.heap.size X w' ∧ ∃ p c,e = .returned (.slice p n2 c) ∧ IsSts (fun b => X.heap.size ≤ b) w' y.bd (.slice p n2 c)):=hid fun X hX => by
  have h:=csts_any y.bd X _ (hid (hi.out.2.2.1.stay hX)) h2 (hid fun s hs X v hv => hee.out s (.inl hs) X v hv)
  rw [hn2] at h
  exact h
 have HC3 : Hid (∀ X,Below w.heap.size w X → Calls Try.prog 56 #[.slice p3 n3 c3,.func (.func 57) #[] #[]] X fun e w' => Below X.heap.size X w' ∧ ∃ p c,e = .returned (.slice p n3 c) ∧ IsSts (fun b => X.heap.size ≤ b) w' y.el (.slice p n3 c)):=hid fun X hX => by
  have h:=csts_any y.el X _ (hid (hi.out.2.2.2.stay hX)) h3 (hid fun s hs X v hv => hee.out s (.inr hs) X v hv)
  rw [hn3] at h
  exact h
 rw [hn0,hn1,hn2,hn3]
 clear hn0 hn1 hn2 hn3 hnm h0 h1 h2 h3 hx0 hx1
 go_enter Try.func57,Try.ntmps57
 go_upto_region 1 with (fail)
 refine name_world ?_
 intro W1 hW1
 have BA : SBlk W1 w.heap.size y.k y.a y.tr y.sc (bstr y.nm) (.slice p0 n0 c0) (.slice p1 n1 c1) (.slice p2 n2 c2) (.slice p3 n3 c3):=by (rw [hW1];exact (SBlk.new rfl).alloc _)
 have BB : SBlk W1 (w.heap.size + 1) 0 0 false false ⟨#[]⟩ (.slice none 0 0) (.slice none 0 0) (.slice none 0 0) (.slice none 0 0):=by (rw [hW1];exact SBlk.new (by simp))
 have HB : Hid (Below w.heap.size w W1):=hid (by rw [hW1];exact ((Below.refl _ _).alloc (Nat.le_refl _) _).alloc (by simp) _)
 clear hW1
 obtain ⟨al,⟨ac0,ac1,ac2,ac3,ac4,ac5,ac6,ac7,ac8⟩,⟨af0,af1,af2,af3,af4,af5,af6,af7,af8⟩⟩:=BA.facts
 have bl:=BB.facts.1
 go_upto_region 2 with (go_at_call 33;(with_reducible refine (clone_any _ _ hnb).mono ?_);rintro e1 w1 ⟨rfl,hb1⟩;have HBx:=hid (below_ch HB.out hb1);replace BA:=BA.stay hb1;replace BB:=BB.stay hb1;obtain ⟨xl,⟨xc0,xc1,xc2,xc3,xc4,xc5,xc6,xc7,xc8⟩,⟨xf0,xf1,xf2,xf3,xf4,xf5,xf6,xf7,xf8⟩⟩:=BA.facts;clear hb1)
 refine name_world ?_
 intro W2 hW2
 replace BA : SBlk W2 w.heap.size y.k y.a y.tr y.sc (bstr y.nm) (.slice p0 n0 c0) (.slice p1 n1 c1) (.slice p2 n2 c2) (.slice p3 n3 c3):=by (rw [hW2];exact (BA.set4 _))
 replace BB : SBlk W2 (w.heap.size + 1) 0 0 false false ⟨#[]⟩ (.slice none 0 0) (.slice none 0 0) (.slice none 0 0) (.slice none 0 0):=by (rw [hW2];exact (BB.setO (by omega) _ _))
 replace HB : Hid (Below w.heap.size w W2):=hid (by (rw [hW2];exact (HBx.out.setCell (by simp) _)))
 clear hW2 HBx al ac0 ac1 ac2 ac3 ac4 ac5 ac6 ac7 ac8 af0 af1 af2 af3 af4 af5 af6 af7 af8 xl xc0 xc1 xc2 xc3 xc4 xc5 xc6 xc7 xc8 xf0 xf1 xf2 xf3 xf4 xf5 xf6 xf7 xf8
 obtain ⟨al,⟨ac0,ac1,ac2,ac3,ac4,ac5,ac6,ac7,ac8⟩,⟨af0,af1,af2,af3,af4,af5,af6,af7,af8⟩⟩:=BA.facts
 have bl:=BB.facts.1
 go_upto_region 3 with (go_at_call 69;(with_reducible refine (HC0.out _ HB.out).mono ?_);rintro e1 w1 ⟨hb1,q0,e0,rfl,hx1⟩;have HX0:=hid (hx1.kept (ok':=fun b => w.heap.size + 2 ≤ b) fun g hg _ => ⟨rfl,by omega⟩);clear hx1;have HBx:=hid (below_ch HB.out hb1);replace BA:=BA.stay hb1;replace BB:=BB.stay hb1;obtain ⟨xl,⟨xc0,xc1,xc2,xc3,xc4,xc5,xc6,xc7,xc8⟩,⟨xf0,xf1,xf2,xf3,xf4,xf5,xf6,xf7,xf8⟩⟩:=BA.facts;clear hb1)
 refine name_world ?_
 intro W3 hW3
 replace BA : SBlk W3 w.heap.size y.k y.a y.tr y.sc (bstr y.nm) (.slice q0 n0 e0) (.slice p1 n1 c1) (.slice p2 n2 c2) (.slice p3 n3 c3):=by (rw [hW3];exact (BA.set5 _))
 replace BB : SBlk W3 (w.heap.size + 1) 0 0 false false ⟨#[]⟩ (.slice none 0 0) (.slice none 0 0) (.slice none 0 0) (.slice none 0 0):=by (rw [hW3];exact (BB.setO (by omega) _ _))
 replace HB : Hid (Below w.heap.size w W3):=hid (by (rw [hW3];exact (HBx.out.setCell (by simp) _)))
 replace HX0 : Hid (IsExP (fun b => w.heap.size + 2 ≤ b) W3 (exsE y.ix) (.slice q0 n0 e0)):=hid (by (rw [hW3];exact (HX0.out.set (fun g hg => by omega) _ _)))
 clear hW3 HBx al ac0 ac1 ac2 ac3 ac4 ac5 ac6 ac7 ac8 af0 af1 af2 af3 af4 af5 af6 af7 af8 xl xc0 xc1 xc2 xc3 xc4 xc5 xc6 xc7 xc8 xf0 xf1 xf2 xf3 xf4 xf5 xf6 xf7 xf8
 obtain ⟨al,⟨ac0,ac1,ac2,ac3,ac4,ac5,ac6,ac7,ac8⟩,⟨af0,af1,af2,af3,af4,af5,af6,af7,af8⟩⟩:=BA.facts
 have bl:=BB.facts.1
 go_upto_region 4 with (go_at_call 69;(with_reducible refine (HC1.out _ HB.out).mono ?_);rintro e1 w1 ⟨hb1,q1,e1,rfl,hx1⟩;have HX1:=hid (hx1.kept (ok':=fun b => w.heap.size + 2 ≤ b) fun g hg _ => ⟨rfl,by omega⟩);clear hx1;have HBx:=hid (below_ch HB.out hb1);replace BA:=BA.stay hb1;replace BB:=BB.stay hb1;replace HX0:=hid (HX0.out.stay hb1);obtain ⟨xl,⟨xc0,xc1,xc2,xc3,xc4,xc5,xc6,xc7,xc8⟩,⟨xf0,xf1,xf2,xf3,xf4,xf5,xf6,xf7,xf8⟩⟩:=BA.facts;clear hb1)
 refine name_world ?_
 intro W4 hW4
 replace BA : SBlk W4 w.heap.size y.k y.a y.tr y.sc (bstr y.nm) (.slice q0 n0 e0) (.slice q1 n1 e1) (.slice p2 n2 c2) (.slice p3 n3 c3):=by (rw [hW4];exact (BA.set6 _))
 replace BB : SBlk W4 (w.heap.size + 1) 0 0 false false ⟨#[]⟩ (.slice none 0 0) (.slice none 0 0) (.slice none 0 0) (.slice none 0 0):=by (rw [hW4];exact (BB.setO (by omega) _ _))
 replace HB : Hid (Below w.heap.size w W4):=hid (by (rw [hW4];exact (HBx.out.setCell (by simp) _)))
 replace HX0 : Hid (IsExP (fun b => w.heap.size + 2 ≤ b) W4 (exsE y.ix) (.slice q0 n0 e0)):=hid (by (rw [hW4];exact (HX0.out.set (fun g hg => by omega) _ _)))
 replace HX1 : Hid (IsExP (fun b => w.heap.size + 2 ≤ b) W4 (exsE y.es) (.slice q1 n1 e1)):=hid (by (rw [hW4];exact (HX1.out.set (fun g hg => by omega) _ _)))
 clear hW4 HBx al ac0 ac1 ac2 ac3 ac4 ac5 ac6 ac7 ac8 af0 af1 af2 af3 af4 af5 af6 af7 af8 xl xc0 xc1 xc2 xc3 xc4 xc5 xc6 xc7 xc8 xf0 xf1 xf2 xf3 xf4 xf5 xf6 xf7 xf8
 obtain ⟨al,⟨ac0,ac1,ac2,ac3,ac4,ac5,ac6,ac7,ac8⟩,⟨af0,af1,af2,af3,af4,af5,af6,af7,af8⟩⟩:=BA.facts
 have bl:=BB.facts.1
 go_upto_region 5 with (go_at_call 56;(with_reducible refine (HC2.out _ HB.out).mono ?_);rintro e1 w1 ⟨hb1,q2,e2,rfl,hx1⟩;have HX2:=hid (hx1.kept (ok':=fun b => w.heap.size + 2 ≤ b) fun g hg _ => ⟨rfl,by omega⟩);clear hx1;have HBx:=hid (below_ch HB.out hb1);replace BA:=BA.stay hb1;replace BB:=BB.stay hb1;replace HX0:=hid (HX0.out.stay hb1);replace HX1:=hid (HX1.out.stay hb1);obtain ⟨xl,⟨xc0,xc1,xc2,xc3,xc4,xc5,xc6,xc7,xc8⟩,⟨xf0,xf1,xf2,xf3,xf4,xf5,xf6,xf7,xf8⟩⟩:=BA.facts;clear hb1)
 refine name_world ?_
 intro W5 hW5
 replace BA : SBlk W5 w.heap.size y.k y.a y.tr y.sc (bstr y.nm) (.slice q0 n0 e0) (.slice q1 n1 e1) (.slice q2 n2 e2) (.slice p3 n3 c3):=by (rw [hW5];exact (BA.set7 _))
 replace BB : SBlk W5 (w.heap.size + 1) 0 0 false false ⟨#[]⟩ (.slice none 0 0) (.slice none 0 0) (.slice none 0 0) (.slice none 0 0):=by (rw [hW5];exact (BB.setO (by omega) _ _))
 replace HB : Hid (Below w.heap.size w W5):=hid (by (rw [hW5];exact (HBx.out.setCell (by simp) _)))
 replace HX0 : Hid (IsExP (fun b => w.heap.size + 2 ≤ b) W5 (exsE y.ix) (.slice q0 n0 e0)):=hid (by (rw [hW5];exact (HX0.out.set (fun g hg => by omega) _ _)))
 replace HX1 : Hid (IsExP (fun b => w.heap.size + 2 ≤ b) W5 (exsE y.es) (.slice q1 n1 e1)):=hid (by (rw [hW5];exact (HX1.out.set (fun g hg => by omega) _ _)))
 replace HX2 : Hid (IsSts (fun b => w.heap.size + 2 ≤ b) W5 y.bd (.slice q2 n2 e2)):=hid (by (rw [hW5];exact (HX2.out.set (fun g hg => by omega) _ _)))
 clear hW5 HBx al ac0 ac1 ac2 ac3 ac4 ac5 ac6 ac7 ac8 af0 af1 af2 af3 af4 af5 af6 af7 af8 xl xc0 xc1 xc2 xc3 xc4 xc5 xc6 xc7 xc8 xf0 xf1 xf2 xf3 xf4 xf5 xf6 xf7 xf8
 obtain ⟨al,⟨ac0,ac1,ac2,ac3,ac4,ac5,ac6,ac7,ac8⟩,⟨af0,af1,af2,af3,af4,af5,af6,af7,af8⟩⟩:=BA.facts
 have bl:=BB.facts.1
 go_upto_region 6 with (go_at_call 56;(with_reducible refine (HC3.out _ HB.out).mono ?_);rintro e1 w1 ⟨hb1,q3,e3,rfl,hx1⟩;have HX3:=hid (hx1.kept (ok':=fun b => w.heap.size + 2 ≤ b) fun g hg _ => ⟨rfl,by omega⟩);clear hx1;have HBx:=hid (below_ch HB.out hb1);replace BA:=BA.stay hb1;replace BB:=BB.stay hb1;replace HX0:=hid (HX0.out.stay hb1);replace HX1:=hid (HX1.out.stay hb1);replace HX2:=hid (HX2.out.stay hb1);obtain ⟨xl,⟨xc0,xc1,xc2,xc3,xc4,xc5,xc6,xc7,xc8⟩,⟨xf0,xf1,xf2,xf3,xf4,xf5,xf6,xf7,xf8⟩⟩:=BA.facts;clear hb1)
 refine name_world ?_
 intro W6 hW6
 replace BA : SBlk W6 w.heap.size y.k y.a y.tr y.sc (bstr y.nm) (.slice q0 n0 e0) (.slice q1 n1 e1) (.slice q2 n2 e2) (.slice q3 n3 e3):=by (rw [hW6];exact (BA.set8 _))
 replace BB : SBlk W6 (w.heap.size + 1) 0 0 false false ⟨#[]⟩ (.slice none 0 0) (.slice none 0 0) (.slice none 0 0) (.slice none 0 0):=by (rw [hW6];exact (BB.setO (by omega) _ _))
 replace HB : Hid (Below w.heap.size w W6):=hid (by (rw [hW6];exact (HBx.out.setCell (by simp) _)))
 replace HX0 : Hid (IsExP (fun b => w.heap.size + 2 ≤ b) W6 (exsE y.ix) (.slice q0 n0 e0)):=hid (by (rw [hW6];exact (HX0.out.set (fun g hg => by omega) _ _)))
 replace HX1 : Hid (IsExP (fun b => w.heap.size + 2 ≤ b) W6 (exsE y.es) (.slice q1 n1 e1)):=hid (by (rw [hW6];exact (HX1.out.set (fun g hg => by omega) _ _)))
 replace HX2 : Hid (IsSts (fun b => w.heap.size + 2 ≤ b) W6 y.bd (.slice q2 n2 e2)):=hid (by (rw [hW6];exact (HX2.out.set (fun g hg => by omega) _ _)))
 replace HX3 : Hid (IsSts (fun b => w.heap.size + 2 ≤ b) W6 y.el (.slice q3 n3 e3)):=hid (by (rw [hW6];exact (HX3.out.set (fun g hg => by omega) _ _)))
 clear hW6 HBx al ac0 ac1 ac2 ac3 ac4 ac5 ac6 ac7 ac8 af0 af1 af2 af3 af4 af5 af6 af7 af8 xl xc0 xc1 xc2 xc3 xc4 xc5 xc6 xc7 xc8 xf0 xf1 xf2 xf3 xf4 xf5 xf6 xf7 xf8
 obtain ⟨al,⟨ac0,ac1,ac2,ac3,ac4,ac5,ac6,ac7,ac8⟩,⟨af0,af1,af2,af3,af4,af5,af6,af7,af8⟩⟩:=BA.facts
 have bl:=BB.facts.1
 obtain ⟨_,_,⟨f0,f1,f2,f3,f4,f5,f6,f7,f8⟩⟩:=BB.facts
 go_wp2
 have hne : ∀ g,w.heap.size + 2 ≤ g → g ≠ w.heap.size + 1:=fun g hg => by omega
 refine bodyPost_ret (results_s rfl _ rfl BB.all) rfl ⟨?_,q0,e0,q1,e1,q2,e2,q3,e3,?_,?_⟩
 · exact ((((((((HB.out.setCell (by simp) _).setCell (by simp) _).setCell (by simp) _).setCell (by simp) _).setCell (by simp) _).setCell (by simp) _).setCell (by simp) _).setCell (by simp) _).setCell (by simp) _
 · rw [HN.out.1,HN.out.2.1,HN.out.2.2.1,HN.out.2.2.2]
 · rw [HN.out.1,HN.out.2.1,HN.out.2.2.1,HN.out.2.2.2]
   have h : IsSt1 (fun b => w.heap.size + 2 ≤ b) W6 y ⟨.slice q0 n0 e0,.slice q1 n1 e1,.slice q2 n2 e2,.slice q3 n3 e3⟩:=⟨HX0.out,HX1.out,HX2.out,HX3.out⟩
   exact (((((((((h.set hne _ _).set hne _ _).set hne _ _).set hne _ _).set hne _ _).set hne _ _).set hne _ _).set hne _ _).set hne _ _).weak fun b hb => by omega
theorem cstmt_any : ∀ (s : Stm),ShS s → ∀ (w : World) (v : SV),IsSt1 (fun g => 0 ≤ g) w s v → Calls Try.prog 57 #[stVal s v] w (CpS w s):=by
 intro s hs
 induction hs with
 | mk h1 h2 h3 h4 h5 h6 h7 _ _ ih1 ih2 =>
  exact fun w v hi => cstmt_step _ w v (hid hi) h1 h2 h3 h4 h5 h6 h7 (hid fun t ht X u hu => by
   rcases ht with ht | ht
   · exact ih1 t ht X u hu
   · exact ih2 t ht X u hu)
end Go.Proofs.Ytbmmjomcjlpnlaa
namespace Go.Proofs.Ytbmmjomcjlpnlaa
open Go Go.RowKit
abbrev fnVal (f : Fn) (v : FV) : Value:=.agg #[.int .i64 f.a,.string (bstr f.nm),v.p,.bool f.tr,.bool f.sc,v.b,.int .i64 f.ret.k,.int .i64 f.ret.op,.int .i64 f.ret.n,.string (bstr f.ret.nm),v.k,.int .i64 f.ret.a]
section
variable {X Y : World} {b : Nat} {a : Int} {nm : ByteArray} {pv : Value} {tr : Bool} {sc : Bool} {bv : Value} {k : Int} {q : Int} {n : Int} {s : ByteArray} {kv : Value} {xa : Int}
theorem FBlk.stay (h : FBlk X b a nm pv tr sc bv k q n s kv xa) (hf : Below X.heap.size X Y) : FBlk Y b a nm pv tr sc bv k q n s kv xa:=(hf.block b (Array.getElem?_eq_some_iff.1 h).1).trans h
theorem FBlk.all (h : FBlk X b a nm pv tr sc bv k q n s kv xa) {a' : Int} {nm' : ByteArray} {pv' : Value} {tr' sc' : Bool} {bv' : Value} {k' q' n' : Int} {s' : ByteArray} {kv' : Value} {xa' : Int} :
 FBlk ((((((((((((X.setCell ⟨b,0,none⟩ (.int .i64 a')).setCell ⟨b,1,none⟩ (.string nm')).setCell ⟨b,2,none⟩ pv').setCell ⟨b,3,none⟩ (.bool tr')).setCell ⟨b,4,none⟩ (.bool sc')).setCell ⟨b,5,none⟩ bv').setCell ⟨b,6,none⟩ (.int .i64 k')).setCell ⟨b,7,none⟩ (.int .i64 q')).setCell ⟨b,8,none⟩ (.int .i64 n')).setCell ⟨b,9,none⟩ (.string s')).setCell ⟨b,10,none⟩ kv').setCell ⟨b,11,none⟩ (.int .i64 xa')) b a' nm' pv' tr' sc' bv' k' q' n' s' kv' xa' :=
 (((((((((((h.set0 a').set1 nm').set2 pv').set3 tr').set4 sc').set5 bv').set6 k').set7 q').set8 n').set9 s').set10 kv').set11 xa'
theorem results_fn {fn : Func} {p : Tmp} (hfn : fn.results = #[.cell p 65]) (tmps : Array Value) (hp : tmps.getD p undef = .pointer (some ⟨b,0,none⟩)) (h : FBlk X b a nm pv tr sc bv k q n s kv xa) :
 (results fn tmps).run Try.prog X = .ok (.agg #[.int .i64 a,.string nm,pv,.bool tr,.bool sc,bv,.int .i64 k,.int .i64 q,.int .i64 n,.string s,kv,.int .i64 xa]) X:=by
 have hp' : tmps[p]?.getD undef = .pointer (some ⟨b,0,none⟩):=by simpa using hp
 simp [results,hfn,hp',asAddr,run_loadVar_row X b 65 65 _ (0,0) _ h Try.underlying65 rfl (by kernel_rfl)]
end
theorem IsPl.set {α : Type} {ok : Nat → Prop} {T : TypeId} {n : Nat} {f : α → List Value} {W : World} {l : List α} {v : Value} (h : IsPl ok T n f W l v) {b : Nat} (hb : ∀ g,ok g → g ≠ b) (o : Nat) (x : Value) : IsPl ok T n f (W.setCell ⟨b,o,none⟩ x) l v:=h.kept fun g hg _ => ⟨heap_setCell_other W ⟨b,o,none⟩ g x (hb g hg),hg⟩
theorem IsPl.stay1 {α : Type} {ok : Nat → Prop} {T : TypeId} {n : Nat} {f : α → List Value} {W X : World} {l : List α} {v : Value} (h : IsPl ok T n f W l v) (k : Below W.heap.size W X) : IsPl ok T n f X l v:=h.kept fun g hg hl => ⟨k.block g hl,hg⟩
theorem IsFn1.stay {ok : Nat → Prop} {W X : World} {f : Fn} {v : FV} (h : IsFn1 ok W f v) (k : Below W.heap.size W X) : IsFn1 ok X f v:=⟨h.1.stay1 k,h.2.1.stay k,h.2.2.stay k⟩
structure ShF (f : Fn) : Prop where
 nm : f.nm.length ≤ 100000
 ps : f.ps.length ≤ 1000000 ∧ ∀ q ∈ f.ps,q.nm.length ≤ 100000
 bd : f.bd.length ≤ 1000000 ∧ ∀ s ∈ f.bd,ShS s
 rt : ShE f.ret
def CpF (X : World) (f : Fn) (r : Ending) (w' : World) : Prop:=Below X.heap.size X w' ∧ ∃ z0 k0 z1 k1 z2 k2,r = .returned (fnVal f ⟨.slice z0 f.ps.length k0,.slice z1 f.bd.length k1,.slice z2 f.ret.ks.length k2⟩) ∧ IsFn1 (fun g => X.heap.size ≤ g) w' f ⟨.slice z0 f.ps.length k0,.slice z1 f.bd.length k1,.slice z2 f.ret.ks.length k2⟩
theorem cfunc_any (y : Fn) (w : World) (v : FV) (hi : Hid (IsFn1 (fun g => 0 ≤ g) w y v)) (hs : ShF y) :
 Calls Try.prog 29 #[fnVal y v] w (CpF w y):=by
 obtain ⟨⟨p0,c0,e0⟩,_⟩:=hi.out.1
 obtain ⟨p1,c1,e1⟩:=hi.out.2.1.form
 obtain ⟨p2,c2,e2⟩:=hi.out.2.2.form
 obtain ⟨vp,vb,vk⟩:=v
 simp only at e0 e1 e2
 subst e0 e1 e2
 obtain ⟨n0,hn0⟩ : ∃ q,y.ps.length = q:=⟨_,rfl⟩
 obtain ⟨n1,hn1⟩ : ∃ q,y.bd.length = q:=⟨_,rfl⟩
 obtain ⟨n2,hn2⟩ : ∃ q,y.ret.ks.length = q:=⟨_,rfl⟩
 have hnb : (bstr y.nm).size ≤ 281474976710656:=by (have:=hs.nm;show y.nm.length ≤ _;omega)
 have HN : Hid (y.ps.length = n0 ∧ y.bd.length = n1 ∧ y.ret.ks.length = n2):=hid ⟨hn0,hn1,hn2⟩
 have HC0 : Hid (∀ X,Below w.heap.size w X → Calls Try.prog 54 #[.slice p0 n0 c0,.func (.func 55) #[] #[]] X fun e w' => Below X.heap.size X w' ∧ ∃ p c,e = .returned (.slice p n0 c) ∧ IsPl (fun b => X.heap.size ≤ b) 137 3 pmCells w' y.ps (.slice p n0 c)):=hid fun X hX => by
  have h:=cparams_any y.ps X _ (hid (hi.out.1.stay1 hX)) hs.ps.1 hs.ps.2
  simp only [hn0] at h
  exact h
 have HC1 : Hid (∀ X,Below w.heap.size w X → Calls Try.prog 56 #[.slice p1 n1 c1,.func (.func 57) #[] #[]] X fun e w' => Below X.heap.size X w' ∧ ∃ p c,e = .returned (.slice p n1 c) ∧ IsSts (fun b => X.heap.size ≤ b) w' y.bd (.slice p n1 c)):=hid fun X hX => by
  have h:=csts_any y.bd X _ (hid (hi.out.2.1.stay hX)) hs.bd.1 (hid fun s hm X v hv => cstmt_any s (hs.bd.2 s hm) X v hv)
  simp only [hn1] at h
  exact h
 have HC2 : Hid (∀ X,Below w.heap.size w X → Calls Try.prog 58 #[.agg #[.int .i64 y.ret.k,.int .i64 y.ret.op,.int .i64 y.ret.n,.string (bstr y.ret.nm),.slice p2 n2 c2,.int .i64 y.ret.a]] X fun e w' => Below X.heap.size X w' ∧ ∃ p c,e = .returned (.agg #[.int .i64 y.ret.k,.int .i64 y.ret.op,.int .i64 y.ret.n,.string (bstr y.ret.nm),.slice p n2 c,.int .i64 y.ret.a]) ∧ IsExP (fun b => X.heap.size ≤ b) w' y.ret (.slice p n2 c)):=hid fun X hX => by
  have h:=cexpr_any y.ret hs.rt X _ ((hi.out.2.2.stay hX).toEx (lo:=0) fun g _ => Nat.zero_le g)
  unfold CpE at h
  simp only [hn2] at h
  exact h
 simp only [hn0,hn1,hn2]
 clear hn0 hn1 hn2
 go_enter Try.func29,Try.ntmps29
 go_upto_region 1 with (fail)
 refine name_world ?_
 intro W1 hW1
 have BA : FBlk W1 w.heap.size y.a (bstr y.nm) (.slice p0 n0 c0) y.tr y.sc (.slice p1 n1 c1) y.ret.k y.ret.op y.ret.n (bstr y.ret.nm) (.slice p2 n2 c2) y.ret.a:=by (rw [hW1];exact (FBlk.new rfl).alloc _)
 have BB : FBlk W1 (w.heap.size + 1) 0 ⟨#[]⟩ (.slice none 0 0) false false (.slice none 0 0) 0 0 0 ⟨#[]⟩ (.slice none 0 0) 0:=by (rw [hW1];exact FBlk.new (by simp))
 have HB : Hid (Below w.heap.size w W1):=hid (by rw [hW1];exact ((Below.refl _ _).alloc (Nat.le_refl _) _).alloc (by simp) _)
 clear hW1
 obtain ⟨al,⟨ac0,ac1,ac2,ac3,ac4,ac5,ac6,ac7,ac8,ac9,ac10,ac11⟩,⟨af0,af1,af2,af3,af4,af5,af6,af7,af8,af9,af10,af11⟩⟩:=BA.facts
 have bl:=BB.facts.1
 go_upto_region 2 with (go_at_call 33;(with_reducible refine (clone_any _ _ hnb).mono ?_);rintro e1 w1 ⟨rfl,hb1⟩;have HBx:=hid (below_ch HB.out hb1);replace BA:=BA.stay hb1;replace BB:=BB.stay hb1;obtain ⟨xl,⟨xc0,xc1,xc2,xc3,xc4,xc5,xc6,xc7,xc8,xc9,xc10,xc11⟩,⟨xf0,xf1,xf2,xf3,xf4,xf5,xf6,xf7,xf8,xf9,xf10,xf11⟩⟩:=BA.facts;clear hb1)
 refine name_world ?_
 intro W2 hW2
 replace BA : FBlk W2 w.heap.size y.a (bstr y.nm) (.slice p0 n0 c0) y.tr y.sc (.slice p1 n1 c1) y.ret.k y.ret.op y.ret.n (bstr y.ret.nm) (.slice p2 n2 c2) y.ret.a:=by (rw [hW2];exact (BA.set1 _))
 replace BB : FBlk W2 (w.heap.size + 1) 0 ⟨#[]⟩ (.slice none 0 0) false false (.slice none 0 0) 0 0 0 ⟨#[]⟩ (.slice none 0 0) 0:=by (rw [hW2];exact (BB.setO (by omega) _ _))
 replace HB : Hid (Below w.heap.size w W2):=hid (by (rw [hW2];exact (HBx.out.setCell (by simp) _)))
 clear hW2 HBx al ac0 ac1 ac2 ac3 ac4 ac5 ac6 ac7 ac8 ac9 ac10 ac11 af0 af1 af2 af3 af4 af5 af6 af7 af8 af9 af10 af11 xl xc0 xc1 xc2 xc3 xc4 xc5 xc6 xc7 xc8 xc9 xc10 xc11 xf0 xf1 xf2 xf3 xf4 xf5 xf6 xf7 xf8 xf9 xf10 xf11
 obtain ⟨al,⟨ac0,ac1,ac2,ac3,ac4,ac5,ac6,ac7,ac8,ac9,ac10,ac11⟩,⟨af0,af1,af2,af3,af4,af5,af6,af7,af8,af9,af10,af11⟩⟩:=BA.facts
 have bl:=BB.facts.1
 go_upto_region 3 with (go_at_call 54;(with_reducible refine (HC0.out _ HB.out).mono ?_);rintro e1 w1 ⟨hb1,q0,e0,rfl,hx1⟩;have HX0:=hid (hx1.kept (ok':=fun b => w.heap.size + 2 ≤ b) fun g hg _ => ⟨rfl,by omega⟩);clear hx1;have HBx:=hid (below_ch HB.out hb1);replace BA:=BA.stay hb1;replace BB:=BB.stay hb1;obtain ⟨xl,⟨xc0,xc1,xc2,xc3,xc4,xc5,xc6,xc7,xc8,xc9,xc10,xc11⟩,⟨xf0,xf1,xf2,xf3,xf4,xf5,xf6,xf7,xf8,xf9,xf10,xf11⟩⟩:=BA.facts;clear hb1)
 refine name_world ?_
 intro W3 hW3
 replace BA : FBlk W3 w.heap.size y.a (bstr y.nm) (.slice q0 n0 e0) y.tr y.sc (.slice p1 n1 c1) y.ret.k y.ret.op y.ret.n (bstr y.ret.nm) (.slice p2 n2 c2) y.ret.a:=by (rw [hW3];exact (BA.set2 _))
 replace BB : FBlk W3 (w.heap.size + 1) 0 ⟨#[]⟩ (.slice none 0 0) false false (.slice none 0 0) 0 0 0 ⟨#[]⟩ (.slice none 0 0) 0:=by (rw [hW3];exact (BB.setO (by omega) _ _))
 replace HB : Hid (Below w.heap.size w W3):=hid (by (rw [hW3];exact (HBx.out.setCell (by simp) _)))
 replace HX0 : Hid (IsPl (fun b => w.heap.size + 2 ≤ b) 137 3 pmCells W3 y.ps (.slice q0 n0 e0)):=hid (by (rw [hW3];exact (HX0.out.set (fun g hg => by omega) _ _)))
 clear hW3 HBx al ac0 ac1 ac2 ac3 ac4 ac5 ac6 ac7 ac8 ac9 ac10 ac11 af0 af1 af2 af3 af4 af5 af6 af7 af8 af9 af10 af11 xl xc0 xc1 xc2 xc3 xc4 xc5 xc6 xc7 xc8 xc9 xc10 xc11 xf0 xf1 xf2 xf3 xf4 xf5 xf6 xf7 xf8 xf9 xf10 xf11
 obtain ⟨al,⟨ac0,ac1,ac2,ac3,ac4,ac5,ac6,ac7,ac8,ac9,ac10,ac11⟩,⟨af0,af1,af2,af3,af4,af5,af6,af7,af8,af9,af10,af11⟩⟩:=BA.facts
 have bl:=BB.facts.1
 go_upto_region 4 with (go_at_call 56;(with_reducible refine (HC1.out _ HB.out).mono ?_);rintro e1 w1 ⟨hb1,q1,e1,rfl,hx1⟩;have HX1:=hid (hx1.kept (ok':=fun b => w.heap.size + 2 ≤ b) fun g hg _ => ⟨rfl,by omega⟩);clear hx1;have HBx:=hid (below_ch HB.out hb1);replace BA:=BA.stay hb1;replace BB:=BB.stay hb1;replace HX0:=hid (HX0.out.stay1 hb1);obtain ⟨xl,⟨xc0,xc1,xc2,xc3,xc4,xc5,xc6,xc7,xc8,xc9,xc10,xc11⟩,⟨xf0,xf1,xf2,xf3,xf4,xf5,xf6,xf7,xf8,xf9,xf10,xf11⟩⟩:=BA.facts;clear hb1)
 refine name_world ?_
 intro W4 hW4
 replace BA : FBlk W4 w.heap.size y.a (bstr y.nm) (.slice q0 n0 e0) y.tr y.sc (.slice q1 n1 e1) y.ret.k y.ret.op y.ret.n (bstr y.ret.nm) (.slice p2 n2 c2) y.ret.a:=by (rw [hW4];exact (BA.set5 _))
 replace BB : FBlk W4 (w.heap.size + 1) 0 ⟨#[]⟩ (.slice none 0 0) false false (.slice none 0 0) 0 0 0 ⟨#[]⟩ (.slice none 0 0) 0:=by (rw [hW4];exact (BB.setO (by omega) _ _))
 replace HB : Hid (Below w.heap.size w W4):=hid (by (rw [hW4];exact (HBx.out.setCell (by simp) _)))
 replace HX0 : Hid (IsPl (fun b => w.heap.size + 2 ≤ b) 137 3 pmCells W4 y.ps (.slice q0 n0 e0)):=hid (by (rw [hW4];exact (HX0.out.set (fun g hg => by omega) _ _)))
 replace HX1 : Hid (IsSts (fun b => w.heap.size + 2 ≤ b) W4 y.bd (.slice q1 n1 e1)):=hid (by (rw [hW4];exact (HX1.out.set (fun g hg => by omega) _ _)))
 clear hW4 HBx al ac0 ac1 ac2 ac3 ac4 ac5 ac6 ac7 ac8 ac9 ac10 ac11 af0 af1 af2 af3 af4 af5 af6 af7 af8 af9 af10 af11 xl xc0 xc1 xc2 xc3 xc4 xc5 xc6 xc7 xc8 xc9 xc10 xc11 xf0 xf1 xf2 xf3 xf4 xf5 xf6 xf7 xf8 xf9 xf10 xf11
 obtain ⟨al,⟨ac0,ac1,ac2,ac3,ac4,ac5,ac6,ac7,ac8,ac9,ac10,ac11⟩,⟨af0,af1,af2,af3,af4,af5,af6,af7,af8,af9,af10,af11⟩⟩:=BA.facts
 have bl:=BB.facts.1
 go_upto_region 5 with (go_at_call 58;(with_reducible refine (HC2.out _ HB.out).mono ?_);rintro e1 w1 ⟨hb1,q2,e2,rfl,hx1⟩;have HX2:=hid (hx1.kept (ok':=fun b => w.heap.size + 2 ≤ b) fun g hg _ => ⟨rfl,by omega⟩);clear hx1;have HBx:=hid (below_ch HB.out hb1);replace BA:=BA.stay hb1;replace BB:=BB.stay hb1;replace HX0:=hid (HX0.out.stay1 hb1);replace HX1:=hid (HX1.out.stay hb1);obtain ⟨xl,⟨xc0,xc1,xc2,xc3,xc4,xc5,xc6,xc7,xc8,xc9,xc10,xc11⟩,⟨xf0,xf1,xf2,xf3,xf4,xf5,xf6,xf7,xf8,xf9,xf10,xf11⟩⟩:=BA.facts;clear hb1)
 refine name_world ?_
 intro W5 hW5
 replace BA : FBlk W5 w.heap.size y.a (bstr y.nm) (.slice q0 n0 e0) y.tr y.sc (.slice q1 n1 e1) y.ret.k y.ret.op y.ret.n (bstr y.ret.nm) (.slice q2 n2 e2) y.ret.a:=by (rw [hW5];exact ((((((BA.set6 _).set7 _).set8 _).set9 _).set10 _).set11 _))
 replace BB : FBlk W5 (w.heap.size + 1) 0 ⟨#[]⟩ (.slice none 0 0) false false (.slice none 0 0) 0 0 0 ⟨#[]⟩ (.slice none 0 0) 0:=by (rw [hW5];exact ((((((BB.setO (by omega) _ _).setO (by omega) _ _).setO (by omega) _ _).setO (by omega) _ _).setO (by omega) _ _).setO (by omega) _ _))
 replace HB : Hid (Below w.heap.size w W5):=hid (by (rw [hW5];exact ((((((HBx.out.setCell (by simp) _).setCell (by simp) _).setCell (by simp) _).setCell (by simp) _).setCell (by simp) _).setCell (by simp) _)))
 replace HX0 : Hid (IsPl (fun b => w.heap.size + 2 ≤ b) 137 3 pmCells W5 y.ps (.slice q0 n0 e0)):=hid (by (rw [hW5];exact ((((((HX0.out.set (fun g hg => by omega) _ _).set (fun g hg => by omega) _ _).set (fun g hg => by omega) _ _).set (fun g hg => by omega) _ _).set (fun g hg => by omega) _ _).set (fun g hg => by omega) _ _)))
 replace HX1 : Hid (IsSts (fun b => w.heap.size + 2 ≤ b) W5 y.bd (.slice q1 n1 e1)):=hid (by (rw [hW5];exact ((((((HX1.out.set (fun g hg => by omega) _ _).set (fun g hg => by omega) _ _).set (fun g hg => by omega) _ _).set (fun g hg => by omega) _ _).set (fun g hg => by omega) _ _).set (fun g hg => by omega) _ _)))
 replace HX2 : Hid (IsExP (fun b => w.heap.size + 2 ≤ b) W5 y.ret (.slice q2 n2 e2)):=hid (by (rw [hW5];exact ((((((HX2.out.set (fun g hg => by omega) _ _).set (fun g hg => by omega) _ _).set (fun g hg => by omega) _ _).set (fun g hg => by omega) _ _).set (fun g hg => by omega) _ _).set (fun g hg => by omega) _ _)))
 clear hW5 HBx al ac0 ac1 ac2 ac3 ac4 ac5 ac6 ac7 ac8 ac9 ac10 ac11 af0 af1 af2 af3 af4 af5 af6 af7 af8 af9 af10 af11 xl xc0 xc1 xc2 xc3 xc4 xc5 xc6 xc7 xc8 xc9 xc10 xc11 xf0 xf1 xf2 xf3 xf4 xf5 xf6 xf7 xf8 xf9 xf10 xf11
 obtain ⟨al,⟨ac0,ac1,ac2,ac3,ac4,ac5,ac6,ac7,ac8,ac9,ac10,ac11⟩,⟨af0,af1,af2,af3,af4,af5,af6,af7,af8,af9,af10,af11⟩⟩:=BA.facts
 have bl:=BB.facts.1
 obtain ⟨_,_,⟨f0,f1,f2,f3,f4,f5,f6,f7,f8,f9,f10,f11⟩⟩:=BB.facts
 go_wp2
 have hne : ∀ g,w.heap.size + 2 ≤ g → g ≠ w.heap.size + 1:=fun g hg => by omega
 refine bodyPost_ret (results_fn rfl _ rfl BB.all) rfl ⟨?_,q0,e0,q1,e1,q2,e2,?_,?_⟩
 · exact ((((((((((((HB.out.setCell (by simp) _).setCell (by simp) _).setCell (by simp) _).setCell (by simp) _).setCell (by simp) _).setCell (by simp) _).setCell (by simp) _).setCell (by simp) _).setCell (by simp) _).setCell (by simp) _).setCell (by simp) _).setCell (by simp) _)
 · rw [HN.out.1,HN.out.2.1,HN.out.2.2]
 · rw [HN.out.1,HN.out.2.1,HN.out.2.2]
   exact ⟨(((((((((((((HX0.out.set hne _ _).set hne _ _).set hne _ _).set hne _ _).set hne _ _).set hne _ _).set hne _ _).set hne _ _).set hne _ _).set hne _ _).set hne _ _).set hne _ _).kept fun b hb _ => ⟨rfl,by omega⟩),(((((((((((((HX1.out.set hne _ _).set hne _ _).set hne _ _).set hne _ _).set hne _ _).set hne _ _).set hne _ _).set hne _ _).set hne _ _).set hne _ _).set hne _ _).set hne _ _).kept fun b hb _ => ⟨rfl,by omega⟩),(((((((((((((HX2.out.set hne _ _).set hne _ _).set hne _ _).set hne _ _).set hne _ _).set hne _ _).set hne _ _).set hne _ _).set hne _ _).set hne _ _).set hne _ _).set hne _ _).kept fun b hb _ => ⟨rfl,by omega⟩)⟩
end Go.Proofs.Ytbmmjomcjlpnlaa
namespace Go.Proofs.Ytbmmjomcjlpnlaa
open Go Go.RowKit
abbrev glVal (y : Gl) : Value:=.agg #[.int .i64 y.a,.string (bstr y.nm),.bool y.tr,.bool y.sc,.int .i64 y.len,.string (bstr y.by_)]
section
variable {X Y : World} {n : Nat} {a ln : Int} {nm yy : ByteArray} {tr sc : Bool}
theorem GBlk.all (h : GBlk X n a nm tr sc ln yy) {a' ln' : Int} {nm' yy' : ByteArray} {tr' sc' : Bool} : GBlk ((((((X.setCell ⟨n,0,none⟩ (.int .i64 a')).setCell ⟨n,1,none⟩ (.string nm')).setCell ⟨n,2,none⟩ (.bool tr')).setCell ⟨n,3,none⟩ (.bool sc')).setCell ⟨n,4,none⟩ (.int .i64 ln')).setCell ⟨n,5,none⟩ (.string yy')) n a' nm' tr' sc' ln' yy' :=
 (((((h.set0 a').set1 nm').set2 tr').set3 sc').set4 ln').set5 yy'
theorem results_gl {fn : Func} {p : Tmp} (hfn : fn.results = #[.cell p 56]) (tmps : Array Value) (hp : tmps.getD p undef = .pointer (some ⟨n,0,none⟩)) (h : GBlk X n a nm tr sc ln yy) :
 (results fn tmps).run Try.prog X = .ok (.agg #[.int .i64 a,.string nm,.bool tr,.bool sc,.int .i64 ln,.string yy]) X:=by
 have hp' : tmps[p]?.getD undef = .pointer (some ⟨n,0,none⟩):=by simpa using hp
 simp [results,hfn,hp',asAddr,run_loadVar_row X n 56 56 _ (0,0) _ h Try.underlying56 rfl (by kernel_rfl)]
end
theorem cglobal_any (y : Gl) (w : World) (h1 : y.nm.length ≤ 100000) (h2 : y.by_.length ≤ 100000) :
 Calls Try.prog 28 #[glVal y] w fun e w' => e = .returned (glVal y) ∧ Below w.heap.size w w':=by
 have hn1 : (bstr y.nm).size ≤ 281474976710656:=by (show y.nm.length ≤ _;omega)
 have hn2 : (bstr y.by_).size ≤ 281474976710656:=by (show y.by_.length ≤ _;omega)
 go_enter Try.func28,Try.ntmps28
 go_upto_region 1 with (fail)
 refine name_world ?_
 intro W1 hW1
 have BA : GBlk W1 w.heap.size y.a (bstr y.nm) y.tr y.sc y.len (bstr y.by_):=by (rw [hW1];exact (GBlk.new rfl).alloc _)
 have BB : GBlk W1 (w.heap.size + 1) 0 ⟨#[]⟩ false false 0 ⟨#[]⟩:=by (rw [hW1];exact GBlk.new (by simp))
 have HB : Hid (Below w.heap.size w W1):=hid (by rw [hW1];exact ((Below.refl _ _).alloc (Nat.le_refl _) _).alloc (by simp) _)
 clear hW1
 obtain ⟨al,⟨ac0,ac1,ac2,ac3,ac4,ac5⟩,⟨af0,af1,af2,af3,af4,af5⟩⟩:=BA.facts
 have bl:=BB.facts.1
 go_upto_region 2 with (go_at_call 33;(with_reducible refine (clone_any _ _ hn1).mono ?_);rintro e1 w1 ⟨rfl,hb1⟩;have HBx:=hid (below_ch HB.out hb1);replace BA:=BA.stay hb1;replace BB:=BB.stay hb1;obtain ⟨xl,⟨xc0,xc1,xc2,xc3,xc4,xc5⟩,⟨xf0,xf1,xf2,xf3,xf4,xf5⟩⟩:=BA.facts;clear hb1)
 refine name_world ?_
 intro W2 hW2
 replace BA : GBlk W2 w.heap.size y.a (bstr y.nm) y.tr y.sc y.len (bstr y.by_):=by (rw [hW2];exact (BA.set1 _))
 replace BB : GBlk W2 (w.heap.size + 1) 0 ⟨#[]⟩ false false 0 ⟨#[]⟩:=by (rw [hW2];exact (BB.setO (by omega) _ _))
 replace HB : Hid (Below w.heap.size w W2):=hid (by (rw [hW2];exact (HBx.out.setCell (by simp) _)))
 clear hW2 HBx al ac0 ac1 ac2 ac3 ac4 ac5 af0 af1 af2 af3 af4 af5 xl xc0 xc1 xc2 xc3 xc4 xc5 xf0 xf1 xf2 xf3 xf4 xf5
 obtain ⟨al,⟨ac0,ac1,ac2,ac3,ac4,ac5⟩,⟨af0,af1,af2,af3,af4,af5⟩⟩:=BA.facts
 have bl:=BB.facts.1
 go_upto_region 3 with (go_at_call 33;(with_reducible refine (clone_any _ _ hn2).mono ?_);rintro e1 w1 ⟨rfl,hb1⟩;have HBx:=hid (below_ch HB.out hb1);replace BA:=BA.stay hb1;replace BB:=BB.stay hb1;obtain ⟨xl,⟨xc0,xc1,xc2,xc3,xc4,xc5⟩,⟨xf0,xf1,xf2,xf3,xf4,xf5⟩⟩:=BA.facts;clear hb1)
 refine name_world ?_
 intro W3 hW3
 replace BA : GBlk W3 w.heap.size y.a (bstr y.nm) y.tr y.sc y.len (bstr y.by_):=by (rw [hW3];exact (BA.set5 _))
 replace BB : GBlk W3 (w.heap.size + 1) 0 ⟨#[]⟩ false false 0 ⟨#[]⟩:=by (rw [hW3];exact (BB.setO (by omega) _ _))
 replace HB : Hid (Below w.heap.size w W3):=hid (by (rw [hW3];exact (HBx.out.setCell (by simp) _)))
 clear hW3 HBx al ac0 ac1 ac2 ac3 ac4 ac5 af0 af1 af2 af3 af4 af5 xl xc0 xc1 xc2 xc3 xc4 xc5 xf0 xf1 xf2 xf3 xf4 xf5
 obtain ⟨al,⟨ac0,ac1,ac2,ac3,ac4,ac5⟩,⟨af0,af1,af2,af3,af4,af5⟩⟩:=BA.facts
 have bl:=BB.facts.1
 obtain ⟨_,_,⟨f0,f1,f2,f3,f4,f5⟩⟩:=BB.facts
 go_wp2
 refine bodyPost_ret (results_gl rfl _ rfl BB.all) rfl ⟨rfl,?_⟩
 exact ((((((HB.out.setCell (by simp) _).setCell (by simp) _).setCell (by simp) _).setCell (by simp) _).setCell (by simp) _).setCell (by simp) _)
end Go.Proofs.Ytbmmjomcjlpnlaa
namespace Go.Proofs.Ytbmmjomcjlpnlaa
open Go Go.RowKit
inductive Th where
 | gl (y : Gl) (i : Nat)
 | lk (i : Nat)
 | fn (y : Fn) (v : FV) (i : Nat)
 | lo (tr sc : Bool)
def Th.val : Th → Value
 | .gl y i => .iface 93 (.agg #[.int .i64 y.a,.string (bstr y.nm),.bool y.tr,.bool y.sc,.int .i64 y.len,.string (bstr y.by_),.int .i64 i])
 | .lk i => .iface 97 (.agg #[.int .i64 i])
 | .fn y v i => .iface 100 (.agg #[.int .i64 y.a,.string (bstr y.nm),v.p,.bool y.tr,.bool y.sc,v.b,.int .i64 y.ret.k,.int .i64 y.ret.op,.int .i64 y.ret.n,.string (bstr y.ret.nm),v.k,.int .i64 y.ret.a,.int .i64 i])
 | .lo tr sc => .iface 108 (.agg #[.bool tr,.bool sc])
def Th.ok (lo : Nat) (W : World) : Th → Prop
 | .gl y _ => y.nm.length ≤ 100000 ∧ y.by_.length ≤ 100000
 | .lk _ => True
 | .fn y v _ => ShF y ∧ IsFn1 (fun g => lo ≤ g) W y v
 | .lo _ _ => True
abbrev TF : Type:=List UInt8 → Option Th
def TF.kf (F : TF) : KF:=fun t => (F t).map Th.val
structure Scp (B : Nat) (W : World) (s n : Nat) (F : TF) (L : List ByteArray) (bl : List Nat) (m lv bv : Value) : Prop where
 blk : W.heap[s]? = some (.cells #[m,lv,bv] 89 (0,0))
 hs : B ≤ s
 mp : (m = .map none ∧ ∀ t,F t = none) ∨ ∃ b,m = .map (some b) ∧ B ≤ b ∧ KMap W b n F.kf
 lo : W.ownsRow B 9 1 lv L.length (L.map Value.string)
 bk : W.ownsRow B 3 1 bv bl.length (bl.map fun (i : Nat) => Value.int .i64 (i : Int))
 th : ∀ t x,F t = some x → x.ok B W
section
variable {B : Nat} {W : World} {s n : Nat} {F : TF} {L : List ByteArray} {bl : List Nat} {m lv bv : Value}
theorem Scp.facts (h : Scp B W s n F L bl m lv bv) : s < W.heap.size ∧ (W.cell? ⟨s,0,none⟩ = some m ∧ W.cell? ⟨s,1,none⟩ = some lv ∧ W.cell? ⟨s,2,none⟩ = some bv) ∧ (W.frozen? ⟨s,0,none⟩ = false ∧ W.frozen? ⟨s,1,none⟩ = false ∧ W.frozen? ⟨s,2,none⟩ = false):=by
 refine ⟨(Array.getElem?_eq_some_iff.1 h.blk).1,⟨?_,?_,?_⟩,frozen_of_row W s _ _ _ h.blk,frozen_of_row W s _ _ _ h.blk,frozen_of_row W s _ _ _ h.blk⟩ <;> rw [cell_of_row _ _ _ _ _ _ h.blk] <;> rfl
theorem eql_ptr_some (a : Addr) (W : World) : (binOp .eql 33 (.pointer (some a)) (.pointer none)).run Try.prog W = .ok (.bool false) W:=by
 have h:=run_eql_pointer_nil (P:=Try.prog) W 33 (some a) (by kernel_rfl)
 simpa using h
theorem eql_ptr_none (W : World) : (binOp .eql 33 (.pointer none) (.pointer none)).run Try.prog W = .ok (.bool true) W:=by
 have h:=run_eql_pointer_nil (P:=Try.prog) W 33 none (by kernel_rfl)
 simpa using h
theorem thing_any (h : Hid (Scp B W s n F L bl m lv bv)) (t : ByteArray) (ht : t.size ≤ 140737488355328) :
 Calls Try.prog 32 #[.pointer (some ⟨s,0,none⟩),.string t] W fun e w' => e = .returned ((F.kf t.data.toList).getD .nilIface) ∧ w' = W:=by
 have hmx : t.size ≤ maxLen:=Nat.le_trans ht (by decide)
 have heq:=eql_ptr_some ⟨s,0,none⟩ W
 have hl : ∃ mm,m = .map mm ∧ (Instr.lookup 86 (.map mm) (.string t) false).run Try.prog W = .ok ((F.kf t.data.toList).getD .nilIface) W:=by
  rcases h.out.mp with ⟨rfl,hn⟩ | ⟨b,rfl,_,hk⟩
  · refine ⟨none,rfl,?_⟩
    rw [look_nil hmx,TF.kf,hn]
    rfl
  · exact ⟨some b,rfl,hk.look hmx⟩
 obtain ⟨mm,rfl,hlk⟩:=hl
 obtain ⟨u,hu⟩ : ∃ u,(F.kf t.data.toList).getD .nilIface = u:=⟨_,rfl⟩
 rw [hu] at hlk ⊢
 clear hu
 obtain ⟨sl,⟨c0,c1,c2⟩,f0,f1,f2⟩:=h.out.facts
 go_enter Try.func32,Try.ntmps32
 go_wp2
 go_ret
 exact ⟨rfl,rfl⟩
end
end Go.Proofs.Ytbmmjomcjlpnlaa
namespace Go.Proofs.Ytbmmjomcjlpnlaa
open Go Go.RowKit
def zGl : Value:=.agg #[.int .i64 0,.string ⟨#[]⟩,.bool false,.bool false,.int .i64 0,.string ⟨#[]⟩,.int .i64 0]
def zLk : Value:=.agg #[.int .i64 0]
def zFn : Value:=.agg #[.int .i64 0,.string ⟨#[]⟩,.slice none 0 0,.bool false,.bool false,.slice none 0 0,.int .i64 0,.int .i64 0,.int .i64 0,.string ⟨#[]⟩,.slice none 0 0,.int .i64 0,.int .i64 0]
def zLo : Value:=.agg #[.bool false,.bool false]
theorem z_gl (W : World) : (zeroValue 93).run Try.prog W = .ok zGl W:=by kernel_rfl
theorem z_lk (W : World) : (zeroValue 97).run Try.prog W = .ok zLk W:=by kernel_rfl
theorem z_fn (W : World) : (zeroValue 100).run Try.prog W = .ok zFn W:=by kernel_rfl
theorem z_lo (W : World) : (zeroValue 108).run Try.prog W = .ok zLo W:=by kernel_rfl
theorem ta_same {T E : TypeId} {d : TypeDesc} (hT : Try.prog.underlying T = some d) (hs : ∀ ms,d ≠ .interface ms) (v : Value) (W : World) : (Instr.typeAssert (.iface T v) E T true).run Try.prog W = .ok (.tuple #[v,.bool true]) W:=by
 cases d with
 | interface ms => exact absurd rfl (hs ms)
 | _ => simp [Instr.typeAssert,run_underlying hT]
theorem ta_other {T T' E : TypeId} {d : TypeDesc} {z : Value} (hT : Try.prog.underlying T' = some d) (hs : ∀ ms,d ≠ .interface ms) (hne : T ≠ T') (hz : ∀ W,(zeroValue T').run Try.prog W = .ok z W) (v : Value) (W : World) : (Instr.typeAssert (.iface T v) E T' true).run Try.prog W = .ok (.tuple #[z,.bool false]) W:=by
 cases d with
 | interface ms => exact absurd rfl (hs ms)
 | _ => simp [Instr.typeAssert,run_underlying hT,hne,hz]
theorem ta_nil {T' E : TypeId} {d : TypeDesc} {z : Value} (hT : Try.prog.underlying T' = some d) (hs : ∀ ms,d ≠ .interface ms) (hz : ∀ W,(zeroValue T').run Try.prog W = .ok z W) (W : World) : (Instr.typeAssert .nilIface E T' true).run Try.prog W = .ok (.tuple #[z,.bool false]) W:=by
 cases d with
 | interface ms => exact absurd rfl (hs ms)
 | _ => simp [Instr.typeAssert,run_underlying hT,hz]
theorem u_gl : ∃ d,Try.prog.underlying 93 = some d ∧ ∀ ms,d ≠ .interface ms:=⟨_,Try.underlying93,fun _ h => by cases h⟩
theorem u_lk : ∃ d,Try.prog.underlying 97 = some d ∧ ∀ ms,d ≠ .interface ms:=⟨_,Try.underlying97,fun _ h => by cases h⟩
theorem u_fn : ∃ d,Try.prog.underlying 100 = some d ∧ ∀ ms,d ≠ .interface ms:=⟨_,Try.underlying100,fun _ h => by cases h⟩
theorem u_lo : ∃ d,Try.prog.underlying 108 = some d ∧ ∀ ms,d ≠ .interface ms:=⟨_,Try.underlying108,fun _ h => by cases h⟩
theorem ta_gl (x : Option Th) (W : World) : (Instr.typeAssert ((x.map Th.val).getD .nilIface) 20 93 true).run Try.prog W = .ok (match x with | some (.gl y i) => .tuple #[.agg #[.int .i64 y.a,.string (bstr y.nm),.bool y.tr,.bool y.sc,.int .i64 y.len,.string (bstr y.by_),.int .i64 i],.bool true] | _ => .tuple #[zGl,.bool false]) W:=by
 obtain ⟨d,h1,h2⟩:=u_gl
 rcases x with _ | x
 · exact ta_nil h1 h2 z_gl W
 · cases x with
   | gl y i => exact ta_same h1 h2 _ W
   | _ => exact ta_other h1 h2 (by decide) z_gl _ W
theorem ta_lk (x : Option Th) (W : World) : (Instr.typeAssert ((x.map Th.val).getD .nilIface) 20 97 true).run Try.prog W = .ok (match x with | some (.lk i) => .tuple #[.agg #[.int .i64 i],.bool true] | _ => .tuple #[zLk,.bool false]) W:=by
 obtain ⟨d,h1,h2⟩:=u_lk
 rcases x with _ | x
 · exact ta_nil h1 h2 z_lk W
 · cases x with
   | lk i => exact ta_same h1 h2 _ W
   | _ => exact ta_other h1 h2 (by decide) z_lk _ W
theorem ta_fn (x : Option Th) (W : World) : (Instr.typeAssert ((x.map Th.val).getD .nilIface) 20 100 true).run Try.prog W = .ok (match x with | some (.fn y v i) => .tuple #[.agg #[.int .i64 y.a,.string (bstr y.nm),v.p,.bool y.tr,.bool y.sc,v.b,.int .i64 y.ret.k,.int .i64 y.ret.op,.int .i64 y.ret.n,.string (bstr y.ret.nm),v.k,.int .i64 y.ret.a,.int .i64 i],.bool true] | _ => .tuple #[zFn,.bool false]) W:=by
 obtain ⟨d,h1,h2⟩:=u_fn
 rcases x with _ | x
 · exact ta_nil h1 h2 z_fn W
 · cases x with
   | fn y v i => exact ta_same h1 h2 _ W
   | _ => exact ta_other h1 h2 (by decide) z_fn _ W
theorem ta_lo (x : Option Th) (W : World) : (Instr.typeAssert ((x.map Th.val).getD .nilIface) 20 108 true).run Try.prog W = .ok (match x with | some (.lo tr sc) => .tuple #[.agg #[.bool tr,.bool sc],.bool true] | _ => .tuple #[zLo,.bool false]) W:=by
 obtain ⟨d,h1,h2⟩:=u_lo
 rcases x with _ | x
 · exact ta_nil h1 h2 z_lo W
 · cases x with
   | lo tr sc => exact ta_same h1 h2 _ W
   | _ => exact ta_other h1 h2 (by decide) z_lo _ W
end Go.Proofs.Ytbmmjomcjlpnlaa
namespace Go.Proofs.Ytbmmjomcjlpnlaa
open Go Go.RowKit
def kindN : Option Th → Int
 | none => 0
 | some (.gl _ _) => 1
 | some (.lk _) => 2
 | some (.fn _ _ _) => 3
 | some (.lo _ _) => 4
section
variable {B : Nat} {W : World} {s n : Nat} {F : TF} {L : List ByteArray} {bl : List Nat} {m lv bv : Value}
theorem kind_any (h : Hid (Scp B W s n F L bl m lv bv)) (t : ByteArray) (ht : t.size ≤ 140737488355328) :
 Calls Try.prog 19 #[.pointer (some ⟨s,0,none⟩),.string t] W fun e w' => e = .returned (.int .i64 (kindN (F t.data.toList))) ∧ w' = W:=by
 have HT:=hid (thing_any h t ht)
 unfold TF.kf at HT
 obtain ⟨x,hx⟩ : ∃ x,F t.data.toList = x:=⟨_,rfl⟩
 rw [hx] at HT ⊢
 have a1:=ta_gl x W
 have a2:=ta_lk x W
 have a3:=ta_fn x W
 have a4:=ta_lo x W
 clear hx h
 rcases x with _ | x
 · simp only [Option.map_none,Option.getD_none] at a1 a2 a3 a4
   go_enter Try.func19,Try.ntmps19
   go_wp2_with (go_at_call 32;refine HT.out.mono ?_;rintro e1 w1 ⟨rfl,rfl⟩;simp only [Option.map_none,Option.getD_none])
   go_ret
   exact ⟨rfl,rfl⟩
 · cases x with
   | gl y i =>
    simp only [Option.map_some,Option.getD_some,Th.val] at a1 a2 a3 a4
    go_enter Try.func19,Try.ntmps19
    go_wp2_with (go_at_call 32;refine HT.out.mono ?_;rintro e1 w1 ⟨rfl,rfl⟩;simp only [Option.map_some,Option.getD_some,Th.val])
    go_ret
    exact ⟨rfl,rfl⟩
   | lk i =>
    simp only [Option.map_some,Option.getD_some,Th.val] at a1 a2 a3 a4
    go_enter Try.func19,Try.ntmps19
    go_wp2_with (go_at_call 32;refine HT.out.mono ?_;rintro e1 w1 ⟨rfl,rfl⟩;simp only [Option.map_some,Option.getD_some,Th.val])
    go_ret
    exact ⟨rfl,rfl⟩
   | fn y v i =>
    simp only [Option.map_some,Option.getD_some,Th.val] at a1 a2 a3 a4
    go_enter Try.func19,Try.ntmps19
    go_wp2_with (go_at_call 32;refine HT.out.mono ?_;rintro e1 w1 ⟨rfl,rfl⟩;simp only [Option.map_some,Option.getD_some,Th.val])
    go_ret
    exact ⟨rfl,rfl⟩
   | lo tr sc =>
    simp only [Option.map_some,Option.getD_some,Th.val] at a1 a2 a3 a4
    go_enter Try.func19,Try.ntmps19
    go_wp2_with (go_at_call 32;refine HT.out.mono ?_;rintro e1 w1 ⟨rfl,rfl⟩;simp only [Option.map_some,Option.getD_some,Th.val])
    go_ret
    exact ⟨rfl,rfl⟩
end
end Go.Proofs.Ytbmmjomcjlpnlaa
namespace Go.Proofs.Ytbmmjomcjlpnlaa
open Go Go.RowKit
def typeN : Option Th → Bool × Bool
 | some (.gl y _) => (y.tr,y.sc)
 | some (.lo tr sc) => (tr,sc)
 | _ => (false,false)
def lockN : Option Th → Int
 | some (.lk i) => i
 | _ => -1
def ZBlk (X : World) (n : Nat) (tr sc : Bool) : Prop:=X.heap[n]? = some (.cells #[.bool tr,.bool sc] 42 (0,0))
section
variable {X Y : World} {n : Nat} {tr sc : Bool}
theorem ZBlk.facts (h : ZBlk X n tr sc) : n < X.heap.size ∧ (X.cell? ⟨n,0,none⟩ = some (.bool tr) ∧ X.cell? ⟨n,1,none⟩ = some (.bool sc)) ∧ (X.frozen? ⟨n,0,none⟩ = false ∧ X.frozen? ⟨n,1,none⟩ = false):=by
 refine ⟨(Array.getElem?_eq_some_iff.1 h).1,⟨?_,?_⟩,frozen_of_row X n _ _ _ h,frozen_of_row X n _ _ _ h⟩ <;> rw [cell_of_row _ _ _ _ _ _ h] <;> rfl
theorem ZBlk.all (h : ZBlk X n tr sc) {tr' sc' : Bool} : ZBlk ((X.setCell ⟨n,0,none⟩ (.bool tr')).setCell ⟨n,1,none⟩ (.bool sc')) n tr' sc':=heap_setCell_same _ n 1 _ _ _ (heap_setCell_same X n 0 _ _ _ h)
theorem ZBlk.alloc (h : ZBlk X n tr sc) (o : Obj) : ZBlk (X.alloc o) n tr sc:=(Below.heap_alloc X o n (Array.getElem?_eq_some_iff.1 h).1).trans h
theorem ZBlk.new (hn : n = X.heap.size) : ZBlk (X.alloc (.cells #[.bool tr,.bool sc] 42)) n tr sc:=hn ▸ heap_alloc_new X _
theorem results_zt {fn : Func} {p : Tmp} (hfn : fn.results = #[.cell p 42]) (tmps : Array Value) (hp : tmps.getD p undef = .pointer (some ⟨n,0,none⟩)) (h : ZBlk X n tr sc) :
 (results fn tmps).run Try.prog X = .ok (.agg #[.bool tr,.bool sc]) X:=by
 have hp' : tmps[p]?.getD undef = .pointer (some ⟨n,0,none⟩):=by simpa using hp
 simp [results,hfn,hp',asAddr,run_loadVar_row X n 42 42 _ (0,0) _ h Try.underlying42 rfl (by kernel_rfl)]
end
section
variable {B : Nat} {W : World} {s n : Nat} {F : TF} {L : List ByteArray} {bl : List Nat} {m lv bv : Value}
theorem Scp.stay (h : Scp B W s n F L bl m lv bv) {X : World} (k : Below W.heap.size W X) : Scp B X s n F L bl m lv bv:=by
 obtain ⟨h1,h2,h3,h4,h5,h6⟩:=h
 refine ⟨(k.block s (Array.getElem?_eq_some_iff.1 h1).1).trans h1,h2,?_,own_below h4 k,own_below h5 k,fun t x hx => ?_⟩
 · rcases h3 with h3 | ⟨b,e,hb,hk⟩
   · exact .inl h3
   · exact .inr ⟨b,e,hb,hk.stay k⟩
 · have:=h6 t x hx
   cases x with
   | fn y v i => exact ⟨this.1,this.2.stay k⟩
   | _ => exact this
theorem thing_x (h : Hid (Scp B W s n F L bl m lv bv)) (t : ByteArray) (ht : t.size ≤ 140737488355328) {x : Option Th} (hx : F t.data.toList = x) : Hid (∀ X,Below W.heap.size W X → Calls Try.prog 32 #[.pointer (some ⟨s,0,none⟩),.string t] X fun e w' => e = .returned ((x.map Th.val).getD .nilIface) ∧ w' = X):=hid fun X hX => by
 have:=thing_any (hid (h.out.stay hX)) t ht
 unfold TF.kf at this
 rw [hx] at this
 exact this
theorem lock_any (h : Hid (Scp B W s n F L bl m lv bv)) (t : ByteArray) (ht : t.size ≤ 140737488355328) :
 Calls Try.prog 20 #[.pointer (some ⟨s,0,none⟩),.string t] W fun e w' => e = .returned (.int .i64 (lockN (F t.data.toList))) ∧ Below W.heap.size W w':=by
 obtain ⟨x,hx⟩ : ∃ x,F t.data.toList = x:=⟨_,rfl⟩
 have HT:=thing_x h t ht hx
 have a2:=ta_lk x W
 have H0:=hid (Below.refl W.heap.size W)
 rw [hx]
 clear hx h
 rcases x with _ | x
 · simp only [Option.map_none,Option.getD_none,zLk] at a2
   go_enter Try.func20,Try.ntmps20
   go_wp2_with (go_at_call 32;refine (HT.out _ H0.out).mono ?_;rintro e1 w1 ⟨rfl,rfl⟩;simp only [Option.map_none,Option.getD_none])
   go_ret
   exact ⟨rfl,(Below.refl _ _).alloc (Nat.le_refl _) _⟩
 · cases x with
   | gl y i =>
    simp only [Option.map_some,Option.getD_some,Th.val,zLk] at a2
    go_enter Try.func20,Try.ntmps20
    go_wp2_with (go_at_call 32;refine (HT.out _ H0.out).mono ?_;rintro e1 w1 ⟨rfl,rfl⟩;simp only [Option.map_some,Option.getD_some,Th.val])
    go_ret
    exact ⟨rfl,(Below.refl _ _).alloc (Nat.le_refl _) _⟩
   | lk i =>
    simp only [Option.map_some,Option.getD_some,Th.val,zLk] at a2
    go_enter Try.func20,Try.ntmps20
    go_wp2_with (go_at_call 32;refine (HT.out _ H0.out).mono ?_;rintro e1 w1 ⟨rfl,rfl⟩;simp only [Option.map_some,Option.getD_some,Th.val])
    go_ret
    exact ⟨rfl,(Below.refl _ _).alloc (Nat.le_refl _) _⟩
   | fn y v i =>
    simp only [Option.map_some,Option.getD_some,Th.val,zLk] at a2
    go_enter Try.func20,Try.ntmps20
    go_wp2_with (go_at_call 32;refine (HT.out _ H0.out).mono ?_;rintro e1 w1 ⟨rfl,rfl⟩;simp only [Option.map_some,Option.getD_some,Th.val])
    go_ret
    exact ⟨rfl,(Below.refl _ _).alloc (Nat.le_refl _) _⟩
   | lo tr sc =>
    simp only [Option.map_some,Option.getD_some,Th.val,zLk] at a2
    go_enter Try.func20,Try.ntmps20
    go_wp2_with (go_at_call 32;refine (HT.out _ H0.out).mono ?_;rintro e1 w1 ⟨rfl,rfl⟩;simp only [Option.map_some,Option.getD_some,Th.val])
    go_ret
    exact ⟨rfl,(Below.refl _ _).alloc (Nat.le_refl _) _⟩
theorem typ_any (h : Hid (Scp B W s n F L bl m lv bv)) (t : ByteArray) (ht : t.size ≤ 140737488355328) :
 Calls Try.prog 21 #[.pointer (some ⟨s,0,none⟩),.string t] W fun e w' => e = .returned (.agg #[.bool (typeN (F t.data.toList)).1,.bool (typeN (F t.data.toList)).2]) ∧ Below W.heap.size W w':=by
 obtain ⟨x,hx⟩ : ∃ x,F t.data.toList = x:=⟨_,rfl⟩
 have HT:=thing_x h t ht hx
 have hA:=below_of_alloc W (.cells #[.bool false,.bool false] 42)
 have hY:=ZBlk.new (X:=W) (n:=W.heap.size) (tr:=false) (sc:=false) rfl
 obtain ⟨W1,hW1⟩ : ∃ X,W.alloc (.cells #[.bool false,.bool false] 42) = X:=⟨_,rfl⟩
 rw [hW1] at hA hY
 have a1:=ta_gl x W1
 have a4:=ta_lo x W1
 have HA:=hid hA
 have HY:=hid hY
 rw [hx]
 clear hx h hA hY
 rcases x with _ | x
 · simp only [Option.map_none,Option.getD_none,zGl,zLo] at a1 a4
   go_enter Try.func21,Try.ntmps21
   go_upto_region 1 with (fail)
   obtain ⟨yl,⟨y0,y1⟩,yf0,yf1⟩:=HY.out.facts
   clear hW1
   go_wp2_with (go_at_call 32;refine (HT.out _ HA.out).mono ?_;rintro e1 w1 ⟨rfl,rfl⟩;simp only [Option.map_none,Option.getD_none])
   refine bodyPost_ret (results_zt rfl _ rfl HY.out.all) rfl ⟨rfl,?_⟩
   exact (HA.out.setCell (by simp) _).setCell (by simp) _
 · cases x with
   | gl y i =>
    simp only [Option.map_some,Option.getD_some,Th.val,zGl,zLo] at a1 a4
    go_enter Try.func21,Try.ntmps21
    go_upto_region 1 with (fail)
    obtain ⟨yl,⟨y0,y1⟩,yf0,yf1⟩:=HY.out.facts
    clear hW1
    go_wp2_with (go_at_call 32;refine (HT.out _ HA.out).mono ?_;rintro e1 w1 ⟨rfl,rfl⟩;simp only [Option.map_some,Option.getD_some,Th.val])
    refine bodyPost_ret (results_zt rfl _ rfl (HY.out.all.alloc _)) rfl ⟨rfl,?_⟩
    exact ((HA.out.setCell (by simp) _).setCell (by simp) _).alloc (by simp;have:=HA.out.size;omega) _
   | lk i =>
    simp only [Option.map_some,Option.getD_some,Th.val,zGl,zLo] at a1 a4
    go_enter Try.func21,Try.ntmps21
    go_upto_region 1 with (fail)
    obtain ⟨yl,⟨y0,y1⟩,yf0,yf1⟩:=HY.out.facts
    clear hW1
    go_wp2_with (go_at_call 32;refine (HT.out _ HA.out).mono ?_;rintro e1 w1 ⟨rfl,rfl⟩;simp only [Option.map_some,Option.getD_some,Th.val])
    refine bodyPost_ret (results_zt rfl _ rfl HY.out.all) rfl ⟨rfl,?_⟩
    exact (HA.out.setCell (by simp) _).setCell (by simp) _
   | fn y v i =>
    simp only [Option.map_some,Option.getD_some,Th.val,zGl,zLo] at a1 a4
    go_enter Try.func21,Try.ntmps21
    go_upto_region 1 with (fail)
    obtain ⟨yl,⟨y0,y1⟩,yf0,yf1⟩:=HY.out.facts
    clear hW1
    go_wp2_with (go_at_call 32;refine (HT.out _ HA.out).mono ?_;rintro e1 w1 ⟨rfl,rfl⟩;simp only [Option.map_some,Option.getD_some,Th.val])
    refine bodyPost_ret (results_zt rfl _ rfl HY.out.all) rfl ⟨rfl,?_⟩
    exact (HA.out.setCell (by simp) _).setCell (by simp) _
   | lo tr sc =>
    simp only [Option.map_some,Option.getD_some,Th.val,zGl,zLo] at a1 a4
    go_enter Try.func21,Try.ntmps21
    go_upto_region 1 with (fail)
    obtain ⟨yl,⟨y0,y1⟩,yf0,yf1⟩:=HY.out.facts
    clear hW1
    go_wp2_with (go_at_call 32;refine (HT.out _ HA.out).mono ?_;rintro e1 w1 ⟨rfl,rfl⟩;simp only [Option.map_some,Option.getD_some,Th.val])
    refine bodyPost_ret (results_zt rfl _ rfl (HY.out.all.alloc _)) rfl ⟨rfl,?_⟩
    exact ((HA.out.setCell (by simp) _).setCell (by simp) _).alloc (by simp;have:=HA.out.size;omega) _
end
end Go.Proofs.Ytbmmjomcjlpnlaa
namespace Go.Proofs.Ytbmmjomcjlpnlaa
open Go Go.RowKit
theorem results_gn {X : World} {n : Nat} {a ln : Int} {nm yy : ByteArray} {tr sc : Bool} {u : Value} {fn : Func} {p q : Tmp} (hfn : fn.results = #[.cell p 56,.tmp q]) (tmps : Array Value) (hp : tmps.getD p undef = .pointer (some ⟨n,0,none⟩)) (hq : tmps.getD q undef = u) (h : GBlk X n a nm tr sc ln yy) :
 (results fn tmps).run Try.prog X = .ok (.tuple #[.agg #[.int .i64 a,.string nm,.bool tr,.bool sc,.int .i64 ln,.string yy],u]) X:=by
 have hp' : tmps[p]?.getD undef = .pointer (some ⟨n,0,none⟩):=by simpa using hp
 have hq' : tmps[q]?.getD undef = u:=by simpa using hq
 simp [results,hfn,hp',hq',asAddr,run_loadVar_row X n 56 56 _ (0,0) _ h Try.underlying56 rfl (by kernel_rfl)]
def gl00 : Gl:=⟨0,[],false,false,0,[]⟩
def globN : Option Th → Gl × Int
 | some (.gl y i) => (y,i)
 | _ => (gl00,-1)
section
variable {B : Nat} {W : World} {s n : Nat} {F : TF} {L : List ByteArray} {bl : List Nat} {m lv bv : Value}
theorem glob_any (h : Hid (Scp B W s n F L bl m lv bv)) (t : ByteArray) (ht : t.size ≤ 140737488355328) :
 Calls Try.prog 17 #[.pointer (some ⟨s,0,none⟩),.string t] W fun e w' => e = .returned (.tuple #[glVal (globN (F t.data.toList)).1,.int .i64 (globN (F t.data.toList)).2]) ∧ Below W.heap.size W w':=by
 obtain ⟨x,hx⟩ : ∃ x,F t.data.toList = x:=⟨_,rfl⟩
 have HT:=thing_x h t ht hx
 have HO:=hid (fun x' hx' => h.out.th t.data.toList x' hx')
 have hA:=below_of_alloc W (.cells #[.int .i64 0,.string ⟨#[]⟩,.bool false,.bool false,.int .i64 0,.string ⟨#[]⟩] 56)
 have hY:=GBlk.new (X:=W) (n:=W.heap.size) (a:=0) (nm:=⟨#[]⟩) (tr:=false) (sc:=false) (ln:=0) (yy:=⟨#[]⟩) rfl
 obtain ⟨W1,hW1⟩ : ∃ X,W.alloc (.cells #[.int .i64 0,.string ⟨#[]⟩,.bool false,.bool false,.int .i64 0,.string ⟨#[]⟩] 56) = X:=⟨_,rfl⟩
 rw [hW1] at hA hY
 have a1:=ta_gl x W1
 have HA:=hid hA
 have HY:=hid hY
 rw [hx] at HO ⊢
 clear hx h hA hY
 rcases x with _ | x
 · simp only [Option.map_none,Option.getD_none,zGl] at a1
   clear HO
   go_enter Try.func17,Try.ntmps17
   go_upto_region 1 with (fail)
   obtain ⟨yl,⟨y0,y1,y2,y3,y4,y5⟩,yf0,yf1,yf2,yf3,yf4,yf5⟩:=HY.out.facts
   clear hW1
   go_wp2_with (go_at_call 32;refine (HT.out _ HA.out).mono ?_;rintro e1 w1 ⟨rfl,rfl⟩;simp only [Option.map_none,Option.getD_none])
   refine bodyPost_ret (results_gn rfl _ rfl rfl (HY.out.all.alloc _)) rfl ⟨rfl,?_⟩
   exact ((((((HA.out.setCell (by simp) _).setCell (by simp) _).setCell (by simp) _).setCell (by simp) _).setCell (by simp) _).setCell (by simp) _).alloc (by simp;have:=HA.out.size;omega) _
 · cases x with
   | gl y i =>
    simp only [Option.map_some,Option.getD_some,Th.val,zGl] at a1
    have hok:=HO.out _ rfl
    go_enter Try.func17,Try.ntmps17
    go_upto_region 1 with (fail)
    obtain ⟨yl,⟨y0,y1,y2,y3,y4,y5⟩,yf0,yf1,yf2,yf3,yf4,yf5⟩:=HY.out.facts
    clear hW1
    go_upto_region 4 with (go_at_call 32;refine (HT.out _ HA.out).mono ?_;rintro e1 w1 ⟨rfl,rfl⟩;simp only [Option.map_some,Option.getD_some,Th.val])
    refine name_world ?_
    intro W2 hW2
    have hB2 : Below W.heap.size W W2:=by (rw [hW2];exact HA.out.alloc HA.out.size _)
    have hY2 : GBlk W2 W.heap.size 0 ⟨#[]⟩ false false 0 ⟨#[]⟩:=by (rw [hW2];exact HY.out.alloc _)
    have hg : W2.heap[w1.heap.size]? = some (.cells #[.int .i64 y.a,.string (bstr y.nm),.bool y.tr,.bool y.sc,.int .i64 y.len,.string (bstr y.by_),.int .i64 i] 93 (0,0)):=by (rw [hW2];exact heap_alloc_new _ _)
    have hgw : W.heap.size < w1.heap.size:=yl
    clear hW2 y0 y1 y2 y3 y4 y5 yf0 yf1 yf2 yf3 yf4 yf5 yl
    have HB2:=hid hB2
    have HY2:=hid hY2
    have HG:=hid hg
    have hok1:=hok.1
    have hok2:=hok.2
    have hgl : w1.heap.size < W2.heap.size:=(Array.getElem?_eq_some_iff.1 hg).1
    have g0 : W2.cell? ⟨w1.heap.size,0,none⟩ = some (.int .i64 y.a):=cell_of_row _ _ _ _ _ _ hg
    have g1 : W2.cell? ⟨w1.heap.size,1,none⟩ = some (.string (bstr y.nm)):=cell_of_row _ _ _ _ _ _ hg
    have g2 : W2.cell? ⟨w1.heap.size,2,none⟩ = some (.bool y.tr):=cell_of_row _ _ _ _ _ _ hg
    have g3 : W2.cell? ⟨w1.heap.size,3,none⟩ = some (.bool y.sc):=cell_of_row _ _ _ _ _ _ hg
    have g4 : W2.cell? ⟨w1.heap.size,4,none⟩ = some (.int .i64 y.len):=cell_of_row _ _ _ _ _ _ hg
    have g5 : W2.cell? ⟨w1.heap.size,5,none⟩ = some (.string (bstr y.by_)):=cell_of_row _ _ _ _ _ _ hg
    have g6 : W2.cell? ⟨w1.heap.size,6,none⟩ = some (.int .i64 i):=cell_of_row _ _ _ _ _ _ hg
    obtain ⟨zl,⟨z0,z1,z2,z3,z4,z5⟩,zf0,zf1,zf2,zf3,zf4,zf5⟩:=hY2.facts
    clear hB2 hY2 hg hok
    go_region_law (first | (go_simp;go_at_call 28;(with_reducible refine (cglobal_any y _ hok1 hok2).mono ?_);rintro e2 w3 ⟨rfl,hb3⟩;replace hb3:=below_ch ((Below.refl W2.heap.size W2).drew) hb3;have HB3:=hid hb3;obtain ⟨zl3,⟨z03,z13,z23,z33,z43,z53⟩,zf03,zf13,zf23,zf33,zf43,zf53⟩:=(HY2.out.stay hb3).facts;have g63 : w3.cell? ⟨w1.heap.size,6,none⟩ = some (.int .i64 i):=(hb3.cell (p:=⟨w1.heap.size,6,none⟩) hgl).trans (cell_of_row _ _ _ _ _ _ HG.out)))
    all_goals go_wp2
    all_goals refine bodyPost_ret (results_gn rfl _ rfl rfl (HY2.out.stay HB3.out).all) rfl ⟨rfl,?_⟩
    all_goals exact (((((((below_ch HB2.out HB3.out).setCell (by simp) _).setCell (by simp) _).setCell (by simp) _).setCell (by simp) _).setCell (by simp) _).setCell (by simp) _)
   | lk i =>
    simp only [Option.map_some,Option.getD_some,Th.val,zGl] at a1
    clear HO
    go_enter Try.func17,Try.ntmps17
    go_upto_region 1 with (fail)
    obtain ⟨yl,⟨y0,y1,y2,y3,y4,y5⟩,yf0,yf1,yf2,yf3,yf4,yf5⟩:=HY.out.facts
    clear hW1
    go_wp2_with (go_at_call 32;refine (HT.out _ HA.out).mono ?_;rintro e1 w1 ⟨rfl,rfl⟩;simp only [Option.map_some,Option.getD_some,Th.val])
    refine bodyPost_ret (results_gn rfl _ rfl rfl (HY.out.all.alloc _)) rfl ⟨rfl,?_⟩
    exact ((((((HA.out.setCell (by simp) _).setCell (by simp) _).setCell (by simp) _).setCell (by simp) _).setCell (by simp) _).setCell (by simp) _).alloc (by simp;have:=HA.out.size;omega) _
   | fn y v i =>
    simp only [Option.map_some,Option.getD_some,Th.val,zGl] at a1
    clear HO
    go_enter Try.func17,Try.ntmps17
    go_upto_region 1 with (fail)
    obtain ⟨yl,⟨y0,y1,y2,y3,y4,y5⟩,yf0,yf1,yf2,yf3,yf4,yf5⟩:=HY.out.facts
    clear hW1
    go_wp2_with (go_at_call 32;refine (HT.out _ HA.out).mono ?_;rintro e1 w1 ⟨rfl,rfl⟩;simp only [Option.map_some,Option.getD_some,Th.val])
    refine bodyPost_ret (results_gn rfl _ rfl rfl (HY.out.all.alloc _)) rfl ⟨rfl,?_⟩
    exact ((((((HA.out.setCell (by simp) _).setCell (by simp) _).setCell (by simp) _).setCell (by simp) _).setCell (by simp) _).setCell (by simp) _).alloc (by simp;have:=HA.out.size;omega) _
   | lo tr sc =>
    simp only [Option.map_some,Option.getD_some,Th.val,zGl] at a1
    clear HO
    go_enter Try.func17,Try.ntmps17
    go_upto_region 1 with (fail)
    obtain ⟨yl,⟨y0,y1,y2,y3,y4,y5⟩,yf0,yf1,yf2,yf3,yf4,yf5⟩:=HY.out.facts
    clear hW1
    go_wp2_with (go_at_call 32;refine (HT.out _ HA.out).mono ?_;rintro e1 w1 ⟨rfl,rfl⟩;simp only [Option.map_some,Option.getD_some,Th.val])
    refine bodyPost_ret (results_gn rfl _ rfl rfl (HY.out.all.alloc _)) rfl ⟨rfl,?_⟩
    exact ((((((HA.out.setCell (by simp) _).setCell (by simp) _).setCell (by simp) _).setCell (by simp) _).setCell (by simp) _).setCell (by simp) _).alloc (by simp;have:=HA.out.size;omega) _
end
end Go.Proofs.Ytbmmjomcjlpnlaa
