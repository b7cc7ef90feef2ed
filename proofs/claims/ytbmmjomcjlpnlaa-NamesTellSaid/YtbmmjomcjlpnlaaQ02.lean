/- Joined texts: Rlist RnamC Rthing: lemmas for the law; each says its own conditions. -/
import Derived.Test.YtbmmjomcjlpnlaaQ01
set_option linter.unusedSimpArgs false
set_option linter.unusedVariables false
set_option maxRecDepth 100000
set_option maxHeartbeats 8000000
open Go.Lib (hid)
namespace Go.Proofs.Ytbmmjomcjlpnlaa
open Go Go.RowKit
def LstNext (o : Nat) (acc : List Ex) (rl : Res) : Res → Prop
 | .ok e (f :: tt) => (Sg f [44] → P o (.list (acc ++ [e])) tt rl) ∧ (¬ Sg f [44] → rl = .okL (acc ++ [e]) (f :: tt))
 | .bad c a => rl = .bad c a
 | _ => False
theorem lst_step {o : Nat} {acc : List Ex} {tt : List Wd} {rl : Res} (h : P o (.list acc) tt rl) : ∃ r1,P o (.expr 1) tt r1 ∧ LstNext o acc rl r1:=by
 cases h with
 | lstMore h1 h2 h3 => exact ⟨_,h1,fun _ => h3,fun h => absurd h2 h⟩
 | lstEnd h1 h2 => exact ⟨_,h1,fun h => absurd h h2,fun _ => rfl⟩
 | lstBad h1 => exact ⟨_,h1,rfl⟩
theorem res_len {o : Nat} {ts tt : List Wd} {r : Res} (hP : P o (.expr 1) ts r) (hF : Fin ts) (h : r.st = .ok tt) : tt.length ≤ ts.length:=by
 have hpo:=hP.post' (by simp [Job.may]) hF
 cases r with
 | ok e ts' =>
  cases h
  simp only [Post,Job.lst,Job.min] at hpo
  omega
 | okL es ts' =>
  cases h
  simp only [Post,Job.lst,Job.min] at hpo
  omega
 | bad => cases h
def LRel (lo : Nat) (ws : List Wd) (o : Nat) (rl : Res) (v : Value) (W : World) (σ : RS) : Prop :=
 (∃ acc l f tt,σ = .ok (f :: tt) ∧ GrowsL lo W acc v l ∧ acc.length + (f :: tt).length ≤ ws.length ∧ (Sg f [44] → P o (.list acc) tt rl) ∧ (¬ Sg f [44] → rl = .okL acc (f :: tt))) ∨
 (∃ c a,σ = .bad c a ∧ rl = .bad c a ∧ ∃ p l k,v = .slice p l k)
theorem LRel.fr {lo rb : Nat} {ws : List Wd} {o : Nat} {rl : Res} {v : Value} {W X : World} {σ : RS} (h : LRel lo ws o rl v W σ) (hf : Fr (some rb) W X) (hr : rb < lo) : LRel lo ws o rl v X σ:=by
 rcases h with ⟨acc,l,f,tt,h1,h2,h3⟩ | h
 · exact .inl ⟨acc,l,f,tt,h1,h2.fr hf hr,h3⟩
 · exact .inr h
theorem LRel.next {lo B5 : Nat} {ws : List Wd} {o : Nat} {rl r1 : Res} {v : Value} {w5 w6 : World} {acc : List Ex} {l : List (Ex × Value)} {k q n : Int} {nm : ByteArray} {p : Option Addr} {m c : Nat} {a : Int} {g cap : Nat} {tt : List Wd}
 (hG : GrowsL lo w5 acc v l) (hg : GoodEx B5 w5 r1 k q n nm p m c a) (hlo : lo ≤ B5) (hv : ∀ j,v.ownBlock = some j → j < B5) (hP : P o (.expr 1) tt r1) (hF : Fin tt) (hlen : acc.length + tt.length ≤ ws.length) (hN : LstNext o acc rl r1)
 (hown : w6.ownsRow lo 63 6 (.slice (some ⟨g,0,none⟩) (acc.length + 1) cap) (acc.length + 1) (exRow l ++ rawL k q n nm p m c a)) (hgrow : (w5.alloc (.cells #[.int .i64 k,.int .i64 q,.int .i64 n,.string nm,.slice p m c,.int .i64 a] 63)).grownBy w6 v.ownBlock)
 (hor : v.ownBlock = some g ∨ g = (w5.alloc (.cells #[.int .i64 k,.int .i64 q,.int .i64 n,.string nm,.slice p m c,.int .i64 a] 63)).heap.size) : LRel lo ws o rl (.slice (some ⟨g,0,none⟩) (acc.length + 1) cap) w6 r1.st:=by
 cases r1 with
 | ok e ts =>
  cases ts with
  | nil => exact hN.elim
  | cons f tt' =>
   obtain ⟨rfl,rfl,rfl,rfl,rfl,rfl,h7⟩:=hg e _ rfl
   have hpo:=hP.post' (by simp [Job.may]) hF
   simp only [Post,Job.lst,Job.min] at hpo
   have hb : Below w5.heap.size w5 (w5.alloc (.cells #[.int .i64 e.k,.int .i64 e.op,.int .i64 e.n,.string (bstr e.nm),.slice p e.ks.length c,.int .i64 e.a] 63)):=(Below.refl _ _).alloc (Nat.le_refl _) _
   refine .inl ⟨acc ++ [e],l ++ [(e,.slice p e.ks.length c)],f,tt',rfl,?_,?_,hN⟩
   · refine GrowsL.more (x:=e) (u:=.slice p e.ks.length c) (l:=l) (H:=_) ?_ ((h7.low hlo).stay hb) ?_ hgrow rfl hor hown
     · obtain ⟨h1,h2,h3,h4⟩:=hG
       exact ⟨h1,own_below h2 hb,fun q hq => (h3 q hq).kept fun g hg hl => ⟨hb.block g hl,hg⟩,h4⟩
     · intro j hj
       have hjl:=hv j hj
       exact (h7.stay hb).toP fun g hg _ => ⟨rfl,by omega,by omega⟩
   · have:=hpo.2.2
     simp only [List.length_append,List.length_cons,List.length_nil] at this ⊢
     omega
 | okL => exact hN.elim
 | bad c' a' => exact .inr ⟨c',a',rfl,hN,_,_,_,rfl⟩
theorem GrowsL.form {B : Nat} {W : World} {es : List Ex} {v : Value} {l : List (Ex × Value)} (h : GrowsL B W es v l) : ∃ p c,v = .slice p es.length c:=by
 rcases h.2.1.2 with ⟨h1,h2⟩ | ⟨g,cap,cur,h1,_⟩
 · exact ⟨none,0,by rw [h1,h2]⟩
 · exact ⟨_,_,h1⟩
theorem rlist_none (rb g : Nat) (ws : List Wd) (o : Nat) (d : Wd) (tt : List Wd) (hd : Sg d [41]) : SndRL rb g ws 81 #[.pointer (some ⟨rb,0,none⟩)] o (d :: tt) (.okL [] (d :: tt)):=by
 intro W cap E0 S0
 have b1 : Hid ((RS.ok (d :: tt)).is (⟨#[41]⟩ : ByteArray).data.toList = true):=hid (isS_yes hd)
 have S:=hid S0
 have E:=hid E0
 have hrl:=S0.lt
 clear S0 E0 hd
 go_enter Try.func81,Try.ntmps81
 go_wp2_with (go_at_call 62;(with_reducible refine (st_is S.out E.out _ true b1.out).mono ?_);rintro e' w2 ⟨rfl,hb2⟩)
 go_ret
 refine ⟨by (with_reducible repeat first | exact Fr.refl _ _ | refine Fr.alloc ?_ _ | refine Fr.drewN ?_ _ | refine Fr.drew ?_ | (refine Fr.set ?_ ?_ _ _;rotate_left;first | exact .inl rfl | (right;simp;done) | (right;simp;omega) | (right;omega)) | refine Fr.step ?_ (by assumption) | refine Fr.stepB ?_ (by assumption)),?_,_,_,_,rfl,?_⟩
 · show StR _ rb g cap ws o (.ok (d :: tt))
   (with_reducible repeat first | exact S.out | refine StR.alloc ?_ _ | refine StR.drewN ?_ _ | refine StR.drew ?_ | refine StR.setO ?_ (by first | assumption | omega) _ _ | refine StR.stay ?_ (by assumption))
 · intro xs ts' e
   cases e
   exact ⟨rfl,.leaf⟩
theorem rlist_some (rb g : Nat) (ws : List Wd) (o : Nat) (d : Wd) (tt0 : List Wd) (rl : Res) (hd : ¬ Sg d [41]) (hP0 : P o (.list []) (d :: tt0) rl)
 (IH : ∀ tt r,P o (.expr 1) tt r → tt <:+ ws → Fin tt → tt.length ≤ (d :: tt0).length → SndR rb g ws 73 #[.pointer (some ⟨rb,0,none⟩),.int .i64 1] o tt r) : SndRL rb g ws 81 #[.pointer (some ⟨rb,0,none⟩)] o (d :: tt0) rl:=by
 intro W cap E0 S0
 have hdk : KOk d:=E0.kok d (S0.1.subset (by simp))
 have b1 : Hid ((RS.ok (d :: tt0)).is (⟨#[41]⟩ : ByteArray).data.toList = false):=hid (isS_no hdk [] (by decide) hd)
 obtain ⟨r1,hP1,hN1⟩:=lst_step hP0
 have H1:=hid (IH _ _ hP1 S0.1 S0.2.1 (Nat.le_refl _))
 have HP1:=hid (And.intro hP1 (And.intro hN1 (And.intro S0.2.1 S0.1.length_le)))
 have S:=hid S0
 have E:=hid E0
 have HI:=hid IH
 have hrl:=S0.lt
 have hgl:=E0.wc.lt
 have hfew:=E0.few
 obtain ⟨i0,hinf,hzi0,hzi1,hzi2⟩:=info_parts infoEx
 clear S0 E0 hd hdk hP1 hN1 hP0 IH
 go_enter Try.func81,Try.ntmps81
 go_upto_region 4 with (go_at_call 62;(with_reducible refine (st_is S.out E.out _ false b1.out).mono ?_);rintro e' w2 ⟨rfl,hb2⟩;have hz2:=hb2.size)
 go_wp2_with (first
  | (go_at_call 73;(with_reducible refine (H1.out.use _ cap (E.out.stay hb2) (S.out.stay hb2)).mono ?_);rintro e5 w5 ⟨hf5,hs5,k5,q5,n5,nm5,p5,l5,c5,a5,rfl,hg5⟩;have hz5:=Fr.size hf5)
  | (at_builtin;refine wpList_append_lies _ rfl (.tmp 6) (.tmp 9) 61 rfl w2.heap.size 63 i0 _ 6 72 Try.underlying61 hinf hzi0 hzi1 hzi2 rfl (by decide) _ 0 [] rfl (World.ownsRow_nil _ _ _ _) ⟨_,0,none⟩ 1 1 (rawL k5 q5 n5 nm5 p5 l5 c5 a5) rfl rfl (World.news_of_block (heap_alloc_new _ _)) (rawL_one _ _ _ _ _ _ _ _) (by decide) (by unfold maxLen;omega) (by omega) (by simp;omega) _ rfl ?_;intro g4 cap4 w4 hown4 hgrow4 hor4 hlt4))
 have hR4 : LRel w2.heap.size ws o rl (.slice (some ⟨g4,0,none⟩) 1 cap4) w4 r1.st:=by
  obtain ⟨l0,hl0⟩:=Grows.nil w2.heap.size w5
  have hl0' : l0 = []:=by simpa using hl0.1
  subst hl0'
  exact LRel.next hl0 hg5 (Nat.le_refl _) (fun j hj => by cases hj) HP1.out.1 HP1.out.2.2.1 (by simpa using HP1.out.2.2.2) HP1.out.2.1 hown4 hgrow4 hor4
 have hF4 : Fr (some rb) w2 w4:=Fr.stepOwn (v:=.slice none 0 0) (hf5.alloc _) hgrow4 (fun j e => by cases e)
 have hS4 : StR w4 rb g cap ws o r1.st:=(hs5.alloc _).grown hgrow4
 have HL1 : Hid (∀ tt,r1.st = .ok tt → tt.length ≤ (d :: tt0).length):=hid (fun tt h => res_len HP1.out.1 HP1.out.2.2.1 h)
 have HR4:=hid hR4
 have HS4:=hid hS4
 clear hR4 hS4 hown4 hgrow4 hor4 hs5 hg5 hf5 H1 HP1
 go_loopw [3] (fun v0 wr => ∃ v σ,v = v0 ∧ LRel w2.heap.size ws o rl v wr σ ∧ StR wr rb g cap ws o σ ∧ Fr (some rb) w2 wr ∧ ∀ tt,σ = .ok tt → tt.length ≤ (d :: tt0).length) (fun _ wr => msR wr rb ws.length)
 case atStart => exact ⟨_,r1.st,rfl,HR4.out,HS4.out,hF4,HL1.out⟩
 case round =>
  obtain ⟨v,σ,rfl,hL,hS,hF,hsh⟩:=hrel
  have E1:=hid ((E.out.stay hb2).kept hF)
  have S1:=hid hS
  have hz1:=Fr.size hF
  have hrw : rb < w2.heap.size:=by omega
  rcases hL with ⟨acc,l,f,tt,rfl,hG,hlen,hc1,hc2⟩ | ⟨c,a,rfl,rfl,p,q,k,rfl⟩
  · by_cases hcm : Sg f [44]
    · have hf3 : f.k ≠ 3:=hcm.ne
      have b2 : Hid ((RS.ok (f :: tt)).is (⟨#[44]⟩ : ByteArray).data.toList = true):=hid (isS_yes hcm)
      obtain ⟨r2,hP2,hN2⟩:=lst_step (hc1 hcm)
      have hst : tt <:+ ws:=(suf_at hS.1).2.2
      have hFt : Fin tt:=hS.2.1.cons hf3
      have hsl : tt.length ≤ (d :: tt0).length:=by (have:=hsh _ rfl;simp only [List.length_cons] at this ⊢;omega)
      have H2:=hid (HI.out tt r2 hP2 hst hFt hsl)
      have HP2:=hid (And.intro hP2 (And.intro hN2 hFt))
      have HG:=hid hG
      have HLT : Hid (∀ j,v.ownBlock = some j → w2.heap.size ≤ j ∧ j < wr.heap.size):=hid hG.2.1.lt
      have hlen2 : acc.length + tt.length + 1 ≤ ws.length:=by (simp only [List.length_cons] at hlen;omega)
      have HSL:=hid hsl
      clear hS hG hc1 hc2 hcm hsh hP2 hN2 hlen hst hFt hsl
      go_wp2_with (first
       | (go_at_call 62;(with_reducible refine (st_is S1.out E1.out _ true b2.out).mono ?_);rintro e' w7 ⟨rfl,hb7⟩;have hz7:=hb7.size;obtain ⟨i7,a7,R7,h57,h67,h77,_⟩:=(S1.out.stay hb7).ok_cells (E1.out.stay hb7);obtain ⟨q0,q1,q2,q3,q4⟩:=R7.rd.cells;have hl7:=R7.rd.lt;have hfz7:=R7.rd.frozen 1;have S8:=hid (st_adv (S1.out.stay hb7) R7 hf3 h57);have E8:=hid ((E1.out.stay hb7).kept ((Fr.refl (some rb) w7).set (.inl rfl) 1 (.int .i64 ((i7 : Int) + 1))));clear h57 h67 R7)
       | (go_at_call 73;(with_reducible refine (H2.out.use _ cap E8.out S8.out).mono ?_);rintro e5 w5 ⟨hf5,hs5,k5,q5,n5,nm5,p5,l5,c5,a5,rfl,hg5⟩;have hz5:=Fr.size hf5;(try simp only [World.size_setCell] at hz5);have hG5:=((HG.out.fr (rb:=rb) (.of hb7) hrw).fr ((Fr.refl (some rb) w7).set (.inl rfl) 1 (.int .i64 ((i7 : Int) + 1))) hrw).fr hf5 hrw)
       | (at_builtin;refine wpList_append_lies _ rfl (.tmp 20) (.tmp 23) 61 rfl w2.heap.size 63 i0 _ 6 72 Try.underlying61 hinf hzi0 hzi1 hzi2 rfl (by decide) v acc.length (exRow l) rfl (own_below hG5.2.1 ((Below.refl _ _).alloc (Nat.le_refl _) _)) ⟨_,0,none⟩ 1 1 (rawL k5 q5 n5 nm5 p5 l5 c5 a5) rfl rfl (World.news_of_block (heap_alloc_new _ _)) (rawL_one _ _ _ _ _ _ _ _) (by decide) (by unfold maxLen;omega) (by omega) (by simp;omega) _ rfl ?_;intro g4 cap4 w4 hown4 hgrow4 hor4 hlt4))
      have hgr4 : (w5.alloc (.cells #[.int .i64 k5,.int .i64 q5,.int .i64 n5,.string nm5,.slice p5 l5 c5,.int .i64 a5] 63)).grownBy w4 v.ownBlock:=hgrow4
      have hor4' : v.ownBlock = some g4 ∨ g4 = (w5.alloc (.cells #[.int .i64 k5,.int .i64 q5,.int .i64 n5,.string nm5,.slice p5 l5 c5,.int .i64 a5] 63)).heap.size:=hor4
      have hS9 : StR w4 rb g cap ws o r2.st:=by
       obtain ⟨i9,c9,a9,h1,_,h2⟩:=(hs5.alloc (.cells #[.int .i64 k5,.int .i64 q5,.int .i64 n5,.string nm5,.slice p5 l5 c5,.int .i64 a5] 63)).rd
       refine h2 _ _ ((hgr4.block rb h1.lt ?_).trans h1)
       intro e
       have:=(HLT.out rb e.symm).1
       omega
      go_roundw
      case rel =>
       refine ⟨_,r2.st,rfl,?_,hS9,?_,fun tt' h => Nat.le_trans (res_len HP2.out.1 HP2.out.2.2 h) HSL.out⟩
       · exact LRel.next hG5 hg5 (by simp;omega) (fun j hj => by (have:=(HLT.out j hj).2;simp;omega)) HP2.out.1 HP2.out.2.2 (by omega) HP2.out.2.1 hown4 hgr4 hor4'
       · exact Fr.stepOwn (v:=v) (((((hF.stepB hb7).set (.inl rfl) 1 (.int .i64 ((i7 : Int) + 1))).step hf5).alloc _)) hgr4 (fun j e => (HLT.out j e).1)
      case measure =>
       rw [hS9.ms,S1.out.ms]
       cases r2 with
       | ok e ts => have:=res_len HP2.out.1 HP2.out.2.2 rfl;simp only [RS.ms,Res.st,List.length_cons];omega
       | okL e ts => have:=res_len HP2.out.1 HP2.out.2.2 rfl;simp only [RS.ms,Res.st,List.length_cons];omega
       | bad c a => simp only [RS.ms,Res.st];omega
    · have hfk : KOk f:=E.out.kok f (hS.1.subset (by simp))
      have b2 : Hid ((RS.ok (f :: tt)).is (⟨#[44]⟩ : ByteArray).data.toList = false):=hid (isS_no hfk [] (by decide) hcm)
      obtain rfl:=hc2 hcm
      obtain ⟨p,k,rfl⟩:=hG.form
      have HG:=hid hG
      clear hS hG hc1 hc2 hcm hfk hsh
      go_wp2_with (go_at_call 62;(with_reducible refine (st_is S1.out E1.out _ false b2.out).mono ?_);rintro e' w7 ⟨rfl,hb7⟩)
      go_ret
      refine ⟨by (with_reducible repeat first | exact Fr.refl _ _ | refine Fr.alloc ?_ _ | refine Fr.drewN ?_ _ | refine Fr.drew ?_ | (refine Fr.set ?_ ?_ _ _;rotate_left;first | exact .inl rfl | (right;simp;done) | (right;simp;omega) | (right;omega)) | refine Fr.step ?_ (by assumption) | refine Fr.stepB ?_ (by assumption)),?_,_,_,_,rfl,?_⟩
      · show StR _ rb g cap ws o (.ok (f :: tt))
        (with_reducible repeat first | exact S1.out | refine StR.alloc ?_ _ | refine StR.drewN ?_ _ | refine StR.drew ?_ | refine StR.setO ?_ (by first | assumption | omega) _ _ | refine StR.stay ?_ (by assumption))
      · intro xs ts' e
        cases e
        exact ⟨rfl,((Grows.ex ⟨_,HG.out⟩ 0 0 0 [] 0).stay hb7).low (by omega)⟩
  · have b2 : Hid ((RS.bad c a).is (⟨#[44]⟩ : ByteArray).data.toList = false):=hid rfl
    clear hS hsh
    go_wp2_with (go_at_call 62;(with_reducible refine (st_is S1.out E1.out _ false b2.out).mono ?_);rintro e' w7 ⟨rfl,hb7⟩)
    go_ret
    refine ⟨by (with_reducible repeat first | exact Fr.refl _ _ | refine Fr.alloc ?_ _ | refine Fr.drewN ?_ _ | refine Fr.drew ?_ | (refine Fr.set ?_ ?_ _ _;rotate_left;first | exact .inl rfl | (right;simp;done) | (right;simp;omega) | (right;omega)) | refine Fr.step ?_ (by assumption) | refine Fr.stepB ?_ (by assumption)),?_,_,_,_,rfl,?_⟩
    · show StR _ rb g cap ws o (.bad c a)
      (with_reducible repeat first | exact S1.out | refine StR.alloc ?_ _ | refine StR.drewN ?_ _ | refine StR.drew ?_ | refine StR.setO ?_ (by first | assumption | omega) _ _ | refine StR.stay ?_ (by assumption))
    · intro xs ts' e
      cases e
def LEnd (f : List Ex → Ex) : Res → Res → Prop
 | .okL es (d :: ts'),r => (Sg d [41] ∧ r = .ok (f es) ts') ∨ (¬ Sg d [41] ∧ r = .bad 11 d.a)
 | .bad c a,r => r = .bad c a
 | _,_ => False
theorem LEnd.st {ws : List Wd} {f : List Ex → Ex} {r2 r : Res} (h : LEnd f r2 r) (hk : ∀ x ∈ ws,KOk x) (hs : ∀ tt,r2.st = .ok tt → tt <:+ ws) : r2.st.need [41] = r.st:=by
 cases r2 with
 | okL e ts =>
  cases ts with
  | nil => exact h.elim
  | cons d ts =>
   have hd : KOk d:=hk d ((hs _ rfl).subset (by simp))
   rcases h with ⟨h1,rfl⟩ | ⟨h1,rfl⟩
   · exact (RS.need_t (isS_yes h1)).trans rfl
   · exact (RS.need_f (isS_no hd [] (by decide) h1)).trans rfl
 | ok => exact h.elim
 | bad c a =>
  have h' : r = .bad c a:=h
  subst h'
  rfl
theorem LEnd.inv {f : List Ex → Ex} {r2 r : Res} (h : LEnd f r2 r) {x : Ex} {ts' : List Wd} (hr : r = .ok x ts') : ∃ es d,r2 = .okL es (d :: ts') ∧ x = f es:=by
 cases r2 with
 | okL e ts =>
  cases ts with
  | nil => exact h.elim
  | cons d ts =>
   rcases h with ⟨_,h1⟩ | ⟨_,h1⟩
   · rw [hr] at h1
     cases h1
     exact ⟨e,d,rfl,rfl⟩
   · rw [hr] at h1
     cases h1
 | ok => exact h.elim
 | bad c a =>
  have h' : r = .bad c a:=h
  rw [hr] at h'
  cases h'
theorem rnam_calllim (rb g : Nat) (ws : List Wd) (x y : Wd) (tt : List Wd) (hx : x.k = 0) (h1 : Sg y [40]) : SndR rb g ws 79 #[.pointer (some ⟨rb,0,none⟩)] 32 (x :: y :: tt) (.bad 2 y.a):=by
 intro W cap E0 S0
 have hrl:=S0.lt
 have hgl:=E0.wc.lt
 obtain ⟨i,a,R0,h5,h6,h7,hxm⟩:=S0.ok_cells E0
 have hky : KOk y:=E0.kok y (h6.subset (by simp))
 have hFy:=S0.fin.cons (by rw [hx];decide)
 have b1 : Hid ((RS.ok (y :: tt)).is (⟨#[91]⟩ : ByteArray).data.toList = false):=hid (isS_no hky [] (by decide) (fun h => by (have e:=h.2;rw [h1.2] at e;cases e)))
 have b2 : Hid ((RS.ok (y :: tt)).is (⟨#[40]⟩ : ByteArray).data.toList = true):=hid (isS_yes h1)
 obtain ⟨⟨r0,r1,r2,r3,r4⟩,⟨c0,c1,c2,c3⟩,_,_,hi1,hi2,_⟩:=R0.facts
 have hx3 : x.k ≠ 3:=by (rw [hx];decide)
 have S:=hid S0
 have E:=hid E0
 have R:=hid R0
 clear R0 E0 S0 hky h1 hxm h6
 go_enter Try.func79,Try.ntmps79
 go_upto_region 1 with (fail)
 go_wp2
 go_region
 go_upto_region 3 with (fail)
 refine name_world ?_
 intro W1 hW1
 have hB1 : Below W.heap.size W W1:=by (rw [hW1];(refine Fr.below ?_;(with_reducible repeat first | exact Fr.refl _ _ | refine Fr.alloc ?_ _ | refine Fr.drewN ?_ _ | refine Fr.drew ?_ | (refine Fr.set ?_ ?_ _ _;rotate_left;first | exact .inl rfl | (right;simp;done) | (right;simp;omega) | (right;omega)) | refine Fr.step ?_ (by assumption) | refine Fr.stepB ?_ (by assumption))))
 have hz1 : W1.heap.size = W.heap.size + 3:=by (rw [hW1];simp)
 have BV1 : Blk W1 W.heap.size (.int .i64 0) (.int .i64 0) (.int .i64 0) (.string ⟨#[]⟩) (.slice none 0 0) (.int .i64 0):=by (rw [hW1];exact ((((Blk.new rfl _ _ _ _ _ _).alloc _).alloc _).drew))
 have BE1 : Blk W1 (W.heap.size + 1 + 1) (.int .i64 2) (.int .i64 0) (.int .i64 0) (.string (bstr x.t)) (.slice none 0 0) (.int .i64 x.a):=by (rw [hW1];exact ((Blk.new (by simp) _ _ _ _ _ _).drew))
 clear hW1 r0 r1 r2 r3 r4 c0 c1 c2 c3
 have hR1:=R.out.kept hB1
 obtain ⟨⟨_,r1,_,_,_⟩,_,hrl1,_,_,_,hfz⟩:=hR1.facts
 have hf1:=hfz 1
 have hne0 : rb ≠ W.heap.size:=by omega
 have hne2 : rb ≠ W.heap.size + 1 + 1:=by omega
 have SA:=hid (st_adv (S.out.stay hB1) hR1 hx3 h5)
 have EA:=hid ((E.out.stay hB1).kept ((Fr.refl (some rb) W1).set (.inl rfl) 1 (.int .i64 ((i : Int) + 1))))
 have hfA : Fr (some rb) W (W1.setCell ⟨rb,1,none⟩ (.int .i64 ((i : Int) + 1))):=((Fr.of hB1).set (.inl rfl) 1 _)
 have BVA : Blk (W1.setCell ⟨rb,1,none⟩ (.int .i64 ((i : Int) + 1))) W.heap.size (.int .i64 0) (.int .i64 0) (.int .i64 0) (.string ⟨#[]⟩) (.slice none 0 0) (.int .i64 0):=BV1.setO (Ne.symm hne0) _ _
 have BEA : Blk (W1.setCell ⟨rb,1,none⟩ (.int .i64 ((i : Int) + 1))) (W.heap.size + 1 + 1) (.int .i64 2) (.int .i64 0) (.int .i64 0) (.string (bstr x.t)) (.slice none 0 0) (.int .i64 x.a):=BE1.setO (Ne.symm hne2) _ _
 go_upto_region 4 with (fail)
 refine name_world ?_
 intro WA hWA
 rw [← hWA] at SA EA hfA BVA BEA
 have hzA : W1.heap.size = WA.heap.size:=by (rw [hWA];simp)
 clear hWA BV1 BE1 hR1 r1 hfz hf1 hrl1 S E R hi1 hi2 h5 h7
 go_wp2_with (first
  | (go_at_call 62;(with_reducible refine (st_is SA.out EA.out _ false b1.out).mono ?_);rintro e' w2 ⟨rfl,hb2⟩)
  | (go_at_call 62;(with_reducible refine (st_is (SA.out.stay hb2) (EA.out.stay hb2) _ true b2.out).mono ?_);rintro e' w3 ⟨rfl,hb3⟩;have hb23 : Below WA.heap.size WA w3:=hb2.trans (hb3.mono hb2.size);have BE2:=BEA.stay hb23;have BV2:=BVA.stay hb23)
  | (go_at_call 78;(with_reducible refine (renter_lim (hid (SA.out.stay hb23)) (hid (EA.out.stay hb23))).mono ?_);rintro e' w4 ⟨rfl,hs3,hf3⟩;have BE3:=BE2.fr hf3 (Ne.symm hne2);have BV3:=BV2.fr hf3 (Ne.symm hne0);(obtain ⟨ble,c0e,c1e,c2e,c3e,c4e,c5e,f0e,f1e,f2e,f3e,f4e,f5e⟩:=(BE3).facts);(obtain ⟨blv,c0v,c1v,c2v,c3v,c4v,c5v,f0v,f1v,f2v,f3v,f4v,f5v⟩:=(BV3).facts)))
 refine bodyPost_ret (results_ex rfl _ rfl (BV3.all _ _ _ _ _ _)) rfl ⟨by (with_reducible repeat first | exact Fr.refl _ _ | refine Fr.alloc ?_ _ | refine Fr.drewN ?_ _ | refine Fr.drew ?_ | (refine Fr.set ?_ ?_ _ _;rotate_left;first | exact .inl rfl | (right;simp;done) | (right;simp;omega) | (right;omega)) | refine Fr.step ?_ (by assumption) | refine Fr.stepB ?_ (by assumption)),?_,_,_,_,_,_,_,_,_,rfl,GoodEx.bad⟩
 have hs3' : StR w4 rb g cap ws 32 (.bad 2 y.a):=hs3
 show StR _ rb g cap ws 32 (.bad 2 y.a)
 (with_reducible repeat first | exact hs3' | refine StR.alloc ?_ _ | refine StR.drewN ?_ _ | refine StR.drew ?_ | refine StR.setO ?_ (by first | assumption | omega) _ _ | refine StR.stay ?_ (by assumption))
theorem rnam_call (rb g : Nat) (ws : List Wd) (o : Nat) (x y : Wd) (tt : List Wd) (r2 r : Res) (ho : o < 32) (hx : x.k = 0) (h1 : Sg y [40]) (H2 : SndRL rb g ws 81 #[.pointer (some ⟨rb,0,none⟩)] (o + 1) tt r2) (hr : LEnd (fun es => .mk 7 0 0 x.t es x.a) r2 r) : SndR rb g ws 79 #[.pointer (some ⟨rb,0,none⟩)] o (x :: y :: tt) r:=by
 intro W cap E0 S0
 have hrl:=S0.lt
 have hgl:=E0.wc.lt
 obtain ⟨i,a,R0,h5,h6,h7,hxm⟩:=S0.ok_cells E0
 have hky : KOk y:=E0.kok y (h6.subset (by simp))
 have hFy:=S0.fin.cons (by rw [hx];decide)
 have b1 : Hid ((RS.ok (y :: tt)).is (⟨#[91]⟩ : ByteArray).data.toList = false):=hid (isS_no hky [] (by decide) (fun h => by (have e:=h.2;rw [h1.2] at e;cases e)))
 have b2 : Hid ((RS.ok (y :: tt)).is (⟨#[40]⟩ : ByteArray).data.toList = true):=hid (isS_yes h1)
 have hy3:=hid h1.ne
 obtain ⟨⟨r0,r1,r2,r3,r4⟩,⟨c0,c1,c2,c3⟩,_,_,hi1,hi2,_⟩:=R0.facts
 have hx3 : x.k ≠ 3:=by (rw [hx];decide)
 have S:=hid S0
 have E:=hid E0
 have R:=hid R0
 clear R0 E0 S0 hky h1 hxm h6
 go_enter Try.func79,Try.ntmps79
 go_upto_region 1 with (fail)
 go_wp2
 go_region
 go_upto_region 3 with (fail)
 refine name_world ?_
 intro W1 hW1
 have hB1 : Below W.heap.size W W1:=by (rw [hW1];(refine Fr.below ?_;(with_reducible repeat first | exact Fr.refl _ _ | refine Fr.alloc ?_ _ | refine Fr.drewN ?_ _ | refine Fr.drew ?_ | (refine Fr.set ?_ ?_ _ _;rotate_left;first | exact .inl rfl | (right;simp;done) | (right;simp;omega) | (right;omega)) | refine Fr.step ?_ (by assumption) | refine Fr.stepB ?_ (by assumption))))
 have hz1 : W1.heap.size = W.heap.size + 3:=by (rw [hW1];simp)
 have BV1 : Blk W1 W.heap.size (.int .i64 0) (.int .i64 0) (.int .i64 0) (.string ⟨#[]⟩) (.slice none 0 0) (.int .i64 0):=by (rw [hW1];exact ((((Blk.new rfl _ _ _ _ _ _).alloc _).alloc _).drew))
 have BE1 : Blk W1 (W.heap.size + 1 + 1) (.int .i64 2) (.int .i64 0) (.int .i64 0) (.string (bstr x.t)) (.slice none 0 0) (.int .i64 x.a):=by (rw [hW1];exact ((Blk.new (by simp) _ _ _ _ _ _).drew))
 clear hW1 r0 r1 r2 r3 r4 c0 c1 c2 c3
 have hR1:=R.out.kept hB1
 obtain ⟨⟨_,r1,_,_,_⟩,_,hrl1,_,_,_,hfz⟩:=hR1.facts
 have hf1:=hfz 1
 have hne0 : rb ≠ W.heap.size:=by omega
 have hne2 : rb ≠ W.heap.size + 1 + 1:=by omega
 have SA:=hid (st_adv (S.out.stay hB1) hR1 hx3 h5)
 have EA:=hid ((E.out.stay hB1).kept ((Fr.refl (some rb) W1).set (.inl rfl) 1 (.int .i64 ((i : Int) + 1))))
 have hfA : Fr (some rb) W (W1.setCell ⟨rb,1,none⟩ (.int .i64 ((i : Int) + 1))):=((Fr.of hB1).set (.inl rfl) 1 _)
 have BVA : Blk (W1.setCell ⟨rb,1,none⟩ (.int .i64 ((i : Int) + 1))) W.heap.size (.int .i64 0) (.int .i64 0) (.int .i64 0) (.string ⟨#[]⟩) (.slice none 0 0) (.int .i64 0):=BV1.setO (Ne.symm hne0) _ _
 have BEA : Blk (W1.setCell ⟨rb,1,none⟩ (.int .i64 ((i : Int) + 1))) (W.heap.size + 1 + 1) (.int .i64 2) (.int .i64 0) (.int .i64 0) (.string (bstr x.t)) (.slice none 0 0) (.int .i64 x.a):=BE1.setO (Ne.symm hne2) _ _
 go_upto_region 4 with (fail)
 refine name_world ?_
 intro WA hWA
 rw [← hWA] at SA EA hfA BVA BEA
 have hzA : W1.heap.size = WA.heap.size:=by (rw [hWA];simp)
 clear hWA BV1 BE1 hR1 r1 hfz hf1 hrl1 S E R hi1 hi2 h5 h7
 have HH2:=hid H2
 clear H2
 go_upto_region 18 with (first
  | (go_at_call 62;(with_reducible refine (st_is SA.out EA.out _ false b1.out).mono ?_);rintro e' w2 ⟨rfl,hb2⟩)
  | (go_at_call 62;(with_reducible refine (st_is (SA.out.stay hb2) (EA.out.stay hb2) _ true b2.out).mono ?_);rintro e' w3 ⟨rfl,hb3⟩;have hb23 : Below WA.heap.size WA w3:=hb2.trans (hb3.mono hb2.size);have BE2:=BEA.stay hb23;have BV2:=BVA.stay hb23)
  | (go_at_call 78;(with_reducible refine (renter_ok (SA.out.stay hb23) (EA.out.stay hb23) hy3.out ho).mono ?_);rintro e' w4 ⟨rfl,hs3,hf3⟩;have BE3:=BE2.fr hf3 (Ne.symm hne2);have BV3:=BV2.fr hf3 (Ne.symm hne0);(obtain ⟨ble,c0e,c1e,c2e,c3e,c4e,c5e,f0e,f1e,f2e,f3e,f4e,f5e⟩:=(BE3).facts);(obtain ⟨blv,c0v,c1v,c2v,c3v,c4v,c5v,f0v,f1v,f2v,f3v,f4v,f5v⟩:=(BV3).facts)))
 refine name_world ?_
 intro W4 hW4
 have BE4 : Blk W4 (W.heap.size + 1 + 1) (.int .i64 7) (.int .i64 0) (.int .i64 0) (.string (bstr x.t)) (.slice none 0 0) (.int .i64 x.a):=by (rw [hW4];exact BE3.set0 _)
 have BV4 : Blk W4 W.heap.size (.int .i64 0) (.int .i64 0) (.int .i64 0) (.string ⟨#[]⟩) (.slice none 0 0) (.int .i64 0):=by (rw [hW4];exact BV3.setO (by omega) _ _)
 have S4:=hid (show StR W4 rb g cap ws ((o + 1 : Nat) : Int) (.ok tt) by (rw [hW4];exact hs3.setO hne2 _ _))
 have E4 : Hid (EnvR rb g ws W4):=hid (by (rw [hW4];exact ((EA.out.stay hb23).kept hf3).setO (by omega) _ _))
 have hFW4 : Fr (some rb) W W4:=by (have hz2:=Fr.size hfA;rw [hW4];exact ((hfA.stepB hb23).step hf3).set (.inr (by omega)) _ _)
 have hz4 : W.heap.size + 3 ≤ W4.heap.size:=by (have h1:=hb23.size;have h2:=Fr.size hf3;rw [hW4];simp;omega)
 obtain ⟨O,hO⟩ : ∃ O : Int,O = ((o + 1 : Nat) : Int):=⟨_,rfl⟩
 have HO:=hid hO
 clear hO hW4 BE3 BV3 BE2 BV2 BEA BVA SA EA hs3 hf3 hb2 hb3 hb23 hfA
 go_upto_region 19 with (go_at_call 81;(with_reducible refine (HH2.out.use _ cap E4.out S4.out).mono ?_);rintro e5 w5 ⟨hf5,hs5,p5,l5,c5,rfl,hg5⟩;have BE5:=BE4.fr hf5 (Ne.symm hne2);(obtain ⟨bli,c0i,c1i,c2i,c3i,c4i,c5i,f0i,f1i,f2i,f3i,f4i,f5i⟩:=(BE5).facts))
 refine name_world ?_
 intro W7 hW7
 have BE7 : Blk W7 (W.heap.size + 1 + 1) (.int .i64 7) (.int .i64 0) (.int .i64 0) (.string (bstr x.t)) (.slice p5 l5 c5) (.int .i64 x.a):=by (rw [hW7];exact BE5.set4 _)
 have BV7 : Blk W7 W.heap.size (.int .i64 0) (.int .i64 0) (.int .i64 0) (.string ⟨#[]⟩) (.slice none 0 0) (.int .i64 0):=by (rw [hW7];exact (BV4.fr hf5 (Ne.symm hne0)).setO (by omega) _ _)
 rw [← HO.out] at hs5
 have S7 : Hid (StR W7 rb g cap ws O r2.st):=hid (by (rw [hW7];exact hs5.setO hne2 _ _))
 have E7 : Hid (EnvR rb g ws W7):=hid (by (rw [hW7];exact (E4.out.kept hf5).setO (by omega) _ _))
 have hFW7 : Fr (some rb) W W7:=by (rw [hW7];exact (hFW4.step hf5).set (.inr (by omega)) _ _)
 have X7 : Hid (∀ es ts,r2 = .okL es ts → l5 = es.length ∧ IsEx W4.heap.size W7 (.mk 7 0 0 x.t es x.a) (.slice p5 l5 c5)):=hid (by
  intro es ts he
  rw [hW7]
  exact ⟨(hg5 es ts he).1,((hg5 es ts he).2.recast).set (by omega) _ _⟩)
 have hz7:=Fr.size hFW7
 clear hW7 hs5 hf5 BE5 BE4 BV4 S4 E4 hg5
 go_wp2_with (go_at_call 64;(with_reducible refine (st_need S7.out E7.out _).mono ?_);rintro e8 w8 ⟨rfl,hs8,hf8⟩;obtain ⟨i8,c8,a8,hr8,_,_⟩:=hs8.rd;obtain ⟨q0,q1,q2,q3,q4⟩:=hr8.cells;have hl8:=hr8.lt;have hfz8:=hr8.frozen 2;have BE8:=BE7.fr hf8 (Ne.symm hne2);have BV8:=BV7.fr hf8 (Ne.symm hne0);clear hr8;(obtain ⟨blk,c0k,c1k,c2k,c3k,c4k,c5k,f0k,f1k,f2k,f3k,f4k,f5k⟩:=(BE8).facts);(obtain ⟨bll,c0l,c1l,c2l,c3l,c4l,c5l,f0l,f1l,f2l,f3l,f4l,f5l⟩:=(BV8).facts))
 refine bodyPost_ret (results_ex rfl _ rfl ((BV8.setO (Ne.symm hne0) _ _).all _ _ _ _ _ _)) rfl ⟨by (with_reducible repeat first | exact Fr.refl _ _ | refine Fr.alloc ?_ _ | refine Fr.drewN ?_ _ | refine Fr.drew ?_ | (refine Fr.set ?_ ?_ _ _;rotate_left;first | exact .inl rfl | (right;simp;done) | (right;simp;omega) | (right;omega)) | refine Fr.step ?_ (by assumption) | refine Fr.stepB ?_ (by assumption)),?_,_,_,_,_,_,_,_,_,rfl,?_⟩
 · have hst:=hr.st E7.out.kok (fun tt' h => (show StR W7 rb g cap ws O (.ok tt') from h ▸ S7.out).1)
   have hs9 : StR (w8.setCell ⟨rb,2,none⟩ (.int .i64 (wrap64 (O - 1)))) rb g cap ws o r.st:=by (rw [← hst,HO.out];exact st_dec (HO.out ▸ hs8) (by omega))
   (with_reducible repeat first | exact hs9 | refine StR.alloc ?_ _ | refine StR.drewN ?_ _ | refine StR.drew ?_ | refine StR.setO ?_ (by first | assumption | omega) _ _ | refine StR.stay ?_ (by assumption))
 · intro x' ts' e
   obtain ⟨e0,d,h8,rfl⟩:=hr.inv e
   have h9:=((X7.out e0 _ h8).2.fr hf8 (by omega)).set (show rb < W4.heap.size by omega) 2 (.int .i64 (wrap64 (O - 1)))
   refine ⟨rfl,rfl,rfl,rfl,(X7.out e0 _ h8).1,rfl,IsEx.low (lo:=W4.heap.size) ?_ (by omega)⟩
   exact (((((h9.set (by omega) _ _).set (by omega) _ _).set (by omega) _ _).set (by omega) _ _).set (by omega) _ _).set (by omega) _ _
theorem rnam_step (rb g : Nat) (ws : List Wd) (o : Nat) (ts0 : List Wd) (r : Res) (IH : BelowR rb g ws (4 * ts0.length)) (hP : P o .nam ts0 r) (hs : ts0 <:+ ws) (hF : Fin ts0) (hm : Job.may .nam ts0) (ho : o ≤ 32) :
 SndR rb g ws 79 #[.pointer (some ⟨rb,0,none⟩)] o ts0 r:=by
 have hlist : ∀ d tt0 rl,o < 32 → P (o + 1) (.list []) (d :: tt0) rl → ¬ Sg d [41] → (d :: tt0) <:+ ws → Fin (d :: tt0) → (d :: tt0).length + 2 ≤ ts0.length → SndRL rb g ws 81 #[.pointer (some ⟨rb,0,none⟩)] (o + 1) (d :: tt0) rl:=by
  intro d tt0 rl ho2 hP2 hd _ _ hl
  exact rlist_some rb g ws (o + 1) d tt0 rl hd hP2 fun tt r hP3 hs3 hF3 hl3 => IH (.expr 1) _ _ _ hP3 hs3 hF3 (by simp [Job.may]) (by omega) (by simp only [Job.wt];omega)
 cases hP with
 | @namVar _ w c ts h1 h2 => exact rnam_var rb g ws o w c ts (hm _ _ rfl) ⟨h1,h2⟩
 | @namElem _ w c ts ts' e h1 h2 =>
  have hk:=hm _ _ rfl
  cases h2 with
  | @wthOk _ _ _ d _ _ _ h3 h4 h5 =>
   have hs2 : ts <:+ ws:=(suf_at (suf_at hs).2.2).2.2
   have hF2 : Fin ts:=(hF.cons (by rw [hk];decide)).cons h1.ne
   exact rnam_elem rb g ws o w c ts _ _ h3 hk h1 (IH (.expr 1) _ _ _ h4 hs2 hF2 (by simp [Job.may]) (by omega) (by simp only [Job.wt,List.length_cons];omega)) (.inl ⟨h5,rfl⟩)
 | @namElemBad _ w c ts e a h1 h2 =>
  have hk:=hm _ _ rfl
  have hs2 : ts <:+ ws:=(suf_at (suf_at hs).2.2).2.2
  have hF2 : Fin ts:=(hF.cons (by rw [hk];decide)).cons h1.ne
  cases h2 with
  | wthLim h3 =>
   subst h3
   exact rnam_elim rb g ws w c ts hk h1
  | @wthNo _ _ _ d _ _ _ h3 h4 h5 => exact rnam_elem rb g ws o w c ts _ _ h3 hk h1 (IH (.expr 1) _ _ _ h4 hs2 hF2 (by simp [Job.may]) (by omega) (by simp only [Job.wt,List.length_cons];omega)) (.inr ⟨h5,rfl⟩)
  | wthBad h3 h4 => exact rnam_elem rb g ws o w c ts _ _ h3 hk h1 (IH (.expr 1) _ _ _ h4 hs2 hF2 (by simp [Job.may]) (by omega) (by simp only [Job.wt,List.length_cons];omega)) rfl
 | @namCall _ w c ts ts' es h1 h2 =>
  have hk:=hm _ _ rfl
  have hs2 : ts <:+ ws:=(suf_at (suf_at hs).2.2).2.2
  have hF2 : Fin ts:=(hF.cons (by rw [hk];decide)).cons h1.ne
  cases h2 with
  | givNone h3 h4 => exact rnam_call rb g ws o w c _ _ _ h3 hk h1 (rlist_none rb g ws (o + 1) _ _ h4) (.inl ⟨h4,rfl⟩)
  | givSome h3 h4 h5 h6 => exact rnam_call rb g ws o w c _ _ _ h3 hk h1 (hlist _ _ _ h3 h5 h4 hs2 hF2 (by simp)) (.inl ⟨h6,rfl⟩)
 | @namCallBad _ w c ts e a h1 h2 =>
  have hk:=hm _ _ rfl
  have hs2 : ts <:+ ws:=(suf_at (suf_at hs).2.2).2.2
  have hF2 : Fin ts:=(hF.cons (by rw [hk];decide)).cons h1.ne
  cases h2 with
  | givLim h3 =>
   subst h3
   exact rnam_calllim rb g ws w c ts hk h1
  | givNo h3 h4 h5 h6 => exact rnam_call rb g ws o w c _ _ _ h3 hk h1 (hlist _ _ _ h3 h5 h4 hs2 hF2 (by simp)) (.inr ⟨h6,rfl⟩)
  | givBad h3 h4 h5 => exact rnam_call rb g ws o w c _ _ _ h3 hk h1 (hlist _ _ _ h3 h5 h4 hs2 hF2 (by simp)) rfl
end Go.Proofs.Ytbmmjomcjlpnlaa
namespace Go.Proofs.Ytbmmjomcjlpnlaa
open Go Go.RowKit
def WBlk (X : World) (n : Nat) (k : Int) (t : List UInt8) (v : Int) (a : Int) : Prop:=X.heap[n]? = some (.cells #[.int .i64 k,.string (bstr t),.int .i64 v,.int .i64 a] 82 (0,0))
section
variable {X Y : World} {n : Nat} {k v a : Int} {t : List UInt8}
theorem WBlk.facts (h : WBlk X n k t v a) : n < X.heap.size ∧ X.cell? ⟨n,0,none⟩ = some (.int .i64 k) ∧ X.cell? ⟨n,1,none⟩ = some (.string (bstr t)) ∧ X.cell? ⟨n,2,none⟩ = some (.int .i64 v) ∧ X.cell? ⟨n,3,none⟩ = some (.int .i64 a):=by
 refine ⟨(Array.getElem?_eq_some_iff.1 h).1,?_,?_,?_,?_⟩ <;> rw [cell_of_row _ _ _ _ _ _ h] <;> rfl
theorem WBlk.alloc (h : WBlk X n k t v a) (o : Obj) : WBlk (X.alloc o) n k t v a:=(Below.heap_alloc X o n (Array.getElem?_eq_some_iff.1 h).1).trans h
theorem WBlk.drew (h : WBlk X n k t v a) : WBlk X.drew n k t v a:=h
theorem WBlk.stay (h : WBlk X n k t v a) (hf : Below X.heap.size X Y) : WBlk Y n k t v a:=(hf.block n (Array.getElem?_eq_some_iff.1 h).1).trans h
theorem WBlk.fr {rb : Nat} (h : WBlk X n k t v a) (hf : Fr (some rb) X Y) (hne : n ≠ rb) : WBlk Y n k t v a:=(hf.block (Array.getElem?_eq_some_iff.1 h).1 (by simp;exact hne)).trans h
theorem WBlk.setO (h : WBlk X n k t v a) {b : Nat} (hne : n ≠ b) (o : Nat) (u : Value) : WBlk (X.setCell ⟨b,o,none⟩ u) n k t v a:=(heap_setCell_other X ⟨b,o,none⟩ n u hne).trans h
theorem WBlk.new (hn : n = X.heap.size) : WBlk (X.alloc (.cells #[.int .i64 k,.string (bstr t),.int .i64 v,.int .i64 a] 82)) n k t v a:=hn ▸ heap_alloc_new X _
end
theorem isN_yes {x : Wd} {tt : List Wd} {t : List UInt8} (h : x.k = 0) (h2 : x.t = t) : (RS.ok (x :: tt)).is t = true:=by simp [RS.is,h,h2]
theorem isT_no {x : Wd} {tt : List Wd} {t : List UInt8} (h : x.t ≠ t) : (RS.ok (x :: tt)).is t = false:=by simp [RS.is,h]
theorem isN_no {x : Wd} {tt : List Wd} (hk : KOk x) {c : UInt8} {r : List UInt8} (hc : isLetter c = true) (h : ¬ (x.k = 0 ∧ x.t = c :: r)) : (RS.ok (x :: tt)).is (c :: r) = false:=by
 have:=mt (hk.nam (r:=r) hc).1 h
 simp only [RS.is]
 by_cases h1 : x.k = 2 ∨ x.k = 0
 · have h2 : ¬ x.t = c :: r:=fun e => this ⟨h1,e⟩
   simp [h2]
 · simp at h1
   simp [h1]
theorem nsg0 {x : Wd} (h : x.k ≠ 2) (t : List UInt8) : ¬ Sg x t:=fun e => h e.1
theorem nsgt {x : Wd} {u : List UInt8} (h : x.t = u) {t : List UInt8} (h2 : u ≠ t) : ¬ Sg x t:=fun e => h2 (h ▸ e.2)
theorem st_advX {X : World} {rb g cap : Nat} {ws : List Wd} {o a : Int} {i : Nat} {tt : List Wd} (h : RrAt X rb (.slice (some ⟨g,0,none⟩) ws.length cap) ((i : Int) + 1) o 0 a) (h5 : i + 1 = ws.length - tt.length) (h6 : tt <:+ ws) (hF : Fin tt) : StR X rb g cap ws o (.ok tt):=⟨h6,hF,a,h5 ▸ h⟩
theorem rth_num (rb g : Nat) (ws : List Wd) (o : Nat) (x : Wd) (tt : List Wd) (hx : x.k = 1) : SndR rb g ws 75 #[.pointer (some ⟨rb,0,none⟩)] o (x :: tt) (.ok (.mk 0 0 x.n [] [] x.a) tt):=by
 have hs : ¬ Sg x [45] ∧ ¬ Sg x [33] ∧ ¬ Sg x [40]:=⟨nsg0 (by rw [hx];decide) _,nsg0 (by rw [hx];decide) _,nsg0 (by rw [hx];decide) _⟩
 intro W cap E0 S0
 have hrl:=S0.lt
 have hgl:=E0.wc.lt
 obtain ⟨i,a,R0,_,_,_,hxm⟩:=S0.ok_cells E0
 have hkx : KOk x:=E0.kok x hxm
 have bm : Hid ((RS.ok (x :: tt)).is (⟨#[45]⟩ : ByteArray).data.toList = false):=hid (isS_no hkx [] (by decide) hs.1)
 have bn : Hid ((RS.ok (x :: tt)).is (⟨#[33]⟩ : ByteArray).data.toList = false):=hid (isS_no hkx [] (by decide) hs.2.1)
 have bp : Hid ((RS.ok (x :: tt)).is (⟨#[40]⟩ : ByteArray).data.toList = false):=hid (isS_no hkx [] (by decide) hs.2.2)
 have hF:=hid (S0.fin.cons (by rw [hx];decide))
 have k1 : (x.k == 1) = true:=by simp [hx]
 have HX:=hid hx
 obtain ⟨⟨r0,r1,r2,r3,r4⟩,⟨c0,c1,c2,c3⟩,_,_,hi1,hi2,_⟩:=R0.facts
 have S:=hid S0
 have E:=hid E0
 clear hs hx
 clear R0 E0 S0 hkx hxm
 go_enter Try.func75,Try.ntmps75
 go_upto_region 3 with (fail)
 go_wp2
 go_region
 go_upto_region 6 with (fail)
 refine name_world ?_
 intro W1 hW1
 have hB1 : Below W.heap.size W W1:=by (rw [hW1];(refine Fr.below ?_;(with_reducible repeat first | exact Fr.refl _ _ | refine Fr.alloc ?_ _ | refine Fr.drewN ?_ _ | refine Fr.drew ?_ | (refine Fr.set ?_ ?_ _ _;rotate_left;first | exact .inl rfl | (right;simp;done) | (right;simp;omega) | (right;omega)) | refine Fr.step ?_ (by assumption) | refine Fr.stepB ?_ (by assumption))))
 have F1 : Fr (some rb) W W1:=Fr.of hB1
 have hz1 : W1.heap.size = W.heap.size + 3:=by (rw [hW1];simp)
 have BV1 : Blk W1 W.heap.size (.int .i64 0) (.int .i64 0) (.int .i64 0) (.string ⟨#[]⟩) (.slice none 0 0) (.int .i64 0):=by (rw [hW1];exact ((((Blk.new rfl _ _ _ _ _ _).alloc _).alloc _).drew))
 have BE1 : Blk W1 (W.heap.size + 1 + 1) (.int .i64 0) (.int .i64 0) (.int .i64 0) (.string ⟨#[]⟩) (.slice none 0 0) (.int .i64 x.a):=by (rw [hW1];exact ((Blk.new (by simp) _ _ _ _ _ _).drew))
 have WB1 : WBlk W1 (W.heap.size + 1) x.k x.t x.n x.a:=by (rw [hW1];exact ((WBlk.new (by simp)).alloc _).drew)
 clear hW1 r0 r1 r2 r3 r4 c0 c1 c2 c3
 have hne0 : rb ≠ W.heap.size:=by omega
 have hne1 : rb ≠ W.heap.size + 1:=by omega
 have hne2 : rb ≠ W.heap.size + 1 + 1:=by omega
 have S1:=hid (S.out.stay hB1)
 have E1:=hid (E.out.stay hB1)
 clear S E hi1 hi2
 go_wp2_with (first
  | (go_at_call 62;(with_reducible refine (st_is S1.out E1.out _ false bm.out).mono ?_);rintro e' w2 ⟨rfl,hb2⟩;have S2:=hid (S1.out.stay hb2);have E2:=hid (E1.out.stay hb2);have BE2:=BE1.stay hb2;have BV2:=BV1.stay hb2;have WB2:=WB1.stay hb2;have F2:=F1.stepB hb2;have hz2:=hb2.size;clear BE1 BV1 WB1)
  | (go_at_call 62;(with_reducible refine (st_is S2.out E2.out _ false bn.out).mono ?_);rintro e' w3 ⟨rfl,hb3⟩;have S3:=hid (S2.out.stay hb3);have E3:=hid (E2.out.stay hb3);have BE3:=BE2.stay hb3;have BV3:=BV2.stay hb3;have WB3:=WB2.stay hb3;have F3:=F2.stepB hb3;have hz3:=hb3.size;clear BE2 BV2 WB2)
  | (go_at_call 62;(with_reducible refine (st_is S3.out E3.out _ false bp.out).mono ?_);rintro e' w4 ⟨rfl,hb4⟩;have S4:=hid (S3.out.stay hb4);have E4:=hid (E3.out.stay hb4);have BE4:=BE3.stay hb4;have BV4:=BV3.stay hb4;have WB4:=WB3.stay hb4;have F4:=F3.stepB hb4;have hz4:=hb4.size;clear BE3 BV3 WB3;(obtain ⟨ble4,c0e4,c1e4,c2e4,c3e4,c4e4,c5e4,f0e4,f1e4,f2e4,f3e4,f4e4,f5e4⟩:=(BE4).facts);(obtain ⟨blv4,c0v4,c1v4,c2v4,c3v4,c4v4,c5v4,f0v4,f1v4,f2v4,f3v4,f4v4,f5v4⟩:=(BV4).facts);obtain ⟨y04,y14,y24,y34,y44⟩:=WB4.facts;obtain ⟨i,a,R,h5,h6,h7,_⟩:=S4.out.ok_cells E4.out;obtain ⟨q0,q1,q2,q3,q4⟩:=R.rd.cells;have hlr:=R.rd.lt;have hfzr:=R.rd.frozen 1))
 refine bodyPost_ret (results_ex rfl _ rfl ((((BV4.setO (by omega) _ _).setO (Ne.symm hne0) _ _).all _ _ _ _ _ _))) rfl ⟨by (with_reducible repeat first | exact Fr.refl _ _ | refine Fr.alloc ?_ _ | refine Fr.drewN ?_ _ | refine Fr.drew ?_ | (refine Fr.set ?_ ?_ _ _;rotate_left;first | exact .inl rfl | (right;simp;done) | (right;simp;omega) | (right;omega)) | refine Fr.step ?_ (by assumption) | refine Fr.stepB ?_ (by assumption)),?_,_,_,_,_,_,_,_,_,rfl,?_⟩
 · show StR _ rb g cap ws o (.ok tt)
   refine st_advX (a:=a) ?_ h5 h6 hF.out
   (repeat (first | (with_reducible refine RrAt.setO ?_ (by first | assumption | omega) _ _)))
   exact (R.rd.setO hne2 _ _).set1 _
 · intro x' ts' e
   cases e
   exact ⟨rfl,rfl,rfl,rfl,rfl,rfl,.leaf⟩
theorem rth_tru (rb g : Nat) (ws : List Wd) (o : Nat) (x : Wd) (tt : List Wd) (hx : x.k = 0) (ht : x.t = truB) : SndR rb g ws 75 #[.pointer (some ⟨rb,0,none⟩)] o (x :: tt) (.ok (.mk 1 0 1 [] [] x.a) tt):=by
 have hs : ¬ Sg x [45] ∧ ¬ Sg x [33] ∧ ¬ Sg x [40]:=⟨nsg0 (by rw [hx];decide) _,nsg0 (by rw [hx];decide) _,nsg0 (by rw [hx];decide) _⟩
 intro W cap E0 S0
 have hrl:=S0.lt
 have hgl:=E0.wc.lt
 obtain ⟨i,a,R0,_,_,_,hxm⟩:=S0.ok_cells E0
 have hkx : KOk x:=E0.kok x hxm
 have bm : Hid ((RS.ok (x :: tt)).is (⟨#[45]⟩ : ByteArray).data.toList = false):=hid (isS_no hkx [] (by decide) hs.1)
 have bn : Hid ((RS.ok (x :: tt)).is (⟨#[33]⟩ : ByteArray).data.toList = false):=hid (isS_no hkx [] (by decide) hs.2.1)
 have bp : Hid ((RS.ok (x :: tt)).is (⟨#[40]⟩ : ByteArray).data.toList = false):=hid (isS_no hkx [] (by decide) hs.2.2)
 have bt : Hid ((RS.ok (x :: tt)).is (⟨#[116,114,117,101]⟩ : ByteArray).data.toList = true):=hid (isN_yes hx ht)
 have hF:=hid (S0.fin.cons (by rw [hx];decide))
 have k1 : (x.k == 1) = false:=by simp [hx]
 have t1 : ((bstr x.t).toList == [116,114,117,101]) = true:=by (rw [ByteArray.toList_eq];show (x.t == _) = _;rw [ht];decide)
 obtain ⟨⟨r0,r1,r2,r3,r4⟩,⟨c0,c1,c2,c3⟩,_,_,hi1,hi2,_⟩:=R0.facts
 have S:=hid S0
 have E:=hid E0
 clear hs hx ht
 clear R0 E0 S0 hkx hxm
 go_enter Try.func75,Try.ntmps75
 go_upto_region 3 with (fail)
 go_wp2
 go_region
 go_upto_region 6 with (fail)
 refine name_world ?_
 intro W1 hW1
 have hB1 : Below W.heap.size W W1:=by (rw [hW1];(refine Fr.below ?_;(with_reducible repeat first | exact Fr.refl _ _ | refine Fr.alloc ?_ _ | refine Fr.drewN ?_ _ | refine Fr.drew ?_ | (refine Fr.set ?_ ?_ _ _;rotate_left;first | exact .inl rfl | (right;simp;done) | (right;simp;omega) | (right;omega)) | refine Fr.step ?_ (by assumption) | refine Fr.stepB ?_ (by assumption))))
 have F1 : Fr (some rb) W W1:=Fr.of hB1
 have hz1 : W1.heap.size = W.heap.size + 3:=by (rw [hW1];simp)
 have BV1 : Blk W1 W.heap.size (.int .i64 0) (.int .i64 0) (.int .i64 0) (.string ⟨#[]⟩) (.slice none 0 0) (.int .i64 0):=by (rw [hW1];exact ((((Blk.new rfl _ _ _ _ _ _).alloc _).alloc _).drew))
 have BE1 : Blk W1 (W.heap.size + 1 + 1) (.int .i64 0) (.int .i64 0) (.int .i64 0) (.string ⟨#[]⟩) (.slice none 0 0) (.int .i64 x.a):=by (rw [hW1];exact ((Blk.new (by simp) _ _ _ _ _ _).drew))
 have WB1 : WBlk W1 (W.heap.size + 1) x.k x.t x.n x.a:=by (rw [hW1];exact ((WBlk.new (by simp)).alloc _).drew)
 clear hW1 r0 r1 r2 r3 r4 c0 c1 c2 c3
 have hne0 : rb ≠ W.heap.size:=by omega
 have hne1 : rb ≠ W.heap.size + 1:=by omega
 have hne2 : rb ≠ W.heap.size + 1 + 1:=by omega
 have S1:=hid (S.out.stay hB1)
 have E1:=hid (E.out.stay hB1)
 clear S E hi1 hi2
 go_wp2_with (first
  | (go_at_call 62;(with_reducible refine (st_is S1.out E1.out _ false bm.out).mono ?_);rintro e' w2 ⟨rfl,hb2⟩;have S2:=hid (S1.out.stay hb2);have E2:=hid (E1.out.stay hb2);have BE2:=BE1.stay hb2;have BV2:=BV1.stay hb2;have WB2:=WB1.stay hb2;have F2:=F1.stepB hb2;have hz2:=hb2.size;clear BE1 BV1 WB1)
  | (go_at_call 62;(with_reducible refine (st_is S2.out E2.out _ false bn.out).mono ?_);rintro e' w3 ⟨rfl,hb3⟩;have S3:=hid (S2.out.stay hb3);have E3:=hid (E2.out.stay hb3);have BE3:=BE2.stay hb3;have BV3:=BV2.stay hb3;have WB3:=WB2.stay hb3;have F3:=F2.stepB hb3;have hz3:=hb3.size;clear BE2 BV2 WB2)
  | (go_at_call 62;(with_reducible refine (st_is S3.out E3.out _ false bp.out).mono ?_);rintro e' w4 ⟨rfl,hb4⟩;have S4:=hid (S3.out.stay hb4);have E4:=hid (E3.out.stay hb4);have BE4:=BE3.stay hb4;have BV4:=BV3.stay hb4;have WB4:=WB3.stay hb4;have F4:=F3.stepB hb4;have hz4:=hb4.size;clear BE3 BV3 WB3;(obtain ⟨ble4,c0e4,c1e4,c2e4,c3e4,c4e4,c5e4,f0e4,f1e4,f2e4,f3e4,f4e4,f5e4⟩:=(BE4).facts);(obtain ⟨blv4,c0v4,c1v4,c2v4,c3v4,c4v4,c5v4,f0v4,f1v4,f2v4,f3v4,f4v4,f5v4⟩:=(BV4).facts);obtain ⟨y04,y14,y24,y34,y44⟩:=WB4.facts)
  | (go_at_call 62;(with_reducible refine (st_is S4.out E4.out _ true bt.out).mono ?_);rintro e' w5 ⟨rfl,hb5⟩;have S5:=hid (S4.out.stay hb5);have E5:=hid (E4.out.stay hb5);have BE5:=BE4.stay hb5;have BV5:=BV4.stay hb5;have WB5:=WB4.stay hb5;have F5:=F4.stepB hb5;have hz5:=hb5.size;clear BE4 BV4 WB4;(obtain ⟨ble5,c0e5,c1e5,c2e5,c3e5,c4e5,c5e5,f0e5,f1e5,f2e5,f3e5,f4e5,f5e5⟩:=(BE5).facts);(obtain ⟨blv5,c0v5,c1v5,c2v5,c3v5,c4v5,c5v5,f0v5,f1v5,f2v5,f3v5,f4v5,f5v5⟩:=(BV5).facts);obtain ⟨y05,y15,y25,y35,y45⟩:=WB5.facts;obtain ⟨i,a,R,h5,h6,h7,_⟩:=S5.out.ok_cells E5.out;obtain ⟨q0,q1,q2,q3,q4⟩:=R.rd.cells;have hlr:=R.rd.lt;have hfzr:=R.rd.frozen 1))
 refine bodyPost_ret (results_ex rfl _ rfl (((((BV5.setO (by omega) _ _).setO (by omega) _ _).setO (Ne.symm hne0) _ _).all _ _ _ _ _ _))) rfl ⟨by (with_reducible repeat first | exact Fr.refl _ _ | refine Fr.alloc ?_ _ | refine Fr.drewN ?_ _ | refine Fr.drew ?_ | (refine Fr.set ?_ ?_ _ _;rotate_left;first | exact .inl rfl | (right;simp;done) | (right;simp;omega) | (right;omega)) | refine Fr.step ?_ (by assumption) | refine Fr.stepB ?_ (by assumption)),?_,_,_,_,_,_,_,_,_,rfl,?_⟩
 · show StR _ rb g cap ws o (.ok tt)
   refine st_advX (a:=a) ?_ h5 h6 hF.out
   (repeat (first | (with_reducible refine RrAt.setO ?_ (by first | assumption | omega) _ _)))
   exact ((R.rd.setO hne2 _ _).setO hne2 _ _).set1 _
 · intro x' ts' e
   cases e
   exact ⟨rfl,rfl,rfl,rfl,rfl,rfl,.leaf⟩
theorem rth_fls (rb g : Nat) (ws : List Wd) (o : Nat) (x : Wd) (tt : List Wd) (hx : x.k = 0) (ht : x.t = flsB) : SndR rb g ws 75 #[.pointer (some ⟨rb,0,none⟩)] o (x :: tt) (.ok (.mk 1 0 0 [] [] x.a) tt):=by
 have hs : ¬ Sg x [45] ∧ ¬ Sg x [33] ∧ ¬ Sg x [40]:=⟨nsg0 (by rw [hx];decide) _,nsg0 (by rw [hx];decide) _,nsg0 (by rw [hx];decide) _⟩
 intro W cap E0 S0
 have hrl:=S0.lt
 have hgl:=E0.wc.lt
 obtain ⟨i,a,R0,_,_,_,hxm⟩:=S0.ok_cells E0
 have hkx : KOk x:=E0.kok x hxm
 have bm : Hid ((RS.ok (x :: tt)).is (⟨#[45]⟩ : ByteArray).data.toList = false):=hid (isS_no hkx [] (by decide) hs.1)
 have bn : Hid ((RS.ok (x :: tt)).is (⟨#[33]⟩ : ByteArray).data.toList = false):=hid (isS_no hkx [] (by decide) hs.2.1)
 have bp : Hid ((RS.ok (x :: tt)).is (⟨#[40]⟩ : ByteArray).data.toList = false):=hid (isS_no hkx [] (by decide) hs.2.2)
 have bt : Hid ((RS.ok (x :: tt)).is (⟨#[116,114,117,101]⟩ : ByteArray).data.toList = false):=hid (isT_no (by rw [ht];decide))
 have bf : Hid ((RS.ok (x :: tt)).is (⟨#[102,97,108,115,101]⟩ : ByteArray).data.toList = true):=hid (isN_yes hx ht)
 have hF:=hid (S0.fin.cons (by rw [hx];decide))
 have k1 : (x.k == 1) = false:=by simp [hx]
 have t1 : ((bstr x.t).toList == [116,114,117,101]) = false:=by (rw [ByteArray.toList_eq];show (x.t == _) = _;rw [ht];decide)
 obtain ⟨⟨r0,r1,r2,r3,r4⟩,⟨c0,c1,c2,c3⟩,_,_,hi1,hi2,_⟩:=R0.facts
 have S:=hid S0
 have E:=hid E0
 clear hs hx ht
 clear R0 E0 S0 hkx hxm
 go_enter Try.func75,Try.ntmps75
 go_upto_region 3 with (fail)
 go_wp2
 go_region
 go_upto_region 6 with (fail)
 refine name_world ?_
 intro W1 hW1
 have hB1 : Below W.heap.size W W1:=by (rw [hW1];(refine Fr.below ?_;(with_reducible repeat first | exact Fr.refl _ _ | refine Fr.alloc ?_ _ | refine Fr.drewN ?_ _ | refine Fr.drew ?_ | (refine Fr.set ?_ ?_ _ _;rotate_left;first | exact .inl rfl | (right;simp;done) | (right;simp;omega) | (right;omega)) | refine Fr.step ?_ (by assumption) | refine Fr.stepB ?_ (by assumption))))
 have F1 : Fr (some rb) W W1:=Fr.of hB1
 have hz1 : W1.heap.size = W.heap.size + 3:=by (rw [hW1];simp)
 have BV1 : Blk W1 W.heap.size (.int .i64 0) (.int .i64 0) (.int .i64 0) (.string ⟨#[]⟩) (.slice none 0 0) (.int .i64 0):=by (rw [hW1];exact ((((Blk.new rfl _ _ _ _ _ _).alloc _).alloc _).drew))
 have BE1 : Blk W1 (W.heap.size + 1 + 1) (.int .i64 0) (.int .i64 0) (.int .i64 0) (.string ⟨#[]⟩) (.slice none 0 0) (.int .i64 x.a):=by (rw [hW1];exact ((Blk.new (by simp) _ _ _ _ _ _).drew))
 have WB1 : WBlk W1 (W.heap.size + 1) x.k x.t x.n x.a:=by (rw [hW1];exact ((WBlk.new (by simp)).alloc _).drew)
 clear hW1 r0 r1 r2 r3 r4 c0 c1 c2 c3
 have hne0 : rb ≠ W.heap.size:=by omega
 have hne1 : rb ≠ W.heap.size + 1:=by omega
 have hne2 : rb ≠ W.heap.size + 1 + 1:=by omega
 have S1:=hid (S.out.stay hB1)
 have E1:=hid (E.out.stay hB1)
 clear S E hi1 hi2
 go_wp2_with (first
  | (go_at_call 62;(with_reducible refine (st_is S1.out E1.out _ false bm.out).mono ?_);rintro e' w2 ⟨rfl,hb2⟩;have S2:=hid (S1.out.stay hb2);have E2:=hid (E1.out.stay hb2);have BE2:=BE1.stay hb2;have BV2:=BV1.stay hb2;have WB2:=WB1.stay hb2;have F2:=F1.stepB hb2;have hz2:=hb2.size;clear BE1 BV1 WB1)
  | (go_at_call 62;(with_reducible refine (st_is S2.out E2.out _ false bn.out).mono ?_);rintro e' w3 ⟨rfl,hb3⟩;have S3:=hid (S2.out.stay hb3);have E3:=hid (E2.out.stay hb3);have BE3:=BE2.stay hb3;have BV3:=BV2.stay hb3;have WB3:=WB2.stay hb3;have F3:=F2.stepB hb3;have hz3:=hb3.size;clear BE2 BV2 WB2)
  | (go_at_call 62;(with_reducible refine (st_is S3.out E3.out _ false bp.out).mono ?_);rintro e' w4 ⟨rfl,hb4⟩;have S4:=hid (S3.out.stay hb4);have E4:=hid (E3.out.stay hb4);have BE4:=BE3.stay hb4;have BV4:=BV3.stay hb4;have WB4:=WB3.stay hb4;have F4:=F3.stepB hb4;have hz4:=hb4.size;clear BE3 BV3 WB3;(obtain ⟨ble4,c0e4,c1e4,c2e4,c3e4,c4e4,c5e4,f0e4,f1e4,f2e4,f3e4,f4e4,f5e4⟩:=(BE4).facts);(obtain ⟨blv4,c0v4,c1v4,c2v4,c3v4,c4v4,c5v4,f0v4,f1v4,f2v4,f3v4,f4v4,f5v4⟩:=(BV4).facts);obtain ⟨y04,y14,y24,y34,y44⟩:=WB4.facts)
  | (go_at_call 62;(with_reducible refine (st_is S4.out E4.out _ false bt.out).mono ?_);rintro e' w5 ⟨rfl,hb5⟩;have S5:=hid (S4.out.stay hb5);have E5:=hid (E4.out.stay hb5);have BE5:=BE4.stay hb5;have BV5:=BV4.stay hb5;have WB5:=WB4.stay hb5;have F5:=F4.stepB hb5;have hz5:=hb5.size;clear BE4 BV4 WB4)
  | (go_at_call 62;(with_reducible refine (st_is S5.out E5.out _ true bf.out).mono ?_);rintro e' w6 ⟨rfl,hb6⟩;have S6:=hid (S5.out.stay hb6);have E6:=hid (E5.out.stay hb6);have BE6:=BE5.stay hb6;have BV6:=BV5.stay hb6;have WB6:=WB5.stay hb6;have F6:=F5.stepB hb6;have hz6:=hb6.size;clear BE5 BV5 WB5;(obtain ⟨ble6,c0e6,c1e6,c2e6,c3e6,c4e6,c5e6,f0e6,f1e6,f2e6,f3e6,f4e6,f5e6⟩:=(BE6).facts);(obtain ⟨blv6,c0v6,c1v6,c2v6,c3v6,c4v6,c5v6,f0v6,f1v6,f2v6,f3v6,f4v6,f5v6⟩:=(BV6).facts);obtain ⟨y06,y16,y26,y36,y46⟩:=WB6.facts;obtain ⟨i,a,R,h5,h6,h7,_⟩:=S6.out.ok_cells E6.out;obtain ⟨q0,q1,q2,q3,q4⟩:=R.rd.cells;have hlr:=R.rd.lt;have hfzr:=R.rd.frozen 1))
 refine bodyPost_ret (results_ex rfl _ rfl ((((BV6.setO (by omega) _ _).setO (Ne.symm hne0) _ _).all _ _ _ _ _ _))) rfl ⟨by (with_reducible repeat first | exact Fr.refl _ _ | refine Fr.alloc ?_ _ | refine Fr.drewN ?_ _ | refine Fr.drew ?_ | (refine Fr.set ?_ ?_ _ _;rotate_left;first | exact .inl rfl | (right;simp;done) | (right;simp;omega) | (right;omega)) | refine Fr.step ?_ (by assumption) | refine Fr.stepB ?_ (by assumption)),?_,_,_,_,_,_,_,_,_,rfl,?_⟩
 · show StR _ rb g cap ws o (.ok tt)
   refine st_advX (a:=a) ?_ h5 h6 hF.out
   (repeat (first | (with_reducible refine RrAt.setO ?_ (by first | assumption | omega) _ _)))
   exact (R.rd.setO hne2 _ _).set1 _
 · intro x' ts' e
   cases e
   exact ⟨rfl,rfl,rfl,rfl,rfl,rfl,.leaf⟩
theorem rkey_of {t : List UInt8} {b : Bool} (h : keyB t = b) (w : World) : Calls Try.prog 63 #[.string (bstr t)] w fun e w' => e = .returned (.bool b) ∧ Below w.heap.size w w':=by
 have:=rkey_any (bstr t) w
 rwa [show (bstr t).data.toList = t from rfl,h] at this
theorem rth_name (rb g : Nat) (ws : List Wd) (o : Nat) (x : Wd) (tt : List Wd) (r : Res) (hx : x.k = 0) (hky : keyB x.t = false) (H2 : SndR rb g ws 79 #[.pointer (some ⟨rb,0,none⟩)] o (x :: tt) r) : SndR rb g ws 75 #[.pointer (some ⟨rb,0,none⟩)] o (x :: tt) r:=by
 have hs : ¬ Sg x [45] ∧ ¬ Sg x [33] ∧ ¬ Sg x [40]:=⟨nsg0 (by rw [hx];decide) _,nsg0 (by rw [hx];decide) _,nsg0 (by rw [hx];decide) _⟩
 have hkey:=hid hky
 have HH:=hid H2
 clear H2
 intro W cap E0 S0
 have hrl:=S0.lt
 have hgl:=E0.wc.lt
 obtain ⟨i,a,R0,_,_,_,hxm⟩:=S0.ok_cells E0
 have hkx : KOk x:=E0.kok x hxm
 have bm : Hid ((RS.ok (x :: tt)).is (⟨#[45]⟩ : ByteArray).data.toList = false):=hid (isS_no hkx [] (by decide) hs.1)
 have bn : Hid ((RS.ok (x :: tt)).is (⟨#[33]⟩ : ByteArray).data.toList = false):=hid (isS_no hkx [] (by decide) hs.2.1)
 have bp : Hid ((RS.ok (x :: tt)).is (⟨#[40]⟩ : ByteArray).data.toList = false):=hid (isS_no hkx [] (by decide) hs.2.2)
 have bt : Hid ((RS.ok (x :: tt)).is (⟨#[116,114,117,101]⟩ : ByteArray).data.toList = false):=hid (isT_no (fun e => by rw [e] at hky;revert hky;decide))
 have bf : Hid ((RS.ok (x :: tt)).is (⟨#[102,97,108,115,101]⟩ : ByteArray).data.toList = false):=hid (isT_no (fun e => by rw [e] at hky;revert hky;decide))
 have k1 : (x.k == 1) = false:=by simp [hx]
 have k0 : (x.k == 0) = true:=by simp [hx]
 obtain ⟨⟨r0,r1,r2,r3,r4⟩,⟨c0,c1,c2,c3⟩,_,_,hi1,hi2,_⟩:=R0.facts
 have S:=hid S0
 have E:=hid E0
 clear hs hx hky
 clear R0 E0 S0 hkx hxm
 go_enter Try.func75,Try.ntmps75
 go_upto_region 3 with (fail)
 go_wp2
 go_region
 go_upto_region 6 with (fail)
 refine name_world ?_
 intro W1 hW1
 have hB1 : Below W.heap.size W W1:=by (rw [hW1];(refine Fr.below ?_;(with_reducible repeat first | exact Fr.refl _ _ | refine Fr.alloc ?_ _ | refine Fr.drewN ?_ _ | refine Fr.drew ?_ | (refine Fr.set ?_ ?_ _ _;rotate_left;first | exact .inl rfl | (right;simp;done) | (right;simp;omega) | (right;omega)) | refine Fr.step ?_ (by assumption) | refine Fr.stepB ?_ (by assumption))))
 have F1 : Fr (some rb) W W1:=Fr.of hB1
 have hz1 : W1.heap.size = W.heap.size + 3:=by (rw [hW1];simp)
 have BV1 : Blk W1 W.heap.size (.int .i64 0) (.int .i64 0) (.int .i64 0) (.string ⟨#[]⟩) (.slice none 0 0) (.int .i64 0):=by (rw [hW1];exact ((((Blk.new rfl _ _ _ _ _ _).alloc _).alloc _).drew))
 have BE1 : Blk W1 (W.heap.size + 1 + 1) (.int .i64 0) (.int .i64 0) (.int .i64 0) (.string ⟨#[]⟩) (.slice none 0 0) (.int .i64 x.a):=by (rw [hW1];exact ((Blk.new (by simp) _ _ _ _ _ _).drew))
 have WB1 : WBlk W1 (W.heap.size + 1) x.k x.t x.n x.a:=by (rw [hW1];exact ((WBlk.new (by simp)).alloc _).drew)
 clear hW1 r0 r1 r2 r3 r4 c0 c1 c2 c3
 have hne0 : rb ≠ W.heap.size:=by omega
 have hne1 : rb ≠ W.heap.size + 1:=by omega
 have hne2 : rb ≠ W.heap.size + 1 + 1:=by omega
 have S1:=hid (S.out.stay hB1)
 have E1:=hid (E.out.stay hB1)
 clear S E hi1 hi2
 go_wp2_with (first
  | (go_at_call 62;(with_reducible refine (st_is S1.out E1.out _ false bm.out).mono ?_);rintro e' w2 ⟨rfl,hb2⟩;have S2:=hid (S1.out.stay hb2);have E2:=hid (E1.out.stay hb2);have BE2:=BE1.stay hb2;have BV2:=BV1.stay hb2;have WB2:=WB1.stay hb2;have F2:=F1.stepB hb2;have hz2:=hb2.size;clear BE1 BV1 WB1)
  | (go_at_call 62;(with_reducible refine (st_is S2.out E2.out _ false bn.out).mono ?_);rintro e' w3 ⟨rfl,hb3⟩;have S3:=hid (S2.out.stay hb3);have E3:=hid (E2.out.stay hb3);have BE3:=BE2.stay hb3;have BV3:=BV2.stay hb3;have WB3:=WB2.stay hb3;have F3:=F2.stepB hb3;have hz3:=hb3.size;clear BE2 BV2 WB2)
  | (go_at_call 62;(with_reducible refine (st_is S3.out E3.out _ false bp.out).mono ?_);rintro e' w4 ⟨rfl,hb4⟩;have S4:=hid (S3.out.stay hb4);have E4:=hid (E3.out.stay hb4);have BE4:=BE3.stay hb4;have BV4:=BV3.stay hb4;have WB4:=WB3.stay hb4;have F4:=F3.stepB hb4;have hz4:=hb4.size;clear BE3 BV3 WB3;(obtain ⟨ble4,c0e4,c1e4,c2e4,c3e4,c4e4,c5e4,f0e4,f1e4,f2e4,f3e4,f4e4,f5e4⟩:=(BE4).facts);(obtain ⟨blv4,c0v4,c1v4,c2v4,c3v4,c4v4,c5v4,f0v4,f1v4,f2v4,f3v4,f4v4,f5v4⟩:=(BV4).facts);obtain ⟨y04,y14,y24,y34,y44⟩:=WB4.facts)
  | (go_at_call 62;(with_reducible refine (st_is S4.out E4.out _ false bt.out).mono ?_);rintro e' w5 ⟨rfl,hb5⟩;have S5:=hid (S4.out.stay hb5);have E5:=hid (E4.out.stay hb5);have BE5:=BE4.stay hb5;have BV5:=BV4.stay hb5;have WB5:=WB4.stay hb5;have F5:=F4.stepB hb5;have hz5:=hb5.size;clear BE4 BV4 WB4)
  | (go_at_call 62;(with_reducible refine (st_is S5.out E5.out _ false bf.out).mono ?_);rintro e' w6 ⟨rfl,hb6⟩;have S6:=hid (S5.out.stay hb6);have E6:=hid (E5.out.stay hb6);have BE6:=BE5.stay hb6;have BV6:=BV5.stay hb6;have WB6:=WB5.stay hb6;have F6:=F5.stepB hb6;have hz6:=hb6.size;clear BE5 BV5 WB5;(obtain ⟨ble6,c0e6,c1e6,c2e6,c3e6,c4e6,c5e6,f0e6,f1e6,f2e6,f3e6,f4e6,f5e6⟩:=(BE6).facts);(obtain ⟨blv6,c0v6,c1v6,c2v6,c3v6,c4v6,c5v6,f0v6,f1v6,f2v6,f3v6,f4v6,f5v6⟩:=(BV6).facts);obtain ⟨y06,y16,y26,y36,y46⟩:=WB6.facts)
  | (go_at_call 63;(with_reducible refine (rkey_of hkey.out _).mono ?_);rintro e' w7 ⟨rfl,hb7⟩;have S7:=hid (S6.out.stay hb7);have E7:=hid (E6.out.stay hb7);have BE7:=BE6.stay hb7;have BV7:=BV6.stay hb7;have WB7:=WB6.stay hb7;have F7:=F6.stepB hb7;have hz7:=hb7.size;clear BE6 BV6 WB6)
  | (go_at_call 79;(with_reducible refine (HH.out.use _ cap E7.out S7.out).mono ?_);rintro e' w8 ⟨hf8,hs8,k8,q8,n8,nm8,p8,l8,c8,a8,rfl,hg8⟩;have BE8:=BE7.fr hf8 (Ne.symm hne2);have BV8:=BV7.fr hf8 (Ne.symm hne0);have WB8:=WB7.fr hf8 (Ne.symm hne1);have F8:=F7.step hf8;have hz8:=Fr.size hf8;clear BE7 BV7 WB7;(obtain ⟨ble8,c0e8,c1e8,c2e8,c3e8,c4e8,c5e8,f0e8,f1e8,f2e8,f3e8,f4e8,f5e8⟩:=(BE8).facts);(obtain ⟨blv8,c0v8,c1v8,c2v8,c3v8,c4v8,c5v8,f0v8,f1v8,f2v8,f3v8,f4v8,f5v8⟩:=(BV8).facts);obtain ⟨y08,y18,y28,y38,y48⟩:=WB8.facts))
 refine bodyPost_ret (results_ex rfl _ rfl ((BV8.all _ _ _ _ _ _))) rfl ⟨by (with_reducible repeat first | exact Fr.refl _ _ | refine Fr.alloc ?_ _ | refine Fr.drewN ?_ _ | refine Fr.drew ?_ | (refine Fr.set ?_ ?_ _ _;rotate_left;first | exact .inl rfl | (right;simp;done) | (right;simp;omega) | (right;omega)) | refine Fr.step ?_ (by assumption) | refine Fr.stepB ?_ (by assumption)),?_,_,_,_,_,_,_,_,_,rfl,?_⟩
 · (with_reducible repeat first | exact hs8 | refine StR.alloc ?_ _ | refine StR.drewN ?_ _ | refine StR.drew ?_ | refine StR.setO ?_ (by first | assumption | omega) _ _ | refine StR.stay ?_ (by assumption))
 · have h9:=hg8.low (show W.heap.size + 1 ≤ w7.heap.size by omega)
   refine GoodEx.low (lo:=W.heap.size + 1) ?_ (by omega)
   intro x' ts' e
   obtain ⟨h1,h2,h3,h4,h5,h6,h7⟩:=h9 x' ts' e
   exact ⟨h1,h2,h3,h4,h5,h6,(((((h7.set (by omega) _ _).set (by omega) _ _).set (by omega) _ _).set (by omega) _ _).set (by omega) _ _).set (by omega) _ _⟩
theorem rth_strayK (rb g : Nat) (ws : List Wd) (o : Nat) (x : Wd) (tt : List Wd) (hx : x.k = 0) (hky : keyB x.t = true) (hk1 : x.k ≠ 1) (hs : ¬ Sg x [45] ∧ ¬ Sg x [33] ∧ ¬ Sg x [40]) (ht : ¬ (x.k = 0 ∧ x.t = truB)) (hf : ¬ (x.k = 0 ∧ x.t = flsB)) : SndR rb g ws 75 #[.pointer (some ⟨rb,0,none⟩)] o (x :: tt) (.bad 11 x.a):=by
 intro W cap E0 S0
 have hrl:=S0.lt
 have hgl:=E0.wc.lt
 obtain ⟨i,a,R0,_,_,_,hxm⟩:=S0.ok_cells E0
 have hkx : KOk x:=E0.kok x hxm
 have bm : Hid ((RS.ok (x :: tt)).is (⟨#[45]⟩ : ByteArray).data.toList = false):=hid (isS_no hkx [] (by decide) hs.1)
 have bn : Hid ((RS.ok (x :: tt)).is (⟨#[33]⟩ : ByteArray).data.toList = false):=hid (isS_no hkx [] (by decide) hs.2.1)
 have bp : Hid ((RS.ok (x :: tt)).is (⟨#[40]⟩ : ByteArray).data.toList = false):=hid (isS_no hkx [] (by decide) hs.2.2)
 have bt : Hid ((RS.ok (x :: tt)).is (⟨#[116,114,117,101]⟩ : ByteArray).data.toList = false):=hid (isN_no hkx (by decide) ht)
 have bf : Hid ((RS.ok (x :: tt)).is (⟨#[102,97,108,115,101]⟩ : ByteArray).data.toList = false):=hid (isN_no hkx (by decide) hf)
 have k0 : (x.k == 0) = true:=by simp [hx]
 have k1 : (x.k == 1) = false:=by simp [hx]
 have hkey:=hid hky
 obtain ⟨⟨r0,r1,r2,r3,r4⟩,⟨c0,c1,c2,c3⟩,_,_,hi1,hi2,_⟩:=R0.facts
 have S:=hid S0
 have E:=hid E0
 clear hs hx ht hf hk1
 clear R0 E0 S0 hkx hxm
 go_enter Try.func75,Try.ntmps75
 go_upto_region 3 with (fail)
 go_wp2
 go_region
 go_upto_region 6 with (fail)
 refine name_world ?_
 intro W1 hW1
 have hB1 : Below W.heap.size W W1:=by (rw [hW1];(refine Fr.below ?_;(with_reducible repeat first | exact Fr.refl _ _ | refine Fr.alloc ?_ _ | refine Fr.drewN ?_ _ | refine Fr.drew ?_ | (refine Fr.set ?_ ?_ _ _;rotate_left;first | exact .inl rfl | (right;simp;done) | (right;simp;omega) | (right;omega)) | refine Fr.step ?_ (by assumption) | refine Fr.stepB ?_ (by assumption))))
 have F1 : Fr (some rb) W W1:=Fr.of hB1
 have hz1 : W1.heap.size = W.heap.size + 3:=by (rw [hW1];simp)
 have BV1 : Blk W1 W.heap.size (.int .i64 0) (.int .i64 0) (.int .i64 0) (.string ⟨#[]⟩) (.slice none 0 0) (.int .i64 0):=by (rw [hW1];exact ((((Blk.new rfl _ _ _ _ _ _).alloc _).alloc _).drew))
 have BE1 : Blk W1 (W.heap.size + 1 + 1) (.int .i64 0) (.int .i64 0) (.int .i64 0) (.string ⟨#[]⟩) (.slice none 0 0) (.int .i64 x.a):=by (rw [hW1];exact ((Blk.new (by simp) _ _ _ _ _ _).drew))
 have WB1 : WBlk W1 (W.heap.size + 1) x.k x.t x.n x.a:=by (rw [hW1];exact ((WBlk.new (by simp)).alloc _).drew)
 clear hW1 r0 r1 r2 r3 r4 c0 c1 c2 c3
 have hne0 : rb ≠ W.heap.size:=by omega
 have hne1 : rb ≠ W.heap.size + 1:=by omega
 have hne2 : rb ≠ W.heap.size + 1 + 1:=by omega
 have S1:=hid (S.out.stay hB1)
 have E1:=hid (E.out.stay hB1)
 clear S E hi1 hi2
 go_wp2_with (first
  | (go_at_call 62;(with_reducible refine (st_is S1.out E1.out _ false bm.out).mono ?_);rintro e' w2 ⟨rfl,hb2⟩;have S2:=hid (S1.out.stay hb2);have E2:=hid (E1.out.stay hb2);have BE2:=BE1.stay hb2;have BV2:=BV1.stay hb2;have WB2:=WB1.stay hb2;have F2:=F1.stepB hb2;have hz2:=hb2.size;clear BE1 BV1 WB1)
  | (go_at_call 62;(with_reducible refine (st_is S2.out E2.out _ false bn.out).mono ?_);rintro e' w3 ⟨rfl,hb3⟩;have S3:=hid (S2.out.stay hb3);have E3:=hid (E2.out.stay hb3);have BE3:=BE2.stay hb3;have BV3:=BV2.stay hb3;have WB3:=WB2.stay hb3;have F3:=F2.stepB hb3;have hz3:=hb3.size;clear BE2 BV2 WB2)
  | (go_at_call 62;(with_reducible refine (st_is S3.out E3.out _ false bp.out).mono ?_);rintro e' w4 ⟨rfl,hb4⟩;have S4:=hid (S3.out.stay hb4);have E4:=hid (E3.out.stay hb4);have BE4:=BE3.stay hb4;have BV4:=BV3.stay hb4;have WB4:=WB3.stay hb4;have F4:=F3.stepB hb4;have hz4:=hb4.size;clear BE3 BV3 WB3;(obtain ⟨ble4,c0e4,c1e4,c2e4,c3e4,c4e4,c5e4,f0e4,f1e4,f2e4,f3e4,f4e4,f5e4⟩:=(BE4).facts);(obtain ⟨blv4,c0v4,c1v4,c2v4,c3v4,c4v4,c5v4,f0v4,f1v4,f2v4,f3v4,f4v4,f5v4⟩:=(BV4).facts);obtain ⟨y04,y14,y24,y34,y44⟩:=WB4.facts)
  | (go_at_call 62;(with_reducible refine (st_is S4.out E4.out _ false bt.out).mono ?_);rintro e' w5 ⟨rfl,hb5⟩;have S5:=hid (S4.out.stay hb5);have E5:=hid (E4.out.stay hb5);have BE5:=BE4.stay hb5;have BV5:=BV4.stay hb5;have WB5:=WB4.stay hb5;have F5:=F4.stepB hb5;have hz5:=hb5.size;clear BE4 BV4 WB4)
  | (go_at_call 62;(with_reducible refine (st_is S5.out E5.out _ false bf.out).mono ?_);rintro e' w6 ⟨rfl,hb6⟩;have S6:=hid (S5.out.stay hb6);have E6:=hid (E5.out.stay hb6);have BE6:=BE5.stay hb6;have BV6:=BV5.stay hb6;have WB6:=WB5.stay hb6;have F6:=F5.stepB hb6;have hz6:=hb6.size;clear BE5 BV5 WB5;(obtain ⟨ble6,c0e6,c1e6,c2e6,c3e6,c4e6,c5e6,f0e6,f1e6,f2e6,f3e6,f4e6,f5e6⟩:=(BE6).facts);(obtain ⟨blv6,c0v6,c1v6,c2v6,c3v6,c4v6,c5v6,f0v6,f1v6,f2v6,f3v6,f4v6,f5v6⟩:=(BV6).facts);obtain ⟨y06,y16,y26,y36,y46⟩:=WB6.facts)
  | (go_at_call 63;(with_reducible refine (rkey_of hkey.out _).mono ?_);rintro e' w7 ⟨rfl,hb7⟩;have S7:=hid (S6.out.stay hb7);have E7:=hid (E6.out.stay hb7);have BE7:=BE6.stay hb7;have BV7:=BV6.stay hb7;have WB7:=WB6.stay hb7;have F7:=F6.stepB hb7;have hz7:=hb7.size;clear BE6 BV6 WB6)
  | (go_at_call 70;(with_reducible refine (st_fail S7.out E7.out 11 (by decide)).mono ?_);rintro e' w8 ⟨rfl,hs8,hf8⟩;have BE8:=BE7.fr hf8 (Ne.symm hne2);have BV8:=BV7.fr hf8 (Ne.symm hne0);have WB8:=WB7.fr hf8 (Ne.symm hne1);have F8:=F7.step hf8;have hz8:=Fr.size hf8;clear BE7 BV7 WB7;(obtain ⟨ble8,c0e8,c1e8,c2e8,c3e8,c4e8,c5e8,f0e8,f1e8,f2e8,f3e8,f4e8,f5e8⟩:=(BE8).facts);(obtain ⟨blv8,c0v8,c1v8,c2v8,c3v8,c4v8,c5v8,f0v8,f1v8,f2v8,f3v8,f4v8,f5v8⟩:=(BV8).facts);obtain ⟨y08,y18,y28,y38,y48⟩:=WB8.facts))
 refine bodyPost_ret (results_ex rfl _ rfl ((BV8.all _ _ _ _ _ _))) rfl ⟨by (with_reducible repeat first | exact Fr.refl _ _ | refine Fr.alloc ?_ _ | refine Fr.drewN ?_ _ | refine Fr.drew ?_ | (refine Fr.set ?_ ?_ _ _;rotate_left;first | exact .inl rfl | (right;simp;done) | (right;simp;omega) | (right;omega)) | refine Fr.step ?_ (by assumption) | refine Fr.stepB ?_ (by assumption)),?_,_,_,_,_,_,_,_,_,rfl,GoodEx.bad⟩
 have hs8' : StR w8 rb g cap ws o (.bad 11 x.a):=hs8
 show StR _ rb g cap ws o (.bad 11 x.a)
 (with_reducible repeat first | exact hs8' | refine StR.alloc ?_ _ | refine StR.drewN ?_ _ | refine StR.drew ?_ | refine StR.setO ?_ (by first | assumption | omega) _ _ | refine StR.stay ?_ (by assumption))
theorem rth_strayN (rb g : Nat) (ws : List Wd) (o : Nat) (x : Wd) (tt : List Wd) (hx : x.k ≠ 0) (hk1 : x.k ≠ 1) (hs : ¬ Sg x [45] ∧ ¬ Sg x [33] ∧ ¬ Sg x [40]) (ht : ¬ (x.k = 0 ∧ x.t = truB)) (hf : ¬ (x.k = 0 ∧ x.t = flsB)) : SndR rb g ws 75 #[.pointer (some ⟨rb,0,none⟩)] o (x :: tt) (.bad 11 x.a):=by
 intro W cap E0 S0
 have hrl:=S0.lt
 have hgl:=E0.wc.lt
 obtain ⟨i,a,R0,_,_,_,hxm⟩:=S0.ok_cells E0
 have hkx : KOk x:=E0.kok x hxm
 have bm : Hid ((RS.ok (x :: tt)).is (⟨#[45]⟩ : ByteArray).data.toList = false):=hid (isS_no hkx [] (by decide) hs.1)
 have bn : Hid ((RS.ok (x :: tt)).is (⟨#[33]⟩ : ByteArray).data.toList = false):=hid (isS_no hkx [] (by decide) hs.2.1)
 have bp : Hid ((RS.ok (x :: tt)).is (⟨#[40]⟩ : ByteArray).data.toList = false):=hid (isS_no hkx [] (by decide) hs.2.2)
 have bt : Hid ((RS.ok (x :: tt)).is (⟨#[116,114,117,101]⟩ : ByteArray).data.toList = false):=hid (isN_no hkx (by decide) ht)
 have bf : Hid ((RS.ok (x :: tt)).is (⟨#[102,97,108,115,101]⟩ : ByteArray).data.toList = false):=hid (isN_no hkx (by decide) hf)
 have k0 : (x.k == 0) = false:=by simp [hx]
 have k1 : (x.k == 1) = false:=by simp [hk1]
 obtain ⟨⟨r0,r1,r2,r3,r4⟩,⟨c0,c1,c2,c3⟩,_,_,hi1,hi2,_⟩:=R0.facts
 have S:=hid S0
 have E:=hid E0
 clear hs hx ht hf hk1
 clear R0 E0 S0 hkx hxm
 go_enter Try.func75,Try.ntmps75
 go_upto_region 3 with (fail)
 go_wp2
 go_region
 go_upto_region 6 with (fail)
 refine name_world ?_
 intro W1 hW1
 have hB1 : Below W.heap.size W W1:=by (rw [hW1];(refine Fr.below ?_;(with_reducible repeat first | exact Fr.refl _ _ | refine Fr.alloc ?_ _ | refine Fr.drewN ?_ _ | refine Fr.drew ?_ | (refine Fr.set ?_ ?_ _ _;rotate_left;first | exact .inl rfl | (right;simp;done) | (right;simp;omega) | (right;omega)) | refine Fr.step ?_ (by assumption) | refine Fr.stepB ?_ (by assumption))))
 have F1 : Fr (some rb) W W1:=Fr.of hB1
 have hz1 : W1.heap.size = W.heap.size + 3:=by (rw [hW1];simp)
 have BV1 : Blk W1 W.heap.size (.int .i64 0) (.int .i64 0) (.int .i64 0) (.string ⟨#[]⟩) (.slice none 0 0) (.int .i64 0):=by (rw [hW1];exact ((((Blk.new rfl _ _ _ _ _ _).alloc _).alloc _).drew))
 have BE1 : Blk W1 (W.heap.size + 1 + 1) (.int .i64 0) (.int .i64 0) (.int .i64 0) (.string ⟨#[]⟩) (.slice none 0 0) (.int .i64 x.a):=by (rw [hW1];exact ((Blk.new (by simp) _ _ _ _ _ _).drew))
 have WB1 : WBlk W1 (W.heap.size + 1) x.k x.t x.n x.a:=by (rw [hW1];exact ((WBlk.new (by simp)).alloc _).drew)
 clear hW1 r0 r1 r2 r3 r4 c0 c1 c2 c3
 have hne0 : rb ≠ W.heap.size:=by omega
 have hne1 : rb ≠ W.heap.size + 1:=by omega
 have hne2 : rb ≠ W.heap.size + 1 + 1:=by omega
 have S1:=hid (S.out.stay hB1)
 have E1:=hid (E.out.stay hB1)
 clear S E hi1 hi2
 go_wp2_with (first
  | (go_at_call 62;(with_reducible refine (st_is S1.out E1.out _ false bm.out).mono ?_);rintro e' w2 ⟨rfl,hb2⟩;have S2:=hid (S1.out.stay hb2);have E2:=hid (E1.out.stay hb2);have BE2:=BE1.stay hb2;have BV2:=BV1.stay hb2;have WB2:=WB1.stay hb2;have F2:=F1.stepB hb2;have hz2:=hb2.size;clear BE1 BV1 WB1)
  | (go_at_call 62;(with_reducible refine (st_is S2.out E2.out _ false bn.out).mono ?_);rintro e' w3 ⟨rfl,hb3⟩;have S3:=hid (S2.out.stay hb3);have E3:=hid (E2.out.stay hb3);have BE3:=BE2.stay hb3;have BV3:=BV2.stay hb3;have WB3:=WB2.stay hb3;have F3:=F2.stepB hb3;have hz3:=hb3.size;clear BE2 BV2 WB2)
  | (go_at_call 62;(with_reducible refine (st_is S3.out E3.out _ false bp.out).mono ?_);rintro e' w4 ⟨rfl,hb4⟩;have S4:=hid (S3.out.stay hb4);have E4:=hid (E3.out.stay hb4);have BE4:=BE3.stay hb4;have BV4:=BV3.stay hb4;have WB4:=WB3.stay hb4;have F4:=F3.stepB hb4;have hz4:=hb4.size;clear BE3 BV3 WB3;(obtain ⟨ble4,c0e4,c1e4,c2e4,c3e4,c4e4,c5e4,f0e4,f1e4,f2e4,f3e4,f4e4,f5e4⟩:=(BE4).facts);(obtain ⟨blv4,c0v4,c1v4,c2v4,c3v4,c4v4,c5v4,f0v4,f1v4,f2v4,f3v4,f4v4,f5v4⟩:=(BV4).facts);obtain ⟨y04,y14,y24,y34,y44⟩:=WB4.facts)
  | (go_at_call 62;(with_reducible refine (st_is S4.out E4.out _ false bt.out).mono ?_);rintro e' w5 ⟨rfl,hb5⟩;have S5:=hid (S4.out.stay hb5);have E5:=hid (E4.out.stay hb5);have BE5:=BE4.stay hb5;have BV5:=BV4.stay hb5;have WB5:=WB4.stay hb5;have F5:=F4.stepB hb5;have hz5:=hb5.size;clear BE4 BV4 WB4)
  | (go_at_call 62;(with_reducible refine (st_is S5.out E5.out _ false bf.out).mono ?_);rintro e' w6 ⟨rfl,hb6⟩;have S6:=hid (S5.out.stay hb6);have E6:=hid (E5.out.stay hb6);have BE6:=BE5.stay hb6;have BV6:=BV5.stay hb6;have WB6:=WB5.stay hb6;have F6:=F5.stepB hb6;have hz6:=hb6.size;clear BE5 BV5 WB5;(obtain ⟨ble6,c0e6,c1e6,c2e6,c3e6,c4e6,c5e6,f0e6,f1e6,f2e6,f3e6,f4e6,f5e6⟩:=(BE6).facts);(obtain ⟨blv6,c0v6,c1v6,c2v6,c3v6,c4v6,c5v6,f0v6,f1v6,f2v6,f3v6,f4v6,f5v6⟩:=(BV6).facts);obtain ⟨y06,y16,y26,y36,y46⟩:=WB6.facts)
  | (go_at_call 70;(with_reducible refine (st_fail S6.out E6.out 11 (by decide)).mono ?_);rintro e' w8 ⟨rfl,hs8,hf8⟩;have BE8:=BE6.fr hf8 (Ne.symm hne2);have BV8:=BV6.fr hf8 (Ne.symm hne0);have WB8:=WB6.fr hf8 (Ne.symm hne1);have F8:=F6.step hf8;have hz8:=Fr.size hf8;clear BE6 BV6 WB6;(obtain ⟨ble8,c0e8,c1e8,c2e8,c3e8,c4e8,c5e8,f0e8,f1e8,f2e8,f3e8,f4e8,f5e8⟩:=(BE8).facts);(obtain ⟨blv8,c0v8,c1v8,c2v8,c3v8,c4v8,c5v8,f0v8,f1v8,f2v8,f3v8,f4v8,f5v8⟩:=(BV8).facts);obtain ⟨y08,y18,y28,y38,y48⟩:=WB8.facts))
 refine bodyPost_ret (results_ex rfl _ rfl ((BV8.all _ _ _ _ _ _))) rfl ⟨by (with_reducible repeat first | exact Fr.refl _ _ | refine Fr.alloc ?_ _ | refine Fr.drewN ?_ _ | refine Fr.drew ?_ | (refine Fr.set ?_ ?_ _ _;rotate_left;first | exact .inl rfl | (right;simp;done) | (right;simp;omega) | (right;omega)) | refine Fr.step ?_ (by assumption) | refine Fr.stepB ?_ (by assumption)),?_,_,_,_,_,_,_,_,_,rfl,GoodEx.bad⟩
 have hs8' : StR w8 rb g cap ws o (.bad 11 x.a):=hs8
 show StR _ rb g cap ws o (.bad 11 x.a)
 (with_reducible repeat first | exact hs8' | refine StR.alloc ?_ _ | refine StR.drewN ?_ _ | refine StR.drew ?_ | refine StR.setO ?_ (by first | assumption | omega) _ _ | refine StR.stay ?_ (by assumption))
theorem rth_neglim (rb g : Nat) (ws : List Wd) (x : Wd) (tt : List Wd) (hs : Sg x [45]) : SndR rb g ws 75 #[.pointer (some ⟨rb,0,none⟩)] 32 (x :: tt) (.bad 2 x.a):=by
 intro W cap E0 S0
 have hrl:=S0.lt
 have hgl:=E0.wc.lt
 obtain ⟨i,a,R0,_,_,_,hxm⟩:=S0.ok_cells E0
 have hkx : KOk x:=E0.kok x hxm
 have bm : Hid ((RS.ok (x :: tt)).is (⟨#[45]⟩ : ByteArray).data.toList = true):=hid (isS_yes hs)
 obtain ⟨⟨r0,r1,r2,r3,r4⟩,⟨c0,c1,c2,c3⟩,_,_,hi1,hi2,_⟩:=R0.facts
 have S:=hid S0
 have E:=hid E0
 clear hs
 clear R0 E0 S0 hkx hxm
 go_enter Try.func75,Try.ntmps75
 go_upto_region 3 with (fail)
 go_wp2
 go_region
 go_upto_region 6 with (fail)
 refine name_world ?_
 intro W1 hW1
 have hB1 : Below W.heap.size W W1:=by (rw [hW1];(refine Fr.below ?_;(with_reducible repeat first | exact Fr.refl _ _ | refine Fr.alloc ?_ _ | refine Fr.drewN ?_ _ | refine Fr.drew ?_ | (refine Fr.set ?_ ?_ _ _;rotate_left;first | exact .inl rfl | (right;simp;done) | (right;simp;omega) | (right;omega)) | refine Fr.step ?_ (by assumption) | refine Fr.stepB ?_ (by assumption))))
 have F1 : Fr (some rb) W W1:=Fr.of hB1
 have hz1 : W1.heap.size = W.heap.size + 3:=by (rw [hW1];simp)
 have BV1 : Blk W1 W.heap.size (.int .i64 0) (.int .i64 0) (.int .i64 0) (.string ⟨#[]⟩) (.slice none 0 0) (.int .i64 0):=by (rw [hW1];exact ((((Blk.new rfl _ _ _ _ _ _).alloc _).alloc _).drew))
 have BE1 : Blk W1 (W.heap.size + 1 + 1) (.int .i64 0) (.int .i64 0) (.int .i64 0) (.string ⟨#[]⟩) (.slice none 0 0) (.int .i64 x.a):=by (rw [hW1];exact ((Blk.new (by simp) _ _ _ _ _ _).drew))
 have WB1 : WBlk W1 (W.heap.size + 1) x.k x.t x.n x.a:=by (rw [hW1];exact ((WBlk.new (by simp)).alloc _).drew)
 clear hW1 r0 r1 r2 r3 r4 c0 c1 c2 c3
 have hne0 : rb ≠ W.heap.size:=by omega
 have hne1 : rb ≠ W.heap.size + 1:=by omega
 have hne2 : rb ≠ W.heap.size + 1 + 1:=by omega
 have S1:=hid (S.out.stay hB1)
 have E1:=hid (E.out.stay hB1)
 clear S E hi1 hi2
 go_wp2_with (first
  | (go_at_call 62;(with_reducible refine (st_is S1.out E1.out _ true bm.out).mono ?_);rintro e' w2 ⟨rfl,hb2⟩;have S2:=hid (S1.out.stay hb2);have E2:=hid (E1.out.stay hb2);have BE2:=BE1.stay hb2;have BV2:=BV1.stay hb2;have WB2:=WB1.stay hb2;have F2:=F1.stepB hb2;have hz2:=hb2.size;clear BE1 BV1 WB1)
  | (go_at_call 78;(with_reducible refine (renter_lim S2 E2).mono ?_);rintro e' w3 ⟨rfl,hs3,hf3⟩;have BE3:=BE2.fr hf3 (Ne.symm hne2);have BV3:=BV2.fr hf3 (Ne.symm hne0);have WB3:=WB2.fr hf3 (Ne.symm hne1);have F3:=F2.step hf3;have hz3:=Fr.size hf3;clear BE2 BV2 WB2;(obtain ⟨ble3,c0e3,c1e3,c2e3,c3e3,c4e3,c5e3,f0e3,f1e3,f2e3,f3e3,f4e3,f5e3⟩:=(BE3).facts);(obtain ⟨blv3,c0v3,c1v3,c2v3,c3v3,c4v3,c5v3,f0v3,f1v3,f2v3,f3v3,f4v3,f5v3⟩:=(BV3).facts);obtain ⟨y03,y13,y23,y33,y43⟩:=WB3.facts))
 refine bodyPost_ret (results_ex rfl _ rfl ((BV3.all _ _ _ _ _ _))) rfl ⟨by (with_reducible repeat first | exact Fr.refl _ _ | refine Fr.alloc ?_ _ | refine Fr.drewN ?_ _ | refine Fr.drew ?_ | (refine Fr.set ?_ ?_ _ _;rotate_left;first | exact .inl rfl | (right;simp;done) | (right;simp;omega) | (right;omega)) | refine Fr.step ?_ (by assumption) | refine Fr.stepB ?_ (by assumption)),?_,_,_,_,_,_,_,_,_,rfl,GoodEx.bad⟩
 have hs9 : StR w3 rb g cap ws 32 (.bad 2 x.a):=hs3
 show StR _ rb g cap ws 32 (.bad 2 x.a)
 (with_reducible repeat first | exact hs9 | refine StR.alloc ?_ _ | refine StR.drewN ?_ _ | refine StR.drew ?_ | refine StR.setO ?_ (by first | assumption | omega) _ _ | refine StR.stay ?_ (by assumption))
theorem rth_notlim (rb g : Nat) (ws : List Wd) (x : Wd) (tt : List Wd) (hs : Sg x [33]) : SndR rb g ws 75 #[.pointer (some ⟨rb,0,none⟩)] 32 (x :: tt) (.bad 2 x.a):=by
 intro W cap E0 S0
 have hrl:=S0.lt
 have hgl:=E0.wc.lt
 obtain ⟨i,a,R0,_,_,_,hxm⟩:=S0.ok_cells E0
 have hkx : KOk x:=E0.kok x hxm
 have bm : Hid ((RS.ok (x :: tt)).is (⟨#[45]⟩ : ByteArray).data.toList = false):=hid (isS_no hkx [] (by decide) (nsgt hs.2 (by decide)))
 have bn : Hid ((RS.ok (x :: tt)).is (⟨#[33]⟩ : ByteArray).data.toList = true):=hid (isS_yes hs)
 obtain ⟨⟨r0,r1,r2,r3,r4⟩,⟨c0,c1,c2,c3⟩,_,_,hi1,hi2,_⟩:=R0.facts
 have S:=hid S0
 have E:=hid E0
 clear hs
 clear R0 E0 S0 hkx hxm
 go_enter Try.func75,Try.ntmps75
 go_upto_region 3 with (fail)
 go_wp2
 go_region
 go_upto_region 6 with (fail)
 refine name_world ?_
 intro W1 hW1
 have hB1 : Below W.heap.size W W1:=by (rw [hW1];(refine Fr.below ?_;(with_reducible repeat first | exact Fr.refl _ _ | refine Fr.alloc ?_ _ | refine Fr.drewN ?_ _ | refine Fr.drew ?_ | (refine Fr.set ?_ ?_ _ _;rotate_left;first | exact .inl rfl | (right;simp;done) | (right;simp;omega) | (right;omega)) | refine Fr.step ?_ (by assumption) | refine Fr.stepB ?_ (by assumption))))
 have F1 : Fr (some rb) W W1:=Fr.of hB1
 have hz1 : W1.heap.size = W.heap.size + 3:=by (rw [hW1];simp)
 have BV1 : Blk W1 W.heap.size (.int .i64 0) (.int .i64 0) (.int .i64 0) (.string ⟨#[]⟩) (.slice none 0 0) (.int .i64 0):=by (rw [hW1];exact ((((Blk.new rfl _ _ _ _ _ _).alloc _).alloc _).drew))
 have BE1 : Blk W1 (W.heap.size + 1 + 1) (.int .i64 0) (.int .i64 0) (.int .i64 0) (.string ⟨#[]⟩) (.slice none 0 0) (.int .i64 x.a):=by (rw [hW1];exact ((Blk.new (by simp) _ _ _ _ _ _).drew))
 have WB1 : WBlk W1 (W.heap.size + 1) x.k x.t x.n x.a:=by (rw [hW1];exact ((WBlk.new (by simp)).alloc _).drew)
 clear hW1 r0 r1 r2 r3 r4 c0 c1 c2 c3
 have hne0 : rb ≠ W.heap.size:=by omega
 have hne1 : rb ≠ W.heap.size + 1:=by omega
 have hne2 : rb ≠ W.heap.size + 1 + 1:=by omega
 have S1:=hid (S.out.stay hB1)
 have E1:=hid (E.out.stay hB1)
 clear S E hi1 hi2
 go_wp2_with (first
  | (go_at_call 62;(with_reducible refine (st_is S1.out E1.out _ false bm.out).mono ?_);rintro e' w2 ⟨rfl,hb2⟩;have S2:=hid (S1.out.stay hb2);have E2:=hid (E1.out.stay hb2);have BE2:=BE1.stay hb2;have BV2:=BV1.stay hb2;have WB2:=WB1.stay hb2;have F2:=F1.stepB hb2;have hz2:=hb2.size;clear BE1 BV1 WB1)
  | (go_at_call 62;(with_reducible refine (st_is S2.out E2.out _ true bn.out).mono ?_);rintro e' w3 ⟨rfl,hb3⟩;have S3:=hid (S2.out.stay hb3);have E3:=hid (E2.out.stay hb3);have BE3:=BE2.stay hb3;have BV3:=BV2.stay hb3;have WB3:=WB2.stay hb3;have F3:=F2.stepB hb3;have hz3:=hb3.size;clear BE2 BV2 WB2)
  | (go_at_call 78;(with_reducible refine (renter_lim S3 E3).mono ?_);rintro e' w4 ⟨rfl,hs4,hf4⟩;have BE4:=BE3.fr hf4 (Ne.symm hne2);have BV4:=BV3.fr hf4 (Ne.symm hne0);have WB4:=WB3.fr hf4 (Ne.symm hne1);have F4:=F3.step hf4;have hz4:=Fr.size hf4;clear BE3 BV3 WB3;(obtain ⟨ble4,c0e4,c1e4,c2e4,c3e4,c4e4,c5e4,f0e4,f1e4,f2e4,f3e4,f4e4,f5e4⟩:=(BE4).facts);(obtain ⟨blv4,c0v4,c1v4,c2v4,c3v4,c4v4,c5v4,f0v4,f1v4,f2v4,f3v4,f4v4,f5v4⟩:=(BV4).facts);obtain ⟨y04,y14,y24,y34,y44⟩:=WB4.facts))
 refine bodyPost_ret (results_ex rfl _ rfl ((BV4.all _ _ _ _ _ _))) rfl ⟨by (with_reducible repeat first | exact Fr.refl _ _ | refine Fr.alloc ?_ _ | refine Fr.drewN ?_ _ | refine Fr.drew ?_ | (refine Fr.set ?_ ?_ _ _;rotate_left;first | exact .inl rfl | (right;simp;done) | (right;simp;omega) | (right;omega)) | refine Fr.step ?_ (by assumption) | refine Fr.stepB ?_ (by assumption)),?_,_,_,_,_,_,_,_,_,rfl,GoodEx.bad⟩
 have hs9 : StR w4 rb g cap ws 32 (.bad 2 x.a):=hs4
 show StR _ rb g cap ws 32 (.bad 2 x.a)
 (with_reducible repeat first | exact hs9 | refine StR.alloc ?_ _ | refine StR.drewN ?_ _ | refine StR.drew ?_ | refine StR.setO ?_ (by first | assumption | omega) _ _ | refine StR.stay ?_ (by assumption))
theorem rth_parlim (rb g : Nat) (ws : List Wd) (x : Wd) (tt : List Wd) (hs : Sg x [40]) : SndR rb g ws 75 #[.pointer (some ⟨rb,0,none⟩)] 32 (x :: tt) (.bad 2 x.a):=by
 intro W cap E0 S0
 have hrl:=S0.lt
 have hgl:=E0.wc.lt
 obtain ⟨i,a,R0,_,_,_,hxm⟩:=S0.ok_cells E0
 have hkx : KOk x:=E0.kok x hxm
 have bm : Hid ((RS.ok (x :: tt)).is (⟨#[45]⟩ : ByteArray).data.toList = false):=hid (isS_no hkx [] (by decide) (nsgt hs.2 (by decide)))
 have bn : Hid ((RS.ok (x :: tt)).is (⟨#[33]⟩ : ByteArray).data.toList = false):=hid (isS_no hkx [] (by decide) (nsgt hs.2 (by decide)))
 have bp : Hid ((RS.ok (x :: tt)).is (⟨#[40]⟩ : ByteArray).data.toList = true):=hid (isS_yes hs)
 obtain ⟨⟨r0,r1,r2,r3,r4⟩,⟨c0,c1,c2,c3⟩,_,_,hi1,hi2,_⟩:=R0.facts
 have S:=hid S0
 have E:=hid E0
 clear hs
 clear R0 E0 S0 hkx hxm
 go_enter Try.func75,Try.ntmps75
 go_upto_region 3 with (fail)
 go_wp2
 go_region
 go_upto_region 6 with (fail)
 refine name_world ?_
 intro W1 hW1
 have hB1 : Below W.heap.size W W1:=by (rw [hW1];(refine Fr.below ?_;(with_reducible repeat first | exact Fr.refl _ _ | refine Fr.alloc ?_ _ | refine Fr.drewN ?_ _ | refine Fr.drew ?_ | (refine Fr.set ?_ ?_ _ _;rotate_left;first | exact .inl rfl | (right;simp;done) | (right;simp;omega) | (right;omega)) | refine Fr.step ?_ (by assumption) | refine Fr.stepB ?_ (by assumption))))
 have F1 : Fr (some rb) W W1:=Fr.of hB1
 have hz1 : W1.heap.size = W.heap.size + 3:=by (rw [hW1];simp)
 have BV1 : Blk W1 W.heap.size (.int .i64 0) (.int .i64 0) (.int .i64 0) (.string ⟨#[]⟩) (.slice none 0 0) (.int .i64 0):=by (rw [hW1];exact ((((Blk.new rfl _ _ _ _ _ _).alloc _).alloc _).drew))
 have BE1 : Blk W1 (W.heap.size + 1 + 1) (.int .i64 0) (.int .i64 0) (.int .i64 0) (.string ⟨#[]⟩) (.slice none 0 0) (.int .i64 x.a):=by (rw [hW1];exact ((Blk.new (by simp) _ _ _ _ _ _).drew))
 have WB1 : WBlk W1 (W.heap.size + 1) x.k x.t x.n x.a:=by (rw [hW1];exact ((WBlk.new (by simp)).alloc _).drew)
 clear hW1 r0 r1 r2 r3 r4 c0 c1 c2 c3
 have hne0 : rb ≠ W.heap.size:=by omega
 have hne1 : rb ≠ W.heap.size + 1:=by omega
 have hne2 : rb ≠ W.heap.size + 1 + 1:=by omega
 have S1:=hid (S.out.stay hB1)
 have E1:=hid (E.out.stay hB1)
 clear S E hi1 hi2
 go_wp2_with (first
  | (go_at_call 62;(with_reducible refine (st_is S1.out E1.out _ false bm.out).mono ?_);rintro e' w2 ⟨rfl,hb2⟩;have S2:=hid (S1.out.stay hb2);have E2:=hid (E1.out.stay hb2);have BE2:=BE1.stay hb2;have BV2:=BV1.stay hb2;have WB2:=WB1.stay hb2;have F2:=F1.stepB hb2;have hz2:=hb2.size;clear BE1 BV1 WB1)
  | (go_at_call 62;(with_reducible refine (st_is S2.out E2.out _ false bn.out).mono ?_);rintro e' w3 ⟨rfl,hb3⟩;have S3:=hid (S2.out.stay hb3);have E3:=hid (E2.out.stay hb3);have BE3:=BE2.stay hb3;have BV3:=BV2.stay hb3;have WB3:=WB2.stay hb3;have F3:=F2.stepB hb3;have hz3:=hb3.size;clear BE2 BV2 WB2)
  | (go_at_call 62;(with_reducible refine (st_is S3.out E3.out _ true bp.out).mono ?_);rintro e' w4 ⟨rfl,hb4⟩;have S4:=hid (S3.out.stay hb4);have E4:=hid (E3.out.stay hb4);have BE4:=BE3.stay hb4;have BV4:=BV3.stay hb4;have WB4:=WB3.stay hb4;have F4:=F3.stepB hb4;have hz4:=hb4.size;clear BE3 BV3 WB3)
  | (go_at_call 78;(with_reducible refine (renter_lim S4 E4).mono ?_);rintro e' w5 ⟨rfl,hs5,hf5⟩;have BE5:=BE4.fr hf5 (Ne.symm hne2);have BV5:=BV4.fr hf5 (Ne.symm hne0);have WB5:=WB4.fr hf5 (Ne.symm hne1);have F5:=F4.step hf5;have hz5:=Fr.size hf5;clear BE4 BV4 WB4;(obtain ⟨ble5,c0e5,c1e5,c2e5,c3e5,c4e5,c5e5,f0e5,f1e5,f2e5,f3e5,f4e5,f5e5⟩:=(BE5).facts);(obtain ⟨blv5,c0v5,c1v5,c2v5,c3v5,c4v5,c5v5,f0v5,f1v5,f2v5,f3v5,f4v5,f5v5⟩:=(BV5).facts);obtain ⟨y05,y15,y25,y35,y45⟩:=WB5.facts))
 refine bodyPost_ret (results_ex rfl _ rfl ((BV5.all _ _ _ _ _ _))) rfl ⟨by (with_reducible repeat first | exact Fr.refl _ _ | refine Fr.alloc ?_ _ | refine Fr.drewN ?_ _ | refine Fr.drew ?_ | (refine Fr.set ?_ ?_ _ _;rotate_left;first | exact .inl rfl | (right;simp;done) | (right;simp;omega) | (right;omega)) | refine Fr.step ?_ (by assumption) | refine Fr.stepB ?_ (by assumption)),?_,_,_,_,_,_,_,_,_,rfl,GoodEx.bad⟩
 have hs9 : StR w5 rb g cap ws 32 (.bad 2 x.a):=hs5
 show StR _ rb g cap ws 32 (.bad 2 x.a)
 (with_reducible repeat first | exact hs9 | refine StR.alloc ?_ _ | refine StR.drewN ?_ _ | refine StR.drew ?_ | refine StR.setO ?_ (by first | assumption | omega) _ _ | refine StR.stay ?_ (by assumption))
def BehEnd (k : Int) (a : Nat) : Res → Res → Prop
 | .ok e ts',r => r = .ok (.mk k 0 0 [] [e] a) ts'
 | .bad c b,r => r = .bad c b
 | _,_ => False
theorem BehEnd.st {k : Int} {a : Nat} {r2 r : Res} (h : BehEnd k a r2 r) : r2.st = r.st:=by
 cases r2 with
 | ok => exact (show r = _ from h) ▸ rfl
 | okL => exact h.elim
 | bad => exact (show r = _ from h) ▸ rfl
theorem BehEnd.inv {k : Int} {a : Nat} {r2 r : Res} (h : BehEnd k a r2 r) {x : Ex} {ts' : List Wd} (hr : r = .ok x ts') : ∃ e,r2 = .ok e ts' ∧ x = .mk k 0 0 [] [e] a:=by
 cases r2 with
 | ok e ts =>
  have h' : r = _:=h
  rw [hr] at h'
  cases h'
  exact ⟨e,rfl,rfl⟩
 | okL => exact h.elim
 | bad =>
  have h' : r = _:=h
  rw [hr] at h'
  cases h'
theorem rth_neg (rb g : Nat) (ws : List Wd) (o : Nat) (x : Wd) (tt : List Wd) (r2 r : Res) (ho : o < 32) (hs : Sg x [45]) (H2 : SndR rb g ws 75 #[.pointer (some ⟨rb,0,none⟩)] (o + 1) tt r2) (hr : BehEnd 4 x.a r2 r) : SndR rb g ws 75 #[.pointer (some ⟨rb,0,none⟩)] o (x :: tt) r:=by
 have HH2:=hid H2
 clear H2
 intro W cap E0 S0
 have hrl:=S0.lt
 have hgl:=E0.wc.lt
 obtain ⟨i,a,R0,_,_,_,hxm⟩:=S0.ok_cells E0
 have hkx : KOk x:=E0.kok x hxm
 have bm : Hid ((RS.ok (x :: tt)).is (⟨#[45]⟩ : ByteArray).data.toList = true):=hid (isS_yes hs)
 have hx3 : Hid (x.k ≠ 3):=hid hs.ne
 have t1 : ((bstr x.t).toList == [33]) = false:=by (rw [ByteArray.toList_eq];show (x.t == _) = _;rw [hs.2];decide)
 obtain ⟨⟨r0,r1,r2,r3,r4⟩,⟨c0,c1,c2,c3⟩,_,_,hi1,hi2,_⟩:=R0.facts
 have S:=hid S0
 have E:=hid E0
 clear hs
 clear R0 E0 S0 hkx hxm
 go_enter Try.func75,Try.ntmps75
 go_upto_region 3 with (fail)
 go_wp2
 go_region
 go_upto_region 6 with (fail)
 refine name_world ?_
 intro W1 hW1
 have hB1 : Below W.heap.size W W1:=by (rw [hW1];(refine Fr.below ?_;(with_reducible repeat first | exact Fr.refl _ _ | refine Fr.alloc ?_ _ | refine Fr.drewN ?_ _ | refine Fr.drew ?_ | (refine Fr.set ?_ ?_ _ _;rotate_left;first | exact .inl rfl | (right;simp;done) | (right;simp;omega) | (right;omega)) | refine Fr.step ?_ (by assumption) | refine Fr.stepB ?_ (by assumption))))
 have F1 : Fr (some rb) W W1:=Fr.of hB1
 have hz1 : W1.heap.size = W.heap.size + 3:=by (rw [hW1];simp)
 have BV1 : Blk W1 W.heap.size (.int .i64 0) (.int .i64 0) (.int .i64 0) (.string ⟨#[]⟩) (.slice none 0 0) (.int .i64 0):=by (rw [hW1];exact ((((Blk.new rfl _ _ _ _ _ _).alloc _).alloc _).drew))
 have BE1 : Blk W1 (W.heap.size + 1 + 1) (.int .i64 0) (.int .i64 0) (.int .i64 0) (.string ⟨#[]⟩) (.slice none 0 0) (.int .i64 x.a):=by (rw [hW1];exact ((Blk.new (by simp) _ _ _ _ _ _).drew))
 have WB1 : WBlk W1 (W.heap.size + 1) x.k x.t x.n x.a:=by (rw [hW1];exact ((WBlk.new (by simp)).alloc _).drew)
 clear hW1 r0 r1 r2 r3 r4 c0 c1 c2 c3
 have hne0 : rb ≠ W.heap.size:=by omega
 have hne1 : rb ≠ W.heap.size + 1:=by omega
 have hne2 : rb ≠ W.heap.size + 1 + 1:=by omega
 have S1:=hid (S.out.stay hB1)
 have E1:=hid (E.out.stay hB1)
 clear S E hi1 hi2
 obtain ⟨i0,hinf,hzi0,hzi1,hzi2⟩:=info_parts infoEx
 go_upto_region 13 with (first
  | (go_at_call 62;(with_reducible refine (st_is S1.out E1.out _ true bm.out).mono ?_);rintro e' w2 ⟨rfl,hb2⟩;have S2:=hid (S1.out.stay hb2);have E2:=hid (E1.out.stay hb2);have BE2:=BE1.stay hb2;have BV2:=BV1.stay hb2;have WB2:=WB1.stay hb2;have F2:=F1.stepB hb2;have hz2:=hb2.size;clear BE1 BV1 WB1)
  | (go_at_call 78;(with_reducible refine (renter_ok S2.out E2.out hx3.out ho).mono ?_);rintro e' w3 ⟨rfl,hs3,hf3⟩;have E3:=hid (E2.out.kept hf3);have BE3:=BE2.fr hf3 (Ne.symm hne2);have BV3:=BV2.fr hf3 (Ne.symm hne0);have WB3:=WB2.fr hf3 (Ne.symm hne1);have F3:=F2.step hf3;have hz3:=Fr.size hf3;clear BE2 BV2 WB2;(obtain ⟨ble3,c0e3,c1e3,c2e3,c3e3,c4e3,c5e3,f0e3,f1e3,f2e3,f3e3,f4e3,f5e3⟩:=(BE3).facts);(obtain ⟨blv3,c0v3,c1v3,c2v3,c3v3,c4v3,c5v3,f0v3,f1v3,f2v3,f3v3,f4v3,f5v3⟩:=(BV3).facts);obtain ⟨y03,y13,y23,y33,y43⟩:=WB3.facts))
 refine name_world ?_
 intro W4 hW4
 have BEq : Blk W4 (W.heap.size + 1 + 1) (.int .i64 4) (.int .i64 0) (.int .i64 0) (.string ⟨#[]⟩) (.slice none 0 0) (.int .i64 x.a):=by (rw [hW4];exact BE3.set0 _)
 have BVq : Blk W4 W.heap.size (.int .i64 0) (.int .i64 0) (.int .i64 0) (.string ⟨#[]⟩) (.slice none 0 0) (.int .i64 0):=by (rw [hW4];exact (BV3).setO (by omega) _ _)
 have Sq:=hid (show StR W4 rb g cap ws ((o + 1 : Nat) : Int) (.ok tt) by (rw [hW4];exact (hs3).setO hne2 _ _))
 have Eq_ : Hid (EnvR rb g ws W4):=hid (by (rw [hW4];exact (E3.out).setO (by omega) _ _))
 have hFW4 : Fr (some rb) W W4:=by (rw [hW4];exact (F3).set (.inr (by omega)) _ _)
 have hz4 : W.heap.size + 3 ≤ W4.heap.size:=by (rw [hW4];simp;omega)
 clear hW4 BE3 BV3 WB3 hs3 hf3 S1 E1
 obtain ⟨blh,c0h,c1h,c2h,c3h,c4h,c5h,f0h,f1h,f2h,f3h,f4h,f5h⟩:=(BEq).facts
 go_region_law (first
  | (refine step_append_lies _ (by rfl) _ _ _ (by rfl) W4.heap.size 63 i0 _ 6 72 Try.underlying61 hinf hzi0 hzi1 hzi2 rfl (by decide) _ 0 [] (by rfl) (World.ownsRow_nil _ _ _ _) ⟨_,0,none⟩ 1 1 (rawL k5 q5 n5 nm5 p5 l5 c5 a5) (by rfl) (by rfl) (World.news_of_block (heap_alloc_new _ _)) (rawL_one _ _ _ _ _ _ _ _) (by decide) (by unfold maxLen;omega) (by omega) (by simp;omega) _ rfl ?_;intro gg cap6 w6 hown6 hgrow6 hor6 hlt6;have hgr6 : World.grownBy _ w6 none:=hgrow6;have BE6:=(BE5.alloc (.cells #[.int .i64 k5,.int .i64 q5,.int .i64 n5,.string nm5,.slice p5 l5 c5,.int .i64 a5] 63)).grown hgr6;(obtain ⟨blj,c0j,c1j,c2j,c3j,c4j,c5j,f0j,f1j,f2j,f3j,f4j,f5j⟩:=(BE6).facts))
  | (go_simp;go_at_call 75;(with_reducible refine (HH2.out.use _ cap (Eq_.out.stay (by (refine Fr.below ?_;(with_reducible repeat first | exact Fr.refl _ _ | refine Fr.alloc ?_ _ | refine Fr.drewN ?_ _ | refine Fr.drew ?_ | (refine Fr.set ?_ ?_ _ _;rotate_left;first | exact .inl rfl | (right;simp;done) | (right;simp;omega) | (right;omega)) | refine Fr.step ?_ (by assumption) | refine Fr.stepB ?_ (by assumption))))) (by (with_reducible repeat first | exact Sq.out | refine StR.alloc ?_ _ | refine StR.drewN ?_ _ | refine StR.drew ?_ | refine StR.setO ?_ (by first | assumption | omega) _ _ | refine StR.stay ?_ (by assumption)))).mono ?_);rintro e5 w5 ⟨hf5,hs5,k5,q5,n5,nm5,p5,l5,c5,a5,rfl,hg5⟩;have hz5a:=Fr.size hf5;(try simp only [World.size_drew] at hz5a);have BE5:=BEq.drew.fr hf5 (Ne.symm hne2);(obtain ⟨bli,c0i,c1i,c2i,c3i,c4i,c5i,f0i,f1i,f2i,f3i,f4i,f5i⟩:=(BE5).facts)))
 all_goals go_upto_region 14 with (fail)
 all_goals refine name_world ?_
 all_goals
  intro W7 hW7
  have hgg : gg = (w5.alloc (.cells #[.int .i64 k5,.int .i64 q5,.int .i64 n5,.string nm5,.slice p5 l5 c5,.int .i64 a5] 63)).heap.size:=by (rcases hor6 with h | h;(cases h);exact h)
  have hz5:=Fr.size hf5
  simp at hz5 hgg
  have hge : gg ≠ W.heap.size + 1 + 1:=by omega
  have BE7 : Blk W7 (W.heap.size + 1 + 1) (.int .i64 4) (.int .i64 0) (.int .i64 0) (.string ⟨#[]⟩) (.slice (some ⟨gg,0,none⟩) 1 cap6) (.int .i64 x.a):=by (rw [hW7];exact BE6.set4 _)
  have BV7 : Blk W7 W.heap.size (.int .i64 0) (.int .i64 0) (.int .i64 0) (.string ⟨#[]⟩) (.slice none 0 0) (.int .i64 0):=by (rw [hW7];exact (((BVq.drew.fr hf5 (Ne.symm hne0)).alloc _).grown hgr6).setO (by omega) _ _)
  obtain ⟨O,hO⟩ : ∃ O : Int,O = ((o + 1 : Nat) : Int):=⟨_,rfl⟩
  rw [← hO] at hs5
  have S7 : Hid (StR W7 rb g cap ws O r2.st):=hid (by (rw [hW7];exact ((hs5.alloc _).grown hgr6).setO hne2 _ _))
  have hFW6 : Fr (some rb) W w6:=Fr.stepOwn (v:=.slice none 0 0) (((hFW4.drew).step hf5).alloc _) hgrow6 (fun j e => by cases e)
  have hFW7 : Fr (some rb) W W7:=by (rw [hW7];exact hFW6.set (.inr (by omega)) _ _)
  change GoodEx W4.heap.size w5 r2 k5 q5 n5 nm5 p5 l5 c5 a5 at hg5
  have X7 : Hid (∀ e ts,r2 = .ok e ts → IsEx W4.heap.size W7 (.mk 4 0 0 [] [e] x.a) (.slice (some ⟨gg,0,none⟩) 1 cap6)):=hid (by
   intro e ts he
   rw [hW7]
   exact (one_row (hg5.stay ((Below.refl _ _).alloc (Nat.le_refl _) _)) he hown6 hgr6 (by simp;omega) 4 0 0 [] x.a).set (by omega) _ _)
  have HO:=hid hO
  have hz7:=Fr.size hFW7
  obtain ⟨i8,c8,a8,hr8,_,_⟩:=S7.out.rd
  obtain ⟨q0,q1,q2,q3,q4⟩:=hr8.cells
  have hl8:=hr8.lt
  have hfz8:=hr8.frozen 2
  clear hO hW7 hs5 hf5 hown6 hgrow6 hgr6 hor6 BE6 BE5 BEq BVq Sq Eq_ hg5 hgg hz5 hr8
  obtain ⟨blk,c0k,c1k,c2k,c3k,c4k,c5k,f0k,f1k,f2k,f3k,f4k,f5k⟩:=(BE7).facts
  obtain ⟨bll,c0l,c1l,c2l,c3l,c4l,c5l,f0l,f1l,f2l,f3l,f4l,f5l⟩:=(BV7).facts
  go_wp2
  refine bodyPost_ret (results_ex rfl _ rfl ((BV7.setO (Ne.symm hne0) _ _).all _ _ _ _ _ _)) rfl ⟨by (with_reducible repeat first | exact Fr.refl _ _ | refine Fr.alloc ?_ _ | refine Fr.drewN ?_ _ | refine Fr.drew ?_ | (refine Fr.set ?_ ?_ _ _;rotate_left;first | exact .inl rfl | (right;simp;done) | (right;simp;omega) | (right;omega)) | refine Fr.step ?_ (by assumption) | refine Fr.stepB ?_ (by assumption)),?_,_,_,_,_,_,_,_,_,rfl,?_⟩
  · have hs9 : StR (W7.setCell ⟨rb,2,none⟩ (.int .i64 (wrap64 (O - 1)))) rb g cap ws o r.st:=by (rw [← hr.st,HO.out];exact st_dec (HO.out ▸ S7.out) (by omega))
    (with_reducible repeat first | exact hs9 | refine StR.alloc ?_ _ | refine StR.drewN ?_ _ | refine StR.drew ?_ | refine StR.setO ?_ (by first | assumption | omega) _ _ | refine StR.stay ?_ (by assumption))
  · intro x' ts' e
    obtain ⟨e0,h8,rfl⟩:=hr.inv e
    have h9:=(X7.out e0 _ h8).set (show rb < W4.heap.size by omega) 2 (.int .i64 (wrap64 (O - 1)))
    refine ⟨rfl,rfl,rfl,rfl,rfl,rfl,IsEx.low (lo:=W4.heap.size) ?_ (by omega)⟩
    exact (((((h9.set (by omega) _ _).set (by omega) _ _).set (by omega) _ _).set (by omega) _ _).set (by omega) _ _).set (by omega) _ _
theorem rth_not (rb g : Nat) (ws : List Wd) (o : Nat) (x : Wd) (tt : List Wd) (r2 r : Res) (ho : o < 32) (hs : Sg x [33]) (H2 : SndR rb g ws 75 #[.pointer (some ⟨rb,0,none⟩)] (o + 1) tt r2) (hr : BehEnd 5 x.a r2 r) : SndR rb g ws 75 #[.pointer (some ⟨rb,0,none⟩)] o (x :: tt) r:=by
 have HH2:=hid H2
 clear H2
 intro W cap E0 S0
 have hrl:=S0.lt
 have hgl:=E0.wc.lt
 obtain ⟨i,a,R0,_,_,_,hxm⟩:=S0.ok_cells E0
 have hkx : KOk x:=E0.kok x hxm
 have bm : Hid ((RS.ok (x :: tt)).is (⟨#[45]⟩ : ByteArray).data.toList = false):=hid (isS_no hkx [] (by decide) (nsgt hs.2 (by decide)))
 have bn : Hid ((RS.ok (x :: tt)).is (⟨#[33]⟩ : ByteArray).data.toList = true):=hid (isS_yes hs)
 have hx3 : Hid (x.k ≠ 3):=hid hs.ne
 have t1 : ((bstr x.t).toList == [33]) = true:=by (rw [ByteArray.toList_eq];show (x.t == _) = _;rw [hs.2];decide)
 obtain ⟨⟨r0,r1,r2,r3,r4⟩,⟨c0,c1,c2,c3⟩,_,_,hi1,hi2,_⟩:=R0.facts
 have S:=hid S0
 have E:=hid E0
 clear hs
 clear R0 E0 S0 hkx hxm
 go_enter Try.func75,Try.ntmps75
 go_upto_region 3 with (fail)
 go_wp2
 go_region
 go_upto_region 6 with (fail)
 refine name_world ?_
 intro W1 hW1
 have hB1 : Below W.heap.size W W1:=by (rw [hW1];(refine Fr.below ?_;(with_reducible repeat first | exact Fr.refl _ _ | refine Fr.alloc ?_ _ | refine Fr.drewN ?_ _ | refine Fr.drew ?_ | (refine Fr.set ?_ ?_ _ _;rotate_left;first | exact .inl rfl | (right;simp;done) | (right;simp;omega) | (right;omega)) | refine Fr.step ?_ (by assumption) | refine Fr.stepB ?_ (by assumption))))
 have F1 : Fr (some rb) W W1:=Fr.of hB1
 have hz1 : W1.heap.size = W.heap.size + 3:=by (rw [hW1];simp)
 have BV1 : Blk W1 W.heap.size (.int .i64 0) (.int .i64 0) (.int .i64 0) (.string ⟨#[]⟩) (.slice none 0 0) (.int .i64 0):=by (rw [hW1];exact ((((Blk.new rfl _ _ _ _ _ _).alloc _).alloc _).drew))
 have BE1 : Blk W1 (W.heap.size + 1 + 1) (.int .i64 0) (.int .i64 0) (.int .i64 0) (.string ⟨#[]⟩) (.slice none 0 0) (.int .i64 x.a):=by (rw [hW1];exact ((Blk.new (by simp) _ _ _ _ _ _).drew))
 have WB1 : WBlk W1 (W.heap.size + 1) x.k x.t x.n x.a:=by (rw [hW1];exact ((WBlk.new (by simp)).alloc _).drew)
 clear hW1 r0 r1 r2 r3 r4 c0 c1 c2 c3
 have hne0 : rb ≠ W.heap.size:=by omega
 have hne1 : rb ≠ W.heap.size + 1:=by omega
 have hne2 : rb ≠ W.heap.size + 1 + 1:=by omega
 have S1:=hid (S.out.stay hB1)
 have E1:=hid (E.out.stay hB1)
 clear S E hi1 hi2
 obtain ⟨i0,hinf,hzi0,hzi1,hzi2⟩:=info_parts infoEx
 go_upto_region 13 with (first
  | (go_at_call 62;(with_reducible refine (st_is S1.out E1.out _ false bm.out).mono ?_);rintro e' w2 ⟨rfl,hb2⟩;have S2:=hid (S1.out.stay hb2);have E2:=hid (E1.out.stay hb2);have BE2:=BE1.stay hb2;have BV2:=BV1.stay hb2;have WB2:=WB1.stay hb2;have F2:=F1.stepB hb2;have hz2:=hb2.size;clear BE1 BV1 WB1)
  | (go_at_call 62;(with_reducible refine (st_is S2.out E2.out _ true bn.out).mono ?_);rintro e' w3 ⟨rfl,hb3⟩;have S3:=hid (S2.out.stay hb3);have E3:=hid (E2.out.stay hb3);have BE3:=BE2.stay hb3;have BV3:=BV2.stay hb3;have WB3:=WB2.stay hb3;have F3:=F2.stepB hb3;have hz3:=hb3.size;clear BE2 BV2 WB2)
  | (go_at_call 78;(with_reducible refine (renter_ok S3.out E3.out hx3.out ho).mono ?_);rintro e' w4 ⟨rfl,hs4,hf4⟩;have E4:=hid (E3.out.kept hf4);have BE4:=BE3.fr hf4 (Ne.symm hne2);have BV4:=BV3.fr hf4 (Ne.symm hne0);have WB4:=WB3.fr hf4 (Ne.symm hne1);have F4:=F3.step hf4;have hz4:=Fr.size hf4;clear BE3 BV3 WB3;(obtain ⟨ble4,c0e4,c1e4,c2e4,c3e4,c4e4,c5e4,f0e4,f1e4,f2e4,f3e4,f4e4,f5e4⟩:=(BE4).facts);(obtain ⟨blv4,c0v4,c1v4,c2v4,c3v4,c4v4,c5v4,f0v4,f1v4,f2v4,f3v4,f4v4,f5v4⟩:=(BV4).facts);obtain ⟨y04,y14,y24,y34,y44⟩:=WB4.facts))
 refine name_world ?_
 intro W4 hW4
 have BEq : Blk W4 (W.heap.size + 1 + 1) (.int .i64 5) (.int .i64 0) (.int .i64 0) (.string ⟨#[]⟩) (.slice none 0 0) (.int .i64 x.a):=by (rw [hW4];exact (BE4.set0 _).set0 _)
 have BVq : Blk W4 W.heap.size (.int .i64 0) (.int .i64 0) (.int .i64 0) (.string ⟨#[]⟩) (.slice none 0 0) (.int .i64 0):=by (rw [hW4];exact ((BV4).setO (by omega) _ _).setO (by omega) _ _)
 have Sq:=hid (show StR W4 rb g cap ws ((o + 1 : Nat) : Int) (.ok tt) by (rw [hW4];exact ((hs4).setO hne2 _ _).setO hne2 _ _))
 have Eq_ : Hid (EnvR rb g ws W4):=hid (by (rw [hW4];exact ((E4.out).setO (by omega) _ _).setO (by omega) _ _))
 have hFW4 : Fr (some rb) W W4:=by (rw [hW4];exact ((F4).set (.inr (by omega)) _ _).set (.inr (by omega)) _ _)
 have hz4 : W.heap.size + 3 ≤ W4.heap.size:=by (rw [hW4];simp;omega)
 clear hW4 BE4 BV4 WB4 hs4 hf4 S1 E1
 obtain ⟨blh,c0h,c1h,c2h,c3h,c4h,c5h,f0h,f1h,f2h,f3h,f4h,f5h⟩:=(BEq).facts
 go_region_law (first
  | (refine step_append_lies _ (by rfl) _ _ _ (by rfl) W4.heap.size 63 i0 _ 6 72 Try.underlying61 hinf hzi0 hzi1 hzi2 rfl (by decide) _ 0 [] (by rfl) (World.ownsRow_nil _ _ _ _) ⟨_,0,none⟩ 1 1 (rawL k5 q5 n5 nm5 p5 l5 c5 a5) (by rfl) (by rfl) (World.news_of_block (heap_alloc_new _ _)) (rawL_one _ _ _ _ _ _ _ _) (by decide) (by unfold maxLen;omega) (by omega) (by simp;omega) _ rfl ?_;intro gg cap6 w6 hown6 hgrow6 hor6 hlt6;have hgr6 : World.grownBy _ w6 none:=hgrow6;have BE6:=(BE5.alloc (.cells #[.int .i64 k5,.int .i64 q5,.int .i64 n5,.string nm5,.slice p5 l5 c5,.int .i64 a5] 63)).grown hgr6;(obtain ⟨blj,c0j,c1j,c2j,c3j,c4j,c5j,f0j,f1j,f2j,f3j,f4j,f5j⟩:=(BE6).facts))
  | (go_simp;go_at_call 75;(with_reducible refine (HH2.out.use _ cap (Eq_.out.stay (by (refine Fr.below ?_;(with_reducible repeat first | exact Fr.refl _ _ | refine Fr.alloc ?_ _ | refine Fr.drewN ?_ _ | refine Fr.drew ?_ | (refine Fr.set ?_ ?_ _ _;rotate_left;first | exact .inl rfl | (right;simp;done) | (right;simp;omega) | (right;omega)) | refine Fr.step ?_ (by assumption) | refine Fr.stepB ?_ (by assumption))))) (by (with_reducible repeat first | exact Sq.out | refine StR.alloc ?_ _ | refine StR.drewN ?_ _ | refine StR.drew ?_ | refine StR.setO ?_ (by first | assumption | omega) _ _ | refine StR.stay ?_ (by assumption)))).mono ?_);rintro e5 w5 ⟨hf5,hs5,k5,q5,n5,nm5,p5,l5,c5,a5,rfl,hg5⟩;have hz5a:=Fr.size hf5;(try simp only [World.size_drew] at hz5a);have BE5:=BEq.drew.fr hf5 (Ne.symm hne2);(obtain ⟨bli,c0i,c1i,c2i,c3i,c4i,c5i,f0i,f1i,f2i,f3i,f4i,f5i⟩:=(BE5).facts)))
 all_goals go_upto_region 14 with (fail)
 all_goals refine name_world ?_
 all_goals
  intro W7 hW7
  have hgg : gg = (w5.alloc (.cells #[.int .i64 k5,.int .i64 q5,.int .i64 n5,.string nm5,.slice p5 l5 c5,.int .i64 a5] 63)).heap.size:=by (rcases hor6 with h | h;(cases h);exact h)
  have hz5:=Fr.size hf5
  simp at hz5 hgg
  have hge : gg ≠ W.heap.size + 1 + 1:=by omega
  have BE7 : Blk W7 (W.heap.size + 1 + 1) (.int .i64 5) (.int .i64 0) (.int .i64 0) (.string ⟨#[]⟩) (.slice (some ⟨gg,0,none⟩) 1 cap6) (.int .i64 x.a):=by (rw [hW7];exact BE6.set4 _)
  have BV7 : Blk W7 W.heap.size (.int .i64 0) (.int .i64 0) (.int .i64 0) (.string ⟨#[]⟩) (.slice none 0 0) (.int .i64 0):=by (rw [hW7];exact (((BVq.drew.fr hf5 (Ne.symm hne0)).alloc _).grown hgr6).setO (by omega) _ _)
  obtain ⟨O,hO⟩ : ∃ O : Int,O = ((o + 1 : Nat) : Int):=⟨_,rfl⟩
  rw [← hO] at hs5
  have S7 : Hid (StR W7 rb g cap ws O r2.st):=hid (by (rw [hW7];exact ((hs5.alloc _).grown hgr6).setO hne2 _ _))
  have hFW6 : Fr (some rb) W w6:=Fr.stepOwn (v:=.slice none 0 0) (((hFW4.drew).step hf5).alloc _) hgrow6 (fun j e => by cases e)
  have hFW7 : Fr (some rb) W W7:=by (rw [hW7];exact hFW6.set (.inr (by omega)) _ _)
  change GoodEx W4.heap.size w5 r2 k5 q5 n5 nm5 p5 l5 c5 a5 at hg5
  have X7 : Hid (∀ e ts,r2 = .ok e ts → IsEx W4.heap.size W7 (.mk 5 0 0 [] [e] x.a) (.slice (some ⟨gg,0,none⟩) 1 cap6)):=hid (by
   intro e ts he
   rw [hW7]
   exact (one_row (hg5.stay ((Below.refl _ _).alloc (Nat.le_refl _) _)) he hown6 hgr6 (by simp;omega) 5 0 0 [] x.a).set (by omega) _ _)
  have HO:=hid hO
  have hz7:=Fr.size hFW7
  obtain ⟨i8,c8,a8,hr8,_,_⟩:=S7.out.rd
  obtain ⟨q0,q1,q2,q3,q4⟩:=hr8.cells
  have hl8:=hr8.lt
  have hfz8:=hr8.frozen 2
  clear hO hW7 hs5 hf5 hown6 hgrow6 hgr6 hor6 BE6 BE5 BEq BVq Sq Eq_ hg5 hgg hz5 hr8
  obtain ⟨blk,c0k,c1k,c2k,c3k,c4k,c5k,f0k,f1k,f2k,f3k,f4k,f5k⟩:=(BE7).facts
  obtain ⟨bll,c0l,c1l,c2l,c3l,c4l,c5l,f0l,f1l,f2l,f3l,f4l,f5l⟩:=(BV7).facts
  go_wp2
  refine bodyPost_ret (results_ex rfl _ rfl ((BV7.setO (Ne.symm hne0) _ _).all _ _ _ _ _ _)) rfl ⟨by (with_reducible repeat first | exact Fr.refl _ _ | refine Fr.alloc ?_ _ | refine Fr.drewN ?_ _ | refine Fr.drew ?_ | (refine Fr.set ?_ ?_ _ _;rotate_left;first | exact .inl rfl | (right;simp;done) | (right;simp;omega) | (right;omega)) | refine Fr.step ?_ (by assumption) | refine Fr.stepB ?_ (by assumption)),?_,_,_,_,_,_,_,_,_,rfl,?_⟩
  · have hs9 : StR (W7.setCell ⟨rb,2,none⟩ (.int .i64 (wrap64 (O - 1)))) rb g cap ws o r.st:=by (rw [← hr.st,HO.out];exact st_dec (HO.out ▸ S7.out) (by omega))
    (with_reducible repeat first | exact hs9 | refine StR.alloc ?_ _ | refine StR.drewN ?_ _ | refine StR.drew ?_ | refine StR.setO ?_ (by first | assumption | omega) _ _ | refine StR.stay ?_ (by assumption))
  · intro x' ts' e
    obtain ⟨e0,h8,rfl⟩:=hr.inv e
    have h9:=(X7.out e0 _ h8).set (show rb < W4.heap.size by omega) 2 (.int .i64 (wrap64 (O - 1)))
    refine ⟨rfl,rfl,rfl,rfl,rfl,rfl,IsEx.low (lo:=W4.heap.size) ?_ (by omega)⟩
    exact (((((h9.set (by omega) _ _).set (by omega) _ _).set (by omega) _ _).set (by omega) _ _).set (by omega) _ _).set (by omega) _ _
theorem rth_par (rb g : Nat) (ws : List Wd) (o : Nat) (x : Wd) (tt : List Wd) (r2 r : Res) (ho : o < 32) (hs : Sg x [40]) (H2 : SndR rb g ws 73 #[.pointer (some ⟨rb,0,none⟩),.int .i64 1] (o + 1) tt r2) (hr : WthEnd [41] (fun e => e) r2 r) : SndR rb g ws 75 #[.pointer (some ⟨rb,0,none⟩)] o (x :: tt) r:=by
 have HH2:=hid H2
 clear H2
 intro W cap E0 S0
 have hrl:=S0.lt
 have hgl:=E0.wc.lt
 obtain ⟨i,a,R0,_,_,_,hxm⟩:=S0.ok_cells E0
 have hkx : KOk x:=E0.kok x hxm
 have bm : Hid ((RS.ok (x :: tt)).is (⟨#[45]⟩ : ByteArray).data.toList = false):=hid (isS_no hkx [] (by decide) (nsgt hs.2 (by decide)))
 have bn : Hid ((RS.ok (x :: tt)).is (⟨#[33]⟩ : ByteArray).data.toList = false):=hid (isS_no hkx [] (by decide) (nsgt hs.2 (by decide)))
 have bp : Hid ((RS.ok (x :: tt)).is (⟨#[40]⟩ : ByteArray).data.toList = true):=hid (isS_yes hs)
 have hx3 : Hid (x.k ≠ 3):=hid hs.ne
 obtain ⟨⟨r0,r1,r2,r3,r4⟩,⟨c0,c1,c2,c3⟩,_,_,hi1,hi2,_⟩:=R0.facts
 have S:=hid S0
 have E:=hid E0
 clear hs
 clear R0 E0 S0 hkx hxm
 go_enter Try.func75,Try.ntmps75
 go_upto_region 3 with (fail)
 go_wp2
 go_region
 go_upto_region 6 with (fail)
 refine name_world ?_
 intro W1 hW1
 have hB1 : Below W.heap.size W W1:=by (rw [hW1];(refine Fr.below ?_;(with_reducible repeat first | exact Fr.refl _ _ | refine Fr.alloc ?_ _ | refine Fr.drewN ?_ _ | refine Fr.drew ?_ | (refine Fr.set ?_ ?_ _ _;rotate_left;first | exact .inl rfl | (right;simp;done) | (right;simp;omega) | (right;omega)) | refine Fr.step ?_ (by assumption) | refine Fr.stepB ?_ (by assumption))))
 have F1 : Fr (some rb) W W1:=Fr.of hB1
 have hz1 : W1.heap.size = W.heap.size + 3:=by (rw [hW1];simp)
 have BV1 : Blk W1 W.heap.size (.int .i64 0) (.int .i64 0) (.int .i64 0) (.string ⟨#[]⟩) (.slice none 0 0) (.int .i64 0):=by (rw [hW1];exact ((((Blk.new rfl _ _ _ _ _ _).alloc _).alloc _).drew))
 have BE1 : Blk W1 (W.heap.size + 1 + 1) (.int .i64 0) (.int .i64 0) (.int .i64 0) (.string ⟨#[]⟩) (.slice none 0 0) (.int .i64 x.a):=by (rw [hW1];exact ((Blk.new (by simp) _ _ _ _ _ _).drew))
 have WB1 : WBlk W1 (W.heap.size + 1) x.k x.t x.n x.a:=by (rw [hW1];exact ((WBlk.new (by simp)).alloc _).drew)
 clear hW1 r0 r1 r2 r3 r4 c0 c1 c2 c3
 have hne0 : rb ≠ W.heap.size:=by omega
 have hne1 : rb ≠ W.heap.size + 1:=by omega
 have hne2 : rb ≠ W.heap.size + 1 + 1:=by omega
 have S1:=hid (S.out.stay hB1)
 have E1:=hid (E.out.stay hB1)
 clear S E hi1 hi2
 obtain ⟨O,hO⟩ : ∃ O : Int,O = ((o + 1 : Nat) : Int):=⟨_,rfl⟩
 have HO:=hid hO
 clear hO
 go_upto_region 20 with (first
  | (go_at_call 62;(with_reducible refine (st_is S1.out E1.out _ false bm.out).mono ?_);rintro e' w2 ⟨rfl,hb2⟩;have S2:=hid (S1.out.stay hb2);have E2:=hid (E1.out.stay hb2);have BE2:=BE1.stay hb2;have BV2:=BV1.stay hb2;have WB2:=WB1.stay hb2;have F2:=F1.stepB hb2;have hz2:=hb2.size;clear BE1 BV1 WB1)
  | (go_at_call 62;(with_reducible refine (st_is S2.out E2.out _ false bn.out).mono ?_);rintro e' w3 ⟨rfl,hb3⟩;have S3:=hid (S2.out.stay hb3);have E3:=hid (E2.out.stay hb3);have BE3:=BE2.stay hb3;have BV3:=BV2.stay hb3;have WB3:=WB2.stay hb3;have F3:=F2.stepB hb3;have hz3:=hb3.size;clear BE2 BV2 WB2)
  | (go_at_call 62;(with_reducible refine (st_is S3.out E3.out _ true bp.out).mono ?_);rintro e' w4 ⟨rfl,hb4⟩;have S4:=hid (S3.out.stay hb4);have E4:=hid (E3.out.stay hb4);have BE4:=BE3.stay hb4;have BV4:=BV3.stay hb4;have WB4:=WB3.stay hb4;have F4:=F3.stepB hb4;have hz4:=hb4.size;clear BE3 BV3 WB3)
  | (go_at_call 78;(with_reducible refine (renter_ok S4.out E4.out hx3.out ho).mono ?_);rintro e' w5 ⟨rfl,hs5,hf5⟩;have E5:=hid (E4.out.kept hf5);have BE5:=BE4.fr hf5 (Ne.symm hne2);have BV5:=BV4.fr hf5 (Ne.symm hne0);have WB5:=WB4.fr hf5 (Ne.symm hne1);have F5:=F4.step hf5;have hz5:=Fr.size hf5;clear BE4 BV4 WB4;(obtain ⟨ble5,c0e5,c1e5,c2e5,c3e5,c4e5,c5e5,f0e5,f1e5,f2e5,f3e5,f4e5,f5e5⟩:=(BE5).facts);(obtain ⟨blv5,c0v5,c1v5,c2v5,c3v5,c4v5,c5v5,f0v5,f1v5,f2v5,f3v5,f4v5,f5v5⟩:=(BV5).facts);obtain ⟨y05,y15,y25,y35,y45⟩:=WB5.facts)
  | (go_at_call 73;(with_reducible refine (HH2.out.use _ cap E5.out hs5).mono ?_);rintro e6 w6 ⟨hf6,hs6,k5,q5,n5,nm5,p5,l5,c5,a5,rfl,hg5⟩;have BE6:=BE5.fr hf6 (Ne.symm hne2);have BV6:=BV5.fr hf6 (Ne.symm hne0);have WB6:=WB5.fr hf6 (Ne.symm hne1);have F6:=F5.step hf6;have hz6:=Fr.size hf6;clear BE5 BV5 WB5;(obtain ⟨ble6,c0e6,c1e6,c2e6,c3e6,c4e6,c5e6,f0e6,f1e6,f2e6,f3e6,f4e6,f5e6⟩:=(BE6).facts);(obtain ⟨blv6,c0v6,c1v6,c2v6,c3v6,c4v6,c5v6,f0v6,f1v6,f2v6,f3v6,f4v6,f5v6⟩:=(BV6).facts);obtain ⟨y06,y16,y26,y36,y46⟩:=WB6.facts))
 refine name_world ?_
 intro W7 hW7
 have BE7 : Blk W7 (W.heap.size + 1 + 1) (.int .i64 k5) (.int .i64 q5) (.int .i64 n5) (.string nm5) (.slice p5 l5 c5) (.int .i64 a5):=by (rw [hW7];exact BE6.all _ _ _ _ _ _)
 have BV7 : Blk W7 W.heap.size (.int .i64 0) (.int .i64 0) (.int .i64 0) (.string ⟨#[]⟩) (.slice none 0 0) (.int .i64 0):=by (rw [hW7];exact (((((BV6.setO (by omega) _ _).setO (by omega) _ _).setO (by omega) _ _).setO (by omega) _ _).setO (by omega) _ _).setO (by omega) _ _)
 rw [← HO.out] at hs6
 have S7 : Hid (StR W7 rb g cap ws O r2.st):=hid (by (rw [hW7];exact (((((hs6.setO hne2 _ _).setO hne2 _ _).setO hne2 _ _).setO hne2 _ _).setO hne2 _ _).setO hne2 _ _))
 have E7 : Hid (EnvR rb g ws W7):=hid (by (rw [hW7];exact ((((((E5.out.kept hf6).setO (by omega) _ _).setO (by omega) _ _).setO (by omega) _ _).setO (by omega) _ _).setO (by omega) _ _).setO (by omega) _ _))
 have hFW7 : Fr (some rb) W W7:=by (rw [hW7];exact (((((F6.set (.inr (by omega)) _ _).set (.inr (by omega)) _ _).set (.inr (by omega)) _ _).set (.inr (by omega)) _ _).set (.inr (by omega)) _ _).set (.inr (by omega)) _ _)
 have X7 : Hid (GoodEx w5.heap.size W7 r2 k5 q5 n5 nm5 p5 l5 c5 a5):=hid (by
  intro x' ts' e
  obtain ⟨h1,h2,h3,h4,h5,h6,h7⟩:=hg5 x' ts' e
  rw [hW7]
  exact ⟨h1,h2,h3,h4,h5,h6,(((((h7.set (by omega) _ _).set (by omega) _ _).set (by omega) _ _).set (by omega) _ _).set (by omega) _ _).set (by omega) _ _⟩)
 have hz7:=Fr.size hFW7
 clear hW7 hs6 hf6 hs5 hf5 BE6 BV6 WB6 E5 hg5 S1 E1
 go_wp2_with (go_at_call 64;(with_reducible refine (st_need S7.out E7.out _).mono ?_);rintro e8 w8 ⟨rfl,hs8,hf8⟩;obtain ⟨i8,c8,a8,hr8,_,_⟩:=hs8.rd;obtain ⟨q0,q1,q2,q3,q4⟩:=hr8.cells;have hl8:=hr8.lt;have hfz8:=hr8.frozen 2;have BE8:=BE7.fr hf8 (Ne.symm hne2);have BV8:=BV7.fr hf8 (Ne.symm hne0);clear hr8;(obtain ⟨blk,c0k,c1k,c2k,c3k,c4k,c5k,f0k,f1k,f2k,f3k,f4k,f5k⟩:=(BE8).facts);(obtain ⟨bll,c0l,c1l,c2l,c3l,c4l,c5l,f0l,f1l,f2l,f3l,f4l,f5l⟩:=(BV8).facts))
 refine bodyPost_ret (results_ex rfl _ rfl ((BV8.setO (Ne.symm hne0) _ _).all _ _ _ _ _ _)) rfl ⟨by (with_reducible repeat first | exact Fr.refl _ _ | refine Fr.alloc ?_ _ | refine Fr.drewN ?_ _ | refine Fr.drew ?_ | (refine Fr.set ?_ ?_ _ _;rotate_left;first | exact .inl rfl | (right;simp;done) | (right;simp;omega) | (right;omega)) | refine Fr.step ?_ (by assumption) | refine Fr.stepB ?_ (by assumption)),?_,_,_,_,_,_,_,_,_,rfl,?_⟩
 · have hst:=hr.st (by decide) E7.out.kok (fun tt' h => (show StR W7 rb g cap ws O (.ok tt') from h ▸ S7.out).1)
   have hs9 : StR (w8.setCell ⟨rb,2,none⟩ (.int .i64 (wrap64 (O - 1)))) rb g cap ws o r.st:=by (rw [← hst,HO.out];exact st_dec (HO.out ▸ hs8) (by omega))
   (with_reducible repeat first | exact hs9 | refine StR.alloc ?_ _ | refine StR.drewN ?_ _ | refine StR.drew ?_ | refine StR.setO ?_ (by first | assumption | omega) _ _ | refine StR.stay ?_ (by assumption))
 · intro x' ts' e
   obtain ⟨e0,d,h8,rfl⟩:=hr.inv e
   obtain ⟨h1,h2,h3,h4,h5,h6,h7⟩:=X7.out _ _ h8
   have h9:=(h7.fr hf8 (by omega)).set (show rb < w5.heap.size by omega) 2 (.int .i64 (wrap64 (O - 1)))
   refine ⟨h1,h2,h3,h4,h5,h6,IsEx.low (lo:=w5.heap.size) ?_ (by omega)⟩
   exact (((((h9.set (by omega) _ _).set (by omega) _ _).set (by omega) _ _).set (by omega) _ _).set (by omega) _ _).set (by omega) _ _
theorem rth_step (rb g : Nat) (ws : List Wd) (o : Nat) (ts0 : List Wd) (r : Res) (IH : BelowR rb g ws (4 * ts0.length + 1)) (hP : P o .thing ts0 r) (hs : ts0 <:+ ws) (hF : Fin ts0) (ho : o ≤ 32) :
 SndR rb g ws 75 #[.pointer (some ⟨rb,0,none⟩)] o ts0 r:=by
 cases hP with
 | num h1 => exact rth_num rb g ws o _ _ h1
 | tru h1 h2 => exact rth_tru rb g ws o _ _ h1 h2
 | fls h1 h2 => exact rth_fls rb g ws o _ _ h1 h2
 | @neg _ w ts _ h1 h2 =>
  have hs2 : ts <:+ ws:=(suf_at hs).2.2
  have hF2 : Fin ts:=hF.cons h1.ne
  cases h2 with
  | behLim h3 => subst h3;exact rth_neglim rb g ws w ts h1
  | behOk h3 h4 => exact rth_neg rb g ws o w ts _ _ h3 h1 (IH .thing _ _ _ h4 hs2 hF2 trivial (by omega) (by simp only [Job.wt,List.length_cons];omega)) rfl
  | behBad h3 h4 => exact rth_neg rb g ws o w ts _ _ h3 h1 (IH .thing _ _ _ h4 hs2 hF2 trivial (by omega) (by simp only [Job.wt,List.length_cons];omega)) rfl
 | @not _ w ts _ h1 h2 =>
  have hs2 : ts <:+ ws:=(suf_at hs).2.2
  have hF2 : Fin ts:=hF.cons h1.ne
  cases h2 with
  | behLim h3 => subst h3;exact rth_notlim rb g ws w ts h1
  | behOk h3 h4 => exact rth_not rb g ws o w ts _ _ h3 h1 (IH .thing _ _ _ h4 hs2 hF2 trivial (by omega) (by simp only [Job.wt,List.length_cons];omega)) rfl
  | behBad h3 h4 => exact rth_not rb g ws o w ts _ _ h3 h1 (IH .thing _ _ _ h4 hs2 hF2 trivial (by omega) (by simp only [Job.wt,List.length_cons];omega)) rfl
 | @par _ w ts _ h1 h2 =>
  have hs2 : ts <:+ ws:=(suf_at hs).2.2
  have hF2 : Fin ts:=hF.cons h1.ne
  cases h2 with
  | wthLim h3 => subst h3;exact rth_parlim rb g ws w ts h1
  | wthOk h3 h4 h5 => exact rth_par rb g ws o w ts _ _ h3 h1 (IH (.expr 1) _ _ _ h4 hs2 hF2 (by simp [Job.may]) (by omega) (by simp only [Job.wt,List.length_cons];omega)) (.inl ⟨h5,rfl⟩)
  | wthNo h3 h4 h5 => exact rth_par rb g ws o w ts _ _ h3 h1 (IH (.expr 1) _ _ _ h4 hs2 hF2 (by simp [Job.may]) (by omega) (by simp only [Job.wt,List.length_cons];omega)) (.inr ⟨h5,rfl⟩)
  | wthBad h3 h4 => exact rth_par rb g ws o w ts _ _ h3 h1 (IH (.expr 1) _ _ _ h4 hs2 hF2 (by simp [Job.may]) (by omega) (by simp only [Job.wt,List.length_cons];omega)) rfl
 | @name _ w ts _ h1 h2 h3 =>
  have hm : Job.may .nam (w :: ts):=by rintro w' t' e;cases e;exact h1
  exact rth_name rb g ws o w ts _ h1 h2 (rnam_step rb g ws o _ _ (fun j o ts r a b c d e f => IH j o ts r a b c d e (by omega)) h3 hs hF hm ho)
 | @stray _ w ts h1 =>
  obtain ⟨h2,h3,h4⟩:=h1
  have hsg : ¬ Sg w [45] ∧ ¬ Sg w [33] ∧ ¬ Sg w [40]:=⟨fun e => (h4 e.1).1 e.2,fun e => (h4 e.1).2.1 e.2,fun e => (h4 e.1).2.2 e.2⟩
  by_cases hk : w.k = 0
  · exact rth_strayK rb g ws o w ts hk (h3 hk).1 h2 hsg (fun e => (h3 hk).2.1 e.2) (fun e => (h3 hk).2.2 e.2)
  · exact rth_strayN rb g ws o w ts hk h2 hsg (fun e => hk e.1) (fun e => hk e.1)
end Go.Proofs.Ytbmmjomcjlpnlaa
