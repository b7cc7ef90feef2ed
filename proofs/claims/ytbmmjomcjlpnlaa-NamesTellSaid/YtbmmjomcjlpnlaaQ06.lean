/- Joined texts: Rpar Gl Fn Eqv SameR ShF Txt ShR ShW Fit Wt ShX Tx Wr Small Ln Sw CpB CpL Km CpP CpQ CpE CpX CpS CpT CpF: lemmas for the law; each says its own conditions. -/
import Derived.Test.YtbmmjomcjlpnlaaQ05
import Derived.Test.YtbmmjomcjlpnlaaQ01
import Derived.Deep.RegionWith
import Derived.Deep.Cut
import Derived.Lib.FrozenHead
import Derived.Lib.FrozenHead2
import Derived.Lib.OthersKept
import Derived.Deep.DeepMust
import Derived.Lib.Builder
import Derived.Laws.Externs
import Derived.Lib.ItoaMem
import Derived.Laws.MakeOwn
import Derived.Lib.SliceRun
import Derived.Maps.OwnSet
set_option linter.unusedSimpArgs false
set_option linter.unusedVariables false
set_option maxRecDepth 100000
set_option maxHeartbeats 8000000
open Go.Lib (hid)
namespace Go.Proofs.Ytbmmjomcjlpnlaa
open Go Go.RowKit
theorem PRow.form {B : Nat} {W : World} {l : List Pm} {v : Value} (h : PRow B W l v) : ∃ p c,v = .slice p l.length c:=by
 rcases h.2 with ⟨h1,h2⟩ | ⟨g,cap,cur,h1,_⟩
 · exact ⟨none,0,by rw [h1,h2]⟩
 · exact ⟨_,_,h1⟩
theorem own_fr {T : TypeId} {k n B rb : Nat} {W X : World} {v : Value} {xs : List Value} (h : W.ownsRow B T k v n xs) (hf : Fr (some rb) W X) (hr : rb < B) : X.ownsRow B T k v n xs:=by
 refine h.kept (row:=some rb) hf ?_
 right
 intro e
 have:=h.lt _ e
 omega
theorem pars_bad (n k : Nat) (c : Int) (b : Nat) : parsF n k (.bad c b) = ([],.bad c b):=by
 cases n <;> simp [parsF,RS.good]
theorem Fr.trans_ {rb : Nat} {W X Y : World} (h : Fr (some rb) W X) (k : Fr (some rb) X Y) : Fr (some rb) W Y:=h.step k
theorem name_bad (c : Int) (b : Nat) : nameF (.bad c b) = (([],0),.bad c b):=rfl
theorem kind_bad (c : Int) (b : Nat) : kindF (.bad c b) = ((false,false),.bad c b):=rfl
def slen : Value → Nat | .slice _ l _ => l | _ => 0
theorem r4_limit6 {r4 rb g cap : Nat} {ws : List Wd} {d : Int} {p0 p1 p2 p3 : Value} {W : World} {σ : RS} (S : Hid (A4 W r4 rb g cap ws d p0 p1 p2 p3 σ)) (n : Nat) :
 Calls Try.prog 46 #[.pointer (some ⟨r4,0,none⟩),.int .i64 n,.int .i64 6] W fun e w' => e = .returned (.tuple #[]) ∧ A4 w' r4 rb g cap ws d p0 p1 p2 p3 (limF n 6 σ) ∧ Fr (some rb) W w':=r4_limit S n 6
theorem is_ok {σ : RS} {t : List UInt8} (h : σ.is t = true) : ∃ y r,σ = .ok (y :: r):=by
 cases σ with
 | bad c b => cases h
 | ok ts =>
  cases ts with
  | nil => cases h
  | cons y r => exact ⟨y,r,rfl⟩
theorem r4_parNone {r4 rb g cap : Nat} {ws : List Wd} {d : Int} {p0 p1 p2 p3 : Value} {W : World} {σ : RS} {x : Wd} {tt : List Wd} (S : Hid (A4 W r4 rb g cap ws d p0 p1 p2 p3 σ)) (hn : Hid (σ.need (⟨#[40]⟩ : ByteArray).data.toList = .ok (x :: tt))) (hb : Hid ((RS.ok (x :: tt)).is (⟨#[41]⟩ : ByteArray).data.toList = true)) :
 Calls Try.prog 65 #[.pointer (some ⟨r4,0,none⟩)] W fun e w' => e = .returned (.slice none 0 0) ∧ A4 w' r4 rb g cap ws d p0 p1 p2 p3 (.ok tt) ∧ Fr (some rb) W w':=by
 have hx3:=hid (RS.is_ne3 hb.out)
 go_enter Try.func65,Try.ntmps65
 go_wp2_with (first
  | (go_at_call 48;(with_reducible refine (r4_need S _ _ hn).mono ?_);rintro e1 w1 ⟨rfl,hs1,hf1⟩;have S1:=hid hs1)
  | (go_at_call 45;(with_reducible refine (r4_is S1 _ true hb).mono ?_);rintro e2 w2 ⟨rfl,hb2⟩;have S3:=hid (S1.out.stay hb2);obtain ⟨i,a,R0,h5,h6,h7,_⟩:=S3.out.st.ok_cells S3.out.env;obtain ⟨m0,_,_,_,_,_⟩:=S3.out.at4.cells;obtain ⟨q0,q1,q2,q3,q4⟩:=R0.rd.cells;have hl4:=S3.out.at4.lt;have hlr:=R0.rd.lt;have hfr:=R0.rd.frozen 1))
 go_ret
 have F9 : Fr (some rb) w2 (w2.setCell ⟨rb,1,none⟩ (.int .i64 ((i : Int) + 1))):=(Fr.refl _ _).set (.inl rfl) _ _
 exact ⟨rfl,S3.out.fr F9 (st_adv S3.out.st R0 hx3.out h5),(hf1.stepB hb2).step F9⟩
theorem r4_parSome {r4 rb g cap : Nat} {ws : List Wd} {d : Int} {p0 p1 p2 p3 : Value} {W : World} {σ τ : RS} (S : Hid (A4 W r4 rb g cap ws d p0 p1 p2 p3 σ)) (hn : Hid (σ.need (⟨#[40]⟩ : ByteArray).data.toList = τ)) (hb : Hid (τ.is (⟨#[41]⟩ : ByteArray).data.toList = false)) (R : List Pm × RS) (hR : Hid (parsF 8 0 τ = R)) (τ' : RS) (hτ : Hid (R.2.need (⟨#[41]⟩ : ByteArray).data.toList = τ')) :
 Calls Try.prog 65 #[.pointer (some ⟨r4,0,none⟩)] W fun e w' => (∃ p c,e = .returned (.slice p R.1.length c) ∧ PRow W.heap.size w' R.1 (.slice p R.1.length c)) ∧ A4 w' r4 rb g cap ws d p0 p1 p2 p3 τ' ∧ Fr (some rb) W w':=by
 obtain ⟨q4l,qbl,qgl⟩:=S.out.blk
 have hfew:=S.out.env.few
 obtain ⟨i0,hinf,hzi0,hzi1,hzi2⟩:=info_parts infoPm
 go_enter Try.func65,Try.ntmps65
 go_wp2_with (first
  | (go_at_call 48;(with_reducible refine (r4_need S _ _ hn).mono ?_);rintro e1 w1 ⟨rfl,hs1,hf1⟩;have S1:=hid hs1)
  | (go_at_call 45;(with_reducible refine (r4_is S1 _ false hb).mono ?_);rintro e2 w2 ⟨rfl,hb2⟩;have S3:=hid (S1.out.stay hb2)))
 have F2 : Fr (some rb) W w2:=hf1.stepB hb2
 go_loopw [3] (fun v0 wr => ∃ v acc σ' m,v = v0 ∧ A4 wr r4 rb g cap ws d p0 p1 p2 p3 σ' ∧ Fr (some rb) W wr ∧ PRow W.heap.size wr acc v ∧ R = (acc ++ (parsF m acc.length σ').1,(parsF m acc.length σ').2) ∧ acc.length + m = 8 ∧ acc.length ≤ 6) (fun v0 _ => 8 - slen v0)
 case atStart => exact ⟨_,[],τ,8,rfl,S3.out,F2,World.ownsRow_nil w2 W.heap.size _ 3,by simp [hR.out],rfl,by simp⟩
 case round =>
  obtain ⟨v,acc,σ',m,rfl,hS,hF,hG,hRR,hm,h6⟩:=hrel
  clear S1 S3 hs1 hf1 hb2 F2 hn hb hR
  have S1:=hid hS
  obtain ⟨m',rfl⟩ : ∃ m',m = m' + 1:=⟨m - 1,by omega⟩
  have hzr:=Fr.size hF
  cases σ' with
  | bad c b =>
   rw [pars_bad] at hRR
   simp only [List.append_nil] at hRR
   subst hRR
   obtain ⟨p,k,rfl⟩:=PRow.form hG
   have HG:=hid hG
   clear hS hG
   go_wp2_with (first
    | (go_at_call 23;(with_reducible refine (r4_ok S1 false rfl).mono ?_);rintro e1 w3 ⟨rfl,hb1⟩;have S2:=hid (S1.out.stay hb1))
    | (go_at_call 48;(with_reducible refine (r4_need S2 _ _ hτ).mono ?_);rintro e2 w4 ⟨rfl,hs2,hf2⟩))
   go_ret
   exact ⟨⟨p,k,rfl,own_fr (own_below HG.out hb1) hf2 qbl⟩,hs2,(hF.stepB hb1).step hf2⟩
  | ok ts =>
   obtain ⟨⟨⟨tr,sc⟩,τ1⟩,h1⟩ : ∃ q,kindF (limF acc.length 6 (.ok ts)) = q:=⟨_,rfl⟩
   obtain ⟨⟨⟨nm,a⟩,τ2⟩,h2⟩ : ∃ q,nameF τ1 = q:=⟨_,rfl⟩
   have HLT : Hid (∀ j,v.ownBlock = some j → W.heap.size ≤ j ∧ j < wr.heap.size):=hid hG.lt
   have hla : acc.length ≤ 1000000:=by omega
   cases hc : τ2.is [44] with
   | true =>
    have hRe : R = ((acc ++ [(⟨nm,tr,sc⟩ : Pm)]) ++ (parsF m' (acc.length + 1) τ2.adv).1,(parsF m' (acc.length + 1) τ2.adv).2):=by
     rw [hRR]
     simp [parsF,RS.good,h1,h2,hc]
    have h5 : acc.length ≤ 5:=by
     rcases Nat.lt_or_ge acc.length 6 with h | h
     · omega
     · exfalso
       obtain ⟨y,r,rfl⟩:=hS.st.2.1.ne
       simp only [limF,RS.fail,if_pos h] at h1
       rw [kind_bad] at h1
       cases h1
       rw [name_bad] at h2
       cases h2
       cases hc
    have HRE:=hid hRe
    have H5:=hid h5
    obtain ⟨p,k,rfl⟩:=PRow.form hG
    have HG:=hid hG
    have H1:=hid h1
    have H2:=hid h2
    have HC : Hid (τ2.is (⟨#[44]⟩ : ByteArray).data.toList = true):=hid hc
    clear hS hG hRR h1 h2 hc hRe h5
    go_upto_region 10 with (first
     | (go_at_call 23;(with_reducible refine (r4_ok S1 true rfl).mono ?_);rintro e1 w3 ⟨rfl,hb1⟩;have S2:=hid (S1.out.stay hb1))
     | (go_at_call 46;(with_reducible refine (r4_limit6 S2 acc.length).mono ?_);rintro e2 w4 ⟨rfl,hs4,hf4⟩;have hz4 : wr.heap.size ≤ w4.heap.size:=Nat.le_trans hb1.size (Fr.size hf4))
     | (go_at_call 66;(with_reducible refine (r4_kind (hid hs4) H1.out).mono ?_);rintro e3 w5 ⟨rfl,hs5,hf5⟩;have hz5:=Fr.size hf5;have PB5:=PBlk.new (X:=w5) (s:=⟨#[]⟩) (tr:=tr) (sc:=sc) rfl;have S5:=hid (hs5.alloc (.cells #[.string ⟨#[]⟩,.bool tr,.bool sc] 137)))
     | (go_at_call 47;(with_reducible refine (r4_name S5 H2.out).mono ?_);rintro e4 w6 ⟨rfl,hs6,hf6⟩;have hz6:=Fr.size hf6;(try simp only [World.size_alloc] at hz6)))
    refine name_world ?_
    intro w7 hw7
    have PB7 : PBlk w7 w5.heap.size ⟨#[]⟩ tr sc:=by (rw [hw7];exact (PB5.fr hf6 (by omega)).alloc _)
    have TB7 : TBlk w7 w6.heap.size (bstr nm) a:=by (rw [hw7];exact TBlk.new rfl)
    have S7 : Hid (A4 w7 r4 rb g cap ws d p0 p1 p2 p3 τ2):=hid (by (rw [hw7];exact hs6.alloc _))
    have F7 : Fr (some rb) wr w7:=by (rw [hw7];exact (((((Fr.of hb1).step hf4).step hf5).alloc _).step hf6).alloc _)
    have hz7 : w5.heap.size < w7.heap.size ∧ w7.heap.size = w6.heap.size + 1:=by (rw [hw7];simp;omega)
    obtain ⟨pl7,pc0,pc1,pc2,pf0,pf1,pf2⟩:=PB7.facts
    obtain ⟨tl7,tc0,tc1,tf0,tf1⟩:=TB7.facts
    clear hw7
    go_upto_region 11 with (fail)
    refine name_world ?_
    intro w8 hw8
    have PB8 : PBlk w8 w5.heap.size (bstr nm) tr sc:=by (rw [hw8];exact PB7.set0 _)
    have F8 : Fr (some rb) wr w8:=by (rw [hw8];exact F7.set (.inr (by omega)) _ _)
    have S8 : Hid (A4 w8 r4 rb g cap ws d p0 p1 p2 p3 τ2):=hid (by (rw [hw8];exact S7.out.setO (by omega) (by omega) (by omega) _ _))
    have hz8 : w8.heap.size = w7.heap.size:=by (rw [hw8];simp)
    have G8:=own_fr HG.out F8 qbl
    have hn9 : (w8.alloc (.cells #[.string (bstr nm),.bool tr,.bool sc] 137)).heap[w6.heap.size + 1]? = some (.cells #[.string (bstr nm),.bool tr,.bool sc] 137):=by
     have:=heap_alloc_new w8 (.cells #[.string (bstr nm),.bool tr,.bool sc] 137)
     rwa [hz8,hz7.2] at this
    obtain ⟨ul8,uc0,uc1,uc2,_⟩:=PB8.facts
    clear hw8 pc0 pc1 pc2 pf0 pf1 pf2 tc0 tc1 tf0 tf1
    have hown : ∀ k',k' < W.heap.size → some k' ≠ (Value.slice p acc.length k).ownBlock:=fun k' hk e => by (have:=(HLT.out k' e.symm).1;omega)
    go_wp2_with (first
     | (at_builtin;refine wpList_append_lies _ rfl (.tmp 34) (.tmp 36) 59 rfl W.heap.size 137 i0 _ 3 24 Try.underlying59 hinf hzi0 hzi1 hzi2 rfl (by decide) (.slice p acc.length k) acc.length (acc.flatMap pmCells) rfl (own_below G8 ((Below.refl _ _).alloc (Nat.le_refl _) _)) ⟨_,0,none⟩ 1 1 [.string (bstr nm),.bool tr,.bool sc] rfl rfl (World.news_of_block hn9) raw3_one (by decide) (by unfold maxLen;omega) (by omega) (by simp;omega) _ rfl ?_;intro g4 cap4 w9 hown9 hgrow9 hor9 hlt9;have hgr9 : (w8.alloc (.cells #[.string (bstr nm),.bool tr,.bool sc] 137)).grownBy w9 (Value.ownBlock (.slice p acc.length k)):=hgrow9;have S9:=hid ((S8.out.alloc (.cells #[.string (bstr nm),.bool tr,.bool sc] 137)).grow hgr9 (hown _ q4l) (hown _ qbl) (hown _ qgl));have F9 : Fr (some rb) W w9:=Fr.stepOwn (v:=(.slice p acc.length k)) ((Fr.trans_ hF F8).alloc _) hgr9 (fun j e => (HLT.out j e).1))
     | (go_at_call 45;(with_reducible refine (r4_is S9 _ true HC).mono ?_);rintro e7 w10 ⟨rfl,hb10⟩;have S10:=hid (S9.out.stay hb10);obtain ⟨y,r,hyr⟩:=is_ok (HC.out);have S11 : Hid (A4 w10 r4 rb g cap ws d p0 p1 p2 p3 (.ok (y :: r))):=hid (hyr ▸ S10.out);obtain ⟨i,a9,R0,h5,h6',h7,_⟩:=S11.out.st.ok_cells S11.out.env;obtain ⟨m0,_,_,_,_,_⟩:=S11.out.at4.cells;obtain ⟨q0,q1,q2,q3,q4⟩:=R0.rd.cells;have hl4:=S11.out.at4.lt;have hlr:=R0.rd.lt;have hfr:=R0.rd.frozen 1))
    have hx3 : y.k ≠ 3:=RS.is_ne3 (t:=[44]) (by (have:=HC.out;rw [hyr] at this;exact this))
    have F10 : Fr (some rb) w10 (w10.setCell ⟨rb,1,none⟩ (.int .i64 ((i : Int) + 1))):=(Fr.refl _ _).set (.inl rfl) _ _
    have SE:=S11.out.fr F10 (st_adv S11.out.st R0 hx3 h5)
    have hadv : τ2.adv = .ok r:=by (rw [hyr];rfl)
    have GE:=own_fr (own_below hown9 hb10) F10 qbl
    go_roundw
    case rel =>
     refine ⟨_,acc ++ [⟨nm,tr,sc⟩],.ok r,m',rfl,SE,(F9.stepB hb10).step F10,?_,?_,?_,?_⟩
     · simpa [PRow,pmCells] using GE
     · rw [HRE.out,hadv]
       simp
     · simp
       omega
     · have:=H5.out
       simp
       omega
    case measure =>
     have:=H5.out
     simp [slen]
     omega
   | false =>
    have hRe : R = (acc ++ [(⟨nm,tr,sc⟩ : Pm)],τ2):=by
     rw [hRR]
     simp [parsF,RS.good,h1,h2,hc]
    subst hRe
    obtain ⟨p,k,rfl⟩:=PRow.form hG
    have HG:=hid hG
    have H1:=hid h1
    have H2:=hid h2
    have HC : Hid (τ2.is (⟨#[44]⟩ : ByteArray).data.toList = false):=hid hc
    clear hS hG hRR h1 h2 hc
    go_upto_region 10 with (first
     | (go_at_call 23;(with_reducible refine (r4_ok S1 true rfl).mono ?_);rintro e1 w3 ⟨rfl,hb1⟩;have S2:=hid (S1.out.stay hb1))
     | (go_at_call 46;(with_reducible refine (r4_limit6 S2 acc.length).mono ?_);rintro e2 w4 ⟨rfl,hs4,hf4⟩;have hz4 : wr.heap.size ≤ w4.heap.size:=Nat.le_trans hb1.size (Fr.size hf4))
     | (go_at_call 66;(with_reducible refine (r4_kind (hid hs4) H1.out).mono ?_);rintro e3 w5 ⟨rfl,hs5,hf5⟩;have hz5:=Fr.size hf5;have PB5:=PBlk.new (X:=w5) (s:=⟨#[]⟩) (tr:=tr) (sc:=sc) rfl;have S5:=hid (hs5.alloc (.cells #[.string ⟨#[]⟩,.bool tr,.bool sc] 137)))
     | (go_at_call 47;(with_reducible refine (r4_name S5 H2.out).mono ?_);rintro e4 w6 ⟨rfl,hs6,hf6⟩;have hz6:=Fr.size hf6;(try simp only [World.size_alloc] at hz6)))
    refine name_world ?_
    intro w7 hw7
    have PB7 : PBlk w7 w5.heap.size ⟨#[]⟩ tr sc:=by (rw [hw7];exact (PB5.fr hf6 (by omega)).alloc _)
    have TB7 : TBlk w7 w6.heap.size (bstr nm) a:=by (rw [hw7];exact TBlk.new rfl)
    have S7 : Hid (A4 w7 r4 rb g cap ws d p0 p1 p2 p3 τ2):=hid (by (rw [hw7];exact hs6.alloc _))
    have F7 : Fr (some rb) wr w7:=by (rw [hw7];exact (((((Fr.of hb1).step hf4).step hf5).alloc _).step hf6).alloc _)
    have hz7 : w5.heap.size < w7.heap.size ∧ w7.heap.size = w6.heap.size + 1:=by (rw [hw7];simp;omega)
    obtain ⟨pl7,pc0,pc1,pc2,pf0,pf1,pf2⟩:=PB7.facts
    obtain ⟨tl7,tc0,tc1,tf0,tf1⟩:=TB7.facts
    clear hw7
    go_upto_region 11 with (fail)
    refine name_world ?_
    intro w8 hw8
    have PB8 : PBlk w8 w5.heap.size (bstr nm) tr sc:=by (rw [hw8];exact PB7.set0 _)
    have F8 : Fr (some rb) wr w8:=by (rw [hw8];exact F7.set (.inr (by omega)) _ _)
    have S8 : Hid (A4 w8 r4 rb g cap ws d p0 p1 p2 p3 τ2):=hid (by (rw [hw8];exact S7.out.setO (by omega) (by omega) (by omega) _ _))
    have hz8 : w8.heap.size = w7.heap.size:=by (rw [hw8];simp)
    have G8:=own_fr HG.out F8 qbl
    have hn9 : (w8.alloc (.cells #[.string (bstr nm),.bool tr,.bool sc] 137)).heap[w6.heap.size + 1]? = some (.cells #[.string (bstr nm),.bool tr,.bool sc] 137):=by
     have:=heap_alloc_new w8 (.cells #[.string (bstr nm),.bool tr,.bool sc] 137)
     rwa [hz8,hz7.2] at this
    obtain ⟨ul8,uc0,uc1,uc2,_⟩:=PB8.facts
    clear hw8 pc0 pc1 pc2 pf0 pf1 pf2 tc0 tc1 tf0 tf1
    have hown : ∀ k',k' < W.heap.size → some k' ≠ (Value.slice p acc.length k).ownBlock:=fun k' hk e => by (have:=(HLT.out k' e.symm).1;omega)
    go_wp2_with (first
     | (at_builtin;refine wpList_append_lies _ rfl (.tmp 34) (.tmp 36) 59 rfl W.heap.size 137 i0 _ 3 24 Try.underlying59 hinf hzi0 hzi1 hzi2 rfl (by decide) (.slice p acc.length k) acc.length (acc.flatMap pmCells) rfl (own_below G8 ((Below.refl _ _).alloc (Nat.le_refl _) _)) ⟨_,0,none⟩ 1 1 [.string (bstr nm),.bool tr,.bool sc] rfl rfl (World.news_of_block hn9) raw3_one (by decide) (by unfold maxLen;omega) (by omega) (by simp;omega) _ rfl ?_;intro g4 cap4 w9 hown9 hgrow9 hor9 hlt9;have hgr9 : (w8.alloc (.cells #[.string (bstr nm),.bool tr,.bool sc] 137)).grownBy w9 (Value.ownBlock (.slice p acc.length k)):=hgrow9;have S9:=hid ((S8.out.alloc (.cells #[.string (bstr nm),.bool tr,.bool sc] 137)).grow hgr9 (hown _ q4l) (hown _ qbl) (hown _ qgl));have F9 : Fr (some rb) W w9:=Fr.stepOwn (v:=(.slice p acc.length k)) ((Fr.trans_ hF F8).alloc _) hgr9 (fun j e => (HLT.out j e).1))
     | (go_at_call 45;(with_reducible refine (r4_is S9 _ false HC).mono ?_);rintro e7 w10 ⟨rfl,hb10⟩;have S10:=hid (S9.out.stay hb10))
     | (go_at_call 48;(with_reducible refine (r4_need S10 _ _ hτ).mono ?_);rintro e8 w11 ⟨rfl,hs11,hf11⟩))
    go_ret
    refine ⟨⟨some ⟨g4,0,none⟩,cap4,by simp,?_⟩,hs11,(F9.stepB hb10).step hf11⟩
    have h:=own_fr (own_below hown9 hb10) hf11 qbl
    simpa [PRow,pmCells] using h
theorem r4_params {r4 rb g cap : Nat} {ws : List Wd} {d : Int} {p0 p1 p2 p3 : Value} {W : World} {σ : RS} (S : Hid (A4 W r4 rb g cap ws d p0 p1 p2 p3 σ)) :
 Calls Try.prog 65 #[.pointer (some ⟨r4,0,none⟩)] W fun e w' => (∃ p c,e = .returned (.slice p (paramsF σ).1.length c) ∧ IsPl (fun g => W.heap.size ≤ g) 137 3 pmCells w' (paramsF σ).1 (.slice p (paramsF σ).1.length c)) ∧ A4 w' r4 rb g cap ws d p0 p1 p2 p3 (paramsF σ).2 ∧ Fr (some rb) W w':=by
 obtain ⟨τ,hτ⟩ : ∃ τ,σ.need [40] = τ:=⟨_,rfl⟩
 cases hb : τ.is [41] with
 | true =>
  obtain ⟨x,tt,rfl⟩:=is_ok hb
  have e : paramsF σ = ([],.ok tt):=by simp [paramsF,hτ,hb,RS.adv]
  rw [e]
  exact (r4_parNone S (hid hτ) (hid hb)).mono fun e w' ⟨h1,h2,h3⟩ => ⟨⟨none,0,h1,.nil _ _⟩,h2,h3⟩
 | false =>
  have e : paramsF σ = ((parsF 8 0 τ).1,(parsF 8 0 τ).2.need [41]):=by simp [paramsF,hτ,hb]
  rw [e]
  exact (r4_parSome S (hid hτ) (hid hb) _ (hid rfl) _ (hid rfl)).mono fun e w' ⟨⟨p,c,h1,h2⟩,h3,h4⟩ => ⟨⟨p,c,h1,.own (fun _ => rfl) h2⟩,h3,h4⟩
end Go.Proofs.Ytbmmjomcjlpnlaa
namespace Go.Proofs.Ytbmmjomcjlpnlaa
open Go Go.RowKit
def GBlk (X : World) (n : Nat) (a : Int) (nm : ByteArray) (tr sc : Bool) (ln : Int) (yy : ByteArray) : Prop:=X.heap[n]? = some (.cells #[.int .i64 a,.string nm,.bool tr,.bool sc,.int .i64 ln,.string yy] 56 (0,0))
section
variable {X Y : World} {n : Nat} {a : Int} {nm : ByteArray} {tr sc : Bool} {ln : Int} {yy : ByteArray}
theorem GBlk.facts (h : GBlk X n a nm tr sc ln yy) : n < X.heap.size ∧ (X.cell? ⟨n,0,none⟩ = some (.int .i64 a) ∧ X.cell? ⟨n,1,none⟩ = some (.string nm) ∧ X.cell? ⟨n,2,none⟩ = some (.bool tr) ∧ X.cell? ⟨n,3,none⟩ = some (.bool sc) ∧ X.cell? ⟨n,4,none⟩ = some (.int .i64 ln) ∧ X.cell? ⟨n,5,none⟩ = some (.string yy)) ∧ (X.frozen? ⟨n,0,none⟩ = false ∧ X.frozen? ⟨n,1,none⟩ = false ∧ X.frozen? ⟨n,2,none⟩ = false ∧ X.frozen? ⟨n,3,none⟩ = false ∧ X.frozen? ⟨n,4,none⟩ = false ∧ X.frozen? ⟨n,5,none⟩ = false):=by
 refine ⟨(Array.getElem?_eq_some_iff.1 h).1,⟨?_,?_,?_,?_,?_,?_⟩,⟨frozen_of_row X n _ _ _ h,frozen_of_row X n _ _ _ h,frozen_of_row X n _ _ _ h,frozen_of_row X n _ _ _ h,frozen_of_row X n _ _ _ h,frozen_of_row X n _ _ _ h⟩⟩ <;> rw [cell_of_row _ _ _ _ _ _ h] <;> rfl
theorem GBlk.alloc (h : GBlk X n a nm tr sc ln yy) (o : Obj) : GBlk (X.alloc o) n a nm tr sc ln yy:=(Below.heap_alloc X o n (Array.getElem?_eq_some_iff.1 h).1).trans h
theorem GBlk.stay (h : GBlk X n a nm tr sc ln yy) (hf : Below X.heap.size X Y) : GBlk Y n a nm tr sc ln yy:=(hf.block n (Array.getElem?_eq_some_iff.1 h).1).trans h
theorem GBlk.fr {rb : Nat} (h : GBlk X n a nm tr sc ln yy) (hf : Fr (some rb) X Y) (hne : n ≠ rb) : GBlk Y n a nm tr sc ln yy:=(hf.block (Array.getElem?_eq_some_iff.1 h).1 (by simp;exact hne)).trans h
theorem GBlk.setO (h : GBlk X n a nm tr sc ln yy) {b : Nat} (hne : n ≠ b) (o : Nat) (v : Value) : GBlk (X.setCell ⟨b,o,none⟩ v) n a nm tr sc ln yy:=(heap_setCell_other X ⟨b,o,none⟩ n v hne).trans h
theorem GBlk.set0 (h : GBlk X n a nm tr sc ln yy) (v : Int) : GBlk (X.setCell ⟨n,0,none⟩ (.int .i64 v)) n v nm tr sc ln yy:=heap_setCell_same X n 0 _ _ _ h
theorem GBlk.set1 (h : GBlk X n a nm tr sc ln yy) (v : ByteArray) : GBlk (X.setCell ⟨n,1,none⟩ (.string v)) n a v tr sc ln yy:=heap_setCell_same X n 1 _ _ _ h
theorem GBlk.set2 (h : GBlk X n a nm tr sc ln yy) (v : Bool) : GBlk (X.setCell ⟨n,2,none⟩ (.bool v)) n a nm v sc ln yy:=heap_setCell_same X n 2 _ _ _ h
theorem GBlk.set3 (h : GBlk X n a nm tr sc ln yy) (v : Bool) : GBlk (X.setCell ⟨n,3,none⟩ (.bool v)) n a nm tr v ln yy:=heap_setCell_same X n 3 _ _ _ h
theorem GBlk.set4 (h : GBlk X n a nm tr sc ln yy) (v : Int) : GBlk (X.setCell ⟨n,4,none⟩ (.int .i64 v)) n a nm tr sc v yy:=heap_setCell_same X n 4 _ _ _ h
theorem GBlk.set5 (h : GBlk X n a nm tr sc ln yy) (v : ByteArray) : GBlk (X.setCell ⟨n,5,none⟩ (.string v)) n a nm tr sc ln v:=heap_setCell_same X n 5 _ _ _ h
theorem GBlk.new (hn : n = X.heap.size) : GBlk (X.alloc (.cells #[.int .i64 a,.string nm,.bool tr,.bool sc,.int .i64 ln,.string yy] 56)) n a nm tr sc ln yy:=hn ▸ heap_alloc_new X _
end
def KBlk (X : World) (n : Nat) (a : Int) (nm : ByteArray) : Prop:=X.heap[n]? = some (.cells #[.int .i64 a,.string nm] 95 (0,0))
section
variable {X Y : World} {n : Nat} {a : Int} {nm : ByteArray}
theorem KBlk.facts (h : KBlk X n a nm) : n < X.heap.size ∧ (X.cell? ⟨n,0,none⟩ = some (.int .i64 a) ∧ X.cell? ⟨n,1,none⟩ = some (.string nm)) ∧ (X.frozen? ⟨n,0,none⟩ = false ∧ X.frozen? ⟨n,1,none⟩ = false):=by
 refine ⟨(Array.getElem?_eq_some_iff.1 h).1,⟨?_,?_⟩,⟨frozen_of_row X n _ _ _ h,frozen_of_row X n _ _ _ h⟩⟩ <;> rw [cell_of_row _ _ _ _ _ _ h] <;> rfl
theorem KBlk.alloc (h : KBlk X n a nm) (o : Obj) : KBlk (X.alloc o) n a nm:=(Below.heap_alloc X o n (Array.getElem?_eq_some_iff.1 h).1).trans h
theorem KBlk.stay (h : KBlk X n a nm) (hf : Below X.heap.size X Y) : KBlk Y n a nm:=(hf.block n (Array.getElem?_eq_some_iff.1 h).1).trans h
theorem KBlk.fr {rb : Nat} (h : KBlk X n a nm) (hf : Fr (some rb) X Y) (hne : n ≠ rb) : KBlk Y n a nm:=(hf.block (Array.getElem?_eq_some_iff.1 h).1 (by simp;exact hne)).trans h
theorem KBlk.setO (h : KBlk X n a nm) {b : Nat} (hne : n ≠ b) (o : Nat) (v : Value) : KBlk (X.setCell ⟨b,o,none⟩ v) n a nm:=(heap_setCell_other X ⟨b,o,none⟩ n v hne).trans h
theorem KBlk.set0 (h : KBlk X n a nm) (v : Int) : KBlk (X.setCell ⟨n,0,none⟩ (.int .i64 v)) n v nm:=heap_setCell_same X n 0 _ _ _ h
theorem KBlk.set1 (h : KBlk X n a nm) (v : ByteArray) : KBlk (X.setCell ⟨n,1,none⟩ (.string v)) n a v:=heap_setCell_same X n 1 _ _ _ h
theorem KBlk.new (hn : n = X.heap.size) : KBlk (X.alloc (.cells #[.int .i64 a,.string nm] 95)) n a nm:=hn ▸ heap_alloc_new X _
end
def glCells (x : Gl) : List Value:=[.int .i64 x.a,.string (bstr x.nm),.bool x.tr,.bool x.sc,.int .i64 x.len,.string (bstr x.by_)]
def lkCells (x : Lk) : List Value:=[.int .i64 x.a,.string (bstr x.nm)]
theorem infoGl : (Try.prog.info? 56).map (fun i => (i.zero,i.size,i.bytes)) = some (some (.agg #[.int .i64 0,.string ⟨#[]⟩,.bool false,.bool false,.int .i64 0,.string ⟨#[]⟩]),6,56):=by kernel_rfl
theorem infoLk : (Try.prog.info? 95).map (fun i => (i.zero,i.size,i.bytes)) = some (some (.agg #[.int .i64 0,.string ⟨#[]⟩]),2,24):=by kernel_rfl
theorem raw6_one {a ln : Int} {nm yy : ByteArray} {tr sc : Bool} : ∀ u ∈ ([.int .i64 a,.string nm,.bool tr,.bool sc,.int .i64 ln,.string yy] : List Value),u.oneCell' = true:=by
 intro u hu
 simp at hu
 rcases hu with rfl | rfl | rfl | rfl | rfl | rfl <;> rfl
theorem raw2_one {a : Int} {nm : ByteArray} : ∀ u ∈ ([.int .i64 a,.string nm] : List Value),u.oneCell' = true:=by
 intro u hu
 simp at hu
 rcases hu with rfl | rfl <;> rfl
def Fr3 (r4 rb : Nat) (row : Option Nat) (W X : World) : Prop:=(W.heap.size ≤ X.heap.size ∧ X.os = W.os ∧ X.tape = W.tape ∧ X.output = W.output) ∧ ∀ b,b < W.heap.size → b ≠ r4 → b ≠ rb → some b ≠ row → X.heap[b]? = W.heap[b]?
theorem Fr.grown_ {rb : Nat} {W X : World} (hf : Fr (some rb) W X) : World.grownBy W X (some rb):=hf
theorem setCell_else (W : World) (a : Addr) (v : Value) : (W.setCell a v).os = W.os ∧ (W.setCell a v).tape = W.tape ∧ (W.setCell a v).output = W.output:=⟨rfl,rfl,rfl⟩
theorem Fr3.mk_ {r4 rb : Nat} {row : Option Nat} {W X Y : World} (hf : Fr (some rb) W X) (hg : X.grownBy Y row) (o : Nat) (v : Value) : Fr3 r4 rb row W (Y.setCell ⟨r4,o,none⟩ v):=by
 have h1:=Fr.size hf
 have h2:=hg.size
 obtain ⟨e1,e2,e3⟩:=setCell_else Y ⟨r4,o,none⟩ v
 have hf':=Fr.grown_ hf
 refine ⟨⟨by simp;omega,e1.trans (hg.os.trans hf'.os),e2.trans (hg.tape.trans hf'.tape),e3.trans (hg.output.trans hf'.output)⟩,fun b hb h4 hr hrow => ?_⟩
 rw [heap_setCell_other Y ⟨r4,o,none⟩ b v h4,hg.block b (by omega) hrow]
 exact hf.block hb (by simp;exact hr)
theorem R4At.set2 {W : World} {r4 rb : Nat} {d : Int} {p0 p1 p2 p3 : Value} (h : R4At W r4 rb d p0 p1 p2 p3) (v : Value) : R4At (W.setCell ⟨r4,2,none⟩ v) r4 rb d v p1 p2 p3:=heap_setCell_same W r4 2 _ _ _ h
theorem R4At.set3 {W : World} {r4 rb : Nat} {d : Int} {p0 p1 p2 p3 : Value} (h : R4At W r4 rb d p0 p1 p2 p3) (v : Value) : R4At (W.setCell ⟨r4,3,none⟩ v) r4 rb d p0 v p2 p3:=heap_setCell_same W r4 3 _ _ _ h
theorem R4At.set4 {W : World} {r4 rb : Nat} {d : Int} {p0 p1 p2 p3 : Value} (h : R4At W r4 rb d p0 p1 p2 p3) (v : Value) : R4At (W.setCell ⟨r4,4,none⟩ v) r4 rb d p0 p1 v p3:=heap_setCell_same W r4 4 _ _ _ h
theorem R4At.set5 {W : World} {r4 rb : Nat} {d : Int} {p0 p1 p2 p3 : Value} (h : R4At W r4 rb d p0 p1 p2 p3) (v : Value) : R4At (W.setCell ⟨r4,5,none⟩ v) r4 rb d p0 p1 p2 v:=heap_setCell_same W r4 5 _ _ _ h
section
variable {W : World} {r4 rb g cap : Nat} {ws : List Wd} {d : Int} {p0 p1 p2 p3 : Value} {σ : RS}
theorem A4.set2 (S : A4 W r4 rb g cap ws d p0 p1 p2 p3 σ) (v : Value) : A4 (W.setCell ⟨r4,2,none⟩ v) r4 rb g cap ws d v p1 p2 p3 σ:=⟨S.at4.set2 v,S.st.setO (Ne.symm S.ne) _ _,S.env.setO (Ne.symm S.ng) _ _,S.ne,S.ng⟩
theorem A4.set3 (S : A4 W r4 rb g cap ws d p0 p1 p2 p3 σ) (v : Value) : A4 (W.setCell ⟨r4,3,none⟩ v) r4 rb g cap ws d p0 v p2 p3 σ:=⟨S.at4.set3 v,S.st.setO (Ne.symm S.ne) _ _,S.env.setO (Ne.symm S.ng) _ _,S.ne,S.ng⟩
theorem A4.set4 (S : A4 W r4 rb g cap ws d p0 p1 p2 p3 σ) (v : Value) : A4 (W.setCell ⟨r4,4,none⟩ v) r4 rb g cap ws d p0 p1 v p3 σ:=⟨S.at4.set4 v,S.st.setO (Ne.symm S.ne) _ _,S.env.setO (Ne.symm S.ng) _ _,S.ne,S.ng⟩
theorem A4.set5 (S : A4 W r4 rb g cap ws d p0 p1 p2 p3 σ) (v : Value) : A4 (W.setCell ⟨r4,5,none⟩ v) r4 rb g cap ws d p0 p1 p2 v σ:=⟨S.at4.set5 v,S.st.setO (Ne.symm S.ne) _ _,S.env.setO (Ne.symm S.ng) _ _,S.ne,S.ng⟩
end
end Go.Proofs.Ytbmmjomcjlpnlaa
namespace Go.Proofs.Ytbmmjomcjlpnlaa
open Go Go.RowKit
theorem infoFn : (Try.prog.info? 65).map (fun i => (i.zero,i.size,i.bytes)) = some (some (.agg #[.int .i64 0,.string ⟨#[]⟩,.slice none 0 0,.bool false,.bool false,.slice none 0 0,.int .i64 0,.int .i64 0,.int .i64 0,.string ⟨#[]⟩,.slice none 0 0,.int .i64 0]),12,152):=by kernel_rfl
def FBlk (X : World) (b : Nat) (a : Int) (nm : ByteArray) (pv : Value) (tr : Bool) (sc : Bool) (bv : Value) (k : Int) (q : Int) (n : Int) (s : ByteArray) (kv : Value) (xa : Int) : Prop:=X.heap[b]? = some (.cells #[.int .i64 a,.string nm,pv,.bool tr,.bool sc,bv,.int .i64 k,.int .i64 q,.int .i64 n,.string s,kv,.int .i64 xa] 65 (0,0))
section
variable {X Y : World} {b : Nat} {a : Int} {nm : ByteArray} {pv : Value} {tr : Bool} {sc : Bool} {bv : Value} {k : Int} {q : Int} {n : Int} {s : ByteArray} {kv : Value} {xa : Int}
theorem FBlk.facts (h : FBlk X b a nm pv tr sc bv k q n s kv xa) : b < X.heap.size ∧ (X.cell? ⟨b,0,none⟩ = some (.int .i64 a) ∧ X.cell? ⟨b,1,none⟩ = some (.string nm) ∧ X.cell? ⟨b,2,none⟩ = some (pv) ∧ X.cell? ⟨b,3,none⟩ = some (.bool tr) ∧ X.cell? ⟨b,4,none⟩ = some (.bool sc) ∧ X.cell? ⟨b,5,none⟩ = some (bv) ∧ X.cell? ⟨b,6,none⟩ = some (.int .i64 k) ∧ X.cell? ⟨b,7,none⟩ = some (.int .i64 q) ∧ X.cell? ⟨b,8,none⟩ = some (.int .i64 n) ∧ X.cell? ⟨b,9,none⟩ = some (.string s) ∧ X.cell? ⟨b,10,none⟩ = some (kv) ∧ X.cell? ⟨b,11,none⟩ = some (.int .i64 xa)) ∧ (X.frozen? ⟨b,0,none⟩ = false ∧ X.frozen? ⟨b,1,none⟩ = false ∧ X.frozen? ⟨b,2,none⟩ = false ∧ X.frozen? ⟨b,3,none⟩ = false ∧ X.frozen? ⟨b,4,none⟩ = false ∧ X.frozen? ⟨b,5,none⟩ = false ∧ X.frozen? ⟨b,6,none⟩ = false ∧ X.frozen? ⟨b,7,none⟩ = false ∧ X.frozen? ⟨b,8,none⟩ = false ∧ X.frozen? ⟨b,9,none⟩ = false ∧ X.frozen? ⟨b,10,none⟩ = false ∧ X.frozen? ⟨b,11,none⟩ = false):=by
 refine ⟨(Array.getElem?_eq_some_iff.1 h).1,⟨?_,?_,?_,?_,?_,?_,?_,?_,?_,?_,?_,?_⟩,frozen_of_row X b _ _ _ h,frozen_of_row X b _ _ _ h,frozen_of_row X b _ _ _ h,frozen_of_row X b _ _ _ h,frozen_of_row X b _ _ _ h,frozen_of_row X b _ _ _ h,frozen_of_row X b _ _ _ h,frozen_of_row X b _ _ _ h,frozen_of_row X b _ _ _ h,frozen_of_row X b _ _ _ h,frozen_of_row X b _ _ _ h,frozen_of_row X b _ _ _ h⟩ <;> rw [cell_of_row _ _ _ _ _ _ h] <;> rfl
theorem FBlk.alloc (h : FBlk X b a nm pv tr sc bv k q n s kv xa) (o : Obj) : FBlk (X.alloc o) b a nm pv tr sc bv k q n s kv xa:=(Below.heap_alloc X o b (Array.getElem?_eq_some_iff.1 h).1).trans h
theorem FBlk.fr {rb : Nat} (h : FBlk X b a nm pv tr sc bv k q n s kv xa) (hf : Fr (some rb) X Y) (hne : b ≠ rb) : FBlk Y b a nm pv tr sc bv k q n s kv xa:=(hf.block (Array.getElem?_eq_some_iff.1 h).1 (by simp;exact hne)).trans h
theorem FBlk.setO (h : FBlk X b a nm pv tr sc bv k q n s kv xa) {c : Nat} (hne : b ≠ c) (o : Nat) (v : Value) : FBlk (X.setCell ⟨c,o,none⟩ v) b a nm pv tr sc bv k q n s kv xa:=(heap_setCell_other X ⟨c,o,none⟩ b v hne).trans h
theorem FBlk.set0 (h : FBlk X b a nm pv tr sc bv k q n s kv xa) (v : Int) : FBlk (X.setCell ⟨b,0,none⟩ (.int .i64 v)) b v nm pv tr sc bv k q n s kv xa:=heap_setCell_same X b 0 _ _ _ h
theorem FBlk.set1 (h : FBlk X b a nm pv tr sc bv k q n s kv xa) (v : ByteArray) : FBlk (X.setCell ⟨b,1,none⟩ (.string v)) b a v pv tr sc bv k q n s kv xa:=heap_setCell_same X b 1 _ _ _ h
theorem FBlk.set2 (h : FBlk X b a nm pv tr sc bv k q n s kv xa) (v : Value) : FBlk (X.setCell ⟨b,2,none⟩ v) b a nm v tr sc bv k q n s kv xa:=heap_setCell_same X b 2 _ _ _ h
theorem FBlk.set3 (h : FBlk X b a nm pv tr sc bv k q n s kv xa) (v : Bool) : FBlk (X.setCell ⟨b,3,none⟩ (.bool v)) b a nm pv v sc bv k q n s kv xa:=heap_setCell_same X b 3 _ _ _ h
theorem FBlk.set4 (h : FBlk X b a nm pv tr sc bv k q n s kv xa) (v : Bool) : FBlk (X.setCell ⟨b,4,none⟩ (.bool v)) b a nm pv tr v bv k q n s kv xa:=heap_setCell_same X b 4 _ _ _ h
theorem FBlk.set5 (h : FBlk X b a nm pv tr sc bv k q n s kv xa) (v : Value) : FBlk (X.setCell ⟨b,5,none⟩ v) b a nm pv tr sc v k q n s kv xa:=heap_setCell_same X b 5 _ _ _ h
theorem FBlk.set6 (h : FBlk X b a nm pv tr sc bv k q n s kv xa) (v : Int) : FBlk (X.setCell ⟨b,6,none⟩ (.int .i64 v)) b a nm pv tr sc bv v q n s kv xa:=heap_setCell_same X b 6 _ _ _ h
theorem FBlk.set7 (h : FBlk X b a nm pv tr sc bv k q n s kv xa) (v : Int) : FBlk (X.setCell ⟨b,7,none⟩ (.int .i64 v)) b a nm pv tr sc bv k v n s kv xa:=heap_setCell_same X b 7 _ _ _ h
theorem FBlk.set8 (h : FBlk X b a nm pv tr sc bv k q n s kv xa) (v : Int) : FBlk (X.setCell ⟨b,8,none⟩ (.int .i64 v)) b a nm pv tr sc bv k q v s kv xa:=heap_setCell_same X b 8 _ _ _ h
theorem FBlk.set9 (h : FBlk X b a nm pv tr sc bv k q n s kv xa) (v : ByteArray) : FBlk (X.setCell ⟨b,9,none⟩ (.string v)) b a nm pv tr sc bv k q n v kv xa:=heap_setCell_same X b 9 _ _ _ h
theorem FBlk.set10 (h : FBlk X b a nm pv tr sc bv k q n s kv xa) (v : Value) : FBlk (X.setCell ⟨b,10,none⟩ v) b a nm pv tr sc bv k q n s v xa:=heap_setCell_same X b 10 _ _ _ h
theorem FBlk.set11 (h : FBlk X b a nm pv tr sc bv k q n s kv xa) (v : Int) : FBlk (X.setCell ⟨b,11,none⟩ (.int .i64 v)) b a nm pv tr sc bv k q n s kv v:=heap_setCell_same X b 11 _ _ _ h
theorem FBlk.new (hb : b = X.heap.size) : FBlk (X.alloc (.cells #[.int .i64 a,.string nm,pv,.bool tr,.bool sc,bv,.int .i64 k,.int .i64 q,.int .i64 n,.string s,kv,.int .i64 xa] 65)) b a nm pv tr sc bv k q n s kv xa:=hb ▸ heap_alloc_new X _
end
structure FV where
 (p b k : Value)
def fnCells (f : Fn) (v : FV) : List Value:=[.int .i64 f.a,.string (bstr f.nm),v.p,.bool f.tr,.bool f.sc,v.b,.int .i64 f.ret.k,.int .i64 f.ret.op,.int .i64 f.ret.n,.string (bstr f.ret.nm),v.k,.int .i64 f.ret.a]
def IsFn1 (ok : Nat → Prop) (W : World) (f : Fn) (v : FV) : Prop:=IsPl ok 137 3 pmCells W f.ps v.p ∧ IsSts ok W f.bd v.b ∧ IsExP ok W f.ret v.k
def IsTh1 (ok : Nat → Prop) (W : World) (l : List Stm) (v : Value) : Prop:=IsSts ok W l v
theorem raw12_one {a k q n xa : Int} {nm s : ByteArray} {tr sc : Bool} {z1 z2 z3 : Option Addr} {y1 y2 y3 k1 k2 k3 : Nat} : ∀ u ∈ ([.int .i64 a,.string nm,.slice z1 y1 k1,.bool tr,.bool sc,.slice z2 y2 k2,.int .i64 k,.int .i64 q,.int .i64 n,.string s,.slice z3 y3 k3,.int .i64 xa] : List Value),u.oneCell' = true:=by
 intro u hu
 simp at hu
 rcases hu with rfl | rfl | rfl | rfl | rfl | rfl | rfl | rfl | rfl | rfl | rfl | rfl <;> rfl
def KeptT (lo : Nat) (W X : World) : Prop:=W.heap.size ≤ X.heap.size ∧ ∀ g cs T fr,lo ≤ g → W.heap[g]? = some (.cells cs T fr) → (T = 141 ∨ T = 63 ∨ T = 137) → X.heap[g]? = W.heap[g]?
section
variable {lo : Nat} {W X Y : World}
theorem KeptT.trans (h : KeptT lo W X) (k : KeptT lo X Y) : KeptT lo W Y:=⟨Nat.le_trans h.1 k.1,fun g cs T fr hg hb ht => by
 have e:=h.2 g cs T fr hg hb ht
 exact (k.2 g cs T fr hg (e.trans hb) ht).trans e⟩
theorem KeptT.hi (h : Hi lo W X) : KeptT lo W X:=⟨h.1,fun g _ _ _ hg hb _ => h.2 g hg (Array.getElem?_eq_some_iff.1 hb).1⟩
theorem IsExP.keptT {e : Ex} {v : Value} (h : IsExP (fun g => lo ≤ g) W e v) (hk : KeptT lo W X) : IsExP (fun g => lo ≤ g) X e v:=by
 induction h with
 | leaf => exact .leaf
 | node g cap cs fr vs hg hb hne hc _ ih => exact .node g cap cs fr vs hg ((hk.2 g _ _ _ hg hb (.inr (.inl rfl))).trans hb) hne hc ih
theorem IsSts.keptT {l : List Stm} {v : Value} (h : IsSts (fun g => lo ≤ g) W l v) (hk : KeptT lo W X) : IsSts (fun g => lo ≤ g) X l v:=by
 induction h with
 | nil => exact .nil
 | node g cap cs fr vs hg hb hne hc hi he _ _ ih1 ih2 => exact .node g cap cs fr vs hg ((hk.2 g _ _ _ hg hb (.inl rfl)).trans hb) hne hc (fun i s h => (hi i s h).keptT hk) (fun i s h => (he i s h).keptT hk) ih1 ih2
theorem IsPl.keptT {l : List Pm} {v : Value} (h : IsPl (fun g => lo ≤ g) 137 3 pmCells W l v) (hk : KeptT lo W X) : IsPl (fun g => lo ≤ g) 137 3 pmCells X l v:=by
 refine ⟨h.1,fun hn => ?_⟩
 obtain ⟨g,cap,cs,fr,h1,h2,h3,h4⟩:=h.2 hn
 exact ⟨g,cap,cs,fr,h1,h2,(hk.2 g _ _ _ h2 h3 (.inr (.inr rfl))).trans h3,h4⟩
theorem IsPl.hi {l : List Pm} {v : Value} (h : IsPl (fun g => lo ≤ g) 137 3 pmCells W l v) (hk : Hi lo W X) : IsPl (fun g => lo ≤ g) 137 3 pmCells X l v:=h.keptT (.hi hk)
theorem IsPl.low {lo' : Nat} {l : List Pm} {v : Value} (h : IsPl (fun g => lo ≤ g) 137 3 pmCells W l v) (hl : lo' ≤ lo) : IsPl (fun g => lo' ≤ g) 137 3 pmCells W l v:=h.kept fun _ hg _ => ⟨rfl,Nat.le_trans hl hg⟩
theorem IsFn1.keptT {f : Fn} {v : FV} (h : IsFn1 (fun g => lo ≤ g) W f v) (hk : KeptT lo W X) : IsFn1 (fun g => lo ≤ g) X f v:=⟨h.1.keptT hk,h.2.1.keptT hk,h.2.2.keptT hk⟩
theorem IsFn1.low {lo' : Nat} {f : Fn} {v : FV} (h : IsFn1 (fun g => lo ≤ g) W f v) (hl : lo' ≤ lo) : IsFn1 (fun g => lo' ≤ g) W f v:=⟨h.1.low hl,h.2.1.lo hl,h.2.2.lo hl⟩
end
section
variable {r4 rb : Nat} {row : Option Nat} {W X Y : World}
theorem Fr3.refl (r4 rb : Nat) (row : Option Nat) (W : World) : Fr3 r4 rb row W W:=⟨⟨Nat.le_refl _,rfl,rfl,rfl⟩,fun _ _ _ _ _ => rfl⟩
theorem Fr3.size (h : Fr3 r4 rb row W X) : W.heap.size ≤ X.heap.size:=h.1.1
theorem Fr3.step (h : Fr3 r4 rb row W X) (k : Fr (some rb) X Y) : Fr3 r4 rb row W Y :=
 ⟨⟨Nat.le_trans h.1.1 k.size,(Fr.grown_ k).os.trans h.1.2.1,(Fr.grown_ k).tape.trans h.1.2.2.1,(Fr.grown_ k).output.trans h.1.2.2.2⟩,fun b hb h4 hr hrow => (k.block (Nat.lt_of_lt_of_le hb h.1.1) (by simp;exact hr)).trans (h.2 b hb h4 hr hrow)⟩
theorem Fr3.alloc (h : Fr3 r4 rb row W X) (o : Obj) : Fr3 r4 rb row W (X.alloc o):=⟨⟨by (have:=h.1.1;simp;omega),h.1.2.1,h.1.2.2.1,h.1.2.2.2⟩,fun b hb h4 hr hrow => (Below.heap_alloc X o b (Nat.lt_of_lt_of_le hb h.1.1)).trans (h.2 b hb h4 hr hrow)⟩
theorem Fr3.set (h : Fr3 r4 rb row W X) {c : Nat} (hc : c = r4 ∨ c = rb ∨ W.heap.size ≤ c) (o : Nat) (v : Value) : Fr3 r4 rb row W (X.setCell ⟨c,o,none⟩ v):=by
 obtain ⟨e1,e2,e3⟩:=setCell_else X ⟨c,o,none⟩ v
 exact ⟨⟨by simpa using h.1.1,e1.trans h.1.2.1,e2.trans h.1.2.2.1,e3.trans h.1.2.2.2⟩,fun b hb h4 hr hrow => (heap_setCell_other X ⟨c,o,none⟩ b v (by rcases hc with rfl | rfl | hc <;> simp <;> omega)).trans (h.2 b hb h4 hr hrow)⟩
theorem Fr3.drew (h : Fr3 r4 rb row W X) : Fr3 r4 rb row W X.drew:=h
theorem Fr3.grow (h : Fr3 r4 rb none W X) (k : X.grownBy Y row) : Fr3 r4 rb row W Y:=⟨⟨Nat.le_trans h.1.1 k.size,k.os.trans h.1.2.1,k.tape.trans h.1.2.2.1,k.output.trans h.1.2.2.2⟩,fun b hb h4 hr hrow => (k.block b (Nat.lt_of_lt_of_le hb h.1.1) hrow).trans (h.2 b hb h4 hr (by simp))⟩
theorem Fr3.of (h : Fr (some rb) W X) : Fr3 r4 rb row W X:=(Fr3.refl r4 rb row W).step h
theorem own_fr3 {B T T' k n k' n' : Nat} {v v' : Value} {xs xs' : List Value} (h : W.ownsRow B T k v n xs) (hf : Fr3 r4 rb v'.ownBlock W X) (hv : W.ownsRow B T' k' v' n' xs') (hT : T ≠ T') (h4 : r4 < B) (hr : rb < B) : X.ownsRow B T k v n xs:=by
 refine ⟨h.1,?_⟩
 rcases h.2 with h0 | ⟨g,cap,cur,rfl,hb,hg,rest⟩
 · exact .inl h0
 · refine .inr ⟨g,cap,cur,rfl,hb,?_,rest⟩
   rw [hf.2 g (Array.getElem?_eq_some_iff.1 hg).1 (by omega) (by omega) (fun e => ?_)]
   · exact hg
   · rcases hv.2 with ⟨rfl,_⟩ | ⟨g',cap',cur',rfl,_,hg',_⟩
     · cases e
     · have : g = g':=by simpa [Value.ownBlock] using e
       subst this
       rw [hg] at hg'
       simp only [Option.some.injEq,Obj.cells.injEq] at hg'
       exact hT hg'.2.1
theorem own_fr0 {B T k n : Nat} {v : Value} {xs : List Value} (h : W.ownsRow B T k v n xs) (hf : Fr3 r4 rb none W X) (h4 : r4 < B) (hr : rb < B) : X.ownsRow B T k v n xs:=by
 refine ⟨h.1,?_⟩
 rcases h.2 with h0 | ⟨g,cap,cur,rfl,hb,hg,rest⟩
 · exact .inl h0
 · refine .inr ⟨g,cap,cur,rfl,hb,?_,rest⟩
   rw [hf.2 g (Array.getElem?_eq_some_iff.1 hg).1 (by omega) (by omega) (by simp)]
   exact hg
theorem keptT3 {B T' k' n' : Nat} {v' : Value} {xs' : List Value} (hf : Fr3 r4 rb v'.ownBlock W X) (hv : W.ownsRow B T' k' v' n' xs') (hT : T' ≠ 141 ∧ T' ≠ 63 ∧ T' ≠ 137) (h4 : r4 < B) (hr : rb < B) : KeptT B W X:=by
 refine ⟨hf.1.1,fun g cs T fr hg hb ht => hf.2 g (Array.getElem?_eq_some_iff.1 hb).1 (by omega) (by omega) fun e => ?_⟩
 rcases hv.2 with ⟨rfl,_⟩ | ⟨g',cap',cur',rfl,_,hg',_⟩
 · cases e
 · have : g = g':=by simpa [Value.ownBlock] using e
   subst this
   rw [hb] at hg'
   simp only [Option.some.injEq,Obj.cells.injEq] at hg'
   obtain ⟨h1,h2,h3⟩:=hT
   rcases ht with e | e | e
   · exact h1 (hg'.2.1.symm.trans e)
   · exact h2 (hg'.2.1.symm.trans e)
   · exact h3 (hg'.2.1.symm.trans e)
end
def fnRow (r : List (Fn × FV)) : List Value:=r.flatMap fun p => fnCells p.1 p.2
def thRow (r : List (List Stm × Value)) : List Value:=r.map (·.2)
theorem fnRow_snoc (r : List (Fn × FV)) (f : Fn) (v : FV) : fnRow (r ++ [(f,v)]) = fnRow r ++ fnCells f v:=by simp [fnRow]
theorem thRow_snoc (r : List (List Stm × Value)) (l : List Stm) (v : Value) : thRow (r ++ [(l,v)]) = thRow r ++ [v]:=by simp [thRow]
structure PRows (B : Nat) (W : World) (p : Pg) (v0 v1 v2 v3 : Value) (rf : List (Fn × FV)) (rt : List (List Stm × Value)) : Prop where
 g : W.ownsRow B 56 6 v0 p.gs.length (p.gs.flatMap glCells)
 l : W.ownsRow B 95 2 v1 p.ls.length (p.ls.flatMap lkCells)
 f : W.ownsRow B 65 12 v2 p.fs.length (fnRow rf)
 t : W.ownsRow B 60 1 v3 p.ths.length (thRow rt)
 ef : rf.map (·.1) = p.fs
 et : rt.map (·.1) = p.ths
 xf : ∀ q ∈ rf,IsFn1 (fun g => B ≤ g) W q.1 q.2
 xt : ∀ q ∈ rt,IsSts (fun g => B ≤ g) W q.1 q.2
theorem PRows.nil (B : Nat) (W : World) : PRows B W ⟨[],[],[],[]⟩ (.slice none 0 0) (.slice none 0 0) (.slice none 0 0) (.slice none 0 0) [] [] :=
 ⟨World.ownsRow_nil W B _ 6,World.ownsRow_nil W B _ 2,World.ownsRow_nil W B _ 12,World.ownsRow_nil W B _ 1,rfl,rfl,by simp,by simp⟩
theorem own_form {B T k n : Nat} {W : World} {v : Value} {xs : List Value} (h : W.ownsRow B T k v n xs) : ∃ p c,v = .slice p n c:=by
 rcases h.2 with ⟨h1,h2⟩ | ⟨g,cap,cur,h1,_⟩
 · exact ⟨none,0,by rw [h1,h2]⟩
 · exact ⟨_,_,h1⟩
end Go.Proofs.Ytbmmjomcjlpnlaa
namespace Go.Proofs.Ytbmmjomcjlpnlaa
mutual
def Ex.eqv : Ex → Ex → Bool
 | .mk k o n t ks _,.mk k' o' n' t' ks' _ => (k == k') && (o == o') && (n == n') && (t == t') && Ex.eqvL ks ks'
def Ex.eqvL : List Ex → List Ex → Bool
 | [],[] => true
 | x :: r,y :: q => Ex.eqv x y && Ex.eqvL r q
 | _,_ => false
end
theorem eqv_parts (x y : Ex) : x.eqv y = ((x.k == y.k) && (x.op == y.op) && (x.n == y.n) && (x.nm == y.nm) && Ex.eqvL x.ks y.ks):=by
 cases x;cases y;simp only [Ex.eqv,Ex.k,Ex.op,Ex.n,Ex.nm,Ex.ks]
mutual
def Ex.cnt : Ex → Nat
 | .mk _ _ _ _ ks _ => 1 + Ex.cntL ks
def Ex.cntL : List Ex → Nat
 | [] => 0
 | x :: r => Ex.cnt x + Ex.cntL r
end
theorem cnt_pos (x : Ex) : 1 ≤ x.cnt:=by cases x;simp only [Ex.cnt];omega
theorem cntL_len : ∀ l : List Ex,l.length ≤ Ex.cntL l
 | [] => Nat.le_refl _
 | x :: r => by
  have:=cntL_len r
  have:=cnt_pos x
  simp only [Ex.cntL,List.length_cons]
  omega
open Go Go.RowKit
def SameGoal (f : Nat) (N : Nat) : Prop:=∀ (x y : Ex) (u v : Value) (w : World),x.cnt < N ∧ x.cnt < 1000000000 → IsEx 0 w x u → IsEx 0 w y v →
 Calls Try.prog f #[.agg #[.int .i64 x.k,.int .i64 x.op,.int .i64 x.n,.string (bstr x.nm),u,.int .i64 x.a],.agg #[.int .i64 y.k,.int .i64 y.op,.int .i64 y.n,.string (bstr y.nm),v,.int .i64 y.a]] w fun e w' => e = .returned (.bool (x.eqv y)) ∧ Below w.heap.size w w'
def KeptE (w w' : World) : Prop:=w.heap.size ≤ w'.heap.size ∧ ∀ (k : Nat) (cs : Array Value) (fr : Nat × Nat),w.heap[k]? = some (.cells cs 63 fr) → w'.heap[k]? = some (.cells cs 63 fr)
theorem KeptE.refl (w : World) : KeptE w w:=⟨Nat.le_refl _,fun _ _ _ h => h⟩
theorem KeptE.step {a b c : World} (h : KeptE a b) (k : KeptE b c) : KeptE a c:=⟨Nat.le_trans h.1 k.1,fun i cs fr hi => k.2 i cs fr (h.2 i cs fr hi)⟩
theorem KeptE.below {a b c : World} (h : KeptE a b) (k : Below b.heap.size b c) : KeptE a c:=h.step ⟨k.size,fun i _ _ hi => (k.block i (Array.getElem?_eq_some_iff.1 hi).1).trans hi⟩
theorem KeptE.alloc {a b : World} (h : KeptE a b) (o : Obj) : KeptE a (b.alloc o):=h.below ((Below.refl _ _).alloc (Nat.le_refl _) _)
theorem KeptE.drew {a b : World} (h : KeptE a b) : KeptE a b.drew:=h
theorem KeptE.drewN {a b : World} (h : KeptE a b) (n : Nat) : KeptE a (b.drewN n):=h
theorem KeptE.set {a b : World} (h : KeptE a b) {c : Nat} (hc : a.heap.size ≤ c) (o : Nat) (v : Value) : KeptE a (b.setCell ⟨c,o,none⟩ v) :=
 ⟨by simpa using h.1,fun i cs fr hi => (heap_setCell_other b ⟨c,o,none⟩ i v (by have:=(Array.getElem?_eq_some_iff.1 hi).1;simp;omega)).trans (h.2 i cs fr hi)⟩
theorem KeptE.size {a b : World} (h : KeptE a b) : a.heap.size ≤ b.heap.size:=h.1
theorem IsEx.ke {lo : Nat} {W X : World} {e : Ex} {v : Value} (h : IsEx lo W e v) (hk : KeptE W X) : IsEx lo X e v:=by
 induction h with
 | leaf => exact .leaf
 | node g cap cs fr vs hg hb hne hc _ ih => exact .node g cap cs fr vs hg (hk.2 _ _ _ hb) hne hc ih
theorem Blk.ke {X Y : World} {n : Nat} {v0 v1 v2 v3 v4 v5 : Value} (h : Blk X n v0 v1 v2 v3 v4 v5) (hk : KeptE X Y) : Blk Y n v0 v1 v2 v3 v4 v5:=hk.2 _ _ _ h
open Go
def partT (k : Bool) (t : List UInt8) : List UInt8:=if k then 40 :: t ++ [41] else t
def opT (o : Int) : List UInt8:=32 :: ((sgnZ o).data.toList ++ [32])
abbrev Kd:=Int × Int × List UInt8
def rowK : List Kd → List UInt8
 | [] => []
 | x :: r => x.2.2 ++ r.flatMap fun y => 44 :: 32 :: y.2.2
def oneK (l : List Kd) : List UInt8:=l.flatMap fun y => partT (y.1 == 6) y.2.2
def twoK (o : Int) : List Kd → List UInt8
 | [] => []
 | x :: r => partT ((x.1 == 6) && decide (rnkZ x.2.1 < rnkZ o)) x.2.2 ++ r.flatMap fun y => opT o ++ partT ((y.1 == 6) && decide (rnkZ y.2.1 ≤ rnkZ o)) y.2.2
def txtOf (k o n : Int) (nm : List UInt8) (l : List Kd) : List UInt8 :=
 if k = 0 then Lib.itoa n
 else if k = 1 then (if n = 0 then flsB else truB)
 else if k = 2 then nm
 else if k = 3 then nm ++ 91 :: (rowK l ++ [93])
 else if k = 7 then nm ++ 40 :: (rowK l ++ [41])
 else if k = 4 then 45 :: oneK l
 else if k = 5 then 33 :: oneK l
 else if k = 6 then twoK o l
 else []
mutual
def Ex.txt : Ex → List UInt8
 | .mk k o n nm ks _ => txtOf k o n nm (Ex.kds ks)
def Ex.kds : List Ex → List Kd
 | [] => []
 | x :: r => (x.k,x.op,Ex.txt x) :: Ex.kds r
end
theorem kds_map : ∀ l : List Ex,Ex.kds l = l.map fun y => (y.k,y.op,y.txt)
 | [] => by simp only [Ex.kds,List.map_nil]
 | x :: r => by simp only [Ex.kds,List.map_cons,kds_map r]
theorem txt_parts (x : Ex) : x.txt = txtOf x.k x.op x.n x.nm (x.ks.map fun y => (y.k,y.op,y.txt)):=by
 cases x
 simp only [Ex.txt,Ex.k,Ex.op,Ex.n,Ex.nm,Ex.ks,kds_map]
theorem eqv_head {x y : Ex} (h : x.eqv y = true) : x.k = y.k ∧ x.op = y.op ∧ x.n = y.n ∧ x.nm = y.nm ∧ Ex.eqvL x.ks y.ks = true:=by
 rw [eqv_parts] at h
 simpa only [Bool.and_eq_true,beq_iff_eq,and_assoc] using h
mutual
theorem eqv_txt : ∀ x y : Ex,x.eqv y = true → x.txt = y.txt
 | .mk k o n t ks _,.mk k' o' n' t' ks' _,h => by
  simp only [Ex.eqv,Bool.and_eq_true,beq_iff_eq] at h
  obtain ⟨⟨⟨⟨rfl,rfl⟩,rfl⟩,rfl⟩,h⟩:=h
  simp only [Ex.txt,eqvL_kds ks ks' h]
theorem eqvL_kds : ∀ l m : List Ex,Ex.eqvL l m = true → Ex.kds l = Ex.kds m
 | [],[],_ => rfl
 | x :: r,y :: q,h => by
  simp only [Ex.eqvL,Bool.and_eq_true] at h
  have h1:=eqv_head h.1
  simp only [Ex.kds,eqv_txt x y h.1,eqvL_kds r q h.2,h1.1,h1.2.1]
 | [],_ :: _,h => by simp [Ex.eqvL] at h
 | _ :: _,[],h => by simp [Ex.eqvL] at h
end
mutual
theorem eqv_refl : ∀ x : Ex,x.eqv x = true
 | .mk k o n t ks _ => by simp only [Ex.eqv,beq_self_eq_true,Bool.and_self,eqvL_refl ks]
theorem eqvL_refl : ∀ l : List Ex,Ex.eqvL l l = true
 | [] => by simp only [Ex.eqvL]
 | x :: r => by simp only [Ex.eqvL,eqv_refl x,eqvL_refl r,Bool.and_self]
end
mutual
theorem eqv_symm : ∀ x y : Ex,x.eqv y = true → y.eqv x = true
 | .mk k o n t ks _,.mk k' o' n' t' ks' _,h => by
  simp only [Ex.eqv,Bool.and_eq_true,beq_iff_eq] at h ⊢
  exact ⟨⟨⟨⟨h.1.1.1.1.symm,h.1.1.1.2.symm⟩,h.1.1.2.symm⟩,h.1.2.symm⟩,eqvL_symm ks ks' h.2⟩
theorem eqvL_symm : ∀ l m : List Ex,Ex.eqvL l m = true → Ex.eqvL m l = true
 | [],[],h => h
 | x :: r,y :: q,h => by
  simp only [Ex.eqvL,Bool.and_eq_true] at h ⊢
  exact ⟨eqv_symm x y h.1,eqvL_symm r q h.2⟩
 | [],_ :: _,h => by simp [Ex.eqvL] at h
 | _ :: _,[],h => by simp [Ex.eqvL] at h
end
def Ex.txtAt (r : Int) (x : Ex) : List UInt8:=partT ((x.k == 6) && decide (rnkZ x.op < r)) x.txt
theorem txtAt_top {x : Ex} : partT (x.k == 6) x.txt = x.txtAt 11:=by
 have : decide (rnkZ x.op < 11) = true:=by
  have:=(rnkZ_le x.op).2
  simp
  omega
 simp only [Ex.txtAt,this,Bool.and_true]
theorem txt_num (o n : Int) (nm : List UInt8) (ks : List Ex) (a : Nat) : (Ex.mk 0 o n nm ks a).txt = Lib.itoa n:=by simp only [Ex.txt,txtOf];rfl
theorem txt_truth (o n : Int) (nm : List UInt8) (ks : List Ex) (a : Nat) : (Ex.mk 1 o n nm ks a).txt = if n = 0 then flsB else truB:=by simp only [Ex.txt,txtOf];rfl
theorem txt_var (o n : Int) (nm : List UInt8) (ks : List Ex) (a : Nat) : (Ex.mk 2 o n nm ks a).txt = nm:=by simp only [Ex.txt,txtOf];rfl
theorem txt_elem (o n : Int) (nm : List UInt8) (e : Ex) (a : Nat) : (Ex.mk 3 o n nm [e] a).txt = nm ++ 91 :: (e.txt ++ [93]):=by
 simp only [Ex.txt,txtOf,Ex.kds,rowK,List.flatMap_nil,List.append_nil]
 rfl
theorem txt_call (o n : Int) (nm : List UInt8) (ks : List Ex) (a : Nat) : (Ex.mk 7 o n nm ks a).txt = nm ++ 40 :: (rowK (Ex.kds ks) ++ [41]):=by simp only [Ex.txt,txtOf];rfl
theorem txt_neg (o n : Int) (nm : List UInt8) (e : Ex) (a : Nat) : (Ex.mk 4 o n nm [e] a).txt = 45 :: e.txtAt 11:=by
 rw [← txtAt_top]
 simp only [Ex.txt,txtOf,Ex.kds,oneK,List.flatMap_cons,List.flatMap_nil,List.append_nil]
 rfl
theorem txt_not (o n : Int) (nm : List UInt8) (e : Ex) (a : Nat) : (Ex.mk 5 o n nm [e] a).txt = 33 :: e.txtAt 11:=by
 rw [← txtAt_top]
 simp only [Ex.txt,txtOf,Ex.kds,oneK,List.flatMap_cons,List.flatMap_nil,List.append_nil]
 rfl
theorem txt_two (o n : Int) (nm : List UInt8) (l r : Ex) (a : Nat) : (Ex.mk 6 o n nm [l,r] a).txt = l.txtAt (rnkZ o) ++ (opT o ++ r.txtAt (rnkZ o + 1)):=by
 have e : decide (rnkZ r.op ≤ rnkZ o) = decide (rnkZ r.op < rnkZ o + 1):=by
  rw [decide_eq_decide]
  omega
 simp only [Ex.txt,txtOf,Ex.kds,twoK,List.flatMap_cons,List.flatMap_nil,List.append_nil,Ex.txtAt,e]
 rfl
def rowT (f : Ex → List UInt8) : List Ex → List UInt8
 | [] => []
 | x :: r => f x ++ r.flatMap fun y => 44 :: 32 :: f y
def twoT (F0 F1 : Ex → List UInt8) : List Ex → List UInt8
 | [] => []
 | x :: r => F0 x ++ r.flatMap F1
def NameB (t : List UInt8) : Prop:=∃ c r,t = c :: r ∧ isLetter c = true ∧ (∀ d ∈ r,isPart d = true) ∧ t.length ≤ 24 ∧ keyB t = false
def WdOk (w : Wd) : Prop:=(w.k = 0 → keyB w.t = false → NameB w.t) ∧ (w.k = 1 → 0 ≤ w.n ∧ w.n ≤ 9223372036854775807 ∧ w.t = Lib.itoa w.n) ∧ (w.k ≠ 3 → 1 ≤ w.t.length)
theorem rank_pos : ∀ j : Nat,j < 19 → j ≠ 16 → 1 ≤ rnkZ (j : Int):=by decide
inductive Fit : Nat → Int → Ex → Prop
 | num {o : Nat} {r n : Int} {a : Nat} : 0 ≤ n → n ≤ 9223372036854775807 → Fit o r (.mk 0 0 n [] [] a)
 | tru {o : Nat} {r : Int} {a : Nat} : Fit o r (.mk 1 0 1 [] [] a)
 | fls {o : Nat} {r : Int} {a : Nat} : Fit o r (.mk 1 0 0 [] [] a)
 | var {o : Nat} {r : Int} {nm : List UInt8} {a : Nat} : NameB nm → Fit o r (.mk 2 0 0 nm [] a)
 | elem {o : Nat} {r : Int} {nm : List UInt8} {e : Ex} {a : Nat} : NameB nm → o < 32 → Fit (o + 1) 1 e → Fit o r (.mk 3 0 0 nm [e] a)
 | neg {o : Nat} {r : Int} {e : Ex} {a : Nat} : o < 32 → Fit (o + 1) 11 e → Fit o r (.mk 4 0 0 [] [e] a)
 | not {o : Nat} {r : Int} {e : Ex} {a : Nat} : o < 32 → Fit (o + 1) 11 e → Fit o r (.mk 5 0 0 [] [e] a)
 | two {o j : Nat} {r : Int} {l e : Ex} {a : Nat} : j < 19 → j ≠ 16 → r ≤ rnkZ j → Fit o (rnkZ j) l → Fit o (rnkZ j + 1) e → Fit o r (.mk 6 j 0 [] [l,e] a)
 | brk {o j : Nat} {r : Int} {l e : Ex} {a : Nat} : 1 ≤ rnkZ j → rnkZ j < r → o < 32 → Fit (o + 1) 1 (.mk 6 j 0 [] [l,e] a) → Fit o r (.mk 6 j 0 [] [l,e] a)
 | call {o : Nat} {r : Int} {nm : List UInt8} {es : List Ex} {a : Nat} : NameB nm → o < 32 → (∀ e,e ∈ es → Fit (o + 1) 1 e) → Fit o r (.mk 7 0 0 nm es a)
theorem Fit.mono {o : Nat} {r : Int} {x : Ex} (h : Fit o r x) : ∀ {o' : Nat} {r' : Int},o' ≤ o → r' ≤ r → Fit o' r' x:=by
 induction h with
 | num h1 h2 => intros;exact .num h1 h2
 | tru => intros;exact .tru
 | fls => intros;exact .fls
 | var h => intros;exact .var h
 | elem h1 h2 _ ih => intro o' r' ho _;exact .elem h1 (by omega) (ih (by omega) (Int.le_refl _))
 | neg h2 _ ih => intro o' r' ho _;exact .neg (by omega) (ih (by omega) (Int.le_refl _))
 | not h2 _ ih => intro o' r' ho _;exact .not (by omega) (ih (by omega) (Int.le_refl _))
 | two h1 h2 h3 _ _ ih1 ih2 => intro o' r' ho hr;exact .two h1 h2 (by omega) (ih1 ho (Int.le_refl _)) (ih2 ho (Int.le_refl _))
 | @brk o j r l e a h1 h2 h3 _ ih =>
  intro o' r' ho hr
  by_cases hj : r' ≤ rnkZ j
  · cases ih (o':=o') (r':=1) (by omega) (Int.le_refl _) with
    | two k1 k2 k3 k4 k5 => exact .two k1 k2 hj k4 k5
    | brk k1 k2 => omega
  · exact .brk h1 (by omega) (by omega) (ih (by omega) (Int.le_refl _))
 | call h1 h2 _ ih => intro o' r' ho _;exact .call h1 (by omega) fun e he => ih e he (by omega) (Int.le_refl _)
theorem Fit.up {o : Nat} {x : Ex} (h : Fit (o + 1) 1 x) (ho : o < 32) : Fit o 11 x:=by
 cases h with
 | num h1 h2 => exact .num h1 h2
 | tru => exact .tru
 | fls => exact .fls
 | var h => exact .var h
 | elem h1 h2 h3 => exact .elem h1 ho (h3.mono (by omega) (Int.le_refl _))
 | neg h2 h3 => exact .neg ho (h3.mono (by omega) (Int.le_refl _))
 | not h2 h3 => exact .not ho (h3.mono (by omega) (Int.le_refl _))
 | @two _ j _ l e a h1 h2 h3 h4 h5 =>
  have:=(rnkZ_le j).2
  exact .brk (rank_pos j h1 h2) (by omega) ho (.two h1 h2 h3 h4 h5)
 | brk h1 h2 => omega
 | call h1 h2 h3 => exact .call h1 ho fun e he => (h3 e he).mono (by omega) (Int.le_refl _)
def FitPost (o : Nat) : Job → List Wd → Res → Prop
 | .thing,_,.ok e _ => Fit o 11 e
 | .beh k,_,.ok e _ => k = 4 ∨ k = 5 → Fit o 11 e
 | .wth _,_,.ok e _ => o < 32 ∧ Fit (o + 1) 1 e
 | .nam,ts,.ok e _ => (∀ w t,ts = w :: t → NameB w.t) → Fit o 11 e
 | .giv,_,.okL es _ => o < 32 ∧ ∀ e,e ∈ es → Fit (o + 1) 1 e
 | .expr r,_,.ok e ts' => 1 ≤ r → r ≤ 11 → Fit o r e ∧ ∀ c t,ts' = c :: t → rkW c < r
 | .loop r l,ts,.ok e ts' => 1 ≤ r → r ≤ 11 → (∀ c t,ts = c :: t → ∃ q,r ≤ q ∧ rkW c ≤ q ∧ Fit o q l) → Fit o r e ∧ ∀ c t,ts' = c :: t → rkW c < r
 | .list acc,_,.okL es _ => (∀ e,e ∈ acc → Fit o 1 e) → ∀ e,e ∈ es → Fit o 1 e
 | _,_,_ => True
theorem suf_all {p : Wd → Prop} {a b : List Wd} (h : a <:+ b) (hb : ∀ w ∈ b,p w) : ∀ w ∈ a,p w:=fun w hw => hb w (h.subset hw)
theorem P.fit {o : Nat} {j : Job} {ts : List Wd} {r : Res} (h : P o j ts r) : (∀ w ∈ ts,WdOk w) → FitPost o j ts r:=by
 induction h with
 | @num o w ts hk =>
  intro hw
  have:=(hw w (by simp)).2.1 hk
  exact .num this.1 this.2.1
 | tru => intro _;exact .tru
 | fls => intro _;exact .fls
 | @neg o w ts r hs h ih =>
  intro hw
  have:=ih hw
  cases r with
  | ok e t => exact this (.inl rfl)
  | okL | bad => trivial
 | @not o w ts r hs h ih =>
  intro hw
  have:=ih hw
  cases r with
  | ok e t => exact this (.inr rfl)
  | okL | bad => trivial
 | @par o w ts r hs h ih =>
  intro hw
  have:=ih hw
  cases r with
  | ok e t => exact this.2.up this.1
  | okL | bad => trivial
 | @name o w ts r hs hk h ih =>
  intro hw
  have:=ih hw
  cases r with
  | ok e t => exact this (by rintro w' t' e;cases e;exact (hw w (by simp)).1 hs hk)
  | okL | bad => trivial
 | stray | behLim | behBad | wthLim | wthNo | wthBad | namElemBad | namCallBad | givLim | givNo | givBad | lstBad | exprBad | loopBad => intro _;trivial
 | behOk ho h ih =>
  intro hw
  have:=ih fun w h => hw w (List.mem_cons_of_mem _ h)
  rintro (rfl | rfl)
  · exact .neg ho this
  · exact .not ho this
 | wthOk ho h hd ih =>
  intro hw
  exact ⟨ho,(ih (fun w h => hw w (List.mem_cons_of_mem _ h)) (Int.le_refl _) (by decide)).1⟩
 | namVar h1 h2 => intro _ hn;exact .var (hn _ _ rfl)
 | namElem hs h ih =>
  intro hw hn
  have:=ih fun w h => hw w (List.mem_cons_of_mem _ h)
  exact .elem (hn _ _ rfl) this.1 this.2
 | namCall hs h ih =>
  intro hw hn
  have:=ih fun w h => hw w (List.mem_cons_of_mem _ h)
  exact .call (hn _ _ rfl) this.1 this.2
 | givNone ho hd => intro _;exact ⟨ho,by simp⟩
 | givSome ho hd h hf ih =>
  intro hw
  exact ⟨ho,ih (fun w h => hw w (List.mem_cons_of_mem _ h)) (by simp)⟩
 | @lstMore o d ts ts' acc e r h hd h2 ih ih2 =>
  intro hw
  have h1:=(ih hw (Int.le_refl _) (by decide)).1
  have h3:=ih2 (suf_all ((List.suffix_cons _ _).trans h.suf) hw)
  cases r with
  | ok | bad => trivial
  | okL es t =>
   intro ha
   exact h3 fun x hx => by
    rcases List.mem_append.1 hx with hx | hx
    · exact ha x hx
    · simp at hx;subst hx;exact h1
 | lstEnd h hd ih =>
  intro hw ha x hx
  rcases List.mem_append.1 hx with hx | hx
  · exact ha x hx
  · simp at hx;subst hx;exact (ih hw (Int.le_refl _) (by decide)).1
 | @expr o r ts ts' l res h h2 ih ih2 =>
  intro hw
  have h1:=ih hw
  have h3:=ih2 (suf_all h.suf hw)
  cases res with
  | ok e t => exact fun k1 k2 => h3 k1 k2 fun c t _ => ⟨11,k2,by have:=(rkW_bd c).2;omega,h1⟩
  | okL | bad => trivial
 | @loopEnd o r l c ts hr =>
  intro _ k1 k2 hl
  obtain ⟨q,q1,q2,q3⟩:=hl c ts rfl
  exact ⟨q3.mono (Nat.le_refl _) q1,by rintro c' t' e;cases e;exact hr⟩
 | @loopMore o r l e c ts ts' res hr h h2 ih ih2 =>
  intro hw
  have h1:=ih fun w h => hw w (List.mem_cons_of_mem _ h)
  have h3:=ih2 (suf_all h.suf fun w h => hw w (List.mem_cons_of_mem _ h))
  cases res with
  | okL | bad => trivial
  | ok x t =>
   intro k1 k2 hl
   obtain ⟨q,q1,q2,q3⟩:=hl c ts rfl
   have hb:=rkW_bd c
   have hc:=rkW_ne (w:=c) (by omega)
   obtain ⟨j,j1,j2,j3,-⟩:=op_rank hc.2
   have hj : rkW c = rnkZ j:=by rw [← j3];unfold rkW;rw [if_pos hc.1]
   obtain ⟨g1,g2⟩:=h1 (by omega) (by omega)
   refine h3 k1 k2 fun c2 t2 e2 => ⟨rkW c,hr,by have:=g2 c2 t2 e2;omega,?_⟩
   rw [j3,hj]
   rw [hj] at g1 q2
   exact .two j1 j2 (Int.le_refl _) (q3.mono (Nat.le_refl _) q2) g1
def lens : List Wd → Nat
 | [] => 0
 | w :: r => w.t.length + lens r
def Ex.wt (x : Ex) : Nat:=x.txt.length + if x.k = 6 then 2 else 0
def wtL : List Ex → Nat
 | [] => 0
 | x :: r => x.wt + 2 + wtL r
theorem wtL_append : ∀ l m : List Ex,wtL (l ++ m) = wtL l + wtL m
 | [],m => by simp [wtL]
 | x :: r,m => by simp only [List.cons_append,wtL,wtL_append r m];omega
theorem cntL_append : ∀ l m : List Ex,Ex.cntL (l ++ m) = Ex.cntL l + Ex.cntL m
 | [],m => by simp [Ex.cntL]
 | x :: r,m => by simp only [List.cons_append,Ex.cntL,cntL_append r m];omega
theorem txtAt_le (x : Ex) (r : Int) : (x.txtAt r).length ≤ x.wt:=by
 unfold Ex.wt Ex.txtAt partT
 by_cases h : x.k = 6
 · rw [if_pos h]
   split
   · simp
   · omega
 · have : (x.k == 6) = false:=by simpa using h
   rw [this,if_neg h]
   simp
theorem wt_not {x : Ex} (h : x.k ≠ 6) : x.wt = x.txt.length:=by unfold Ex.wt;rw [if_neg h];rfl
theorem rest_le : ∀ ks : List Ex,((Ex.kds ks).flatMap fun y => 44 :: 32 :: y.2.2).length ≤ wtL ks
 | [] => by simp [Ex.kds,wtL]
 | x :: r => by
  have:=rest_le r
  have h2 : x.txt.length ≤ x.wt:=by unfold Ex.wt;omega
  simp only [Ex.kds,List.flatMap_cons,List.length_append,List.length_cons,wtL]
  omega
theorem row_le (ks : List Ex) : (rowK (Ex.kds ks)).length ≤ wtL ks:=by
 cases ks with
 | nil => simp [Ex.kds,rowK,wtL]
 | cons x r =>
  have:=rest_le r
  have h2 : x.txt.length ≤ x.wt:=by unfold Ex.wt;omega
  simp only [Ex.kds,rowK,List.length_append,wtL]
  omega
def WtPost : Job → List Wd → Res → Prop
 | .thing,ts,.ok e ts' => e.wt + 5 * lens ts' ≤ 5 * lens ts ∧ e.cnt + ts'.length ≤ ts.length
 | .wth _,ts,.ok e ts' => e.wt + 5 * lens ts' ≤ 5 * lens ts ∧ e.cnt + ts'.length ≤ ts.length
 | .beh k,ts,.ok e ts' => k = 4 ∨ k = 5 → (∀ w t,ts = w :: t → 1 ≤ w.t.length) → e.wt + 5 * lens ts' ≤ 5 * lens ts ∧ e.cnt + ts'.length ≤ ts.length
 | .nam,ts,.ok e ts' => (∀ w t,ts = w :: t → 1 ≤ w.t.length) → e.wt + 5 * lens ts' ≤ 5 * lens ts ∧ e.cnt + ts'.length ≤ ts.length
 | .expr r,ts,.ok e ts' => 1 ≤ r → e.wt + 5 * lens ts' ≤ 5 * lens ts ∧ e.cnt + ts'.length ≤ ts.length
 | .loop r l,ts,.ok e ts' => 1 ≤ r → e.wt + 5 * lens ts' ≤ 5 * lens ts + l.wt ∧ e.cnt + ts'.length ≤ ts.length + l.cnt
 | .giv,ts,.okL es ts' => wtL es + 5 * lens ts' ≤ 5 * lens ts + 2 ∧ Ex.cntL es + ts'.length + 1 ≤ ts.length
 | .list acc,ts,.okL es ts' => wtL es + 5 * lens ts' ≤ 5 * lens ts + wtL acc + 2 ∧ Ex.cntL es + ts'.length ≤ ts.length + Ex.cntL acc
 | _,_,_ => True
theorem sgnZ_nat {j : Nat} (h : j < 19) : (sgnZ (j : Int)).data.toList = sgB j:=by
 unfold sgnZ sgB
 rw [if_pos (by omega)]
 simp
theorem lens_suf : ∀ {a b : List Wd},a <:+ b → lens a ≤ lens b:=by
 rintro a b ⟨p,rfl⟩
 induction p with
 | nil => exact Nat.le_refl _
 | cons x p ih => simp only [List.cons_append,lens];omega
theorem P.wt {o : Nat} {j : Job} {ts : List Wd} {r : Res} (h : P o j ts r) : (∀ w ∈ ts,WdOk w) → WtPost j ts r:=by
 induction h with
 | @num o w ts hk =>
  intro hw
  have:=(hw w (by simp)).2.1 hk
  refine ⟨?_,by simp [Ex.cnt,Ex.cntL];omega⟩
  rw [wt_not (by simp [Ex.k]),txt_num,← this.2.2]
  simp only [lens]
  omega
 | @tru o w ts hk ht =>
  intro _
  refine ⟨?_,by simp [Ex.cnt,Ex.cntL];omega⟩
  rw [wt_not (by simp [Ex.k]),txt_truth]
  simp only [lens,ht]
  simp [truB]
  omega
 | @fls o w ts hk ht =>
  intro _
  refine ⟨?_,by simp [Ex.cnt,Ex.cntL];omega⟩
  rw [wt_not (by simp [Ex.k]),txt_truth]
  simp only [lens,ht]
  simp [flsB]
  omega
 | @neg o w ts r hs h ih =>
  intro hw
  have:=ih hw
  cases r with
  | ok e t => exact this (.inl rfl) (by rintro w' t' e;cases e;rw [hs.2];decide)
  | okL | bad => trivial
 | @not o w ts r hs h ih =>
  intro hw
  have:=ih hw
  cases r with
  | ok e t => exact this (.inr rfl) (by rintro w' t' e;cases e;rw [hs.2];decide)
  | okL | bad => trivial
 | @par o w ts r hs h ih =>
  intro hw
  have:=ih hw
  cases r with
  | ok e t => exact this
  | okL | bad => trivial
 | @name o w ts r hs hk h ih =>
  intro hw
  have:=ih hw
  cases r with
  | ok e t => exact this (by rintro w' t' e;cases e;exact (hw w (by simp)).2.2 (by rw [hs];decide))
  | okL | bad => trivial
 | stray | behLim | behBad | wthLim | wthNo | wthBad | namElemBad | namCallBad | givLim | givNo | givBad | lstBad | exprBad | loopBad => intro _;trivial
 | @behOk o k w ts ts' e ho h ih =>
  intro hw hk hl
  have h1:=ih fun w h => hw w (List.mem_cons_of_mem _ h)
  have h2:=hl _ _ rfl
  have h3:=txtAt_le e 11
  refine ⟨?_,?_⟩
  · have : (Ex.mk k 0 0 [] [e] w.a).wt = 1 + (e.txtAt 11).length:=by
     rcases hk with rfl | rfl
     · rw [wt_not (by simp [Ex.k]),txt_neg,List.length_cons];omega
     · rw [wt_not (by simp [Ex.k]),txt_not,List.length_cons];omega
    rw [this]
    have:=h1.1
    simp only [lens]
    omega
  · have:=h1.2
    simp only [Ex.cnt,Ex.cntL,List.length_cons]
    omega
 | @wthOk o c w d ts ts' e ho h hd ih =>
  intro hw
  have h1:=ih (fun w h => hw w (List.mem_cons_of_mem _ h)) (Int.le_refl _)
  simp only [WtPost,lens,List.length_cons] at h1 ⊢
  omega
 | @namVar o w c ts h1 h2 =>
  intro _ hn
  have:=hn _ _ rfl
  refine ⟨?_,by simp [Ex.cnt,Ex.cntL];omega⟩
  rw [wt_not (by simp [Ex.k]),txt_var]
  simp only [lens]
  omega
 | @namElem o w c ts ts' e hs h ih =>
  intro hw hn
  have h1:=ih fun w h => hw w (List.mem_cons_of_mem _ h)
  have h2:=hn _ _ rfl
  refine ⟨?_,?_⟩
  · have h3 : e.txt.length ≤ e.wt:=by unfold Ex.wt;omega
    have:=h1.1
    rw [wt_not (by simp [Ex.k]),txt_elem]
    simp only [lens,List.length_append,List.length_cons,List.length_nil] at this ⊢
    omega
  · have:=h1.2
    simp only [Ex.cnt,Ex.cntL,List.length_cons] at this ⊢
    omega
 | @namCall o w c ts ts' es hs h ih =>
  intro hw hn
  have h1:=ih fun w h => hw w (List.mem_cons_of_mem _ h)
  have h2:=hn _ _ rfl
  refine ⟨?_,?_⟩
  · have h3:=row_le es
    have:=h1.1
    rw [wt_not (by simp [Ex.k]),txt_call]
    simp only [lens,List.length_append,List.length_cons,List.length_nil] at this ⊢
    omega
  · have:=h1.2
    simp only [Ex.cnt,List.length_cons] at this ⊢
    omega
 | @givNone o w d ts ho hd =>
  intro _
  simp only [WtPost,wtL,Ex.cntL,lens,List.length_cons]
  omega
 | @givSome o w d f ts ts' es ho hd h hf ih =>
  intro hw
  have h1:=ih fun w h => hw w (List.mem_cons_of_mem _ h)
  simp only [WtPost,wtL,Ex.cntL,lens,List.length_cons] at h1 ⊢
  omega
 | @lstMore o d ts ts' acc e r h hd h2 ih ih2 =>
  intro hw
  have h1:=ih hw (Int.le_refl _)
  have h3:=ih2 (suf_all ((List.suffix_cons _ _).trans h.suf) hw)
  cases r with
  | ok | bad => trivial
  | okL es t =>
   have hl : d.t.length = 1:=by rw [hd.2];rfl
   simp only [WtPost,wtL,wtL_append,cntL_append,Ex.cntL,lens,List.length_cons] at h1 h3 ⊢
   omega
 | @lstEnd o d ts ts' acc e h hd ih =>
  intro hw
  have h1:=ih hw (Int.le_refl _)
  simp only [WtPost,wtL,wtL_append,cntL_append,Ex.cntL,lens,List.length_cons] at h1 ⊢
  omega
 | @expr o r ts ts' l res h h2 ih ih2 =>
  intro hw
  have h1:=ih hw
  have h3:=ih2 (suf_all h.suf hw)
  cases res with
  | ok e t =>
   intro hr
   have h4:=h3 hr
   simp only [WtPost] at h1
   omega
  | okL | bad => trivial
 | @loopEnd o r l c ts hr =>
  intro _ _
  omega
 | @loopMore o r l e c ts ts' res hr h h2 ih ih2 =>
  intro hw
  have h1:=ih fun w h => hw w (List.mem_cons_of_mem _ h)
  have h3:=ih2 (suf_all h.suf fun w h => hw w (List.mem_cons_of_mem _ h))
  cases res with
  | okL | bad => trivial
  | ok x t =>
   intro h1r
   have h4:=h3 h1r
   have h1:=h1 (by omega)
   have hc : 1 ≤ rkW c:=by omega
   obtain ⟨j,j1,-,j3,j4⟩:=op_rank (rkW_ne hc).2
   have hlc:=(hw c (by simp)).2.2 (by rw [(rkW_ne hc).1];decide)
   have hop : (Ex.mk 6 (opB c.t) 0 [] [l,e] l.a).wt ≤ l.wt + e.wt + 5 * c.t.length:=by
    have e1:=txtAt_le l (rnkZ (opB c.t))
    have e2:=txtAt_le e (rnkZ (opB c.t) + 1)
    have e3 : (opT (opB c.t)).length = c.t.length + 2:=by
     unfold opT
     rw [j3,sgnZ_nat j1,j4]
     simp
    unfold Ex.wt at e1 e2 ⊢
    rw [txt_two,if_pos (show (Ex.mk 6 (opB c.t) 0 [] [l,e] l.a).k = 6 from rfl)]
    simp only [List.length_append,e3]
    omega
   have h5 : (Ex.mk 6 (opB c.t) 0 [] [l,e] l.a).cnt = 1 + l.cnt + e.cnt:=by simp only [Ex.cnt,Ex.cntL];omega
   simp only [lens,List.length_cons] at h1 h4 ⊢
   omega
def nmW (ts : List Wd) : List (List UInt8):=(ts.filter fun w => (w.k == 0) && !keyB w.t).map (·.t)
mutual
def Ex.nms : Ex → List (List UInt8)
 | .mk k _ _ nm ks _ => (if k = 2 ∨ k = 3 ∨ k = 7 then [nm] else []) ++ Ex.nmsL ks
def Ex.nmsL : List Ex → List (List UInt8)
 | [] => []
 | x :: r => Ex.nms x ++ Ex.nmsL r
end
theorem nmsL_append : ∀ l m : List Ex,Ex.nmsL (l ++ m) = Ex.nmsL l ++ Ex.nmsL m
 | [],m => by simp [Ex.nmsL]
 | x :: r,m => by simp only [List.cons_append,Ex.nmsL,nmsL_append r m,List.append_assoc]
theorem nmW_not {w : Wd} (h : w.k ≠ 0) (ts : List Wd) : nmW (w :: ts) = nmW ts:=by
 have : (w.k == 0) = false:=by simpa using h
 simp [nmW,this]
theorem nmW_key {w : Wd} (h : keyB w.t = true) (ts : List Wd) : nmW (w :: ts) = nmW ts:=by simp [nmW,h]
theorem nmW_name {w : Wd} (h : w.k = 0) (h2 : keyB w.t = false) (ts : List Wd) : nmW (w :: ts) = w.t :: nmW ts:=by simp [nmW,h,h2]
theorem Sg.ne0 {w : Wd} {t : List UInt8} (h : Sg w t) : w.k ≠ 0:=by rw [h.1];decide
def NmPost : Job → List Wd → Res → Prop
 | .thing,ts,.ok e ts' => nmW ts = e.nms ++ nmW ts'
 | .wth _,ts,.ok e ts' => (∀ w t,ts = w :: t → w.k ≠ 0) → nmW ts = e.nms ++ nmW ts'
 | .beh k,ts,.ok e ts' => k = 4 ∨ k = 5 → (∀ w t,ts = w :: t → w.k ≠ 0) → nmW ts = e.nms ++ nmW ts'
 | .nam,ts,.ok e ts' => (∀ w t,ts = w :: t → w.k = 0 ∧ keyB w.t = false) → nmW ts = e.nms ++ nmW ts'
 | .expr r,ts,.ok e ts' => 1 ≤ r → nmW ts = e.nms ++ nmW ts'
 | .loop r l,ts,.ok e ts' => 1 ≤ r → l.nms ++ nmW ts = e.nms ++ nmW ts'
 | .giv,ts,.okL es ts' => (∀ w t,ts = w :: t → w.k ≠ 0) → nmW ts = Ex.nmsL es ++ nmW ts'
 | .list acc,ts,.okL es ts' => Ex.nmsL acc ++ nmW ts = Ex.nmsL es ++ nmW ts'
 | _,_,_ => True
theorem P.nm {o : Nat} {j : Job} {ts : List Wd} {r : Res} (h : P o j ts r) : NmPost j ts r:=by
 induction h with
 | @num o w ts hk => exact (nmW_not (by rw [hk];decide) ts).trans rfl
 | @tru o w ts hk ht => exact (nmW_key (by rw [ht];decide) ts).trans rfl
 | @fls o w ts hk ht => exact (nmW_key (by rw [ht];decide) ts).trans rfl
 | @neg o w ts r hs h ih =>
  cases r with
  | ok e t => exact ih (.inl rfl) (by rintro w' t' e;cases e;exact hs.ne0)
  | okL | bad => trivial
 | @not o w ts r hs h ih =>
  cases r with
  | ok e t => exact ih (.inr rfl) (by rintro w' t' e;cases e;exact hs.ne0)
  | okL | bad => trivial
 | @par o w ts r hs h ih =>
  cases r with
  | ok e t => exact ih (by rintro w' t' e;cases e;exact hs.ne0)
  | okL | bad => trivial
 | @name o w ts r hs hk h ih =>
  cases r with
  | ok e t => exact ih (by rintro w' t' e;cases e;exact ⟨hs,hk⟩)
  | okL | bad => trivial
 | stray | behLim | behBad | wthLim | wthNo | wthBad | namElemBad | namCallBad | givLim | givNo | givBad | lstBad | exprBad | loopBad => trivial
 | @behOk o k w ts ts' e ho h ih =>
  intro hk hn
  rw [nmW_not (hn _ _ rfl)]
  have : (Ex.mk k 0 0 [] [e] w.a).nms = e.nms:=by
   simp only [Ex.nms,Ex.nmsL]
   rw [if_neg (by omega)]
   simp
  rw [this]
  exact ih
 | @wthOk o c w d ts ts' e ho h hd ih =>
  intro hn
  rw [nmW_not (hn _ _ rfl),ih (Int.le_refl _),nmW_not hd.ne0]
 | @namVar o w c ts h1 h2 =>
  intro hn
  rw [nmW_name (hn _ _ rfl).1 (hn _ _ rfl).2]
  rfl
 | @namElem o w c ts ts' e hs h ih =>
  intro hn
  rw [nmW_name (hn _ _ rfl).1 (hn _ _ rfl).2,ih (by rintro w' t' e;cases e;exact hs.ne0)]
  simp [Ex.nms,Ex.nmsL]
 | @namCall o w c ts ts' es hs h ih =>
  intro hn
  rw [nmW_name (hn _ _ rfl).1 (hn _ _ rfl).2,ih (by rintro w' t' e;cases e;exact hs.ne0)]
  simp [Ex.nms]
 | @givNone o w d ts ho hd =>
  intro hn
  rw [nmW_not (hn _ _ rfl),nmW_not hd.ne0]
  rfl
 | @givSome o w d f ts ts' es ho hd h hf ih =>
  intro hn
  simp only [NmPost,Ex.nmsL,List.nil_append] at ih
  rw [nmW_not (hn _ _ rfl),ih,nmW_not hf.ne0]
 | @lstMore o d ts ts' acc e r h hd h2 ih ih2 =>
  cases r with
  | ok | bad => trivial
  | okL es t =>
   simp only [NmPost,nmsL_append,Ex.nmsL,List.append_nil] at ih2 ⊢
   rw [ih (Int.le_refl _),nmW_not hd.ne0,← ih2,List.append_assoc]
 | @lstEnd o d ts ts' acc e h hd ih =>
  simp only [NmPost,nmsL_append,Ex.nmsL,List.append_nil]
  rw [ih (Int.le_refl _),List.append_assoc]
 | @expr o r ts ts' l res h h2 ih ih2 =>
  cases res with
  | ok e t =>
   intro hr
   rw [← ih2 hr,ih]
  | okL | bad => trivial
 | loopEnd hr => intro _;rfl
 | @loopMore o r l e c ts ts' res hr h h2 ih ih2 =>
  cases res with
  | okL | bad => trivial
  | ok x t =>
   intro h1
   have hc:=rkW_ne (w:=c) (by omega)
   rw [← ih2 h1,nmW_not (by rw [hc.1];decide),ih (by omega)]
   simp [Ex.nms,Ex.nmsL]
inductive Nums : Ex → Prop
 | mk {k o n : Int} {nm : List UInt8} {ks : List Ex} {a : Nat} : -9223372036854775808 ≤ n → n ≤ 9223372036854775807 → (∀ y,y ∈ ks → Nums y) → Nums (.mk k o n nm ks a)
theorem Nums.n {x : Ex} (h : Nums x) : -9223372036854775808 ≤ x.n ∧ x.n ≤ 9223372036854775807:=by
 cases h with
 | mk h1 h2 _ => exact ⟨h1,h2⟩
theorem Nums.kid {x y : Ex} (h : Nums x) (hy : y ∈ x.ks) : Nums y:=by
 cases h with
 | mk _ _ h3 => exact h3 y hy
theorem Fit.nums {o : Nat} {r : Int} {x : Ex} (h : Fit o r x) : Nums x:=by
 induction h with
 | num h1 h2 => exact .mk (by omega) h2 (by simp)
 | tru | fls => exact .mk (by decide) (by decide) (by simp)
 | var => exact .mk (by decide) (by decide) (by simp)
 | elem _ _ _ ih | neg _ _ ih | not _ _ ih => exact .mk (by decide) (by decide) (by simpa using ih)
 | two _ _ _ _ _ ih ih2 => exact .mk (by decide) (by decide) (by simp;exact ⟨ih,ih2⟩)
 | brk _ _ _ _ ih => exact ih
 | call _ _ _ ih => exact .mk (by decide) (by decide) ih
theorem txt0 {x : Ex} (h : x.k = 0) : x.txt = Lib.itoa x.n:=by rw [txt_parts,h];rfl
def lineT (n : Nat) (ps : List (List UInt8)) : List UInt8:=List.replicate n 9 ++ (ps.flatten ++ [10])
def typeT (tr sc : Bool) : List UInt8:=(if sc then [115,101,99,114,101,116,32] else [112,117,98,108,105,99,32]) ++ (if tr then kBool else kInt)
def onlyT : List Ex → List UInt8
 | [] => []
 | x :: _ => x.txt
def indexT : List Ex → List UInt8
 | [] => []
 | x :: _ => 91 :: (x.txt ++ [93])
def tVar : List UInt8:=[118,97,114,32]
def tEq : List UInt8:=[32,61,32]
def tIf : List UInt8:=[105,102,32,40]
def tBr : List UInt8:=[41,32,123]
def tElse : List UInt8:=[125,32,101,108,115,101,32,123]
def tWhile : List UInt8:=[119,104,105,108,101,32,40]
def tLock : List UInt8:=[108,111,99,107,32]
def tOpen : List UInt8:=[32,123]
def tOut : List UInt8:=[111,117,116,32]
def tThr : List UInt8:=[116,104,114,101,97,100,32,123]
mutual
def stT : Stm → Nat → List UInt8
 | .mk k _ tr sc nm ix es bd el,n =>
  if k = 0 then lineT n [tVar,typeT tr sc,[32],nm,tEq,onlyT es,[59]]
  else if k = 1 then lineT n [nm,indexT ix,tEq,onlyT es,[59]]
  else if k = 2 then lineT n [tIf,onlyT es,tBr] ++ (stsT bd (n + 1) ++ ((if el.isEmpty then [] else lineT n [tElse] ++ stsT el (n + 1)) ++ lineT n [[125]]))
  else if k = 3 then lineT n [tWhile,onlyT es,tBr] ++ (stsT bd (n + 1) ++ lineT n [[125]])
  else if k = 4 then lineT n [tLock,nm,tOpen] ++ (stsT bd (n + 1) ++ lineT n [[125]])
  else if k = 5 then lineT n [tOut,onlyT es,[59]]
  else []
def stsT : List Stm → Nat → List UInt8
 | [],_ => []
 | s :: r,n => stT s n ++ stsT r n
end
mutual
def Stm.cnt : Stm → Nat
 | .mk _ _ _ _ _ _ _ bd el => 1 + cntS bd + cntS el
def cntS : List Stm → Nat
 | [] => 0
 | s :: r => s.cnt + cntS r
end
def GoodE (x : Ex) : Prop:=x.cnt < 1000000 ∧ Nums x ∧ x.txt.length ≤ 1000000 ∧ Fit 0 1 x
def NmOk (t : List UInt8) : Prop:=t = [] ∨ NameB t
theorem NmOk.len {t : List UInt8} (h : NmOk t) : t.length ≤ 100000:=by
 rcases h with rfl | ⟨_,_,_,_,_,h24,_⟩
 · simp
 · omega
inductive GoodS : Stm → Prop
 | mk {k a : Int} {tr sc : Bool} {nm : List UInt8} {ix es : List Ex} {bd el : List Stm} : 0 ≤ k → k ≤ 5 → (∀ x ∈ ix,GoodE x) → (∀ x ∈ es,GoodE x) → NmOk nm → (∀ s ∈ bd,GoodS s) → (∀ s ∈ el,GoodS s) → GoodS (.mk k a tr sc nm ix es bd el)
theorem cnt_mem {s : Stm} : ∀ {l : List Stm},s ∈ l → s.cnt ≤ cntS l
 | x :: r,h => by
  simp only [cntS]
  rcases List.mem_cons.1 h with rfl | h
  · omega
  · have:=cnt_mem h
    omega
end Go.Proofs.Ytbmmjomcjlpnlaa
namespace Go.Proofs.Ytbmmjomcjlpnlaa
open Go Go.RowKit
def KW (B b : Nat) (w w' : World) : Prop:=Below B w w' ∧ Lib.OthersKept 5 (some b) w w'
section
variable {B b : Nat} {bs : List Value} {tabs : Int} {w w' w'' : World}
theorem KW.refl (B b : Nat) (w : World) : KW B b w w:=⟨Below.refl _ _,Lib.OthersKept.refl _ _ _⟩
theorem KW.trans (h : KW B b w w') (k : KW B b w' w'') : KW B b w w'':=⟨h.1.trans k.1,h.2.trans k.2⟩
theorem KW.size (h : KW B b w w') : w.heap.size ≤ w'.heap.size:=h.1.size
theorem KW.alloc (h : KW B b w w') (hB : B ≤ w'.heap.size) (o : Obj) : KW B b w (w'.alloc o):=⟨h.1.alloc hB _,h.2.alloc o⟩
theorem KW.below (hB : B ≤ w.heap.size) (hb : Below w.heap.size w w') : KW B b w w':=⟨hb.mono hB,fun k o ho _ _ => (hb.block k (Array.getElem?_eq_some_iff.1 ho).1).trans ho⟩
theorem KW.stay (h : KW B b w w') (hB : B ≤ w'.heap.size) (hb : Below w'.heap.size w' w'') : KW B b w w'':=h.trans (.below hB hb)
end
end Go.Proofs.Ytbmmjomcjlpnlaa
namespace Go.Proofs.Ytbmmjomcjlpnlaa
open Go Go.RowKit
theorem IsExP.form {ok : Nat → Prop} {W : World} {e : Ex} {v : Value} (h : IsExP ok W e v) : ∃ p c,v = .slice p e.ks.length c:=by
 cases h with
 | leaf => exact ⟨_,_,rfl⟩
 | node g cap => exact ⟨_,_,rfl⟩
def Strs (w : World) (g : Nat) (ps : List (List UInt8)) : Prop:=w.heap[g]? = some (.cells (ps.map fun p => Value.string (bstr p)).toArray 9 (0,0))
theorem Strs.at_ {w : World} {g : Nat} {ps : List (List UInt8)} (h : Strs w g ps) (k : Nat) (p : List UInt8) (hp : ps[k]? = some p) : w.cell? ⟨g,k,none⟩ = some (.string (bstr p)):=by
 rw [cell_of_row _ _ _ _ _ _ h]
 simp [hp]
theorem below_of_alloc (W : World) (o : Obj) : Below W.heap.size W (W.alloc o):=(Below.refl _ _).alloc (Nat.le_refl _) _
theorem below_ch {W a c : World} (h : Below W.heap.size W a) (k : Below a.heap.size a c) : Below W.heap.size W c :=
 ⟨k.os.trans h.os,k.tape.trans h.tape,k.output.trans h.output,Nat.le_trans h.size k.size,fun i hi => (k.block i (Nat.lt_of_lt_of_le hi h.size)).trans (h.block i hi)⟩
theorem IsSt1.slices {ok : Nat → Prop} {W : World} {s : Stm} {v : SV} (h : IsSt1 ok W s v) : ∃ z1 k1 z2 k2 z3 k3 z4 k4,v = ⟨.slice z1 s.ix.length k1,.slice z2 s.es.length k2,.slice z3 s.bd.length k3,.slice z4 s.el.length k4⟩:=by
 obtain ⟨h1,h2,h3,h4⟩:=h
 obtain ⟨z1,k1,e1⟩:=h1.form
 obtain ⟨z2,k2,e2⟩:=h2.form
 obtain ⟨z3,k3,e3⟩:=h3.form
 obtain ⟨z4,k4,e4⟩:=h4.form
 refine ⟨z1,k1,z2,k2,z3,k3,z4,k4,?_⟩
 cases v
 simp only at e1 e2 e3 e4
 rw [e1,e2,e3,e4]
 rfl
end Go.Proofs.Ytbmmjomcjlpnlaa
namespace Go.Proofs.Ytbmmjomcjlpnlaa
open Go Go.RowKit
def setsAt (X : World) (g o : Nat) : List Value → Nat → World
 | [],_ => X
 | v :: r,i => setsAt (X.setCell ⟨g,o + i,none⟩ v) g o r (i + 1)
theorem setsAt_other (g o b : Nat) (hb : b ≠ g) : ∀ (vs : List Value) (i : Nat) (X : World),(setsAt X g o vs i).heap[b]? = X.heap[b]?
 | [],_,_ => rfl
 | v :: r,i,X => (setsAt_other g o b hb r (i + 1) _).trans (heap_setCell_other X ⟨g,o + i,none⟩ b v hb)
theorem setsAt_size (g o : Nat) : ∀ (vs : List Value) (i : Nat) (X : World),(setsAt X g o vs i).heap.size = X.heap.size
 | [],_,_ => rfl
 | v :: r,i,X => (setsAt_size g o r (i + 1) _).trans (by simp)
theorem setsAt_else (g o : Nat) : ∀ (vs : List Value) (i : Nat) (X : World),(setsAt X g o vs i).os = X.os ∧ (setsAt X g o vs i).tape = X.tape ∧ (setsAt X g o vs i).output = X.output
 | [],_,_ => ⟨rfl,rfl,rfl⟩
 | v :: r,i,X => by
  obtain ⟨a,b,c⟩:=setsAt_else g o r (i + 1) (X.setCell ⟨g,o + i,none⟩ v)
  obtain ⟨e1,e2,e3⟩:=setCell_else X ⟨g,o + i,none⟩ v
  exact ⟨a.trans e1,b.trans e2,c.trans e3⟩
theorem setsAt_same (g o : Nat) (T : TypeId) : ∀ (vs : List Value) (i : Nat) (X : World) (cs : Array Value),X.heap[g]? = some (.cells cs T (0,0)) → o + i + vs.length ≤ cs.size →
 ∃ cs',(setsAt X g o vs i).heap[g]? = some (.cells cs' T (0,0)) ∧ cs'.size = cs.size ∧ (∀ j u,vs[j]? = some u → cs'[o + i + j]? = some u) ∧ ∀ q,(q < o + i ∨ o + i + vs.length ≤ q) → cs'[q]? = cs[q]?
 | [],i,X,cs,h,_ => ⟨cs,h,rfl,fun j u hu => by simp at hu,fun _ _ => rfl⟩
 | v :: r,i,X,cs,h,hl => by
  have hs:=heap_setCell_same X g (o + i) cs T v h
  simp only [List.length_cons] at hl
  obtain ⟨cs',h1,h2,h3,h4⟩:=setsAt_same g o T r (i + 1) _ _ hs (by simp;omega)
  refine ⟨cs',h1,by rw [h2];simp,fun j u hu => ?_,fun q hq => ?_⟩
  · cases j with
    | zero =>
     simp only [List.getElem?_cons_zero,Option.some.injEq] at hu
     subst hu
     rw [Nat.add_zero,h4 (o + i) (by omega)]
     have : o + i < cs.size:=by omega
     simp [Array.getElem?_setIfInBounds,this]
    | succ j =>
     simp only [List.getElem?_cons_succ] at hu
     have:=h3 j u hu
     rw [show o + i + (j + 1) = o + (i + 1) + j by omega]
     exact this
  · simp only [List.length_cons] at hq
    rw [h4 q (by omega),Array.getElem?_setIfInBounds,if_neg (by omega)]
def Filled (W : World) (g : Nat) (T : TypeId) (n K k : Nat) (F : Nat → List Value) : Prop :=
 ∃ cs,W.heap[g]? = some (.cells cs T (0,0)) ∧ cs.size = n * K ∧ ∀ i,i < k → ∀ j u,j < K → (F i)[j]? = some u → cs[i * K + j]? = some u
section
variable {W X : World} {g n K k : Nat} {T : TypeId} {F : Nat → List Value}
theorem Filled.zero (z : Array Value) (F : Nat → List Value) : Filled (W.alloc (.cells (madeCells z (n * K)) T)) W.heap.size T n K 0 F:=⟨_,heap_alloc_new W _,size_madeCells _ _,fun i h => absurd h (Nat.not_lt_zero i)⟩
theorem Filled.stay (h : Filled W g T n K k F) (hb : Below W.heap.size W X) : Filled X g T n K k F:=by
 obtain ⟨cs,h1,h2⟩:=h
 exact ⟨cs,(hb.block g (Array.getElem?_eq_some_iff.1 h1).1).trans h1,h2⟩
theorem Filled.lt (h : Filled W g T n K k F) : g < W.heap.size:=by
 obtain ⟨cs,h1,_⟩:=h
 exact (Array.getElem?_eq_some_iff.1 h1).1
theorem Filled.frozen (h : Filled W g T n K k F) (j : Nat) : W.frozen? ⟨g,j,none⟩ = false:=by
 obtain ⟨cs,h1,_⟩:=h
 exact frozen_of_row W g j cs T h1
theorem Filled.cell (h : Filled W g T n K k F) {j : Nat} (hj : j < n * K) : ∃ u,W.cell? ⟨g,j,none⟩ = some u:=by
 obtain ⟨cs,h1,h2,_⟩:=h
 exact ⟨_,(cell_of_row W g j cs T _ h1).trans (Array.getElem?_eq_getElem (by omega))⟩
theorem Filled.more (h : Filled W g T n K k F) (hk : k < n) (us : List Value) (hu : us.length = K) (hF : F k = us) : Filled (setsAt W g (k * K) us 0) g T n K (k + 1) F:=by
 obtain ⟨cs,h1,h2,h3⟩:=h
 have hle : (k + 1) * K ≤ n * K:=Nat.mul_le_mul_right K hk
 rw [Nat.add_mul,Nat.one_mul] at hle
 obtain ⟨cs',e1,e2,e3,e4⟩:=setsAt_same g (k * K) T us 0 W cs h1 (by omega)
 refine ⟨cs',e1,e2.trans h2,fun i hi j u hjK hj => ?_⟩
 by_cases he : i = k
 · subst he
   rw [hF] at hj
   exact e3 j u hj
 · have hlt : i < k:=by omega
   have : (i + 1) * K ≤ k * K:=Nat.mul_le_mul_right K hlt
   rw [Nat.add_mul,Nat.one_mul] at this
   rw [e4 _ (by omega)]
   exact h3 i hlt j u hjK hj
end
theorem below_sets {B : Nat} {V W : World} (h : Below B V W) {g : Nat} (hg : B ≤ g) (o : Nat) (us : List Value) (i : Nat) : Below B V (setsAt W g o us i):=by
 obtain ⟨e1,e2,e3⟩:=setsAt_else g o us i W
 exact ⟨e1.trans h.os,e2.trans h.tape,e3.trans h.output,by rw [setsAt_size];exact h.size,fun b hb => (setsAt_other g o b (by omega) us i W).trans (h.block b hb)⟩
end Go.Proofs.Ytbmmjomcjlpnlaa
namespace Go.Proofs.Ytbmmjomcjlpnlaa
open Go Go.RowKit
theorem infoS1 : (Try.prog.info? 9).map (fun i => (i.zero,i.size,i.bytes)) = some (some (.string ⟨#[]⟩),1,16):=by kernel_rfl
def strF (l : List ByteArray) (i : Nat) : List Value:=[.string (l.getD i ⟨#[]⟩)]
theorem cstrs_some {l : List ByteArray} {gs c : Nat} (w : World) (hgl : gs < w.heap.size) (hcs : ∀ i a,l[i]? = some a → w.cell? ⟨gs,i,none⟩ = some (.string a)) (n : Nat) (hln : l.length = n) (hn : n ≤ 1000000) (hm : ∀ q ∈ l,q.size ≤ 281474976710656) :
 Calls Try.prog 39 #[.slice (some ⟨gs,0,none⟩) n c,.func (.func 33) #[] #[]] w fun e w' => Below w.heap.size w w' ∧ ∃ g,e = .returned (.slice (some ⟨g,0,none⟩) n n) ∧ w.heap.size ≤ g ∧ Filled w' g 9 n 1 n (strF l):=by
 obtain ⟨i0,hinf,hzi0,hzi1,hzi2⟩:=info_parts infoS1
 have hmk : (Instr.makeSlice 50 (.int .i64 n) (.int .i64 n)).run Try.prog w = .ok (.slice (some ⟨w.heap.size,0,none⟩) n n) (w.alloc (.cells (madeCells (Value.string ⟨#[]⟩).cells (n * 1)) 9)):=by
  have h:=run_make (P:=Try.prog) w 50 9 i0 _ Try.underlying50 hinf hzi0 .i64 .i64 n n (by omega) (Int.le_refl _) (by rw [hzi2];omega) (by omega)
  rw [hzi1] at h
  simpa using h
 have heq : (binOp .eql 50 (.slice (some ⟨gs,0,none⟩) n c) (.slice none 0 0)).run Try.prog w = .ok (.bool false) w:=Lib.run_eql_slice_nil w _ _ _ _ _ _ _ Try.underlying50
 have HCS:=hid hcs
 have HLN:=hid hln
 have HM:=hid hm
 clear hcs hln hm
 go_enter Try.func39,Try.ntmps39
 go_upto_region 4 with (fail)
 refine name_world ?_
 intro W1 hW1
 have HF0 : Filled W1 w.heap.size 9 n 1 0 (strF l):=by (rw [hW1];have h:=Filled.zero (W:=w) (T:=9) (n:=n) (K:=1) #[.string ⟨#[]⟩] (strF l);rwa [Nat.mul_one] at h)
 have HB1 : Below w.heap.size w W1:=by (rw [hW1];exact (Below.refl _ _).alloc (Nat.le_refl _) _)
 have hgg : w.heap.size < W1.heap.size:=HF0.lt
 have hHF:=hid HF0
 have hHB:=hid HB1
 clear HF0 HB1 hW1 hmk hinf hzi0 hzi1 hzi2
 go_wp2
 go_loopw [15] (fun iv wr => ∃ k : Nat,iv = .int .i64 k ∧ k ≤ n ∧ Below w.heap.size w wr ∧ Filled wr w.heap.size 9 n 1 k (strF l)) (fun iv _ => n - (intOf iv).toNat)
 case atStart => exact ⟨0,rfl,Nat.zero_le _,hHB.out,hHF.out⟩
 case round =>
  obtain ⟨k,rfl,hk,hbr,hfr⟩:=hrel
  have HBR:=hid hbr
  have HFR:=hid hfr
  by_cases hkl : k < n
  · obtain ⟨x,hx⟩ : ∃ x,l[k]? = some x:=⟨_,List.getElem?_eq_getElem (by (have:=HLN.out;omega))⟩
    have d0 : wr.cell? ⟨gs,k,none⟩ = some (.string x):=(hbr.cell (p:=⟨gs,k,none⟩) hgl).trans (HCS.out k x hx)
    have hlt : (k : Int) < (n : Int):=by omega
    have hk0 : (0 : Int) ≤ (k : Int):=Int.natCast_nonneg _
    have HX:=hid hx
    have hnb : x.size ≤ 281474976710656:=HM.out x (List.mem_of_getElem? hx)
    clear hbr hfr hx
    go_upto_region 8 with (go_at_call 33;(with_reducible refine (clone_any _ _ hnb).mono ?_);rintro e1 w9 ⟨rfl,hb9⟩;have HF9:=hid (HFR.out.stay hb9);have HB9:=hid (below_ch HBR.out hb9);have fz0:=HF9.out.frozen k;have hl9:=HF9.out.lt;obtain ⟨y0,cy0⟩:=HF9.out.cell (j:=k) (by omega);clear hb9)
    have hset : w9.setCell ⟨w.heap.size,k,none⟩ (.string x) = setsAt w9 w.heap.size k [.string x] 0:=rfl
    rw [hset]
    have HFn : Hid (Filled (setsAt w9 w.heap.size k [.string x] 0) w.heap.size 9 n 1 (k + 1) (strF l)):=hid (by (have h:=HF9.out.more hkl [.string x] rfl (by show [Value.string (l.getD k _)] = _;rw [List.getD_eq_getElem?_getD,HX.out];rfl);rwa [Nat.mul_one] at h))
    have HBn:=hid (below_sets HB9.out (Nat.le_refl _) k [.string x] 0)
    clear hset
    go_wp2
    go_roundw
    case rel => exact ⟨k + 1,by go_num,by omega,HBn.out,HFn.out⟩
    case measure =>
     simp [intOf]
     omega
  · have hlt : ¬ (k : Int) < (n : Int):=by omega
    obtain rfl : n = k:=by omega
    go_wp2
    go_ret
    exact ⟨HBR.out,_,rfl,Nat.le_refl _,HFR.out⟩
theorem cstrs_nil (n c : Nat) (w : World) :
 Calls Try.prog 39 #[.slice none n c,.func (.func 33) #[] #[]] w fun e w' => e = .returned (.slice none 0 0) ∧ w' = w:=by
 have heq : (binOp .eql 50 (.slice none n c) (.slice none 0 0)).run Try.prog w = .ok (.bool true) w:=Lib.run_eql_slice_nil w _ _ _ _ _ _ _ Try.underlying50
 go_enter Try.func39,Try.ntmps39
 go_wp2
 go_ret
 exact ⟨rfl,rfl⟩
end Go.Proofs.Ytbmmjomcjlpnlaa
namespace Go.Proofs.Ytbmmjomcjlpnlaa
open Go Go.RowKit Go.ChangeMaps Go.MapKept Go.WideElems Go.Maps
def RV (v : Value) : Option (DataW Value × List MemPlace):=some (.held v,[])
abbrev KF : Type:=List UInt8 → Option Value
def KF.upd (f : KF) (s : List UInt8) (v : Value) : KF:=fun t => if t = s then some v else f t
def KF.del (f : KF) (s : List UInt8) : KF:=fun t => if t = s then none else f t
def KMap (W : World) (b n : Nat) (f : KF) : Prop:=∃ D : DataW Value,W.ownsMap Try.prog 9 RV b n D ∧ ∀ (s : List UInt8) (z : DataW Value),D.atKey (.string s) z = match f s with | some v => .held v | none => z
theorem keyedM : Keyed Try.prog 9:=string_keyed Try.underlying9
theorem keyOfS {s : ByteArray} (h : s.size ≤ maxLen) : keyOf Try.prog 9 (.string s) = some (.string s.data.toList):=by
 simp [keyOf,mapKey,Try.underlying9,h]
section
variable {W X : World} {b n : Nat} {f : KF}
theorem KMap.made (W : World) : KMap (W.alloc (.map #[] 0)) W.heap.size 0 (fun _ => none):=⟨.map [],World.ownsMap_made W _ _ RV,fun _ _ => rfl⟩
theorem KMap.lt (h : KMap W b n f) : b < W.heap.size:=by
 obtain ⟨D,h1,_⟩:=h
 exact h1.lt
theorem KMap.kept (h : KMap W b n f) {row : Option Nat} (hg : W.grownBy X row) (hne : some b ≠ row) : KMap X b n f:=by
 obtain ⟨D,h1,h2⟩:=h
 exact ⟨D,h1.kept hg hne,h2⟩
theorem KMap.stay (h : KMap W b n f) (hb : Below W.heap.size W X) : KMap X b n f:=h.kept (row:=none) ⟨hb.os,hb.tape,hb.output,hb.size,fun k hk _ => hb.block k hk⟩ (by simp)
theorem KMap.setCell (h : KMap W b n f) {c : Nat} (hc : b ≠ c) (o : Nat) (v : Value) : KMap (W.setCell ⟨c,o,none⟩ v) b n f:=by
 obtain ⟨D,h1,h2⟩:=h
 exact ⟨D,h1.setCell (a:=⟨c,o,none⟩) hc v,h2⟩
theorem KMap.mono (h : KMap W b n f) {m : Nat} (hm : n ≤ m) : KMap W b m f:=by
 obtain ⟨D,h1,h2⟩:=h
 exact ⟨D,h1.mono hm,h2⟩
theorem zeroIface (W : World) : (zeroValue 20).run Try.prog W = .ok .nilIface W:=by
 kernel_rfl
theorem KMap.look (h : KMap W b n f) {s : ByteArray} (hs : s.size ≤ maxLen) : (Instr.lookup 86 (.map (some b)) (.string s) false).run Try.prog W = .ok ((f s.data.toList).getD .nilIface) W:=by
 obtain ⟨D,h1,h2⟩:=h
 obtain ⟨v,ps,hr,hv⟩:=h1.lookup keyedM Try.underlying86 (zeroIface W) (zd:=.held .nilIface) (zp:=[]) rfl (keyOfS hs)
 rw [h2] at hv
 have e : v = (f s.data.toList).getD .nilIface:=by
  cases hf : f s.data.toList with
  | none =>
   rw [hf] at hv
   exact (by simpa [RV] using hv : _ ∧ _).1
  | some u =>
   rw [hf] at hv
   exact (by simpa [RV] using hv : _ ∧ _).1
 rw [hr,e]
theorem look_nil {s : ByteArray} (hs : s.size ≤ maxLen) (W : World) : (Instr.lookup 86 (.map none) (.string s) false).run Try.prog W = .ok .nilIface W :=
 Maps.look_nil false keyedM Try.underlying86 (zeroIface W) (keyOfS hs)
theorem KMap.put_ {D : DataW Value} {s : List UInt8} {v : Value} (hm : IsMap D) (h2 : ∀ (t : List UInt8) (z : DataW Value),D.atKey (.string t) z = match f t with | some v => .held v | none => z) (t : List UInt8) (z : DataW Value) :
 (D.put (.string s) (.held v)).atKey (.string t) z = match f.upd s v t with | some v => .held v | none => z:=by
 by_cases e : t = s
 · subst e
   rw [atKey_put_same hm (show WideAt.IsKeyLit (.string t) from trivial)]
   simp [KF.upd]
 · rw [atKey_put_other (by simpa using e),h2]
   simp [KF.upd,e]
theorem KMap.del_ {D : DataW Value} {s : List UInt8} (h2 : ∀ (t : List UInt8) (z : DataW Value),D.atKey (.string t) z = match f t with | some v => .held v | none => z) (t : List UInt8) (z : DataW Value) :
 (D.del (.string s)).atKey (.string t) z = match f.del s t with | some v => .held v | none => z:=by
 by_cases e : t = s
 · subst e
   rw [atKey_del_same]
   simp [KF.del]
 · rw [atKey_del_other (by simpa using e),h2]
   simp [KF.del,e]
theorem KMap.run_put (h : KMap W b n f) (hn : n < maxLen) {s : ByteArray} (hs : s.size ≤ maxLen) (val : Value) :
 ∃ w',(Instr.mapUpdate 86 (.map (some b)) (.string s) val).run Try.prog W = .ok () w' ∧ KMap w' b (n + 1) (f.upd s.data.toList val) ∧ W.grownBy w' (some b):=by
 obtain ⟨D,h1,h2⟩:=h
 obtain ⟨w',hrun,r1,r2⟩:=h1.update keyedM Try.underlying86 hn (keyOfS hs) (val:=val) rfl
 exact ⟨w',hrun,⟨_,r1,KMap.put_ h1.isMap h2⟩,r2⟩
theorem KMap.run_del (h : KMap W b n f) {s : ByteArray} (hs : s.size ≤ maxLen) (ty : TypeId) :
 ∃ w',(Builtin.delete_ #[86,9] ty #[.map (some b),.string s]).run Try.prog W = .ok (.tuple #[]) w' ∧ KMap w' b n (f.del s.data.toList) ∧ W.grownBy w' (some b):=by
 obtain ⟨D,h1,h2⟩:=h
 obtain ⟨w',hrun,r1,r2⟩:=h1.drop keyedM Try.underlying86 (keyOfS hs) ty
 exact ⟨w',hrun,⟨_,r1,KMap.del_ h2⟩,r2.grown⟩
end
theorem run_eql_map_nil (W : World) (m : Option Nat) : (binOp .eql 86 (.map m) (.map none)).run Try.prog W = .ok (.bool m.isNone) W:=by
 have h:=run_neq_map_nil (P:=Try.prog) W 86 _ _ m Try.underlying86
 cases m with
 | none =>
  simp only [binOp] at h ⊢
  simp [run_equal_map_nil W 86 _ _ none Try.underlying86]
 | some b =>
  simp only [binOp] at h ⊢
  simp [run_equal_map_nil W 86 _ _ (some b) Try.underlying86]
end Go.Proofs.Ytbmmjomcjlpnlaa
namespace Go.Proofs.Ytbmmjomcjlpnlaa
open Go Go.RowKit
theorem PBlk.setO {X : World} {n : Nat} {s : ByteArray} {tr sc : Bool} (h : PBlk X n s tr sc) {b : Nat} (hne : n ≠ b) (o : Nat) (v : Value) : PBlk (X.setCell ⟨b,o,none⟩ v) n s tr sc:=(heap_setCell_other X ⟨b,o,none⟩ n v hne).trans h
theorem PBlk.all {X : World} {n : Nat} {s s' : ByteArray} {tr sc tr' sc' : Bool} (h : PBlk X n s tr sc) : PBlk (((X.setCell ⟨n,0,none⟩ (.string s')).setCell ⟨n,1,none⟩ (.bool tr')).setCell ⟨n,2,none⟩ (.bool sc')) n s' tr' sc' :=
 heap_setCell_same _ n 2 _ _ _ (heap_setCell_same _ n 1 _ _ _ (heap_setCell_same X n 0 _ _ _ h))
theorem results_pm {X : World} {n : Nat} {s : ByteArray} {tr sc : Bool} {fn : Func} {p : Tmp} (hfn : fn.results = #[.cell p 137]) (tmps : Array Value) (hp : tmps.getD p undef = .pointer (some ⟨n,0,none⟩)) (h : PBlk X n s tr sc) :
 (results fn tmps).run Try.prog X = .ok (.agg #[.string s,.bool tr,.bool sc]) X:=by
 have hp' : tmps[p]?.getD undef = .pointer (some ⟨n,0,none⟩):=by simpa using hp
 simp [results,hfn,hp',asAddr,run_loadVar_row X n 137 137 _ (0,0) _ h Try.underlying137 rfl (by kernel_rfl)]
theorem cparam_any (s : ByteArray) (tr sc : Bool) (w : World) (hs : s.size ≤ 281474976710656) :
 Calls Try.prog 55 #[.agg #[.string s,.bool tr,.bool sc]] w fun e w' => e = .returned (.agg #[.string s,.bool tr,.bool sc]) ∧ Below w.heap.size w w':=by
 go_enter Try.func55,Try.ntmps55
 go_upto_region 1 with (fail)
 refine name_world ?_
 intro W1 hW1
 have BA : PBlk W1 w.heap.size s tr sc:=by (rw [hW1];exact (PBlk.new rfl).alloc _)
 have BB : PBlk W1 (w.heap.size + 1) ⟨#[]⟩ false false:=by (rw [hW1];exact PBlk.new (by simp))
 have HB : Below w.heap.size w W1:=by (rw [hW1];exact ((Below.refl _ _).alloc (Nat.le_refl _) _).alloc (by simp) _)
 clear hW1
 have HB1:=hid HB
 clear HB
 obtain ⟨al,a0,a1,a2,f0,f1,f2⟩:=BA.facts
 go_upto_region 2 with (go_at_call 33;(with_reducible refine (clone_any _ _ hs).mono ?_);rintro e1 w1 ⟨rfl,hb1⟩;obtain ⟨al1,a01,a11,a21,f01,f11,f21⟩:=(BA.stay hb1).facts;have HB2:=hid (below_ch HB1.out hb1);replace BA:=BA.stay hb1;replace BB:=BB.stay hb1;clear hb1)
 refine name_world ?_
 intro W2 hW2
 replace BA : PBlk W2 w.heap.size s tr sc:=by (rw [hW2];exact BA.set0 s)
 replace BB : PBlk W2 (w.heap.size + 1) ⟨#[]⟩ false false:=by (rw [hW2];exact BB.setO (by omega) _ _)
 have HB3 : Hid (Below w.heap.size w W2):=hid (by (rw [hW2];exact HB2.out.setCell (by simp) _))
 clear hW2 HB1 HB2 al a0 a1 a2 f0 f1 f2 al1 a01 a11 a21 f01 f11 f21
 obtain ⟨al,a0,a1,a2,_⟩:=BA.facts
 obtain ⟨bl,b0,b1,b2,f0,f1,f2⟩:=BB.facts
 go_wp2
 refine bodyPost_ret (results_pm rfl _ rfl BB.all) rfl ⟨rfl,?_⟩
 exact (((HB3.out.setCell (by simp) _).setCell (by simp) _).setCell (by simp) _)
theorem cparams_some {l : List Pm} {gs c : Nat} (w : World) (cs0 : Array Value) (fr0 : Nat × Nat) (hg : w.heap[gs]? = some (.cells cs0 137 fr0)) (hcs : ∀ i a,l[i]? = some a → ∀ j u,(pmCells a)[j]? = some u → cs0[i * 3 + j]? = some u) (n : Nat) (hln : l.length = n) (hn : n ≤ 1000000) (hm : ∀ q ∈ l,q.nm.length ≤ 100000) :
 Calls Try.prog 54 #[.slice (some ⟨gs,0,none⟩) n c,.func (.func 55) #[] #[]] w fun e w' => Below w.heap.size w w' ∧ ∃ g,e = .returned (.slice (some ⟨g,0,none⟩) n n) ∧ w.heap.size ≤ g ∧ Filled w' g 137 n 3 n (fun i => pmCells (l.getD i ⟨[],false,false⟩)):=by
 obtain ⟨i0,hinf,hzi0,hzi1,hzi2⟩:=info_parts infoPm
 have hmk : (Instr.makeSlice 59 (.int .i64 n) (.int .i64 n)).run Try.prog w = .ok (.slice (some ⟨w.heap.size,0,none⟩) n n) (w.alloc (.cells (madeCells (Value.agg #[.string ⟨#[]⟩,.bool false,.bool false]).cells (n * 3)) 137)):=by
  have h:=run_make (P:=Try.prog) w 59 137 i0 _ Try.underlying59 hinf hzi0 .i64 .i64 n n (by omega) (Int.le_refl _) (by rw [hzi2];omega) (by omega)
  rw [hzi1] at h
  simpa using h
 have heq : (binOp .eql 59 (.slice (some ⟨gs,0,none⟩) n c) (.slice none 0 0)).run Try.prog w = .ok (.bool false) w:=Lib.run_eql_slice_nil w _ _ _ _ _ _ _ Try.underlying59
 have HCS:=hid hcs
 have HLN:=hid hln
 have HM:=hid hm
 have hgl : gs < w.heap.size:=(Array.getElem?_eq_some_iff.1 hg).1
 have HG:=hid hg
 clear hcs hln hm hg
 go_enter Try.func54,Try.ntmps54
 go_upto_region 4 with (fail)
 refine name_world ?_
 intro W1 hW1
 have HF0 : Filled W1 w.heap.size 137 n 3 0 (fun i => pmCells (l.getD i ⟨[],false,false⟩)):=by (rw [hW1];exact Filled.zero _ _)
 have HB1 : Below w.heap.size w W1:=by (rw [hW1];exact (Below.refl _ _).alloc (Nat.le_refl _) _)
 have hgg : w.heap.size < W1.heap.size:=HF0.lt
 have hHF:=hid HF0
 have hHB:=hid HB1
 clear HF0 HB1 hW1 hmk hinf hzi0 hzi1 hzi2
 go_wp2
 go_loopw [15] (fun iv wr => ∃ k : Nat,iv = .int .i64 k ∧ k ≤ n ∧ Below w.heap.size w wr ∧ Filled wr w.heap.size 137 n 3 k (fun i => pmCells (l.getD i ⟨[],false,false⟩))) (fun iv _ => n - (intOf iv).toNat)
 case atStart => exact ⟨0,rfl,Nat.zero_le _,hHB.out,hHF.out⟩
 case round =>
  obtain ⟨k,rfl,hk,hbr,hfr⟩:=hrel
  have HBR:=hid hbr
  have HFR:=hid hfr
  by_cases hkl : k < n
  · obtain ⟨x,hx⟩ : ∃ x,l[k]? = some x:=⟨_,List.getElem?_eq_getElem (by (have:=HLN.out;omega))⟩
    have hgr:=(hbr.block gs hgl).trans HG.out
    have hgw : gs < wr.heap.size:=Nat.lt_of_lt_of_le hgl hbr.size
    have d0 : wr.cell? ⟨gs,k * 3,none⟩ = some (.string (bstr x.nm)):=(Lib.cell_of_heap hgr _).trans (HCS.out k x hx 0 _ rfl)
    have d1 : wr.cell? ⟨gs,k * 3 + 1,none⟩ = some (.bool x.tr):=(Lib.cell_of_heap hgr _).trans (HCS.out k x hx 1 _ rfl)
    have d2 : wr.cell? ⟨gs,k * 3 + 2,none⟩ = some (.bool x.sc):=(Lib.cell_of_heap hgr _).trans (HCS.out k x hx 2 _ rfl)
    have hlt : (k : Int) < (n : Int):=by omega
    have hk0 : (0 : Int) ≤ (k : Int):=Int.natCast_nonneg _
    have HX:=hid hx
    have hnb : (bstr x.nm).size ≤ 281474976710656:=by (have h : x.nm.length ≤ 100000:=HM.out x (List.mem_of_getElem? hx);show x.nm.length ≤ _;omega)
    clear hbr hfr hgr hx
    go_upto_region 7 with (fail)
    refine name_world ?_
    intro W2 hW2
    have HP : PBlk W2 wr.heap.size (bstr x.nm) x.tr x.sc:=by (rw [hW2];exact PBlk.new rfl)
    have HB2 : Hid (Below w.heap.size w W2):=hid (by (rw [hW2];exact HBR.out.alloc HBR.out.size _))
    have HF2 : Hid (Filled W2 w.heap.size 137 n 3 k (fun i => pmCells (l.getD i ⟨[],false,false⟩))):=hid (by (rw [hW2];exact HFR.out.stay ((Below.refl _ _).alloc (Nat.le_refl _) _)))
    obtain ⟨pl,pc0,pc1,pc2,_⟩:=HP.facts
    clear hW2 d0 d1 d2 HP
    go_upto_region 8 with (go_at_call 55;(with_reducible refine (cparam_any _ _ _ _ hnb).mono ?_);rintro e1 w9 ⟨rfl,hb9⟩;have HF9:=hid (HF2.out.stay hb9);have HB9:=hid (below_ch HB2.out hb9);have fz0:=HF9.out.frozen (k * 3);have fz1:=HF9.out.frozen (k * 3 + 1);have fz2:=HF9.out.frozen (k * 3 + 2);have hl9:=HF9.out.lt;obtain ⟨y0,cy0⟩:=HF9.out.cell (j:=k * 3) (by omega);obtain ⟨y1,cy1⟩:=HF9.out.cell (j:=k * 3 + 1) (by omega);obtain ⟨y2,cy2⟩:=HF9.out.cell (j:=k * 3 + 2) (by omega))
    have hget : (fun i => pmCells (l.getD i ⟨[],false,false⟩)) k = pmCells x:=by
     show pmCells (l.getD k _) = _
     rw [List.getD_eq_getElem?_getD,HX.out]
     rfl
    have hset : ((w9.setCell ⟨w.heap.size,k * 3,none⟩ (.string (bstr x.nm))).setCell ⟨w.heap.size,k * 3 + 1,none⟩ (.bool x.tr)).setCell ⟨w.heap.size,k * 3 + 2,none⟩ (.bool x.sc) = setsAt w9 w.heap.size (k * 3) (pmCells x) 0:=rfl
    rw [hset]
    have HFn:=hid (HF9.out.more hkl (pmCells x) rfl hget)
    have HBn:=hid (below_sets HB9.out (Nat.le_refl _) (k * 3) (pmCells x) 0)
    clear hset hget
    go_wp2
    go_roundw
    case rel =>
     exact ⟨k + 1,by go_num,by omega,HBn.out,HFn.out⟩
    case measure =>
     simp [intOf]
     omega
  · have hlt : ¬ (k : Int) < (n : Int):=by omega
    obtain rfl : n = k:=by omega
    go_wp2
    go_ret
    exact ⟨HBR.out,_,rfl,Nat.le_refl _,HFR.out⟩
theorem cparams_zero (a : Addr) (c : Nat) (w : World) :
 Calls Try.prog 54 #[.slice (some a) 0 c,.func (.func 55) #[] #[]] w fun e w' => Below w.heap.size w w' ∧ ∃ p c',e = .returned (.slice p 0 c'):=by
 obtain ⟨i0,hinf,hzi0,hzi1,hzi2⟩:=info_parts infoPm
 have hmk : (Instr.makeSlice 59 (.int .i64 0) (.int .i64 0)).run Try.prog w = .ok (.slice (some ⟨w.heap.size,0,none⟩) 0 0) (w.alloc (.cells (madeCells (Value.agg #[.string ⟨#[]⟩,.bool false,.bool false]).cells (0 * 3)) 137)):=by
  have h:=run_make (P:=Try.prog) w 59 137 i0 _ Try.underlying59 hinf hzi0 .i64 .i64 0 0 (by omega) (Int.le_refl _) (by rw [hzi2];omega) (by omega)
  rw [hzi1] at h
  simpa using h
 have heq : (binOp .eql 59 (.slice (some a) 0 c) (.slice none 0 0)).run Try.prog w = .ok (.bool false) w:=Lib.run_eql_slice_nil w _ _ _ _ _ _ _ Try.underlying59
 go_enter Try.func54,Try.ntmps54
 go_upto_region 4 with (fail)
 refine name_world ?_
 intro W1 hW1
 have HB1 : Hid (Below w.heap.size w W1):=hid (by rw [hW1];exact (Below.refl _ _).alloc (Nat.le_refl _) _)
 clear hW1 hmk
 go_wp2
 go_loopw [15] (fun iv wr => iv = .int .i64 0 ∧ wr = W1) (fun _ _ => 0)
 case atStart => exact ⟨rfl,rfl⟩
 case round =>
  obtain ⟨rfl,rfl⟩:=hrel
  go_wp2
  go_ret
  exact ⟨HB1.out,_,_,rfl⟩
theorem cparams_any (l : List Pm) (w : World) (v : Value) (hi : Hid (IsPl (fun g => 0 ≤ g) 137 3 pmCells w l v)) (hn : l.length ≤ 1000000) (hm : ∀ q ∈ l,q.nm.length ≤ 100000) :
 Calls Try.prog 54 #[v,.func (.func 55) #[] #[]] w fun e w' => Below w.heap.size w w' ∧ ∃ p c,e = .returned (.slice p l.length c) ∧ IsPl (fun b => w.heap.size ≤ b) 137 3 pmCells w' l (.slice p l.length c):=by
 obtain ⟨⟨p,c,rfl⟩,h2⟩:=hi.out
 by_cases hl : l = []
 · subst hl
   cases p with
   | none =>
    have heq : (binOp .eql 59 (.slice none 0 c) (.slice none 0 0)).run Try.prog w = .ok (.bool true) w:=Lib.run_eql_slice_nil w _ _ _ _ _ _ _ Try.underlying59
    show Calls _ _ #[.slice none 0 c,_] _ _
    go_enter Try.func54,Try.ntmps54
    go_wp2
    go_ret
    exact ⟨Below.refl _ _,none,0,rfl,IsPl.nil _ _⟩
   | some a =>
    refine (cparams_zero a c w).mono ?_
    rintro e w' ⟨hb,p',c',rfl⟩
    exact ⟨hb,p',c',rfl,IsPl.nil _ _⟩
 · obtain ⟨g,cap,cs,fr,hv,_,hg,hcs⟩:=h2 hl
   cases hv
   refine (cparams_some (l:=l) w cs fr hg hcs l.length rfl hn hm).mono ?_
   rintro e w' ⟨hb,g',rfl,hge,cs',e1,e2,e3⟩
   refine ⟨hb,_,_,rfl,⟨_,_,rfl⟩,fun _ => ⟨g',_,cs',(0,0),rfl,hge,e1,fun i a ha j u hu => ?_⟩⟩
   have hj : j < 3:=(List.getElem?_eq_some_iff.1 hu).1
   exact e3 i (List.getElem?_eq_some_iff.1 ha).1 j u hj (by show (pmCells (l.getD i _))[j]? = _;rw [List.getD_eq_getElem?_getD,ha];exact hu)
inductive ShE : Ex → Prop
 | mk {k o n : Int} {nm : List UInt8} {es : List Ex} {a : Nat} : nm.length ≤ 100000 → es.length ≤ 1000000 → (∀ e ∈ es,ShE e) → ShE (.mk k o n nm es a)
def ex00 : Ex:=.mk 0 0 0 [] [] 0
theorem Filled.congr {W : World} {g n K k : Nat} {T : TypeId} {F G : Nat → List Value} (h : Filled W g T n K k F) (e : ∀ i,i < k → F i = G i) : Filled W g T n K k G:=by
 obtain ⟨cs,h1,h2,h3⟩:=h
 exact ⟨cs,h1,h2,fun i hi j u hj hu => h3 i hi j u hj (by rw [e i hi];exact hu)⟩
theorem IsExP.sets {lo g : Nat} {W : World} {e : Ex} {v : Value} (h : IsExP (fun b => lo ≤ b) W e v) (hg : g < lo) (o : Nat) (us : List Value) (i : Nat) : IsExP (fun b => lo ≤ b) (setsAt W g o us i) e v :=
 h.kept fun b hb _ => ⟨setsAt_other g o b (by omega) us i W,hb⟩
def CpE (X : World) (e : Ex) (r : Ending) (w' : World) : Prop:=Below X.heap.size X w' ∧ ∃ p c,r = .returned (exVal e (.slice p e.ks.length c)) ∧ IsExP (fun g => X.heap.size ≤ g) w' e (.slice p e.ks.length c)
theorem cexprs_some (x : Ex) {gs c n : Nat} (w : World) (hi : Hid (IsEx 0 w x (.slice (some ⟨gs,0,none⟩) n c))) (hln : x.ks.length = n) (hn : n ≤ 1000000)
 (hee : Hid (∀ e ∈ x.ks,∀ X v,IsEx 0 X e v → Calls Try.prog 58 #[exVal e v] X (CpE X e))) :
 Calls Try.prog 69 #[.slice (some ⟨gs,0,none⟩) n c,.func (.func 58) #[] #[]] w fun e w' => Below w.heap.size w w' ∧ ∃ g,e = .returned (.slice (some ⟨g,0,none⟩) n n) ∧ w.heap.size ≤ g ∧ ∃ vs : Nat → Value,Filled w' g 63 n 6 n (fun i => exCells (x.ks.getD i ex00) (vs i)) ∧ ∀ i,i < n → IsExP (fun b => w.heap.size + 1 ≤ b) w' (x.ks.getD i ex00) (vs i):=by
 obtain ⟨i0,hinf,hzi0,hzi1,hzi2⟩:=info_parts infoEx
 have hmk : (Instr.makeSlice 61 (.int .i64 n) (.int .i64 n)).run Try.prog w = .ok (.slice (some ⟨w.heap.size,0,none⟩) n n) (w.alloc (.cells (madeCells (Value.agg #[.int .i64 0,.int .i64 0,.int .i64 0,.string ⟨#[]⟩,.slice none 0 0,.int .i64 0]).cells (n * 6)) 63)):=by
  have h:=run_make (P:=Try.prog) w 61 63 i0 _ Try.underlying61 hinf hzi0 .i64 .i64 n n (by omega) (Int.le_refl _) (by rw [hzi2];omega) (by omega)
  rw [hzi1] at h
  simpa using h
 have heq : (binOp .eql 61 (.slice (some ⟨gs,0,none⟩) n c) (.slice none 0 0)).run Try.prog w = .ok (.bool false) w:=Lib.run_eql_slice_nil w _ _ _ _ _ _ _ Try.underlying61
 have HLN:=hid hln
 clear hln
 go_enter Try.func69,Try.ntmps69
 go_upto_region 4 with (fail)
 refine name_world ?_
 intro W1 hW1
 have HF0 : Filled W1 w.heap.size 63 n 6 0 (fun i => exCells (x.ks.getD i ex00) undef):=by (rw [hW1];exact Filled.zero _ _)
 have HB1 : Below w.heap.size w W1:=by (rw [hW1];exact (Below.refl _ _).alloc (Nat.le_refl _) _)
 have hgg : w.heap.size < W1.heap.size:=HF0.lt
 have hHF:=hid HF0
 have hHB:=hid HB1
 clear HF0 HB1 hW1 hmk hinf hzi0 hzi1 hzi2
 go_wp2
 go_loopw [15] (fun iv wr => ∃ k : Nat,iv = .int .i64 k ∧ k ≤ n ∧ Below w.heap.size w wr ∧ ∃ vs : Nat → Value,Filled wr w.heap.size 63 n 6 k (fun i => exCells (x.ks.getD i ex00) (vs i)) ∧ ∀ i,i < k → IsExP (fun b => w.heap.size + 1 ≤ b) wr (x.ks.getD i ex00) (vs i)) (fun iv _ => n - (intOf iv).toNat)
 case atStart => exact ⟨0,rfl,Nat.zero_le _,hHB.out,_,hHF.out,fun i h => absurd h (Nat.not_lt_zero i)⟩
 case round =>
  obtain ⟨k,rfl,hk,hbr,vs,hfr,hxr⟩:=hrel
  have HBR:=hid hbr
  have HFR:=hid hfr
  have HXR:=hid hxr
  by_cases hkl : k < n
  · obtain ⟨y,hy⟩ : ∃ y,x.ks[k]? = some y:=⟨_,List.getElem?_eq_getElem (by (have:=HLN.out;omega))⟩
    obtain ⟨g0,cap0,u0,hv0,_,hgl,hy1,d0,d1,d2,d3,d4,d5⟩:=(hi.out.stay hbr).kid hy
    rw [HLN.out] at hv0
    cases hv0
    obtain ⟨py,cy,rfl⟩:=hy1.form
    have hlt : (k : Int) < (n : Int):=by omega
    have hk0 : (0 : Int) ≤ (k : Int):=Int.natCast_nonneg _
    have HY:=hid hy
    have HY1:=hid hy1
    obtain ⟨ny,hny⟩ : ∃ q,y.ks.length = q:=⟨_,rfl⟩
    rw [hny] at d4 HY1
    have HNY:=hid hny
    have HC : Hid (∀ X,Below wr.heap.size wr X → Calls Try.prog 58 #[.agg #[.int .i64 y.k,.int .i64 y.op,.int .i64 y.n,.string (bstr y.nm),.slice py ny cy,.int .i64 y.a]] X (CpE X y)):=hid fun X hX => hee.out y (List.mem_of_getElem? hy) X _ (HY1.out.stay hX)
    clear hbr hfr hxr hy hy1 hny
    go_upto_region 7 with (fail)
    refine name_world ?_
    intro W2 hW2
    have HP : Blk W2 wr.heap.size (.int .i64 y.k) (.int .i64 y.op) (.int .i64 y.n) (.string (bstr y.nm)) (.slice py ny cy) (.int .i64 y.a):=by (rw [hW2];exact Blk.new rfl _ _ _ _ _ _)
    have HA : Hid (Below wr.heap.size wr W2):=hid (by (rw [hW2];exact (Below.refl _ _).alloc (Nat.le_refl _) _))
    have HB2 : Hid (Below w.heap.size w W2):=hid (below_ch HBR.out HA.out)
    have HF2 : Hid (Filled W2 w.heap.size 63 n 6 k (fun i => exCells (x.ks.getD i ex00) (vs i))):=hid (HFR.out.stay HA.out)
    obtain ⟨pl,pc0,pc1,pc2,pc3,pc4,pc5,_⟩:=HP.facts
    clear hW2 d0 d1 d2 d3 d4 d5 HP
    go_upto_region 8 with (go_at_call 58;(with_reducible refine (HC.out _ HA.out).mono ?_);rintro e1 w9 ⟨hb9,p9,c9,rfl,hx9⟩;rw [HNY.out] at hx9;(try rw [HNY.out]);have HX9:=hid hx9;have HB92:=hid hb9;have HF9:=hid (HF2.out.stay hb9);have HB9:=hid (below_ch HB2.out hb9);have fz0:=HF9.out.frozen (k * 6);have fz1:=HF9.out.frozen (k * 6 + 1);have fz2:=HF9.out.frozen (k * 6 + 2);have fz3:=HF9.out.frozen (k * 6 + 3);have fz4:=HF9.out.frozen (k * 6 + 4);have fz5:=HF9.out.frozen (k * 6 + 5);have hl9:=HF9.out.lt;obtain ⟨y0,cy0⟩:=HF9.out.cell (j:=k * 6) (by omega);obtain ⟨y1,cy1⟩:=HF9.out.cell (j:=k * 6 + 1) (by omega);obtain ⟨y2,cy2⟩:=HF9.out.cell (j:=k * 6 + 2) (by omega);obtain ⟨y3,cy3⟩:=HF9.out.cell (j:=k * 6 + 3) (by omega);obtain ⟨y4,cy4⟩:=HF9.out.cell (j:=k * 6 + 4) (by omega);obtain ⟨y5,cy5⟩:=HF9.out.cell (j:=k * 6 + 5) (by omega);clear hb9 hx9)
    have hset : (((((w9.setCell ⟨w.heap.size,k * 6,none⟩ (.int .i64 y.k)).setCell ⟨w.heap.size,k * 6 + 1,none⟩ (.int .i64 y.op)).setCell ⟨w.heap.size,k * 6 + 2,none⟩ (.int .i64 y.n)).setCell ⟨w.heap.size,k * 6 + 3,none⟩ (.string (bstr y.nm))).setCell ⟨w.heap.size,k * 6 + 4,none⟩ (.slice p9 ny c9)).setCell ⟨w.heap.size,k * 6 + 5,none⟩ (.int .i64 y.a) = setsAt w9 w.heap.size (k * 6) (exCells y (.slice p9 ny c9)) 0:=rfl
    rw [hset]
    have hgy : x.ks.getD k ex00 = y:=by (rw [List.getD_eq_getElem?_getD,HY.out];rfl)
    have HFn : Hid (Filled (setsAt w9 w.heap.size (k * 6) (exCells y (.slice p9 ny c9)) 0) w.heap.size 63 n 6 (k + 1) (fun i => exCells (x.ks.getD i ex00) (if i = k then .slice p9 ny c9 else vs i))):=hid ((HF9.out.congr (G:=fun i => exCells (x.ks.getD i ex00) (if i = k then .slice p9 ny c9 else vs i)) (fun i h => by show _ = exCells _ (if i = k then _ else _);rw [if_neg (by omega)])).more hkl (exCells y (.slice p9 ny c9)) rfl (by show exCells (x.ks.getD k ex00) (if k = k then _ else _) = _;rw [if_pos rfl,hgy]))
    have HXn : Hid (∀ i,i < k + 1 → IsExP (fun b => w.heap.size + 1 ≤ b) (setsAt w9 w.heap.size (k * 6) (exCells y (.slice p9 ny c9)) 0) (x.ks.getD i ex00) (if i = k then .slice p9 ny c9 else vs i)):=hid fun i h => by
     refine IsExP.sets ?_ (Nat.lt_succ_self _) _ _ _
     by_cases he : i = k
     · rw [if_pos he,he,hgy]
       exact HX9.out.weak fun b hb => Nat.le_trans (Nat.succ_le_of_lt HF2.out.lt) hb
     · rw [if_neg he]
       exact ((HXR.out i (by omega)).stay HA.out).stay HB92.out
    have HBn:=hid (below_sets HB9.out (Nat.le_refl _) (k * 6) (exCells y (.slice p9 ny c9)) 0)
    clear hset hgy
    go_wp2
    go_roundw
    case rel => exact ⟨k + 1,by go_num,by omega,HBn.out,_,HFn.out,HXn.out⟩
    case measure =>
     simp [intOf]
     omega
  · have hlt : ¬ (k : Int) < (n : Int):=by omega
    obtain rfl : n = k:=by omega
    go_wp2
    go_ret
    exact ⟨HBR.out,_,rfl,Nat.le_refl _,vs,HFR.out,HXR.out⟩
theorem ex_of_filled {w w' : World} {g n : Nat} (hg : w.heap.size ≤ g) (x : Ex) (hn : x.ks.length = n) (hne : x.ks ≠ []) (vs : Nat → Value) (hf : Filled w' g 63 n 6 n (fun i => exCells (x.ks.getD i ex00) (vs i))) (hx : ∀ i,i < n → IsExP (fun b => w.heap.size + 1 ≤ b) w' (x.ks.getD i ex00) (vs i)) :
 IsExP (fun b => w.heap.size ≤ b) w' x (.slice (some ⟨g,0,none⟩) n n):=by
 subst hn
 obtain ⟨cs,h1,h2,h3⟩:=hf
 have key : ∀ i e,x.ks[i]? = some e → i < x.ks.length ∧ x.ks.getD i ex00 = e:=fun i e h => ⟨(List.getElem?_eq_some_iff.1 h).1,by rw [List.getD_eq_getElem?_getD,h];rfl⟩
 cases x with
 | mk k o m nm ks a =>
  refine .node g _ cs (0,0) vs hg h1 hne (fun i e h j u hu => ?_) fun i e h => ?_
  · obtain ⟨k1,k2⟩:=key i e h
    have hj : j < 6:=(List.getElem?_eq_some_iff.1 hu).1
    exact h3 i k1 j u hj (by show (exCells ((Ex.mk k o m nm ks a).ks.getD i ex00) (vs i))[j]? = _;rw [k2];exact hu)
  · obtain ⟨k1,k2⟩:=key i e h
    have:=hx i k1
    rw [k2] at this
    exact this.weak fun b hb => by omega
theorem cexprs_any (x : Ex) (w : World) (v : Value) (hi : Hid (IsEx 0 w x v)) (hn : x.ks.length ≤ 1000000)
 (hee : Hid (∀ e ∈ x.ks,∀ X v,IsEx 0 X e v → Calls Try.prog 58 #[exVal e v] X (CpE X e))) :
 Calls Try.prog 69 #[v,.func (.func 58) #[] #[]] w fun e w' => Below w.heap.size w w' ∧ ∃ p c,e = .returned (.slice p x.ks.length c) ∧ IsExP (fun b => w.heap.size ≤ b) w' x (.slice p x.ks.length c):=by
 by_cases hne : x.ks = []
 · have hv : v = .slice none 0 0:=by
    cases hi.out with
    | leaf => rfl
    | node _ _ _ _ _ _ _ h => exact absurd hne h
   subst hv
   have heq : (binOp .eql 61 (.slice none 0 0) (.slice none 0 0)).run Try.prog w = .ok (.bool true) w:=Lib.run_eql_slice_nil w _ _ _ _ _ _ _ Try.underlying61
   go_enter Try.func69,Try.ntmps69
   go_wp2
   go_ret
   refine ⟨Below.refl _ _,none,0,by rw [hne];rfl,?_⟩
   cases x with
   | mk k o m nm ks a =>
    cases (show ks = [] from hne)
    exact .leaf
 · obtain ⟨p,c,rfl⟩:=hi.out.form
   obtain ⟨n,hln⟩ : ∃ n,x.ks.length = n:=⟨_,rfl⟩
   have hpos : 0 < n:=by (rw [← hln];exact List.length_pos_iff.2 hne)
   obtain ⟨g,cap,u,hv,_⟩:=hi.out.kid (i:=0) (x:=x.ks[0]'(by omega)) (List.getElem?_eq_getElem (by omega))
   cases hv
   rw [hln] at hn hi ⊢
   refine (cexprs_some x w hi hln hn hee).mono ?_
   rintro e w' ⟨hb,g',rfl,hg,vs,hf,hx⟩
   exact ⟨hb,_,_,rfl,ex_of_filled hg x hln hne vs hf hx⟩
theorem results_ex1 {X : World} {n : Nat} {v0 v1 v2 v3 v4 v5 : Value} {fn : Func} {p : Tmp} (hfn : fn.results = #[.cell p 63]) (tmps : Array Value) (hp : tmps.getD p undef = .pointer (some ⟨n,0,none⟩)) (h : Blk X n v0 v1 v2 v3 v4 v5) :
 (results fn tmps).run Try.prog X = .ok (.agg #[v0,v1,v2,v3,v4,v5]) X:=by
 have hp' : tmps[p]?.getD undef = .pointer (some ⟨n,0,none⟩):=by simpa using hp
 simp [results,hfn,hp',asAddr,run_loadVar_row X n 63 63 _ (0,0) _ h Try.underlying63 rfl (by kernel_rfl)]
theorem cexpr_step (x : Ex) (w : World) (v : Value) (hi : Hid (IsEx 0 w x v)) (hn : x.ks.length ≤ 1000000) (hnm : x.nm.length ≤ 100000)
 (hee : Hid (∀ e ∈ x.ks,∀ X v,IsEx 0 X e v → Calls Try.prog 58 #[exVal e v] X (CpE X e))) :
 Calls Try.prog 58 #[exVal x v] w (CpE w x):=by
 obtain ⟨p,c,rfl⟩:=hi.out.form
 obtain ⟨n,hln⟩ : ∃ n,x.ks.length = n:=⟨_,rfl⟩
 rw [hln] at hi hn ⊢
 have HLN:=hid hln
 have hnb : (bstr x.nm).size ≤ 281474976710656:=by (show x.nm.length ≤ _;omega)
 have HC : Hid (∀ X,Below w.heap.size w X → Calls Try.prog 69 #[.slice p n c,.func (.func 58) #[] #[]] X fun e w' => Below X.heap.size X w' ∧ ∃ p c,e = .returned (.slice p n c) ∧ IsExP (fun b => X.heap.size ≤ b) w' x (.slice p n c)):=hid fun X hX => by
  have h:=cexprs_any x X _ (hid (hi.out.stay hX)) (by omega) hee
  rw [HLN.out] at h
  exact h
 clear hln hnm
 go_enter Try.func58,Try.ntmps58
 go_upto_region 1 with (fail)
 refine name_world ?_
 intro W1 hW1
 have BA : Blk W1 w.heap.size (.int .i64 x.k) (.int .i64 x.op) (.int .i64 x.n) (.string (bstr x.nm)) (.slice p n c) (.int .i64 x.a):=by (rw [hW1];exact (Blk.new rfl _ _ _ _ _ _).alloc _)
 have BB : Blk W1 (w.heap.size + 1) (.int .i64 0) (.int .i64 0) (.int .i64 0) (.string ⟨#[]⟩) (.slice none 0 0) (.int .i64 0):=by (rw [hW1];exact Blk.new (by simp) _ _ _ _ _ _)
 have HB1 : Hid (Below w.heap.size w W1):=hid (by rw [hW1];exact ((Below.refl _ _).alloc (Nat.le_refl _) _).alloc (by simp) _)
 clear hW1
 obtain ⟨al,a0,a1,a2,a3,a4,a5,f0,f1,f2,f3,f4,f5⟩:=BA.facts
 go_upto_region 2 with (go_at_call 33;(with_reducible refine (clone_any _ _ hnb).mono ?_);rintro e1 w1 ⟨rfl,hb1⟩;have HB2:=hid (below_ch HB1.out hb1);replace BA:=BA.stay hb1;replace BB:=BB.stay hb1;obtain ⟨al1,a01,a11,a21,a31,a41,a51,f01,f11,f21,f31,f41,f51⟩:=BA.facts;clear hb1)
 refine name_world ?_
 intro W2 hW2
 replace BA : Blk W2 w.heap.size (.int .i64 x.k) (.int .i64 x.op) (.int .i64 x.n) (.string (bstr x.nm)) (.slice p n c) (.int .i64 x.a):=by (rw [hW2];exact BA.set3 _)
 replace BB : Blk W2 (w.heap.size + 1) (.int .i64 0) (.int .i64 0) (.int .i64 0) (.string ⟨#[]⟩) (.slice none 0 0) (.int .i64 0):=by (rw [hW2];exact BB.setO (by omega) _ _)
 have HB3 : Hid (Below w.heap.size w W2):=hid (by (rw [hW2];exact HB2.out.setCell (by simp) _))
 clear hW2 HB1 HB2 al a0 a1 a2 a3 a4 a5 f0 f1 f2 f3 f4 f5 al1 a01 a11 a21 a31 a41 a51 f01 f11 f21 f31 f41 f51
 obtain ⟨al,a0,a1,a2,a3,a4,a5,f0,f1,f2,f3,f4,f5⟩:=BA.facts
 obtain ⟨bl,_⟩:=BB.facts
 go_upto_region 3 with (go_at_call 69;(with_reducible refine (HC.out _ HB3.out).mono ?_);rintro e1 w1 ⟨hb1,p1,c1,rfl,hx1⟩;have HX1:=hid hx1;have HB4:=hid (below_ch HB3.out hb1);replace BA:=BA.stay hb1;replace BB:=BB.stay hb1;obtain ⟨al1,a01,a11,a21,a31,a41,a51,f01,f11,f21,f31,f41,f51⟩:=BA.facts;clear hb1 hx1)
 refine name_world ?_
 intro W3 hW3
 have BA3 : Blk W3 w.heap.size (.int .i64 x.k) (.int .i64 x.op) (.int .i64 x.n) (.string (bstr x.nm)) (.slice p1 n c1) (.int .i64 x.a):=by (rw [hW3];exact BA.set4 _)
 have BB3 : Blk W3 (w.heap.size + 1) (.int .i64 0) (.int .i64 0) (.int .i64 0) (.string ⟨#[]⟩) (.slice none 0 0) (.int .i64 0):=by (rw [hW3];exact BB.setO (by omega) _ _)
 have HB5 : Hid (Below w.heap.size w W3):=hid (by (rw [hW3];exact HB4.out.setCell (by simp) _))
 have HX3 : Hid (IsExP (fun b => W2.heap.size ≤ b) W3 x (.slice p1 n c1)):=hid (by (rw [hW3];exact HX1.out.set (fun g hg => by omega) _ _))
 clear hW3 HB4 HX1 BA BB al a0 a1 a2 a3 a4 a5 f0 f1 f2 f3 f4 f5 al1 a01 a11 a21 a31 a41 a51 f01 f11 f21 f31 f41 f51
 obtain ⟨al3,a0,a1,a2,a3,a4,a5,_⟩:=BA3.facts
 obtain ⟨bl3,b0,b1,b2,b3,b4,b5,f0,f1,f2,f3,f4,f5⟩:=BB3.facts
 go_wp2
 refine bodyPost_ret (results_ex1 rfl _ rfl (BB3.all _ _ _ _ _ _)) rfl ⟨?_,p1,c1,?_,?_⟩
 · exact (((((HB5.out.setCell (by simp) _).setCell (by simp) _).setCell (by simp) _).setCell (by simp) _).setCell (by simp) _).setCell (by simp) _
 · rw [HLN.out]
 · rw [HLN.out]
   have h : ∀ g,W2.heap.size ≤ g → g ≠ w.heap.size + 1:=fun g hg => by omega
   exact ((((((HX3.out.set h _ _).set h _ _).set h _ _).set h _ _).set h _ _).set h _ _).weak fun b hb => by omega
theorem cexpr_any : ∀ (x : Ex),ShE x → ∀ (w : World) (v : Value),IsEx 0 w x v → Calls Try.prog 58 #[exVal x v] w (CpE w x):=by
 intro x hs
 induction hs with
 | mk h1 h2 _ ih => exact fun w v hi => cexpr_step _ w v (hid hi) h2 h1 (hid fun e he X u hu => ih e he X u hu)
abbrev stVal (s : Stm) (v : SV) : Value:=.agg #[.int .i64 s.k,.int .i64 s.a,.bool s.tr,.bool s.sc,.string (bstr s.nm),v.i,v.e,v.b,v.l]
def st00 : Stm:=.mk 0 0 false false [] [] [] [] []
inductive ShS : Stm → Prop
 | mk {k a : Int} {tr sc : Bool} {nm : List UInt8} {ix es : List Ex} {bd el : List Stm} : nm.length ≤ 100000 → ix.length ≤ 1000000 → es.length ≤ 1000000 → bd.length ≤ 1000000 → el.length ≤ 1000000 → (∀ e ∈ ix,ShE e) → (∀ e ∈ es,ShE e) → (∀ s ∈ bd,ShS s) → (∀ s ∈ el,ShS s) → ShS (.mk k a tr sc nm ix es bd el)
theorem IsSts.stay {ok : Nat → Prop} {W X : World} {l : List Stm} {v : Value} (h : IsSts ok W l v) (k : Below W.heap.size W X) : IsSts ok X l v:=h.kept fun g hg hl => ⟨k.block g hl,hg⟩
theorem IsSt1.stay {ok : Nat → Prop} {W X : World} {s : Stm} {v : SV} (h : IsSt1 ok W s v) (k : Below W.heap.size W X) : IsSt1 ok X s v:=h.kept fun g hg hl => ⟨k.block g hl,hg⟩
theorem IsSt1.set {ok : Nat → Prop} {W : World} {s : Stm} {v : SV} (h : IsSt1 ok W s v) {b : Nat} (hb : ∀ g,ok g → g ≠ b) (o : Nat) (x : Value) : IsSt1 ok (W.setCell ⟨b,o,none⟩ x) s v:=h.kept fun g hg _ => ⟨heap_setCell_other W ⟨b,o,none⟩ g x (hb g hg),hg⟩
theorem IsSts.set {ok : Nat → Prop} {W : World} {s : List Stm} {v : Value} (h : IsSts ok W s v) {b : Nat} (hb : ∀ g,ok g → g ≠ b) (o : Nat) (x : Value) : IsSts ok (W.setCell ⟨b,o,none⟩ x) s v:=h.kept fun g hg _ => ⟨heap_setCell_other W ⟨b,o,none⟩ g x (hb g hg),hg⟩
theorem IsSt1.sets {lo g : Nat} {W : World} {s : Stm} {v : SV} (h : IsSt1 (fun b => lo ≤ b) W s v) (hg : g < lo) (o : Nat) (us : List Value) (i : Nat) : IsSt1 (fun b => lo ≤ b) (setsAt W g o us i) s v :=
 h.kept fun b hb _ => ⟨setsAt_other g o b (by omega) us i W,hb⟩
theorem IsSts.one {ok : Nat → Prop} {W : World} {l : List Stm} {v : Value} (h : IsSts ok W l v) {i : Nat} {s : Stm} (hs : l[i]? = some s) :
 ∃ g cap u,v = .slice (some ⟨g,0,none⟩) l.length cap ∧ ok g ∧ g < W.heap.size ∧ IsSt1 ok W s u ∧ ∀ j x,(stCells s u)[j]? = some x → W.cell? ⟨g,i * 9 + j,none⟩ = some x:=by
 cases h with
 | nil => simp at hs
 | node g cap cs fr vs hg hb hne hc hi he h1 h2 =>
  exact ⟨g,cap,vs i,rfl,hg,(Array.getElem?_eq_some_iff.1 hb).1,⟨hi i s hs,he i s hs,h1 i s hs,h2 i s hs⟩,fun j x hx => (cell_of_row _ _ _ _ _ _ hb).trans (hc i s hs j x hx)⟩
def CpS (X : World) (s : Stm) (r : Ending) (w' : World) : Prop:=Below X.heap.size X w' ∧ ∃ z0 k0 z1 k1 z2 k2 z3 k3,r = .returned (stVal s ⟨.slice z0 s.ix.length k0,.slice z1 s.es.length k1,.slice z2 s.bd.length k2,.slice z3 s.el.length k3⟩) ∧ IsSt1 (fun g => X.heap.size ≤ g) w' s ⟨.slice z0 s.ix.length k0,.slice z1 s.es.length k1,.slice z2 s.bd.length k2,.slice z3 s.el.length k3⟩
theorem csts_some (l : List Stm) {gs c n : Nat} (w : World) (hi : Hid (IsSts (fun g => 0 ≤ g) w l (.slice (some ⟨gs,0,none⟩) n c))) (hln : l.length = n) (hn : n ≤ 1000000)
 (hee : Hid (∀ s ∈ l,∀ X v,IsSt1 (fun g => 0 ≤ g) X s v → Calls Try.prog 57 #[stVal s v] X (CpS X s))) :
 Calls Try.prog 56 #[.slice (some ⟨gs,0,none⟩) n c,.func (.func 57) #[] #[]] w fun e w' => Below w.heap.size w w' ∧ ∃ g,e = .returned (.slice (some ⟨g,0,none⟩) n n) ∧ w.heap.size ≤ g ∧ ∃ vs : Nat → SV,Filled w' g 141 n 9 n (fun i => stCells (l.getD i st00) (vs i)) ∧ ∀ i,i < n → IsSt1 (fun b => w.heap.size + 1 ≤ b) w' (l.getD i st00) (vs i):=by
 obtain ⟨i0,hinf,hzi0,hzi1,hzi2⟩:=info_parts infoSt
 have hmk : (Instr.makeSlice 60 (.int .i64 n) (.int .i64 n)).run Try.prog w = .ok (.slice (some ⟨w.heap.size,0,none⟩) n n) (w.alloc (.cells (madeCells (Value.agg #[.int .i64 0,.int .i64 0,.bool false,.bool false,.string ⟨#[]⟩,.slice none 0 0,.slice none 0 0,.slice none 0 0,.slice none 0 0]).cells (n * 9)) 141)):=by
  have h:=run_make (P:=Try.prog) w 60 141 i0 _ Try.underlying60 hinf hzi0 .i64 .i64 n n (by omega) (Int.le_refl _) (by rw [hzi2];omega) (by omega)
  rw [hzi1] at h
  simpa using h
 have heq : (binOp .eql 60 (.slice (some ⟨gs,0,none⟩) n c) (.slice none 0 0)).run Try.prog w = .ok (.bool false) w:=Lib.run_eql_slice_nil w _ _ _ _ _ _ _ Try.underlying60
 have HLN:=hid hln
 clear hln
 go_enter Try.func56,Try.ntmps56
 go_upto_region 4 with (fail)
 refine name_world ?_
 intro W1 hW1
 have HF0 : Filled W1 w.heap.size 141 n 9 0 (fun i => stCells (l.getD i st00) ⟨undef,undef,undef,undef⟩):=by (rw [hW1];exact Filled.zero _ _)
 have HB1 : Below w.heap.size w W1:=by (rw [hW1];exact (Below.refl _ _).alloc (Nat.le_refl _) _)
 have hgg : w.heap.size < W1.heap.size:=HF0.lt
 have hHF:=hid HF0
 have hHB:=hid HB1
 clear HF0 HB1 hW1 hmk hinf hzi0 hzi1 hzi2
 go_wp2
 go_loopw [15] (fun iv wr => ∃ k : Nat,iv = .int .i64 k ∧ k ≤ n ∧ Below w.heap.size w wr ∧ ∃ vs : Nat → SV,Filled wr w.heap.size 141 n 9 k (fun i => stCells (l.getD i st00) (vs i)) ∧ ∀ i,i < k → IsSt1 (fun b => w.heap.size + 1 ≤ b) wr (l.getD i st00) (vs i)) (fun iv _ => n - (intOf iv).toNat)
 case atStart => exact ⟨0,rfl,Nat.zero_le _,hHB.out,_,hHF.out,fun i h => absurd h (Nat.not_lt_zero i)⟩
 case round =>
  obtain ⟨k,rfl,hk,hbr,vs,hfr,hxr⟩:=hrel
  have HBR:=hid hbr
  have HFR:=hid hfr
  have HXR:=hid hxr
  by_cases hkl : k < n
  · obtain ⟨y,hy⟩ : ∃ y,l[k]? = some y:=⟨_,List.getElem?_eq_getElem (by (have:=HLN.out;omega))⟩
    obtain ⟨g0,cap0,u0,hv0,_,hgl,hy1,hcc⟩:=(hi.out.stay hbr).one hy
    rw [HLN.out] at hv0
    cases hv0
    obtain ⟨p0,c0,p1,c1,p2,c2,p3,c3,rfl⟩:=hy1.slices
    obtain ⟨n0,hn0⟩ : ∃ q,y.ix.length = q:=⟨_,rfl⟩
    obtain ⟨n1,hn1⟩ : ∃ q,y.es.length = q:=⟨_,rfl⟩
    obtain ⟨n2,hn2⟩ : ∃ q,y.bd.length = q:=⟨_,rfl⟩
    obtain ⟨n3,hn3⟩ : ∃ q,y.el.length = q:=⟨_,rfl⟩
    rw [hn0,hn1,hn2,hn3] at hy1 hcc
    have hlt : (k : Int) < (n : Int):=by omega
    have hk0 : (0 : Int) ≤ (k : Int):=Int.natCast_nonneg _
    have d0 : wr.cell? ⟨gs,k * 9,none⟩ = some (.int .i64 y.k):=hcc 0 _ rfl
    have d1 : wr.cell? ⟨gs,k * 9 + 1,none⟩ = some (.int .i64 y.a):=hcc 1 _ rfl
    have d2 : wr.cell? ⟨gs,k * 9 + 2,none⟩ = some (.bool y.tr):=hcc 2 _ rfl
    have d3 : wr.cell? ⟨gs,k * 9 + 3,none⟩ = some (.bool y.sc):=hcc 3 _ rfl
    have d4 : wr.cell? ⟨gs,k * 9 + 4,none⟩ = some (.string (bstr y.nm)):=hcc 4 _ rfl
    have d5 : wr.cell? ⟨gs,k * 9 + 5,none⟩ = some (.slice p0 n0 c0):=hcc 5 _ rfl
    have d6 : wr.cell? ⟨gs,k * 9 + 6,none⟩ = some (.slice p1 n1 c1):=hcc 6 _ rfl
    have d7 : wr.cell? ⟨gs,k * 9 + 7,none⟩ = some (.slice p2 n2 c2):=hcc 7 _ rfl
    have d8 : wr.cell? ⟨gs,k * 9 + 8,none⟩ = some (.slice p3 n3 c3):=hcc 8 _ rfl
    have HY:=hid hy
    have HY1:=hid hy1
    have HN : Hid (y.ix.length = n0 ∧ y.es.length = n1 ∧ y.bd.length = n2 ∧ y.el.length = n3):=hid ⟨hn0,hn1,hn2,hn3⟩
    have HC : Hid (∀ X,Below wr.heap.size wr X → Calls Try.prog 57 #[.agg #[.int .i64 y.k,.int .i64 y.a,.bool y.tr,.bool y.sc,.string (bstr y.nm),.slice p0 n0 c0,.slice p1 n1 c1,.slice p2 n2 c2,.slice p3 n3 c3]] X fun r w' => Below X.heap.size X w' ∧ ∃ z0 k0 z1 k1 z2 k2 z3 k3,r = .returned (.agg #[.int .i64 y.k,.int .i64 y.a,.bool y.tr,.bool y.sc,.string (bstr y.nm),.slice z0 n0 k0,.slice z1 n1 k1,.slice z2 n2 k2,.slice z3 n3 k3]) ∧ IsSt1 (fun g => X.heap.size ≤ g) w' y ⟨.slice z0 n0 k0,.slice z1 n1 k1,.slice z2 n2 k2,.slice z3 n3 k3⟩):=hid fun X hX => by
     have h:=hee.out y (List.mem_of_getElem? hy) X _ (HY1.out.stay hX)
     unfold CpS at h
     rw [hn0,hn1,hn2,hn3] at h
     exact h
    clear hbr hfr hxr hy hy1 hn0 hn1 hn2 hn3 hcc
    go_upto_region 7 with (fail)
    refine name_world ?_
    intro W2 hW2
    have HP : SBlk W2 wr.heap.size y.k y.a y.tr y.sc (bstr y.nm) (.slice p0 n0 c0) (.slice p1 n1 c1) (.slice p2 n2 c2) (.slice p3 n3 c3):=by (rw [hW2];exact SBlk.new rfl)
    have HA : Hid (Below wr.heap.size wr W2):=hid (by (rw [hW2];exact (Below.refl _ _).alloc (Nat.le_refl _) _))
    have HB2 : Hid (Below w.heap.size w W2):=hid (below_ch HBR.out HA.out)
    have HF2 : Hid (Filled W2 w.heap.size 141 n 9 k (fun i => stCells (l.getD i st00) (vs i))):=hid (HFR.out.stay HA.out)
    obtain ⟨pl,⟨pc0,pc1,pc2,pc3,pc4,pc5,pc6,pc7,pc8⟩,_⟩:=HP.facts
    clear hW2 d0 d1 d2 d3 d4 d5 d6 d7 d8 HP
    go_upto_region 8 with (go_at_call 57;(with_reducible refine (HC.out _ HA.out).mono ?_);rintro e1 w9 ⟨hb9,z0,k0,z1,k1,z2,k2,z3,k3,rfl,hx9⟩;have HX9:=hid hx9;have HB92:=hid hb9;have HF9:=hid (HF2.out.stay hb9);have HB9:=hid (below_ch HB2.out hb9);have hl9:=HF9.out.lt;have fz0:=HF9.out.frozen (k * 9);obtain ⟨y0,cy0⟩:=HF9.out.cell (j:=k * 9) (by omega);have fz1:=HF9.out.frozen (k * 9 + 1);obtain ⟨y1,cy1⟩:=HF9.out.cell (j:=k * 9 + 1) (by omega);have fz2:=HF9.out.frozen (k * 9 + 2);obtain ⟨y2,cy2⟩:=HF9.out.cell (j:=k * 9 + 2) (by omega);have fz3:=HF9.out.frozen (k * 9 + 3);obtain ⟨y3,cy3⟩:=HF9.out.cell (j:=k * 9 + 3) (by omega);have fz4:=HF9.out.frozen (k * 9 + 4);obtain ⟨y4,cy4⟩:=HF9.out.cell (j:=k * 9 + 4) (by omega);have fz5:=HF9.out.frozen (k * 9 + 5);obtain ⟨y5,cy5⟩:=HF9.out.cell (j:=k * 9 + 5) (by omega);have fz6:=HF9.out.frozen (k * 9 + 6);obtain ⟨y6,cy6⟩:=HF9.out.cell (j:=k * 9 + 6) (by omega);have fz7:=HF9.out.frozen (k * 9 + 7);obtain ⟨y7,cy7⟩:=HF9.out.cell (j:=k * 9 + 7) (by omega);have fz8:=HF9.out.frozen (k * 9 + 8);obtain ⟨y8,cy8⟩:=HF9.out.cell (j:=k * 9 + 8) (by omega);clear hb9 hx9)
    have hset : (((((((((w9.setCell ⟨w.heap.size,k * 9,none⟩ (.int .i64 y.k)).setCell ⟨w.heap.size,k * 9 + 1,none⟩ (.int .i64 y.a)).setCell ⟨w.heap.size,k * 9 + 2,none⟩ (.bool y.tr)).setCell ⟨w.heap.size,k * 9 + 3,none⟩ (.bool y.sc)).setCell ⟨w.heap.size,k * 9 + 4,none⟩ (.string (bstr y.nm))).setCell ⟨w.heap.size,k * 9 + 5,none⟩ (.slice z0 n0 k0)).setCell ⟨w.heap.size,k * 9 + 6,none⟩ (.slice z1 n1 k1)).setCell ⟨w.heap.size,k * 9 + 7,none⟩ (.slice z2 n2 k2)).setCell ⟨w.heap.size,k * 9 + 8,none⟩ (.slice z3 n3 k3)) = setsAt w9 w.heap.size (k * 9) (stCells y ⟨.slice z0 n0 k0,.slice z1 n1 k1,.slice z2 n2 k2,.slice z3 n3 k3⟩) 0:=rfl
    rw [hset]
    have hgy : l.getD k st00 = y:=by (rw [List.getD_eq_getElem?_getD,HY.out];rfl)
    have HFn : Hid (Filled (setsAt w9 w.heap.size (k * 9) (stCells y ⟨.slice z0 n0 k0,.slice z1 n1 k1,.slice z2 n2 k2,.slice z3 n3 k3⟩) 0) w.heap.size 141 n 9 (k + 1) (fun i => stCells (l.getD i st00) (if i = k then ⟨.slice z0 n0 k0,.slice z1 n1 k1,.slice z2 n2 k2,.slice z3 n3 k3⟩ else vs i))):=hid ((HF9.out.congr (G:=fun i => stCells (l.getD i st00) (if i = k then ⟨.slice z0 n0 k0,.slice z1 n1 k1,.slice z2 n2 k2,.slice z3 n3 k3⟩ else vs i)) (fun i h => by show _ = stCells _ (if i = k then _ else _);rw [if_neg (by omega)])).more hkl (stCells y ⟨.slice z0 n0 k0,.slice z1 n1 k1,.slice z2 n2 k2,.slice z3 n3 k3⟩) rfl (by show stCells (l.getD k st00) (if k = k then _ else _) = _;rw [if_pos rfl,hgy]))
    have HXn : Hid (∀ i,i < k + 1 → IsSt1 (fun b => w.heap.size + 1 ≤ b) (setsAt w9 w.heap.size (k * 9) (stCells y ⟨.slice z0 n0 k0,.slice z1 n1 k1,.slice z2 n2 k2,.slice z3 n3 k3⟩) 0) (l.getD i st00) (if i = k then ⟨.slice z0 n0 k0,.slice z1 n1 k1,.slice z2 n2 k2,.slice z3 n3 k3⟩ else vs i)):=hid fun i h => by
     refine IsSt1.sets ?_ (Nat.lt_succ_self _) _ _ _
     by_cases he : i = k
     · rw [if_pos he,he,hgy]
       exact HX9.out.weak fun b hb => Nat.le_trans (Nat.succ_le_of_lt HF2.out.lt) hb
     · rw [if_neg he]
       exact ((HXR.out i (by omega)).stay HA.out).stay HB92.out
    have HBn:=hid (below_sets HB9.out (Nat.le_refl _) (k * 9) (stCells y ⟨.slice z0 n0 k0,.slice z1 n1 k1,.slice z2 n2 k2,.slice z3 n3 k3⟩) 0)
    clear hset hgy
    go_wp2
    go_roundw
    case rel => exact ⟨k + 1,by go_num,by omega,HBn.out,_,HFn.out,HXn.out⟩
    case measure =>
     simp [intOf]
     omega
  · have hlt : ¬ (k : Int) < (n : Int):=by omega
    obtain rfl : n = k:=by omega
    go_wp2
    go_ret
    exact ⟨HBR.out,_,rfl,Nat.le_refl _,vs,HFR.out,HXR.out⟩
theorem sts_of_filled {w w' : World} {g n : Nat} (hg : w.heap.size ≤ g) (l : List Stm) (hn : l.length = n) (hne : l ≠ []) (vs : Nat → SV) (hf : Filled w' g 141 n 9 n (fun i => stCells (l.getD i st00) (vs i))) (hx : ∀ i,i < n → IsSt1 (fun b => w.heap.size + 1 ≤ b) w' (l.getD i st00) (vs i)) :
 IsSts (fun b => w.heap.size ≤ b) w' l (.slice (some ⟨g,0,none⟩) n n):=by
 subst hn
 obtain ⟨cs,h1,h2,h3⟩:=hf
 have key : ∀ i e,l[i]? = some e → i < l.length ∧ l.getD i st00 = e:=fun i e h => ⟨(List.getElem?_eq_some_iff.1 h).1,by rw [List.getD_eq_getElem?_getD,h];rfl⟩
 have key2 : ∀ i e,l[i]? = some e → IsSt1 (fun b => w.heap.size ≤ b) w' e (vs i):=fun i e h => by
  obtain ⟨k1,k2⟩:=key i e h
  have:=hx i k1
  rw [k2] at this
  exact this.weak fun b hb => by omega
 refine .node g _ cs (0,0) vs hg h1 hne (fun i e h j u hu => ?_) (fun i e h => (key2 i e h).1) (fun i e h => (key2 i e h).2.1) (fun i e h => (key2 i e h).2.2.1) (fun i e h => (key2 i e h).2.2.2)
 obtain ⟨k1,k2⟩:=key i e h
 have hj : j < 9:=(List.getElem?_eq_some_iff.1 hu).1
 exact h3 i k1 j u hj (by show (stCells (l.getD i st00) (vs i))[j]? = _;rw [k2];exact hu)
theorem csts_any (l : List Stm) (w : World) (v : Value) (hi : Hid (IsSts (fun g => 0 ≤ g) w l v)) (hn : l.length ≤ 1000000)
 (hee : Hid (∀ s ∈ l,∀ X v,IsSt1 (fun g => 0 ≤ g) X s v → Calls Try.prog 57 #[stVal s v] X (CpS X s))) :
 Calls Try.prog 56 #[v,.func (.func 57) #[] #[]] w fun e w' => Below w.heap.size w w' ∧ ∃ p c,e = .returned (.slice p l.length c) ∧ IsSts (fun b => w.heap.size ≤ b) w' l (.slice p l.length c):=by
 by_cases hne : l = []
 · have hv : v = .slice none 0 0:=by
    cases hi.out with
    | nil => rfl
    | node _ _ _ _ _ _ _ h => exact absurd hne h
   subst hv
   have heq : (binOp .eql 60 (.slice none 0 0) (.slice none 0 0)).run Try.prog w = .ok (.bool true) w:=Lib.run_eql_slice_nil w _ _ _ _ _ _ _ Try.underlying60
   go_enter Try.func56,Try.ntmps56
   go_wp2
   go_ret
   refine ⟨Below.refl _ _,none,0,by rw [hne];rfl,?_⟩
   cases hne
   exact .nil
 · obtain ⟨p,c,rfl⟩:=hi.out.form
   obtain ⟨n,hln⟩ : ∃ n,l.length = n:=⟨_,rfl⟩
   have hpos : 0 < n:=by (rw [← hln];exact List.length_pos_iff.2 hne)
   obtain ⟨g,cap,u,hv,_⟩:=hi.out.one (i:=0) (s:=l[0]'(by omega)) (List.getElem?_eq_getElem (by omega))
   cases hv
   rw [hln] at hn hi ⊢
   refine (csts_some l w hi hln hn hee).mono ?_
   rintro e w' ⟨hb,g',rfl,hg,vs,hf,hx⟩
   exact ⟨hb,_,_,rfl,sts_of_filled hg l hln hne vs hf hx⟩
theorem exsE_ks (l : List Ex) : (exsE l).ks = l:=rfl
theorem cstmt_step (y : Stm) (w : World) (v : SV) (hi : Hid (IsSt1 (fun g => 0 ≤ g) w y v)) (hnm : y.nm.length ≤ 100000) (h0 : y.ix.length ≤ 1000000) (h1 : y.es.length ≤ 1000000) (h2 : y.bd.length ≤ 1000000) (h3 : y.el.length ≤ 1000000) (hx0 : ∀ e ∈ y.ix,ShE e) (hx1 : ∀ e ∈ y.es,ShE e)
 (hee : Hid (∀ s,s ∈ y.bd ∨ s ∈ y.el → ∀ X v,IsSt1 (fun g => 0 ≤ g) X s v → Calls Try.prog 57 #[stVal s v] X (CpS X s))) :
 Calls Try.prog 57 #[stVal y v] w (CpS w y):=by
 obtain ⟨p0,c0,p1,c1,p2,c2,p3,c3,rfl⟩:=hi.out.slices
 obtain ⟨n0,hn0⟩ : ∃ q,y.ix.length = q:=⟨_,rfl⟩
 obtain ⟨n1,hn1⟩ : ∃ q,y.es.length = q:=⟨_,rfl⟩
 obtain ⟨n2,hn2⟩ : ∃ q,y.bd.length = q:=⟨_,rfl⟩
 obtain ⟨n3,hn3⟩ : ∃ q,y.el.length = q:=⟨_,rfl⟩
 have hnb : (bstr y.nm).size ≤ 281474976710656:=by (show y.nm.length ≤ _;omega)
 have HN : Hid (y.ix.length = n0 ∧ y.es.length = n1 ∧ y.bd.length = n2 ∧ y.el.length = n3):=hid ⟨hn0,hn1,hn2,hn3⟩
 have HC0 : Hid (∀ X,Below w.heap.size w X → Calls Try.prog 69 #[.slice p0 n0 c0,.func (.func 58) #[] #[]] X fun e w' => Below X.heap.size X w' ∧ ∃ p c,e = .returned (.slice p n0 c) ∧ IsExP (fun b => X.heap.size ≤ b) w' (exsE y.ix) (.slice p n0 c)):=hid fun X hX => by
  have h:=cexprs_any (exsE y.ix) X _ (hid ((hi.out.1.stay hX).toEx (lo:=0) fun g _ => Nat.zero_le g)) (by rw [exsE_ks];omega) (hid fun e he X v hv => cexpr_any e (hx0 e he) X v hv)
  rw [exsE_ks,hn0] at h
  exact h
 have HC1 : Hid (∀ X,Below w.heap.size w X → Calls Try.prog 69 #[.slice p1 n1 c1,.func (.func 58) #[] #[]] X fun e w' => Below X.heap.size X w' ∧ ∃ p c,e = .returned (.slice p n1 c) ∧ IsExP (fun b => X.heap.size ≤ b) w' (exsE y.es) (.slice p n1 c)):=hid fun X hX => by
  have h:=cexprs_any (exsE y.es) X _ (hid ((hi.out.2.1.stay hX).toEx (lo:=0) fun g _ => Nat.zero_le g)) (by rw [exsE_ks];omega) (hid fun e he X v hv => cexpr_any e (hx1 e he) X v hv)
  rw [exsE_ks,hn1] at h
  exact h
 have HC2 : Hid (∀ X,Below w.heap.size w X → Calls Try.prog 56 #[.slice p2 n2 c2,.func (.func 57) #[] #[]] X fun e w' => Below X.heap.size X w' ∧ ∃ p c,e = .returned (.slice p n2 c) ∧ IsSts (fun b => X.heap.size ≤ b) w' y.bd (.slice p n2 c)):=hid fun X hX => by
  have h:=csts_any y.bd X _ (hid (hi.out.2.2.1.stay hX)) h2 (hid fun s hs X v hv => hee.out s (.inl hs) X v hv)
  rw [hn2] at h
  exact h
 have HC3 : Hid (∀ X,Below w.heap.size w X → Calls Try.prog 56 #[.slice p3 n3 c3,.func (.func 57) #[] #[]] X fun e w' => Below X.heap.size X w' ∧ ∃ p c,e = .returned (.slice p n3 c) ∧ IsSts (fun b => X.heap.size ≤ b) w' y.el (.slice p n3 c)):=hid fun X hX => by
  have h:=csts_any y.el X _ (hid (hi.out.2.2.2.stay hX)) h3 (hid fun s hs X v hv => hee.out s (.inr hs) X v hv)
  rw [hn3] at h
  exact h
 rw [hn0,hn1,hn2,hn3]
 clear hn0 hn1 hn2 hn3 hnm h0 h1 h2 h3 hx0 hx1
 go_enter Try.func57,Try.ntmps57
 go_upto_region 1 with (fail)
 refine name_world ?_
 intro W1 hW1
 have BA : SBlk W1 w.heap.size y.k y.a y.tr y.sc (bstr y.nm) (.slice p0 n0 c0) (.slice p1 n1 c1) (.slice p2 n2 c2) (.slice p3 n3 c3):=by (rw [hW1];exact (SBlk.new rfl).alloc _)
 have BB : SBlk W1 (w.heap.size + 1) 0 0 false false ⟨#[]⟩ (.slice none 0 0) (.slice none 0 0) (.slice none 0 0) (.slice none 0 0):=by (rw [hW1];exact SBlk.new (by simp))
 have HB : Hid (Below w.heap.size w W1):=hid (by rw [hW1];exact ((Below.refl _ _).alloc (Nat.le_refl _) _).alloc (by simp) _)
 clear hW1
 obtain ⟨al,⟨ac0,ac1,ac2,ac3,ac4,ac5,ac6,ac7,ac8⟩,⟨af0,af1,af2,af3,af4,af5,af6,af7,af8⟩⟩:=BA.facts
 have bl:=BB.facts.1
 go_upto_region 2 with (go_at_call 33;(with_reducible refine (clone_any _ _ hnb).mono ?_);rintro e1 w1 ⟨rfl,hb1⟩;have HBx:=hid (below_ch HB.out hb1);replace BA:=BA.stay hb1;replace BB:=BB.stay hb1;obtain ⟨xl,⟨xc0,xc1,xc2,xc3,xc4,xc5,xc6,xc7,xc8⟩,⟨xf0,xf1,xf2,xf3,xf4,xf5,xf6,xf7,xf8⟩⟩:=BA.facts;clear hb1)
 refine name_world ?_
 intro W2 hW2
 replace BA : SBlk W2 w.heap.size y.k y.a y.tr y.sc (bstr y.nm) (.slice p0 n0 c0) (.slice p1 n1 c1) (.slice p2 n2 c2) (.slice p3 n3 c3):=by (rw [hW2];exact (BA.set4 _))
 replace BB : SBlk W2 (w.heap.size + 1) 0 0 false false ⟨#[]⟩ (.slice none 0 0) (.slice none 0 0) (.slice none 0 0) (.slice none 0 0):=by (rw [hW2];exact (BB.setO (by omega) _ _))
 replace HB : Hid (Below w.heap.size w W2):=hid (by (rw [hW2];exact (HBx.out.setCell (by simp) _)))
 clear hW2 HBx al ac0 ac1 ac2 ac3 ac4 ac5 ac6 ac7 ac8 af0 af1 af2 af3 af4 af5 af6 af7 af8 xl xc0 xc1 xc2 xc3 xc4 xc5 xc6 xc7 xc8 xf0 xf1 xf2 xf3 xf4 xf5 xf6 xf7 xf8
 obtain ⟨al,⟨ac0,ac1,ac2,ac3,ac4,ac5,ac6,ac7,ac8⟩,⟨af0,af1,af2,af3,af4,af5,af6,af7,af8⟩⟩:=BA.facts
 have bl:=BB.facts.1
 go_upto_region 3 with (go_at_call 69;(with_reducible refine (HC0.out _ HB.out).mono ?_);rintro e1 w1 ⟨hb1,q0,e0,rfl,hx1⟩;have HX0:=hid (hx1.kept (ok':=fun b => w.heap.size + 2 ≤ b) fun g hg _ => ⟨rfl,by omega⟩);clear hx1;have HBx:=hid (below_ch HB.out hb1);replace BA:=BA.stay hb1;replace BB:=BB.stay hb1;obtain ⟨xl,⟨xc0,xc1,xc2,xc3,xc4,xc5,xc6,xc7,xc8⟩,⟨xf0,xf1,xf2,xf3,xf4,xf5,xf6,xf7,xf8⟩⟩:=BA.facts;clear hb1)
 refine name_world ?_
 intro W3 hW3
 replace BA : SBlk W3 w.heap.size y.k y.a y.tr y.sc (bstr y.nm) (.slice q0 n0 e0) (.slice p1 n1 c1) (.slice p2 n2 c2) (.slice p3 n3 c3):=by (rw [hW3];exact (BA.set5 _))
 replace BB : SBlk W3 (w.heap.size + 1) 0 0 false false ⟨#[]⟩ (.slice none 0 0) (.slice none 0 0) (.slice none 0 0) (.slice none 0 0):=by (rw [hW3];exact (BB.setO (by omega) _ _))
 replace HB : Hid (Below w.heap.size w W3):=hid (by (rw [hW3];exact (HBx.out.setCell (by simp) _)))
 replace HX0 : Hid (IsExP (fun b => w.heap.size + 2 ≤ b) W3 (exsE y.ix) (.slice q0 n0 e0)):=hid (by (rw [hW3];exact (HX0.out.set (fun g hg => by omega) _ _)))
 clear hW3 HBx al ac0 ac1 ac2 ac3 ac4 ac5 ac6 ac7 ac8 af0 af1 af2 af3 af4 af5 af6 af7 af8 xl xc0 xc1 xc2 xc3 xc4 xc5 xc6 xc7 xc8 xf0 xf1 xf2 xf3 xf4 xf5 xf6 xf7 xf8
 obtain ⟨al,⟨ac0,ac1,ac2,ac3,ac4,ac5,ac6,ac7,ac8⟩,⟨af0,af1,af2,af3,af4,af5,af6,af7,af8⟩⟩:=BA.facts
 have bl:=BB.facts.1
 go_upto_region 4 with (go_at_call 69;(with_reducible refine (HC1.out _ HB.out).mono ?_);rintro e1 w1 ⟨hb1,q1,e1,rfl,hx1⟩;have HX1:=hid (hx1.kept (ok':=fun b => w.heap.size + 2 ≤ b) fun g hg _ => ⟨rfl,by omega⟩);clear hx1;have HBx:=hid (below_ch HB.out hb1);replace BA:=BA.stay hb1;replace BB:=BB.stay hb1;replace HX0:=hid (HX0.out.stay hb1);obtain ⟨xl,⟨xc0,xc1,xc2,xc3,xc4,xc5,xc6,xc7,xc8⟩,⟨xf0,xf1,xf2,xf3,xf4,xf5,xf6,xf7,xf8⟩⟩:=BA.facts;clear hb1)
 refine name_world ?_
 intro W4 hW4
 replace BA : SBlk W4 w.heap.size y.k y.a y.tr y.sc (bstr y.nm) (.slice q0 n0 e0) (.slice q1 n1 e1) (.slice p2 n2 c2) (.slice p3 n3 c3):=by (rw [hW4];exact (BA.set6 _))
 replace BB : SBlk W4 (w.heap.size + 1) 0 0 false false ⟨#[]⟩ (.slice none 0 0) (.slice none 0 0) (.slice none 0 0) (.slice none 0 0):=by (rw [hW4];exact (BB.setO (by omega) _ _))
 replace HB : Hid (Below w.heap.size w W4):=hid (by (rw [hW4];exact (HBx.out.setCell (by simp) _)))
 replace HX0 : Hid (IsExP (fun b => w.heap.size + 2 ≤ b) W4 (exsE y.ix) (.slice q0 n0 e0)):=hid (by (rw [hW4];exact (HX0.out.set (fun g hg => by omega) _ _)))
 replace HX1 : Hid (IsExP (fun b => w.heap.size + 2 ≤ b) W4 (exsE y.es) (.slice q1 n1 e1)):=hid (by (rw [hW4];exact (HX1.out.set (fun g hg => by omega) _ _)))
 clear hW4 HBx al ac0 ac1 ac2 ac3 ac4 ac5 ac6 ac7 ac8 af0 af1 af2 af3 af4 af5 af6 af7 af8 xl xc0 xc1 xc2 xc3 xc4 xc5 xc6 xc7 xc8 xf0 xf1 xf2 xf3 xf4 xf5 xf6 xf7 xf8
 obtain ⟨al,⟨ac0,ac1,ac2,ac3,ac4,ac5,ac6,ac7,ac8⟩,⟨af0,af1,af2,af3,af4,af5,af6,af7,af8⟩⟩:=BA.facts
 have bl:=BB.facts.1
 go_upto_region 5 with (go_at_call 56;(with_reducible refine (HC2.out _ HB.out).mono ?_);rintro e1 w1 ⟨hb1,q2,e2,rfl,hx1⟩;have HX2:=hid (hx1.kept (ok':=fun b => w.heap.size + 2 ≤ b) fun g hg _ => ⟨rfl,by omega⟩);clear hx1;have HBx:=hid (below_ch HB.out hb1);replace BA:=BA.stay hb1;replace BB:=BB.stay hb1;replace HX0:=hid (HX0.out.stay hb1);replace HX1:=hid (HX1.out.stay hb1);obtain ⟨xl,⟨xc0,xc1,xc2,xc3,xc4,xc5,xc6,xc7,xc8⟩,⟨xf0,xf1,xf2,xf3,xf4,xf5,xf6,xf7,xf8⟩⟩:=BA.facts;clear hb1)
 refine name_world ?_
 intro W5 hW5
 replace BA : SBlk W5 w.heap.size y.k y.a y.tr y.sc (bstr y.nm) (.slice q0 n0 e0) (.slice q1 n1 e1) (.slice q2 n2 e2) (.slice p3 n3 c3):=by (rw [hW5];exact (BA.set7 _))
 replace BB : SBlk W5 (w.heap.size + 1) 0 0 false false ⟨#[]⟩ (.slice none 0 0) (.slice none 0 0) (.slice none 0 0) (.slice none 0 0):=by (rw [hW5];exact (BB.setO (by omega) _ _))
 replace HB : Hid (Below w.heap.size w W5):=hid (by (rw [hW5];exact (HBx.out.setCell (by simp) _)))
 replace HX0 : Hid (IsExP (fun b => w.heap.size + 2 ≤ b) W5 (exsE y.ix) (.slice q0 n0 e0)):=hid (by (rw [hW5];exact (HX0.out.set (fun g hg => by omega) _ _)))
 replace HX1 : Hid (IsExP (fun b => w.heap.size + 2 ≤ b) W5 (exsE y.es) (.slice q1 n1 e1)):=hid (by (rw [hW5];exact (HX1.out.set (fun g hg => by omega) _ _)))
 replace HX2 : Hid (IsSts (fun b => w.heap.size + 2 ≤ b) W5 y.bd (.slice q2 n2 e2)):=hid (by (rw [hW5];exact (HX2.out.set (fun g hg => by omega) _ _)))
 clear hW5 HBx al ac0 ac1 ac2 ac3 ac4 ac5 ac6 ac7 ac8 af0 af1 af2 af3 af4 af5 af6 af7 af8 xl xc0 xc1 xc2 xc3 xc4 xc5 xc6 xc7 xc8 xf0 xf1 xf2 xf3 xf4 xf5 xf6 xf7 xf8
 obtain ⟨al,⟨ac0,ac1,ac2,ac3,ac4,ac5,ac6,ac7,ac8⟩,⟨af0,af1,af2,af3,af4,af5,af6,af7,af8⟩⟩:=BA.facts
 have bl:=BB.facts.1
 go_upto_region 6 with (go_at_call 56;(with_reducible refine (HC3.out _ HB.out).mono ?_);rintro e1 w1 ⟨hb1,q3,e3,rfl,hx1⟩;have HX3:=hid (hx1.kept (ok':=fun b => w.heap.size + 2 ≤ b) fun g hg _ => ⟨rfl,by omega⟩);clear hx1;have HBx:=hid (below_ch HB.out hb1);replace BA:=BA.stay hb1;replace BB:=BB.stay hb1;replace HX0:=hid (HX0.out.stay hb1);replace HX1:=hid (HX1.out.stay hb1);replace HX2:=hid (HX2.out.stay hb1);obtain ⟨xl,⟨xc0,xc1,xc2,xc3,xc4,xc5,xc6,xc7,xc8⟩,⟨xf0,xf1,xf2,xf3,xf4,xf5,xf6,xf7,xf8⟩⟩:=BA.facts;clear hb1)
 refine name_world ?_
 intro W6 hW6
 replace BA : SBlk W6 w.heap.size y.k y.a y.tr y.sc (bstr y.nm) (.slice q0 n0 e0) (.slice q1 n1 e1) (.slice q2 n2 e2) (.slice q3 n3 e3):=by (rw [hW6];exact (BA.set8 _))
 replace BB : SBlk W6 (w.heap.size + 1) 0 0 false false ⟨#[]⟩ (.slice none 0 0) (.slice none 0 0) (.slice none 0 0) (.slice none 0 0):=by (rw [hW6];exact (BB.setO (by omega) _ _))
 replace HB : Hid (Below w.heap.size w W6):=hid (by (rw [hW6];exact (HBx.out.setCell (by simp) _)))
 replace HX0 : Hid (IsExP (fun b => w.heap.size + 2 ≤ b) W6 (exsE y.ix) (.slice q0 n0 e0)):=hid (by (rw [hW6];exact (HX0.out.set (fun g hg => by omega) _ _)))
 replace HX1 : Hid (IsExP (fun b => w.heap.size + 2 ≤ b) W6 (exsE y.es) (.slice q1 n1 e1)):=hid (by (rw [hW6];exact (HX1.out.set (fun g hg => by omega) _ _)))
 replace HX2 : Hid (IsSts (fun b => w.heap.size + 2 ≤ b) W6 y.bd (.slice q2 n2 e2)):=hid (by (rw [hW6];exact (HX2.out.set (fun g hg => by omega) _ _)))
 replace HX3 : Hid (IsSts (fun b => w.heap.size + 2 ≤ b) W6 y.el (.slice q3 n3 e3)):=hid (by (rw [hW6];exact (HX3.out.set (fun g hg => by omega) _ _)))
 clear hW6 HBx al ac0 ac1 ac2 ac3 ac4 ac5 ac6 ac7 ac8 af0 af1 af2 af3 af4 af5 af6 af7 af8 xl xc0 xc1 xc2 xc3 xc4 xc5 xc6 xc7 xc8 xf0 xf1 xf2 xf3 xf4 xf5 xf6 xf7 xf8
 obtain ⟨al,⟨ac0,ac1,ac2,ac3,ac4,ac5,ac6,ac7,ac8⟩,⟨af0,af1,af2,af3,af4,af5,af6,af7,af8⟩⟩:=BA.facts
 have bl:=BB.facts.1
 obtain ⟨_,_,⟨f0,f1,f2,f3,f4,f5,f6,f7,f8⟩⟩:=BB.facts
 go_wp2
 have hne : ∀ g,w.heap.size + 2 ≤ g → g ≠ w.heap.size + 1:=fun g hg => by omega
 refine bodyPost_ret (results_s rfl _ rfl BB.all) rfl ⟨?_,q0,e0,q1,e1,q2,e2,q3,e3,?_,?_⟩
 · exact ((((((((HB.out.setCell (by simp) _).setCell (by simp) _).setCell (by simp) _).setCell (by simp) _).setCell (by simp) _).setCell (by simp) _).setCell (by simp) _).setCell (by simp) _).setCell (by simp) _
 · rw [HN.out.1,HN.out.2.1,HN.out.2.2.1,HN.out.2.2.2]
 · rw [HN.out.1,HN.out.2.1,HN.out.2.2.1,HN.out.2.2.2]
   have h : IsSt1 (fun b => w.heap.size + 2 ≤ b) W6 y ⟨.slice q0 n0 e0,.slice q1 n1 e1,.slice q2 n2 e2,.slice q3 n3 e3⟩:=⟨HX0.out,HX1.out,HX2.out,HX3.out⟩
   exact (((((((((h.set hne _ _).set hne _ _).set hne _ _).set hne _ _).set hne _ _).set hne _ _).set hne _ _).set hne _ _).set hne _ _).weak fun b hb => by omega
theorem cstmt_any : ∀ (s : Stm),ShS s → ∀ (w : World) (v : SV),IsSt1 (fun g => 0 ≤ g) w s v → Calls Try.prog 57 #[stVal s v] w (CpS w s):=by
 intro s hs
 induction hs with
 | mk h1 h2 h3 h4 h5 h6 h7 _ _ ih1 ih2 =>
  exact fun w v hi => cstmt_step _ w v (hid hi) h1 h2 h3 h4 h5 h6 h7 (hid fun t ht X u hu => by
   rcases ht with ht | ht
   · exact ih1 t ht X u hu
   · exact ih2 t ht X u hu)
end Go.Proofs.Ytbmmjomcjlpnlaa
namespace Go.Proofs.Ytbmmjomcjlpnlaa
open Go Go.RowKit
abbrev fnVal (f : Fn) (v : FV) : Value:=.agg #[.int .i64 f.a,.string (bstr f.nm),v.p,.bool f.tr,.bool f.sc,v.b,.int .i64 f.ret.k,.int .i64 f.ret.op,.int .i64 f.ret.n,.string (bstr f.ret.nm),v.k,.int .i64 f.ret.a]
section
variable {X Y : World} {b : Nat} {a : Int} {nm : ByteArray} {pv : Value} {tr : Bool} {sc : Bool} {bv : Value} {k : Int} {q : Int} {n : Int} {s : ByteArray} {kv : Value} {xa : Int}
theorem FBlk.stay (h : FBlk X b a nm pv tr sc bv k q n s kv xa) (hf : Below X.heap.size X Y) : FBlk Y b a nm pv tr sc bv k q n s kv xa:=(hf.block b (Array.getElem?_eq_some_iff.1 h).1).trans h
theorem FBlk.all (h : FBlk X b a nm pv tr sc bv k q n s kv xa) {a' : Int} {nm' : ByteArray} {pv' : Value} {tr' sc' : Bool} {bv' : Value} {k' q' n' : Int} {s' : ByteArray} {kv' : Value} {xa' : Int} :
 FBlk ((((((((((((X.setCell ⟨b,0,none⟩ (.int .i64 a')).setCell ⟨b,1,none⟩ (.string nm')).setCell ⟨b,2,none⟩ pv').setCell ⟨b,3,none⟩ (.bool tr')).setCell ⟨b,4,none⟩ (.bool sc')).setCell ⟨b,5,none⟩ bv').setCell ⟨b,6,none⟩ (.int .i64 k')).setCell ⟨b,7,none⟩ (.int .i64 q')).setCell ⟨b,8,none⟩ (.int .i64 n')).setCell ⟨b,9,none⟩ (.string s')).setCell ⟨b,10,none⟩ kv').setCell ⟨b,11,none⟩ (.int .i64 xa')) b a' nm' pv' tr' sc' bv' k' q' n' s' kv' xa' :=
 (((((((((((h.set0 a').set1 nm').set2 pv').set3 tr').set4 sc').set5 bv').set6 k').set7 q').set8 n').set9 s').set10 kv').set11 xa'
theorem results_fn {fn : Func} {p : Tmp} (hfn : fn.results = #[.cell p 65]) (tmps : Array Value) (hp : tmps.getD p undef = .pointer (some ⟨b,0,none⟩)) (h : FBlk X b a nm pv tr sc bv k q n s kv xa) :
 (results fn tmps).run Try.prog X = .ok (.agg #[.int .i64 a,.string nm,pv,.bool tr,.bool sc,bv,.int .i64 k,.int .i64 q,.int .i64 n,.string s,kv,.int .i64 xa]) X:=by
 have hp' : tmps[p]?.getD undef = .pointer (some ⟨b,0,none⟩):=by simpa using hp
 simp [results,hfn,hp',asAddr,run_loadVar_row X b 65 65 _ (0,0) _ h Try.underlying65 rfl (by kernel_rfl)]
end
theorem IsPl.set {α : Type} {ok : Nat → Prop} {T : TypeId} {n : Nat} {f : α → List Value} {W : World} {l : List α} {v : Value} (h : IsPl ok T n f W l v) {b : Nat} (hb : ∀ g,ok g → g ≠ b) (o : Nat) (x : Value) : IsPl ok T n f (W.setCell ⟨b,o,none⟩ x) l v:=h.kept fun g hg _ => ⟨heap_setCell_other W ⟨b,o,none⟩ g x (hb g hg),hg⟩
theorem IsPl.stay1 {α : Type} {ok : Nat → Prop} {T : TypeId} {n : Nat} {f : α → List Value} {W X : World} {l : List α} {v : Value} (h : IsPl ok T n f W l v) (k : Below W.heap.size W X) : IsPl ok T n f X l v:=h.kept fun g hg hl => ⟨k.block g hl,hg⟩
theorem IsFn1.stay {ok : Nat → Prop} {W X : World} {f : Fn} {v : FV} (h : IsFn1 ok W f v) (k : Below W.heap.size W X) : IsFn1 ok X f v:=⟨h.1.stay1 k,h.2.1.stay k,h.2.2.stay k⟩
structure ShF (f : Fn) : Prop where
 nm : f.nm.length ≤ 100000
 ps : f.ps.length ≤ 1000000 ∧ ∀ q ∈ f.ps,q.nm.length ≤ 100000
 bd : f.bd.length ≤ 1000000 ∧ ∀ s ∈ f.bd,ShS s
 rt : ShE f.ret
def CpF (X : World) (f : Fn) (r : Ending) (w' : World) : Prop:=Below X.heap.size X w' ∧ ∃ z0 k0 z1 k1 z2 k2,r = .returned (fnVal f ⟨.slice z0 f.ps.length k0,.slice z1 f.bd.length k1,.slice z2 f.ret.ks.length k2⟩) ∧ IsFn1 (fun g => X.heap.size ≤ g) w' f ⟨.slice z0 f.ps.length k0,.slice z1 f.bd.length k1,.slice z2 f.ret.ks.length k2⟩
theorem cfunc_any (y : Fn) (w : World) (v : FV) (hi : Hid (IsFn1 (fun g => 0 ≤ g) w y v)) (hs : ShF y) :
 Calls Try.prog 29 #[fnVal y v] w (CpF w y):=by
 obtain ⟨⟨p0,c0,e0⟩,_⟩:=hi.out.1
 obtain ⟨p1,c1,e1⟩:=hi.out.2.1.form
 obtain ⟨p2,c2,e2⟩:=hi.out.2.2.form
 obtain ⟨vp,vb,vk⟩:=v
 simp only at e0 e1 e2
 subst e0 e1 e2
 obtain ⟨n0,hn0⟩ : ∃ q,y.ps.length = q:=⟨_,rfl⟩
 obtain ⟨n1,hn1⟩ : ∃ q,y.bd.length = q:=⟨_,rfl⟩
 obtain ⟨n2,hn2⟩ : ∃ q,y.ret.ks.length = q:=⟨_,rfl⟩
 have hnb : (bstr y.nm).size ≤ 281474976710656:=by (have:=hs.nm;show y.nm.length ≤ _;omega)
 have HN : Hid (y.ps.length = n0 ∧ y.bd.length = n1 ∧ y.ret.ks.length = n2):=hid ⟨hn0,hn1,hn2⟩
 have HC0 : Hid (∀ X,Below w.heap.size w X → Calls Try.prog 54 #[.slice p0 n0 c0,.func (.func 55) #[] #[]] X fun e w' => Below X.heap.size X w' ∧ ∃ p c,e = .returned (.slice p n0 c) ∧ IsPl (fun b => X.heap.size ≤ b) 137 3 pmCells w' y.ps (.slice p n0 c)):=hid fun X hX => by
  have h:=cparams_any y.ps X _ (hid (hi.out.1.stay1 hX)) hs.ps.1 hs.ps.2
  simp only [hn0] at h
  exact h
 have HC1 : Hid (∀ X,Below w.heap.size w X → Calls Try.prog 56 #[.slice p1 n1 c1,.func (.func 57) #[] #[]] X fun e w' => Below X.heap.size X w' ∧ ∃ p c,e = .returned (.slice p n1 c) ∧ IsSts (fun b => X.heap.size ≤ b) w' y.bd (.slice p n1 c)):=hid fun X hX => by
  have h:=csts_any y.bd X _ (hid (hi.out.2.1.stay hX)) hs.bd.1 (hid fun s hm X v hv => cstmt_any s (hs.bd.2 s hm) X v hv)
  simp only [hn1] at h
  exact h
 have HC2 : Hid (∀ X,Below w.heap.size w X → Calls Try.prog 58 #[.agg #[.int .i64 y.ret.k,.int .i64 y.ret.op,.int .i64 y.ret.n,.string (bstr y.ret.nm),.slice p2 n2 c2,.int .i64 y.ret.a]] X fun e w' => Below X.heap.size X w' ∧ ∃ p c,e = .returned (.agg #[.int .i64 y.ret.k,.int .i64 y.ret.op,.int .i64 y.ret.n,.string (bstr y.ret.nm),.slice p n2 c,.int .i64 y.ret.a]) ∧ IsExP (fun b => X.heap.size ≤ b) w' y.ret (.slice p n2 c)):=hid fun X hX => by
  have h:=cexpr_any y.ret hs.rt X _ ((hi.out.2.2.stay hX).toEx (lo:=0) fun g _ => Nat.zero_le g)
  unfold CpE at h
  simp only [hn2] at h
  exact h
 simp only [hn0,hn1,hn2]
 clear hn0 hn1 hn2
 go_enter Try.func29,Try.ntmps29
 go_upto_region 1 with (fail)
 refine name_world ?_
 intro W1 hW1
 have BA : FBlk W1 w.heap.size y.a (bstr y.nm) (.slice p0 n0 c0) y.tr y.sc (.slice p1 n1 c1) y.ret.k y.ret.op y.ret.n (bstr y.ret.nm) (.slice p2 n2 c2) y.ret.a:=by (rw [hW1];exact (FBlk.new rfl).alloc _)
 have BB : FBlk W1 (w.heap.size + 1) 0 ⟨#[]⟩ (.slice none 0 0) false false (.slice none 0 0) 0 0 0 ⟨#[]⟩ (.slice none 0 0) 0:=by (rw [hW1];exact FBlk.new (by simp))
 have HB : Hid (Below w.heap.size w W1):=hid (by rw [hW1];exact ((Below.refl _ _).alloc (Nat.le_refl _) _).alloc (by simp) _)
 clear hW1
 obtain ⟨al,⟨ac0,ac1,ac2,ac3,ac4,ac5,ac6,ac7,ac8,ac9,ac10,ac11⟩,⟨af0,af1,af2,af3,af4,af5,af6,af7,af8,af9,af10,af11⟩⟩:=BA.facts
 have bl:=BB.facts.1
 go_upto_region 2 with (go_at_call 33;(with_reducible refine (clone_any _ _ hnb).mono ?_);rintro e1 w1 ⟨rfl,hb1⟩;have HBx:=hid (below_ch HB.out hb1);replace BA:=BA.stay hb1;replace BB:=BB.stay hb1;obtain ⟨xl,⟨xc0,xc1,xc2,xc3,xc4,xc5,xc6,xc7,xc8,xc9,xc10,xc11⟩,⟨xf0,xf1,xf2,xf3,xf4,xf5,xf6,xf7,xf8,xf9,xf10,xf11⟩⟩:=BA.facts;clear hb1)
 refine name_world ?_
 intro W2 hW2
 replace BA : FBlk W2 w.heap.size y.a (bstr y.nm) (.slice p0 n0 c0) y.tr y.sc (.slice p1 n1 c1) y.ret.k y.ret.op y.ret.n (bstr y.ret.nm) (.slice p2 n2 c2) y.ret.a:=by (rw [hW2];exact (BA.set1 _))
 replace BB : FBlk W2 (w.heap.size + 1) 0 ⟨#[]⟩ (.slice none 0 0) false false (.slice none 0 0) 0 0 0 ⟨#[]⟩ (.slice none 0 0) 0:=by (rw [hW2];exact (BB.setO (by omega) _ _))
 replace HB : Hid (Below w.heap.size w W2):=hid (by (rw [hW2];exact (HBx.out.setCell (by simp) _)))
 clear hW2 HBx al ac0 ac1 ac2 ac3 ac4 ac5 ac6 ac7 ac8 ac9 ac10 ac11 af0 af1 af2 af3 af4 af5 af6 af7 af8 af9 af10 af11 xl xc0 xc1 xc2 xc3 xc4 xc5 xc6 xc7 xc8 xc9 xc10 xc11 xf0 xf1 xf2 xf3 xf4 xf5 xf6 xf7 xf8 xf9 xf10 xf11
 obtain ⟨al,⟨ac0,ac1,ac2,ac3,ac4,ac5,ac6,ac7,ac8,ac9,ac10,ac11⟩,⟨af0,af1,af2,af3,af4,af5,af6,af7,af8,af9,af10,af11⟩⟩:=BA.facts
 have bl:=BB.facts.1
 go_upto_region 3 with (go_at_call 54;(with_reducible refine (HC0.out _ HB.out).mono ?_);rintro e1 w1 ⟨hb1,q0,e0,rfl,hx1⟩;have HX0:=hid (hx1.kept (ok':=fun b => w.heap.size + 2 ≤ b) fun g hg _ => ⟨rfl,by omega⟩);clear hx1;have HBx:=hid (below_ch HB.out hb1);replace BA:=BA.stay hb1;replace BB:=BB.stay hb1;obtain ⟨xl,⟨xc0,xc1,xc2,xc3,xc4,xc5,xc6,xc7,xc8,xc9,xc10,xc11⟩,⟨xf0,xf1,xf2,xf3,xf4,xf5,xf6,xf7,xf8,xf9,xf10,xf11⟩⟩:=BA.facts;clear hb1)
 refine name_world ?_
 intro W3 hW3
 replace BA : FBlk W3 w.heap.size y.a (bstr y.nm) (.slice q0 n0 e0) y.tr y.sc (.slice p1 n1 c1) y.ret.k y.ret.op y.ret.n (bstr y.ret.nm) (.slice p2 n2 c2) y.ret.a:=by (rw [hW3];exact (BA.set2 _))
 replace BB : FBlk W3 (w.heap.size + 1) 0 ⟨#[]⟩ (.slice none 0 0) false false (.slice none 0 0) 0 0 0 ⟨#[]⟩ (.slice none 0 0) 0:=by (rw [hW3];exact (BB.setO (by omega) _ _))
 replace HB : Hid (Below w.heap.size w W3):=hid (by (rw [hW3];exact (HBx.out.setCell (by simp) _)))
 replace HX0 : Hid (IsPl (fun b => w.heap.size + 2 ≤ b) 137 3 pmCells W3 y.ps (.slice q0 n0 e0)):=hid (by (rw [hW3];exact (HX0.out.set (fun g hg => by omega) _ _)))
 clear hW3 HBx al ac0 ac1 ac2 ac3 ac4 ac5 ac6 ac7 ac8 ac9 ac10 ac11 af0 af1 af2 af3 af4 af5 af6 af7 af8 af9 af10 af11 xl xc0 xc1 xc2 xc3 xc4 xc5 xc6 xc7 xc8 xc9 xc10 xc11 xf0 xf1 xf2 xf3 xf4 xf5 xf6 xf7 xf8 xf9 xf10 xf11
 obtain ⟨al,⟨ac0,ac1,ac2,ac3,ac4,ac5,ac6,ac7,ac8,ac9,ac10,ac11⟩,⟨af0,af1,af2,af3,af4,af5,af6,af7,af8,af9,af10,af11⟩⟩:=BA.facts
 have bl:=BB.facts.1
 go_upto_region 4 with (go_at_call 56;(with_reducible refine (HC1.out _ HB.out).mono ?_);rintro e1 w1 ⟨hb1,q1,e1,rfl,hx1⟩;have HX1:=hid (hx1.kept (ok':=fun b => w.heap.size + 2 ≤ b) fun g hg _ => ⟨rfl,by omega⟩);clear hx1;have HBx:=hid (below_ch HB.out hb1);replace BA:=BA.stay hb1;replace BB:=BB.stay hb1;replace HX0:=hid (HX0.out.stay1 hb1);obtain ⟨xl,⟨xc0,xc1,xc2,xc3,xc4,xc5,xc6,xc7,xc8,xc9,xc10,xc11⟩,⟨xf0,xf1,xf2,xf3,xf4,xf5,xf6,xf7,xf8,xf9,xf10,xf11⟩⟩:=BA.facts;clear hb1)
 refine name_world ?_
 intro W4 hW4
 replace BA : FBlk W4 w.heap.size y.a (bstr y.nm) (.slice q0 n0 e0) y.tr y.sc (.slice q1 n1 e1) y.ret.k y.ret.op y.ret.n (bstr y.ret.nm) (.slice p2 n2 c2) y.ret.a:=by (rw [hW4];exact (BA.set5 _))
 replace BB : FBlk W4 (w.heap.size + 1) 0 ⟨#[]⟩ (.slice none 0 0) false false (.slice none 0 0) 0 0 0 ⟨#[]⟩ (.slice none 0 0) 0:=by (rw [hW4];exact (BB.setO (by omega) _ _))
 replace HB : Hid (Below w.heap.size w W4):=hid (by (rw [hW4];exact (HBx.out.setCell (by simp) _)))
 replace HX0 : Hid (IsPl (fun b => w.heap.size + 2 ≤ b) 137 3 pmCells W4 y.ps (.slice q0 n0 e0)):=hid (by (rw [hW4];exact (HX0.out.set (fun g hg => by omega) _ _)))
 replace HX1 : Hid (IsSts (fun b => w.heap.size + 2 ≤ b) W4 y.bd (.slice q1 n1 e1)):=hid (by (rw [hW4];exact (HX1.out.set (fun g hg => by omega) _ _)))
 clear hW4 HBx al ac0 ac1 ac2 ac3 ac4 ac5 ac6 ac7 ac8 ac9 ac10 ac11 af0 af1 af2 af3 af4 af5 af6 af7 af8 af9 af10 af11 xl xc0 xc1 xc2 xc3 xc4 xc5 xc6 xc7 xc8 xc9 xc10 xc11 xf0 xf1 xf2 xf3 xf4 xf5 xf6 xf7 xf8 xf9 xf10 xf11
 obtain ⟨al,⟨ac0,ac1,ac2,ac3,ac4,ac5,ac6,ac7,ac8,ac9,ac10,ac11⟩,⟨af0,af1,af2,af3,af4,af5,af6,af7,af8,af9,af10,af11⟩⟩:=BA.facts
 have bl:=BB.facts.1
 go_upto_region 5 with (go_at_call 58;(with_reducible refine (HC2.out _ HB.out).mono ?_);rintro e1 w1 ⟨hb1,q2,e2,rfl,hx1⟩;have HX2:=hid (hx1.kept (ok':=fun b => w.heap.size + 2 ≤ b) fun g hg _ => ⟨rfl,by omega⟩);clear hx1;have HBx:=hid (below_ch HB.out hb1);replace BA:=BA.stay hb1;replace BB:=BB.stay hb1;replace HX0:=hid (HX0.out.stay1 hb1);replace HX1:=hid (HX1.out.stay hb1);obtain ⟨xl,⟨xc0,xc1,xc2,xc3,xc4,xc5,xc6,xc7,xc8,xc9,xc10,xc11⟩,⟨xf0,xf1,xf2,xf3,xf4,xf5,xf6,xf7,xf8,xf9,xf10,xf11⟩⟩:=BA.facts;clear hb1)
 refine name_world ?_
 intro W5 hW5
 replace BA : FBlk W5 w.heap.size y.a (bstr y.nm) (.slice q0 n0 e0) y.tr y.sc (.slice q1 n1 e1) y.ret.k y.ret.op y.ret.n (bstr y.ret.nm) (.slice q2 n2 e2) y.ret.a:=by (rw [hW5];exact ((((((BA.set6 _).set7 _).set8 _).set9 _).set10 _).set11 _))
 replace BB : FBlk W5 (w.heap.size + 1) 0 ⟨#[]⟩ (.slice none 0 0) false false (.slice none 0 0) 0 0 0 ⟨#[]⟩ (.slice none 0 0) 0:=by (rw [hW5];exact ((((((BB.setO (by omega) _ _).setO (by omega) _ _).setO (by omega) _ _).setO (by omega) _ _).setO (by omega) _ _).setO (by omega) _ _))
 replace HB : Hid (Below w.heap.size w W5):=hid (by (rw [hW5];exact ((((((HBx.out.setCell (by simp) _).setCell (by simp) _).setCell (by simp) _).setCell (by simp) _).setCell (by simp) _).setCell (by simp) _)))
 replace HX0 : Hid (IsPl (fun b => w.heap.size + 2 ≤ b) 137 3 pmCells W5 y.ps (.slice q0 n0 e0)):=hid (by (rw [hW5];exact ((((((HX0.out.set (fun g hg => by omega) _ _).set (fun g hg => by omega) _ _).set (fun g hg => by omega) _ _).set (fun g hg => by omega) _ _).set (fun g hg => by omega) _ _).set (fun g hg => by omega) _ _)))
 replace HX1 : Hid (IsSts (fun b => w.heap.size + 2 ≤ b) W5 y.bd (.slice q1 n1 e1)):=hid (by (rw [hW5];exact ((((((HX1.out.set (fun g hg => by omega) _ _).set (fun g hg => by omega) _ _).set (fun g hg => by omega) _ _).set (fun g hg => by omega) _ _).set (fun g hg => by omega) _ _).set (fun g hg => by omega) _ _)))
 replace HX2 : Hid (IsExP (fun b => w.heap.size + 2 ≤ b) W5 y.ret (.slice q2 n2 e2)):=hid (by (rw [hW5];exact ((((((HX2.out.set (fun g hg => by omega) _ _).set (fun g hg => by omega) _ _).set (fun g hg => by omega) _ _).set (fun g hg => by omega) _ _).set (fun g hg => by omega) _ _).set (fun g hg => by omega) _ _)))
 clear hW5 HBx al ac0 ac1 ac2 ac3 ac4 ac5 ac6 ac7 ac8 ac9 ac10 ac11 af0 af1 af2 af3 af4 af5 af6 af7 af8 af9 af10 af11 xl xc0 xc1 xc2 xc3 xc4 xc5 xc6 xc7 xc8 xc9 xc10 xc11 xf0 xf1 xf2 xf3 xf4 xf5 xf6 xf7 xf8 xf9 xf10 xf11
 obtain ⟨al,⟨ac0,ac1,ac2,ac3,ac4,ac5,ac6,ac7,ac8,ac9,ac10,ac11⟩,⟨af0,af1,af2,af3,af4,af5,af6,af7,af8,af9,af10,af11⟩⟩:=BA.facts
 have bl:=BB.facts.1
 obtain ⟨_,_,⟨f0,f1,f2,f3,f4,f5,f6,f7,f8,f9,f10,f11⟩⟩:=BB.facts
 go_wp2
 have hne : ∀ g,w.heap.size + 2 ≤ g → g ≠ w.heap.size + 1:=fun g hg => by omega
 refine bodyPost_ret (results_fn rfl _ rfl BB.all) rfl ⟨?_,q0,e0,q1,e1,q2,e2,?_,?_⟩
 · exact ((((((((((((HB.out.setCell (by simp) _).setCell (by simp) _).setCell (by simp) _).setCell (by simp) _).setCell (by simp) _).setCell (by simp) _).setCell (by simp) _).setCell (by simp) _).setCell (by simp) _).setCell (by simp) _).setCell (by simp) _).setCell (by simp) _)
 · rw [HN.out.1,HN.out.2.1,HN.out.2.2]
 · rw [HN.out.1,HN.out.2.1,HN.out.2.2]
   exact ⟨(((((((((((((HX0.out.set hne _ _).set hne _ _).set hne _ _).set hne _ _).set hne _ _).set hne _ _).set hne _ _).set hne _ _).set hne _ _).set hne _ _).set hne _ _).set hne _ _).kept fun b hb _ => ⟨rfl,by omega⟩),(((((((((((((HX1.out.set hne _ _).set hne _ _).set hne _ _).set hne _ _).set hne _ _).set hne _ _).set hne _ _).set hne _ _).set hne _ _).set hne _ _).set hne _ _).set hne _ _).kept fun b hb _ => ⟨rfl,by omega⟩),(((((((((((((HX2.out.set hne _ _).set hne _ _).set hne _ _).set hne _ _).set hne _ _).set hne _ _).set hne _ _).set hne _ _).set hne _ _).set hne _ _).set hne _ _).set hne _ _).kept fun b hb _ => ⟨rfl,by omega⟩)⟩
end Go.Proofs.Ytbmmjomcjlpnlaa
