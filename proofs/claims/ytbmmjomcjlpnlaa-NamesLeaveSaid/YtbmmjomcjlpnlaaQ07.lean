/- Joined texts: Rpar Gl Fn Rfn RthL RthF: lemmas for the law; each says its own conditions. -/
import Derived.Test.YtbmmjomcjlpnlaaQ06
set_option linter.unusedSimpArgs false
set_option linter.unusedVariables false
set_option maxRecDepth 100000
set_option maxHeartbeats 8000000
open Go.Lib (hid)
namespace Go.Proofs.Ytbmmjomcjlpnlaa
open Go Go.RowKit
theorem PRow.form {B : Nat} {W : World} {l : List Pm} {v : Value} (h : PRow B W l v) : ∃ p c,v = .slice p l.length c:=by
 rcases h.2 with ⟨h1,h2⟩ | ⟨g,cap,cur,h1,_⟩
 · exact ⟨none,0,by rw [h1,h2]⟩
 · exact ⟨_,_,h1⟩
theorem own_fr {T : TypeId} {k n B rb : Nat} {W X : World} {v : Value} {xs : List Value} (h : W.ownsRow B T k v n xs) (hf : Fr (some rb) W X) (hr : rb < B) : X.ownsRow B T k v n xs:=by
 refine h.kept (row:=some rb) hf ?_
 right
 intro e
 have:=h.lt _ e
 omega
theorem pars_bad (n k : Nat) (c : Int) (b : Nat) : parsF n k (.bad c b) = ([],.bad c b):=by
 cases n <;> simp [parsF,RS.good]
theorem Fr.trans_ {rb : Nat} {W X Y : World} (h : Fr (some rb) W X) (k : Fr (some rb) X Y) : Fr (some rb) W Y:=h.step k
theorem name_bad (c : Int) (b : Nat) : nameF (.bad c b) = (([],0),.bad c b):=rfl
theorem kind_bad (c : Int) (b : Nat) : kindF (.bad c b) = ((false,false),.bad c b):=rfl
def slen : Value → Nat | .slice _ l _ => l | _ => 0
theorem r4_limit6 {r4 rb g cap : Nat} {ws : List Wd} {d : Int} {p0 p1 p2 p3 : Value} {W : World} {σ : RS} (S : Hid (A4 W r4 rb g cap ws d p0 p1 p2 p3 σ)) (n : Nat) :
 Calls Try.prog 46 #[.pointer (some ⟨r4,0,none⟩),.int .i64 n,.int .i64 6] W fun e w' => e = .returned (.tuple #[]) ∧ A4 w' r4 rb g cap ws d p0 p1 p2 p3 (limF n 6 σ) ∧ Fr (some rb) W w':=r4_limit S n 6
theorem is_ok {σ : RS} {t : List UInt8} (h : σ.is t = true) : ∃ y r,σ = .ok (y :: r):=by
 cases σ with
 | bad c b => cases h
 | ok ts =>
  cases ts with
  | nil => cases h
  | cons y r => exact ⟨y,r,rfl⟩
theorem r4_parNone {r4 rb g cap : Nat} {ws : List Wd} {d : Int} {p0 p1 p2 p3 : Value} {W : World} {σ : RS} {x : Wd} {tt : List Wd} (S : Hid (A4 W r4 rb g cap ws d p0 p1 p2 p3 σ)) (hn : Hid (σ.need (⟨#[40]⟩ : ByteArray).data.toList = .ok (x :: tt))) (hb : Hid ((RS.ok (x :: tt)).is (⟨#[41]⟩ : ByteArray).data.toList = true)) :
 Calls Try.prog 65 #[.pointer (some ⟨r4,0,none⟩)] W fun e w' => e = .returned (.slice none 0 0) ∧ A4 w' r4 rb g cap ws d p0 p1 p2 p3 (.ok tt) ∧ Fr (some rb) W w':=by
 have hx3:=hid (RS.is_ne3 hb.out)
 go_enter Try.func65,Try.ntmps65
 go_wp2_with (first
  | (go_at_call 48;(with_reducible refine (r4_need S _ _ hn).mono ?_);rintro e1 w1 ⟨rfl,hs1,hf1⟩;have S1:=hid hs1)
  | (go_at_call 45;(with_reducible refine (r4_is S1 _ true hb).mono ?_);rintro e2 w2 ⟨rfl,hb2⟩;have S3:=hid (S1.out.stay hb2);obtain ⟨i,a,R0,h5,h6,h7,_⟩:=S3.out.st.ok_cells S3.out.env;obtain ⟨m0,_,_,_,_,_⟩:=S3.out.at4.cells;obtain ⟨q0,q1,q2,q3,q4⟩:=R0.rd.cells;have hl4:=S3.out.at4.lt;have hlr:=R0.rd.lt;have hfr:=R0.rd.frozen 1))
 go_ret
 have F9 : Fr (some rb) w2 (w2.setCell ⟨rb,1,none⟩ (.int .i64 ((i : Int) + 1))):=(Fr.refl _ _).set (.inl rfl) _ _
 exact ⟨rfl,S3.out.fr F9 (st_adv S3.out.st R0 hx3.out h5),(hf1.stepB hb2).step F9⟩
theorem r4_parSome {r4 rb g cap : Nat} {ws : List Wd} {d : Int} {p0 p1 p2 p3 : Value} {W : World} {σ τ : RS} (S : Hid (A4 W r4 rb g cap ws d p0 p1 p2 p3 σ)) (hn : Hid (σ.need (⟨#[40]⟩ : ByteArray).data.toList = τ)) (hb : Hid (τ.is (⟨#[41]⟩ : ByteArray).data.toList = false)) (R : List Pm × RS) (hR : Hid (parsF 8 0 τ = R)) (τ' : RS) (hτ : Hid (R.2.need (⟨#[41]⟩ : ByteArray).data.toList = τ')) :
 Calls Try.prog 65 #[.pointer (some ⟨r4,0,none⟩)] W fun e w' => (∃ p c,e = .returned (.slice p R.1.length c) ∧ PRow W.heap.size w' R.1 (.slice p R.1.length c)) ∧ A4 w' r4 rb g cap ws d p0 p1 p2 p3 τ' ∧ Fr (some rb) W w':=by
 obtain ⟨q4l,qbl,qgl⟩:=S.out.blk
 have hfew:=S.out.env.few
 obtain ⟨i0,hinf,hzi0,hzi1,hzi2⟩:=info_parts infoPm
 go_enter Try.func65,Try.ntmps65
 go_wp2_with (first
  | (go_at_call 48;(with_reducible refine (r4_need S _ _ hn).mono ?_);rintro e1 w1 ⟨rfl,hs1,hf1⟩;have S1:=hid hs1)
  | (go_at_call 45;(with_reducible refine (r4_is S1 _ false hb).mono ?_);rintro e2 w2 ⟨rfl,hb2⟩;have S3:=hid (S1.out.stay hb2)))
 have F2 : Fr (some rb) W w2:=hf1.stepB hb2
 go_loopw [3] (fun v0 wr => ∃ v acc σ' m,v = v0 ∧ A4 wr r4 rb g cap ws d p0 p1 p2 p3 σ' ∧ Fr (some rb) W wr ∧ PRow W.heap.size wr acc v ∧ R = (acc ++ (parsF m acc.length σ').1,(parsF m acc.length σ').2) ∧ acc.length + m = 8 ∧ acc.length ≤ 6) (fun v0 _ => 8 - slen v0)
 case atStart => exact ⟨_,[],τ,8,rfl,S3.out,F2,World.ownsRow_nil w2 W.heap.size _ 3,by simp [hR.out],rfl,by simp⟩
 case round =>
  obtain ⟨v,acc,σ',m,rfl,hS,hF,hG,hRR,hm,h6⟩:=hrel
  clear S1 S3 hs1 hf1 hb2 F2 hn hb hR
  have S1:=hid hS
  obtain ⟨m',rfl⟩ : ∃ m',m = m' + 1:=⟨m - 1,by omega⟩
  have hzr:=Fr.size hF
  cases σ' with
  | bad c b =>
   rw [pars_bad] at hRR
   simp only [List.append_nil] at hRR
   subst hRR
   obtain ⟨p,k,rfl⟩:=PRow.form hG
   have HG:=hid hG
   clear hS hG
   go_wp2_with (first
    | (go_at_call 23;(with_reducible refine (r4_ok S1 false rfl).mono ?_);rintro e1 w3 ⟨rfl,hb1⟩;have S2:=hid (S1.out.stay hb1))
    | (go_at_call 48;(with_reducible refine (r4_need S2 _ _ hτ).mono ?_);rintro e2 w4 ⟨rfl,hs2,hf2⟩))
   go_ret
   exact ⟨⟨p,k,rfl,own_fr (own_below HG.out hb1) hf2 qbl⟩,hs2,(hF.stepB hb1).step hf2⟩
  | ok ts =>
   obtain ⟨⟨⟨tr,sc⟩,τ1⟩,h1⟩ : ∃ q,kindF (limF acc.length 6 (.ok ts)) = q:=⟨_,rfl⟩
   obtain ⟨⟨⟨nm,a⟩,τ2⟩,h2⟩ : ∃ q,nameF τ1 = q:=⟨_,rfl⟩
   have HLT : Hid (∀ j,v.ownBlock = some j → W.heap.size ≤ j ∧ j < wr.heap.size):=hid hG.lt
   have hla : acc.length ≤ 1000000:=by omega
   cases hc : τ2.is [44] with
   | true =>
    have hRe : R = ((acc ++ [(⟨nm,tr,sc⟩ : Pm)]) ++ (parsF m' (acc.length + 1) τ2.adv).1,(parsF m' (acc.length + 1) τ2.adv).2):=by
     rw [hRR]
     simp [parsF,RS.good,h1,h2,hc]
    have h5 : acc.length ≤ 5:=by
     rcases Nat.lt_or_ge acc.length 6 with h | h
     · omega
     · exfalso
       obtain ⟨y,r,rfl⟩:=hS.st.2.1.ne
       simp only [limF,RS.fail,if_pos h] at h1
       rw [kind_bad] at h1
       cases h1
       rw [name_bad] at h2
       cases h2
       cases hc
    have HRE:=hid hRe
    have H5:=hid h5
    obtain ⟨p,k,rfl⟩:=PRow.form hG
    have HG:=hid hG
    have H1:=hid h1
    have H2:=hid h2
    have HC : Hid (τ2.is (⟨#[44]⟩ : ByteArray).data.toList = true):=hid hc
    clear hS hG hRR h1 h2 hc hRe h5
    go_upto_region 10 with (first
     | (go_at_call 23;(with_reducible refine (r4_ok S1 true rfl).mono ?_);rintro e1 w3 ⟨rfl,hb1⟩;have S2:=hid (S1.out.stay hb1))
     | (go_at_call 46;(with_reducible refine (r4_limit6 S2 acc.length).mono ?_);rintro e2 w4 ⟨rfl,hs4,hf4⟩;have hz4 : wr.heap.size ≤ w4.heap.size:=Nat.le_trans hb1.size (Fr.size hf4))
     | (go_at_call 66;(with_reducible refine (r4_kind (hid hs4) H1.out).mono ?_);rintro e3 w5 ⟨rfl,hs5,hf5⟩;have hz5:=Fr.size hf5;have PB5:=PBlk.new (X:=w5) (s:=⟨#[]⟩) (tr:=tr) (sc:=sc) rfl;have S5:=hid (hs5.alloc (.cells #[.string ⟨#[]⟩,.bool tr,.bool sc] 137)))
     | (go_at_call 47;(with_reducible refine (r4_name S5 H2.out).mono ?_);rintro e4 w6 ⟨rfl,hs6,hf6⟩;have hz6:=Fr.size hf6;(try simp only [World.size_alloc] at hz6)))
    refine name_world ?_
    intro w7 hw7
    have PB7 : PBlk w7 w5.heap.size ⟨#[]⟩ tr sc:=by (rw [hw7];exact (PB5.fr hf6 (by omega)).alloc _)
    have TB7 : TBlk w7 w6.heap.size (bstr nm) a:=by (rw [hw7];exact TBlk.new rfl)
    have S7 : Hid (A4 w7 r4 rb g cap ws d p0 p1 p2 p3 τ2):=hid (by (rw [hw7];exact hs6.alloc _))
    have F7 : Fr (some rb) wr w7:=by (rw [hw7];exact (((((Fr.of hb1).step hf4).step hf5).alloc _).step hf6).alloc _)
    have hz7 : w5.heap.size < w7.heap.size ∧ w7.heap.size = w6.heap.size + 1:=by (rw [hw7];simp;omega)
    obtain ⟨pl7,pc0,pc1,pc2,pf0,pf1,pf2⟩:=PB7.facts
    obtain ⟨tl7,tc0,tc1,tf0,tf1⟩:=TB7.facts
    clear hw7
    go_upto_region 11 with (fail)
    refine name_world ?_
    intro w8 hw8
    have PB8 : PBlk w8 w5.heap.size (bstr nm) tr sc:=by (rw [hw8];exact PB7.set0 _)
    have F8 : Fr (some rb) wr w8:=by (rw [hw8];exact F7.set (.inr (by omega)) _ _)
    have S8 : Hid (A4 w8 r4 rb g cap ws d p0 p1 p2 p3 τ2):=hid (by (rw [hw8];exact S7.out.setO (by omega) (by omega) (by omega) _ _))
    have hz8 : w8.heap.size = w7.heap.size:=by (rw [hw8];simp)
    have G8:=own_fr HG.out F8 qbl
    have hn9 : (w8.alloc (.cells #[.string (bstr nm),.bool tr,.bool sc] 137)).heap[w6.heap.size + 1]? = some (.cells #[.string (bstr nm),.bool tr,.bool sc] 137):=by
     have:=heap_alloc_new w8 (.cells #[.string (bstr nm),.bool tr,.bool sc] 137)
     rwa [hz8,hz7.2] at this
    obtain ⟨ul8,uc0,uc1,uc2,_⟩:=PB8.facts
    clear hw8 pc0 pc1 pc2 pf0 pf1 pf2 tc0 tc1 tf0 tf1
    have hown : ∀ k',k' < W.heap.size → some k' ≠ (Value.slice p acc.length k).ownBlock:=fun k' hk e => by (have:=(HLT.out k' e.symm).1;omega)
    go_wp2_with (first
     | (at_builtin;refine wpList_append_lies _ rfl (.tmp 34) (.tmp 36) 59 rfl W.heap.size 137 i0 _ 3 24 Try.underlying59 hinf hzi0 hzi1 hzi2 rfl (by decide) (.slice p acc.length k) acc.length (acc.flatMap pmCells) rfl (own_below G8 ((Below.refl _ _).alloc (Nat.le_refl _) _)) ⟨_,0,none⟩ 1 1 [.string (bstr nm),.bool tr,.bool sc] rfl rfl (World.news_of_block hn9) raw3_one (by decide) (by unfold maxLen;omega) (by omega) (by simp;omega) _ rfl ?_;intro g4 cap4 w9 hown9 hgrow9 hor9 hlt9;have hgr9 : (w8.alloc (.cells #[.string (bstr nm),.bool tr,.bool sc] 137)).grownBy w9 (Value.ownBlock (.slice p acc.length k)):=hgrow9;have S9:=hid ((S8.out.alloc (.cells #[.string (bstr nm),.bool tr,.bool sc] 137)).grow hgr9 (hown _ q4l) (hown _ qbl) (hown _ qgl));have F9 : Fr (some rb) W w9:=Fr.stepOwn (v:=(.slice p acc.length k)) ((Fr.trans_ hF F8).alloc _) hgr9 (fun j e => (HLT.out j e).1))
     | (go_at_call 45;(with_reducible refine (r4_is S9 _ true HC).mono ?_);rintro e7 w10 ⟨rfl,hb10⟩;have S10:=hid (S9.out.stay hb10);obtain ⟨y,r,hyr⟩:=is_ok (HC.out);have S11 : Hid (A4 w10 r4 rb g cap ws d p0 p1 p2 p3 (.ok (y :: r))):=hid (hyr ▸ S10.out);obtain ⟨i,a9,R0,h5,h6',h7,_⟩:=S11.out.st.ok_cells S11.out.env;obtain ⟨m0,_,_,_,_,_⟩:=S11.out.at4.cells;obtain ⟨q0,q1,q2,q3,q4⟩:=R0.rd.cells;have hl4:=S11.out.at4.lt;have hlr:=R0.rd.lt;have hfr:=R0.rd.frozen 1))
    have hx3 : y.k ≠ 3:=RS.is_ne3 (t:=[44]) (by (have:=HC.out;rw [hyr] at this;exact this))
    have F10 : Fr (some rb) w10 (w10.setCell ⟨rb,1,none⟩ (.int .i64 ((i : Int) + 1))):=(Fr.refl _ _).set (.inl rfl) _ _
    have SE:=S11.out.fr F10 (st_adv S11.out.st R0 hx3 h5)
    have hadv : τ2.adv = .ok r:=by (rw [hyr];rfl)
    have GE:=own_fr (own_below hown9 hb10) F10 qbl
    go_roundw
    case rel =>
     refine ⟨_,acc ++ [⟨nm,tr,sc⟩],.ok r,m',rfl,SE,(F9.stepB hb10).step F10,?_,?_,?_,?_⟩
     · simpa [PRow,pmCells] using GE
     · rw [HRE.out,hadv]
       simp
     · simp
       omega
     · have:=H5.out
       simp
       omega
    case measure =>
     have:=H5.out
     simp [slen]
     omega
   | false =>
    have hRe : R = (acc ++ [(⟨nm,tr,sc⟩ : Pm)],τ2):=by
     rw [hRR]
     simp [parsF,RS.good,h1,h2,hc]
    subst hRe
    obtain ⟨p,k,rfl⟩:=PRow.form hG
    have HG:=hid hG
    have H1:=hid h1
    have H2:=hid h2
    have HC : Hid (τ2.is (⟨#[44]⟩ : ByteArray).data.toList = false):=hid hc
    clear hS hG hRR h1 h2 hc
    go_upto_region 10 with (first
     | (go_at_call 23;(with_reducible refine (r4_ok S1 true rfl).mono ?_);rintro e1 w3 ⟨rfl,hb1⟩;have S2:=hid (S1.out.stay hb1))
     | (go_at_call 46;(with_reducible refine (r4_limit6 S2 acc.length).mono ?_);rintro e2 w4 ⟨rfl,hs4,hf4⟩;have hz4 : wr.heap.size ≤ w4.heap.size:=Nat.le_trans hb1.size (Fr.size hf4))
     | (go_at_call 66;(with_reducible refine (r4_kind (hid hs4) H1.out).mono ?_);rintro e3 w5 ⟨rfl,hs5,hf5⟩;have hz5:=Fr.size hf5;have PB5:=PBlk.new (X:=w5) (s:=⟨#[]⟩) (tr:=tr) (sc:=sc) rfl;have S5:=hid (hs5.alloc (.cells #[.string ⟨#[]⟩,.bool tr,.bool sc] 137)))
     | (go_at_call 47;(with_reducible refine (r4_name S5 H2.out).mono ?_);rintro e4 w6 ⟨rfl,hs6,hf6⟩;have hz6:=Fr.size hf6;(try simp only [World.size_alloc] at hz6)))
    refine name_world ?_
    intro w7 hw7
    have PB7 : PBlk w7 w5.heap.size ⟨#[]⟩ tr sc:=by (rw [hw7];exact (PB5.fr hf6 (by omega)).alloc _)
    have TB7 : TBlk w7 w6.heap.size (bstr nm) a:=by (rw [hw7];exact TBlk.new rfl)
    have S7 : Hid (A4 w7 r4 rb g cap ws d p0 p1 p2 p3 τ2):=hid (by (rw [hw7];exact hs6.alloc _))
    have F7 : Fr (some rb) wr w7:=by (rw [hw7];exact (((((Fr.of hb1).step hf4).step hf5).alloc _).step hf6).alloc _)
    have hz7 : w5.heap.size < w7.heap.size ∧ w7.heap.size = w6.heap.size + 1:=by (rw [hw7];simp;omega)
    obtain ⟨pl7,pc0,pc1,pc2,pf0,pf1,pf2⟩:=PB7.facts
    obtain ⟨tl7,tc0,tc1,tf0,tf1⟩:=TB7.facts
    clear hw7
    go_upto_region 11 with (fail)
    refine name_world ?_
    intro w8 hw8
    have PB8 : PBlk w8 w5.heap.size (bstr nm) tr sc:=by (rw [hw8];exact PB7.set0 _)
    have F8 : Fr (some rb) wr w8:=by (rw [hw8];exact F7.set (.inr (by omega)) _ _)
    have S8 : Hid (A4 w8 r4 rb g cap ws d p0 p1 p2 p3 τ2):=hid (by (rw [hw8];exact S7.out.setO (by omega) (by omega) (by omega) _ _))
    have hz8 : w8.heap.size = w7.heap.size:=by (rw [hw8];simp)
    have G8:=own_fr HG.out F8 qbl
    have hn9 : (w8.alloc (.cells #[.string (bstr nm),.bool tr,.bool sc] 137)).heap[w6.heap.size + 1]? = some (.cells #[.string (bstr nm),.bool tr,.bool sc] 137):=by
     have:=heap_alloc_new w8 (.cells #[.string (bstr nm),.bool tr,.bool sc] 137)
     rwa [hz8,hz7.2] at this
    obtain ⟨ul8,uc0,uc1,uc2,_⟩:=PB8.facts
    clear hw8 pc0 pc1 pc2 pf0 pf1 pf2 tc0 tc1 tf0 tf1
    have hown : ∀ k',k' < W.heap.size → some k' ≠ (Value.slice p acc.length k).ownBlock:=fun k' hk e => by (have:=(HLT.out k' e.symm).1;omega)
    go_wp2_with (first
     | (at_builtin;refine wpList_append_lies _ rfl (.tmp 34) (.tmp 36) 59 rfl W.heap.size 137 i0 _ 3 24 Try.underlying59 hinf hzi0 hzi1 hzi2 rfl (by decide) (.slice p acc.length k) acc.length (acc.flatMap pmCells) rfl (own_below G8 ((Below.refl _ _).alloc (Nat.le_refl _) _)) ⟨_,0,none⟩ 1 1 [.string (bstr nm),.bool tr,.bool sc] rfl rfl (World.news_of_block hn9) raw3_one (by decide) (by unfold maxLen;omega) (by omega) (by simp;omega) _ rfl ?_;intro g4 cap4 w9 hown9 hgrow9 hor9 hlt9;have hgr9 : (w8.alloc (.cells #[.string (bstr nm),.bool tr,.bool sc] 137)).grownBy w9 (Value.ownBlock (.slice p acc.length k)):=hgrow9;have S9:=hid ((S8.out.alloc (.cells #[.string (bstr nm),.bool tr,.bool sc] 137)).grow hgr9 (hown _ q4l) (hown _ qbl) (hown _ qgl));have F9 : Fr (some rb) W w9:=Fr.stepOwn (v:=(.slice p acc.length k)) ((Fr.trans_ hF F8).alloc _) hgr9 (fun j e => (HLT.out j e).1))
     | (go_at_call 45;(with_reducible refine (r4_is S9 _ false HC).mono ?_);rintro e7 w10 ⟨rfl,hb10⟩;have S10:=hid (S9.out.stay hb10))
     | (go_at_call 48;(with_reducible refine (r4_need S10 _ _ hτ).mono ?_);rintro e8 w11 ⟨rfl,hs11,hf11⟩))
    go_ret
    refine ⟨⟨some ⟨g4,0,none⟩,cap4,by simp,?_⟩,hs11,(F9.stepB hb10).step hf11⟩
    have h:=own_fr (own_below hown9 hb10) hf11 qbl
    simpa [PRow,pmCells] using h
theorem r4_params {r4 rb g cap : Nat} {ws : List Wd} {d : Int} {p0 p1 p2 p3 : Value} {W : World} {σ : RS} (S : Hid (A4 W r4 rb g cap ws d p0 p1 p2 p3 σ)) :
 Calls Try.prog 65 #[.pointer (some ⟨r4,0,none⟩)] W fun e w' => (∃ p c,e = .returned (.slice p (paramsF σ).1.length c) ∧ IsPl (fun g => W.heap.size ≤ g) 137 3 pmCells w' (paramsF σ).1 (.slice p (paramsF σ).1.length c)) ∧ A4 w' r4 rb g cap ws d p0 p1 p2 p3 (paramsF σ).2 ∧ Fr (some rb) W w':=by
 obtain ⟨τ,hτ⟩ : ∃ τ,σ.need [40] = τ:=⟨_,rfl⟩
 cases hb : τ.is [41] with
 | true =>
  obtain ⟨x,tt,rfl⟩:=is_ok hb
  have e : paramsF σ = ([],.ok tt):=by simp [paramsF,hτ,hb,RS.adv]
  rw [e]
  exact (r4_parNone S (hid hτ) (hid hb)).mono fun e w' ⟨h1,h2,h3⟩ => ⟨⟨none,0,h1,.nil _ _⟩,h2,h3⟩
 | false =>
  have e : paramsF σ = ((parsF 8 0 τ).1,(parsF 8 0 τ).2.need [41]):=by simp [paramsF,hτ,hb]
  rw [e]
  exact (r4_parSome S (hid hτ) (hid hb) _ (hid rfl) _ (hid rfl)).mono fun e w' ⟨⟨p,c,h1,h2⟩,h3,h4⟩ => ⟨⟨p,c,h1,.own (fun _ => rfl) h2⟩,h3,h4⟩
end Go.Proofs.Ytbmmjomcjlpnlaa
namespace Go.Proofs.Ytbmmjomcjlpnlaa
open Go Go.RowKit
def GBlk (X : World) (n : Nat) (a : Int) (nm : ByteArray) (tr sc : Bool) (ln : Int) (yy : ByteArray) : Prop:=X.heap[n]? = some (.cells #[.int .i64 a,.string nm,.bool tr,.bool sc,.int .i64 ln,.string yy] 56 (0,0))
section
variable {X Y : World} {n : Nat} {a : Int} {nm : ByteArray} {tr sc : Bool} {ln : Int} {yy : ByteArray}
theorem GBlk.facts (h : GBlk X n a nm tr sc ln yy) : n < X.heap.size ∧ (X.cell? ⟨n,0,none⟩ = some (.int .i64 a) ∧ X.cell? ⟨n,1,none⟩ = some (.string nm) ∧ X.cell? ⟨n,2,none⟩ = some (.bool tr) ∧ X.cell? ⟨n,3,none⟩ = some (.bool sc) ∧ X.cell? ⟨n,4,none⟩ = some (.int .i64 ln) ∧ X.cell? ⟨n,5,none⟩ = some (.string yy)) ∧ (X.frozen? ⟨n,0,none⟩ = false ∧ X.frozen? ⟨n,1,none⟩ = false ∧ X.frozen? ⟨n,2,none⟩ = false ∧ X.frozen? ⟨n,3,none⟩ = false ∧ X.frozen? ⟨n,4,none⟩ = false ∧ X.frozen? ⟨n,5,none⟩ = false):=by
 refine ⟨(Array.getElem?_eq_some_iff.1 h).1,⟨?_,?_,?_,?_,?_,?_⟩,⟨frozen_of_row X n _ _ _ h,frozen_of_row X n _ _ _ h,frozen_of_row X n _ _ _ h,frozen_of_row X n _ _ _ h,frozen_of_row X n _ _ _ h,frozen_of_row X n _ _ _ h⟩⟩ <;> rw [cell_of_row _ _ _ _ _ _ h] <;> rfl
theorem GBlk.alloc (h : GBlk X n a nm tr sc ln yy) (o : Obj) : GBlk (X.alloc o) n a nm tr sc ln yy:=(Below.heap_alloc X o n (Array.getElem?_eq_some_iff.1 h).1).trans h
theorem GBlk.stay (h : GBlk X n a nm tr sc ln yy) (hf : Below X.heap.size X Y) : GBlk Y n a nm tr sc ln yy:=(hf.block n (Array.getElem?_eq_some_iff.1 h).1).trans h
theorem GBlk.fr {rb : Nat} (h : GBlk X n a nm tr sc ln yy) (hf : Fr (some rb) X Y) (hne : n ≠ rb) : GBlk Y n a nm tr sc ln yy:=(hf.block (Array.getElem?_eq_some_iff.1 h).1 (by simp;exact hne)).trans h
theorem GBlk.setO (h : GBlk X n a nm tr sc ln yy) {b : Nat} (hne : n ≠ b) (o : Nat) (v : Value) : GBlk (X.setCell ⟨b,o,none⟩ v) n a nm tr sc ln yy:=(heap_setCell_other X ⟨b,o,none⟩ n v hne).trans h
theorem GBlk.set0 (h : GBlk X n a nm tr sc ln yy) (v : Int) : GBlk (X.setCell ⟨n,0,none⟩ (.int .i64 v)) n v nm tr sc ln yy:=heap_setCell_same X n 0 _ _ _ h
theorem GBlk.set1 (h : GBlk X n a nm tr sc ln yy) (v : ByteArray) : GBlk (X.setCell ⟨n,1,none⟩ (.string v)) n a v tr sc ln yy:=heap_setCell_same X n 1 _ _ _ h
theorem GBlk.set2 (h : GBlk X n a nm tr sc ln yy) (v : Bool) : GBlk (X.setCell ⟨n,2,none⟩ (.bool v)) n a nm v sc ln yy:=heap_setCell_same X n 2 _ _ _ h
theorem GBlk.set3 (h : GBlk X n a nm tr sc ln yy) (v : Bool) : GBlk (X.setCell ⟨n,3,none⟩ (.bool v)) n a nm tr v ln yy:=heap_setCell_same X n 3 _ _ _ h
theorem GBlk.set4 (h : GBlk X n a nm tr sc ln yy) (v : Int) : GBlk (X.setCell ⟨n,4,none⟩ (.int .i64 v)) n a nm tr sc v yy:=heap_setCell_same X n 4 _ _ _ h
theorem GBlk.set5 (h : GBlk X n a nm tr sc ln yy) (v : ByteArray) : GBlk (X.setCell ⟨n,5,none⟩ (.string v)) n a nm tr sc ln v:=heap_setCell_same X n 5 _ _ _ h
theorem GBlk.new (hn : n = X.heap.size) : GBlk (X.alloc (.cells #[.int .i64 a,.string nm,.bool tr,.bool sc,.int .i64 ln,.string yy] 56)) n a nm tr sc ln yy:=hn ▸ heap_alloc_new X _
end
def KBlk (X : World) (n : Nat) (a : Int) (nm : ByteArray) : Prop:=X.heap[n]? = some (.cells #[.int .i64 a,.string nm] 95 (0,0))
section
variable {X Y : World} {n : Nat} {a : Int} {nm : ByteArray}
theorem KBlk.facts (h : KBlk X n a nm) : n < X.heap.size ∧ (X.cell? ⟨n,0,none⟩ = some (.int .i64 a) ∧ X.cell? ⟨n,1,none⟩ = some (.string nm)) ∧ (X.frozen? ⟨n,0,none⟩ = false ∧ X.frozen? ⟨n,1,none⟩ = false):=by
 refine ⟨(Array.getElem?_eq_some_iff.1 h).1,⟨?_,?_⟩,⟨frozen_of_row X n _ _ _ h,frozen_of_row X n _ _ _ h⟩⟩ <;> rw [cell_of_row _ _ _ _ _ _ h] <;> rfl
theorem KBlk.alloc (h : KBlk X n a nm) (o : Obj) : KBlk (X.alloc o) n a nm:=(Below.heap_alloc X o n (Array.getElem?_eq_some_iff.1 h).1).trans h
theorem KBlk.stay (h : KBlk X n a nm) (hf : Below X.heap.size X Y) : KBlk Y n a nm:=(hf.block n (Array.getElem?_eq_some_iff.1 h).1).trans h
theorem KBlk.fr {rb : Nat} (h : KBlk X n a nm) (hf : Fr (some rb) X Y) (hne : n ≠ rb) : KBlk Y n a nm:=(hf.block (Array.getElem?_eq_some_iff.1 h).1 (by simp;exact hne)).trans h
theorem KBlk.setO (h : KBlk X n a nm) {b : Nat} (hne : n ≠ b) (o : Nat) (v : Value) : KBlk (X.setCell ⟨b,o,none⟩ v) n a nm:=(heap_setCell_other X ⟨b,o,none⟩ n v hne).trans h
theorem KBlk.set0 (h : KBlk X n a nm) (v : Int) : KBlk (X.setCell ⟨n,0,none⟩ (.int .i64 v)) n v nm:=heap_setCell_same X n 0 _ _ _ h
theorem KBlk.set1 (h : KBlk X n a nm) (v : ByteArray) : KBlk (X.setCell ⟨n,1,none⟩ (.string v)) n a v:=heap_setCell_same X n 1 _ _ _ h
theorem KBlk.new (hn : n = X.heap.size) : KBlk (X.alloc (.cells #[.int .i64 a,.string nm] 95)) n a nm:=hn ▸ heap_alloc_new X _
end
def glCells (x : Gl) : List Value:=[.int .i64 x.a,.string (bstr x.nm),.bool x.tr,.bool x.sc,.int .i64 x.len,.string (bstr x.by_)]
def lkCells (x : Lk) : List Value:=[.int .i64 x.a,.string (bstr x.nm)]
theorem infoGl : (Try.prog.info? 56).map (fun i => (i.zero,i.size,i.bytes)) = some (some (.agg #[.int .i64 0,.string ⟨#[]⟩,.bool false,.bool false,.int .i64 0,.string ⟨#[]⟩]),6,56):=by kernel_rfl
theorem infoLk : (Try.prog.info? 95).map (fun i => (i.zero,i.size,i.bytes)) = some (some (.agg #[.int .i64 0,.string ⟨#[]⟩]),2,24):=by kernel_rfl
theorem raw6_one {a ln : Int} {nm yy : ByteArray} {tr sc : Bool} : ∀ u ∈ ([.int .i64 a,.string nm,.bool tr,.bool sc,.int .i64 ln,.string yy] : List Value),u.oneCell' = true:=by
 intro u hu
 simp at hu
 rcases hu with rfl | rfl | rfl | rfl | rfl | rfl <;> rfl
theorem raw2_one {a : Int} {nm : ByteArray} : ∀ u ∈ ([.int .i64 a,.string nm] : List Value),u.oneCell' = true:=by
 intro u hu
 simp at hu
 rcases hu with rfl | rfl <;> rfl
def Fr3 (r4 rb : Nat) (row : Option Nat) (W X : World) : Prop:=(W.heap.size ≤ X.heap.size ∧ X.os = W.os ∧ X.tape = W.tape ∧ X.output = W.output) ∧ ∀ b,b < W.heap.size → b ≠ r4 → b ≠ rb → some b ≠ row → X.heap[b]? = W.heap[b]?
theorem Fr.grown_ {rb : Nat} {W X : World} (hf : Fr (some rb) W X) : World.grownBy W X (some rb):=hf
theorem setCell_else (W : World) (a : Addr) (v : Value) : (W.setCell a v).os = W.os ∧ (W.setCell a v).tape = W.tape ∧ (W.setCell a v).output = W.output:=⟨rfl,rfl,rfl⟩
theorem Fr3.mk_ {r4 rb : Nat} {row : Option Nat} {W X Y : World} (hf : Fr (some rb) W X) (hg : X.grownBy Y row) (o : Nat) (v : Value) : Fr3 r4 rb row W (Y.setCell ⟨r4,o,none⟩ v):=by
 have h1:=Fr.size hf
 have h2:=hg.size
 obtain ⟨e1,e2,e3⟩:=setCell_else Y ⟨r4,o,none⟩ v
 have hf':=Fr.grown_ hf
 refine ⟨⟨by simp;omega,e1.trans (hg.os.trans hf'.os),e2.trans (hg.tape.trans hf'.tape),e3.trans (hg.output.trans hf'.output)⟩,fun b hb h4 hr hrow => ?_⟩
 rw [heap_setCell_other Y ⟨r4,o,none⟩ b v h4,hg.block b (by omega) hrow]
 exact hf.block hb (by simp;exact hr)
theorem R4At.set2 {W : World} {r4 rb : Nat} {d : Int} {p0 p1 p2 p3 : Value} (h : R4At W r4 rb d p0 p1 p2 p3) (v : Value) : R4At (W.setCell ⟨r4,2,none⟩ v) r4 rb d v p1 p2 p3:=heap_setCell_same W r4 2 _ _ _ h
theorem R4At.set3 {W : World} {r4 rb : Nat} {d : Int} {p0 p1 p2 p3 : Value} (h : R4At W r4 rb d p0 p1 p2 p3) (v : Value) : R4At (W.setCell ⟨r4,3,none⟩ v) r4 rb d p0 v p2 p3:=heap_setCell_same W r4 3 _ _ _ h
theorem R4At.set4 {W : World} {r4 rb : Nat} {d : Int} {p0 p1 p2 p3 : Value} (h : R4At W r4 rb d p0 p1 p2 p3) (v : Value) : R4At (W.setCell ⟨r4,4,none⟩ v) r4 rb d p0 p1 v p3:=heap_setCell_same W r4 4 _ _ _ h
theorem R4At.set5 {W : World} {r4 rb : Nat} {d : Int} {p0 p1 p2 p3 : Value} (h : R4At W r4 rb d p0 p1 p2 p3) (v : Value) : R4At (W.setCell ⟨r4,5,none⟩ v) r4 rb d p0 p1 p2 v:=heap_setCell_same W r4 5 _ _ _ h
section
variable {W : World} {r4 rb g cap : Nat} {ws : List Wd} {d : Int} {p0 p1 p2 p3 : Value} {σ : RS}
theorem A4.set2 (S : A4 W r4 rb g cap ws d p0 p1 p2 p3 σ) (v : Value) : A4 (W.setCell ⟨r4,2,none⟩ v) r4 rb g cap ws d v p1 p2 p3 σ:=⟨S.at4.set2 v,S.st.setO (Ne.symm S.ne) _ _,S.env.setO (Ne.symm S.ng) _ _,S.ne,S.ng⟩
theorem A4.set3 (S : A4 W r4 rb g cap ws d p0 p1 p2 p3 σ) (v : Value) : A4 (W.setCell ⟨r4,3,none⟩ v) r4 rb g cap ws d p0 v p2 p3 σ:=⟨S.at4.set3 v,S.st.setO (Ne.symm S.ne) _ _,S.env.setO (Ne.symm S.ng) _ _,S.ne,S.ng⟩
theorem A4.set4 (S : A4 W r4 rb g cap ws d p0 p1 p2 p3 σ) (v : Value) : A4 (W.setCell ⟨r4,4,none⟩ v) r4 rb g cap ws d p0 p1 v p3 σ:=⟨S.at4.set4 v,S.st.setO (Ne.symm S.ne) _ _,S.env.setO (Ne.symm S.ng) _ _,S.ne,S.ng⟩
theorem A4.set5 (S : A4 W r4 rb g cap ws d p0 p1 p2 p3 σ) (v : Value) : A4 (W.setCell ⟨r4,5,none⟩ v) r4 rb g cap ws d p0 p1 p2 v σ:=⟨S.at4.set5 v,S.st.setO (Ne.symm S.ne) _ _,S.env.setO (Ne.symm S.ng) _ _,S.ne,S.ng⟩
end
end Go.Proofs.Ytbmmjomcjlpnlaa
namespace Go.Proofs.Ytbmmjomcjlpnlaa
open Go Go.RowKit
theorem infoFn : (Try.prog.info? 65).map (fun i => (i.zero,i.size,i.bytes)) = some (some (.agg #[.int .i64 0,.string ⟨#[]⟩,.slice none 0 0,.bool false,.bool false,.slice none 0 0,.int .i64 0,.int .i64 0,.int .i64 0,.string ⟨#[]⟩,.slice none 0 0,.int .i64 0]),12,152):=by kernel_rfl
def FBlk (X : World) (b : Nat) (a : Int) (nm : ByteArray) (pv : Value) (tr : Bool) (sc : Bool) (bv : Value) (k : Int) (q : Int) (n : Int) (s : ByteArray) (kv : Value) (xa : Int) : Prop:=X.heap[b]? = some (.cells #[.int .i64 a,.string nm,pv,.bool tr,.bool sc,bv,.int .i64 k,.int .i64 q,.int .i64 n,.string s,kv,.int .i64 xa] 65 (0,0))
section
variable {X Y : World} {b : Nat} {a : Int} {nm : ByteArray} {pv : Value} {tr : Bool} {sc : Bool} {bv : Value} {k : Int} {q : Int} {n : Int} {s : ByteArray} {kv : Value} {xa : Int}
theorem FBlk.facts (h : FBlk X b a nm pv tr sc bv k q n s kv xa) : b < X.heap.size ∧ (X.cell? ⟨b,0,none⟩ = some (.int .i64 a) ∧ X.cell? ⟨b,1,none⟩ = some (.string nm) ∧ X.cell? ⟨b,2,none⟩ = some (pv) ∧ X.cell? ⟨b,3,none⟩ = some (.bool tr) ∧ X.cell? ⟨b,4,none⟩ = some (.bool sc) ∧ X.cell? ⟨b,5,none⟩ = some (bv) ∧ X.cell? ⟨b,6,none⟩ = some (.int .i64 k) ∧ X.cell? ⟨b,7,none⟩ = some (.int .i64 q) ∧ X.cell? ⟨b,8,none⟩ = some (.int .i64 n) ∧ X.cell? ⟨b,9,none⟩ = some (.string s) ∧ X.cell? ⟨b,10,none⟩ = some (kv) ∧ X.cell? ⟨b,11,none⟩ = some (.int .i64 xa)) ∧ (X.frozen? ⟨b,0,none⟩ = false ∧ X.frozen? ⟨b,1,none⟩ = false ∧ X.frozen? ⟨b,2,none⟩ = false ∧ X.frozen? ⟨b,3,none⟩ = false ∧ X.frozen? ⟨b,4,none⟩ = false ∧ X.frozen? ⟨b,5,none⟩ = false ∧ X.frozen? ⟨b,6,none⟩ = false ∧ X.frozen? ⟨b,7,none⟩ = false ∧ X.frozen? ⟨b,8,none⟩ = false ∧ X.frozen? ⟨b,9,none⟩ = false ∧ X.frozen? ⟨b,10,none⟩ = false ∧ X.frozen? ⟨b,11,none⟩ = false):=by
 refine ⟨(Array.getElem?_eq_some_iff.1 h).1,⟨?_,?_,?_,?_,?_,?_,?_,?_,?_,?_,?_,?_⟩,frozen_of_row X b _ _ _ h,frozen_of_row X b _ _ _ h,frozen_of_row X b _ _ _ h,frozen_of_row X b _ _ _ h,frozen_of_row X b _ _ _ h,frozen_of_row X b _ _ _ h,frozen_of_row X b _ _ _ h,frozen_of_row X b _ _ _ h,frozen_of_row X b _ _ _ h,frozen_of_row X b _ _ _ h,frozen_of_row X b _ _ _ h,frozen_of_row X b _ _ _ h⟩ <;> rw [cell_of_row _ _ _ _ _ _ h] <;> rfl
theorem FBlk.alloc (h : FBlk X b a nm pv tr sc bv k q n s kv xa) (o : Obj) : FBlk (X.alloc o) b a nm pv tr sc bv k q n s kv xa:=(Below.heap_alloc X o b (Array.getElem?_eq_some_iff.1 h).1).trans h
theorem FBlk.fr {rb : Nat} (h : FBlk X b a nm pv tr sc bv k q n s kv xa) (hf : Fr (some rb) X Y) (hne : b ≠ rb) : FBlk Y b a nm pv tr sc bv k q n s kv xa:=(hf.block (Array.getElem?_eq_some_iff.1 h).1 (by simp;exact hne)).trans h
theorem FBlk.setO (h : FBlk X b a nm pv tr sc bv k q n s kv xa) {c : Nat} (hne : b ≠ c) (o : Nat) (v : Value) : FBlk (X.setCell ⟨c,o,none⟩ v) b a nm pv tr sc bv k q n s kv xa:=(heap_setCell_other X ⟨c,o,none⟩ b v hne).trans h
theorem FBlk.set0 (h : FBlk X b a nm pv tr sc bv k q n s kv xa) (v : Int) : FBlk (X.setCell ⟨b,0,none⟩ (.int .i64 v)) b v nm pv tr sc bv k q n s kv xa:=heap_setCell_same X b 0 _ _ _ h
theorem FBlk.set1 (h : FBlk X b a nm pv tr sc bv k q n s kv xa) (v : ByteArray) : FBlk (X.setCell ⟨b,1,none⟩ (.string v)) b a v pv tr sc bv k q n s kv xa:=heap_setCell_same X b 1 _ _ _ h
theorem FBlk.set2 (h : FBlk X b a nm pv tr sc bv k q n s kv xa) (v : Value) : FBlk (X.setCell ⟨b,2,none⟩ v) b a nm v tr sc bv k q n s kv xa:=heap_setCell_same X b 2 _ _ _ h
theorem FBlk.set3 (h : FBlk X b a nm pv tr sc bv k q n s kv xa) (v : Bool) : FBlk (X.setCell ⟨b,3,none⟩ (.bool v)) b a nm pv v sc bv k q n s kv xa:=heap_setCell_same X b 3 _ _ _ h
theorem FBlk.set4 (h : FBlk X b a nm pv tr sc bv k q n s kv xa) (v : Bool) : FBlk (X.setCell ⟨b,4,none⟩ (.bool v)) b a nm pv tr v bv k q n s kv xa:=heap_setCell_same X b 4 _ _ _ h
theorem FBlk.set5 (h : FBlk X b a nm pv tr sc bv k q n s kv xa) (v : Value) : FBlk (X.setCell ⟨b,5,none⟩ v) b a nm pv tr sc v k q n s kv xa:=heap_setCell_same X b 5 _ _ _ h
theorem FBlk.set6 (h : FBlk X b a nm pv tr sc bv k q n s kv xa) (v : Int) : FBlk (X.setCell ⟨b,6,none⟩ (.int .i64 v)) b a nm pv tr sc bv v q n s kv xa:=heap_setCell_same X b 6 _ _ _ h
theorem FBlk.set7 (h : FBlk X b a nm pv tr sc bv k q n s kv xa) (v : Int) : FBlk (X.setCell ⟨b,7,none⟩ (.int .i64 v)) b a nm pv tr sc bv k v n s kv xa:=heap_setCell_same X b 7 _ _ _ h
theorem FBlk.set8 (h : FBlk X b a nm pv tr sc bv k q n s kv xa) (v : Int) : FBlk (X.setCell ⟨b,8,none⟩ (.int .i64 v)) b a nm pv tr sc bv k q v s kv xa:=heap_setCell_same X b 8 _ _ _ h
theorem FBlk.set9 (h : FBlk X b a nm pv tr sc bv k q n s kv xa) (v : ByteArray) : FBlk (X.setCell ⟨b,9,none⟩ (.string v)) b a nm pv tr sc bv k q n v kv xa:=heap_setCell_same X b 9 _ _ _ h
theorem FBlk.set10 (h : FBlk X b a nm pv tr sc bv k q n s kv xa) (v : Value) : FBlk (X.setCell ⟨b,10,none⟩ v) b a nm pv tr sc bv k q n s v xa:=heap_setCell_same X b 10 _ _ _ h
theorem FBlk.set11 (h : FBlk X b a nm pv tr sc bv k q n s kv xa) (v : Int) : FBlk (X.setCell ⟨b,11,none⟩ (.int .i64 v)) b a nm pv tr sc bv k q n s kv v:=heap_setCell_same X b 11 _ _ _ h
theorem FBlk.new (hb : b = X.heap.size) : FBlk (X.alloc (.cells #[.int .i64 a,.string nm,pv,.bool tr,.bool sc,bv,.int .i64 k,.int .i64 q,.int .i64 n,.string s,kv,.int .i64 xa] 65)) b a nm pv tr sc bv k q n s kv xa:=hb ▸ heap_alloc_new X _
end
structure FV where
 (p b k : Value)
def fnCells (f : Fn) (v : FV) : List Value:=[.int .i64 f.a,.string (bstr f.nm),v.p,.bool f.tr,.bool f.sc,v.b,.int .i64 f.ret.k,.int .i64 f.ret.op,.int .i64 f.ret.n,.string (bstr f.ret.nm),v.k,.int .i64 f.ret.a]
def IsFn1 (ok : Nat → Prop) (W : World) (f : Fn) (v : FV) : Prop:=IsPl ok 137 3 pmCells W f.ps v.p ∧ IsSts ok W f.bd v.b ∧ IsExP ok W f.ret v.k
def IsTh1 (ok : Nat → Prop) (W : World) (l : List Stm) (v : Value) : Prop:=IsSts ok W l v
theorem raw12_one {a k q n xa : Int} {nm s : ByteArray} {tr sc : Bool} {z1 z2 z3 : Option Addr} {y1 y2 y3 k1 k2 k3 : Nat} : ∀ u ∈ ([.int .i64 a,.string nm,.slice z1 y1 k1,.bool tr,.bool sc,.slice z2 y2 k2,.int .i64 k,.int .i64 q,.int .i64 n,.string s,.slice z3 y3 k3,.int .i64 xa] : List Value),u.oneCell' = true:=by
 intro u hu
 simp at hu
 rcases hu with rfl | rfl | rfl | rfl | rfl | rfl | rfl | rfl | rfl | rfl | rfl | rfl <;> rfl
def KeptT (lo : Nat) (W X : World) : Prop:=W.heap.size ≤ X.heap.size ∧ ∀ g cs T fr,lo ≤ g → W.heap[g]? = some (.cells cs T fr) → (T = 141 ∨ T = 63 ∨ T = 137) → X.heap[g]? = W.heap[g]?
section
variable {lo : Nat} {W X Y : World}
theorem KeptT.trans (h : KeptT lo W X) (k : KeptT lo X Y) : KeptT lo W Y:=⟨Nat.le_trans h.1 k.1,fun g cs T fr hg hb ht => by
 have e:=h.2 g cs T fr hg hb ht
 exact (k.2 g cs T fr hg (e.trans hb) ht).trans e⟩
theorem KeptT.hi (h : Hi lo W X) : KeptT lo W X:=⟨h.1,fun g _ _ _ hg hb _ => h.2 g hg (Array.getElem?_eq_some_iff.1 hb).1⟩
theorem IsExP.keptT {e : Ex} {v : Value} (h : IsExP (fun g => lo ≤ g) W e v) (hk : KeptT lo W X) : IsExP (fun g => lo ≤ g) X e v:=by
 induction h with
 | leaf => exact .leaf
 | node g cap cs fr vs hg hb hne hc _ ih => exact .node g cap cs fr vs hg ((hk.2 g _ _ _ hg hb (.inr (.inl rfl))).trans hb) hne hc ih
theorem IsSts.keptT {l : List Stm} {v : Value} (h : IsSts (fun g => lo ≤ g) W l v) (hk : KeptT lo W X) : IsSts (fun g => lo ≤ g) X l v:=by
 induction h with
 | nil => exact .nil
 | node g cap cs fr vs hg hb hne hc hi he _ _ ih1 ih2 => exact .node g cap cs fr vs hg ((hk.2 g _ _ _ hg hb (.inl rfl)).trans hb) hne hc (fun i s h => (hi i s h).keptT hk) (fun i s h => (he i s h).keptT hk) ih1 ih2
theorem IsPl.keptT {l : List Pm} {v : Value} (h : IsPl (fun g => lo ≤ g) 137 3 pmCells W l v) (hk : KeptT lo W X) : IsPl (fun g => lo ≤ g) 137 3 pmCells X l v:=by
 refine ⟨h.1,fun hn => ?_⟩
 obtain ⟨g,cap,cs,fr,h1,h2,h3,h4⟩:=h.2 hn
 exact ⟨g,cap,cs,fr,h1,h2,(hk.2 g _ _ _ h2 h3 (.inr (.inr rfl))).trans h3,h4⟩
theorem IsPl.hi {l : List Pm} {v : Value} (h : IsPl (fun g => lo ≤ g) 137 3 pmCells W l v) (hk : Hi lo W X) : IsPl (fun g => lo ≤ g) 137 3 pmCells X l v:=h.keptT (.hi hk)
theorem IsPl.low {lo' : Nat} {l : List Pm} {v : Value} (h : IsPl (fun g => lo ≤ g) 137 3 pmCells W l v) (hl : lo' ≤ lo) : IsPl (fun g => lo' ≤ g) 137 3 pmCells W l v:=h.kept fun _ hg _ => ⟨rfl,Nat.le_trans hl hg⟩
theorem IsFn1.keptT {f : Fn} {v : FV} (h : IsFn1 (fun g => lo ≤ g) W f v) (hk : KeptT lo W X) : IsFn1 (fun g => lo ≤ g) X f v:=⟨h.1.keptT hk,h.2.1.keptT hk,h.2.2.keptT hk⟩
theorem IsFn1.low {lo' : Nat} {f : Fn} {v : FV} (h : IsFn1 (fun g => lo ≤ g) W f v) (hl : lo' ≤ lo) : IsFn1 (fun g => lo' ≤ g) W f v:=⟨h.1.low hl,h.2.1.lo hl,h.2.2.lo hl⟩
end
section
variable {r4 rb : Nat} {row : Option Nat} {W X Y : World}
theorem Fr3.refl (r4 rb : Nat) (row : Option Nat) (W : World) : Fr3 r4 rb row W W:=⟨⟨Nat.le_refl _,rfl,rfl,rfl⟩,fun _ _ _ _ _ => rfl⟩
theorem Fr3.size (h : Fr3 r4 rb row W X) : W.heap.size ≤ X.heap.size:=h.1.1
theorem Fr3.step (h : Fr3 r4 rb row W X) (k : Fr (some rb) X Y) : Fr3 r4 rb row W Y :=
 ⟨⟨Nat.le_trans h.1.1 k.size,(Fr.grown_ k).os.trans h.1.2.1,(Fr.grown_ k).tape.trans h.1.2.2.1,(Fr.grown_ k).output.trans h.1.2.2.2⟩,fun b hb h4 hr hrow => (k.block (Nat.lt_of_lt_of_le hb h.1.1) (by simp;exact hr)).trans (h.2 b hb h4 hr hrow)⟩
theorem Fr3.alloc (h : Fr3 r4 rb row W X) (o : Obj) : Fr3 r4 rb row W (X.alloc o):=⟨⟨by (have:=h.1.1;simp;omega),h.1.2.1,h.1.2.2.1,h.1.2.2.2⟩,fun b hb h4 hr hrow => (Below.heap_alloc X o b (Nat.lt_of_lt_of_le hb h.1.1)).trans (h.2 b hb h4 hr hrow)⟩
theorem Fr3.set (h : Fr3 r4 rb row W X) {c : Nat} (hc : c = r4 ∨ c = rb ∨ W.heap.size ≤ c) (o : Nat) (v : Value) : Fr3 r4 rb row W (X.setCell ⟨c,o,none⟩ v):=by
 obtain ⟨e1,e2,e3⟩:=setCell_else X ⟨c,o,none⟩ v
 exact ⟨⟨by simpa using h.1.1,e1.trans h.1.2.1,e2.trans h.1.2.2.1,e3.trans h.1.2.2.2⟩,fun b hb h4 hr hrow => (heap_setCell_other X ⟨c,o,none⟩ b v (by rcases hc with rfl | rfl | hc <;> simp <;> omega)).trans (h.2 b hb h4 hr hrow)⟩
theorem Fr3.drew (h : Fr3 r4 rb row W X) : Fr3 r4 rb row W X.drew:=h
theorem Fr3.grow (h : Fr3 r4 rb none W X) (k : X.grownBy Y row) : Fr3 r4 rb row W Y:=⟨⟨Nat.le_trans h.1.1 k.size,k.os.trans h.1.2.1,k.tape.trans h.1.2.2.1,k.output.trans h.1.2.2.2⟩,fun b hb h4 hr hrow => (k.block b (Nat.lt_of_lt_of_le hb h.1.1) hrow).trans (h.2 b hb h4 hr (by simp))⟩
theorem Fr3.of (h : Fr (some rb) W X) : Fr3 r4 rb row W X:=(Fr3.refl r4 rb row W).step h
theorem own_fr3 {B T T' k n k' n' : Nat} {v v' : Value} {xs xs' : List Value} (h : W.ownsRow B T k v n xs) (hf : Fr3 r4 rb v'.ownBlock W X) (hv : W.ownsRow B T' k' v' n' xs') (hT : T ≠ T') (h4 : r4 < B) (hr : rb < B) : X.ownsRow B T k v n xs:=by
 refine ⟨h.1,?_⟩
 rcases h.2 with h0 | ⟨g,cap,cur,rfl,hb,hg,rest⟩
 · exact .inl h0
 · refine .inr ⟨g,cap,cur,rfl,hb,?_,rest⟩
   rw [hf.2 g (Array.getElem?_eq_some_iff.1 hg).1 (by omega) (by omega) (fun e => ?_)]
   · exact hg
   · rcases hv.2 with ⟨rfl,_⟩ | ⟨g',cap',cur',rfl,_,hg',_⟩
     · cases e
     · have : g = g':=by simpa [Value.ownBlock] using e
       subst this
       rw [hg] at hg'
       simp only [Option.some.injEq,Obj.cells.injEq] at hg'
       exact hT hg'.2.1
theorem own_fr0 {B T k n : Nat} {v : Value} {xs : List Value} (h : W.ownsRow B T k v n xs) (hf : Fr3 r4 rb none W X) (h4 : r4 < B) (hr : rb < B) : X.ownsRow B T k v n xs:=by
 refine ⟨h.1,?_⟩
 rcases h.2 with h0 | ⟨g,cap,cur,rfl,hb,hg,rest⟩
 · exact .inl h0
 · refine .inr ⟨g,cap,cur,rfl,hb,?_,rest⟩
   rw [hf.2 g (Array.getElem?_eq_some_iff.1 hg).1 (by omega) (by omega) (by simp)]
   exact hg
theorem keptT3 {B T' k' n' : Nat} {v' : Value} {xs' : List Value} (hf : Fr3 r4 rb v'.ownBlock W X) (hv : W.ownsRow B T' k' v' n' xs') (hT : T' ≠ 141 ∧ T' ≠ 63 ∧ T' ≠ 137) (h4 : r4 < B) (hr : rb < B) : KeptT B W X:=by
 refine ⟨hf.1.1,fun g cs T fr hg hb ht => hf.2 g (Array.getElem?_eq_some_iff.1 hb).1 (by omega) (by omega) fun e => ?_⟩
 rcases hv.2 with ⟨rfl,_⟩ | ⟨g',cap',cur',rfl,_,hg',_⟩
 · cases e
 · have : g = g':=by simpa [Value.ownBlock] using e
   subst this
   rw [hb] at hg'
   simp only [Option.some.injEq,Obj.cells.injEq] at hg'
   obtain ⟨h1,h2,h3⟩:=hT
   rcases ht with e | e | e
   · exact h1 (hg'.2.1.symm.trans e)
   · exact h2 (hg'.2.1.symm.trans e)
   · exact h3 (hg'.2.1.symm.trans e)
end
def fnRow (r : List (Fn × FV)) : List Value:=r.flatMap fun p => fnCells p.1 p.2
def thRow (r : List (List Stm × Value)) : List Value:=r.map (·.2)
theorem fnRow_snoc (r : List (Fn × FV)) (f : Fn) (v : FV) : fnRow (r ++ [(f,v)]) = fnRow r ++ fnCells f v:=by simp [fnRow]
theorem thRow_snoc (r : List (List Stm × Value)) (l : List Stm) (v : Value) : thRow (r ++ [(l,v)]) = thRow r ++ [v]:=by simp [thRow]
structure PRows (B : Nat) (W : World) (p : Pg) (v0 v1 v2 v3 : Value) (rf : List (Fn × FV)) (rt : List (List Stm × Value)) : Prop where
 g : W.ownsRow B 56 6 v0 p.gs.length (p.gs.flatMap glCells)
 l : W.ownsRow B 95 2 v1 p.ls.length (p.ls.flatMap lkCells)
 f : W.ownsRow B 65 12 v2 p.fs.length (fnRow rf)
 t : W.ownsRow B 60 1 v3 p.ths.length (thRow rt)
 ef : rf.map (·.1) = p.fs
 et : rt.map (·.1) = p.ths
 xf : ∀ q ∈ rf,IsFn1 (fun g => B ≤ g) W q.1 q.2
 xt : ∀ q ∈ rt,IsSts (fun g => B ≤ g) W q.1 q.2
theorem PRows.nil (B : Nat) (W : World) : PRows B W ⟨[],[],[],[]⟩ (.slice none 0 0) (.slice none 0 0) (.slice none 0 0) (.slice none 0 0) [] [] :=
 ⟨World.ownsRow_nil W B _ 6,World.ownsRow_nil W B _ 2,World.ownsRow_nil W B _ 12,World.ownsRow_nil W B _ 1,rfl,rfl,by simp,by simp⟩
theorem own_form {B T k n : Nat} {W : World} {v : Value} {xs : List Value} (h : W.ownsRow B T k v n xs) : ∃ p c,v = .slice p n c:=by
 rcases h.2 with ⟨h1,h2⟩ | ⟨g,cap,cur,h1,_⟩
 · exact ⟨none,0,by rw [h1,h2]⟩
 · exact ⟨_,_,h1⟩
end Go.Proofs.Ytbmmjomcjlpnlaa
namespace Go.Proofs.Ytbmmjomcjlpnlaa
open Go Go.RowKit
theorem r4_limit16 {r4 rb g cap : Nat} {ws : List Wd} {d : Int} {p0 p1 p2 p3 : Value} {W : World} {σ : RS} (S : Hid (A4 W r4 rb g cap ws d p0 p1 p2 p3 σ)) (n : Nat) :
 Calls Try.prog 46 #[.pointer (some ⟨r4,0,none⟩),.int .i64 n,.int .i64 16] W fun e w' => e = .returned (.tuple #[]) ∧ A4 w' r4 rb g cap ws d p0 p1 p2 p3 (limF n 16 σ) ∧ Fr (some rb) W w':=r4_limit S n 16
theorem r4_paramsQ {r4 rb g cap : Nat} {ws : List Wd} {d : Int} {p0 p1 p2 p3 : Value} {W : World} {σ τ : RS} {lp : List Pm} (S : Hid (A4 W r4 rb g cap ws d p0 p1 p2 p3 σ)) (h : paramsF σ = (lp,τ)) :
 Calls Try.prog 65 #[.pointer (some ⟨r4,0,none⟩)] W fun e w' => (∃ p c,e = .returned (.slice p lp.length c) ∧ IsPl (fun g => W.heap.size ≤ g) 137 3 pmCells w' lp (.slice p lp.length c)) ∧ A4 w' r4 rb g cap ws d p0 p1 p2 p3 τ ∧ Fr (some rb) W w':=by
 have:=r4_params S
 rwa [h] at this
theorem rfn_no {r4 rb g cap B k m n d : Nat} {ws : List Wd} {p : Option Addr} {p0 p1 p3 : Value} {W : World} {x : Wd} {tt : List Wd} {σ : RS} {c0 : Int} {b0 : Nat} (S : Hid (A4 W r4 rb g cap ws d p0 p1 (.slice p m k) p3 σ)) (hlim : Hid (limF m 16 σ = .bad c0 b0)) :
 Calls Try.prog 49 #[.pointer (some ⟨r4,0,none⟩)] W fun e w' => e = .returned (.tuple #[]) ∧ A4 w' r4 rb g cap ws d p0 p1 (.slice p m k) p3 (.bad c0 b0) ∧ Fr (some rb) W w':=by
 obtain ⟨m0,m1,m2,m3,m4,m5⟩:=S.out.at4.cells
 have ml0:=S.out.at4.lt
 go_enter Try.func49,Try.ntmps49
 go_wp2_with (first
  | (go_at_call 46;(with_reducible refine (r4_limit16 S m).mono ?_);rintro e1 w1 ⟨rfl,hs1,hf1⟩;have S1 : Hid (A4 w1 r4 rb g cap ws d p0 p1 (.slice p m k) p3 (.bad c0 b0)):=hid (hlim.out ▸ hs1))
  | (go_at_call 23;(with_reducible refine (r4_ok S1 false rfl).mono ?_);rintro e2 w2 ⟨rfl,hb2⟩))
 first
  | (((try simp only [Exit.inBlock,Exit.then]);refine bodyPost_ret (results_none rfl _ _ _) rfl ?_);exact ⟨rfl,S1.out.stay hb2,hf1.stepB hb2⟩)
  | (go_end0;exact ⟨rfl,S1.out.stay hb2,hf1.stepB hb2⟩)
theorem rfn_yes {r4 rb g cap B k m n d : Nat} {ws : List Wd} {p : Option Addr} {p0 p1 p3 : Value} {W : World} {x : Wd} {tt : List Wd} {xs : List Value} {nm : List UInt8} {a : Nat} {lp : List Pm} {tr sc : Bool} {lb : List Stm} {ex : Ex} {τ1 τ2 τ3 τ4 τ5 τ6 τ7 τ8 τ9 : RS}
 (S : Hid (A4 W r4 rb g cap ws d p0 p1 (.slice p m k) p3 (.ok (x :: tt)))) (G : Hid (W.ownsRow B 65 12 (.slice p m k) m xs)) (hB : r4 < B ∧ rb < B ∧ g < B ∧ B ≤ W.heap.size) (hl : m ≤ 1000000) (hlim : Hid (limF m 16 (.ok (x :: tt)) = .ok (x :: tt))) (hx : x.k ≠ 3)
 (H1 : Hid (nameF (.ok tt) = ((nm,a),τ1))) (H2 : Hid (paramsF τ1 = (lp,τ2))) (H3 : Hid (kindF τ2 = ((tr,sc),τ3))) (H4 : Hid (τ3.need (⟨#[123]⟩ : ByteArray).data.toList = τ4)) (H5 : Hid (stmtsF n (d + 1) (⟨#[114,101,116,117,114,110]⟩ : ByteArray).data.toList τ4 = (lb,τ5))) (H6 : Hid (τ5.need (⟨#[114,101,116,117,114,110]⟩ : ByteArray).data.toList = τ6)) (H7 : Hid (exF τ6 = (ex,τ7))) (H8 : Hid (τ7.need (⟨#[59]⟩ : ByteArray).data.toList = τ8)) (H9 : Hid (τ8.need (⟨#[125]⟩ : ByteArray).data.toList = τ9))
 (HG : Hid (GStmts r4 rb g ws n)) (hlen : 3 * τ4.len + 1 ≤ n) (hd : d + 1 ≤ 32) :
 Calls Try.prog 49 #[.pointer (some ⟨r4,0,none⟩)] W fun e w' => e = .returned (.tuple #[]) ∧ ∃ q,A4 w' r4 rb g cap ws d p0 p1 q p3 τ9 ∧ Fr3 r4 rb (Value.slice p m k).ownBlock W w' ∧ ∀ t,τ9 = .ok t → ∃ fv,w'.ownsRow B 65 12 q (m + 1) (xs ++ fnCells ⟨a,nm,lp,tr,sc,lb,ex⟩ fv) ∧ IsFn1 (fun b => W.heap.size ≤ b) w' ⟨a,nm,lp,tr,sc,lb,ex⟩ fv:=by
 have hBW:=hB.2.2.2
 have HLT : Hid (∀ j,(Value.slice p m k).ownBlock = some j → B ≤ j ∧ j < W.heap.size):=hid G.out.lt
 obtain ⟨i0,hinf,hzi0,hzi1,hzi2⟩:=info_parts infoFn
 obtain ⟨m0,m1,m2,m3,m4,m5⟩:=S.out.at4.cells
 have ml0:=S.out.at4.lt
 go_enter Try.func49,Try.ntmps49
 go_upto_region 2 with (first
  | (go_at_call 46;(with_reducible refine (r4_limit16 S m).mono ?_);rintro e1 w1 ⟨rfl,hs1,hf1⟩;have S1 : Hid (A4 w1 r4 rb g cap ws d p0 p1 (.slice p m k) p3 (.ok (x :: tt))):=hid (hlim.out ▸ hs1))
  | (go_at_call 23;(with_reducible refine (r4_ok S1 true rfl).mono ?_);rintro e2 w2 ⟨rfl,hb2⟩;have S2:=hid (S1.out.stay hb2)))
 have F2 : Fr (some rb) W w2:=hf1.stepB hb2
 clear m0 m1 m2 m3 m4 m5 ml0
 obtain ⟨q4l,qbl,qgl⟩:=S2.out.blk
 obtain ⟨i,a9,R0,h5,_,_,_⟩:=S2.out.st.ok_cells S2.out.env
 obtain ⟨m0,_,_,_,_,_⟩:=S2.out.at4.cells
 obtain ⟨q0,q1,q2,q3,q4⟩:=R0.rd.cells
 have hlr:=R0.rd.lt
 have hfr:=R0.rd.frozen 1
 go_upto_region 3 with (fail)
 refine name_world ?_
 intro w3 hw3
 have F9 : Fr (some rb) w2 (w2.setCell ⟨rb,1,none⟩ (.int .i64 ((i : Int) + 1))):=(Fr.refl _ _).set (.inl rfl) _ _
 have S3 : Hid (A4 w3 r4 rb g cap ws d p0 p1 (.slice p m k) p3 (.ok tt)):=hid (by (rw [hw3];exact S2.out.fr F9 (st_adv S2.out.st R0 hx h5)))
 have F3 : Fr3 r4 rb none W w3:=by (rw [hw3];exact .of (F2.step F9))
 have hz3:=F3.1.1
 clear hw3 m0 q0 q1 q2 q3 q4 R0 h5 F9 hlr hfr q4l qbl qgl
 obtain ⟨q4l,qbl,qgl⟩:=S3.out.blk
 have FB3:=FBlk.new (X:=w3) (a:=0) (nm:=⟨#[]⟩) (pv:=(.slice none 0 0)) (tr:=false) (sc:=false) (bv:=(.slice none 0 0)) (k:=0) (q:=0) (n:=0) (s:=⟨#[]⟩) (kv:=(.slice none 0 0)) (xa:=0) rfl
 have S3':=hid (S3.out.alloc (.cells #[.int .i64 0,.string ⟨#[]⟩,.slice none 0 0,.bool false,.bool false,.slice none 0 0,.int .i64 0,.int .i64 0,.int .i64 0,.string ⟨#[]⟩,.slice none 0 0,.int .i64 0] 65))
 go_upto_region 5 with (go_at_call 47;(with_reducible refine (r4_name S3' H1.out).mono ?_);rintro e4 w4 ⟨rfl,hs4,hf4⟩;have hz4:=Fr.size hf4;(try simp only [World.size_alloc] at hz4))
 refine name_world ?_
 intro w5 hw5
 have FB5 : FBlk w5 w3.heap.size 0 ⟨#[]⟩ (.slice none 0 0) false false (.slice none 0 0) 0 0 0 ⟨#[]⟩ (.slice none 0 0) 0:=by (rw [hw5];exact (FB3.fr hf4 (by omega)).alloc _)
 have TB5 : TBlk w5 w4.heap.size (bstr nm) a:=by (rw [hw5];exact TBlk.new rfl)
 have S5 : Hid (A4 w5 r4 rb g cap ws d p0 p1 (.slice p m k) p3 τ1):=hid (by (rw [hw5];exact hs4.alloc _))
 have F5 : Fr3 r4 rb none W w5:=by (rw [hw5];exact ((F3.alloc _).step hf4).alloc _)
 have hz5 : w3.heap.size < w5.heap.size:=by (rw [hw5];simp;omega)
 obtain ⟨fl,⟨fc0,fc1,fc2,fc3,fc4,fc5,fc6,fc7,fc8,fc9,fc10,fc11⟩,ff0,ff1,ff2,ff3,ff4,ff5,ff6,ff7,ff8,ff9,ff10,ff11⟩:=FB5.facts
 obtain ⟨tl5,tc0,tc1,tf0,tf1⟩:=TB5.facts
 clear hw5
 go_upto_region 7 with (fail)
 refine name_world ?_
 intro w6 hw6
 have FB6 : FBlk w6 w3.heap.size a (bstr nm) (.slice none 0 0) false false (.slice none 0 0) 0 0 0 ⟨#[]⟩ (.slice none 0 0) 0:=by (rw [hw6];exact (FB5.set1 _).set0 _)
 have S6 : Hid (A4 w6 r4 rb g cap ws d p0 p1 (.slice p m k) p3 τ1):=hid (by (rw [hw6];exact (S5.out.setO (by omega) (by omega) (by omega) _ _).setO (by omega) (by omega) (by omega) _ _))
 have F6 : Fr3 r4 rb none W w6:=by (rw [hw6];exact (F5.set (.inr (.inr (by omega))) _ _).set (.inr (.inr (by omega))) _ _)
 have hz6 : w3.heap.size < w6.heap.size:=by (rw [hw6];simpa using hz5)
 clear hw6 tl5 tc0 tc1 tf0 tf1 fl fc0 fc1 fc2 fc3 fc4 fc5 fc6 fc7 fc8 fc9 fc10 fc11 ff0 ff1 ff2 ff3 ff4 ff5 ff6 ff7 ff8 ff9 ff10 ff11 FB5 TB5 S5 F5 hz5 hs4 hf4 S3' FB3
 have hne : rb ≠ w3.heap.size ∧ r4 ≠ w3.heap.size ∧ g ≠ w3.heap.size ∧ w3.heap.size ≠ rb:=by omega
 have hlo : W.heap.size ≤ w6.heap.size:=F6.1.1
 have hq6 : w6.heap.size ≤ w6.heap.size:=Nat.le_refl _
 obtain ⟨fl,⟨fc0,fc1,fc2,fc3,fc4,fc5,fc6,fc7,fc8,fc9,fc10,fc11⟩,ff0,ff1,ff2,ff3,ff4,ff5,ff6,ff7,ff8,ff9,ff10,ff11⟩:=FB6.facts
 go_upto_region 8 with (go_at_call 65;(with_reducible refine (r4_paramsQ S6 H2.out).mono ?_);rintro e w ⟨⟨zp,zc,rfl,hp7⟩,hs,hf⟩;have BQ:=FB6.fr hf hne.2.2.2;obtain ⟨gl,⟨gc0,gc1,gc2,gc3,gc4,gc5,gc6,gc7,gc8,gc9,gc10,gc11⟩,gf0,gf1,gf2,gf3,gf4,gf5,gf6,gf7,gf8,gf9,gf10,gf11⟩:=BQ.facts)
 refine name_world ?_
 intro w7 hw7
 have FB7 : FBlk w7 w3.heap.size a (bstr nm) (.slice zp lp.length zc) false false (.slice none 0 0) 0 0 0 ⟨#[]⟩ (.slice none 0 0) 0:=by (rw [hw7];exact (BQ.set2 _))
 have S7 : Hid (A4 w7 r4 rb g cap ws d p0 p1 (.slice p m k) p3 τ2):=hid (by (rw [hw7];exact (hs.setO hne.2.1 hne.1 hne.2.2.1 _ _)))
 have F7 : Fr3 r4 rb none W w7:=by (rw [hw7];exact ((F6.step hf).set (.inr (.inr (by omega))) _ _))
 have Hi7 : Hi w6.heap.size w6 w7:=by (rw [hw7];exact (((Hi.refl w6.heap.size w6).fr hf (by omega)).set (by omega) _ _))
 have hz7 : w3.heap.size < w7.heap.size:=by (have:=Hi7.1;omega)
 have hq7 : w6.heap.size ≤ w7.heap.size:=Nat.le_trans hq6 Hi7.1
 have XP:=hid (show IsPl (fun g => w6.heap.size ≤ g) 137 3 pmCells w7 lp (.slice zp lp.length zc) by (rw [hw7];exact (hp7.hi ((Hi.refl _ _).set (by omega) _ _))))
 clear hw7 fl fc0 fc1 fc2 fc3 fc4 fc5 fc6 fc7 fc8 fc9 fc10 fc11 ff0 ff1 ff2 ff3 ff4 ff5 ff6 ff7 ff8 ff9 ff10 ff11 gc0 gc1 gc2 gc3 gc4 gc5 gc6 gc7 gc8 gc9 gc10 gc11 gf0 gf1 gf2 gf3 gf4 gf5 gf6 gf7 gf8 gf9 gf10 gf11 gl BQ hs hf FB6 S6 F6
 obtain ⟨fl,⟨fc0,fc1,fc2,fc3,fc4,fc5,fc6,fc7,fc8,fc9,fc10,fc11⟩,ff0,ff1,ff2,ff3,ff4,ff5,ff6,ff7,ff8,ff9,ff10,ff11⟩:=FB7.facts
 go_upto_region 9 with (go_at_call 66;(with_reducible refine (r4_kind S7 H3.out).mono ?_);rintro e w ⟨rfl,hs,hf⟩;have BQ:=FB7.fr hf hne.2.2.2;obtain ⟨gl,⟨gc0,gc1,gc2,gc3,gc4,gc5,gc6,gc7,gc8,gc9,gc10,gc11⟩,gf0,gf1,gf2,gf3,gf4,gf5,gf6,gf7,gf8,gf9,gf10,gf11⟩:=BQ.facts)
 refine name_world ?_
 intro w8 hw8
 have FB8 : FBlk w8 w3.heap.size a (bstr nm) (.slice zp lp.length zc) tr sc (.slice none 0 0) 0 0 0 ⟨#[]⟩ (.slice none 0 0) 0:=by (rw [hw8];exact ((BQ.set3 _).set4 _))
 have S8 : Hid (A4 w8 r4 rb g cap ws d p0 p1 (.slice p m k) p3 τ3):=hid (by (rw [hw8];exact ((hs.setO hne.2.1 hne.1 hne.2.2.1 _ _).setO hne.2.1 hne.1 hne.2.2.1 _ _)))
 have F8 : Fr3 r4 rb none W w8:=by (rw [hw8];exact (((F7.step hf).set (.inr (.inr (by omega))) _ _).set (.inr (.inr (by omega))) _ _))
 have Hi8 : Hi w6.heap.size w7 w8:=by (rw [hw8];exact ((((Hi.refl w6.heap.size w7).fr hf (by omega)).set (by omega) _ _).set (by omega) _ _))
 have hz8 : w3.heap.size < w8.heap.size:=by (have:=Hi8.1;omega)
 have hq8 : w6.heap.size ≤ w8.heap.size:=Nat.le_trans hq7 Hi8.1
 have XP':=hid (XP.out.hi Hi8)
 clear XP
 clear hw8 fl fc0 fc1 fc2 fc3 fc4 fc5 fc6 fc7 fc8 fc9 fc10 fc11 ff0 ff1 ff2 ff3 ff4 ff5 ff6 ff7 ff8 ff9 ff10 ff11 gc0 gc1 gc2 gc3 gc4 gc5 gc6 gc7 gc8 gc9 gc10 gc11 gf0 gf1 gf2 gf3 gf4 gf5 gf6 gf7 gf8 gf9 gf10 gf11 gl BQ hs hf FB7 S7 F7
 obtain ⟨fl,⟨fc0,fc1,fc2,fc3,fc4,fc5,fc6,fc7,fc8,fc9,fc10,fc11⟩,ff0,ff1,ff2,ff3,ff4,ff5,ff6,ff7,ff8,ff9,ff10,ff11⟩:=FB8.facts
 go_upto_region 10 with (go_at_call 48;(with_reducible refine (r4_need S8 _ _ H4).mono ?_);rintro e w ⟨rfl,hs,hf⟩;have BQ:=FB8.fr hf hne.2.2.2;obtain ⟨gl,⟨gc0,gc1,gc2,gc3,gc4,gc5,gc6,gc7,gc8,gc9,gc10,gc11⟩,gf0,gf1,gf2,gf3,gf4,gf5,gf6,gf7,gf8,gf9,gf10,gf11⟩:=BQ.facts)
 refine name_world ?_
 intro w9 hw9
 have FB9 : FBlk w9 w3.heap.size a (bstr nm) (.slice zp lp.length zc) tr sc (.slice none 0 0) 0 0 0 ⟨#[]⟩ (.slice none 0 0) 0:=by (rw [hw9];exact BQ)
 have S9 : Hid (A4 w9 r4 rb g cap ws d p0 p1 (.slice p m k) p3 τ4):=hid (by (rw [hw9];exact hs))
 have F9 : Fr3 r4 rb none W w9:=by (rw [hw9];exact (F8.step hf))
 have Hi9 : Hi w6.heap.size w8 w9:=by (rw [hw9];exact ((Hi.refl w6.heap.size w8).fr hf (by omega)))
 have hz9 : w3.heap.size < w9.heap.size:=by (have:=Hi9.1;omega)
 have hq9 : w6.heap.size ≤ w9.heap.size:=Nat.le_trans hq8 Hi9.1
 have XP'':=hid (XP'.out.hi Hi9)
 clear XP'
 clear hw9 fl fc0 fc1 fc2 fc3 fc4 fc5 fc6 fc7 fc8 fc9 fc10 fc11 ff0 ff1 ff2 ff3 ff4 ff5 ff6 ff7 ff8 ff9 ff10 ff11 gc0 gc1 gc2 gc3 gc4 gc5 gc6 gc7 gc8 gc9 gc10 gc11 gf0 gf1 gf2 gf3 gf4 gf5 gf6 gf7 gf8 gf9 gf10 gf11 gl BQ hs hf FB8 S8 F8
 obtain ⟨m0,m1,_,_,_,_⟩:=S9.out.at4.cells
 have ml:=S9.out.at4.lt
 have mf:=S9.out.at4.frozen 1
 go_upto_region 11 with (fail)
 refine name_world ?_
 intro w10 hw10
 have hd1 : ((d + 1 : Nat) : Int) = (d : Int) + 1:=by omega
 have FB10 : FBlk w10 w3.heap.size a (bstr nm) (.slice zp lp.length zc) tr sc (.slice none 0 0) 0 0 0 ⟨#[]⟩ (.slice none 0 0) 0:=by (rw [hw10];exact FB9.setO hne.2.1.symm _ _)
 have S10 : Hid (A4 w10 r4 rb g cap ws ((d + 1 : Nat) : Int) p0 p1 (.slice p m k) p3 τ4):=hid (by (rw [hw10];exact S9.out.setD _))
 have F10 : Fr3 r4 rb none W w10:=by (rw [hw10];exact F9.set (.inl rfl) _ _)
 have Hi10 : Hi w6.heap.size w9 w10:=by (rw [hw10];exact (Hi.refl _ _).set (by omega) _ _)
 have hz10 : w3.heap.size < w10.heap.size:=by (have:=Hi10.1;omega)
 have hq10 : w6.heap.size ≤ w10.heap.size:=Nat.le_trans hq9 Hi10.1
 have XP''':=hid (XP''.out.hi Hi10)
 clear XP''
 clear hw10 m0 m1 mf ml hd1 FB9 S9 F9
 obtain ⟨fl,⟨fc0,fc1,fc2,fc3,fc4,fc5,fc6,fc7,fc8,fc9,fc10,fc11⟩,ff0,ff1,ff2,ff3,ff4,ff5,ff6,ff7,ff8,ff9,ff10,ff11⟩:=FB10.facts
 go_upto_region 12 with (go_at_call 67;(with_reducible refine (HG.out.use S10 hlen (.inl hd) _ H5.out).mono ?_);rintro e w ⟨⟨bp,bm,bc,rfl,hb12⟩,hs,hf⟩;have BQ:=FB10.fr hf hne.2.2.2;obtain ⟨gl,⟨gc0,gc1,gc2,gc3,gc4,gc5,gc6,gc7,gc8,gc9,gc10,gc11⟩,gf0,gf1,gf2,gf3,gf4,gf5,gf6,gf7,gf8,gf9,gf10,gf11⟩:=BQ.facts)
 refine name_world ?_
 intro w11 hw11
 have FB11 : FBlk w11 w3.heap.size a (bstr nm) (.slice zp lp.length zc) tr sc (.slice bp bm bc) 0 0 0 ⟨#[]⟩ (.slice none 0 0) 0:=by (rw [hw11];exact (BQ.set5 _))
 have S11 : Hid (A4 w11 r4 rb g cap ws ((d + 1 : Nat) : Int) p0 p1 (.slice p m k) p3 τ5):=hid (by (rw [hw11];exact (hs.setO hne.2.1 hne.1 hne.2.2.1 _ _)))
 have F11 : Fr3 r4 rb none W w11:=by (rw [hw11];exact ((F10.step hf).set (.inr (.inr (by omega))) _ _))
 have Hi11 : Hi w6.heap.size w10 w11:=by (rw [hw11];exact (((Hi.refl w6.heap.size w10).fr hf (by omega)).set (by omega) _ _))
 have hz11 : w3.heap.size < w11.heap.size:=by (have:=Hi11.1;omega)
 have hq11 : w6.heap.size ≤ w11.heap.size:=Nat.le_trans hq10 Hi11.1
 have XB:=hid (show ∀ t,τ5 = .ok t → IsSts (fun g => w6.heap.size ≤ g) w11 lb (.slice bp bm bc) from fun t ht => by (rw [hw11];exact ((hb12 t ht).lo (by omega)).hi ((Hi.refl _ _).set (by omega) _ _)))
 have XP'''':=hid (XP'''.out.hi Hi11)
 clear XP'''
 clear hw11 fl fc0 fc1 fc2 fc3 fc4 fc5 fc6 fc7 fc8 fc9 fc10 fc11 ff0 ff1 ff2 ff3 ff4 ff5 ff6 ff7 ff8 ff9 ff10 ff11 gc0 gc1 gc2 gc3 gc4 gc5 gc6 gc7 gc8 gc9 gc10 gc11 gf0 gf1 gf2 gf3 gf4 gf5 gf6 gf7 gf8 gf9 gf10 gf11 gl BQ hs hf FB10 S10 F10
 obtain ⟨fl,⟨fc0,fc1,fc2,fc3,fc4,fc5,fc6,fc7,fc8,fc9,fc10,fc11⟩,ff0,ff1,ff2,ff3,ff4,ff5,ff6,ff7,ff8,ff9,ff10,ff11⟩:=FB11.facts
 go_upto_region 13 with (go_at_call 48;(with_reducible refine (r4_need S11 _ _ H6).mono ?_);rintro e w ⟨rfl,hs,hf⟩;have BQ:=FB11.fr hf hne.2.2.2;obtain ⟨gl,⟨gc0,gc1,gc2,gc3,gc4,gc5,gc6,gc7,gc8,gc9,gc10,gc11⟩,gf0,gf1,gf2,gf3,gf4,gf5,gf6,gf7,gf8,gf9,gf10,gf11⟩:=BQ.facts)
 refine name_world ?_
 intro w12 hw12
 have FB12 : FBlk w12 w3.heap.size a (bstr nm) (.slice zp lp.length zc) tr sc (.slice bp bm bc) 0 0 0 ⟨#[]⟩ (.slice none 0 0) 0:=by (rw [hw12];exact BQ)
 have S12 : Hid (A4 w12 r4 rb g cap ws ((d + 1 : Nat) : Int) p0 p1 (.slice p m k) p3 τ6):=hid (by (rw [hw12];exact hs))
 have F12 : Fr3 r4 rb none W w12:=by (rw [hw12];exact (F11.step hf))
 have Hi12 : Hi w6.heap.size w11 w12:=by (rw [hw12];exact ((Hi.refl w6.heap.size w11).fr hf (by omega)))
 have hz12 : w3.heap.size < w12.heap.size:=by (have:=Hi12.1;omega)
 have hq12 : w6.heap.size ≤ w12.heap.size:=Nat.le_trans hq11 Hi12.1
 have XP''''':=hid (XP''''.out.hi Hi12)
 clear XP''''
 have XB':=hid (fun t ht => (XB.out t ht).hi Hi12)
 clear XB
 clear hw12 fl fc0 fc1 fc2 fc3 fc4 fc5 fc6 fc7 fc8 fc9 fc10 fc11 ff0 ff1 ff2 ff3 ff4 ff5 ff6 ff7 ff8 ff9 ff10 ff11 gc0 gc1 gc2 gc3 gc4 gc5 gc6 gc7 gc8 gc9 gc10 gc11 gf0 gf1 gf2 gf3 gf4 gf5 gf6 gf7 gf8 gf9 gf10 gf11 gl BQ hs hf FB11 S11 F11
 obtain ⟨fl,⟨fc0,fc1,fc2,fc3,fc4,fc5,fc6,fc7,fc8,fc9,fc10,fc11⟩,ff0,ff1,ff2,ff3,ff4,ff5,ff6,ff7,ff8,ff9,ff10,ff11⟩:=FB12.facts
 go_upto_region 14 with (go_at_call 68;(with_reducible refine (r4_exprQ S12 H7.out).mono ?_);rintro e w ⟨⟨ek,eo,en,es,ep,el,ec,ea,rfl,hx14⟩,hs,hf⟩;have BQ:=FB12.fr hf hne.2.2.2;obtain ⟨gl,⟨gc0,gc1,gc2,gc3,gc4,gc5,gc6,gc7,gc8,gc9,gc10,gc11⟩,gf0,gf1,gf2,gf3,gf4,gf5,gf6,gf7,gf8,gf9,gf10,gf11⟩:=BQ.facts)
 refine name_world ?_
 intro w13 hw13
 have FB13 : FBlk w13 w3.heap.size a (bstr nm) (.slice zp lp.length zc) tr sc (.slice bp bm bc) ek eo en es (.slice ep el ec) ea:=by (rw [hw13];exact ((((((BQ.set6 _).set7 _).set8 _).set9 _).set10 _).set11 _))
 have S13 : Hid (A4 w13 r4 rb g cap ws ((d + 1 : Nat) : Int) p0 p1 (.slice p m k) p3 τ7):=hid (by (rw [hw13];exact ((((((hs.setO hne.2.1 hne.1 hne.2.2.1 _ _).setO hne.2.1 hne.1 hne.2.2.1 _ _).setO hne.2.1 hne.1 hne.2.2.1 _ _).setO hne.2.1 hne.1 hne.2.2.1 _ _).setO hne.2.1 hne.1 hne.2.2.1 _ _).setO hne.2.1 hne.1 hne.2.2.1 _ _)))
 have F13 : Fr3 r4 rb none W w13:=by (rw [hw13];exact (((((((F12.step hf).set (.inr (.inr (by omega))) _ _).set (.inr (.inr (by omega))) _ _).set (.inr (.inr (by omega))) _ _).set (.inr (.inr (by omega))) _ _).set (.inr (.inr (by omega))) _ _).set (.inr (.inr (by omega))) _ _))
 have Hi13 : Hi w6.heap.size w12 w13:=by (rw [hw13];exact ((((((((Hi.refl w6.heap.size w12).fr hf (by omega)).set (by omega) _ _).set (by omega) _ _).set (by omega) _ _).set (by omega) _ _).set (by omega) _ _).set (by omega) _ _))
 have hz13 : w3.heap.size < w13.heap.size:=by (have:=Hi13.1;omega)
 have hq13 : w6.heap.size ≤ w13.heap.size:=Nat.le_trans hq12 Hi13.1
 have XX:=hid (show ∀ t,τ7 = .ok t → VEx w6.heap.size w13 ex ek eo en es ep el ec ea from fun t ht => by (rw [hw13];exact ((hx14 t ht).low (by omega)).kept fun j hj hl => (((((((Hi.refl w6.heap.size _).set (show w3.heap.size < w6.heap.size by omega) _ _).set (show w3.heap.size < w6.heap.size by omega) _ _).set (show w3.heap.size < w6.heap.size by omega) _ _).set (show w3.heap.size < w6.heap.size by omega) _ _).set (show w3.heap.size < w6.heap.size by omega) _ _).set (show w3.heap.size < w6.heap.size by omega) _ _).2 j hj hl))
 have XP'''''':=hid (XP'''''.out.hi Hi13)
 clear XP'''''
 have XB'':=hid (fun t ht => (XB'.out t ht).hi Hi13)
 clear XB'
 clear hw13 fl fc0 fc1 fc2 fc3 fc4 fc5 fc6 fc7 fc8 fc9 fc10 fc11 ff0 ff1 ff2 ff3 ff4 ff5 ff6 ff7 ff8 ff9 ff10 ff11 gc0 gc1 gc2 gc3 gc4 gc5 gc6 gc7 gc8 gc9 gc10 gc11 gf0 gf1 gf2 gf3 gf4 gf5 gf6 gf7 gf8 gf9 gf10 gf11 gl BQ hs hf FB12 S12 F12
 obtain ⟨fl,⟨fc0,fc1,fc2,fc3,fc4,fc5,fc6,fc7,fc8,fc9,fc10,fc11⟩,ff0,ff1,ff2,ff3,ff4,ff5,ff6,ff7,ff8,ff9,ff10,ff11⟩:=FB13.facts
 go_upto_region 15 with (go_at_call 48;(with_reducible refine (r4_need S13 _ _ H8).mono ?_);rintro e w ⟨rfl,hs,hf⟩;have BQ:=FB13.fr hf hne.2.2.2;obtain ⟨gl,⟨gc0,gc1,gc2,gc3,gc4,gc5,gc6,gc7,gc8,gc9,gc10,gc11⟩,gf0,gf1,gf2,gf3,gf4,gf5,gf6,gf7,gf8,gf9,gf10,gf11⟩:=BQ.facts)
 refine name_world ?_
 intro w14 hw14
 have FB14 : FBlk w14 w3.heap.size a (bstr nm) (.slice zp lp.length zc) tr sc (.slice bp bm bc) ek eo en es (.slice ep el ec) ea:=by (rw [hw14];exact BQ)
 have S14 : Hid (A4 w14 r4 rb g cap ws ((d + 1 : Nat) : Int) p0 p1 (.slice p m k) p3 τ8):=hid (by (rw [hw14];exact hs))
 have F14 : Fr3 r4 rb none W w14:=by (rw [hw14];exact (F13.step hf))
 have Hi14 : Hi w6.heap.size w13 w14:=by (rw [hw14];exact ((Hi.refl w6.heap.size w13).fr hf (by omega)))
 have hz14 : w3.heap.size < w14.heap.size:=by (have:=Hi14.1;omega)
 have hq14 : w6.heap.size ≤ w14.heap.size:=Nat.le_trans hq13 Hi14.1
 have XP''''''':=hid (XP''''''.out.hi Hi14)
 clear XP''''''
 have XB''':=hid (fun t ht => (XB''.out t ht).hi Hi14)
 clear XB''
 have XX':=hid (fun t ht => (XX.out t ht).kept fun j hj hl => Hi14.2 j hj hl)
 clear XX
 clear hw14 fl fc0 fc1 fc2 fc3 fc4 fc5 fc6 fc7 fc8 fc9 fc10 fc11 ff0 ff1 ff2 ff3 ff4 ff5 ff6 ff7 ff8 ff9 ff10 ff11 gc0 gc1 gc2 gc3 gc4 gc5 gc6 gc7 gc8 gc9 gc10 gc11 gf0 gf1 gf2 gf3 gf4 gf5 gf6 gf7 gf8 gf9 gf10 gf11 gl BQ hs hf FB13 S13 F13
 obtain ⟨O,hO⟩ : ∃ O : Int,O = ((d + 1 : Nat) : Int):=⟨_,rfl⟩
 have HO:=hid hO
 have S14' : Hid (A4 w14 r4 rb g cap ws O p0 p1 (.slice p m k) p3 τ8):=hid (hO ▸ S14.out)
 clear hO
 clear S14
 have S14:=S14'
 clear S14'
 obtain ⟨fl,⟨fc0,fc1,fc2,fc3,fc4,fc5,fc6,fc7,fc8,fc9,fc10,fc11⟩,ff0,ff1,ff2,ff3,ff4,ff5,ff6,ff7,ff8,ff9,ff10,ff11⟩:=FB14.facts
 go_upto_region 16 with (go_at_call 48;(with_reducible refine (r4_need S14 _ _ H9).mono ?_);rintro e w ⟨rfl,hs,hf⟩;have BQ:=FB14.fr hf hne.2.2.2;obtain ⟨gl,⟨gc0,gc1,gc2,gc3,gc4,gc5,gc6,gc7,gc8,gc9,gc10,gc11⟩,gf0,gf1,gf2,gf3,gf4,gf5,gf6,gf7,gf8,gf9,gf10,gf11⟩:=BQ.facts)
 refine name_world ?_
 intro w15 hw15
 have FB15 : FBlk w15 w3.heap.size a (bstr nm) (.slice zp lp.length zc) tr sc (.slice bp bm bc) ek eo en es (.slice ep el ec) ea:=by (rw [hw15];exact BQ)
 have S15 : Hid (A4 w15 r4 rb g cap ws O p0 p1 (.slice p m k) p3 τ9):=hid (by (rw [hw15];exact hs))
 have F15 : Fr3 r4 rb none W w15:=by (rw [hw15];exact (F14.step hf))
 have Hi15 : Hi w6.heap.size w14 w15:=by (rw [hw15];exact ((Hi.refl w6.heap.size w14).fr hf (by omega)))
 have hz15 : w3.heap.size < w15.heap.size:=by (have:=Hi15.1;omega)
 have hq15 : w6.heap.size ≤ w15.heap.size:=Nat.le_trans hq14 Hi15.1
 have XP'''''''':=hid (XP'''''''.out.hi Hi15)
 clear XP'''''''
 have XB'''':=hid (fun t ht => (XB'''.out t ht).hi Hi15)
 clear XB'''
 have XX'':=hid (fun t ht => (XX'.out t ht).kept fun j hj hl => Hi15.2 j hj hl)
 clear XX'
 clear hw15 fl fc0 fc1 fc2 fc3 fc4 fc5 fc6 fc7 fc8 fc9 fc10 fc11 ff0 ff1 ff2 ff3 ff4 ff5 ff6 ff7 ff8 ff9 ff10 ff11 gc0 gc1 gc2 gc3 gc4 gc5 gc6 gc7 gc8 gc9 gc10 gc11 gf0 gf1 gf2 gf3 gf4 gf5 gf6 gf7 gf8 gf9 gf10 gf11 gl BQ hs hf FB14 S14 F14
 obtain ⟨m0,m1,_,_,_,_⟩:=S15.out.at4.cells
 have ml:=S15.out.at4.lt
 have mf:=S15.out.at4.frozen 1
 go_upto_region 17 with (fail)
 refine name_world ?_
 intro w16 hw16
 have hwd : wrap64 (O - 1) = (d : Int):=by (rw [HO.out];unfold wrap64;omega)
 have FB16 : FBlk w16 w3.heap.size a (bstr nm) (.slice zp lp.length zc) tr sc (.slice bp bm bc) ek eo en es (.slice ep el ec) ea:=by (rw [hw16];exact FB15.setO hne.2.1.symm _ _)
 have S16 : Hid (A4 w16 r4 rb g cap ws d p0 p1 (.slice p m k) p3 τ9):=hid (by (rw [hw16];first | exact S15.out.setD _ | (rw [hwd];exact S15.out.setD _)))
 have F16 : Fr3 r4 rb none W w16:=by (rw [hw16];exact F15.set (.inl rfl) _ _)
 have Hi16 : Hi w6.heap.size w15 w16:=by (rw [hw16];exact (Hi.refl _ _).set (by omega) _ _)
 have hz16 : w3.heap.size < w16.heap.size:=by (have:=Hi16.1;omega)
 have hq16 : w6.heap.size ≤ w16.heap.size:=Nat.le_trans hq15 Hi16.1
 have XP''''''''':=hid (XP''''''''.out.hi Hi16)
 clear XP''''''''
 have XB''''':=hid (fun t ht => (XB''''.out t ht).hi Hi16)
 clear XB''''
 have XX''':=hid (fun t ht => (XX''.out t ht).kept fun j hj hl => Hi16.2 j hj hl)
 clear XX''
 clear hw16 hwd m0 m1 mf ml FB15 S15 F15
 have G16 : w16.ownsRow B 65 12 (.slice p m k) m xs:=own_fr0 G.out F16 hB.1 hB.2.1
 have hzW:=F16.1.1
 obtain ⟨fl,⟨fc0,fc1,fc2,fc3,fc4,fc5,fc6,fc7,fc8,fc9,fc10,fc11⟩,ff0,ff1,ff2,ff3,ff4,ff5,ff6,ff7,ff8,ff9,ff10,ff11⟩:=FB16.facts
 obtain ⟨m0,m1,m2,m3,m4,m5⟩:=S16.out.at4.cells
 have ml:=S16.out.at4.lt
 have mf:=S16.out.at4.frozen 4
 have hown : ∀ k',k' < B → some k' ≠ (Value.slice p m k).ownBlock:=fun k' hk e => by (have:=(HLT.out k' e.symm).1;omega)
 go_region_law (refine step_append_lies _ (by rfl) _ _ _ (by rfl) B 65 i0 _ 12 152 Try.underlying26 hinf hzi0 hzi1 hzi2 rfl (by decide) (.slice p m k) m xs (by rfl) (own_below G16 (by (with_reducible repeat first | exact Below.refl _ _ | refine Below.alloc ?_ (by first | omega | (simp;omega)) _ | refine Below.drewN ?_ _ | refine Below.drew ?_ | refine Below.setCell ?_ (by first | omega | (simp;omega)) _ | refine Below.trans ?_ (by assumption)))) ⟨_,0,none⟩ 1 1 [.int .i64 a,.string (bstr nm),.slice zp lp.length zc,.bool tr,.bool sc,.slice bp bm bc,.int .i64 ek,.int .i64 eo,.int .i64 en,.string es,.slice ep el ec,.int .i64 ea] (by rfl) (by rfl) (World.news_of_block (heap_alloc_new _ _)) raw12_one (by decide) (by unfold maxLen;omega) (by omega) (by simp;omega) _ rfl ?_;intro gg cap6 w30 hown9 hgrow9 hor9 hlt9;have hgr9 : World.grownBy _ w30 (Value.slice p m k).ownBlock:=hgrow9;have S30:=hid (((S16.out.drew).alloc (.cells #[.int .i64 a,.string (bstr nm),.slice zp lp.length zc,.bool tr,.bool sc,.slice bp bm bc,.int .i64 ek,.int .i64 eo,.int .i64 en,.string es,.slice ep el ec,.int .i64 ea] 65)).grow hgr9 (hown _ hB.1) (hown _ hB.2.1) (hown _ hB.2.2.1));obtain ⟨n0,n1,n2,n3,n4,n5⟩:=S30.out.at4.cells;have nl:=S30.out.at4.lt;have nf:=S30.out.at4.frozen 4)
 all_goals go_end0
 all_goals
  have FR : Fr3 r4 rb (Value.slice p m k).ownBlock W (w30.setCell ⟨r4,4,none⟩ (.slice (some ⟨gg,0,none⟩) (m + 1) cap6)):=((((F16.drew).alloc (.cells #[.int .i64 a,.string (bstr nm),.slice zp lp.length zc,.bool tr,.bool sc,.slice bp bm bc,.int .i64 ek,.int .i64 eo,.int .i64 en,.string es,.slice ep el ec,.int .i64 ea] 65)).grow hgr9).set (.inl rfl) _ _)
  refine ⟨rfl,_,S30.out.set4 _,FR,fun t ht => ?_⟩
  have h:=own_fr hown9 ((Fr.refl (some r4) _).set (.inl rfl) 4 (.slice (some ⟨gg,0,none⟩) (m + 1) cap6)) hB.1
  have HI : Hi w6.heap.size w16 (w30.setCell ⟨r4,4,none⟩ (.slice (some ⟨gg,0,none⟩) (m + 1) cap6)):=by
   have h1 : Hi w6.heap.size w16 ((w16.drew).alloc (.cells #[.int .i64 a,.string (bstr nm),.slice zp lp.length zc,.bool tr,.bool sc,.slice bp bm bc,.int .i64 ek,.int .i64 eo,.int .i64 en,.string es,.slice ep el ec,.int .i64 ea] 65)):=(Hi.refl _ _).stay (((Below.refl _ _).drew).alloc (Nat.le_refl _) _)
   refine Hi.set ⟨Nat.le_trans h1.1 hgr9.size,fun g' hg' hl' => (hgr9.block g' (Nat.lt_of_lt_of_le hl' h1.1) (fun e => ?_)).trans (h1.2 g' hg' hl')⟩ (by omega) _ _
   have:=(HLT.out g' e.symm).2
   omega
  obtain ⟨t8,ht8⟩:=needQ_ok H9.out ht
  obtain ⟨t7,ht7⟩:=needQ_ok H8.out ht8
  obtain ⟨t6,ht6⟩:=exQ_ok H7.out ht7
  obtain ⟨t5,ht5⟩:=needQ_ok H6.out ht6
  have hx:=(XX'''.out t7 ht7).kept fun j hj hl => HI.2 j hj hl
  obtain ⟨rfl,rfl,rfl,rfl,rfl,rfl,hk⟩:=hx
  refine ⟨⟨.slice zp lp.length zc,.slice bp bm bc,.slice ep ex.ks.length ec⟩,h,?_,?_,?_⟩
  · exact (XP'''''''''.out.hi HI).low hlo
  · exact ((XB'''''.out t5 ht5).hi HI).lo hlo
  · exact hk.toP fun b hb _ => ⟨rfl,Nat.le_trans hlo hb⟩
theorem r4_limit8 {r4 rb g cap : Nat} {ws : List Wd} {d : Int} {p0 p1 p2 p3 : Value} {W : World} {σ : RS} (S : Hid (A4 W r4 rb g cap ws d p0 p1 p2 p3 σ)) (n : Nat) :
 Calls Try.prog 46 #[.pointer (some ⟨r4,0,none⟩),.int .i64 n,.int .i64 8] W fun e w' => e = .returned (.tuple #[]) ∧ A4 w' r4 rb g cap ws d p0 p1 p2 p3 (limF n 8 σ) ∧ Fr (some rb) W w':=r4_limit S n 8
theorem rth_lockNo {r4 rb g cap B k : Nat} {ws : List Wd} {d : Int} {p : Option Addr} {p0 p2 p3 : Value} {W : World} {σ τ2 τ3 : RS} {l : List Lk} {nm : List UInt8} {a : Nat} {x : Wd} {tt : List Wd} {c0 : Int} {b0 : Nat} (S : Hid (A4 W r4 rb g cap ws d p0 (.slice p l.length k) p2 p3 σ)) (hL : Hid (σ.is (⟨#[108,111,99,107]⟩ : ByteArray).data.toList = true)) (hlim : Hid (limF l.length 8 σ = .bad c0 b0)) :
 Calls Try.prog 25 #[.pointer (some ⟨r4,0,none⟩)] W fun e w' => e = .returned (.tuple #[]) ∧ A4 w' r4 rb g cap ws d p0 (.slice p l.length k) p2 p3 (.bad c0 b0) ∧ Fr (some rb) W w':=by
 go_enter Try.func25,Try.ntmps25
 go_wp2_with (first
  | (go_at_call 45;(with_reducible refine (r4_is S _ true hL).mono ?_);rintro e0 w0 ⟨rfl,hb0⟩;have S0:=hid (S.out.stay hb0);obtain ⟨m0,m1,m2,m3,m4,m5⟩:=S0.out.at4.cells;have ml0:=S0.out.at4.lt)
  | (go_at_call 46;(with_reducible refine (r4_limit8 S0 l.length).mono ?_);rintro e1 w1 ⟨rfl,hs1,hf1⟩;have S1 : Hid (A4 w1 r4 rb g cap ws d p0 (.slice p l.length k) p2 p3 (.bad c0 b0)):=hid (hlim.out ▸ hs1))
  | (go_at_call 23;(with_reducible refine (r4_ok S1 false rfl).mono ?_);rintro e2 w2 ⟨rfl,hb2⟩))
 go_end0
 exact ⟨rfl,S1.out.stay hb2,((Fr.of hb0).step hf1).stepB hb2⟩
theorem rth_lockYes {r4 rb g cap B k : Nat} {ws : List Wd} {d : Int} {p : Option Addr} {p0 p2 p3 : Value} {W : World} {σ τ2 τ3 : RS} {l : List Lk} {nm : List UInt8} {a : Nat} {x : Wd} {tt : List Wd} (S : Hid (A4 W r4 rb g cap ws d p0 (.slice p l.length k) p2 p3 σ)) (G : Hid (W.ownsRow B 95 2 (.slice p l.length k) l.length (l.flatMap lkCells))) (hB : r4 < B ∧ rb < B ∧ g < B ∧ B ≤ W.heap.size) (hl : l.length ≤ 1000000) (hL : Hid (σ.is (⟨#[108,111,99,107]⟩ : ByteArray).data.toList = true)) (hlim : Hid (limF l.length 8 σ = .ok (x :: tt))) (hx : x.k ≠ 3) (H2 : Hid (nameF (.ok tt) = ((nm,a),τ2))) (h59 : Hid (τ2.need (⟨#[59]⟩ : ByteArray).data.toList = τ3)) :
 Calls Try.prog 25 #[.pointer (some ⟨r4,0,none⟩)] W fun e w' => e = .returned (.tuple #[]) ∧ ∃ q,A4 w' r4 rb g cap ws d p0 q p2 p3 τ3 ∧ w'.ownsRow B 95 2 q (l.length + 1) ((l ++ [(⟨a,nm⟩ : Lk)]).flatMap lkCells) ∧ Fr3 r4 rb (Value.slice p l.length k).ownBlock W w':=by
 have hBW:=hB.2.2.2
 have HLT : Hid (∀ j,(Value.slice p l.length k).ownBlock = some j → B ≤ j ∧ j < W.heap.size):=hid G.out.lt
 obtain ⟨i0,hinf,hzi0,hzi1,hzi2⟩:=info_parts infoLk
 go_enter Try.func25,Try.ntmps25
 go_upto_region 6 with (first
  | (go_at_call 45;(with_reducible refine (r4_is S _ true hL).mono ?_);rintro e0 w0 ⟨rfl,hb0⟩;have S0:=hid (S.out.stay hb0);obtain ⟨m0,m1,m2,m3,m4,m5⟩:=S0.out.at4.cells;have ml0:=S0.out.at4.lt)
  | (go_at_call 46;(with_reducible refine (r4_limit8 S0 l.length).mono ?_);rintro e1 w1 ⟨rfl,hs1,hf1⟩;have S1 : Hid (A4 w1 r4 rb g cap ws d p0 (.slice p l.length k) p2 p3 (.ok (x :: tt))):=hid (hlim.out ▸ hs1))
  | (go_at_call 23;(with_reducible refine (r4_ok S1 true rfl).mono ?_);rintro e2 w2 ⟨rfl,hb2⟩;have S2:=hid (S1.out.stay hb2)))
 have F2 : Fr (some rb) W w2:=((Fr.of hb0).step hf1).stepB hb2
 obtain ⟨q4l,qbl,qgl⟩:=S2.out.blk
 obtain ⟨i,a9,R0,h5,_,_,_⟩:=S2.out.st.ok_cells S2.out.env
 obtain ⟨m0,_,_,_,_,_⟩:=S2.out.at4.cells
 obtain ⟨q0,q1,q2,q3,q4⟩:=R0.rd.cells
 have hlr:=R0.rd.lt
 have hfr:=R0.rd.frozen 1
 go_upto_region 7 with (fail)
 refine name_world ?_
 intro w3 hw3
 have F9 : Fr (some rb) w2 (w2.setCell ⟨rb,1,none⟩ (.int .i64 ((i : Int) + 1))):=(Fr.refl _ _).set (.inl rfl) _ _
 have S3 : Hid (A4 w3 r4 rb g cap ws d p0 (.slice p l.length k) p2 p3 (.ok tt)):=hid (by (rw [hw3];exact S2.out.fr F9 (st_adv S2.out.st R0 hx h5)))
 have F3 : Fr (some rb) W w3:=by (rw [hw3];exact F2.step F9)
 have hz3:=Fr.size F3
 clear hw3 m0 q0 q1 q2 q3 q4 R0 h5 F9 hlr hfr q4l qbl qgl
 obtain ⟨q4l,qbl,qgl⟩:=S3.out.blk
 have KB3:=KBlk.new (X:=w3) (a:=0) (nm:=⟨#[]⟩) rfl
 have S3':=hid (S3.out.alloc (.cells #[.int .i64 0,.string ⟨#[]⟩] 95))
 go_upto_region 9 with (go_at_call 47;(with_reducible refine (r4_name S3' H2.out).mono ?_);rintro e4 w4 ⟨rfl,hs4,hf4⟩;have hz4:=Fr.size hf4;(try simp only [World.size_alloc] at hz4))
 refine name_world ?_
 intro w5 hw5
 have KB5 : KBlk w5 w3.heap.size 0 ⟨#[]⟩:=by (rw [hw5];exact (KB3.fr hf4 (by omega)).alloc _)
 have TB5 : TBlk w5 w4.heap.size (bstr nm) a:=by (rw [hw5];exact TBlk.new rfl)
 have S5 : Hid (A4 w5 r4 rb g cap ws d p0 (.slice p l.length k) p2 p3 τ2):=hid (by (rw [hw5];exact hs4.alloc _))
 have F5 : Fr (some rb) W w5:=by (rw [hw5];exact ((F3.alloc _).step hf4).alloc _)
 have hz5 : w3.heap.size < w5.heap.size:=by (rw [hw5];simp;omega)
 obtain ⟨kl5,⟨kc0,kc1⟩,kf0,kf1⟩:=KB5.facts
 obtain ⟨tl5,tc0,tc1,tf0,tf1⟩:=TB5.facts
 clear hw5
 go_upto_region 11 with (fail)
 refine name_world ?_
 intro w6 hw6
 have KB6 : KBlk w6 w3.heap.size a (bstr nm):=by (rw [hw6];exact (KB5.set1 _).set0 _)
 have F6 : Fr (some rb) W w6:=by (rw [hw6];exact (F5.set (.inr (by omega)) _ _).set (.inr (by omega)) _ _)
 have S6 : Hid (A4 w6 r4 rb g cap ws d p0 (.slice p l.length k) p2 p3 τ2):=hid (by (rw [hw6];exact (S5.out.setO (by omega) (by omega) (by omega) _ _).setO (by omega) (by omega) (by omega) _ _))
 clear hw6 kc0 kc1 kf0 kf1 tc0 tc1 tf0 tf1
 go_upto_region 12 with (go_at_call 48;(with_reducible refine (r4_need S6 _ _ h59).mono ?_);rintro e8 w8 ⟨rfl,hs8,hf8⟩)
 have KB8:=KB6.fr hf8 (by omega)
 have F8 : Fr (some rb) W w8:=F6.step hf8
 have G8:=own_fr G.out F8 hB.2.1
 have hz8:=Fr.size F8
 obtain ⟨kl8,⟨kc0,kc1⟩,_⟩:=KB8.facts
 obtain ⟨m0,m1,m2,m3,m4,m5⟩:=hs8.at4.cells
 have ml:=hs8.at4.lt
 have mf:=hs8.at4.frozen 3
 have hown : ∀ k',k' < B → some k' ≠ (Value.slice p l.length k).ownBlock:=fun k' hk e => by (have:=(HLT.out k' e.symm).1;omega)
 go_region_law (refine step_append_lies _ (by rfl) _ _ _ (by rfl) B 95 i0 _ 2 24 Try.underlying25 hinf hzi0 hzi1 hzi2 rfl (by decide) (.slice p l.length k) l.length (l.flatMap lkCells) (by rfl) (own_below G8 (by (with_reducible repeat first | exact Below.refl _ _ | refine Below.alloc ?_ (by first | omega | (simp;omega)) _ | refine Below.drewN ?_ _ | refine Below.drew ?_ | refine Below.setCell ?_ (by first | omega | (simp;omega)) _ | refine Below.trans ?_ (by assumption)))) ⟨_,0,none⟩ 1 1 [.int .i64 a,.string (bstr nm)] (by rfl) (by rfl) (World.news_of_block (heap_alloc_new _ _)) raw2_one (by decide) (by unfold maxLen;omega) (by omega) (by simp;omega) _ rfl ?_;intro gg cap6 w9 hown9 hgrow9 hor9 hlt9;have hgr9 : World.grownBy _ w9 (Value.slice p l.length k).ownBlock:=hgrow9;have S9:=hid (((hs8.drew).alloc (.cells #[.int .i64 a,.string (bstr nm)] 95)).grow hgr9 (hown _ hB.1) (hown _ hB.2.1) (hown _ hB.2.2.1));obtain ⟨n0,n1,n2,n3,n4,n5⟩:=S9.out.at4.cells;have nl:=S9.out.at4.lt;have nf:=S9.out.at4.frozen 3)
 all_goals go_end0
 all_goals
  refine ⟨rfl,_,S9.out.set3 _,?_,?_⟩
  · have h:=own_fr hown9 ((Fr.refl (some r4) _).set (.inl rfl) 3 (.slice (some ⟨gg,0,none⟩) (l.length + 1) cap6)) hB.1
    simpa [lkCells] using h
  · exact Fr3.mk_ ((F8.drew).alloc (.cells #[.int .i64 a,.string (bstr nm)] 95)) hgr9 _ _
theorem below_dual {W a c : World} (h : Below W.heap.size W a) (k : Below a.heap.size a c) : Below W.heap.size W c :=
 ⟨k.os.trans h.os,k.tape.trans h.tape,k.output.trans h.output,Nat.le_trans h.size k.size,fun i hi => (k.block i (Nat.lt_of_lt_of_le hi h.size)).trans (h.block i hi)⟩
theorem rth_func {r4 rb g cap : Nat} {ws : List Wd} {d : Int} {p0 p1 p2 p3 : Value} {W : World} {σ : RS} {Q : World → World → Prop} (S : Hid (A4 W r4 rb g cap ws d p0 p1 p2 p3 σ)) (h1 : Hid (σ.is (⟨#[108,111,99,107]⟩ : ByteArray).data.toList = false)) (h2 : Hid (σ.is (⟨#[102,117,110,99]⟩ : ByteArray).data.toList = true))
 (HC : Hid (∀ W',Below W.heap.size W W' → Calls Try.prog 49 #[.pointer (some ⟨r4,0,none⟩)] W' fun e w' => e = .returned (.tuple #[]) ∧ Q W' w')) :
 Calls Try.prog 25 #[.pointer (some ⟨r4,0,none⟩)] W fun e w' => e = .returned (.tuple #[]) ∧ ∃ W',Below W.heap.size W W' ∧ Q W' w':=by
 go_enter Try.func25,Try.ntmps25
 go_wp2_with (first
  | (go_at_call 45;(with_reducible refine (r4_is S _ false h1).mono ?_);rintro e1 w1 ⟨rfl,hb1⟩;have S1:=hid (S.out.stay hb1))
  | (go_at_call 45;(with_reducible refine (r4_is S1 _ true h2).mono ?_);rintro e2 w2 ⟨rfl,hb2⟩;have S2:=hid (S1.out.stay hb2))
  | (go_at_call 49;(with_reducible refine (HC.out _ (below_dual hb1 hb2)).mono ?_);rintro e9 w9 ⟨rfl,hq⟩))
 first
  | (((try simp only [Exit.inBlock,Exit.then]);refine bodyPost_ret (results_none rfl _ _ _) rfl ?_);exact ⟨rfl,_,below_dual hb1 hb2,hq⟩)
  | (go_end0;exact ⟨rfl,_,below_dual hb1 hb2,hq⟩)
theorem r4_limit4 {r4 rb g cap : Nat} {ws : List Wd} {d : Int} {p0 p1 p2 p3 : Value} {W : World} {σ : RS} (S : Hid (A4 W r4 rb g cap ws d p0 p1 p2 p3 σ)) (n : Nat) :
 Calls Try.prog 46 #[.pointer (some ⟨r4,0,none⟩),.int .i64 n,.int .i64 4] W fun e w' => e = .returned (.tuple #[]) ∧ A4 w' r4 rb g cap ws d p0 p1 p2 p3 (limF n 4 σ) ∧ Fr (some rb) W w':=r4_limit S n 4
theorem infoTh : (Try.prog.info? 60).map (fun i => (i.zero,i.size,i.bytes)) = some (some (.slice none 0 0),1,24):=by kernel_rfl
theorem rth_thrNo {r4 rb g cap B k m n d : Nat} {ws : List Wd} {p : Option Addr} {p0 p1 p2 : Value} {W : World} {σ : RS} {c0 : Int} {b0 : Nat} (S : Hid (A4 W r4 rb g cap ws d p0 p1 p2 (.slice p m k) σ)) (h1 : Hid (σ.is (⟨#[108,111,99,107]⟩ : ByteArray).data.toList = false)) (h2 : Hid (σ.is (⟨#[102,117,110,99]⟩ : ByteArray).data.toList = false)) (h3 : Hid (σ.is (⟨#[116,104,114,101,97,100]⟩ : ByteArray).data.toList = true)) (hlim : Hid (limF m 4 σ = .bad c0 b0)) :
 Calls Try.prog 25 #[.pointer (some ⟨r4,0,none⟩)] W fun e w' => e = .returned (.tuple #[]) ∧ A4 w' r4 rb g cap ws d p0 p1 p2 (.slice p m k) (.bad c0 b0) ∧ Fr (some rb) W w':=by
 go_enter Try.func25,Try.ntmps25
 go_wp2_with (first
  | (go_at_call 45;(with_reducible refine (r4_is S _ false h1).mono ?_);rintro e1 w1 ⟨rfl,hb1⟩;have S1:=hid (S.out.stay hb1))
  | (go_at_call 45;(with_reducible refine (r4_is S1 _ false h2).mono ?_);rintro e2 w2 ⟨rfl,hb2⟩;have S2:=hid (S1.out.stay hb2))
  | (go_at_call 45;(with_reducible refine (r4_is S2 _ true h3).mono ?_);rintro e3 w3 ⟨rfl,hb3⟩;have S3:=hid (S2.out.stay hb3);obtain ⟨m0,m1,m2,m3,m4,m5⟩:=S3.out.at4.cells;have ml0:=S3.out.at4.lt)
  | (go_at_call 46;(with_reducible refine (r4_limit4 S3 m).mono ?_);rintro e4 w4 ⟨rfl,hs4,hf4⟩;have S4 : Hid (A4 w4 r4 rb g cap ws d p0 p1 p2 (.slice p m k) (.bad c0 b0)):=hid (hlim.out ▸ hs4))
  | (go_at_call 23;(with_reducible refine (r4_ok S4 false rfl).mono ?_);rintro e5 w5 ⟨rfl,hb5⟩))
 first
  | (((try simp only [Exit.inBlock,Exit.then]);refine bodyPost_ret (results_none rfl _ _ _) rfl ?_);exact ⟨rfl,S4.out.stay hb5,((((Fr.of hb1).stepB hb2).stepB hb3).step hf4).stepB hb5⟩)
  | (go_end0;exact ⟨rfl,S4.out.stay hb5,((((Fr.of hb1).stepB hb2).stepB hb3).step hf4).stepB hb5⟩)
theorem raw1_one {z : Option Addr} {y k : Nat} : ∀ u ∈ ([.slice z y k] : List Value),u.oneCell' = true:=by
 intro u hu
 simp at hu
 subst hu
 rfl
theorem rth_thrYes {r4 rb g cap B k m n d : Nat} {ws : List Wd} {p : Option Addr} {p0 p1 p2 : Value} {W : World} {σ : RS} {xs : List Value} {x : Wd} {tt : List Wd} {lb : List Stm} {τ2 : RS} (S : Hid (A4 W r4 rb g cap ws d p0 p1 p2 (.slice p m k) σ)) (G : Hid (W.ownsRow B 60 1 (.slice p m k) m xs)) (hB : r4 < B ∧ rb < B ∧ g < B ∧ B ≤ W.heap.size) (hl : m ≤ 1000000) (h1 : Hid (σ.is (⟨#[108,111,99,107]⟩ : ByteArray).data.toList = false)) (h2 : Hid (σ.is (⟨#[102,117,110,99]⟩ : ByteArray).data.toList = false)) (h3 : Hid (σ.is (⟨#[116,104,114,101,97,100]⟩ : ByteArray).data.toList = true)) (hlim : Hid (limF m 4 σ = .ok (x :: tt))) (hx : x.k ≠ 3) (H5 : Hid (blockF n d (.ok tt) = (lb,τ2))) (HB : Hid (GBlock r4 rb g ws n)) (hlen : 3 * (RS.ok tt).len + 2 ≤ n) (hd : d ≤ 32) :
 Calls Try.prog 25 #[.pointer (some ⟨r4,0,none⟩)] W fun e w' => e = .returned (.tuple #[]) ∧ ∃ q,A4 w' r4 rb g cap ws d p0 p1 p2 q τ2 ∧ Fr3 r4 rb (Value.slice p m k).ownBlock W w' ∧ ∀ t,τ2 = .ok t → ∃ v,w'.ownsRow B 60 1 q (m + 1) (xs ++ [v]) ∧ IsSts (fun b => W.heap.size ≤ b) w' lb v:=by
 have hBW:=hB.2.2.2
 have HLT : Hid (∀ j,(Value.slice p m k).ownBlock = some j → B ≤ j ∧ j < W.heap.size):=hid G.out.lt
 obtain ⟨i0,hinf,hzi0,hzi1,hzi2⟩:=info_parts infoTh
 go_enter Try.func25,Try.ntmps25
 go_upto_region 18 with (first
  | (go_at_call 45;(with_reducible refine (r4_is S _ false h1).mono ?_);rintro e1 w1 ⟨rfl,hb1⟩;have S1:=hid (S.out.stay hb1))
  | (go_at_call 45;(with_reducible refine (r4_is S1 _ false h2).mono ?_);rintro e2 w2 ⟨rfl,hb2⟩;have S2:=hid (S1.out.stay hb2))
  | (go_at_call 45;(with_reducible refine (r4_is S2 _ true h3).mono ?_);rintro e3 w3 ⟨rfl,hb3⟩;have S3:=hid (S2.out.stay hb3);obtain ⟨m0,m1,m2,m3,m4,m5⟩:=S3.out.at4.cells;have ml0:=S3.out.at4.lt)
  | (go_at_call 46;(with_reducible refine (r4_limit4 S3 m).mono ?_);rintro e4 w4 ⟨rfl,hs4,hf4⟩;have S4 : Hid (A4 w4 r4 rb g cap ws d p0 p1 p2 (.slice p m k) (.ok (x :: tt))):=hid (hlim.out ▸ hs4))
  | (go_at_call 23;(with_reducible refine (r4_ok S4 true rfl).mono ?_);rintro e5 w5 ⟨rfl,hb5⟩;have S5:=hid (S4.out.stay hb5)))
 have F5 : Fr (some rb) W w5:=((((Fr.of hb1).stepB hb2).stepB hb3).step hf4).stepB hb5
 clear m0 m1 m2 m3 m4 m5 ml0
 obtain ⟨q4l,qbl,qgl⟩:=S5.out.blk
 obtain ⟨i,a9,R0,h5,_,_,_⟩:=S5.out.st.ok_cells S5.out.env
 obtain ⟨m0,_,_,_,_,_⟩:=S5.out.at4.cells
 obtain ⟨q0,q1,q2,q3,q4⟩:=R0.rd.cells
 have hlr:=R0.rd.lt
 have hfr:=R0.rd.frozen 1
 go_upto_region 19 with (fail)
 refine name_world ?_
 intro w6 hw6
 have F9 : Fr (some rb) w5 (w5.setCell ⟨rb,1,none⟩ (.int .i64 ((i : Int) + 1))):=(Fr.refl _ _).set (.inl rfl) _ _
 have S6 : Hid (A4 w6 r4 rb g cap ws d p0 p1 p2 (.slice p m k) (.ok tt)):=hid (by (rw [hw6];exact S5.out.fr F9 (st_adv S5.out.st R0 hx h5)))
 have F6 : Fr (some rb) W w6:=by (rw [hw6];exact F5.step F9)
 have hz6:=Fr.size F6
 clear hw6 m0 q0 q1 q2 q3 q4 R0 h5 F9 hlr hfr q4l qbl qgl S1 S2 S3 S4 S5 F5 hs4 hf4 hb1 hb2 hb3 hb5
 have G6:=own_fr G.out F6 hB.2.1
 obtain ⟨m0,m1,m2,m3,m4,m5⟩:=S6.out.at4.cells
 have ml:=S6.out.at4.lt
 have mf:=S6.out.at4.frozen 5
 have S6D : Hid (A4 w6.drew r4 rb g cap ws d p0 p1 p2 (.slice p m k) (.ok tt)):=hid S6.out.drew
 have hown : ∀ k',k' < B → some k' ≠ (Value.slice p m k).ownBlock:=fun k' hk e => by (have:=(HLT.out k' e.symm).1;omega)
 go_region_law (first
  | (refine step_append_lies _ (by rfl) _ _ _ (by rfl) B 60 i0 _ 1 24 Try.underlying27 hinf hzi0 hzi1 hzi2 rfl (by decide) (.slice p m k) m xs (by rfl) (own_below G8 ((Below.refl _ _).alloc (Nat.le_refl _) _)) ⟨_,0,none⟩ 1 1 [.slice lp lm lc] (by rfl) (by rfl) (World.news_of_block (heap_alloc_new _ _)) raw1_one (by decide) (by unfold maxLen;omega) (by omega) (by simp;omega) _ rfl ?_;intro gg cap6 w9 hown9 hgrow9 hor9 hlt9;have hgr9 : World.grownBy _ w9 (Value.slice p m k).ownBlock:=hgrow9;have S9:=hid ((hs8.alloc (.cells #[.slice lp lm lc] 60)).grow hgr9 (hown _ hB.1) (hown _ hB.2.1) (hown _ hB.2.2.1));obtain ⟨k0,k1,k2,k3,k4,k5⟩:=S9.out.at4.cells;have kl:=S9.out.at4.lt;have kf:=S9.out.at4.frozen 5)
  | (go_simp;go_at_call 50;(with_reducible refine (HB.out.use S6D hlen hd _ H5.out).mono ?_);rintro e8 w8 ⟨⟨lp,lm,lc,rfl,hb8⟩,hs8,hf8⟩;have G8:=own_fr (W:=w6.drew) G6 hf8 hB.2.1;obtain ⟨n0,n1,n2,n3,n4,n5⟩:=hs8.at4.cells;have nl:=hs8.at4.lt;have nf:=hs8.at4.frozen 5;have hz8:=Fr.size hf8;(try simp only [World.size_drew] at hz8)))
 all_goals go_end0
 all_goals
  have F8 : Fr (some rb) W w8:=(show Fr (some rb) W w6.drew from F6.drew).step hf8
  have FR : Fr3 r4 rb (Value.slice p m k).ownBlock W (w9.setCell ⟨r4,5,none⟩ (.slice (some ⟨gg,0,none⟩) (m + 1) cap6)):=Fr3.mk_ (F8.alloc (.cells #[.slice lp lm lc] 60)) hgr9 _ _
  refine ⟨rfl,_,S9.out.set5 _,FR,fun t ht => ?_⟩
  have h:=own_fr hown9 ((Fr.refl (some r4) _).set (.inl rfl) 5 (.slice (some ⟨gg,0,none⟩) (m + 1) cap6)) hB.1
  have HI : Hi w6.heap.size w8 (w9.setCell ⟨r4,5,none⟩ (.slice (some ⟨gg,0,none⟩) (m + 1) cap6)):=by
   have h1 : Hi w6.heap.size w8 (w8.alloc (.cells #[.slice lp lm lc] 60)):=(Hi.refl _ _).stay ((Below.refl _ _).alloc (Nat.le_refl _) _)
   refine Hi.set ⟨Nat.le_trans h1.1 hgr9.size,fun g' hg' hl' => (hgr9.block g' (Nat.lt_of_lt_of_le hl' h1.1) (fun e => ?_)).trans (h1.2 g' hg' hl')⟩ (by omega) _ _
   have:=(HLT.out g' e.symm).2
   omega
  exact ⟨_,h,((((hb8 t ht).lo (lo':=w6.heap.size) (Nat.le_refl _)).hi HI).lo hz6)⟩
theorem limF_cases (n most : Nat) (x : Wd) (tt : List Wd) : limF n most (.ok (x :: tt)) = .ok (x :: tt) ∨ limF n most (.ok (x :: tt)) = .bad 2 x.a:=by
 unfold limF
 split
 · right;rfl
 · left;rfl
end Go.Proofs.Ytbmmjomcjlpnlaa
