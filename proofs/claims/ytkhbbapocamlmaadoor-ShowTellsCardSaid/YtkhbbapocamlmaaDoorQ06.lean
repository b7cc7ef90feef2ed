/- Joined texts: Rpar Gl Fn Wr Small Ln Sw Sb Sc Sd Pg Rfn: lemmas for the law; each says its own conditions. -/
import Derived.Test.YtkhbbapocamlmaaDoorQ05
import Derived.Test.YtkhbbapocamlmaaDoorQ02
set_option linter.unusedSimpArgs false
set_option linter.unusedVariables false
set_option maxRecDepth 100000
set_option maxHeartbeats 8000000
open Go.Lib (hid)
namespace Go.Proofs.YtkhbbapocamlmaaDoor
open Go Go.RowKit
theorem PRow.form {B : Nat} {W : World} {l : List Pm} {v : Value} (h : PRow B W l v) : ∃ p c,v = .slice p l.length c:=by
 rcases h.2 with ⟨h1,h2⟩ | ⟨g,cap,cur,h1,_⟩
 · exact ⟨none,0,by rw [h1,h2]⟩
 · exact ⟨_,_,h1⟩
theorem own_fr {T : TypeId} {k n B rb : Nat} {W X : World} {v : Value} {xs : List Value} (h : W.ownsRow B T k v n xs) (hf : Fr (some rb) W X) (hr : rb < B) : X.ownsRow B T k v n xs:=by
 refine h.kept (row:=some rb) hf ?_
 right
 intro e
 have:=h.lt _ e
 omega
theorem pars_bad (n k : Nat) (c : Int) (b : Nat) : parsF n k (.bad c b) = ([],.bad c b):=by
 cases n <;> simp [parsF,RS.good]
theorem Fr.trans_ {rb : Nat} {W X Y : World} (h : Fr (some rb) W X) (k : Fr (some rb) X Y) : Fr (some rb) W Y:=h.step k
theorem name_bad (c : Int) (b : Nat) : nameF (.bad c b) = (([],0),.bad c b):=rfl
theorem kind_bad (c : Int) (b : Nat) : kindF (.bad c b) = ((false,false),.bad c b):=rfl
def slen : Value → Nat | .slice _ l _ => l | _ => 0
theorem r4_limit6 {r4 rb g cap : Nat} {ws : List Wd} {d : Int} {p0 p1 p2 p3 : Value} {W : World} {σ : RS} (S : Hid (A4 W r4 rb g cap ws d p0 p1 p2 p3 σ)) (n : Nat) :
 Calls Tryd.prog 39 #[.pointer (some ⟨r4,0,none⟩),.int .i64 n,.int .i64 6] W fun e w' => e = .returned (.tuple #[]) ∧ A4 w' r4 rb g cap ws d p0 p1 p2 p3 (limF n 6 σ) ∧ Fr (some rb) W w':=r4_limit S n 6
theorem is_ok {σ : RS} {t : List UInt8} (h : σ.is t = true) : ∃ y r,σ = .ok (y :: r):=by
 cases σ with
 | bad c b => cases h
 | ok ts =>
  cases ts with
  | nil => cases h
  | cons y r => exact ⟨y,r,rfl⟩
theorem r4_parNone {r4 rb g cap : Nat} {ws : List Wd} {d : Int} {p0 p1 p2 p3 : Value} {W : World} {σ : RS} {x : Wd} {tt : List Wd} (S : Hid (A4 W r4 rb g cap ws d p0 p1 p2 p3 σ)) (hn : Hid (σ.need (⟨#[40]⟩ : ByteArray).data.toList = .ok (x :: tt))) (hb : Hid ((RS.ok (x :: tt)).is (⟨#[41]⟩ : ByteArray).data.toList = true)) :
 Calls Tryd.prog 59 #[.pointer (some ⟨r4,0,none⟩)] W fun e w' => e = .returned (.slice none 0 0) ∧ A4 w' r4 rb g cap ws d p0 p1 p2 p3 (.ok tt) ∧ Fr (some rb) W w':=by
 have hx3:=hid (RS.is_ne3 hb.out)
 go_enter Tryd.func59,Tryd.ntmps59
 go_wp2_with (first
  | (go_at_call 41;(with_reducible refine (r4_need S _ _ hn).mono ?_);rintro e1 w1 ⟨rfl,hs1,hf1⟩;have S1:=hid hs1)
  | (go_at_call 38;(with_reducible refine (r4_is S1 _ true hb).mono ?_);rintro e2 w2 ⟨rfl,hb2⟩;have S3:=hid (S1.out.stay hb2);obtain ⟨i,a,R0,h5,h6,h7,_⟩:=S3.out.st.ok_cells S3.out.env;obtain ⟨m0,_,_,_,_,_⟩:=S3.out.at4.cells;obtain ⟨q0,q1,q2,q3,q4⟩:=R0.rd.cells;have hl4:=S3.out.at4.lt;have hlr:=R0.rd.lt;have hfr:=R0.rd.frozen 1))
 go_ret
 have F9 : Fr (some rb) w2 (w2.setCell ⟨rb,1,none⟩ (.int .i64 ((i : Int) + 1))):=(Fr.refl _ _).set (.inl rfl) _ _
 exact ⟨rfl,S3.out.fr F9 (st_adv S3.out.st R0 hx3.out h5),(hf1.stepB hb2).step F9⟩
theorem r4_parSome {r4 rb g cap : Nat} {ws : List Wd} {d : Int} {p0 p1 p2 p3 : Value} {W : World} {σ τ : RS} (S : Hid (A4 W r4 rb g cap ws d p0 p1 p2 p3 σ)) (hn : Hid (σ.need (⟨#[40]⟩ : ByteArray).data.toList = τ)) (hb : Hid (τ.is (⟨#[41]⟩ : ByteArray).data.toList = false)) (R : List Pm × RS) (hR : Hid (parsF 8 0 τ = R)) (τ' : RS) (hτ : Hid (R.2.need (⟨#[41]⟩ : ByteArray).data.toList = τ')) :
 Calls Tryd.prog 59 #[.pointer (some ⟨r4,0,none⟩)] W fun e w' => (∃ p c,e = .returned (.slice p R.1.length c) ∧ PRow W.heap.size w' R.1 (.slice p R.1.length c)) ∧ A4 w' r4 rb g cap ws d p0 p1 p2 p3 τ' ∧ Fr (some rb) W w':=by
 obtain ⟨q4l,qbl,qgl⟩:=S.out.blk
 have hfew:=S.out.env.few
 obtain ⟨i0,hinf,hzi0,hzi1,hzi2⟩:=info_parts infoPm
 go_enter Tryd.func59,Tryd.ntmps59
 go_wp2_with (first
  | (go_at_call 41;(with_reducible refine (r4_need S _ _ hn).mono ?_);rintro e1 w1 ⟨rfl,hs1,hf1⟩;have S1:=hid hs1)
  | (go_at_call 38;(with_reducible refine (r4_is S1 _ false hb).mono ?_);rintro e2 w2 ⟨rfl,hb2⟩;have S3:=hid (S1.out.stay hb2)))
 have F2 : Fr (some rb) W w2:=hf1.stepB hb2
 go_loopw [3] (fun v0 wr => ∃ v acc σ' m,v = v0 ∧ A4 wr r4 rb g cap ws d p0 p1 p2 p3 σ' ∧ Fr (some rb) W wr ∧ PRow W.heap.size wr acc v ∧ R = (acc ++ (parsF m acc.length σ').1,(parsF m acc.length σ').2) ∧ acc.length + m = 8 ∧ acc.length ≤ 6) (fun v0 _ => 8 - slen v0)
 case atStart => exact ⟨_,[],τ,8,rfl,S3.out,F2,World.ownsRow_nil w2 W.heap.size _ 3,by simp [hR.out],rfl,by simp⟩
 case round =>
  obtain ⟨v,acc,σ',m,rfl,hS,hF,hG,hRR,hm,h6⟩:=hrel
  clear S1 S3 hs1 hf1 hb2 F2 hn hb hR
  have S1:=hid hS
  obtain ⟨m',rfl⟩ : ∃ m',m = m' + 1:=⟨m - 1,by omega⟩
  have hzr:=Fr.size hF
  cases σ' with
  | bad c b =>
   rw [pars_bad] at hRR
   simp only [List.append_nil] at hRR
   subst hRR
   obtain ⟨p,k,rfl⟩:=PRow.form hG
   have HG:=hid hG
   clear hS hG
   go_wp2_with (first
    | (go_at_call 17;(with_reducible refine (r4_ok S1 false rfl).mono ?_);rintro e1 w3 ⟨rfl,hb1⟩;have S2:=hid (S1.out.stay hb1))
    | (go_at_call 41;(with_reducible refine (r4_need S2 _ _ hτ).mono ?_);rintro e2 w4 ⟨rfl,hs2,hf2⟩))
   go_ret
   exact ⟨⟨p,k,rfl,own_fr (own_below HG.out hb1) hf2 qbl⟩,hs2,(hF.stepB hb1).step hf2⟩
  | ok ts =>
   obtain ⟨⟨⟨tr,sc⟩,τ1⟩,h1⟩ : ∃ q,kindF (limF acc.length 6 (.ok ts)) = q:=⟨_,rfl⟩
   obtain ⟨⟨⟨nm,a⟩,τ2⟩,h2⟩ : ∃ q,nameF τ1 = q:=⟨_,rfl⟩
   have HLT : Hid (∀ j,v.ownBlock = some j → W.heap.size ≤ j ∧ j < wr.heap.size):=hid hG.lt
   have hla : acc.length ≤ 1000000:=by omega
   cases hc : τ2.is [44] with
   | true =>
    have hRe : R = ((acc ++ [(⟨nm,tr,sc⟩ : Pm)]) ++ (parsF m' (acc.length + 1) τ2.adv).1,(parsF m' (acc.length + 1) τ2.adv).2):=by
     rw [hRR]
     simp [parsF,RS.good,h1,h2,hc]
    have h5 : acc.length ≤ 5:=by
     rcases Nat.lt_or_ge acc.length 6 with h | h
     · omega
     · exfalso
       obtain ⟨y,r,rfl⟩:=hS.st.2.1.ne
       simp only [limF,RS.fail,if_pos h] at h1
       rw [kind_bad] at h1
       cases h1
       rw [name_bad] at h2
       cases h2
       cases hc
    have HRE:=hid hRe
    have H5:=hid h5
    obtain ⟨p,k,rfl⟩:=PRow.form hG
    have HG:=hid hG
    have H1:=hid h1
    have H2:=hid h2
    have HC : Hid (τ2.is (⟨#[44]⟩ : ByteArray).data.toList = true):=hid hc
    clear hS hG hRR h1 h2 hc hRe h5
    go_upto_region 10 with (first
     | (go_at_call 17;(with_reducible refine (r4_ok S1 true rfl).mono ?_);rintro e1 w3 ⟨rfl,hb1⟩;have S2:=hid (S1.out.stay hb1))
     | (go_at_call 39;(with_reducible refine (r4_limit6 S2 acc.length).mono ?_);rintro e2 w4 ⟨rfl,hs4,hf4⟩;have hz4 : wr.heap.size ≤ w4.heap.size:=Nat.le_trans hb1.size (Fr.size hf4))
     | (go_at_call 60;(with_reducible refine (r4_kind (hid hs4) H1.out).mono ?_);rintro e3 w5 ⟨rfl,hs5,hf5⟩;have hz5:=Fr.size hf5;have PB5:=PBlk.new (X:=w5) (s:=⟨#[]⟩) (tr:=tr) (sc:=sc) rfl;have S5:=hid (hs5.alloc (.cells #[.string ⟨#[]⟩,.bool tr,.bool sc] 106)))
     | (go_at_call 40;(with_reducible refine (r4_name S5 H2.out).mono ?_);rintro e4 w6 ⟨rfl,hs6,hf6⟩;have hz6:=Fr.size hf6;(try simp only [World.size_alloc] at hz6)))
    refine name_world ?_
    intro w7 hw7
    have PB7 : PBlk w7 w5.heap.size ⟨#[]⟩ tr sc:=by (rw [hw7];exact (PB5.fr hf6 (by omega)).alloc _)
    have TB7 : TBlk w7 w6.heap.size (bstr nm) a:=by (rw [hw7];exact TBlk.new rfl)
    have S7 : Hid (A4 w7 r4 rb g cap ws d p0 p1 p2 p3 τ2):=hid (by (rw [hw7];exact hs6.alloc _))
    have F7 : Fr (some rb) wr w7:=by (rw [hw7];exact (((((Fr.of hb1).step hf4).step hf5).alloc _).step hf6).alloc _)
    have hz7 : w5.heap.size < w7.heap.size ∧ w7.heap.size = w6.heap.size + 1:=by (rw [hw7];simp;omega)
    obtain ⟨pl7,pc0,pc1,pc2,pf0,pf1,pf2⟩:=PB7.facts
    obtain ⟨tl7,tc0,tc1,tf0,tf1⟩:=TB7.facts
    clear hw7
    go_upto_region 11 with (fail)
    refine name_world ?_
    intro w8 hw8
    have PB8 : PBlk w8 w5.heap.size (bstr nm) tr sc:=by (rw [hw8];exact PB7.set0 _)
    have F8 : Fr (some rb) wr w8:=by (rw [hw8];exact F7.set (.inr (by omega)) _ _)
    have S8 : Hid (A4 w8 r4 rb g cap ws d p0 p1 p2 p3 τ2):=hid (by (rw [hw8];exact S7.out.setO (by omega) (by omega) (by omega) _ _))
    have hz8 : w8.heap.size = w7.heap.size:=by (rw [hw8];simp)
    have G8:=own_fr HG.out F8 qbl
    have hn9 : (w8.alloc (.cells #[.string (bstr nm),.bool tr,.bool sc] 106)).heap[w6.heap.size + 1]? = some (.cells #[.string (bstr nm),.bool tr,.bool sc] 106):=by
     have:=heap_alloc_new w8 (.cells #[.string (bstr nm),.bool tr,.bool sc] 106)
     rwa [hz8,hz7.2] at this
    obtain ⟨ul8,uc0,uc1,uc2,_⟩:=PB8.facts
    clear hw8 pc0 pc1 pc2 pf0 pf1 pf2 tc0 tc1 tf0 tf1
    have hown : ∀ k',k' < W.heap.size → some k' ≠ (Value.slice p acc.length k).ownBlock:=fun k' hk e => by (have:=(HLT.out k' e.symm).1;omega)
    go_wp2_with (first
     | (at_builtin;refine wpList_append_lies _ rfl (.tmp 34) (.tmp 36) 69 rfl W.heap.size 106 i0 _ 3 24 Tryd.underlying69 hinf hzi0 hzi1 hzi2 rfl (by decide) (.slice p acc.length k) acc.length (acc.flatMap pmCells) rfl (own_below G8 ((Below.refl _ _).alloc (Nat.le_refl _) _)) ⟨_,0,none⟩ 1 1 [.string (bstr nm),.bool tr,.bool sc] rfl rfl (World.news_of_block hn9) raw3_one (by decide) (by unfold maxLen;omega) (by omega) (by simp;omega) _ rfl ?_;intro g4 cap4 w9 hown9 hgrow9 hor9 hlt9;have hgr9 : (w8.alloc (.cells #[.string (bstr nm),.bool tr,.bool sc] 106)).grownBy w9 (Value.ownBlock (.slice p acc.length k)):=hgrow9;have S9:=hid ((S8.out.alloc (.cells #[.string (bstr nm),.bool tr,.bool sc] 106)).grow hgr9 (hown _ q4l) (hown _ qbl) (hown _ qgl));have F9 : Fr (some rb) W w9:=Fr.stepOwn (v:=(.slice p acc.length k)) ((Fr.trans_ hF F8).alloc _) hgr9 (fun j e => (HLT.out j e).1))
     | (go_at_call 38;(with_reducible refine (r4_is S9 _ true HC).mono ?_);rintro e7 w10 ⟨rfl,hb10⟩;have S10:=hid (S9.out.stay hb10);obtain ⟨y,r,hyr⟩:=is_ok (HC.out);have S11 : Hid (A4 w10 r4 rb g cap ws d p0 p1 p2 p3 (.ok (y :: r))):=hid (hyr ▸ S10.out);obtain ⟨i,a9,R0,h5,h6',h7,_⟩:=S11.out.st.ok_cells S11.out.env;obtain ⟨m0,_,_,_,_,_⟩:=S11.out.at4.cells;obtain ⟨q0,q1,q2,q3,q4⟩:=R0.rd.cells;have hl4:=S11.out.at4.lt;have hlr:=R0.rd.lt;have hfr:=R0.rd.frozen 1))
    have hx3 : y.k ≠ 3:=RS.is_ne3 (t:=[44]) (by (have:=HC.out;rw [hyr] at this;exact this))
    have F10 : Fr (some rb) w10 (w10.setCell ⟨rb,1,none⟩ (.int .i64 ((i : Int) + 1))):=(Fr.refl _ _).set (.inl rfl) _ _
    have SE:=S11.out.fr F10 (st_adv S11.out.st R0 hx3 h5)
    have hadv : τ2.adv = .ok r:=by (rw [hyr];rfl)
    have GE:=own_fr (own_below hown9 hb10) F10 qbl
    go_roundw
    case rel =>
     refine ⟨_,acc ++ [⟨nm,tr,sc⟩],.ok r,m',rfl,SE,(F9.stepB hb10).step F10,?_,?_,?_,?_⟩
     · simpa [PRow,pmCells] using GE
     · rw [HRE.out,hadv]
       simp
     · simp
       omega
     · have:=H5.out
       simp
       omega
    case measure =>
     have:=H5.out
     simp [slen]
     omega
   | false =>
    have hRe : R = (acc ++ [(⟨nm,tr,sc⟩ : Pm)],τ2):=by
     rw [hRR]
     simp [parsF,RS.good,h1,h2,hc]
    subst hRe
    obtain ⟨p,k,rfl⟩:=PRow.form hG
    have HG:=hid hG
    have H1:=hid h1
    have H2:=hid h2
    have HC : Hid (τ2.is (⟨#[44]⟩ : ByteArray).data.toList = false):=hid hc
    clear hS hG hRR h1 h2 hc
    go_upto_region 10 with (first
     | (go_at_call 17;(with_reducible refine (r4_ok S1 true rfl).mono ?_);rintro e1 w3 ⟨rfl,hb1⟩;have S2:=hid (S1.out.stay hb1))
     | (go_at_call 39;(with_reducible refine (r4_limit6 S2 acc.length).mono ?_);rintro e2 w4 ⟨rfl,hs4,hf4⟩;have hz4 : wr.heap.size ≤ w4.heap.size:=Nat.le_trans hb1.size (Fr.size hf4))
     | (go_at_call 60;(with_reducible refine (r4_kind (hid hs4) H1.out).mono ?_);rintro e3 w5 ⟨rfl,hs5,hf5⟩;have hz5:=Fr.size hf5;have PB5:=PBlk.new (X:=w5) (s:=⟨#[]⟩) (tr:=tr) (sc:=sc) rfl;have S5:=hid (hs5.alloc (.cells #[.string ⟨#[]⟩,.bool tr,.bool sc] 106)))
     | (go_at_call 40;(with_reducible refine (r4_name S5 H2.out).mono ?_);rintro e4 w6 ⟨rfl,hs6,hf6⟩;have hz6:=Fr.size hf6;(try simp only [World.size_alloc] at hz6)))
    refine name_world ?_
    intro w7 hw7
    have PB7 : PBlk w7 w5.heap.size ⟨#[]⟩ tr sc:=by (rw [hw7];exact (PB5.fr hf6 (by omega)).alloc _)
    have TB7 : TBlk w7 w6.heap.size (bstr nm) a:=by (rw [hw7];exact TBlk.new rfl)
    have S7 : Hid (A4 w7 r4 rb g cap ws d p0 p1 p2 p3 τ2):=hid (by (rw [hw7];exact hs6.alloc _))
    have F7 : Fr (some rb) wr w7:=by (rw [hw7];exact (((((Fr.of hb1).step hf4).step hf5).alloc _).step hf6).alloc _)
    have hz7 : w5.heap.size < w7.heap.size ∧ w7.heap.size = w6.heap.size + 1:=by (rw [hw7];simp;omega)
    obtain ⟨pl7,pc0,pc1,pc2,pf0,pf1,pf2⟩:=PB7.facts
    obtain ⟨tl7,tc0,tc1,tf0,tf1⟩:=TB7.facts
    clear hw7
    go_upto_region 11 with (fail)
    refine name_world ?_
    intro w8 hw8
    have PB8 : PBlk w8 w5.heap.size (bstr nm) tr sc:=by (rw [hw8];exact PB7.set0 _)
    have F8 : Fr (some rb) wr w8:=by (rw [hw8];exact F7.set (.inr (by omega)) _ _)
    have S8 : Hid (A4 w8 r4 rb g cap ws d p0 p1 p2 p3 τ2):=hid (by (rw [hw8];exact S7.out.setO (by omega) (by omega) (by omega) _ _))
    have hz8 : w8.heap.size = w7.heap.size:=by (rw [hw8];simp)
    have G8:=own_fr HG.out F8 qbl
    have hn9 : (w8.alloc (.cells #[.string (bstr nm),.bool tr,.bool sc] 106)).heap[w6.heap.size + 1]? = some (.cells #[.string (bstr nm),.bool tr,.bool sc] 106):=by
     have:=heap_alloc_new w8 (.cells #[.string (bstr nm),.bool tr,.bool sc] 106)
     rwa [hz8,hz7.2] at this
    obtain ⟨ul8,uc0,uc1,uc2,_⟩:=PB8.facts
    clear hw8 pc0 pc1 pc2 pf0 pf1 pf2 tc0 tc1 tf0 tf1
    have hown : ∀ k',k' < W.heap.size → some k' ≠ (Value.slice p acc.length k).ownBlock:=fun k' hk e => by (have:=(HLT.out k' e.symm).1;omega)
    go_wp2_with (first
     | (at_builtin;refine wpList_append_lies _ rfl (.tmp 34) (.tmp 36) 69 rfl W.heap.size 106 i0 _ 3 24 Tryd.underlying69 hinf hzi0 hzi1 hzi2 rfl (by decide) (.slice p acc.length k) acc.length (acc.flatMap pmCells) rfl (own_below G8 ((Below.refl _ _).alloc (Nat.le_refl _) _)) ⟨_,0,none⟩ 1 1 [.string (bstr nm),.bool tr,.bool sc] rfl rfl (World.news_of_block hn9) raw3_one (by decide) (by unfold maxLen;omega) (by omega) (by simp;omega) _ rfl ?_;intro g4 cap4 w9 hown9 hgrow9 hor9 hlt9;have hgr9 : (w8.alloc (.cells #[.string (bstr nm),.bool tr,.bool sc] 106)).grownBy w9 (Value.ownBlock (.slice p acc.length k)):=hgrow9;have S9:=hid ((S8.out.alloc (.cells #[.string (bstr nm),.bool tr,.bool sc] 106)).grow hgr9 (hown _ q4l) (hown _ qbl) (hown _ qgl));have F9 : Fr (some rb) W w9:=Fr.stepOwn (v:=(.slice p acc.length k)) ((Fr.trans_ hF F8).alloc _) hgr9 (fun j e => (HLT.out j e).1))
     | (go_at_call 38;(with_reducible refine (r4_is S9 _ false HC).mono ?_);rintro e7 w10 ⟨rfl,hb10⟩;have S10:=hid (S9.out.stay hb10))
     | (go_at_call 41;(with_reducible refine (r4_need S10 _ _ hτ).mono ?_);rintro e8 w11 ⟨rfl,hs11,hf11⟩))
    go_ret
    refine ⟨⟨some ⟨g4,0,none⟩,cap4,by simp,?_⟩,hs11,(F9.stepB hb10).step hf11⟩
    have h:=own_fr (own_below hown9 hb10) hf11 qbl
    simpa [PRow,pmCells] using h
theorem r4_params {r4 rb g cap : Nat} {ws : List Wd} {d : Int} {p0 p1 p2 p3 : Value} {W : World} {σ : RS} (S : Hid (A4 W r4 rb g cap ws d p0 p1 p2 p3 σ)) :
 Calls Tryd.prog 59 #[.pointer (some ⟨r4,0,none⟩)] W fun e w' => (∃ p c,e = .returned (.slice p (paramsF σ).1.length c) ∧ IsPl (fun g => W.heap.size ≤ g) 106 3 pmCells w' (paramsF σ).1 (.slice p (paramsF σ).1.length c)) ∧ A4 w' r4 rb g cap ws d p0 p1 p2 p3 (paramsF σ).2 ∧ Fr (some rb) W w':=by
 obtain ⟨τ,hτ⟩ : ∃ τ,σ.need [40] = τ:=⟨_,rfl⟩
 cases hb : τ.is [41] with
 | true =>
  obtain ⟨x,tt,rfl⟩:=is_ok hb
  have e : paramsF σ = ([],.ok tt):=by simp [paramsF,hτ,hb,RS.adv]
  rw [e]
  exact (r4_parNone S (hid hτ) (hid hb)).mono fun e w' ⟨h1,h2,h3⟩ => ⟨⟨none,0,h1,.nil _ _⟩,h2,h3⟩
 | false =>
  have e : paramsF σ = ((parsF 8 0 τ).1,(parsF 8 0 τ).2.need [41]):=by simp [paramsF,hτ,hb]
  rw [e]
  exact (r4_parSome S (hid hτ) (hid hb) _ (hid rfl) _ (hid rfl)).mono fun e w' ⟨⟨p,c,h1,h2⟩,h3,h4⟩ => ⟨⟨p,c,h1,.own (fun _ => rfl) h2⟩,h3,h4⟩
end Go.Proofs.YtkhbbapocamlmaaDoor
namespace Go.Proofs.YtkhbbapocamlmaaDoor
open Go Go.RowKit
def GBlk (X : World) (n : Nat) (a : Int) (nm : ByteArray) (tr sc : Bool) (ln : Int) (yy : ByteArray) : Prop:=X.heap[n]? = some (.cells #[.int .i64 a,.string nm,.bool tr,.bool sc,.int .i64 ln,.string yy] 39 (0,0))
section
variable {X Y : World} {n : Nat} {a : Int} {nm : ByteArray} {tr sc : Bool} {ln : Int} {yy : ByteArray}
theorem GBlk.facts (h : GBlk X n a nm tr sc ln yy) : n < X.heap.size ∧ (X.cell? ⟨n,0,none⟩ = some (.int .i64 a) ∧ X.cell? ⟨n,1,none⟩ = some (.string nm) ∧ X.cell? ⟨n,2,none⟩ = some (.bool tr) ∧ X.cell? ⟨n,3,none⟩ = some (.bool sc) ∧ X.cell? ⟨n,4,none⟩ = some (.int .i64 ln) ∧ X.cell? ⟨n,5,none⟩ = some (.string yy)) ∧ (X.frozen? ⟨n,0,none⟩ = false ∧ X.frozen? ⟨n,1,none⟩ = false ∧ X.frozen? ⟨n,2,none⟩ = false ∧ X.frozen? ⟨n,3,none⟩ = false ∧ X.frozen? ⟨n,4,none⟩ = false ∧ X.frozen? ⟨n,5,none⟩ = false):=by
 refine ⟨(Array.getElem?_eq_some_iff.1 h).1,⟨?_,?_,?_,?_,?_,?_⟩,⟨frozen_of_row X n _ _ _ h,frozen_of_row X n _ _ _ h,frozen_of_row X n _ _ _ h,frozen_of_row X n _ _ _ h,frozen_of_row X n _ _ _ h,frozen_of_row X n _ _ _ h⟩⟩ <;> rw [cell_of_row _ _ _ _ _ _ h] <;> rfl
theorem GBlk.alloc (h : GBlk X n a nm tr sc ln yy) (o : Obj) : GBlk (X.alloc o) n a nm tr sc ln yy:=(Below.heap_alloc X o n (Array.getElem?_eq_some_iff.1 h).1).trans h
theorem GBlk.stay (h : GBlk X n a nm tr sc ln yy) (hf : Below X.heap.size X Y) : GBlk Y n a nm tr sc ln yy:=(hf.block n (Array.getElem?_eq_some_iff.1 h).1).trans h
theorem GBlk.fr {rb : Nat} (h : GBlk X n a nm tr sc ln yy) (hf : Fr (some rb) X Y) (hne : n ≠ rb) : GBlk Y n a nm tr sc ln yy:=(hf.block (Array.getElem?_eq_some_iff.1 h).1 (by simp;exact hne)).trans h
theorem GBlk.setO (h : GBlk X n a nm tr sc ln yy) {b : Nat} (hne : n ≠ b) (o : Nat) (v : Value) : GBlk (X.setCell ⟨b,o,none⟩ v) n a nm tr sc ln yy:=(heap_setCell_other X ⟨b,o,none⟩ n v hne).trans h
theorem GBlk.set0 (h : GBlk X n a nm tr sc ln yy) (v : Int) : GBlk (X.setCell ⟨n,0,none⟩ (.int .i64 v)) n v nm tr sc ln yy:=heap_setCell_same X n 0 _ _ _ h
theorem GBlk.set1 (h : GBlk X n a nm tr sc ln yy) (v : ByteArray) : GBlk (X.setCell ⟨n,1,none⟩ (.string v)) n a v tr sc ln yy:=heap_setCell_same X n 1 _ _ _ h
theorem GBlk.set2 (h : GBlk X n a nm tr sc ln yy) (v : Bool) : GBlk (X.setCell ⟨n,2,none⟩ (.bool v)) n a nm v sc ln yy:=heap_setCell_same X n 2 _ _ _ h
theorem GBlk.set3 (h : GBlk X n a nm tr sc ln yy) (v : Bool) : GBlk (X.setCell ⟨n,3,none⟩ (.bool v)) n a nm tr v ln yy:=heap_setCell_same X n 3 _ _ _ h
theorem GBlk.set4 (h : GBlk X n a nm tr sc ln yy) (v : Int) : GBlk (X.setCell ⟨n,4,none⟩ (.int .i64 v)) n a nm tr sc v yy:=heap_setCell_same X n 4 _ _ _ h
theorem GBlk.set5 (h : GBlk X n a nm tr sc ln yy) (v : ByteArray) : GBlk (X.setCell ⟨n,5,none⟩ (.string v)) n a nm tr sc ln v:=heap_setCell_same X n 5 _ _ _ h
theorem GBlk.new (hn : n = X.heap.size) : GBlk (X.alloc (.cells #[.int .i64 a,.string nm,.bool tr,.bool sc,.int .i64 ln,.string yy] 39)) n a nm tr sc ln yy:=hn ▸ heap_alloc_new X _
end
def KBlk (X : World) (n : Nat) (a : Int) (nm : ByteArray) : Prop:=X.heap[n]? = some (.cells #[.int .i64 a,.string nm] 66 (0,0))
section
variable {X Y : World} {n : Nat} {a : Int} {nm : ByteArray}
theorem KBlk.facts (h : KBlk X n a nm) : n < X.heap.size ∧ (X.cell? ⟨n,0,none⟩ = some (.int .i64 a) ∧ X.cell? ⟨n,1,none⟩ = some (.string nm)) ∧ (X.frozen? ⟨n,0,none⟩ = false ∧ X.frozen? ⟨n,1,none⟩ = false):=by
 refine ⟨(Array.getElem?_eq_some_iff.1 h).1,⟨?_,?_⟩,⟨frozen_of_row X n _ _ _ h,frozen_of_row X n _ _ _ h⟩⟩ <;> rw [cell_of_row _ _ _ _ _ _ h] <;> rfl
theorem KBlk.alloc (h : KBlk X n a nm) (o : Obj) : KBlk (X.alloc o) n a nm:=(Below.heap_alloc X o n (Array.getElem?_eq_some_iff.1 h).1).trans h
theorem KBlk.stay (h : KBlk X n a nm) (hf : Below X.heap.size X Y) : KBlk Y n a nm:=(hf.block n (Array.getElem?_eq_some_iff.1 h).1).trans h
theorem KBlk.fr {rb : Nat} (h : KBlk X n a nm) (hf : Fr (some rb) X Y) (hne : n ≠ rb) : KBlk Y n a nm:=(hf.block (Array.getElem?_eq_some_iff.1 h).1 (by simp;exact hne)).trans h
theorem KBlk.setO (h : KBlk X n a nm) {b : Nat} (hne : n ≠ b) (o : Nat) (v : Value) : KBlk (X.setCell ⟨b,o,none⟩ v) n a nm:=(heap_setCell_other X ⟨b,o,none⟩ n v hne).trans h
theorem KBlk.set0 (h : KBlk X n a nm) (v : Int) : KBlk (X.setCell ⟨n,0,none⟩ (.int .i64 v)) n v nm:=heap_setCell_same X n 0 _ _ _ h
theorem KBlk.set1 (h : KBlk X n a nm) (v : ByteArray) : KBlk (X.setCell ⟨n,1,none⟩ (.string v)) n a v:=heap_setCell_same X n 1 _ _ _ h
theorem KBlk.new (hn : n = X.heap.size) : KBlk (X.alloc (.cells #[.int .i64 a,.string nm] 66)) n a nm:=hn ▸ heap_alloc_new X _
end
def glCells (x : Gl) : List Value:=[.int .i64 x.a,.string (bstr x.nm),.bool x.tr,.bool x.sc,.int .i64 x.len,.string (bstr x.by_)]
def lkCells (x : Lk) : List Value:=[.int .i64 x.a,.string (bstr x.nm)]
theorem infoGl : (Tryd.prog.info? 39).map (fun i => (i.zero,i.size,i.bytes)) = some (some (.agg #[.int .i64 0,.string ⟨#[]⟩,.bool false,.bool false,.int .i64 0,.string ⟨#[]⟩]),6,56):=by kernel_rfl
theorem infoLk : (Tryd.prog.info? 66).map (fun i => (i.zero,i.size,i.bytes)) = some (some (.agg #[.int .i64 0,.string ⟨#[]⟩]),2,24):=by kernel_rfl
theorem raw6_one {a ln : Int} {nm yy : ByteArray} {tr sc : Bool} : ∀ u ∈ ([.int .i64 a,.string nm,.bool tr,.bool sc,.int .i64 ln,.string yy] : List Value),u.oneCell' = true:=by
 intro u hu
 simp at hu
 rcases hu with rfl | rfl | rfl | rfl | rfl | rfl <;> rfl
theorem raw2_one {a : Int} {nm : ByteArray} : ∀ u ∈ ([.int .i64 a,.string nm] : List Value),u.oneCell' = true:=by
 intro u hu
 simp at hu
 rcases hu with rfl | rfl <;> rfl
def Fr3 (r4 rb : Nat) (row : Option Nat) (W X : World) : Prop:=(W.heap.size ≤ X.heap.size ∧ X.os = W.os ∧ X.tape = W.tape ∧ X.output = W.output) ∧ ∀ b,b < W.heap.size → b ≠ r4 → b ≠ rb → some b ≠ row → X.heap[b]? = W.heap[b]?
theorem Fr.grown_ {rb : Nat} {W X : World} (hf : Fr (some rb) W X) : World.grownBy W X (some rb):=hf
theorem setCell_else (W : World) (a : Addr) (v : Value) : (W.setCell a v).os = W.os ∧ (W.setCell a v).tape = W.tape ∧ (W.setCell a v).output = W.output:=⟨rfl,rfl,rfl⟩
theorem Fr3.mk_ {r4 rb : Nat} {row : Option Nat} {W X Y : World} (hf : Fr (some rb) W X) (hg : X.grownBy Y row) (o : Nat) (v : Value) : Fr3 r4 rb row W (Y.setCell ⟨r4,o,none⟩ v):=by
 have h1:=Fr.size hf
 have h2:=hg.size
 obtain ⟨e1,e2,e3⟩:=setCell_else Y ⟨r4,o,none⟩ v
 have hf':=Fr.grown_ hf
 refine ⟨⟨by simp;omega,e1.trans (hg.os.trans hf'.os),e2.trans (hg.tape.trans hf'.tape),e3.trans (hg.output.trans hf'.output)⟩,fun b hb h4 hr hrow => ?_⟩
 rw [heap_setCell_other Y ⟨r4,o,none⟩ b v h4,hg.block b (by omega) hrow]
 exact hf.block hb (by simp;exact hr)
theorem R4At.set2 {W : World} {r4 rb : Nat} {d : Int} {p0 p1 p2 p3 : Value} (h : R4At W r4 rb d p0 p1 p2 p3) (v : Value) : R4At (W.setCell ⟨r4,2,none⟩ v) r4 rb d v p1 p2 p3:=heap_setCell_same W r4 2 _ _ _ h
theorem R4At.set3 {W : World} {r4 rb : Nat} {d : Int} {p0 p1 p2 p3 : Value} (h : R4At W r4 rb d p0 p1 p2 p3) (v : Value) : R4At (W.setCell ⟨r4,3,none⟩ v) r4 rb d p0 v p2 p3:=heap_setCell_same W r4 3 _ _ _ h
theorem R4At.set4 {W : World} {r4 rb : Nat} {d : Int} {p0 p1 p2 p3 : Value} (h : R4At W r4 rb d p0 p1 p2 p3) (v : Value) : R4At (W.setCell ⟨r4,4,none⟩ v) r4 rb d p0 p1 v p3:=heap_setCell_same W r4 4 _ _ _ h
theorem R4At.set5 {W : World} {r4 rb : Nat} {d : Int} {p0 p1 p2 p3 : Value} (h : R4At W r4 rb d p0 p1 p2 p3) (v : Value) : R4At (W.setCell ⟨r4,5,none⟩ v) r4 rb d p0 p1 p2 v:=heap_setCell_same W r4 5 _ _ _ h
section
variable {W : World} {r4 rb g cap : Nat} {ws : List Wd} {d : Int} {p0 p1 p2 p3 : Value} {σ : RS}
theorem A4.set2 (S : A4 W r4 rb g cap ws d p0 p1 p2 p3 σ) (v : Value) : A4 (W.setCell ⟨r4,2,none⟩ v) r4 rb g cap ws d v p1 p2 p3 σ:=⟨S.at4.set2 v,S.st.setO (Ne.symm S.ne) _ _,S.env.setO (Ne.symm S.ng) _ _,S.ne,S.ng⟩
theorem A4.set3 (S : A4 W r4 rb g cap ws d p0 p1 p2 p3 σ) (v : Value) : A4 (W.setCell ⟨r4,3,none⟩ v) r4 rb g cap ws d p0 v p2 p3 σ:=⟨S.at4.set3 v,S.st.setO (Ne.symm S.ne) _ _,S.env.setO (Ne.symm S.ng) _ _,S.ne,S.ng⟩
theorem A4.set4 (S : A4 W r4 rb g cap ws d p0 p1 p2 p3 σ) (v : Value) : A4 (W.setCell ⟨r4,4,none⟩ v) r4 rb g cap ws d p0 p1 v p3 σ:=⟨S.at4.set4 v,S.st.setO (Ne.symm S.ne) _ _,S.env.setO (Ne.symm S.ng) _ _,S.ne,S.ng⟩
theorem A4.set5 (S : A4 W r4 rb g cap ws d p0 p1 p2 p3 σ) (v : Value) : A4 (W.setCell ⟨r4,5,none⟩ v) r4 rb g cap ws d p0 p1 p2 v σ:=⟨S.at4.set5 v,S.st.setO (Ne.symm S.ne) _ _,S.env.setO (Ne.symm S.ng) _ _,S.ne,S.ng⟩
end
end Go.Proofs.YtkhbbapocamlmaaDoor
namespace Go.Proofs.YtkhbbapocamlmaaDoor
open Go Go.RowKit
theorem infoFn : (Tryd.prog.info? 73).map (fun i => (i.zero,i.size,i.bytes)) = some (some (.agg #[.int .i64 0,.string ⟨#[]⟩,.slice none 0 0,.bool false,.bool false,.slice none 0 0,.int .i64 0,.int .i64 0,.int .i64 0,.string ⟨#[]⟩,.slice none 0 0,.int .i64 0]),12,152):=by kernel_rfl
def FBlk (X : World) (b : Nat) (a : Int) (nm : ByteArray) (pv : Value) (tr : Bool) (sc : Bool) (bv : Value) (k : Int) (q : Int) (n : Int) (s : ByteArray) (kv : Value) (xa : Int) : Prop:=X.heap[b]? = some (.cells #[.int .i64 a,.string nm,pv,.bool tr,.bool sc,bv,.int .i64 k,.int .i64 q,.int .i64 n,.string s,kv,.int .i64 xa] 73 (0,0))
section
variable {X Y : World} {b : Nat} {a : Int} {nm : ByteArray} {pv : Value} {tr : Bool} {sc : Bool} {bv : Value} {k : Int} {q : Int} {n : Int} {s : ByteArray} {kv : Value} {xa : Int}
theorem FBlk.facts (h : FBlk X b a nm pv tr sc bv k q n s kv xa) : b < X.heap.size ∧ (X.cell? ⟨b,0,none⟩ = some (.int .i64 a) ∧ X.cell? ⟨b,1,none⟩ = some (.string nm) ∧ X.cell? ⟨b,2,none⟩ = some (pv) ∧ X.cell? ⟨b,3,none⟩ = some (.bool tr) ∧ X.cell? ⟨b,4,none⟩ = some (.bool sc) ∧ X.cell? ⟨b,5,none⟩ = some (bv) ∧ X.cell? ⟨b,6,none⟩ = some (.int .i64 k) ∧ X.cell? ⟨b,7,none⟩ = some (.int .i64 q) ∧ X.cell? ⟨b,8,none⟩ = some (.int .i64 n) ∧ X.cell? ⟨b,9,none⟩ = some (.string s) ∧ X.cell? ⟨b,10,none⟩ = some (kv) ∧ X.cell? ⟨b,11,none⟩ = some (.int .i64 xa)) ∧ (X.frozen? ⟨b,0,none⟩ = false ∧ X.frozen? ⟨b,1,none⟩ = false ∧ X.frozen? ⟨b,2,none⟩ = false ∧ X.frozen? ⟨b,3,none⟩ = false ∧ X.frozen? ⟨b,4,none⟩ = false ∧ X.frozen? ⟨b,5,none⟩ = false ∧ X.frozen? ⟨b,6,none⟩ = false ∧ X.frozen? ⟨b,7,none⟩ = false ∧ X.frozen? ⟨b,8,none⟩ = false ∧ X.frozen? ⟨b,9,none⟩ = false ∧ X.frozen? ⟨b,10,none⟩ = false ∧ X.frozen? ⟨b,11,none⟩ = false):=by
 refine ⟨(Array.getElem?_eq_some_iff.1 h).1,⟨?_,?_,?_,?_,?_,?_,?_,?_,?_,?_,?_,?_⟩,frozen_of_row X b _ _ _ h,frozen_of_row X b _ _ _ h,frozen_of_row X b _ _ _ h,frozen_of_row X b _ _ _ h,frozen_of_row X b _ _ _ h,frozen_of_row X b _ _ _ h,frozen_of_row X b _ _ _ h,frozen_of_row X b _ _ _ h,frozen_of_row X b _ _ _ h,frozen_of_row X b _ _ _ h,frozen_of_row X b _ _ _ h,frozen_of_row X b _ _ _ h⟩ <;> rw [cell_of_row _ _ _ _ _ _ h] <;> rfl
theorem FBlk.alloc (h : FBlk X b a nm pv tr sc bv k q n s kv xa) (o : Obj) : FBlk (X.alloc o) b a nm pv tr sc bv k q n s kv xa:=(Below.heap_alloc X o b (Array.getElem?_eq_some_iff.1 h).1).trans h
theorem FBlk.fr {rb : Nat} (h : FBlk X b a nm pv tr sc bv k q n s kv xa) (hf : Fr (some rb) X Y) (hne : b ≠ rb) : FBlk Y b a nm pv tr sc bv k q n s kv xa:=(hf.block (Array.getElem?_eq_some_iff.1 h).1 (by simp;exact hne)).trans h
theorem FBlk.setO (h : FBlk X b a nm pv tr sc bv k q n s kv xa) {c : Nat} (hne : b ≠ c) (o : Nat) (v : Value) : FBlk (X.setCell ⟨c,o,none⟩ v) b a nm pv tr sc bv k q n s kv xa:=(heap_setCell_other X ⟨c,o,none⟩ b v hne).trans h
theorem FBlk.set0 (h : FBlk X b a nm pv tr sc bv k q n s kv xa) (v : Int) : FBlk (X.setCell ⟨b,0,none⟩ (.int .i64 v)) b v nm pv tr sc bv k q n s kv xa:=heap_setCell_same X b 0 _ _ _ h
theorem FBlk.set1 (h : FBlk X b a nm pv tr sc bv k q n s kv xa) (v : ByteArray) : FBlk (X.setCell ⟨b,1,none⟩ (.string v)) b a v pv tr sc bv k q n s kv xa:=heap_setCell_same X b 1 _ _ _ h
theorem FBlk.set2 (h : FBlk X b a nm pv tr sc bv k q n s kv xa) (v : Value) : FBlk (X.setCell ⟨b,2,none⟩ v) b a nm v tr sc bv k q n s kv xa:=heap_setCell_same X b 2 _ _ _ h
theorem FBlk.set3 (h : FBlk X b a nm pv tr sc bv k q n s kv xa) (v : Bool) : FBlk (X.setCell ⟨b,3,none⟩ (.bool v)) b a nm pv v sc bv k q n s kv xa:=heap_setCell_same X b 3 _ _ _ h
theorem FBlk.set4 (h : FBlk X b a nm pv tr sc bv k q n s kv xa) (v : Bool) : FBlk (X.setCell ⟨b,4,none⟩ (.bool v)) b a nm pv tr v bv k q n s kv xa:=heap_setCell_same X b 4 _ _ _ h
theorem FBlk.set5 (h : FBlk X b a nm pv tr sc bv k q n s kv xa) (v : Value) : FBlk (X.setCell ⟨b,5,none⟩ v) b a nm pv tr sc v k q n s kv xa:=heap_setCell_same X b 5 _ _ _ h
theorem FBlk.set6 (h : FBlk X b a nm pv tr sc bv k q n s kv xa) (v : Int) : FBlk (X.setCell ⟨b,6,none⟩ (.int .i64 v)) b a nm pv tr sc bv v q n s kv xa:=heap_setCell_same X b 6 _ _ _ h
theorem FBlk.set7 (h : FBlk X b a nm pv tr sc bv k q n s kv xa) (v : Int) : FBlk (X.setCell ⟨b,7,none⟩ (.int .i64 v)) b a nm pv tr sc bv k v n s kv xa:=heap_setCell_same X b 7 _ _ _ h
theorem FBlk.set8 (h : FBlk X b a nm pv tr sc bv k q n s kv xa) (v : Int) : FBlk (X.setCell ⟨b,8,none⟩ (.int .i64 v)) b a nm pv tr sc bv k q v s kv xa:=heap_setCell_same X b 8 _ _ _ h
theorem FBlk.set9 (h : FBlk X b a nm pv tr sc bv k q n s kv xa) (v : ByteArray) : FBlk (X.setCell ⟨b,9,none⟩ (.string v)) b a nm pv tr sc bv k q n v kv xa:=heap_setCell_same X b 9 _ _ _ h
theorem FBlk.set10 (h : FBlk X b a nm pv tr sc bv k q n s kv xa) (v : Value) : FBlk (X.setCell ⟨b,10,none⟩ v) b a nm pv tr sc bv k q n s v xa:=heap_setCell_same X b 10 _ _ _ h
theorem FBlk.set11 (h : FBlk X b a nm pv tr sc bv k q n s kv xa) (v : Int) : FBlk (X.setCell ⟨b,11,none⟩ (.int .i64 v)) b a nm pv tr sc bv k q n s kv v:=heap_setCell_same X b 11 _ _ _ h
theorem FBlk.new (hb : b = X.heap.size) : FBlk (X.alloc (.cells #[.int .i64 a,.string nm,pv,.bool tr,.bool sc,bv,.int .i64 k,.int .i64 q,.int .i64 n,.string s,kv,.int .i64 xa] 73)) b a nm pv tr sc bv k q n s kv xa:=hb ▸ heap_alloc_new X _
end
structure FV where
 (p b k : Value)
def fnCells (f : Fn) (v : FV) : List Value:=[.int .i64 f.a,.string (bstr f.nm),v.p,.bool f.tr,.bool f.sc,v.b,.int .i64 f.ret.k,.int .i64 f.ret.op,.int .i64 f.ret.n,.string (bstr f.ret.nm),v.k,.int .i64 f.ret.a]
def IsFn1 (ok : Nat → Prop) (W : World) (f : Fn) (v : FV) : Prop:=IsPl ok 106 3 pmCells W f.ps v.p ∧ IsSts ok W f.bd v.b ∧ IsExP ok W f.ret v.k
def IsTh1 (ok : Nat → Prop) (W : World) (l : List Stm) (v : Value) : Prop:=IsSts ok W l v
theorem raw12_one {a k q n xa : Int} {nm s : ByteArray} {tr sc : Bool} {z1 z2 z3 : Option Addr} {y1 y2 y3 k1 k2 k3 : Nat} : ∀ u ∈ ([.int .i64 a,.string nm,.slice z1 y1 k1,.bool tr,.bool sc,.slice z2 y2 k2,.int .i64 k,.int .i64 q,.int .i64 n,.string s,.slice z3 y3 k3,.int .i64 xa] : List Value),u.oneCell' = true:=by
 intro u hu
 simp at hu
 rcases hu with rfl | rfl | rfl | rfl | rfl | rfl | rfl | rfl | rfl | rfl | rfl | rfl <;> rfl
def KeptT (lo : Nat) (W X : World) : Prop:=W.heap.size ≤ X.heap.size ∧ ∀ g cs T fr,lo ≤ g → W.heap[g]? = some (.cells cs T fr) → (T = 46 ∨ T = 71 ∨ T = 106) → X.heap[g]? = W.heap[g]?
section
variable {lo : Nat} {W X Y : World}
theorem KeptT.trans (h : KeptT lo W X) (k : KeptT lo X Y) : KeptT lo W Y:=⟨Nat.le_trans h.1 k.1,fun g cs T fr hg hb ht => by
 have e:=h.2 g cs T fr hg hb ht
 exact (k.2 g cs T fr hg (e.trans hb) ht).trans e⟩
theorem KeptT.hi (h : Hi lo W X) : KeptT lo W X:=⟨h.1,fun g _ _ _ hg hb _ => h.2 g hg (Array.getElem?_eq_some_iff.1 hb).1⟩
theorem IsExP.keptT {e : Ex} {v : Value} (h : IsExP (fun g => lo ≤ g) W e v) (hk : KeptT lo W X) : IsExP (fun g => lo ≤ g) X e v:=by
 induction h with
 | leaf => exact .leaf
 | node g cap cs fr vs hg hb hne hc _ ih => exact .node g cap cs fr vs hg ((hk.2 g _ _ _ hg hb (.inr (.inl rfl))).trans hb) hne hc ih
theorem IsSts.keptT {l : List Stm} {v : Value} (h : IsSts (fun g => lo ≤ g) W l v) (hk : KeptT lo W X) : IsSts (fun g => lo ≤ g) X l v:=by
 induction h with
 | nil => exact .nil
 | node g cap cs fr vs hg hb hne hc hi he _ _ ih1 ih2 => exact .node g cap cs fr vs hg ((hk.2 g _ _ _ hg hb (.inl rfl)).trans hb) hne hc (fun i s h => (hi i s h).keptT hk) (fun i s h => (he i s h).keptT hk) ih1 ih2
theorem IsPl.keptT {l : List Pm} {v : Value} (h : IsPl (fun g => lo ≤ g) 106 3 pmCells W l v) (hk : KeptT lo W X) : IsPl (fun g => lo ≤ g) 106 3 pmCells X l v:=by
 refine ⟨h.1,fun hn => ?_⟩
 obtain ⟨g,cap,cs,fr,h1,h2,h3,h4⟩:=h.2 hn
 exact ⟨g,cap,cs,fr,h1,h2,(hk.2 g _ _ _ h2 h3 (.inr (.inr rfl))).trans h3,h4⟩
theorem IsPl.hi {l : List Pm} {v : Value} (h : IsPl (fun g => lo ≤ g) 106 3 pmCells W l v) (hk : Hi lo W X) : IsPl (fun g => lo ≤ g) 106 3 pmCells X l v:=h.keptT (.hi hk)
theorem IsPl.low {lo' : Nat} {l : List Pm} {v : Value} (h : IsPl (fun g => lo ≤ g) 106 3 pmCells W l v) (hl : lo' ≤ lo) : IsPl (fun g => lo' ≤ g) 106 3 pmCells W l v:=h.kept fun _ hg _ => ⟨rfl,Nat.le_trans hl hg⟩
theorem IsFn1.keptT {f : Fn} {v : FV} (h : IsFn1 (fun g => lo ≤ g) W f v) (hk : KeptT lo W X) : IsFn1 (fun g => lo ≤ g) X f v:=⟨h.1.keptT hk,h.2.1.keptT hk,h.2.2.keptT hk⟩
theorem IsFn1.low {lo' : Nat} {f : Fn} {v : FV} (h : IsFn1 (fun g => lo ≤ g) W f v) (hl : lo' ≤ lo) : IsFn1 (fun g => lo' ≤ g) W f v:=⟨h.1.low hl,h.2.1.lo hl,h.2.2.lo hl⟩
end
section
variable {r4 rb : Nat} {row : Option Nat} {W X Y : World}
theorem Fr3.refl (r4 rb : Nat) (row : Option Nat) (W : World) : Fr3 r4 rb row W W:=⟨⟨Nat.le_refl _,rfl,rfl,rfl⟩,fun _ _ _ _ _ => rfl⟩
theorem Fr3.size (h : Fr3 r4 rb row W X) : W.heap.size ≤ X.heap.size:=h.1.1
theorem Fr3.step (h : Fr3 r4 rb row W X) (k : Fr (some rb) X Y) : Fr3 r4 rb row W Y :=
 ⟨⟨Nat.le_trans h.1.1 k.size,(Fr.grown_ k).os.trans h.1.2.1,(Fr.grown_ k).tape.trans h.1.2.2.1,(Fr.grown_ k).output.trans h.1.2.2.2⟩,fun b hb h4 hr hrow => (k.block (Nat.lt_of_lt_of_le hb h.1.1) (by simp;exact hr)).trans (h.2 b hb h4 hr hrow)⟩
theorem Fr3.alloc (h : Fr3 r4 rb row W X) (o : Obj) : Fr3 r4 rb row W (X.alloc o):=⟨⟨by (have:=h.1.1;simp;omega),h.1.2.1,h.1.2.2.1,h.1.2.2.2⟩,fun b hb h4 hr hrow => (Below.heap_alloc X o b (Nat.lt_of_lt_of_le hb h.1.1)).trans (h.2 b hb h4 hr hrow)⟩
theorem Fr3.set (h : Fr3 r4 rb row W X) {c : Nat} (hc : c = r4 ∨ c = rb ∨ W.heap.size ≤ c) (o : Nat) (v : Value) : Fr3 r4 rb row W (X.setCell ⟨c,o,none⟩ v):=by
 obtain ⟨e1,e2,e3⟩:=setCell_else X ⟨c,o,none⟩ v
 exact ⟨⟨by simpa using h.1.1,e1.trans h.1.2.1,e2.trans h.1.2.2.1,e3.trans h.1.2.2.2⟩,fun b hb h4 hr hrow => (heap_setCell_other X ⟨c,o,none⟩ b v (by rcases hc with rfl | rfl | hc <;> simp <;> omega)).trans (h.2 b hb h4 hr hrow)⟩
theorem Fr3.drew (h : Fr3 r4 rb row W X) : Fr3 r4 rb row W X.drew:=h
theorem Fr3.grow (h : Fr3 r4 rb none W X) (k : X.grownBy Y row) : Fr3 r4 rb row W Y:=⟨⟨Nat.le_trans h.1.1 k.size,k.os.trans h.1.2.1,k.tape.trans h.1.2.2.1,k.output.trans h.1.2.2.2⟩,fun b hb h4 hr hrow => (k.block b (Nat.lt_of_lt_of_le hb h.1.1) hrow).trans (h.2 b hb h4 hr (by simp))⟩
theorem Fr3.of (h : Fr (some rb) W X) : Fr3 r4 rb row W X:=(Fr3.refl r4 rb row W).step h
theorem own_fr3 {B T T' k n k' n' : Nat} {v v' : Value} {xs xs' : List Value} (h : W.ownsRow B T k v n xs) (hf : Fr3 r4 rb v'.ownBlock W X) (hv : W.ownsRow B T' k' v' n' xs') (hT : T ≠ T') (h4 : r4 < B) (hr : rb < B) : X.ownsRow B T k v n xs:=by
 refine ⟨h.1,?_⟩
 rcases h.2 with h0 | ⟨g,cap,cur,rfl,hb,hg,rest⟩
 · exact .inl h0
 · refine .inr ⟨g,cap,cur,rfl,hb,?_,rest⟩
   rw [hf.2 g (Array.getElem?_eq_some_iff.1 hg).1 (by omega) (by omega) (fun e => ?_)]
   · exact hg
   · rcases hv.2 with ⟨rfl,_⟩ | ⟨g',cap',cur',rfl,_,hg',_⟩
     · cases e
     · have : g = g':=by simpa [Value.ownBlock] using e
       subst this
       rw [hg] at hg'
       simp only [Option.some.injEq,Obj.cells.injEq] at hg'
       exact hT hg'.2.1
theorem own_fr0 {B T k n : Nat} {v : Value} {xs : List Value} (h : W.ownsRow B T k v n xs) (hf : Fr3 r4 rb none W X) (h4 : r4 < B) (hr : rb < B) : X.ownsRow B T k v n xs:=by
 refine ⟨h.1,?_⟩
 rcases h.2 with h0 | ⟨g,cap,cur,rfl,hb,hg,rest⟩
 · exact .inl h0
 · refine .inr ⟨g,cap,cur,rfl,hb,?_,rest⟩
   rw [hf.2 g (Array.getElem?_eq_some_iff.1 hg).1 (by omega) (by omega) (by simp)]
   exact hg
theorem keptT3 {B T' k' n' : Nat} {v' : Value} {xs' : List Value} (hf : Fr3 r4 rb v'.ownBlock W X) (hv : W.ownsRow B T' k' v' n' xs') (hT : T' ≠ 46 ∧ T' ≠ 71 ∧ T' ≠ 106) (h4 : r4 < B) (hr : rb < B) : KeptT B W X:=by
 refine ⟨hf.1.1,fun g cs T fr hg hb ht => hf.2 g (Array.getElem?_eq_some_iff.1 hb).1 (by omega) (by omega) fun e => ?_⟩
 rcases hv.2 with ⟨rfl,_⟩ | ⟨g',cap',cur',rfl,_,hg',_⟩
 · cases e
 · have : g = g':=by simpa [Value.ownBlock] using e
   subst this
   rw [hb] at hg'
   simp only [Option.some.injEq,Obj.cells.injEq] at hg'
   obtain ⟨h1,h2,h3⟩:=hT
   rcases ht with e | e | e
   · exact h1 (hg'.2.1.symm.trans e)
   · exact h2 (hg'.2.1.symm.trans e)
   · exact h3 (hg'.2.1.symm.trans e)
end
def fnRow (r : List (Fn × FV)) : List Value:=r.flatMap fun p => fnCells p.1 p.2
def thRow (r : List (List Stm × Value)) : List Value:=r.map (·.2)
theorem fnRow_snoc (r : List (Fn × FV)) (f : Fn) (v : FV) : fnRow (r ++ [(f,v)]) = fnRow r ++ fnCells f v:=by simp [fnRow]
theorem thRow_snoc (r : List (List Stm × Value)) (l : List Stm) (v : Value) : thRow (r ++ [(l,v)]) = thRow r ++ [v]:=by simp [thRow]
structure PRows (B : Nat) (W : World) (p : Pg) (v0 v1 v2 v3 : Value) (rf : List (Fn × FV)) (rt : List (List Stm × Value)) : Prop where
 g : W.ownsRow B 39 6 v0 p.gs.length (p.gs.flatMap glCells)
 l : W.ownsRow B 66 2 v1 p.ls.length (p.ls.flatMap lkCells)
 f : W.ownsRow B 73 12 v2 p.fs.length (fnRow rf)
 t : W.ownsRow B 34 1 v3 p.ths.length (thRow rt)
 ef : rf.map (·.1) = p.fs
 et : rt.map (·.1) = p.ths
 xf : ∀ q ∈ rf,IsFn1 (fun g => B ≤ g) W q.1 q.2
 xt : ∀ q ∈ rt,IsSts (fun g => B ≤ g) W q.1 q.2
theorem PRows.nil (B : Nat) (W : World) : PRows B W ⟨[],[],[],[]⟩ (.slice none 0 0) (.slice none 0 0) (.slice none 0 0) (.slice none 0 0) [] [] :=
 ⟨World.ownsRow_nil W B _ 6,World.ownsRow_nil W B _ 2,World.ownsRow_nil W B _ 12,World.ownsRow_nil W B _ 1,rfl,rfl,by simp,by simp⟩
theorem own_form {B T k n : Nat} {W : World} {v : Value} {xs : List Value} (h : W.ownsRow B T k v n xs) : ∃ p c,v = .slice p n c:=by
 rcases h.2 with ⟨h1,h2⟩ | ⟨g,cap,cur,h1,_⟩
 · exact ⟨none,0,by rw [h1,h2]⟩
 · exact ⟨_,_,h1⟩
end Go.Proofs.YtkhbbapocamlmaaDoor
namespace Go.Proofs.YtkhbbapocamlmaaDoor
open Go Go.RowKit
theorem wr_lies : liesAt Tryd.prog Tryd.prog.depth 64 (3 / Tryd.prog.cellsOf 64) 0 62 1 = true:=by kernel_rfl
def Wr (B b : Nat) (bs : List Value) (tabs : Int) (w : World) : Prop :=
 B ≤ b ∧ ∃ p v,w.heap[b]? = some (.cells #[p,v,.int .i64 tabs] 64 (0,0)) ∧ (p = .pointer none ∨ p = .pointer (some ⟨b,0,none⟩)) ∧ w.ownsRowF B 5 1 v bs.length bs ∧ v.ownBlock ≠ some b ∧ (bs = [] → v = .slice none 0 0)
def KW (B b : Nat) (w w' : World) : Prop:=Below B w w' ∧ Lib.OthersKept 5 (some b) w w'
section
variable {B b : Nat} {bs : List Value} {tabs : Int} {w w' w'' : World}
theorem Wr.lt (h : Wr B b bs tabs w) : b < w.heap.size:=by
 obtain ⟨_,p,v,h1,_⟩:=h
 exact (Array.getElem?_eq_some_iff.1 h1).1
theorem KW.refl (B b : Nat) (w : World) : KW B b w w:=⟨Below.refl _ _,Lib.OthersKept.refl _ _ _⟩
theorem KW.trans (h : KW B b w w') (k : KW B b w' w'') : KW B b w w'':=⟨h.1.trans k.1,h.2.trans k.2⟩
theorem KW.size (h : KW B b w w') : w.heap.size ≤ w'.heap.size:=h.1.size
theorem KW.alloc (h : KW B b w w') (hB : B ≤ w'.heap.size) (o : Obj) : KW B b w (w'.alloc o):=⟨h.1.alloc hB _,h.2.alloc o⟩
theorem KW.below (hB : B ≤ w.heap.size) (hb : Below w.heap.size w w') : KW B b w w':=⟨hb.mono hB,fun k o ho _ _ => (hb.block k (Array.getElem?_eq_some_iff.1 ho).1).trans ho⟩
theorem KW.stay (h : KW B b w w') (hB : B ≤ w'.heap.size) (hb : Below w'.heap.size w' w'') : KW B b w w'':=h.trans (.below hB hb)
theorem KW.tree {lo : Nat} (h : KW B b w w') (hw : Wr B b bs tabs w) : KeptT lo w w':=by
 refine ⟨h.size,fun g cs T fr _ hg ht => ?_⟩
 have hT : T ≠ 5 ∧ T ≠ 64:=by rcases ht with rfl | rfl | rfl <;> decide
 have:=h.2 g _ hg (fun e => ?_) (fun c fz e => ?_)
 · rw [this,hg]
 · obtain ⟨_,p,v,h1,_⟩:=hw
   simp only [Option.some.injEq] at e
   subst e
   rw [hg] at h1
   simp only [Option.some.injEq,Obj.cells.injEq] at h1
   exact hT.2 h1.2.1
 · simp only [Obj.cells.injEq] at e
   exact hT.1 e.2.1
theorem KW.strs {g : Nat} {cs : Array Value} {fr : Nat × Nat} (h : KW B b w w') (hw : Wr B b bs tabs w) (hg : w.heap[g]? = some (.cells cs 9 fr)) : w'.heap[g]? = some (.cells cs 9 fr):=by
 refine h.2 g _ hg (fun e => ?_) (fun c fz e => ?_)
 · obtain ⟨_,p,v,h1,_⟩:=hw
   simp only [Option.some.injEq] at e
   subst e
   rw [hg] at h1
   simp only [Option.some.injEq,Obj.cells.injEq] at h1
   exact absurd h1.2.1 (by decide)
 · simp only [Obj.cells.injEq] at e
   exact absurd e.2.1 (by decide)
theorem Wr.stay (h : Wr B b bs tabs w) (hb : Below w.heap.size w w') : Wr B b bs tabs w':=by
 obtain ⟨hB,p,v,h1,h2,h3,h4,h5⟩:=h
 refine ⟨hB,p,v,(hb.block b (Array.getElem?_eq_some_iff.1 h1).1).trans h1,h2,?_,h4,h5⟩
 refine ⟨h3.1,?_⟩
 rcases h3.2 with h0 | ⟨g,cap,cur,fz,e1,e2,e3,e4⟩
 · exact .inl h0
 · exact .inr ⟨g,cap,cur,fz,e1,e2,(hb.block g (Array.getElem?_eq_some_iff.1 e3).1).trans e3,e4⟩
theorem Wr.alloc (h : Wr B b bs tabs w) (o : Obj) : Wr B b bs tabs (w.alloc o):=h.stay ((Below.refl _ _).alloc (Nat.le_refl _) _)
theorem Wr.set2 (h : Wr B b bs tabs w) (t : Int) : Wr B b bs t (w.setCell ⟨b,2,none⟩ (.int .i64 t)) ∧ KW B b w (w.setCell ⟨b,2,none⟩ (.int .i64 t)):=by
 obtain ⟨hB,p,v,h1,h2,h3,h4,h5⟩:=h
 refine ⟨⟨hB,p,v,heap_setCell_same w b 2 _ _ _ h1,h2,⟨h3.1,?_⟩,h4,h5⟩,(Below.refl B w).setCell (p:=⟨b,2,none⟩) hB _,(Lib.OthersKept.refl _ _ w).setCell ⟨b,2,none⟩ rfl _⟩
 rcases h3.2 with h0 | ⟨g,cap,cur,fz,e1,e2,e3,e4⟩
 · exact .inl h0
 · refine .inr ⟨g,cap,cur,fz,e1,e2,(heap_setCell_other w ⟨b,2,none⟩ g _ ?_).trans e3,e4⟩
   rintro rfl
   exact h4 (by rw [e1];rfl)
theorem Wr.facts (h : Wr B b bs tabs w) : w.cell? ⟨b,2,none⟩ = some (.int .i64 tabs) ∧ w.frozen? ⟨b,2,none⟩ = false:=by
 obtain ⟨hB,p,v,h1,_⟩:=h
 exact ⟨(Lib.cell_of_heap h1 2).trans rfl,Lib.frozen_of_heap h1 2⟩
end
theorem wr_fresh (b : Nat) (w : World) (h0 : w.cell? ⟨b,0,none⟩ = some (.pointer none)) (hsh : w.shape? b = some (64,3)) (hfz : w.frozen? ⟨b,0,none⟩ = false) :
 Calls Tryd.prog 63 #[.pointer (some ⟨b,0,none⟩)] w fun e w' => e = .returned (.tuple #[]) ∧ w' = w.setCell ⟨b,0,none⟩ (.pointer (some ⟨b,0,none⟩)):=by
 obtain ⟨j,hj,hjs⟩:=Option.map_eq_some_iff.1 bld_size
 go_enter Tryd.func63,Tryd.ntmps63
 go_wp2
 rw [Lib.run_to_unsafe w ⟨b,0,none⟩ Tryd.underlying59 Tryd.underlying124 hj (by rw [hjs];decide) hsh (Nat.zero_lt_succ 2)]
 simp only [Result.andThen]
 rw [Oper.upon_value]
 go_wp2
 rw [run_callFunc_extern Tryd.func79 (by kernel_rfl) (by kernel_rfl) (by kernel_rfl) (e:=Extern.AbiNoEscape.same) (by kernel_rfl)]
 rw [Lib.run_noEscape]
 simp only [Result.andThen]
 rw [Oper.upon_value]
 go_wp2
 rw [Lib.run_from_unsafe w ⟨b,0,none⟩ Tryd.underlying124 Tryd.underlying59 hj hsh wr_lies]
 simp only [Result.andThen]
 rw [Oper.upon_value]
 go_wp2
 go_end0
 exact ⟨rfl,rfl⟩
theorem wr_check (B b : Nat) (bs : List Value) (tabs : Int) (w : World) (h : Wr B b bs tabs w) :
 Calls Tryd.prog 63 #[.pointer (some ⟨b,0,none⟩)] w fun e w' => e = .returned (.tuple #[]) ∧ KW B b w w' ∧
  B ≤ b ∧ ∃ v,w'.heap[b]? = some (.cells #[.pointer (some ⟨b,0,none⟩),v,.int .i64 tabs] 64 (0,0)) ∧ w'.ownsRowF B 5 1 v bs.length bs ∧ v.ownBlock ≠ some b ∧ (bs = [] → v = .slice none 0 0):=by
 obtain ⟨hB,p,v,h1,h2,h3,h4,h5⟩:=h
 rcases h2 with rfl | rfl
 · have hsh : w.shape? b = some (64,3):=by simp [World.shape?,h1]
   refine (wr_fresh b w ((Lib.cell_of_heap h1 0).trans rfl) hsh (Lib.frozen_of_heap h1 0)).mono ?_
   rintro e w' ⟨rfl,rfl⟩
   refine ⟨rfl,⟨(Below.refl B w).setCell (p:=⟨b,0,none⟩) hB _,(Lib.OthersKept.refl _ _ w).setCell ⟨b,0,none⟩ rfl _⟩,hB,v,heap_setCell_same w b 0 _ _ _ h1,⟨h3.1,?_⟩,h4,h5⟩
   rcases h3.2 with h0 | ⟨g,cap,cur,fz,e1,e2,e3,e4⟩
   · exact .inl h0
   · refine .inr ⟨g,cap,cur,fz,e1,e2,(heap_setCell_other w ⟨b,0,none⟩ g _ ?_).trans e3,e4⟩
     rintro rfl
     exact h4 (by rw [e1];rfl)
 · refine (check_used b w ((Lib.cell_of_heap h1 0).trans rfl)).mono ?_
   rintro e w' ⟨rfl,rfl⟩
   exact ⟨rfl,KW.refl _ _ _,hB,v,h1,h3,h4,h5⟩
theorem wr_str (B b : Nat) (bs : List Value) (tabs : Int) (s : ByteArray) (w : World) (h : Hid (Wr B b bs tabs w)) (hlen : bs.length + s.size ≤ 140737488355328) (hBw : B ≤ w.heap.size) :
 Calls Tryd.prog 47 #[.pointer (some ⟨b,0,none⟩),.string s] w fun e w' => e = .returned (.tuple #[.int .i64 s.size,.nilIface]) ∧ Wr B b (bs ++ Lib.strCells s) tabs w' ∧ KW B b w w':=by
 obtain ⟨i0,hi,hz0,hz1,hz2⟩:=info_parts bld_byte
 go_enter Tryd.func47,Tryd.ntmps47
 go_wp2_with (first
  | (go_at_call 63;(with_reducible refine (wr_check B b bs tabs _ h.out).mono ?_);rintro e w1 ⟨rfl,hk1,hB,v,hbk,hown,hne,hnil⟩;have c0 : w1.cell? ⟨b,0,none⟩ = some (.pointer (some ⟨b,0,none⟩)):=(Lib.cell_of_heap hbk 0).trans rfl;have c1 : w1.cell? ⟨b,1,none⟩ = some v:=(Lib.cell_of_heap hbk 1).trans rfl)
  | (at_builtin;refine Lib.wpList_append_own_stringF _ rfl _ _ 60 9 rfl B 5 i0 Tryd.underlying60 Tryd.underlying9 hi hz0 hz1 hz2 _ _ _ rfl hown s rfl ?c3 ?c4 ?c5 ?_))
 case c3 => unfold maxLen;omega
 case c4 => omega
 case c5 => (have:=hk1.size;omega)
 intro v' w2 hown' hgrow hiff
 have hlt : b < w1.heap.size:=(Array.getElem?_eq_some_iff.1 hbk).1
 have hb2 : w2.heap[b]? = some (.cells #[.pointer (some ⟨b,0,none⟩),v,.int .i64 tabs] 64 (0,0)):=(hgrow.block b hlt (fun e => hne e.symm)).trans hbk
 have d0 : w2.cell? ⟨b,0,none⟩ = some (.pointer (some ⟨b,0,none⟩)):=(Lib.cell_of_heap hb2 0).trans rfl
 have d1 : w2.cell? ⟨b,1,none⟩ = some v:=(Lib.cell_of_heap hb2 1).trans rfl
 have f1 : w2.frozen? ⟨b,1,none⟩ = false:=Lib.frozen_of_heap hb2 1
 have hnil2 : bs ++ Lib.strCells s = [] → v' = .slice none 0 0:=fun e => by
  obtain ⟨e1,e2⟩:=List.append_eq_nil_iff.1 e
  refine hiff.2 ⟨hnil e1,?_⟩
  have:=congrArg List.length e2
  rw [Lib.strCells_length] at this
  have h0 : s.size = 0:=this
  simpa using h0
 obtain ⟨ao,n',cap,rfl⟩ : ∃ ao n' cap,v' = .slice ao n' cap:=by
  rcases hown'.2 with ⟨hv,_⟩ | ⟨g,cap,cur,fz,hv,_⟩
  · exact ⟨_,_,_,hv⟩
  · exact ⟨_,_,_,hv⟩
 go_wp2
 go_ret2
 have hne2 : (Value.slice ao n' cap).ownBlock ≠ some b:=Lib.ownBlock_neF hown' hb2 (by decide)
 refine ⟨rfl,⟨hB,_,_,heap_setCell_same w2 b 1 _ _ _ hb2,.inr rfl,?_,hne2,hnil2⟩,(hk1.1.grown hgrow (by have:=hk1.size;omega) (fun k hk => (hown.lt k hk).1)).setCell (p:=⟨b,1,none⟩) hB _,(hk1.2.grown hgrow (Lib.ownsRowF_kind hown)).setCell ⟨b,1,none⟩ rfl _⟩
 refine ⟨by simp [Lib.strCells_length],?_⟩
 rcases hown'.2 with ⟨e1,e2⟩ | ⟨g,cap',cur,fz,e1,e2,e3,e4⟩
 · exact .inl ⟨e1,by simpa [Lib.strCells_length] using e2⟩
 · refine .inr ⟨g,cap',cur,fz,by simpa [Lib.strCells_length] using e1,e2,(heap_setCell_other w2 ⟨b,1,none⟩ g _ ?_).trans e3,by simpa [Lib.strCells_length] using e4⟩
   rintro rfl
   exact hne2 (by rw [e1];rfl)
theorem wr_byte (B b : Nat) (bs : List Value) (tabs : Int) (c : UInt8) (w : World) (h : Hid (Wr B b bs tabs w)) (hlen : bs.length + 1 ≤ 140737488355328) (hBw : B ≤ w.heap.size) :
 Calls Tryd.prog 46 #[.pointer (some ⟨b,0,none⟩),.int .u8 c.toNat] w fun e w' => e = .returned .nilIface ∧ Wr B b (bs ++ Lib.byteCells [c]) tabs w' ∧ KW B b w w':=by
 obtain ⟨i0,hi,hz0,hz1,hz2⟩:=info_parts bld_byte
 go_enter Tryd.func46,Tryd.ntmps46
 go_wp2_with (first
  | (go_at_call 63;(with_reducible refine (wr_check B b bs tabs _ h.out).mono ?_);rintro e w1 ⟨rfl,hk1,hB,v,hbk,hown,hne,hnil⟩;have c0 : w1.cell? ⟨b,0,none⟩ = some (.pointer (some ⟨b,0,none⟩)):=(Lib.cell_of_heap hbk 0).trans rfl;have c1 : w1.cell? ⟨b,1,none⟩ = some v:=(Lib.cell_of_heap hbk 1).trans rfl;have hwz:=hk1.size;have hownA : (w1.alloc (.cells #[.int .u8 c.toNat] 5)).ownsRowF B 5 1 v bs.length bs:=hown.kept (World.grownBy_alloc _ _ none) (by cases v.ownBlock <;> simp))
  | (at_builtin;refine wpList_append_ownF _ rfl (.tmp 11) (.tmp 13) 60 rfl B 5 i0 _ 1 1 Tryd.underlying60 hi hz0 hz1 hz2 rfl (by decide) v bs.length bs rfl hownA ⟨_,0,none⟩ 1 1 [.int .u8 c.toNat] rfl rfl (World.news_of_block (heap_alloc_new _ _)) (by intro u hu;simp at hu;subst hu;rfl) (by unfold maxLen;omega) (by omega) (by simp;omega) ?_))
 intro v' w2 hown' hgrow _
 have hlt : b < w1.heap.size:=(Array.getElem?_eq_some_iff.1 hbk).1
 have hb2 : w2.heap[b]? = some (.cells #[.pointer (some ⟨b,0,none⟩),v,.int .i64 tabs] 64 (0,0)):=(hgrow.block b (by simp;omega) (fun e => hne e.symm)).trans ((Below.heap_alloc _ _ b hlt).trans hbk)
 have d0 : w2.cell? ⟨b,0,none⟩ = some (.pointer (some ⟨b,0,none⟩)):=(Lib.cell_of_heap hb2 0).trans rfl
 have d1 : w2.cell? ⟨b,1,none⟩ = some v:=(Lib.cell_of_heap hb2 1).trans rfl
 have f1 : w2.frozen? ⟨b,1,none⟩ = false:=Lib.frozen_of_heap hb2 1
 obtain ⟨ao,n',cap,rfl⟩ : ∃ ao n' cap,v' = .slice ao n' cap:=by
  rcases hown'.2 with ⟨hv,_⟩ | ⟨g,cap,cur,fz,hv,_⟩
  · exact ⟨_,_,_,hv⟩
  · exact ⟨_,_,_,hv⟩
 go_wp2
 go_ret
 have hne2 : (Value.slice ao n' cap).ownBlock ≠ some b:=Lib.ownBlock_neF hown' hb2 (by decide)
 refine ⟨rfl,⟨hB,_,_,heap_setCell_same w2 b 1 _ _ _ hb2,.inr rfl,?_,hne2,fun e => by simp [Lib.byteCells] at e⟩,((hk1.1.alloc (by omega) _).grown hgrow (by simp;omega) (fun k hk => (hown.lt k hk).1)).setCell (p:=⟨b,1,none⟩) hB _,((hk1.2.alloc _).grown hgrow (Lib.ownsRowF_kind hownA)).setCell ⟨b,1,none⟩ rfl _⟩
 refine ⟨by simp [Lib.byteCells_length],?_⟩
 rcases hown'.2 with ⟨e1,e2⟩ | ⟨g,cap',cur,fz,e1,e2,e3,e4⟩
 · exact absurd e2 (by omega)
 · refine .inr ⟨g,cap',cur,fz,by simpa [Lib.byteCells_length] using e1,e2,(heap_setCell_other w2 ⟨b,1,none⟩ g _ ?_).trans e3,by simpa [Lib.byteCells_length,Lib.byteCells] using e4⟩
   rintro rfl
   exact hne2 (by rw [e1];rfl)
theorem wr_text (B b : Nat) (l : List UInt8) (tabs : Int) (w : World) (h : Hid (Wr B b (Lib.byteCells l) tabs w)) :
 Calls Tryd.prog 25 #[.pointer (some ⟨b,0,none⟩)] w fun e w' => e = .returned (.string (bstr l)) ∧ Below B w w':=by
 obtain ⟨hB,p,v,hbk,_,hown,hne,hnil⟩:=h.out
 by_cases h0 : l = []
 · subst h0
   obtain rfl:=hnil rfl
   have c1 : w.drew.cell? ⟨b,1,none⟩ = some (.slice none 0 0):=(Lib.cell_of_heap (w:=w.drew) hbk 1).trans rfl
   have hSD : (Builtin.unsafeSliceData_ #[60] 104 #[.slice none 0 0]).run Tryd.prog w.drew = .ok (.pointer none) w.drew:=rfl
   have hUS : (Builtin.unsafeString_ #[104,3] 9 #[.pointer none,.int .i64 0]).run Tryd.prog w.drew = .ok (.string ⟨#[]⟩) w.drew:=by kernel_rfl
   clear h hbk hown hne hnil
   go_enter Tryd.func25,Tryd.ntmps25
   go_wp2
   go_region
   all_goals (go_wp2;go_ret;exact ⟨rfl,Below.drew (Below.refl B w)⟩)
 · have hl0 : l.length ≠ 0:=by simpa using h0
   rw [Lib.byteCells_length] at hown
   obtain ⟨g,cap,cur,fz,rfl,hbg,hg,hfz,hnc,hcm,hcs,htake⟩ : ∃ g cap cur fz,v = .slice (some ⟨g,0,none⟩) l.length cap ∧ B ≤ g ∧ w.heap[g]? = some (.cells cur 5 fz) ∧ fz.2 ≤ l.length * 1 ∧ l.length ≤ cap ∧ cap ≤ maxLen ∧ cur.size = cap * 1 ∧ cur.toList.take (l.length * 1) = Lib.byteCells l:=by
    rcases hown.2 with ⟨_,hz⟩ | ⟨g,cap,cur,fz,hv,r⟩
    · exact absurd hz hl0
    · exact ⟨g,cap,cur,fz,hv,r⟩
   have c1 : w.drew.cell? ⟨b,1,none⟩ = some (.slice (some ⟨g,0,none⟩) l.length cap):=(Lib.cell_of_heap (w:=w.drew) hbk 1).trans rfl
   have hSD : (Builtin.unsafeSliceData_ #[60] 104 #[.slice (some ⟨g,0,none⟩) l.length cap]).run Tryd.prog w.drew = .ok (.pointer (some ⟨g,0,none⟩)) w.drew :=
    Lib.run_unsafeSliceData_row _ _ _ _ _ _ (by omega)
   have hUS : (Builtin.unsafeString_ #[104,3] 9 #[.pointer (some ⟨g,0,none⟩),.int .i64 l.length]).run Tryd.prog w.drew = .ok (.string ⟨l.toArray⟩) (w.drew.freeze ⟨g,0,none⟩ l.length):=by
    refine Lib.run_unsafeString_row w.drew 104 3 9 5 Tryd.underlying104 (by kernel_rfl) g cur.size (by have hg' : w.drew.heap[g]? = some (.cells cur 5 fz):=hg;simp [World.shape?,hg']) l h0 (by omega) (by unfold maxLen at hcm;omega) ?_
    intro j x hx
    exact hown.cells (g:=g) rfl j (.int .u8 x.toNat) (by simp [Lib.byteCells,hx])
   clear h hbk hown hne hnil htake hcs hg
   go_enter Tryd.func25,Tryd.ntmps25
   go_wp2
   go_region
   all_goals (go_wp2;go_ret;exact ⟨rfl,Lib.below_freeze (Below.drew (Below.refl B w)) (p:=⟨g,0,none⟩) hbg _⟩)
end Go.Proofs.YtkhbbapocamlmaaDoor
namespace Go.Proofs.YtkhbbapocamlmaaDoor
open Go Go.RowKit
theorem IsExP.form {ok : Nat → Prop} {W : World} {e : Ex} {v : Value} (h : IsExP ok W e v) : ∃ p c,v = .slice p e.ks.length c:=by
 cases h with
 | leaf => exact ⟨_,_,rfl⟩
 | node g cap => exact ⟨_,_,rfl⟩
theorem type_any (tr sc : Bool) (w : World) : Calls Tryd.prog 13 #[.agg #[.bool tr,.bool sc]] w fun e w' => e = .returned (.string (bstr (typeT tr sc))) ∧ Below w.heap.size w w':=by
 cases tr <;> cases sc
 all_goals go_enter Tryd.func13,Tryd.ntmps13
 all_goals go_wp2
 all_goals go_ret
 all_goals exact ⟨rfl,by (refine Fr.below ?_;(with_reducible repeat first | exact Fr.refl _ _ | refine Fr.alloc ?_ _ | refine Fr.drewN ?_ _ | refine Fr.drew ?_ | (refine Fr.set ?_ ?_ _ _;rotate_left;first | exact .inl rfl | (right;simp;done) | (right;simp;omega) | (right;omega)) | refine Fr.step ?_ (by assumption) | refine Fr.stepB ?_ (by assumption)))⟩
theorem only_nil (c : Nat) (p : Option Addr) (w : World) : Calls Tryd.prog 70 #[.slice p 0 c] w fun e w' => e = .returned (.string (bstr [])) ∧ Below w.heap.size w w':=by
 go_enter Tryd.func70,Tryd.ntmps70
 go_wp2
 go_ret
 exact ⟨rfl,by (refine Fr.below ?_;(with_reducible repeat first | exact Fr.refl _ _ | refine Fr.alloc ?_ _ | refine Fr.drewN ?_ _ | refine Fr.drew ?_ | (refine Fr.set ?_ ?_ _ _;rotate_left;first | exact .inl rfl | (right;simp;done) | (right;simp;omega) | (right;omega)) | refine Fr.step ?_ (by assumption) | refine Fr.stepB ?_ (by assumption)))⟩
theorem only_cons {ok : Nat → Prop} {l : List Ex} {x : Ex} {v : Value} {w : World} (h : Hid (IsExP ok w (exsE (x :: l)) v)) (hx : Hid (GoodE x)) (L : Hid (Laid w)) :
 Calls Tryd.prog 70 #[v] w fun e w' => e = .returned (.string (bstr x.txt)) ∧ Below w.heap.size w w':=by
 have h0:=h.out
 unfold exsE at h0
 cases h0 with
 | node g cap cs fr vs hg hb hne hc hk =>
  have hk0:=hk 0 x rfl
  obtain ⟨p,c,hv⟩:=hk0.form
  have hcs:=hc 0 x rfl
  rw [hv] at hcs hk0
  have hE : Hid (IsEx 0 w x (.slice p x.ks.length c)):=hid (hk0.toEx fun _ _ => Nat.zero_le _)
  have k0 : w.cell? ⟨g,0,none⟩ = some (.int .i64 x.k):=by (rw [cell_of_row _ _ _ _ _ _ hb];exact hcs 0 _ rfl)
  have k1 : w.cell? ⟨g,1,none⟩ = some (.int .i64 x.op):=by (rw [cell_of_row _ _ _ _ _ _ hb];exact hcs 1 _ rfl)
  have k2 : w.cell? ⟨g,2,none⟩ = some (.int .i64 x.n):=by (rw [cell_of_row _ _ _ _ _ _ hb];exact hcs 2 _ rfl)
  have k3 : w.cell? ⟨g,3,none⟩ = some (.string (bstr x.nm)):=by (rw [cell_of_row _ _ _ _ _ _ hb];exact hcs 3 _ rfl)
  have k4 : w.cell? ⟨g,4,none⟩ = some (.slice p x.ks.length c):=by (rw [cell_of_row _ _ _ _ _ _ hb];exact hcs 4 _ rfl)
  have k5 : w.cell? ⟨g,5,none⟩ = some (.int .i64 x.a):=by (rw [cell_of_row _ _ _ _ _ _ hb];exact hcs 5 _ rfl)
  have hgl : g < w.heap.size:=(Array.getElem?_eq_some_iff.1 hb).1
  obtain ⟨N,hN,hN0⟩ : ∃ N,(x :: l).length = N ∧ 0 < N:=⟨_,rfl,by simp⟩
  have hln : ((N : Int) == 0) = false:=by simp;omega
  have hl0 : (0 : Int) < (N : Int):=by omega
  clear hc hk hb hcs hk0 hv
  have hc9 : x.cnt < 1000000000:=Nat.lt_of_lt_of_le hx.out.1 (by decide)
  have hnm : Hid (Nums x):=hid hx.out.2.1
  have hT9 : Hid (x.txt.length ≤ 1000000000):=hid (Nat.le_trans hx.out.2.2.1 (by decide))
  have HC:=shows_any x hc9 hnm p c w hE L x.txt (hid rfl) hT9
  have HCC:=hid HC
  rw [hN]
  clear hN HC
  go_enter Tryd.func70,Tryd.ntmps70
  go_wp2_with (go_at_call 51;(with_reducible refine (HCC.out).mono ?_);rintro e1 w1 ⟨rfl,hb1⟩)
  go_ret
  exact ⟨rfl,hb1⟩
theorem only_any {ok : Nat → Prop} {l : List Ex} {v : Value} {w : World} (h : Hid (IsExP ok w (exsE l) v)) (hx : Hid (∀ x ∈ l,GoodE x)) (L : Hid (Laid w)) :
 Calls Tryd.prog 70 #[v] w fun e w' => e = .returned (.string (bstr (onlyT l))) ∧ Below w.heap.size w w':=by
 cases l with
 | nil =>
  have h0:=h.out
  unfold exsE at h0
  cases h0 with
  | leaf => exact only_nil _ _ _
  | node _ _ _ _ _ _ _ hne => exact absurd rfl hne
 | cons x r => exact only_cons h (hid (hx.out x (.head _))) L
theorem byteCells_append (a b : List UInt8) : Lib.byteCells (a ++ b) = Lib.byteCells a ++ Lib.byteCells b:=by simp [Lib.byteCells]
theorem strCells_bstr (a : List UInt8) : Lib.strCells (bstr a) = Lib.byteCells a:=rfl
def Strs (w : World) (g : Nat) (ps : List (List UInt8)) : Prop:=w.heap[g]? = some (.cells (ps.map fun p => Value.string (bstr p)).toArray 9 (0,0))
theorem Strs.at_ {w : World} {g : Nat} {ps : List (List UInt8)} (h : Strs w g ps) (k : Nat) (p : List UInt8) (hp : ps[k]? = some p) : w.cell? ⟨g,k,none⟩ = some (.string (bstr p)):=by
 rw [cell_of_row _ _ _ _ _ _ h]
 simp [hp]
theorem wr_tab (B b : Nat) (l : List UInt8) (tabs : Int) (w : World) (h : Hid (Wr B b (Lib.byteCells l) tabs w)) (hlen : l.length + 1 ≤ 140737488355328) (hBw : B ≤ w.heap.size) :
 Calls Tryd.prog 46 #[.pointer (some ⟨b,0,none⟩),.int .u8 9] w fun e w' => e = .returned .nilIface ∧ Wr B b (Lib.byteCells (l ++ [9])) tabs w' ∧ KW B b w w':=by
 have:=wr_byte B b (Lib.byteCells l) tabs 9 w h (by rw [Lib.byteCells_length];exact hlen) hBw
 rw [← byteCells_append] at this
 exact this
theorem wr_nl (B b : Nat) (l : List UInt8) (tabs : Int) (w : World) (h : Hid (Wr B b (Lib.byteCells l) tabs w)) (hlen : l.length + 1 ≤ 140737488355328) (hBw : B ≤ w.heap.size) :
 Calls Tryd.prog 46 #[.pointer (some ⟨b,0,none⟩),.int .u8 10] w fun e w' => e = .returned .nilIface ∧ Wr B b (Lib.byteCells (l ++ [10])) tabs w' ∧ KW B b w w':=by
 have:=wr_byte B b (Lib.byteCells l) tabs 10 w h (by rw [Lib.byteCells_length];exact hlen) hBw
 rw [← byteCells_append] at this
 exact this
theorem wr_part (B b : Nat) (l p : List UInt8) (tabs : Int) (w : World) (h : Hid (Wr B b (Lib.byteCells l) tabs w)) (hlen : l.length + p.length ≤ 140737488355328) (hBw : B ≤ w.heap.size) :
 Calls Tryd.prog 47 #[.pointer (some ⟨b,0,none⟩),.string (bstr p)] w fun e w' => e = .returned (.tuple #[.int .i64 (bstr p).size,.nilIface]) ∧ Wr B b (Lib.byteCells (l ++ p)) tabs w' ∧ KW B b w w':=by
 have:=wr_str B b (Lib.byteCells l) tabs (bstr p) w h (by rw [Lib.byteCells_length];exact hlen) hBw
 rw [strCells_bstr,← byteCells_append] at this
 exact this
theorem take_succ_flat (ps : List (List UInt8)) (k : Nat) (p : List UInt8) (h : ps[k]? = some p) : (ps.take (k + 1)).flatten = (ps.take k).flatten ++ p:=by
 rw [List.take_add_one,h]
 simp
theorem take_flat_le (ps : List (List UInt8)) (k : Nat) : (ps.take k).flatten.length ≤ ps.flatten.length:=by
 have h:=congrArg List.length (congrArg List.flatten (List.take_append_drop k ps))
 rw [List.flatten_append,List.length_append] at h
 omega
theorem line_any (B b g c : Nat) (bs : List UInt8) (tabs : Nat) (ps : List (List UInt8)) (w : World) (h : Hid (Wr B b (Lib.byteCells bs) tabs w)) (hp : Hid (Strs w g ps)) (hlen : bs.length + (lineT tabs ps).length ≤ 100000000000000) (hBw : B ≤ w.heap.size) (hps : ps.length ≤ 1000) :
 Calls Tryd.prog 20 #[.pointer (some ⟨b,0,none⟩),.slice (some ⟨g,0,none⟩) ps.length c] w fun e w' => e = .returned (.tuple #[]) ∧ Wr B b (Lib.byteCells (bs ++ lineT tabs ps)) tabs w' ∧ KW B b w w':=by
 rw [lineT_len] at hlen
 obtain ⟨c2,_⟩:=h.out.facts
 have hbl:=h.out.lt
 go_enter Tryd.func20,Tryd.ntmps20
 go_wp2
 go_loopw [10] (fun i wr => ∃ k : Nat,i = .int .i64 k ∧ k ≤ tabs ∧ Wr B b (Lib.byteCells (bs ++ List.replicate k 9)) tabs wr ∧ KW B b w wr) (fun i _ => tabs - (intOf i).toNat)
 case atStart => exact ⟨0,rfl,Nat.zero_le _,by simpa using h.out,KW.refl _ _ _⟩
 case round =>
  obtain ⟨k,rfl,hk,hW,hK⟩:=hrel
  have HW:=hid hW
  have HK:=hid hK
  have hzk:=hK.size
  have hpk:=hid ((KW.strs hK h.out hp.out : Strs wr g ps))
  by_cases hkt : k < tabs
  · have hlt : (k : Int) < (tabs : Int):=by omega
    clear hW hK
    go_wp2_with (go_at_call 46;(with_reducible refine (wr_tab B b _ tabs wr HW (by simp;omega) (by omega)).mono ?_);rintro e1 w1 ⟨rfl,hW1,hK1⟩)
    go_roundw
    case rel => exact ⟨k + 1,by go_num,by omega,by (rw [List.append_assoc] at hW1;rw [List.replicate_succ'];exact hW1),HK.out.trans hK1⟩
    case measure => simp [intOf];omega
  · have hlt : ¬ ((k : Int) < (tabs : Int)):=by omega
    obtain rfl : k = tabs:=by omega
    clear hW hK hkt hk
    go_wp2
    go_loopw [19] (fun i wx => ∃ j : Nat,i = .int .i64 j ∧ j ≤ ps.length ∧ Wr B b (Lib.byteCells (bs ++ List.replicate k 9 ++ (ps.take j).flatten)) k wx ∧ KW B b wr wx) (fun i _ => ps.length - (intOf i).toNat)
    case atStart => exact ⟨0,rfl,Nat.zero_le _,by simpa using HW.out,KW.refl _ _ _⟩
    case round =>
     obtain ⟨j,rfl,hj,hX,hKx⟩:=hrel
     have HX:=hid hX
     have HKx:=hid hKx
     have hzx:=hKx.size
     have hpx:=hid (show Strs _ g ps from KW.strs hKx HW.out hpk.out)
     have hfl:=take_flat_le ps j
     by_cases hjl : j < ps.length
     · obtain ⟨p,hpj⟩ : ∃ p,ps[j]? = some p:=⟨ps[j],List.getElem?_eq_getElem hjl⟩
       have hcell:=hpx.out.at_ j p hpj
       have hgl:=(Array.getElem?_eq_some_iff.1 hpx.out).1
       have hlt2 : (j : Int) < (ps.length : Int):=by omega
       have hj0 : (0 : Int) ≤ (j : Int):=Int.natCast_nonneg _
       have hfl2:=take_flat_le ps (j + 1)
       have hfl3:=congrArg List.length (take_succ_flat ps j p hpj)
       rw [List.length_append] at hfl3
       have HJ:=hid hpj
       have HBN : (bs ++ List.replicate k 9 ++ (ps.take j).flatten).length + p.length ≤ 140737488355328:=by rw [List.length_append,List.length_append,List.length_replicate];omega
       clear hX hKx hpj
       go_wp2_with (go_at_call 47;(with_reducible refine (wr_part B b _ p k _ HX HBN (by omega)).mono ?_);rintro e1 w1 ⟨rfl,hW1,hK1⟩)
       go_roundw
       case rel =>
        refine ⟨j + 1,by go_num,Nat.succ_le_of_lt hjl,?_,HKx.out.trans hK1⟩
        rw [take_succ_flat ps j p HJ.out,← List.append_assoc]
        exact hW1
       case measure =>
        simp [intOf]
        omega
     · have hlt2 : ¬ ((j : Int) < (ps.length : Int)):=by omega
       obtain rfl : j = ps.length:=by omega
       have HBN : (bs ++ List.replicate k 9 ++ (ps.take ps.length).flatten).length + 1 ≤ 140737488355328:=by rw [List.length_append,List.length_append,List.length_replicate];omega
       clear hX hKx hjl hj
       go_wp2_with (go_at_call 46;(with_reducible refine (wr_nl B b _ k _ HX HBN (by omega)).mono ?_);rintro e1 w1 ⟨rfl,hW1,hK1⟩)
       go_end0
       refine ⟨rfl,?_,(HK.out.trans HKx.out).trans hK1⟩
       have e : bs ++ lineT k ps = bs ++ List.replicate k 9 ++ (ps.take ps.length).flatten ++ [10]:=by simp [lineT]
       rw [e]
       exact hW1
theorem line_at (B b g c n : Nat) (bs : List UInt8) (tabs : Nat) (ps : List (List UInt8)) (hn : ps.length = n) (T : List UInt8) (hT : lineT tabs ps = T) (cs : Array Value) (hcs : Hid (cs = (ps.map fun p => Value.string (bstr p)).toArray)) (w : World) (h : Hid (Wr B b (Lib.byteCells bs) tabs w)) (hp : w.heap[g]? = some (.cells cs 9 (0,0))) (hlen : bs.length + T.length ≤ 100000000000000) (hBw : B ≤ w.heap.size) (hps : n ≤ 1000) :
 Calls Tryd.prog 20 #[.pointer (some ⟨b,0,none⟩),.slice (some ⟨g,0,none⟩) n c] w fun e w' => e = .returned (.tuple #[]) ∧ Wr B b (Lib.byteCells (bs ++ T)) tabs w' ∧ KW B b w w':=by
 subst hn hT
 exact line_any B b g c bs tabs ps w h (hid (by (unfold Strs;rw [← hcs.out];exact hp))) hlen hBw hps
theorem below_of_alloc (W : World) (o : Obj) : Below W.heap.size W (W.alloc o):=(Below.refl _ _).alloc (Nat.le_refl _) _
theorem below_ch {W a c : World} (h : Below W.heap.size W a) (k : Below a.heap.size a c) : Below W.heap.size W c :=
 ⟨k.os.trans h.os,k.tape.trans h.tape,k.output.trans h.output,Nat.le_trans h.size k.size,fun i hi => (k.block i (Nat.lt_of_lt_of_le hi h.size)).trans (h.block i hi)⟩
theorem IsSt1.slices {ok : Nat → Prop} {W : World} {s : Stm} {v : SV} (h : IsSt1 ok W s v) : ∃ z1 k1 z2 k2 z3 k3 z4 k4,v = ⟨.slice z1 s.ix.length k1,.slice z2 s.es.length k2,.slice z3 s.bd.length k3,.slice z4 s.el.length k4⟩:=by
 obtain ⟨h1,h2,h3,h4⟩:=h
 obtain ⟨z1,k1,e1⟩:=h1.form
 obtain ⟨z2,k2,e2⟩:=h2.form
 obtain ⟨z3,k3,e3⟩:=h3.form
 obtain ⟨z4,k4,e4⟩:=h4.form
 refine ⟨z1,k1,z2,k2,z3,k3,z4,k4,?_⟩
 cases v
 simp only at e1 e2 e3 e4
 rw [e1,e2,e3,e4]
 rfl
theorem index_any {ok : Nat → Prop} {l : List Ex} {v : Value} {w : World} (h : Hid (IsExP ok w (exsE l) v)) (hx : Hid (∀ x ∈ l,GoodE x)) (L : Hid (Laid w)) :
 Calls Tryd.prog 71 #[v] w fun e w' => e = .returned (.string (bstr (indexT l))) ∧ Below w.heap.size w w':=by
 obtain ⟨p,c,rfl⟩:=h.out.form
 cases l with
 | nil =>
  go_enter Tryd.func71,Tryd.ntmps71
  go_wp2
  go_ret
  exact ⟨rfl,by (refine Fr.below ?_;(with_reducible repeat first | exact Fr.refl _ _ | refine Fr.alloc ?_ _ | refine Fr.drewN ?_ _ | refine Fr.drew ?_ | (refine Fr.set ?_ ?_ _ _;rotate_left;first | exact .inl rfl | (right;simp;done) | (right;simp;omega) | (right;omega)) | refine Fr.step ?_ (by assumption) | refine Fr.stepB ?_ (by assumption)))⟩
 | cons x r =>
  obtain ⟨N,hN,hN0⟩ : ∃ N,(exsE (x :: r)).ks.length = N ∧ 0 < N:=⟨_,rfl,by simp [exsE,Ex.ks]⟩
  have hln : ((N : Int) == 0) = false:=by simp;omega
  have HO:=only_any h hx L
  have hsz:=(hx.out x (.head _)).2.2.1
  rw [hN] at HO ⊢
  obtain ⟨T,hT⟩ : ∃ T,onlyT (x :: r) = T:=⟨_,rfl⟩
  have hTl : T.length ≤ 1000000:=hT ▸ hsz
  rw [hT] at HO
  have e : indexT (x :: r) = 91 :: (T ++ [93]):=by rw [← hT];rfl
  rw [e]
  have HO':=hid HO
  have hb : (bstr T).size ≤ 1000000:=hTl
  have hcat : ¬ 9223372036854775807 < (⟨#[91]⟩ : ByteArray).size + (bstr T).size:=by (have : (⟨#[91]⟩ : ByteArray).size = 1:=rfl;omega)
  have hcat2 : ¬ 9223372036854775807 < ((⟨#[91]⟩ : ByteArray) ++ bstr T).size + (⟨#[93]⟩ : ByteArray).size:=by (rw [ByteArray.size_append];have : (⟨#[91]⟩ : ByteArray).size = 1:=rfl;have : (⟨#[93]⟩ : ByteArray).size = 1:=rfl;omega)
  have hcat3 : (⟨#[91]⟩ : ByteArray).size + (bstr T).size ≤ 9223372036854775807:=by omega
  have hcat4 : ((⟨#[91]⟩ : ByteArray) ++ bstr T).size + (⟨#[93]⟩ : ByteArray).size ≤ 9223372036854775807:=by omega
  clear HO hN e hT hsz h hx L
  go_enter Tryd.func71,Tryd.ntmps71
  go_wp2_with (go_at_call 70;(with_reducible refine (HO'.out).mono ?_);rintro e1 w1 ⟨rfl,hb1⟩)
  go_ret
  refine ⟨?_,hb1⟩
  congr 2
theorem stm_let {B b tabs : Nat} {bs : List UInt8} {a : Int} {tr sc : Bool} {nm : List UInt8} {ix es : List Ex} {bd el : List Stm} {v : SV} {W : World} (HW0 : Wr B b (Lib.byteCells bs) tabs W) (HL0 : Laid W) (hBW : B ≤ W.heap.size) (HI : IsSt1 (fun g => 0 ≤ g) W (.mk 0 a tr sc nm ix es bd el) v) (HG : GoodS (.mk 0 a tr sc nm ix es bd el)) (HLEN : Hid (bs.length + (stT (.mk 0 a tr sc nm ix es bd el) tabs).length ≤ 100000000000000)) :
 Calls Tryd.prog 54 #[.pointer (some ⟨b,0,none⟩),.agg #[.int .i64 0,.int .i64 a,.bool tr,.bool sc,.string (bstr nm),v.i,v.e,v.b,v.l]] W fun e w' => e = .returned (.tuple #[]) ∧ Wr B b (Lib.byteCells (bs ++ stT (.mk 0 a tr sc nm ix es bd el) tabs)) tabs w' ∧ KW B b W w':=by
 obtain ⟨z1,k1,z2,k2,z3,k3,z4,k4,rfl⟩:=HI.slices
 obtain ⟨y1,hy1⟩ : ∃ y,(Stm.mk 0 a tr sc nm ix es bd el).ix.length = y:=⟨_,rfl⟩
 obtain ⟨y2,hy2⟩ : ∃ y,(Stm.mk 0 a tr sc nm ix es bd el).es.length = y:=⟨_,rfl⟩
 obtain ⟨y3,hy3⟩ : ∃ y,(Stm.mk 0 a tr sc nm ix es bd el).bd.length = y:=⟨_,rfl⟩
 obtain ⟨y4,hy4⟩ : ∃ y,(Stm.mk 0 a tr sc nm ix es bd el).el.length = y:=⟨_,rfl⟩
 rw [hy1,hy2,hy3,hy4] at HI ⊢
 clear hy1 hy2 hy3 hy4
 cases HG with
 | mk _ _ g1 g2 g3 g4 g5 =>
 replace g3:=g3.len
 obtain ⟨i1,i2,_,_⟩:=HI
 obtain ⟨T,hT⟩ : ∃ T,stT (.mk 0 a tr sc nm ix es bd el) tabs = T:=⟨_,rfl⟩
 rw [hT] at HLEN ⊢
 have HT : Hid (lineT tabs [tVar,typeT tr sc,[32],nm,tEq,onlyT es,[59]] = T):=hid (by (rw [← hT];simp [stT]))
 have HCS : Hid ((#[.string ⟨#[118,97,114,32]⟩,.string (bstr (typeT tr sc)),.string ⟨#[32]⟩,.string (bstr (nm)),.string ⟨#[32,61,32]⟩,.string (bstr (onlyT es)),.string ⟨#[59]⟩] : Array Value) = ([tVar,typeT tr sc,[32],nm,tEq,onlyT es,[59]].map fun p => Value.string (bstr p)).toArray):=hid (by rfl)
 go_enter Tryd.func54,Tryd.ntmps54
 have HC0:=below_of_alloc W (.cells #[.int .i64 0,.int .i64 a,.bool tr,.bool sc,.string (bstr nm),.slice z1 y1 k1,.slice z2 y2 k2,.slice z3 y3 k3,.slice z4 y4 k4] 46)
 have SB0:=SBlk.new (X:=W) (n:=W.heap.size) (k:=0) (a:=a) (tr:=tr) (sc:=sc) (nm:=bstr nm) (vi:=.slice z1 y1 k1) (ve:=.slice z2 y2 k2) (vb:=.slice z3 y3 k3) (vl:=.slice z4 y4 k4) rfl
 obtain ⟨sl,⟨sc0,sc1,sc2,sc3,sc4,sc5,sc6,sc7,sc8⟩,_⟩:=SB0.facts
 go_upto_region 3 with (fail)
 clear sl sc0 sc1 sc2 sc3 sc4 sc5 sc6 sc7 sc8
 refine name_world ?_
 intro W1 hW1
 rw [← hW1] at HC0 SB0
 clear hW1
 have H1 : Hid (IsExP (fun g => 0 ≤ g) W1 (exsE ix) (.slice z1 y1 k1) ∧ ∀ x ∈ ix,GoodE x):=hid ⟨i1.stay HC0,g1⟩
 have H2 : Hid (IsExP (fun g => 0 ≤ g) W1 (exsE es) (.slice z2 y2 k2) ∧ ∀ x ∈ es,GoodE x):=hid ⟨i2.stay HC0,g2⟩
 have HW:=hid (HW0.stay HC0)
 have HL:=hid (HL0.below HC0)
 have SB:=hid SB0
 have HC : Hid (Below W1.heap.size W1 W1.drew):=hid ((Below.refl _ _).drew)
 have SBN:=hid (SB.out.stay HC.out)
 have HK : Hid (KW B b W W1):=hid (KW.below hBW HC0)
 have hB1 : B ≤ W1.heap.size:=Nat.le_trans hBW HC0.size
 obtain ⟨sl,⟨sc0,sc1,sc2,sc3,sc4,sc5,sc6,sc7,sc8⟩,_⟩:=SBN.out.facts
 clear i1 i2 g1 g2 g3 g4 g5 HW0 HL0 hT SB0 HC0
 go_region_law (first
  | (go_simp;go_at_call 13;(with_reducible refine (type_any _ _ _).mono ?_);rintro e1 wt ⟨rfl,hbt⟩;replace HC:=hid (below_ch HC.out hbt);have SBN:=hid (SB.out.stay HC.out);obtain ⟨sl,⟨sc0,sc1,sc2,sc3,sc4,sc5,sc6,sc7,sc8⟩,_⟩:=SBN.out.facts;clear hbt)
  | (go_simp;go_at_call 70;(with_reducible refine (only_any (hid (H2.out.1.stay HC.out)) (hid H2.out.2) (hid (HL.out.below HC.out))).mono ?_);rintro e1 wt ⟨rfl,hbt⟩;replace HC:=hid (below_ch HC.out hbt);have SBN:=hid (SB.out.stay HC.out);obtain ⟨sl,⟨sc0,sc1,sc2,sc3,sc4,sc5,sc6,sc7,sc8⟩,_⟩:=SBN.out.facts;clear hbt)
  | (go_simp;go_at_call 20;(with_reducible refine (line_at B b _ _ 7 bs tabs [tVar,typeT tr sc,[32],nm,tEq,onlyT es,[59]] rfl T HT.out _ HCS _ (hid ((HW.out.stay HC.out).alloc _)) (heap_alloc_new _ _) HLEN.out (by (have:=HC.out.size;simp;omega)) (by decide)).mono ?_);rintro e9 w9 ⟨rfl,hw9,hk9⟩))
 all_goals first
  | (go_end0;exact ⟨rfl,hw9,HK.out.trans ((KW.below hB1 HC.out).trans ((KW.alloc (.refl _ _ _) (by (have:=HC.out.size;omega)) _).trans hk9))⟩)
  | (((try simp only [Exit.inBlock,Exit.then]);refine bodyPost_ret (results_none rfl _ _ _) rfl ?_);exact ⟨rfl,hw9,HK.out.trans ((KW.below hB1 HC.out).trans ((KW.alloc (.refl _ _ _) (by (have:=HC.out.size;omega)) _).trans hk9))⟩)
theorem stm_asg {B b tabs : Nat} {bs : List UInt8} {a : Int} {tr sc : Bool} {nm : List UInt8} {ix es : List Ex} {bd el : List Stm} {v : SV} {W : World} (HW0 : Wr B b (Lib.byteCells bs) tabs W) (HL0 : Laid W) (hBW : B ≤ W.heap.size) (HI : IsSt1 (fun g => 0 ≤ g) W (.mk 1 a tr sc nm ix es bd el) v) (HG : GoodS (.mk 1 a tr sc nm ix es bd el)) (HLEN : Hid (bs.length + (stT (.mk 1 a tr sc nm ix es bd el) tabs).length ≤ 100000000000000)) :
 Calls Tryd.prog 54 #[.pointer (some ⟨b,0,none⟩),.agg #[.int .i64 1,.int .i64 a,.bool tr,.bool sc,.string (bstr nm),v.i,v.e,v.b,v.l]] W fun e w' => e = .returned (.tuple #[]) ∧ Wr B b (Lib.byteCells (bs ++ stT (.mk 1 a tr sc nm ix es bd el) tabs)) tabs w' ∧ KW B b W w':=by
 obtain ⟨z1,k1,z2,k2,z3,k3,z4,k4,rfl⟩:=HI.slices
 obtain ⟨y1,hy1⟩ : ∃ y,(Stm.mk 1 a tr sc nm ix es bd el).ix.length = y:=⟨_,rfl⟩
 obtain ⟨y2,hy2⟩ : ∃ y,(Stm.mk 1 a tr sc nm ix es bd el).es.length = y:=⟨_,rfl⟩
 obtain ⟨y3,hy3⟩ : ∃ y,(Stm.mk 1 a tr sc nm ix es bd el).bd.length = y:=⟨_,rfl⟩
 obtain ⟨y4,hy4⟩ : ∃ y,(Stm.mk 1 a tr sc nm ix es bd el).el.length = y:=⟨_,rfl⟩
 rw [hy1,hy2,hy3,hy4] at HI ⊢
 clear hy1 hy2 hy3 hy4
 cases HG with
 | mk _ _ g1 g2 g3 g4 g5 =>
 replace g3:=g3.len
 obtain ⟨i1,i2,_,_⟩:=HI
 obtain ⟨T,hT⟩ : ∃ T,stT (.mk 1 a tr sc nm ix es bd el) tabs = T:=⟨_,rfl⟩
 rw [hT] at HLEN ⊢
 have HT : Hid (lineT tabs [nm,indexT ix,tEq,onlyT es,[59]] = T):=hid (by (rw [← hT];simp [stT]))
 have HCS : Hid ((#[.string (bstr (nm)),.string (bstr (indexT ix)),.string ⟨#[32,61,32]⟩,.string (bstr (onlyT es)),.string ⟨#[59]⟩] : Array Value) = ([nm,indexT ix,tEq,onlyT es,[59]].map fun p => Value.string (bstr p)).toArray):=hid (by rfl)
 go_enter Tryd.func54,Tryd.ntmps54
 have HC0:=below_of_alloc W (.cells #[.int .i64 1,.int .i64 a,.bool tr,.bool sc,.string (bstr nm),.slice z1 y1 k1,.slice z2 y2 k2,.slice z3 y3 k3,.slice z4 y4 k4] 46)
 have SB0:=SBlk.new (X:=W) (n:=W.heap.size) (k:=1) (a:=a) (tr:=tr) (sc:=sc) (nm:=bstr nm) (vi:=.slice z1 y1 k1) (ve:=.slice z2 y2 k2) (vb:=.slice z3 y3 k3) (vl:=.slice z4 y4 k4) rfl
 obtain ⟨sl,⟨sc0,sc1,sc2,sc3,sc4,sc5,sc6,sc7,sc8⟩,_⟩:=SB0.facts
 go_upto_region 5 with (fail)
 clear sl sc0 sc1 sc2 sc3 sc4 sc5 sc6 sc7 sc8
 refine name_world ?_
 intro W1 hW1
 rw [← hW1] at HC0 SB0
 clear hW1
 have H1 : Hid (IsExP (fun g => 0 ≤ g) W1 (exsE ix) (.slice z1 y1 k1) ∧ ∀ x ∈ ix,GoodE x):=hid ⟨i1.stay HC0,g1⟩
 have H2 : Hid (IsExP (fun g => 0 ≤ g) W1 (exsE es) (.slice z2 y2 k2) ∧ ∀ x ∈ es,GoodE x):=hid ⟨i2.stay HC0,g2⟩
 have HW:=hid (HW0.stay HC0)
 have HL:=hid (HL0.below HC0)
 have SB:=hid SB0
 have HC : Hid (Below W1.heap.size W1 W1.drew):=hid ((Below.refl _ _).drew)
 have SBN:=hid (SB.out.stay HC.out)
 have HK : Hid (KW B b W W1):=hid (KW.below hBW HC0)
 have hB1 : B ≤ W1.heap.size:=Nat.le_trans hBW HC0.size
 obtain ⟨sl,⟨sc0,sc1,sc2,sc3,sc4,sc5,sc6,sc7,sc8⟩,_⟩:=SBN.out.facts
 clear i1 i2 g1 g2 g3 g4 g5 HW0 HL0 hT SB0 HC0
 go_region_law (first
  | (go_simp;go_at_call 71;(with_reducible refine (index_any (hid (H1.out.1.stay HC.out)) (hid H1.out.2) (hid (HL.out.below HC.out))).mono ?_);rintro e1 wt ⟨rfl,hbt⟩;replace HC:=hid (below_ch HC.out hbt);have SBN:=hid (SB.out.stay HC.out);obtain ⟨sl,⟨sc0,sc1,sc2,sc3,sc4,sc5,sc6,sc7,sc8⟩,_⟩:=SBN.out.facts;clear hbt)
  | (go_simp;go_at_call 70;(with_reducible refine (only_any (hid (H2.out.1.stay HC.out)) (hid H2.out.2) (hid (HL.out.below HC.out))).mono ?_);rintro e1 wt ⟨rfl,hbt⟩;replace HC:=hid (below_ch HC.out hbt);have SBN:=hid (SB.out.stay HC.out);obtain ⟨sl,⟨sc0,sc1,sc2,sc3,sc4,sc5,sc6,sc7,sc8⟩,_⟩:=SBN.out.facts;clear hbt)
  | (go_simp;go_at_call 20;(with_reducible refine (line_at B b _ _ 5 bs tabs [nm,indexT ix,tEq,onlyT es,[59]] rfl T HT.out _ HCS _ (hid ((HW.out.stay HC.out).alloc _)) (heap_alloc_new _ _) HLEN.out (by (have:=HC.out.size;simp;omega)) (by decide)).mono ?_);rintro e9 w9 ⟨rfl,hw9,hk9⟩))
 all_goals first
  | (go_end0;exact ⟨rfl,hw9,HK.out.trans ((KW.below hB1 HC.out).trans ((KW.alloc (.refl _ _ _) (by (have:=HC.out.size;omega)) _).trans hk9))⟩)
  | (((try simp only [Exit.inBlock,Exit.then]);refine bodyPost_ret (results_none rfl _ _ _) rfl ?_);exact ⟨rfl,hw9,HK.out.trans ((KW.below hB1 HC.out).trans ((KW.alloc (.refl _ _ _) (by (have:=HC.out.size;omega)) _).trans hk9))⟩)
theorem stm_out {B b tabs : Nat} {bs : List UInt8} {a : Int} {tr sc : Bool} {nm : List UInt8} {ix es : List Ex} {bd el : List Stm} {v : SV} {W : World} (HW0 : Wr B b (Lib.byteCells bs) tabs W) (HL0 : Laid W) (hBW : B ≤ W.heap.size) (HI : IsSt1 (fun g => 0 ≤ g) W (.mk 5 a tr sc nm ix es bd el) v) (HG : GoodS (.mk 5 a tr sc nm ix es bd el)) (HLEN : Hid (bs.length + (stT (.mk 5 a tr sc nm ix es bd el) tabs).length ≤ 100000000000000)) :
 Calls Tryd.prog 54 #[.pointer (some ⟨b,0,none⟩),.agg #[.int .i64 5,.int .i64 a,.bool tr,.bool sc,.string (bstr nm),v.i,v.e,v.b,v.l]] W fun e w' => e = .returned (.tuple #[]) ∧ Wr B b (Lib.byteCells (bs ++ stT (.mk 5 a tr sc nm ix es bd el) tabs)) tabs w' ∧ KW B b W w':=by
 obtain ⟨z1,k1,z2,k2,z3,k3,z4,k4,rfl⟩:=HI.slices
 obtain ⟨y1,hy1⟩ : ∃ y,(Stm.mk 5 a tr sc nm ix es bd el).ix.length = y:=⟨_,rfl⟩
 obtain ⟨y2,hy2⟩ : ∃ y,(Stm.mk 5 a tr sc nm ix es bd el).es.length = y:=⟨_,rfl⟩
 obtain ⟨y3,hy3⟩ : ∃ y,(Stm.mk 5 a tr sc nm ix es bd el).bd.length = y:=⟨_,rfl⟩
 obtain ⟨y4,hy4⟩ : ∃ y,(Stm.mk 5 a tr sc nm ix es bd el).el.length = y:=⟨_,rfl⟩
 rw [hy1,hy2,hy3,hy4] at HI ⊢
 clear hy1 hy2 hy3 hy4
 cases HG with
 | mk _ _ g1 g2 g3 g4 g5 =>
 replace g3:=g3.len
 obtain ⟨i1,i2,_,_⟩:=HI
 obtain ⟨T,hT⟩ : ∃ T,stT (.mk 5 a tr sc nm ix es bd el) tabs = T:=⟨_,rfl⟩
 rw [hT] at HLEN ⊢
 have HT : Hid (lineT tabs [tOut,onlyT es,[59]] = T):=hid (by (rw [← hT];simp [stT]))
 have HCS : Hid ((#[.string ⟨#[111,117,116,32]⟩,.string (bstr (onlyT es)),.string ⟨#[59]⟩] : Array Value) = ([tOut,onlyT es,[59]].map fun p => Value.string (bstr p)).toArray):=hid (by rfl)
 go_enter Tryd.func54,Tryd.ntmps54
 have HC0:=below_of_alloc W (.cells #[.int .i64 5,.int .i64 a,.bool tr,.bool sc,.string (bstr nm),.slice z1 y1 k1,.slice z2 y2 k2,.slice z3 y3 k3,.slice z4 y4 k4] 46)
 have SB0:=SBlk.new (X:=W) (n:=W.heap.size) (k:=5) (a:=a) (tr:=tr) (sc:=sc) (nm:=bstr nm) (vi:=.slice z1 y1 k1) (ve:=.slice z2 y2 k2) (vb:=.slice z3 y3 k3) (vl:=.slice z4 y4 k4) rfl
 obtain ⟨sl,⟨sc0,sc1,sc2,sc3,sc4,sc5,sc6,sc7,sc8⟩,_⟩:=SB0.facts
 go_upto_region 13 with (fail)
 clear sl sc0 sc1 sc2 sc3 sc4 sc5 sc6 sc7 sc8
 refine name_world ?_
 intro W1 hW1
 rw [← hW1] at HC0 SB0
 clear hW1
 have H1 : Hid (IsExP (fun g => 0 ≤ g) W1 (exsE ix) (.slice z1 y1 k1) ∧ ∀ x ∈ ix,GoodE x):=hid ⟨i1.stay HC0,g1⟩
 have H2 : Hid (IsExP (fun g => 0 ≤ g) W1 (exsE es) (.slice z2 y2 k2) ∧ ∀ x ∈ es,GoodE x):=hid ⟨i2.stay HC0,g2⟩
 have HW:=hid (HW0.stay HC0)
 have HL:=hid (HL0.below HC0)
 have SB:=hid SB0
 have HC : Hid (Below W1.heap.size W1 W1):=hid (Below.refl _ _)
 have SBN:=hid (SB.out.stay HC.out)
 have HK : Hid (KW B b W W1):=hid (KW.below hBW HC0)
 have hB1 : B ≤ W1.heap.size:=Nat.le_trans hBW HC0.size
 obtain ⟨sl,⟨sc0,sc1,sc2,sc3,sc4,sc5,sc6,sc7,sc8⟩,_⟩:=SBN.out.facts
 clear i1 i2 g1 g2 g3 g4 g5 HW0 HL0 hT SB0 HC0
 go_wp2_with (first
  | (go_simp;go_at_call 70;(with_reducible refine (only_any (hid (H2.out.1.stay HC.out)) (hid H2.out.2) (hid (HL.out.below HC.out))).mono ?_);rintro e1 wt ⟨rfl,hbt⟩;replace HC:=hid (below_ch HC.out hbt);have SBN:=hid (SB.out.stay HC.out);obtain ⟨sl,⟨sc0,sc1,sc2,sc3,sc4,sc5,sc6,sc7,sc8⟩,_⟩:=SBN.out.facts;clear hbt)
  | (go_simp;go_at_call 20;(with_reducible refine (line_at B b _ _ 3 bs tabs [tOut,onlyT es,[59]] rfl T HT.out _ HCS _ (hid ((HW.out.stay HC.out).alloc _)) (heap_alloc_new _ _) HLEN.out (by (have:=HC.out.size;simp;omega)) (by decide)).mono ?_);rintro e9 w9 ⟨rfl,hw9,hk9⟩))
 all_goals first
  | (go_end0;exact ⟨rfl,hw9,HK.out.trans ((KW.below hB1 HC.out).trans ((KW.alloc (.refl _ _ _) (by (have:=HC.out.size;omega)) _).trans hk9))⟩)
  | (((try simp only [Exit.inBlock,Exit.then]);refine bodyPost_ret (results_none rfl _ _ _) rfl ?_);exact ⟨rfl,hw9,HK.out.trans ((KW.below hB1 HC.out).trans ((KW.alloc (.refl _ _ _) (by (have:=HC.out.size;omega)) _).trans hk9))⟩)
def GSts (N : Nat) : Prop:=∀ (l : List Stm) (B b tabs : Nat) (bs : List UInt8) (W : World) (v : Value),cntS l ≤ N → (∀ s ∈ l,GoodS s) → Wr B b (Lib.byteCells bs) tabs W → LB B W → B ≤ W.heap.size → IsSts (fun g => 0 ≤ g) W l v → tabs + cntS l ≤ 1000000 → bs.length + (stsT l tabs).length ≤ 100000000000000 →
 Calls Tryd.prog 29 #[.pointer (some ⟨b,0,none⟩),v] W fun e w' => e = .returned (.tuple #[]) ∧ Wr B b (Lib.byteCells (bs ++ stsT l tabs)) tabs w' ∧ KW B b W w'
theorem GSts.use {N : Nat} (h : GSts N) {l : List Stm} {B b : Nat} {tabs : Nat} {bs : List UInt8} {W : World} {v : Value} (T : List UInt8) (hT : stsT l tabs = T) (hN : cntS l ≤ N) (hg : ∀ s ∈ l,GoodS s) (hw : Hid (Wr B b (Lib.byteCells bs) tabs W)) (hL : Hid (LB B W)) (hB : B ≤ W.heap.size) (hi : Hid (IsSts (fun g => 0 ≤ g) W l v)) (ht : tabs + cntS l ≤ 1000000) (hlen : bs.length + T.length ≤ 100000000000000) :
 Calls Tryd.prog 29 #[.pointer (some ⟨b,0,none⟩),v] W fun e w' => e = .returned (.tuple #[]) ∧ Wr B b (Lib.byteCells (bs ++ T)) tabs w' ∧ KW B b W w':=by
 subst hT
 exact h l B b tabs bs W v hN hg hw.out hL.out hB hi.out ht hlen
theorem within_any {N : Nat} (HG : Hid (GSts N)) {l : List Stm} {B b tabs : Nat} {bs : List UInt8} {W : World} {v : Value} (T : List UInt8) (hT : Hid (stsT l (tabs + 1) = T)) (hN : cntS l ≤ N) (hg : Hid (∀ s ∈ l,GoodS s)) (hw : Hid (Wr B b (Lib.byteCells bs) tabs W)) (hL : Hid (LB B W)) (hB : B ≤ W.heap.size) (hi : Hid (IsSts (fun g => 0 ≤ g) W l v)) (ht : tabs + 1 + cntS l ≤ 1000000) (hlen : bs.length + T.length ≤ 100000000000000) :
 Calls Tryd.prog 50 #[.pointer (some ⟨b,0,none⟩),v] W fun e w' => e = .returned (.tuple #[]) ∧ Wr B b (Lib.byteCells (bs ++ T)) tabs w' ∧ KW B b W w':=by
 obtain ⟨c2,f2⟩:=hw.out.facts
 have hbl:=hw.out.lt
 go_enter Tryd.func50,Tryd.ntmps50
 go_upto_region 1 with (fail)
 refine name_world ?_
 intro W1 hW1
 have hd1 : ((tabs + 1 : Nat) : Int) = (tabs : Int) + 1:=by omega
 obtain ⟨hs1,hs2⟩:=hw.out.set2 (((tabs + 1 : Nat) : Int))
 have HW1 : Hid (Wr B b (Lib.byteCells bs) ((tabs + 1 : Nat) : Int) W1):=hid (by (rw [hW1];exact hs1))
 have HK1 : Hid (KW B b W W1):=hid (by (rw [hW1];exact hs2))
 clear hW1 c2 f2 hs1 hs2 hd1
 have HL1:=hid (hL.out.b HK1.out.1)
 have HI1:=hid (hi.out.keptT (HK1.out.tree hw.out))
 have hz1:=HK1.out.size
 go_upto_region 2 with (go_at_call 29;(with_reducible refine (HG.out.use T hT.out hN hg.out HW1 HL1 (by omega) HI1 ht hlen).mono ?_);rintro e2 w2 ⟨rfl,hw2,hk2⟩)
 obtain ⟨O,hO⟩ : ∃ O : Int,O = ((tabs + 1 : Nat) : Int):=⟨_,rfl⟩
 have HW2 : Hid (Wr B b (Lib.byteCells (bs ++ T)) O w2):=hid (hO ▸ hw2)
 have HK2:=hid hk2
 obtain ⟨c2,f2⟩:=HW2.out.facts
 have hbl2:=HW2.out.lt
 have HO:=hid hO
 clear hw2 hk2 hO
 go_wp2
 go_end0
 have hwd : wrap64 (O - 1) = (tabs : Int):=by (rw [HO.out];unfold wrap64;omega)
 obtain ⟨hs1,hs2⟩:=HW2.out.set2 (wrap64 (O - 1))
 refine ⟨rfl,?_,(HK1.out.trans HK2.out).trans hs2⟩
 rw [hwd] at hs1 ⊢
 exact hs1
theorem SBlk.kw {X Y : World} {n : Nat} {k a : Int} {tr sc : Bool} {nm : ByteArray} {vi ve vb vl : Value} (h : SBlk X n k a tr sc nm vi ve vb vl) (hk : KeptT 0 X Y) : SBlk Y n k a tr sc nm vi ve vb vl:=(hk.2 n _ _ _ (Nat.zero_le _) h (.inl rfl)).trans h
theorem block_any {N : Nat} (HG : Hid (GSts N)) {l : List Stm} {B b tabs g c n : Nat} {bs : List UInt8} {W : World} {v : Value} (ps : List (List UInt8)) (hn : ps.length = n) (cs : Array Value) (hcs : Hid (cs = (ps.map fun p => Value.string (bstr p)).toArray)) (T1 T2 T3 : List UInt8) (hT1 : Hid (lineT tabs ps = T1)) (hT2 : Hid (stsT l (tabs + 1) = T2)) (hT3 : Hid (lineT tabs [[125]] = T3)) (hN : cntS l ≤ N) (hg : Hid (∀ s ∈ l,GoodS s)) (hw : Hid (Wr B b (Lib.byteCells bs) tabs W)) (hL : Hid (LB B W)) (hB : B ≤ W.heap.size) (hi : Hid (IsSts (fun g => 0 ≤ g) W l v)) (hp : W.heap[g]? = some (.cells cs 9 (0,0))) (ht : tabs + 1 + cntS l ≤ 1000000) (hlen : bs.length + (T1.length + (T2.length + T3.length)) ≤ 100000000000000) (hps : n ≤ 1000) :
 Calls Tryd.prog 24 #[.pointer (some ⟨b,0,none⟩),v,.slice (some ⟨g,0,none⟩) n c] W fun e w' => e = .returned (.tuple #[]) ∧ Wr B b (Lib.byteCells (bs ++ (T1 ++ (T2 ++ T3)))) tabs w' ∧ KW B b W w':=by
 have hcsB : Hid ((#[.string ⟨#[125]⟩] : Array Value) = ([[125]].map fun p => Value.string (bstr p)).toArray):=hid (by rfl)
 have hlA : (bs ++ T1).length + T2.length ≤ 100000000000000:=by (rw [List.length_append];omega)
 have hlB : (bs ++ T1 ++ T2).length + T3.length ≤ 100000000000000:=by (rw [List.length_append,List.length_append];omega)
 have hl1 : bs.length + T1.length ≤ 100000000000000:=by omega
 go_enter Tryd.func24,Tryd.ntmps24
 go_wp2_with (first
  | (go_at_call 20;(with_reducible refine (line_at B b g c n bs tabs ps hn T1 hT1.out cs hcs W hw hp hl1 hB hps).mono ?_);rintro e1 w1 ⟨rfl,hw1,hk1⟩;have HI1:=hid (hi.out.keptT (hk1.tree hw.out));have HL1:=hid (hL.out.b hk1.1);have hz1 : B ≤ w1.heap.size:=Nat.le_trans hB hk1.size)
  | (go_at_call 50;(with_reducible refine (within_any HG T2 hT2 hN hg (hid hw1) HL1 hz1 HI1 ht hlA).mono ?_);rintro e2 w2 ⟨rfl,hw2,hk2⟩;have hz2 : B ≤ w2.heap.size:=Nat.le_trans hz1 hk2.size)
  | (go_at_call 20;(with_reducible refine (line_at B b _ _ 1 _ tabs [[125]] rfl T3 hT3.out _ hcsB _ (hid (hw2.alloc _)) (heap_alloc_new _ _) hlB (by simp;omega) (by decide)).mono ?_);rintro e3 w3 ⟨rfl,hw3,hk3⟩))
 go_end0
 refine ⟨rfl,?_,(hk1.trans hk2).trans ((KW.alloc (.refl _ _ _) hz2 _).trans hk3)⟩
 rw [← List.append_assoc,← List.append_assoc]
 exact hw3
theorem stm_while {N B b tabs : Nat} {bs : List UInt8} {a : Int} {tr sc : Bool} {nm : List UInt8} {ix es : List Ex} {bd el : List Stm} {v : SV} {W : World} (HGS : Hid (GSts N)) (hN : cntS bd ≤ N ∧ cntS el ≤ N) (HW0 : Wr B b (Lib.byteCells bs) tabs W) (HLB0 : LB B W) (hBW : B ≤ W.heap.size) (HI : IsSt1 (fun g => 0 ≤ g) W (.mk 3 a tr sc nm ix es bd el) v) (HG : GoodS (.mk 3 a tr sc nm ix es bd el)) (ht : tabs + 1 + cntS bd ≤ 1000000 ∧ tabs + 1 + cntS el ≤ 1000000) (HLEN : bs.length + (stT (.mk 3 a tr sc nm ix es bd el) tabs).length ≤ 100000000000000) :
 Calls Tryd.prog 54 #[.pointer (some ⟨b,0,none⟩),.agg #[.int .i64 3,.int .i64 a,.bool tr,.bool sc,.string (bstr nm),v.i,v.e,v.b,v.l]] W fun e w' => e = .returned (.tuple #[]) ∧ Wr B b (Lib.byteCells (bs ++ stT (.mk 3 a tr sc nm ix es bd el) tabs)) tabs w' ∧ KW B b W w':=by
 obtain ⟨z1,k1,z2,k2,z3,k3,z4,k4,rfl⟩:=HI.slices
 obtain ⟨y1,hy1⟩ : ∃ y,(Stm.mk 3 a tr sc nm ix es bd el).ix.length = y:=⟨_,rfl⟩
 obtain ⟨y2,hy2⟩ : ∃ y,(Stm.mk 3 a tr sc nm ix es bd el).es.length = y:=⟨_,rfl⟩
 obtain ⟨y3,hy3⟩ : ∃ y,(Stm.mk 3 a tr sc nm ix es bd el).bd.length = y:=⟨_,rfl⟩
 obtain ⟨y4,hy4⟩ : ∃ y,(Stm.mk 3 a tr sc nm ix es bd el).el.length = y:=⟨_,rfl⟩
 rw [hy1,hy2,hy3,hy4] at HI ⊢
 clear hy1 hy2 hy3
 cases HG with
 | mk _ _ g1 g2 g3 g4 g5 =>
 have g3n:=g3
 replace g3:=g3.len
 obtain ⟨i1,i2,i3,i4⟩:=HI
 obtain ⟨T1,hT1⟩ : ∃ T,lineT tabs [tWhile,onlyT es,tBr] = T:=⟨_,rfl⟩
 obtain ⟨T2,hT2⟩ : ∃ T,stsT bd (tabs + 1) = T:=⟨_,rfl⟩
 obtain ⟨T3,hT3⟩ : ∃ T,lineT tabs [[125]] = T:=⟨_,rfl⟩
 have eT : stT (.mk 3 a tr sc nm ix es bd el) tabs = T1 ++ (T2 ++ T3):=by (rw [← hT1,← hT2,← hT3];simp [stT])
 rw [eT] at HLEN ⊢
 have hlen : bs.length + (T1.length + (T2.length + T3.length)) ≤ 100000000000000:=by (rw [List.length_append,List.length_append] at HLEN;exact HLEN)
 have HT1:=hid hT1
 have HT2:=hid hT2
 have HT3:=hid hT3
 clear eT HLEN hT1 hT2 hT3 hy4
 have HCS : Hid ((#[.string ⟨#[119,104,105,108,101,32,40]⟩,.string (bstr (onlyT es)),.string ⟨#[41,32,123]⟩] : Array Value) = ([tWhile,onlyT es,tBr].map fun p => Value.string (bstr p)).toArray):=hid (by rfl)
 go_enter Tryd.func54,Tryd.ntmps54
 have HC0:=below_of_alloc W (.cells #[.int .i64 3,.int .i64 a,.bool tr,.bool sc,.string (bstr nm),.slice z1 y1 k1,.slice z2 y2 k2,.slice z3 y3 k3,.slice z4 y4 k4] 46)
 have SB0:=SBlk.new (X:=W) (n:=W.heap.size) (k:=3) (a:=a) (tr:=tr) (sc:=sc) (nm:=bstr nm) (vi:=.slice z1 y1 k1) (ve:=.slice z2 y2 k2) (vb:=.slice z3 y3 k3) (vl:=.slice z4 y4 k4) rfl
 obtain ⟨sl,⟨sc0,sc1,sc2,sc3,sc4,sc5,sc6,sc7,sc8⟩,_⟩:=SB0.facts
 go_upto_region 9 with (fail)
 clear sl sc0 sc1 sc2 sc3 sc4 sc5 sc6 sc7 sc8
 refine name_world ?_
 intro W1 hW1
 rw [← hW1] at HC0 SB0
 clear hW1
 have H1 : Hid (IsExP (fun g => 0 ≤ g) W1 (exsE ix) (.slice z1 y1 k1) ∧ ∀ x ∈ ix,GoodE x):=hid ⟨i1.stay HC0,g1⟩
 have H2 : Hid (IsExP (fun g => 0 ≤ g) W1 (exsE es) (.slice z2 y2 k2) ∧ ∀ x ∈ es,GoodE x):=hid ⟨i2.stay HC0,g2⟩
 have H3 : Hid (IsSts (fun g => 0 ≤ g) W1 bd (.slice z3 y3 k3)):=hid (i3.kept fun g hg hl => ⟨HC0.block g hl,hg⟩)
 have H4 : Hid (IsSts (fun g => 0 ≤ g) W1 el (.slice z4 y4 k4)):=hid (i4.kept fun g hg hl => ⟨HC0.block g hl,hg⟩)
 have G4:=hid g4
 have G5:=hid g5
 have HW:=hid (HW0.stay HC0)
 have HL:=hid (HLB0.laid.below HC0)
 have HLB:=hid (HLB0.b (HC0.mono hBW))
 have SB:=hid SB0
 have HC : Hid (Below W1.heap.size W1 W1.drew):=hid ((Below.refl _ _).drew)
 have SBN:=hid (SB.out.stay HC.out)
 have HK : Hid (KW B b W W1):=hid (KW.below hBW HC0)
 have hB1 : B ≤ W1.heap.size:=Nat.le_trans hBW HC0.size
 obtain ⟨sl,⟨sc0,sc1,sc2,sc3,sc4,sc5,sc6,sc7,sc8⟩,_⟩:=SBN.out.facts
 clear i1 i2 i3 i4 g1 g2 g3 g4 g5 HW0 HLB0 SB0 HC0
 go_region_law (first
  | (go_simp;go_at_call 70;(with_reducible refine (only_any (hid (H2.out.1.stay HC.out)) (hid H2.out.2) (hid (HL.out.below HC.out))).mono ?_);rintro e1 wt ⟨rfl,hbt⟩;replace HC:=hid (below_ch HC.out hbt);have SBN:=hid (SB.out.stay HC.out);obtain ⟨sl,⟨sc0,sc1,sc2,sc3,sc4,sc5,sc6,sc7,sc8⟩,_⟩:=SBN.out.facts;clear hbt)
  | (go_simp;go_at_call 24;(with_reducible refine (block_any (n:=3) HGS [tWhile,onlyT es,tBr] rfl _ HCS T1 T2 T3 HT1 HT2 HT3 hN.1 G4 (hid ((HW.out.stay HC.out).alloc _)) (hid ((HLB.out.b (HC.out.mono hB1)).b ((Below.refl _ _).alloc (by (have:=HC.out.size;omega)) _))) (by (have:=HC.out.size;simp;omega)) (hid ((H3.out.kept fun g hg hl => ⟨HC.out.block g hl,hg⟩).kept fun g hg hl => ⟨Below.heap_alloc _ _ g hl,hg⟩)) (heap_alloc_new _ _) ht.1 hlen (by decide)).mono ?_);rintro e9 w9 ⟨rfl,hw9,hk9⟩))
 all_goals first
  | (go_end0;exact ⟨rfl,hw9,HK.out.trans ((KW.below hB1 HC.out).trans ((KW.alloc (.refl _ _ _) (by (have:=HC.out.size;omega)) _).trans hk9))⟩)
  | (((try simp only [Exit.inBlock,Exit.then]);refine bodyPost_ret (results_none rfl _ _ _) rfl ?_);exact ⟨rfl,hw9,HK.out.trans ((KW.below hB1 HC.out).trans ((KW.alloc (.refl _ _ _) (by (have:=HC.out.size;omega)) _).trans hk9))⟩)
theorem stm_lock {N B b tabs : Nat} {bs : List UInt8} {a : Int} {tr sc : Bool} {nm : List UInt8} {ix es : List Ex} {bd el : List Stm} {v : SV} {W : World} (HGS : Hid (GSts N)) (hN : cntS bd ≤ N ∧ cntS el ≤ N) (HW0 : Wr B b (Lib.byteCells bs) tabs W) (HLB0 : LB B W) (hBW : B ≤ W.heap.size) (HI : IsSt1 (fun g => 0 ≤ g) W (.mk 4 a tr sc nm ix es bd el) v) (HG : GoodS (.mk 4 a tr sc nm ix es bd el)) (ht : tabs + 1 + cntS bd ≤ 1000000 ∧ tabs + 1 + cntS el ≤ 1000000) (HLEN : bs.length + (stT (.mk 4 a tr sc nm ix es bd el) tabs).length ≤ 100000000000000) :
 Calls Tryd.prog 54 #[.pointer (some ⟨b,0,none⟩),.agg #[.int .i64 4,.int .i64 a,.bool tr,.bool sc,.string (bstr nm),v.i,v.e,v.b,v.l]] W fun e w' => e = .returned (.tuple #[]) ∧ Wr B b (Lib.byteCells (bs ++ stT (.mk 4 a tr sc nm ix es bd el) tabs)) tabs w' ∧ KW B b W w':=by
 obtain ⟨z1,k1,z2,k2,z3,k3,z4,k4,rfl⟩:=HI.slices
 obtain ⟨y1,hy1⟩ : ∃ y,(Stm.mk 4 a tr sc nm ix es bd el).ix.length = y:=⟨_,rfl⟩
 obtain ⟨y2,hy2⟩ : ∃ y,(Stm.mk 4 a tr sc nm ix es bd el).es.length = y:=⟨_,rfl⟩
 obtain ⟨y3,hy3⟩ : ∃ y,(Stm.mk 4 a tr sc nm ix es bd el).bd.length = y:=⟨_,rfl⟩
 obtain ⟨y4,hy4⟩ : ∃ y,(Stm.mk 4 a tr sc nm ix es bd el).el.length = y:=⟨_,rfl⟩
 rw [hy1,hy2,hy3,hy4] at HI ⊢
 clear hy1 hy2 hy3
 cases HG with
 | mk _ _ g1 g2 g3 g4 g5 =>
 have g3n:=g3
 replace g3:=g3.len
 obtain ⟨i1,i2,i3,i4⟩:=HI
 obtain ⟨T1,hT1⟩ : ∃ T,lineT tabs [tLock,nm,tOpen] = T:=⟨_,rfl⟩
 obtain ⟨T2,hT2⟩ : ∃ T,stsT bd (tabs + 1) = T:=⟨_,rfl⟩
 obtain ⟨T3,hT3⟩ : ∃ T,lineT tabs [[125]] = T:=⟨_,rfl⟩
 have eT : stT (.mk 4 a tr sc nm ix es bd el) tabs = T1 ++ (T2 ++ T3):=by (rw [← hT1,← hT2,← hT3];simp [stT])
 rw [eT] at HLEN ⊢
 have hlen : bs.length + (T1.length + (T2.length + T3.length)) ≤ 100000000000000:=by (rw [List.length_append,List.length_append] at HLEN;exact HLEN)
 have HT1:=hid hT1
 have HT2:=hid hT2
 have HT3:=hid hT3
 clear eT HLEN hT1 hT2 hT3 hy4
 have HCS : Hid ((#[.string ⟨#[108,111,99,107,32]⟩,.string (bstr (nm)),.string ⟨#[32,123]⟩] : Array Value) = ([tLock,nm,tOpen].map fun p => Value.string (bstr p)).toArray):=hid (by rfl)
 go_enter Tryd.func54,Tryd.ntmps54
 have HC0:=below_of_alloc W (.cells #[.int .i64 4,.int .i64 a,.bool tr,.bool sc,.string (bstr nm),.slice z1 y1 k1,.slice z2 y2 k2,.slice z3 y3 k3,.slice z4 y4 k4] 46)
 have SB0:=SBlk.new (X:=W) (n:=W.heap.size) (k:=4) (a:=a) (tr:=tr) (sc:=sc) (nm:=bstr nm) (vi:=.slice z1 y1 k1) (ve:=.slice z2 y2 k2) (vb:=.slice z3 y3 k3) (vl:=.slice z4 y4 k4) rfl
 obtain ⟨sl,⟨sc0,sc1,sc2,sc3,sc4,sc5,sc6,sc7,sc8⟩,_⟩:=SB0.facts
 go_upto_region 11 with (fail)
 clear sl sc0 sc1 sc2 sc3 sc4 sc5 sc6 sc7 sc8
 refine name_world ?_
 intro W1 hW1
 rw [← hW1] at HC0 SB0
 clear hW1
 have H1 : Hid (IsExP (fun g => 0 ≤ g) W1 (exsE ix) (.slice z1 y1 k1) ∧ ∀ x ∈ ix,GoodE x):=hid ⟨i1.stay HC0,g1⟩
 have H2 : Hid (IsExP (fun g => 0 ≤ g) W1 (exsE es) (.slice z2 y2 k2) ∧ ∀ x ∈ es,GoodE x):=hid ⟨i2.stay HC0,g2⟩
 have H3 : Hid (IsSts (fun g => 0 ≤ g) W1 bd (.slice z3 y3 k3)):=hid (i3.kept fun g hg hl => ⟨HC0.block g hl,hg⟩)
 have H4 : Hid (IsSts (fun g => 0 ≤ g) W1 el (.slice z4 y4 k4)):=hid (i4.kept fun g hg hl => ⟨HC0.block g hl,hg⟩)
 have G4:=hid g4
 have G5:=hid g5
 have HW:=hid (HW0.stay HC0)
 have HL:=hid (HLB0.laid.below HC0)
 have HLB:=hid (HLB0.b (HC0.mono hBW))
 have SB:=hid SB0
 have HC : Hid (Below W1.heap.size W1 W1):=hid (Below.refl _ _)
 have SBN:=hid (SB.out.stay HC.out)
 have HK : Hid (KW B b W W1):=hid (KW.below hBW HC0)
 have hB1 : B ≤ W1.heap.size:=Nat.le_trans hBW HC0.size
 obtain ⟨sl,⟨sc0,sc1,sc2,sc3,sc4,sc5,sc6,sc7,sc8⟩,_⟩:=SBN.out.facts
 clear i1 i2 i3 i4 g1 g2 g3 g4 g5 HW0 HLB0 SB0 HC0
 go_wp2_with (first
  | (go_simp;go_at_call 24;(with_reducible refine (block_any (n:=3) HGS [tLock,nm,tOpen] rfl _ HCS T1 T2 T3 HT1 HT2 HT3 hN.1 G4 (hid ((HW.out.stay HC.out).alloc _)) (hid ((HLB.out.b (HC.out.mono hB1)).b ((Below.refl _ _).alloc (by (have:=HC.out.size;omega)) _))) (by (have:=HC.out.size;simp;omega)) (hid ((H3.out.kept fun g hg hl => ⟨HC.out.block g hl,hg⟩).kept fun g hg hl => ⟨Below.heap_alloc _ _ g hl,hg⟩)) (heap_alloc_new _ _) ht.1 hlen (by decide)).mono ?_);rintro e9 w9 ⟨rfl,hw9,hk9⟩))
 all_goals first
  | (go_end0;exact ⟨rfl,hw9,HK.out.trans ((KW.below hB1 HC.out).trans ((KW.alloc (.refl _ _ _) (by (have:=HC.out.size;omega)) _).trans hk9))⟩)
  | (((try simp only [Exit.inBlock,Exit.then]);refine bodyPost_ret (results_none rfl _ _ _) rfl ?_);exact ⟨rfl,hw9,HK.out.trans ((KW.below hB1 HC.out).trans ((KW.alloc (.refl _ _ _) (by (have:=HC.out.size;omega)) _).trans hk9))⟩)
theorem brn_no {N B b tabs : Nat} {bs : List UInt8} {a : Int} {tr sc : Bool} {nm : List UInt8} {ix es : List Ex} {bd el : List Stm} {v : SV} {W : World} (HGS : Hid (GSts N)) (hN : cntS bd ≤ N ∧ cntS el ≤ N) (HW0 : Wr B b (Lib.byteCells bs) tabs W) (HLB0 : LB B W) (hBW : B ≤ W.heap.size) (HI : IsSt1 (fun g => 0 ≤ g) W (.mk 2 a tr sc nm ix es bd el) v) (HG : GoodS (.mk 2 a tr sc nm ix es bd el)) (ht : tabs + 1 + cntS bd ≤ 1000000 ∧ tabs + 1 + cntS el ≤ 1000000) (HLEN : bs.length + (stT (.mk 2 a tr sc nm ix es bd el) tabs).length ≤ 100000000000000) (hel : el = []) :
 Calls Tryd.prog 72 #[.pointer (some ⟨b,0,none⟩),.agg #[.int .i64 2,.int .i64 a,.bool tr,.bool sc,.string (bstr nm),v.i,v.e,v.b,v.l]] W fun e w' => e = .returned (.tuple #[]) ∧ Wr B b (Lib.byteCells (bs ++ stT (.mk 2 a tr sc nm ix es bd el) tabs)) tabs w' ∧ KW B b W w':=by
 obtain ⟨z1,k1,z2,k2,z3,k3,z4,k4,rfl⟩:=HI.slices
 obtain ⟨y1,hy1⟩ : ∃ y,(Stm.mk 2 a tr sc nm ix es bd el).ix.length = y:=⟨_,rfl⟩
 obtain ⟨y2,hy2⟩ : ∃ y,(Stm.mk 2 a tr sc nm ix es bd el).es.length = y:=⟨_,rfl⟩
 obtain ⟨y3,hy3⟩ : ∃ y,(Stm.mk 2 a tr sc nm ix es bd el).bd.length = y:=⟨_,rfl⟩
 obtain ⟨y4,hy4⟩ : ∃ y,(Stm.mk 2 a tr sc nm ix es bd el).el.length = y:=⟨_,rfl⟩
 rw [hy1,hy2,hy3,hy4] at HI ⊢
 clear hy1 hy2 hy3
 cases HG with
 | mk _ _ g1 g2 g3 g4 g5 =>
 have g3n:=g3
 replace g3:=g3.len
 obtain ⟨i1,i2,i3,i4⟩:=HI
 obtain ⟨T1,hT1⟩ : ∃ T,lineT tabs [tIf,onlyT es,tBr] = T:=⟨_,rfl⟩
 obtain ⟨T2,hT2⟩ : ∃ T,stsT bd (tabs + 1) = T:=⟨_,rfl⟩
 obtain ⟨T3,hT3⟩ : ∃ T,lineT tabs [[125]] = T:=⟨_,rfl⟩
 subst hel
 have eT : stT (.mk 2 a tr sc nm ix es bd []) tabs = T1 ++ (T2 ++ T3):=by (rw [← hT1,← hT2,← hT3];simp [stT])
 rw [eT] at HLEN ⊢
 have hlen : bs.length + (T1.length + (T2.length + T3.length)) ≤ 100000000000000:=by (rw [List.length_append,List.length_append] at HLEN;exact HLEN)
 obtain rfl : y4 = 0:=hy4.symm
 have HT1:=hid hT1
 have HT2:=hid hT2
 have HT3:=hid hT3
 clear eT HLEN hT1 hT2 hT3
 have HCS : Hid ((#[.string ⟨#[105,102,32,40]⟩,.string (bstr (onlyT es)),.string ⟨#[41,32,123]⟩] : Array Value) = ([tIf,onlyT es,tBr].map fun p => Value.string (bstr p)).toArray):=hid (by rfl)
 have HCSB : Hid ((#[.string ⟨#[125]⟩] : Array Value) = ([[125]].map fun p => Value.string (bstr p)).toArray):=hid (by rfl)
 go_enter Tryd.func72,Tryd.ntmps72
 have HC0:=below_of_alloc W (.cells #[.int .i64 2,.int .i64 a,.bool tr,.bool sc,.string (bstr nm),.slice z1 y1 k1,.slice z2 y2 k2,.slice z3 y3 k3,.slice z4 0 k4] 46)
 have SB0:=SBlk.new (X:=W) (n:=W.heap.size) (k:=2) (a:=a) (tr:=tr) (sc:=sc) (nm:=bstr nm) (vi:=.slice z1 y1 k1) (ve:=.slice z2 y2 k2) (vb:=.slice z3 y3 k3) (vl:=.slice z4 0 k4) rfl
 obtain ⟨sl,⟨sc0,sc1,sc2,sc3,sc4,sc5,sc6,sc7,sc8⟩,_⟩:=SB0.facts
 go_upto_region 1 with (fail)
 clear sl sc0 sc1 sc2 sc3 sc4 sc5 sc6 sc7 sc8
 refine name_world ?_
 intro W1 hW1
 rw [← hW1] at HC0 SB0
 clear hW1
 have H1 : Hid (IsExP (fun g => 0 ≤ g) W1 (exsE ix) (.slice z1 y1 k1) ∧ ∀ x ∈ ix,GoodE x):=hid ⟨i1.stay HC0,g1⟩
 have H2 : Hid (IsExP (fun g => 0 ≤ g) W1 (exsE es) (.slice z2 y2 k2) ∧ ∀ x ∈ es,GoodE x):=hid ⟨i2.stay HC0,g2⟩
 have H3 : Hid (IsSts (fun g => 0 ≤ g) W1 bd (.slice z3 y3 k3)):=hid (i3.kept fun g hg hl => ⟨HC0.block g hl,hg⟩)
 have H4 : Hid (IsSts (fun g => 0 ≤ g) W1 [] (.slice z4 0 k4)):=hid (i4.kept fun g hg hl => ⟨HC0.block g hl,hg⟩)
 have G4:=hid g4
 have G5:=hid g5
 have HW:=hid (HW0.stay HC0)
 have HL:=hid (HLB0.laid.below HC0)
 have HLB:=hid (HLB0.b (HC0.mono hBW))
 have SB:=hid SB0
 have HC : Hid (Below W1.heap.size W1 W1):=hid (Below.refl _ _)
 have SBN:=hid (SB.out.stay HC.out)
 have HK : Hid (KW B b W W1):=hid (KW.below hBW HC0)
 have hB1 : B ≤ W1.heap.size:=Nat.le_trans hBW HC0.size
 obtain ⟨sl,⟨sc0,sc1,sc2,sc3,sc4,sc5,sc6,sc7,sc8⟩,_⟩:=SBN.out.facts
 clear i1 i2 i3 i4 g1 g2 g3 g4 g5 HW0 HLB0 SB0 HC0
 go_wp2_with (first
  | (go_simp;go_at_call 70;(with_reducible refine (only_any (hid (H2.out.1.stay HC.out)) (hid H2.out.2) (hid (HL.out.below HC.out))).mono ?_);rintro e1 wt ⟨rfl,hbt⟩;replace HC:=hid (below_ch HC.out hbt);have SBN:=hid (SB.out.stay HC.out);obtain ⟨sl,⟨sc0,sc1,sc2,sc3,sc4,sc5,sc6,sc7,sc8⟩,_⟩:=SBN.out.facts;clear hbt)
  | (go_simp;go_at_call 20;(with_reducible refine (line_at B b _ _ 3 bs tabs [tIf,onlyT es,tBr] rfl T1 HT1.out _ HCS _ (hid ((HW.out.stay HC.out).alloc _)) (heap_alloc_new _ _) (by omega) (by (have:=HC.out.size;simp;omega)) (by decide)).mono ?_);rintro e2 w2 ⟨rfl,hw2,hk2⟩;have hkA : KW B b W1 w2:=(KW.below hB1 HC.out).trans ((KW.alloc (.refl _ _ _) (by (have:=HC.out.size;omega)) _).trans hk2);have hz2 : B ≤ w2.heap.size:=Nat.le_trans hB1 hkA.size;have HLB2:=hid (HLB.out.b hkA.1);have HW2:=hid hw2;have KT2:=hkA.tree (lo:=0) HW.out;have H32:=hid (H3.out.keptT KT2);have H42:=hid (H4.out.keptT KT2);have SB2:=hid (SB.out.kw KT2);obtain ⟨sl,⟨sc0,sc1,sc2,sc3,sc4,sc5,sc6,sc7,sc8⟩,_⟩:=SB2.out.facts)
  | (go_at_call 50;(with_reducible refine (within_any HGS T2 HT2 hN.1 G4 HW2 HLB2 hz2 H32 ht.1 (by (rw [List.length_append];omega))).mono ?_);rintro e3 w3 ⟨rfl,hw3,hk3⟩;have hz3 : B ≤ w3.heap.size:=Nat.le_trans hz2 hk3.size;have HLB3:=hid (HLB2.out.b hk3.1);have HW3:=hid hw3;have KT3:=hk3.tree (lo:=0) HW2.out;have H43:=hid (H42.out.keptT KT3);have SB3:=hid (SB2.out.kw KT3);obtain ⟨sl,⟨sc0,sc1,sc2,sc3,sc4,sc5,sc6,sc7,sc8⟩,_⟩:=SB3.out.facts)
  | (go_at_call 20;(with_reducible refine (line_at B b _ _ 1 _ tabs [[125]] rfl T3 HT3.out _ HCSB _ (hid (HW3.out.alloc _)) (heap_alloc_new _ _) (by (rw [List.length_append,List.length_append];omega)) (by (simp;omega)) (by decide)).mono ?_);rintro e9 w9 ⟨rfl,hw9,hk9⟩))
 go_end0
 refine ⟨rfl,?_,HK.out.trans ((hkA.trans hk3).trans ((KW.alloc (.refl _ _ _) hz3 _).trans hk9))⟩
 have e : bs ++ (T1 ++ (T2 ++ T3)) = bs ++ T1 ++ T2 ++ T3:=by simp only [List.append_assoc]
 rw [e]
 exact hw9
theorem brn_yes {N B b tabs : Nat} {bs : List UInt8} {a : Int} {tr sc : Bool} {nm : List UInt8} {ix es : List Ex} {bd el : List Stm} {v : SV} {W : World} (HGS : Hid (GSts N)) (hN : cntS bd ≤ N ∧ cntS el ≤ N) (HW0 : Wr B b (Lib.byteCells bs) tabs W) (HLB0 : LB B W) (hBW : B ≤ W.heap.size) (HI : IsSt1 (fun g => 0 ≤ g) W (.mk 2 a tr sc nm ix es bd el) v) (HG : GoodS (.mk 2 a tr sc nm ix es bd el)) (ht : tabs + 1 + cntS bd ≤ 1000000 ∧ tabs + 1 + cntS el ≤ 1000000) (HLEN : bs.length + (stT (.mk 2 a tr sc nm ix es bd el) tabs).length ≤ 100000000000000) (hel : el ≠ []) :
 Calls Tryd.prog 72 #[.pointer (some ⟨b,0,none⟩),.agg #[.int .i64 2,.int .i64 a,.bool tr,.bool sc,.string (bstr nm),v.i,v.e,v.b,v.l]] W fun e w' => e = .returned (.tuple #[]) ∧ Wr B b (Lib.byteCells (bs ++ stT (.mk 2 a tr sc nm ix es bd el) tabs)) tabs w' ∧ KW B b W w':=by
 obtain ⟨z1,k1,z2,k2,z3,k3,z4,k4,rfl⟩:=HI.slices
 obtain ⟨y1,hy1⟩ : ∃ y,(Stm.mk 2 a tr sc nm ix es bd el).ix.length = y:=⟨_,rfl⟩
 obtain ⟨y2,hy2⟩ : ∃ y,(Stm.mk 2 a tr sc nm ix es bd el).es.length = y:=⟨_,rfl⟩
 obtain ⟨y3,hy3⟩ : ∃ y,(Stm.mk 2 a tr sc nm ix es bd el).bd.length = y:=⟨_,rfl⟩
 obtain ⟨y4,hy4⟩ : ∃ y,(Stm.mk 2 a tr sc nm ix es bd el).el.length = y:=⟨_,rfl⟩
 rw [hy1,hy2,hy3,hy4] at HI ⊢
 clear hy1 hy2 hy3
 cases HG with
 | mk _ _ g1 g2 g3 g4 g5 =>
 have g3n:=g3
 replace g3:=g3.len
 obtain ⟨i1,i2,i3,i4⟩:=HI
 obtain ⟨T1,hT1⟩ : ∃ T,lineT tabs [tIf,onlyT es,tBr] = T:=⟨_,rfl⟩
 obtain ⟨T2,hT2⟩ : ∃ T,stsT bd (tabs + 1) = T:=⟨_,rfl⟩
 obtain ⟨T3,hT3⟩ : ∃ T,lineT tabs [[125]] = T:=⟨_,rfl⟩
 obtain ⟨T4,hT4⟩ : ∃ T,lineT tabs [tElse] = T:=⟨_,rfl⟩
 obtain ⟨T5,hT5⟩ : ∃ T,stsT el (tabs + 1) = T:=⟨_,rfl⟩
 have eT : stT (.mk 2 a tr sc nm ix es bd el) tabs = T1 ++ (T2 ++ ((T4 ++ T5) ++ T3)):=by (rw [← hT1,← hT2,← hT3,← hT4,← hT5];simp [stT,hel])
 rw [eT] at HLEN ⊢
 have hlen : bs.length + (T1.length + (T2.length + ((T4.length + T5.length) + T3.length))) ≤ 100000000000000:=by (simp only [List.length_append] at HLEN;exact HLEN)
 have hy0 : (0 : Int) < (y4 : Int):=by (have : el.length = y4:=hy4;have : 0 < el.length:=List.length_pos_iff.2 hel;omega)
 have hyd : decide ((y4 : Int) > 0) = true:=by simpa using hy0
 have HT4:=hid hT4
 have HT5:=hid hT5
 clear hT4 hT5
 have HT1:=hid hT1
 have HT2:=hid hT2
 have HT3:=hid hT3
 clear eT HLEN hT1 hT2 hT3
 have HCS : Hid ((#[.string ⟨#[105,102,32,40]⟩,.string (bstr (onlyT es)),.string ⟨#[41,32,123]⟩] : Array Value) = ([tIf,onlyT es,tBr].map fun p => Value.string (bstr p)).toArray):=hid (by rfl)
 have HCSB : Hid ((#[.string ⟨#[125]⟩] : Array Value) = ([[125]].map fun p => Value.string (bstr p)).toArray):=hid (by rfl)
 have HCSE : Hid ((#[.string ⟨#[125,32,101,108,115,101,32,123]⟩] : Array Value) = ([tElse].map fun p => Value.string (bstr p)).toArray):=hid (by rfl)
 go_enter Tryd.func72,Tryd.ntmps72
 have HC0:=below_of_alloc W (.cells #[.int .i64 2,.int .i64 a,.bool tr,.bool sc,.string (bstr nm),.slice z1 y1 k1,.slice z2 y2 k2,.slice z3 y3 k3,.slice z4 y4 k4] 46)
 have SB0:=SBlk.new (X:=W) (n:=W.heap.size) (k:=2) (a:=a) (tr:=tr) (sc:=sc) (nm:=bstr nm) (vi:=.slice z1 y1 k1) (ve:=.slice z2 y2 k2) (vb:=.slice z3 y3 k3) (vl:=.slice z4 y4 k4) rfl
 obtain ⟨sl,⟨sc0,sc1,sc2,sc3,sc4,sc5,sc6,sc7,sc8⟩,_⟩:=SB0.facts
 go_upto_region 1 with (fail)
 clear sl sc0 sc1 sc2 sc3 sc4 sc5 sc6 sc7 sc8
 refine name_world ?_
 intro W1 hW1
 rw [← hW1] at HC0 SB0
 clear hW1
 have H1 : Hid (IsExP (fun g => 0 ≤ g) W1 (exsE ix) (.slice z1 y1 k1) ∧ ∀ x ∈ ix,GoodE x):=hid ⟨i1.stay HC0,g1⟩
 have H2 : Hid (IsExP (fun g => 0 ≤ g) W1 (exsE es) (.slice z2 y2 k2) ∧ ∀ x ∈ es,GoodE x):=hid ⟨i2.stay HC0,g2⟩
 have H3 : Hid (IsSts (fun g => 0 ≤ g) W1 bd (.slice z3 y3 k3)):=hid (i3.kept fun g hg hl => ⟨HC0.block g hl,hg⟩)
 have H4 : Hid (IsSts (fun g => 0 ≤ g) W1 el (.slice z4 y4 k4)):=hid (i4.kept fun g hg hl => ⟨HC0.block g hl,hg⟩)
 have G4:=hid g4
 have G5:=hid g5
 have HW:=hid (HW0.stay HC0)
 have HL:=hid (HLB0.laid.below HC0)
 have HLB:=hid (HLB0.b (HC0.mono hBW))
 have SB:=hid SB0
 have HC : Hid (Below W1.heap.size W1 W1):=hid (Below.refl _ _)
 have SBN:=hid (SB.out.stay HC.out)
 have HK : Hid (KW B b W W1):=hid (KW.below hBW HC0)
 have hB1 : B ≤ W1.heap.size:=Nat.le_trans hBW HC0.size
 obtain ⟨sl,⟨sc0,sc1,sc2,sc3,sc4,sc5,sc6,sc7,sc8⟩,_⟩:=SBN.out.facts
 clear i1 i2 i3 i4 g1 g2 g3 g4 g5 HW0 HLB0 SB0 HC0
 go_wp2_with (first
  | (go_simp;go_at_call 70;(with_reducible refine (only_any (hid (H2.out.1.stay HC.out)) (hid H2.out.2) (hid (HL.out.below HC.out))).mono ?_);rintro e1 wt ⟨rfl,hbt⟩;replace HC:=hid (below_ch HC.out hbt);have SBN:=hid (SB.out.stay HC.out);obtain ⟨sl,⟨sc0,sc1,sc2,sc3,sc4,sc5,sc6,sc7,sc8⟩,_⟩:=SBN.out.facts;clear hbt)
  | (go_simp;go_at_call 20;(with_reducible refine (line_at B b _ _ 3 bs tabs [tIf,onlyT es,tBr] rfl T1 HT1.out _ HCS _ (hid ((HW.out.stay HC.out).alloc _)) (heap_alloc_new _ _) (by omega) (by (have:=HC.out.size;simp;omega)) (by decide)).mono ?_);rintro e2 w2 ⟨rfl,hw2,hk2⟩;have hkA : KW B b W1 w2:=(KW.below hB1 HC.out).trans ((KW.alloc (.refl _ _ _) (by (have:=HC.out.size;omega)) _).trans hk2);have hz2 : B ≤ w2.heap.size:=Nat.le_trans hB1 hkA.size;have HLB2:=hid (HLB.out.b hkA.1);have HW2:=hid hw2;have KT2:=hkA.tree (lo:=0) HW.out;have H32:=hid (H3.out.keptT KT2);have H42:=hid (H4.out.keptT KT2);have SB2:=hid (SB.out.kw KT2);obtain ⟨sl,⟨sc0,sc1,sc2,sc3,sc4,sc5,sc6,sc7,sc8⟩,_⟩:=SB2.out.facts)
  | (go_at_call 50;(with_reducible refine (within_any HGS T2 HT2 hN.1 G4 HW2 HLB2 hz2 H32 ht.1 (by (rw [List.length_append];omega))).mono ?_);rintro e3 w3 ⟨rfl,hw3,hk3⟩;have hz3 : B ≤ w3.heap.size:=Nat.le_trans hz2 hk3.size;have HLB3:=hid (HLB2.out.b hk3.1);have HW3:=hid hw3;have KT3:=hk3.tree (lo:=0) HW2.out;have H43:=hid (H42.out.keptT KT3);have SB3:=hid (SB2.out.kw KT3);obtain ⟨sl,⟨sc0,sc1,sc2,sc3,sc4,sc5,sc6,sc7,sc8⟩,_⟩:=SB3.out.facts)
  | (go_at_call 20;(with_reducible refine (line_at B b _ _ 1 _ tabs [tElse] rfl T4 HT4.out _ HCSE _ (hid (HW3.out.alloc _)) (heap_alloc_new _ _) (by (rw [List.length_append,List.length_append];omega)) (by (simp;omega)) (by decide)).mono ?_);rintro e4 w4 ⟨rfl,hw4,hk4⟩;have hkB : KW B b w3 w4:=(KW.alloc (.refl _ _ _) hz3 _).trans hk4;have hz4 : B ≤ w4.heap.size:=Nat.le_trans hz3 hkB.size;have HLB4:=hid (HLB3.out.b hkB.1);have HW4:=hid hw4;have KT4:=hkB.tree (lo:=0) HW3.out;have H44:=hid (H43.out.keptT KT4);have SB4:=hid (SB3.out.kw KT4);obtain ⟨sl,⟨sc0,sc1,sc2,sc3,sc4,sc5,sc6,sc7,sc8⟩,_⟩:=SB4.out.facts)
  | (go_at_call 50;(with_reducible refine (within_any HGS T5 HT5 hN.2 G5 HW4 HLB4 hz4 H44 ht.2 (by (rw [List.length_append,List.length_append,List.length_append];omega))).mono ?_);rintro e5 w5 ⟨rfl,hw5,hk5⟩;have hz5 : B ≤ w5.heap.size:=Nat.le_trans hz4 hk5.size;have HW5:=hid hw5)
  | (go_at_call 20;(with_reducible refine (line_at B b _ _ 1 _ tabs [[125]] rfl T3 HT3.out _ HCSB _ (hid (HW5.out.alloc _)) (heap_alloc_new _ _) (by (rw [List.length_append,List.length_append,List.length_append,List.length_append];omega)) (by (simp;omega)) (by decide)).mono ?_);rintro e9 w9 ⟨rfl,hw9,hk9⟩))
 go_end0
 refine ⟨rfl,?_,HK.out.trans ((hkA.trans hk3).trans ((hkB.trans hk5).trans ((KW.alloc (.refl _ _ _) hz5 _).trans hk9)))⟩
 have e : bs ++ (T1 ++ (T2 ++ ((T4 ++ T5) ++ T3))) = bs ++ T1 ++ T2 ++ T4 ++ T5 ++ T3:=by simp only [List.append_assoc]
 rw [e]
 exact hw9
theorem brn_any {N B b tabs : Nat} {bs : List UInt8} {a : Int} {tr sc : Bool} {nm : List UInt8} {ix es : List Ex} {bd el : List Stm} {v : SV} {W : World} (HGS : Hid (GSts N)) (hN : cntS bd ≤ N ∧ cntS el ≤ N) (HW0 : Wr B b (Lib.byteCells bs) tabs W) (HLB0 : LB B W) (hBW : B ≤ W.heap.size) (HI : IsSt1 (fun g => 0 ≤ g) W (.mk 2 a tr sc nm ix es bd el) v) (HG : GoodS (.mk 2 a tr sc nm ix es bd el)) (ht : tabs + 1 + cntS bd ≤ 1000000 ∧ tabs + 1 + cntS el ≤ 1000000) (HLEN : bs.length + (stT (.mk 2 a tr sc nm ix es bd el) tabs).length ≤ 100000000000000) :
 Calls Tryd.prog 72 #[.pointer (some ⟨b,0,none⟩),.agg #[.int .i64 2,.int .i64 a,.bool tr,.bool sc,.string (bstr nm),v.i,v.e,v.b,v.l]] W fun e w' => e = .returned (.tuple #[]) ∧ Wr B b (Lib.byteCells (bs ++ stT (.mk 2 a tr sc nm ix es bd el) tabs)) tabs w' ∧ KW B b W w':=by
 by_cases h : el = []
 · exact brn_no HGS hN HW0 HLB0 hBW HI HG ht HLEN h
 · exact brn_yes HGS hN HW0 HLB0 hBW HI HG ht HLEN h
theorem stm_if {N B b tabs : Nat} {bs : List UInt8} {a : Int} {tr sc : Bool} {nm : List UInt8} {ix es : List Ex} {bd el : List Stm} {v : SV} {W : World} (HGS : Hid (GSts N)) (hN : cntS bd ≤ N ∧ cntS el ≤ N) (HW0 : Wr B b (Lib.byteCells bs) tabs W) (HLB0 : LB B W) (hBW : B ≤ W.heap.size) (HI : IsSt1 (fun g => 0 ≤ g) W (.mk 2 a tr sc nm ix es bd el) v) (HG : GoodS (.mk 2 a tr sc nm ix es bd el)) (ht : tabs + 1 + cntS bd ≤ 1000000 ∧ tabs + 1 + cntS el ≤ 1000000) (HLEN : bs.length + (stT (.mk 2 a tr sc nm ix es bd el) tabs).length ≤ 100000000000000) :
 Calls Tryd.prog 54 #[.pointer (some ⟨b,0,none⟩),.agg #[.int .i64 2,.int .i64 a,.bool tr,.bool sc,.string (bstr nm),v.i,v.e,v.b,v.l]] W fun e w' => e = .returned (.tuple #[]) ∧ Wr B b (Lib.byteCells (bs ++ stT (.mk 2 a tr sc nm ix es bd el) tabs)) tabs w' ∧ KW B b W w':=by
 obtain ⟨z1,k1,z2,k2,z3,k3,z4,k4,rfl⟩:=HI.slices
 obtain ⟨y1,hy1⟩ : ∃ y,(Stm.mk 2 a tr sc nm ix es bd el).ix.length = y:=⟨_,rfl⟩
 obtain ⟨y2,hy2⟩ : ∃ y,(Stm.mk 2 a tr sc nm ix es bd el).es.length = y:=⟨_,rfl⟩
 obtain ⟨y3,hy3⟩ : ∃ y,(Stm.mk 2 a tr sc nm ix es bd el).bd.length = y:=⟨_,rfl⟩
 obtain ⟨y4,hy4⟩ : ∃ y,(Stm.mk 2 a tr sc nm ix es bd el).el.length = y:=⟨_,rfl⟩
 rw [hy1,hy2,hy3,hy4] at HI ⊢
 clear hy1 hy2 hy3
 cases HG with
 | mk _ _ g1 g2 g3 g4 g5 =>
 have g3n:=g3
 replace g3:=g3.len
 obtain ⟨i1,i2,i3,i4⟩:=HI
 obtain ⟨T,hT⟩ : ∃ T,stT (.mk 2 a tr sc nm ix es bd el) tabs = T:=⟨_,rfl⟩
 have HBX:=fun (X : World) (v : SV) (h1 : Wr B b (Lib.byteCells bs) tabs X) (h2 : LB B X) (h3 : B ≤ X.heap.size) (h4 : IsSt1 (fun g => 0 ≤ g) X (.mk 2 a tr sc nm ix es bd el) v) => brn_any HGS hN h1 h2 h3 h4 (.mk (by decide) (by decide) g1 g2 g3n g4 g5) ht HLEN
 rw [hT] at HBX ⊢
 have HBY:=hid HBX
 clear HBX HLEN hT hy4
 go_enter Tryd.func54,Tryd.ntmps54
 have HC0:=below_of_alloc W (.cells #[.int .i64 2,.int .i64 a,.bool tr,.bool sc,.string (bstr nm),.slice z1 y1 k1,.slice z2 y2 k2,.slice z3 y3 k3,.slice z4 y4 k4] 46)
 have SB0:=SBlk.new (X:=W) (n:=W.heap.size) (k:=2) (a:=a) (tr:=tr) (sc:=sc) (nm:=bstr nm) (vi:=.slice z1 y1 k1) (ve:=.slice z2 y2 k2) (vb:=.slice z3 y3 k3) (vl:=.slice z4 y4 k4) rfl
 obtain ⟨sl,⟨sc0,sc1,sc2,sc3,sc4,sc5,sc6,sc7,sc8⟩,_⟩:=SB0.facts
 go_upto_region 7 with (fail)
 clear sl sc0 sc1 sc2 sc3 sc4 sc5 sc6 sc7 sc8
 refine name_world ?_
 intro W1 hW1
 rw [← hW1] at HC0 SB0
 clear hW1
 have H1 : Hid (IsExP (fun g => 0 ≤ g) W1 (exsE ix) (.slice z1 y1 k1) ∧ ∀ x ∈ ix,GoodE x):=hid ⟨i1.stay HC0,g1⟩
 have H2 : Hid (IsExP (fun g => 0 ≤ g) W1 (exsE es) (.slice z2 y2 k2) ∧ ∀ x ∈ es,GoodE x):=hid ⟨i2.stay HC0,g2⟩
 have H3 : Hid (IsSts (fun g => 0 ≤ g) W1 bd (.slice z3 y3 k3)):=hid (i3.kept fun g hg hl => ⟨HC0.block g hl,hg⟩)
 have H4 : Hid (IsSts (fun g => 0 ≤ g) W1 el (.slice z4 y4 k4)):=hid (i4.kept fun g hg hl => ⟨HC0.block g hl,hg⟩)
 have G4:=hid g4
 have G5:=hid g5
 have HW:=hid (HW0.stay HC0)
 have HL:=hid (HLB0.laid.below HC0)
 have HLB:=hid (HLB0.b (HC0.mono hBW))
 have SB:=hid SB0
 have HC : Hid (Below W1.heap.size W1 W1):=hid (Below.refl _ _)
 have SBN:=hid (SB.out.stay HC.out)
 have HK : Hid (KW B b W W1):=hid (KW.below hBW HC0)
 have hB1 : B ≤ W1.heap.size:=Nat.le_trans hBW HC0.size
 obtain ⟨sl,⟨sc0,sc1,sc2,sc3,sc4,sc5,sc6,sc7,sc8⟩,_⟩:=SBN.out.facts
 clear i1 i2 i3 i4 g1 g2 g3 g4 g5 HW0 HLB0 SB0 HC0
 have HBR:=hid (HBY.out W1 ⟨.slice z1 y1 k1,.slice z2 y2 k2,.slice z3 y3 k3,.slice z4 y4 k4⟩ HW.out HLB.out hB1 ⟨H1.out.1,H2.out.1,H3.out,H4.out⟩)
 clear HBY
 go_wp2_with (go_at_call 72;(with_reducible refine (HBR.out).mono ?_);rintro e9 w9 ⟨rfl,hw9,hk9⟩)
 first
  | (go_end0;exact ⟨rfl,hw9,HK.out.trans hk9⟩)
  | (((try simp only [Exit.inBlock,Exit.then]);refine bodyPost_ret (results_none rfl _ _ _) rfl ?_);exact ⟨rfl,hw9,HK.out.trans hk9⟩)
theorem stmt_any {N B b tabs : Nat} {bs : List UInt8} {s : Stm} {v : SV} {W : World} (HGS : Hid (GSts N)) (hN : cntS s.bd ≤ N ∧ cntS s.el ≤ N) (HW0 : Wr B b (Lib.byteCells bs) tabs W) (HLB0 : LB B W) (hBW : B ≤ W.heap.size) (HI : IsSt1 (fun g => 0 ≤ g) W s v) (HG : GoodS s) (ht : tabs + 1 + cntS s.bd ≤ 1000000 ∧ tabs + 1 + cntS s.el ≤ 1000000) (HLEN : bs.length + (stT s tabs).length ≤ 100000000000000) :
 Calls Tryd.prog 54 #[.pointer (some ⟨b,0,none⟩),.agg #[.int .i64 s.k,.int .i64 s.a,.bool s.tr,.bool s.sc,.string (bstr s.nm),v.i,v.e,v.b,v.l]] W fun e w' => e = .returned (.tuple #[]) ∧ Wr B b (Lib.byteCells (bs ++ stT s tabs)) tabs w' ∧ KW B b W w':=by
 obtain ⟨k,a,tr,sc,nm,ix,es,bd,el⟩:=s
 have hk : k = 0 ∨ k = 1 ∨ k = 2 ∨ k = 3 ∨ k = 4 ∨ k = 5:=by
  cases HG with
  | mk h1 h2 => omega
 rcases hk with rfl | rfl | rfl | rfl | rfl | rfl
 · exact stm_let HW0 HLB0.laid hBW HI HG (hid HLEN)
 · exact stm_asg HW0 HLB0.laid hBW HI HG (hid HLEN)
 · exact stm_if HGS hN HW0 HLB0 hBW HI HG ht HLEN
 · exact stm_while HGS hN HW0 HLB0 hBW HI HG ht HLEN
 · exact stm_lock HGS hN HW0 HLB0 hBW HI HG ht HLEN
 · exact stm_out HW0 HLB0.laid hBW HI HG (hid HLEN)
theorem take_stsT (l : List Stm) (k tabs : Nat) (s : Stm) (h : l[k]? = some s) : stsT (l.take (k + 1)) tabs = stsT (l.take k) tabs ++ stT s tabs:=by
 rw [List.take_add_one,h,stsT_append]
 simp [stsT]
theorem take_sts_le (l : List Stm) (k tabs : Nat) : (stsT (l.take k) tabs).length ≤ (stsT l tabs).length:=by
 have h:=congrArg List.length (congrArg (stsT · tabs) (List.take_append_drop k l))
 simp only [stsT_append,List.length_append] at h
 omega
theorem len_cnt (l : List Stm) : l.length ≤ cntS l:=by
 induction l with
 | nil => exact Nat.zero_le _
 | cons s r ih =>
  have:=cnt_parts s
  simp only [List.length_cons,cntS]
  omega
theorem IsSt1.keptT {lo : Nat} {W X : World} {s : Stm} {v : SV} (h : IsSt1 (fun g => lo ≤ g) W s v) (k : KeptT lo W X) : IsSt1 (fun g => lo ≤ g) X s v:=⟨h.1.keptT k,h.2.1.keptT k,h.2.2.1.keptT k,h.2.2.2.keptT k⟩
theorem stmts_step {N : Nat} (IH : ∀ M,M < N → GSts M) : GSts N:=by
 intro l B b tabs bs W v hN hg hw hL hB hi ht hlen
 have hlc:=len_cnt l
 cases hi with
 | nil =>
  go_enter Tryd.func29,Tryd.ntmps29
  go_wp2
  go_loopw [8] (fun i wr => i = .int .i64 0 ∧ wr = W) (fun _ _ => 0)
  case atStart => exact ⟨rfl,rfl⟩
  case round =>
   obtain ⟨rfl,rfl⟩:=hrel
   go_wp2
   go_end0
   exact ⟨rfl,by simpa [stsT] using hw,KW.refl _ _ _⟩
 | node g cap cs fr vs hg0 hb hne hc h1 h2 h3 h4 =>
  have HG:=hid hg
  have HW:=hid hw
  have HL:=hid hL
  have HB:=hid hb
  have HCS:=hid hc
  have HS : Hid (∀ i s,l[i]? = some s → IsSt1 (fun g => 0 ≤ g) W s (vs i)):=hid fun i s h => ⟨h1 i s h,h2 i s h,h3 i s h,h4 i s h⟩
  have HIH:=hid IH
  clear hg hw hL hb hc h1 h2 h3 h4 IH
  go_enter Tryd.func29,Tryd.ntmps29
  go_wp2
  go_loopw [8] (fun i wr => ∃ k : Nat,i = .int .i64 k ∧ k ≤ l.length ∧ Wr B b (Lib.byteCells (bs ++ stsT (l.take k) tabs)) tabs wr ∧ KW B b W wr) (fun i _ => l.length - (intOf i).toNat)
  case atStart => exact ⟨0,rfl,Nat.zero_le _,by simpa [stsT] using HW.out,KW.refl _ _ _⟩
  case round =>
   obtain ⟨k,rfl,hk,hX,hKx⟩:=hrel
   have HX:=hid hX
   have HKx:=hid hKx
   have hzx:=hKx.size
   have KT:=hKx.tree (lo:=0) HW.out
   have hbx:=(KT.2 g _ _ _ (Nat.zero_le _) HB.out (.inl rfl)).trans HB.out
   by_cases hkl : k < l.length
   · obtain ⟨s,hs⟩ : ∃ s,l[k]? = some s:=⟨l[k],List.getElem?_eq_getElem hkl⟩
     have hsm:=List.mem_of_getElem? hs
     have hcc:=cnt_mem hsm
     have hcp:=cnt_parts s
     have hI:=(HS.out k s hs).keptT KT
     obtain ⟨z1,k1,z2,k2,z3,k3,z4,k4,hv⟩:=hI.slices
     have hcs:=HCS.out k s hs
     obtain ⟨y1,hy1⟩ : ∃ y,s.ix.length = y:=⟨_,rfl⟩
     obtain ⟨y2,hy2⟩ : ∃ y,s.es.length = y:=⟨_,rfl⟩
     obtain ⟨y3,hy3⟩ : ∃ y,s.bd.length = y:=⟨_,rfl⟩
     obtain ⟨y4,hy4⟩ : ∃ y,s.el.length = y:=⟨_,rfl⟩
     rw [hy1,hy2,hy3,hy4] at hv
     rw [hv] at hcs hI
     have d0 : wr.cell? ⟨g,k * 9,none⟩ = some (.int .i64 s.k):=by (rw [cell_of_row _ _ _ _ _ _ hbx];exact hcs 0 _ rfl)
     have d1 : wr.cell? ⟨g,k * 9 + 1,none⟩ = some (.int .i64 s.a):=by (rw [cell_of_row _ _ _ _ _ _ hbx];exact hcs 1 _ rfl)
     have d2 : wr.cell? ⟨g,k * 9 + 2,none⟩ = some (.bool s.tr):=by (rw [cell_of_row _ _ _ _ _ _ hbx];exact hcs 2 _ rfl)
     have d3 : wr.cell? ⟨g,k * 9 + 3,none⟩ = some (.bool s.sc):=by (rw [cell_of_row _ _ _ _ _ _ hbx];exact hcs 3 _ rfl)
     have d4 : wr.cell? ⟨g,k * 9 + 4,none⟩ = some (.string (bstr s.nm)):=by (rw [cell_of_row _ _ _ _ _ _ hbx];exact hcs 4 _ rfl)
     have d5 : wr.cell? ⟨g,k * 9 + 5,none⟩ = some (.slice z1 y1 k1):=by (rw [cell_of_row _ _ _ _ _ _ hbx];exact hcs 5 _ rfl)
     have d6 : wr.cell? ⟨g,k * 9 + 6,none⟩ = some (.slice z2 y2 k2):=by (rw [cell_of_row _ _ _ _ _ _ hbx];exact hcs 6 _ rfl)
     have d7 : wr.cell? ⟨g,k * 9 + 7,none⟩ = some (.slice z3 y3 k3):=by (rw [cell_of_row _ _ _ _ _ _ hbx];exact hcs 7 _ rfl)
     have d8 : wr.cell? ⟨g,k * 9 + 8,none⟩ = some (.slice z4 y4 k4):=by (rw [cell_of_row _ _ _ _ _ _ hbx];exact hcs 8 _ rfl)
     have hgl:=(Array.getElem?_eq_some_iff.1 hbx).1
     have hA : Below wr.heap.size wr (wr.alloc (.cells #[.int .i64 s.k,.int .i64 s.a,.bool s.tr,.bool s.sc,.string (bstr s.nm),.slice z1 y1 k1,.slice z2 y2 k2,.slice z3 y3 k3,.slice z4 y4 k4] 46)):=below_of_alloc _ _
     have hle:=take_sts_le l (k + 1) tabs
     have htk:=take_stsT l k tabs s hs
     have hlh : (bs ++ stsT (l.take k) tabs).length + (stT s tabs).length ≤ 100000000000000:=by (rw [htk,List.length_append] at hle;rw [List.length_append];omega)
     have HST:=hid (stmt_any (s:=s) (v:=⟨.slice z1 y1 k1,.slice z2 y2 k2,.slice z3 y3 k3,.slice z4 y4 k4⟩) (hid (HIH.out (N - 1) (by omega))) (by omega) (hX.stay hA) ((HL.out.b hKx.1).b (hA.mono (by omega))) (by (simp;omega)) (hI.kept fun g' hg' hl' => ⟨hA.block g' hl',hg'⟩) (HG.out s hsm) (by omega) hlh)
     have HTK:=hid htk
     have hlt : (k : Int) < (l.length : Int):=by omega
     have hk0 : (0 : Int) ≤ (k : Int):=Int.natCast_nonneg _
     have SB0:=SBlk.new (X:=wr) (n:=wr.heap.size) (k:=s.k) (a:=s.a) (tr:=s.tr) (sc:=s.sc) (nm:=bstr s.nm) (vi:=.slice z1 y1 k1) (ve:=.slice z2 y2 k2) (vb:=.slice z3 y3 k3) (vl:=.slice z4 y4 k4) rfl
     obtain ⟨sl,⟨sc0,sc1,sc2,sc3,sc4,sc5,sc6,sc7,sc8⟩,_⟩:=SB0.facts
     have hBw : B ≤ wr.heap.size:=by omega
     clear hX hKx hy1 hy2 hy3 hy4 hv hcs hI hle htk hlh hbx KT hs hsm hcp hA SB0
     go_wp2_with (go_at_call 54;(with_reducible refine (HST.out).mono ?_);rintro e9 w9 ⟨rfl,hw9,hk9⟩)
     go_roundw
     case rel =>
      refine ⟨k + 1,by go_num,Nat.succ_le_of_lt hkl,?_,HKx.out.trans ((KW.alloc (.refl _ _ _) hBw _).trans hk9)⟩
      rw [HTK.out,← List.append_assoc]
      exact hw9
     case measure =>
      simp [intOf]
      omega
   · have hlt : ¬ ((k : Int) < (l.length : Int)):=by omega
     obtain rfl : k = l.length:=by omega
     clear hX hKx hkl hk
     go_wp2
     go_end0
     refine ⟨rfl,?_,HKx.out⟩
     have h9:=HX.out
     rw [List.take_length] at h9
     exact h9
theorem stmts_all (N : Nat) : GSts N:=by
 induction N using Nat.strongRecOn with
 | ind n ih => exact stmts_step ih
theorem wr_new (W : World) (tabs : Int) : Wr W.heap.size W.heap.size [] tabs (W.alloc (.cells #[.pointer none,.slice none 0 0,.int .i64 tabs] 64)) :=
 ⟨Nat.le_refl _,_,_,heap_alloc_new _ _,.inl rfl,⟨by simp,.inl ⟨rfl,rfl⟩⟩,by simp [Value.ownBlock],fun _ => rfl⟩
theorem lb_new {W : World} (L : Laid W) (o : Obj) : LB W.heap.size (W.alloc o):=⟨W,L,rfl,below_of_alloc _ _⟩
theorem stmtsT_any (l : List Stm) (tabs : Nat) (W : World) (v : Value) (T : List UInt8) (hT : stsT l tabs = T) (hg : ∀ s ∈ l,GoodS s) (L : Laid W) (hi : IsSts (fun g => 0 ≤ g) W l v) (ht : tabs + cntS l ≤ 1000000) (hlen : T.length ≤ 100000000000000) :
 Calls Tryd.prog 11 #[v,.int .i64 tabs] W fun e w' => e = .returned (.string (bstr T)) ∧ Below W.heap.size W w':=by
 have hA:=below_of_alloc W (.cells #[.pointer none,.slice none 0 0,.int .i64 tabs] 64)
 have HC:=hid (stmts_all (cntS l) l W.heap.size W.heap.size tabs [] _ v (Nat.le_refl _) hg (wr_new W tabs) (lb_new L _) (by simp) (hi.kept fun g hg hl => ⟨hA.block g hl,hg⟩) ht (by rw [hT];simpa using hlen))
 rw [hT] at HC
 have hcl:=(wr_new W tabs).lt
 obtain ⟨p,k,rfl⟩:=hi.form
 obtain ⟨y,hy⟩ : ∃ y,l.length = y:=⟨_,rfl⟩
 rw [hy] at HC ⊢
 have c0 : (W.alloc (.cells #[.pointer none,.slice none 0 0,.int .i64 0] 64)).heap[W.heap.size]? = some (.cells #[.pointer none,.slice none 0 0,.int .i64 0] 64 (0,0)):=heap_alloc_new _ _
 clear hA hg L hi hT hy c0
 go_enter Tryd.func11,Tryd.ntmps11
 have HCC:=hid HC.out
 go_wp2_with (first
  | (go_at_call 29;(with_reducible refine (HCC.out).mono ?_);rintro e1 w1 ⟨rfl,hw1,hk1⟩)
  | (go_at_call 25;(with_reducible refine (wr_text _ _ _ _ _ (hid hw1)).mono ?_);rintro e2 w2 ⟨rfl,hb2⟩))
 go_ret
 exact ⟨rfl,((below_of_alloc _ _).trans hk1.1).trans hb2⟩
theorem r4_limit16 {r4 rb g cap : Nat} {ws : List Wd} {d : Int} {p0 p1 p2 p3 : Value} {W : World} {σ : RS} (S : Hid (A4 W r4 rb g cap ws d p0 p1 p2 p3 σ)) (n : Nat) :
 Calls Tryd.prog 39 #[.pointer (some ⟨r4,0,none⟩),.int .i64 n,.int .i64 16] W fun e w' => e = .returned (.tuple #[]) ∧ A4 w' r4 rb g cap ws d p0 p1 p2 p3 (limF n 16 σ) ∧ Fr (some rb) W w':=r4_limit S n 16
theorem r4_paramsQ {r4 rb g cap : Nat} {ws : List Wd} {d : Int} {p0 p1 p2 p3 : Value} {W : World} {σ τ : RS} {lp : List Pm} (S : Hid (A4 W r4 rb g cap ws d p0 p1 p2 p3 σ)) (h : paramsF σ = (lp,τ)) :
 Calls Tryd.prog 59 #[.pointer (some ⟨r4,0,none⟩)] W fun e w' => (∃ p c,e = .returned (.slice p lp.length c) ∧ IsPl (fun g => W.heap.size ≤ g) 106 3 pmCells w' lp (.slice p lp.length c)) ∧ A4 w' r4 rb g cap ws d p0 p1 p2 p3 τ ∧ Fr (some rb) W w':=by
 have:=r4_params S
 rwa [h] at this
theorem rfn_no {r4 rb g cap B k m n d : Nat} {ws : List Wd} {p : Option Addr} {p0 p1 p3 : Value} {W : World} {x : Wd} {tt : List Wd} {σ : RS} {c0 : Int} {b0 : Nat} (S : Hid (A4 W r4 rb g cap ws d p0 p1 (.slice p m k) p3 σ)) (hlim : Hid (limF m 16 σ = .bad c0 b0)) :
 Calls Tryd.prog 42 #[.pointer (some ⟨r4,0,none⟩)] W fun e w' => e = .returned (.tuple #[]) ∧ A4 w' r4 rb g cap ws d p0 p1 (.slice p m k) p3 (.bad c0 b0) ∧ Fr (some rb) W w':=by
 obtain ⟨m0,m1,m2,m3,m4,m5⟩:=S.out.at4.cells
 have ml0:=S.out.at4.lt
 go_enter Tryd.func42,Tryd.ntmps42
 go_wp2_with (first
  | (go_at_call 39;(with_reducible refine (r4_limit16 S m).mono ?_);rintro e1 w1 ⟨rfl,hs1,hf1⟩;have S1 : Hid (A4 w1 r4 rb g cap ws d p0 p1 (.slice p m k) p3 (.bad c0 b0)):=hid (hlim.out ▸ hs1))
  | (go_at_call 17;(with_reducible refine (r4_ok S1 false rfl).mono ?_);rintro e2 w2 ⟨rfl,hb2⟩))
 first
  | (((try simp only [Exit.inBlock,Exit.then]);refine bodyPost_ret (results_none rfl _ _ _) rfl ?_);exact ⟨rfl,S1.out.stay hb2,hf1.stepB hb2⟩)
  | (go_end0;exact ⟨rfl,S1.out.stay hb2,hf1.stepB hb2⟩)
theorem rfn_yes {r4 rb g cap B k m n d : Nat} {ws : List Wd} {p : Option Addr} {p0 p1 p3 : Value} {W : World} {x : Wd} {tt : List Wd} {xs : List Value} {nm : List UInt8} {a : Nat} {lp : List Pm} {tr sc : Bool} {lb : List Stm} {ex : Ex} {τ1 τ2 τ3 τ4 τ5 τ6 τ7 τ8 τ9 : RS}
 (S : Hid (A4 W r4 rb g cap ws d p0 p1 (.slice p m k) p3 (.ok (x :: tt)))) (G : Hid (W.ownsRow B 73 12 (.slice p m k) m xs)) (hB : r4 < B ∧ rb < B ∧ g < B ∧ B ≤ W.heap.size) (hl : m ≤ 1000000) (hlim : Hid (limF m 16 (.ok (x :: tt)) = .ok (x :: tt))) (hx : x.k ≠ 3)
 (H1 : Hid (nameF (.ok tt) = ((nm,a),τ1))) (H2 : Hid (paramsF τ1 = (lp,τ2))) (H3 : Hid (kindF τ2 = ((tr,sc),τ3))) (H4 : Hid (τ3.need (⟨#[123]⟩ : ByteArray).data.toList = τ4)) (H5 : Hid (stmtsF n (d + 1) (⟨#[114,101,116,117,114,110]⟩ : ByteArray).data.toList τ4 = (lb,τ5))) (H6 : Hid (τ5.need (⟨#[114,101,116,117,114,110]⟩ : ByteArray).data.toList = τ6)) (H7 : Hid (exF τ6 = (ex,τ7))) (H8 : Hid (τ7.need (⟨#[59]⟩ : ByteArray).data.toList = τ8)) (H9 : Hid (τ8.need (⟨#[125]⟩ : ByteArray).data.toList = τ9))
 (HG : Hid (GStmts r4 rb g ws n)) (hlen : 3 * τ4.len + 1 ≤ n) (hd : d + 1 ≤ 32) :
 Calls Tryd.prog 42 #[.pointer (some ⟨r4,0,none⟩)] W fun e w' => e = .returned (.tuple #[]) ∧ ∃ q,A4 w' r4 rb g cap ws d p0 p1 q p3 τ9 ∧ Fr3 r4 rb (Value.slice p m k).ownBlock W w' ∧ ∀ t,τ9 = .ok t → ∃ fv,w'.ownsRow B 73 12 q (m + 1) (xs ++ fnCells ⟨a,nm,lp,tr,sc,lb,ex⟩ fv) ∧ IsFn1 (fun b => W.heap.size ≤ b) w' ⟨a,nm,lp,tr,sc,lb,ex⟩ fv:=by
 have hBW:=hB.2.2.2
 have HLT : Hid (∀ j,(Value.slice p m k).ownBlock = some j → B ≤ j ∧ j < W.heap.size):=hid G.out.lt
 obtain ⟨i0,hinf,hzi0,hzi1,hzi2⟩:=info_parts infoFn
 obtain ⟨m0,m1,m2,m3,m4,m5⟩:=S.out.at4.cells
 have ml0:=S.out.at4.lt
 go_enter Tryd.func42,Tryd.ntmps42
 go_upto_region 2 with (first
  | (go_at_call 39;(with_reducible refine (r4_limit16 S m).mono ?_);rintro e1 w1 ⟨rfl,hs1,hf1⟩;have S1 : Hid (A4 w1 r4 rb g cap ws d p0 p1 (.slice p m k) p3 (.ok (x :: tt))):=hid (hlim.out ▸ hs1))
  | (go_at_call 17;(with_reducible refine (r4_ok S1 true rfl).mono ?_);rintro e2 w2 ⟨rfl,hb2⟩;have S2:=hid (S1.out.stay hb2)))
 have F2 : Fr (some rb) W w2:=hf1.stepB hb2
 clear m0 m1 m2 m3 m4 m5 ml0
 obtain ⟨q4l,qbl,qgl⟩:=S2.out.blk
 obtain ⟨i,a9,R0,h5,_,_,_⟩:=S2.out.st.ok_cells S2.out.env
 obtain ⟨m0,_,_,_,_,_⟩:=S2.out.at4.cells
 obtain ⟨q0,q1,q2,q3,q4⟩:=R0.rd.cells
 have hlr:=R0.rd.lt
 have hfr:=R0.rd.frozen 1
 go_upto_region 3 with (fail)
 refine name_world ?_
 intro w3 hw3
 have F9 : Fr (some rb) w2 (w2.setCell ⟨rb,1,none⟩ (.int .i64 ((i : Int) + 1))):=(Fr.refl _ _).set (.inl rfl) _ _
 have S3 : Hid (A4 w3 r4 rb g cap ws d p0 p1 (.slice p m k) p3 (.ok tt)):=hid (by (rw [hw3];exact S2.out.fr F9 (st_adv S2.out.st R0 hx h5)))
 have F3 : Fr3 r4 rb none W w3:=by (rw [hw3];exact .of (F2.step F9))
 have hz3:=F3.1.1
 clear hw3 m0 q0 q1 q2 q3 q4 R0 h5 F9 hlr hfr q4l qbl qgl
 obtain ⟨q4l,qbl,qgl⟩:=S3.out.blk
 have FB3:=FBlk.new (X:=w3) (a:=0) (nm:=⟨#[]⟩) (pv:=(.slice none 0 0)) (tr:=false) (sc:=false) (bv:=(.slice none 0 0)) (k:=0) (q:=0) (n:=0) (s:=⟨#[]⟩) (kv:=(.slice none 0 0)) (xa:=0) rfl
 have S3':=hid (S3.out.alloc (.cells #[.int .i64 0,.string ⟨#[]⟩,.slice none 0 0,.bool false,.bool false,.slice none 0 0,.int .i64 0,.int .i64 0,.int .i64 0,.string ⟨#[]⟩,.slice none 0 0,.int .i64 0] 73))
 go_upto_region 5 with (go_at_call 40;(with_reducible refine (r4_name S3' H1.out).mono ?_);rintro e4 w4 ⟨rfl,hs4,hf4⟩;have hz4:=Fr.size hf4;(try simp only [World.size_alloc] at hz4))
 refine name_world ?_
 intro w5 hw5
 have FB5 : FBlk w5 w3.heap.size 0 ⟨#[]⟩ (.slice none 0 0) false false (.slice none 0 0) 0 0 0 ⟨#[]⟩ (.slice none 0 0) 0:=by (rw [hw5];exact (FB3.fr hf4 (by omega)).alloc _)
 have TB5 : TBlk w5 w4.heap.size (bstr nm) a:=by (rw [hw5];exact TBlk.new rfl)
 have S5 : Hid (A4 w5 r4 rb g cap ws d p0 p1 (.slice p m k) p3 τ1):=hid (by (rw [hw5];exact hs4.alloc _))
 have F5 : Fr3 r4 rb none W w5:=by (rw [hw5];exact ((F3.alloc _).step hf4).alloc _)
 have hz5 : w3.heap.size < w5.heap.size:=by (rw [hw5];simp;omega)
 obtain ⟨fl,⟨fc0,fc1,fc2,fc3,fc4,fc5,fc6,fc7,fc8,fc9,fc10,fc11⟩,ff0,ff1,ff2,ff3,ff4,ff5,ff6,ff7,ff8,ff9,ff10,ff11⟩:=FB5.facts
 obtain ⟨tl5,tc0,tc1,tf0,tf1⟩:=TB5.facts
 clear hw5
 go_upto_region 7 with (fail)
 refine name_world ?_
 intro w6 hw6
 have FB6 : FBlk w6 w3.heap.size a (bstr nm) (.slice none 0 0) false false (.slice none 0 0) 0 0 0 ⟨#[]⟩ (.slice none 0 0) 0:=by (rw [hw6];exact (FB5.set1 _).set0 _)
 have S6 : Hid (A4 w6 r4 rb g cap ws d p0 p1 (.slice p m k) p3 τ1):=hid (by (rw [hw6];exact (S5.out.setO (by omega) (by omega) (by omega) _ _).setO (by omega) (by omega) (by omega) _ _))
 have F6 : Fr3 r4 rb none W w6:=by (rw [hw6];exact (F5.set (.inr (.inr (by omega))) _ _).set (.inr (.inr (by omega))) _ _)
 have hz6 : w3.heap.size < w6.heap.size:=by (rw [hw6];simpa using hz5)
 clear hw6 tl5 tc0 tc1 tf0 tf1 fl fc0 fc1 fc2 fc3 fc4 fc5 fc6 fc7 fc8 fc9 fc10 fc11 ff0 ff1 ff2 ff3 ff4 ff5 ff6 ff7 ff8 ff9 ff10 ff11 FB5 TB5 S5 F5 hz5 hs4 hf4 S3' FB3
 have hne : rb ≠ w3.heap.size ∧ r4 ≠ w3.heap.size ∧ g ≠ w3.heap.size ∧ w3.heap.size ≠ rb:=by omega
 have hlo : W.heap.size ≤ w6.heap.size:=F6.1.1
 have hq6 : w6.heap.size ≤ w6.heap.size:=Nat.le_refl _
 obtain ⟨fl,⟨fc0,fc1,fc2,fc3,fc4,fc5,fc6,fc7,fc8,fc9,fc10,fc11⟩,ff0,ff1,ff2,ff3,ff4,ff5,ff6,ff7,ff8,ff9,ff10,ff11⟩:=FB6.facts
 go_upto_region 8 with (go_at_call 59;(with_reducible refine (r4_paramsQ S6 H2.out).mono ?_);rintro e w ⟨⟨zp,zc,rfl,hp7⟩,hs,hf⟩;have BQ:=FB6.fr hf hne.2.2.2;obtain ⟨gl,⟨gc0,gc1,gc2,gc3,gc4,gc5,gc6,gc7,gc8,gc9,gc10,gc11⟩,gf0,gf1,gf2,gf3,gf4,gf5,gf6,gf7,gf8,gf9,gf10,gf11⟩:=BQ.facts)
 refine name_world ?_
 intro w7 hw7
 have FB7 : FBlk w7 w3.heap.size a (bstr nm) (.slice zp lp.length zc) false false (.slice none 0 0) 0 0 0 ⟨#[]⟩ (.slice none 0 0) 0:=by (rw [hw7];exact (BQ.set2 _))
 have S7 : Hid (A4 w7 r4 rb g cap ws d p0 p1 (.slice p m k) p3 τ2):=hid (by (rw [hw7];exact (hs.setO hne.2.1 hne.1 hne.2.2.1 _ _)))
 have F7 : Fr3 r4 rb none W w7:=by (rw [hw7];exact ((F6.step hf).set (.inr (.inr (by omega))) _ _))
 have Hi7 : Hi w6.heap.size w6 w7:=by (rw [hw7];exact (((Hi.refl w6.heap.size w6).fr hf (by omega)).set (by omega) _ _))
 have hz7 : w3.heap.size < w7.heap.size:=by (have:=Hi7.1;omega)
 have hq7 : w6.heap.size ≤ w7.heap.size:=Nat.le_trans hq6 Hi7.1
 have XP:=hid (show IsPl (fun g => w6.heap.size ≤ g) 106 3 pmCells w7 lp (.slice zp lp.length zc) by (rw [hw7];exact (hp7.hi ((Hi.refl _ _).set (by omega) _ _))))
 clear hw7 fl fc0 fc1 fc2 fc3 fc4 fc5 fc6 fc7 fc8 fc9 fc10 fc11 ff0 ff1 ff2 ff3 ff4 ff5 ff6 ff7 ff8 ff9 ff10 ff11 gc0 gc1 gc2 gc3 gc4 gc5 gc6 gc7 gc8 gc9 gc10 gc11 gf0 gf1 gf2 gf3 gf4 gf5 gf6 gf7 gf8 gf9 gf10 gf11 gl BQ hs hf FB6 S6 F6
 obtain ⟨fl,⟨fc0,fc1,fc2,fc3,fc4,fc5,fc6,fc7,fc8,fc9,fc10,fc11⟩,ff0,ff1,ff2,ff3,ff4,ff5,ff6,ff7,ff8,ff9,ff10,ff11⟩:=FB7.facts
 go_upto_region 9 with (go_at_call 60;(with_reducible refine (r4_kind S7 H3.out).mono ?_);rintro e w ⟨rfl,hs,hf⟩;have BQ:=FB7.fr hf hne.2.2.2;obtain ⟨gl,⟨gc0,gc1,gc2,gc3,gc4,gc5,gc6,gc7,gc8,gc9,gc10,gc11⟩,gf0,gf1,gf2,gf3,gf4,gf5,gf6,gf7,gf8,gf9,gf10,gf11⟩:=BQ.facts)
 refine name_world ?_
 intro w8 hw8
 have FB8 : FBlk w8 w3.heap.size a (bstr nm) (.slice zp lp.length zc) tr sc (.slice none 0 0) 0 0 0 ⟨#[]⟩ (.slice none 0 0) 0:=by (rw [hw8];exact ((BQ.set3 _).set4 _))
 have S8 : Hid (A4 w8 r4 rb g cap ws d p0 p1 (.slice p m k) p3 τ3):=hid (by (rw [hw8];exact ((hs.setO hne.2.1 hne.1 hne.2.2.1 _ _).setO hne.2.1 hne.1 hne.2.2.1 _ _)))
 have F8 : Fr3 r4 rb none W w8:=by (rw [hw8];exact (((F7.step hf).set (.inr (.inr (by omega))) _ _).set (.inr (.inr (by omega))) _ _))
 have Hi8 : Hi w6.heap.size w7 w8:=by (rw [hw8];exact ((((Hi.refl w6.heap.size w7).fr hf (by omega)).set (by omega) _ _).set (by omega) _ _))
 have hz8 : w3.heap.size < w8.heap.size:=by (have:=Hi8.1;omega)
 have hq8 : w6.heap.size ≤ w8.heap.size:=Nat.le_trans hq7 Hi8.1
 have XP':=hid (XP.out.hi Hi8)
 clear XP
 clear hw8 fl fc0 fc1 fc2 fc3 fc4 fc5 fc6 fc7 fc8 fc9 fc10 fc11 ff0 ff1 ff2 ff3 ff4 ff5 ff6 ff7 ff8 ff9 ff10 ff11 gc0 gc1 gc2 gc3 gc4 gc5 gc6 gc7 gc8 gc9 gc10 gc11 gf0 gf1 gf2 gf3 gf4 gf5 gf6 gf7 gf8 gf9 gf10 gf11 gl BQ hs hf FB7 S7 F7
 obtain ⟨fl,⟨fc0,fc1,fc2,fc3,fc4,fc5,fc6,fc7,fc8,fc9,fc10,fc11⟩,ff0,ff1,ff2,ff3,ff4,ff5,ff6,ff7,ff8,ff9,ff10,ff11⟩:=FB8.facts
 go_upto_region 10 with (go_at_call 41;(with_reducible refine (r4_need S8 _ _ H4).mono ?_);rintro e w ⟨rfl,hs,hf⟩;have BQ:=FB8.fr hf hne.2.2.2;obtain ⟨gl,⟨gc0,gc1,gc2,gc3,gc4,gc5,gc6,gc7,gc8,gc9,gc10,gc11⟩,gf0,gf1,gf2,gf3,gf4,gf5,gf6,gf7,gf8,gf9,gf10,gf11⟩:=BQ.facts)
 refine name_world ?_
 intro w9 hw9
 have FB9 : FBlk w9 w3.heap.size a (bstr nm) (.slice zp lp.length zc) tr sc (.slice none 0 0) 0 0 0 ⟨#[]⟩ (.slice none 0 0) 0:=by (rw [hw9];exact BQ)
 have S9 : Hid (A4 w9 r4 rb g cap ws d p0 p1 (.slice p m k) p3 τ4):=hid (by (rw [hw9];exact hs))
 have F9 : Fr3 r4 rb none W w9:=by (rw [hw9];exact (F8.step hf))
 have Hi9 : Hi w6.heap.size w8 w9:=by (rw [hw9];exact ((Hi.refl w6.heap.size w8).fr hf (by omega)))
 have hz9 : w3.heap.size < w9.heap.size:=by (have:=Hi9.1;omega)
 have hq9 : w6.heap.size ≤ w9.heap.size:=Nat.le_trans hq8 Hi9.1
 have XP'':=hid (XP'.out.hi Hi9)
 clear XP'
 clear hw9 fl fc0 fc1 fc2 fc3 fc4 fc5 fc6 fc7 fc8 fc9 fc10 fc11 ff0 ff1 ff2 ff3 ff4 ff5 ff6 ff7 ff8 ff9 ff10 ff11 gc0 gc1 gc2 gc3 gc4 gc5 gc6 gc7 gc8 gc9 gc10 gc11 gf0 gf1 gf2 gf3 gf4 gf5 gf6 gf7 gf8 gf9 gf10 gf11 gl BQ hs hf FB8 S8 F8
 obtain ⟨m0,m1,_,_,_,_⟩:=S9.out.at4.cells
 have ml:=S9.out.at4.lt
 have mf:=S9.out.at4.frozen 1
 go_upto_region 11 with (fail)
 refine name_world ?_
 intro w10 hw10
 have hd1 : ((d + 1 : Nat) : Int) = (d : Int) + 1:=by omega
 have FB10 : FBlk w10 w3.heap.size a (bstr nm) (.slice zp lp.length zc) tr sc (.slice none 0 0) 0 0 0 ⟨#[]⟩ (.slice none 0 0) 0:=by (rw [hw10];exact FB9.setO hne.2.1.symm _ _)
 have S10 : Hid (A4 w10 r4 rb g cap ws ((d + 1 : Nat) : Int) p0 p1 (.slice p m k) p3 τ4):=hid (by (rw [hw10];exact S9.out.setD _))
 have F10 : Fr3 r4 rb none W w10:=by (rw [hw10];exact F9.set (.inl rfl) _ _)
 have Hi10 : Hi w6.heap.size w9 w10:=by (rw [hw10];exact (Hi.refl _ _).set (by omega) _ _)
 have hz10 : w3.heap.size < w10.heap.size:=by (have:=Hi10.1;omega)
 have hq10 : w6.heap.size ≤ w10.heap.size:=Nat.le_trans hq9 Hi10.1
 have XP''':=hid (XP''.out.hi Hi10)
 clear XP''
 clear hw10 m0 m1 mf ml hd1 FB9 S9 F9
 obtain ⟨fl,⟨fc0,fc1,fc2,fc3,fc4,fc5,fc6,fc7,fc8,fc9,fc10,fc11⟩,ff0,ff1,ff2,ff3,ff4,ff5,ff6,ff7,ff8,ff9,ff10,ff11⟩:=FB10.facts
 go_upto_region 12 with (go_at_call 61;(with_reducible refine (HG.out.use S10 hlen (.inl hd) _ H5.out).mono ?_);rintro e w ⟨⟨bp,bm,bc,rfl,hb12⟩,hs,hf⟩;have BQ:=FB10.fr hf hne.2.2.2;obtain ⟨gl,⟨gc0,gc1,gc2,gc3,gc4,gc5,gc6,gc7,gc8,gc9,gc10,gc11⟩,gf0,gf1,gf2,gf3,gf4,gf5,gf6,gf7,gf8,gf9,gf10,gf11⟩:=BQ.facts)
 refine name_world ?_
 intro w11 hw11
 have FB11 : FBlk w11 w3.heap.size a (bstr nm) (.slice zp lp.length zc) tr sc (.slice bp bm bc) 0 0 0 ⟨#[]⟩ (.slice none 0 0) 0:=by (rw [hw11];exact (BQ.set5 _))
 have S11 : Hid (A4 w11 r4 rb g cap ws ((d + 1 : Nat) : Int) p0 p1 (.slice p m k) p3 τ5):=hid (by (rw [hw11];exact (hs.setO hne.2.1 hne.1 hne.2.2.1 _ _)))
 have F11 : Fr3 r4 rb none W w11:=by (rw [hw11];exact ((F10.step hf).set (.inr (.inr (by omega))) _ _))
 have Hi11 : Hi w6.heap.size w10 w11:=by (rw [hw11];exact (((Hi.refl w6.heap.size w10).fr hf (by omega)).set (by omega) _ _))
 have hz11 : w3.heap.size < w11.heap.size:=by (have:=Hi11.1;omega)
 have hq11 : w6.heap.size ≤ w11.heap.size:=Nat.le_trans hq10 Hi11.1
 have XB:=hid (show ∀ t,τ5 = .ok t → IsSts (fun g => w6.heap.size ≤ g) w11 lb (.slice bp bm bc) from fun t ht => by (rw [hw11];exact ((hb12 t ht).lo (by omega)).hi ((Hi.refl _ _).set (by omega) _ _)))
 have XP'''':=hid (XP'''.out.hi Hi11)
 clear XP'''
 clear hw11 fl fc0 fc1 fc2 fc3 fc4 fc5 fc6 fc7 fc8 fc9 fc10 fc11 ff0 ff1 ff2 ff3 ff4 ff5 ff6 ff7 ff8 ff9 ff10 ff11 gc0 gc1 gc2 gc3 gc4 gc5 gc6 gc7 gc8 gc9 gc10 gc11 gf0 gf1 gf2 gf3 gf4 gf5 gf6 gf7 gf8 gf9 gf10 gf11 gl BQ hs hf FB10 S10 F10
 obtain ⟨fl,⟨fc0,fc1,fc2,fc3,fc4,fc5,fc6,fc7,fc8,fc9,fc10,fc11⟩,ff0,ff1,ff2,ff3,ff4,ff5,ff6,ff7,ff8,ff9,ff10,ff11⟩:=FB11.facts
 go_upto_region 13 with (go_at_call 41;(with_reducible refine (r4_need S11 _ _ H6).mono ?_);rintro e w ⟨rfl,hs,hf⟩;have BQ:=FB11.fr hf hne.2.2.2;obtain ⟨gl,⟨gc0,gc1,gc2,gc3,gc4,gc5,gc6,gc7,gc8,gc9,gc10,gc11⟩,gf0,gf1,gf2,gf3,gf4,gf5,gf6,gf7,gf8,gf9,gf10,gf11⟩:=BQ.facts)
 refine name_world ?_
 intro w12 hw12
 have FB12 : FBlk w12 w3.heap.size a (bstr nm) (.slice zp lp.length zc) tr sc (.slice bp bm bc) 0 0 0 ⟨#[]⟩ (.slice none 0 0) 0:=by (rw [hw12];exact BQ)
 have S12 : Hid (A4 w12 r4 rb g cap ws ((d + 1 : Nat) : Int) p0 p1 (.slice p m k) p3 τ6):=hid (by (rw [hw12];exact hs))
 have F12 : Fr3 r4 rb none W w12:=by (rw [hw12];exact (F11.step hf))
 have Hi12 : Hi w6.heap.size w11 w12:=by (rw [hw12];exact ((Hi.refl w6.heap.size w11).fr hf (by omega)))
 have hz12 : w3.heap.size < w12.heap.size:=by (have:=Hi12.1;omega)
 have hq12 : w6.heap.size ≤ w12.heap.size:=Nat.le_trans hq11 Hi12.1
 have XP''''':=hid (XP''''.out.hi Hi12)
 clear XP''''
 have XB':=hid (fun t ht => (XB.out t ht).hi Hi12)
 clear XB
 clear hw12 fl fc0 fc1 fc2 fc3 fc4 fc5 fc6 fc7 fc8 fc9 fc10 fc11 ff0 ff1 ff2 ff3 ff4 ff5 ff6 ff7 ff8 ff9 ff10 ff11 gc0 gc1 gc2 gc3 gc4 gc5 gc6 gc7 gc8 gc9 gc10 gc11 gf0 gf1 gf2 gf3 gf4 gf5 gf6 gf7 gf8 gf9 gf10 gf11 gl BQ hs hf FB11 S11 F11
 obtain ⟨fl,⟨fc0,fc1,fc2,fc3,fc4,fc5,fc6,fc7,fc8,fc9,fc10,fc11⟩,ff0,ff1,ff2,ff3,ff4,ff5,ff6,ff7,ff8,ff9,ff10,ff11⟩:=FB12.facts
 go_upto_region 14 with (go_at_call 62;(with_reducible refine (r4_exprQ S12 H7.out).mono ?_);rintro e w ⟨⟨ek,eo,en,es,ep,el,ec,ea,rfl,hx14⟩,hs,hf⟩;have BQ:=FB12.fr hf hne.2.2.2;obtain ⟨gl,⟨gc0,gc1,gc2,gc3,gc4,gc5,gc6,gc7,gc8,gc9,gc10,gc11⟩,gf0,gf1,gf2,gf3,gf4,gf5,gf6,gf7,gf8,gf9,gf10,gf11⟩:=BQ.facts)
 refine name_world ?_
 intro w13 hw13
 have FB13 : FBlk w13 w3.heap.size a (bstr nm) (.slice zp lp.length zc) tr sc (.slice bp bm bc) ek eo en es (.slice ep el ec) ea:=by (rw [hw13];exact ((((((BQ.set6 _).set7 _).set8 _).set9 _).set10 _).set11 _))
 have S13 : Hid (A4 w13 r4 rb g cap ws ((d + 1 : Nat) : Int) p0 p1 (.slice p m k) p3 τ7):=hid (by (rw [hw13];exact ((((((hs.setO hne.2.1 hne.1 hne.2.2.1 _ _).setO hne.2.1 hne.1 hne.2.2.1 _ _).setO hne.2.1 hne.1 hne.2.2.1 _ _).setO hne.2.1 hne.1 hne.2.2.1 _ _).setO hne.2.1 hne.1 hne.2.2.1 _ _).setO hne.2.1 hne.1 hne.2.2.1 _ _)))
 have F13 : Fr3 r4 rb none W w13:=by (rw [hw13];exact (((((((F12.step hf).set (.inr (.inr (by omega))) _ _).set (.inr (.inr (by omega))) _ _).set (.inr (.inr (by omega))) _ _).set (.inr (.inr (by omega))) _ _).set (.inr (.inr (by omega))) _ _).set (.inr (.inr (by omega))) _ _))
 have Hi13 : Hi w6.heap.size w12 w13:=by (rw [hw13];exact ((((((((Hi.refl w6.heap.size w12).fr hf (by omega)).set (by omega) _ _).set (by omega) _ _).set (by omega) _ _).set (by omega) _ _).set (by omega) _ _).set (by omega) _ _))
 have hz13 : w3.heap.size < w13.heap.size:=by (have:=Hi13.1;omega)
 have hq13 : w6.heap.size ≤ w13.heap.size:=Nat.le_trans hq12 Hi13.1
 have XX:=hid (show ∀ t,τ7 = .ok t → VEx w6.heap.size w13 ex ek eo en es ep el ec ea from fun t ht => by (rw [hw13];exact ((hx14 t ht).low (by omega)).kept fun j hj hl => (((((((Hi.refl w6.heap.size _).set (show w3.heap.size < w6.heap.size by omega) _ _).set (show w3.heap.size < w6.heap.size by omega) _ _).set (show w3.heap.size < w6.heap.size by omega) _ _).set (show w3.heap.size < w6.heap.size by omega) _ _).set (show w3.heap.size < w6.heap.size by omega) _ _).set (show w3.heap.size < w6.heap.size by omega) _ _).2 j hj hl))
 have XP'''''':=hid (XP'''''.out.hi Hi13)
 clear XP'''''
 have XB'':=hid (fun t ht => (XB'.out t ht).hi Hi13)
 clear XB'
 clear hw13 fl fc0 fc1 fc2 fc3 fc4 fc5 fc6 fc7 fc8 fc9 fc10 fc11 ff0 ff1 ff2 ff3 ff4 ff5 ff6 ff7 ff8 ff9 ff10 ff11 gc0 gc1 gc2 gc3 gc4 gc5 gc6 gc7 gc8 gc9 gc10 gc11 gf0 gf1 gf2 gf3 gf4 gf5 gf6 gf7 gf8 gf9 gf10 gf11 gl BQ hs hf FB12 S12 F12
 obtain ⟨fl,⟨fc0,fc1,fc2,fc3,fc4,fc5,fc6,fc7,fc8,fc9,fc10,fc11⟩,ff0,ff1,ff2,ff3,ff4,ff5,ff6,ff7,ff8,ff9,ff10,ff11⟩:=FB13.facts
 go_upto_region 15 with (go_at_call 41;(with_reducible refine (r4_need S13 _ _ H8).mono ?_);rintro e w ⟨rfl,hs,hf⟩;have BQ:=FB13.fr hf hne.2.2.2;obtain ⟨gl,⟨gc0,gc1,gc2,gc3,gc4,gc5,gc6,gc7,gc8,gc9,gc10,gc11⟩,gf0,gf1,gf2,gf3,gf4,gf5,gf6,gf7,gf8,gf9,gf10,gf11⟩:=BQ.facts)
 refine name_world ?_
 intro w14 hw14
 have FB14 : FBlk w14 w3.heap.size a (bstr nm) (.slice zp lp.length zc) tr sc (.slice bp bm bc) ek eo en es (.slice ep el ec) ea:=by (rw [hw14];exact BQ)
 have S14 : Hid (A4 w14 r4 rb g cap ws ((d + 1 : Nat) : Int) p0 p1 (.slice p m k) p3 τ8):=hid (by (rw [hw14];exact hs))
 have F14 : Fr3 r4 rb none W w14:=by (rw [hw14];exact (F13.step hf))
 have Hi14 : Hi w6.heap.size w13 w14:=by (rw [hw14];exact ((Hi.refl w6.heap.size w13).fr hf (by omega)))
 have hz14 : w3.heap.size < w14.heap.size:=by (have:=Hi14.1;omega)
 have hq14 : w6.heap.size ≤ w14.heap.size:=Nat.le_trans hq13 Hi14.1
 have XP''''''':=hid (XP''''''.out.hi Hi14)
 clear XP''''''
 have XB''':=hid (fun t ht => (XB''.out t ht).hi Hi14)
 clear XB''
 have XX':=hid (fun t ht => (XX.out t ht).kept fun j hj hl => Hi14.2 j hj hl)
 clear XX
 clear hw14 fl fc0 fc1 fc2 fc3 fc4 fc5 fc6 fc7 fc8 fc9 fc10 fc11 ff0 ff1 ff2 ff3 ff4 ff5 ff6 ff7 ff8 ff9 ff10 ff11 gc0 gc1 gc2 gc3 gc4 gc5 gc6 gc7 gc8 gc9 gc10 gc11 gf0 gf1 gf2 gf3 gf4 gf5 gf6 gf7 gf8 gf9 gf10 gf11 gl BQ hs hf FB13 S13 F13
 obtain ⟨O,hO⟩ : ∃ O : Int,O = ((d + 1 : Nat) : Int):=⟨_,rfl⟩
 have HO:=hid hO
 have S14' : Hid (A4 w14 r4 rb g cap ws O p0 p1 (.slice p m k) p3 τ8):=hid (hO ▸ S14.out)
 clear hO
 clear S14
 have S14:=S14'
 clear S14'
 obtain ⟨fl,⟨fc0,fc1,fc2,fc3,fc4,fc5,fc6,fc7,fc8,fc9,fc10,fc11⟩,ff0,ff1,ff2,ff3,ff4,ff5,ff6,ff7,ff8,ff9,ff10,ff11⟩:=FB14.facts
 go_upto_region 16 with (go_at_call 41;(with_reducible refine (r4_need S14 _ _ H9).mono ?_);rintro e w ⟨rfl,hs,hf⟩;have BQ:=FB14.fr hf hne.2.2.2;obtain ⟨gl,⟨gc0,gc1,gc2,gc3,gc4,gc5,gc6,gc7,gc8,gc9,gc10,gc11⟩,gf0,gf1,gf2,gf3,gf4,gf5,gf6,gf7,gf8,gf9,gf10,gf11⟩:=BQ.facts)
 refine name_world ?_
 intro w15 hw15
 have FB15 : FBlk w15 w3.heap.size a (bstr nm) (.slice zp lp.length zc) tr sc (.slice bp bm bc) ek eo en es (.slice ep el ec) ea:=by (rw [hw15];exact BQ)
 have S15 : Hid (A4 w15 r4 rb g cap ws O p0 p1 (.slice p m k) p3 τ9):=hid (by (rw [hw15];exact hs))
 have F15 : Fr3 r4 rb none W w15:=by (rw [hw15];exact (F14.step hf))
 have Hi15 : Hi w6.heap.size w14 w15:=by (rw [hw15];exact ((Hi.refl w6.heap.size w14).fr hf (by omega)))
 have hz15 : w3.heap.size < w15.heap.size:=by (have:=Hi15.1;omega)
 have hq15 : w6.heap.size ≤ w15.heap.size:=Nat.le_trans hq14 Hi15.1
 have XP'''''''':=hid (XP'''''''.out.hi Hi15)
 clear XP'''''''
 have XB'''':=hid (fun t ht => (XB'''.out t ht).hi Hi15)
 clear XB'''
 have XX'':=hid (fun t ht => (XX'.out t ht).kept fun j hj hl => Hi15.2 j hj hl)
 clear XX'
 clear hw15 fl fc0 fc1 fc2 fc3 fc4 fc5 fc6 fc7 fc8 fc9 fc10 fc11 ff0 ff1 ff2 ff3 ff4 ff5 ff6 ff7 ff8 ff9 ff10 ff11 gc0 gc1 gc2 gc3 gc4 gc5 gc6 gc7 gc8 gc9 gc10 gc11 gf0 gf1 gf2 gf3 gf4 gf5 gf6 gf7 gf8 gf9 gf10 gf11 gl BQ hs hf FB14 S14 F14
 obtain ⟨m0,m1,_,_,_,_⟩:=S15.out.at4.cells
 have ml:=S15.out.at4.lt
 have mf:=S15.out.at4.frozen 1
 go_upto_region 17 with (fail)
 refine name_world ?_
 intro w16 hw16
 have hwd : wrap64 (O - 1) = (d : Int):=by (rw [HO.out];unfold wrap64;omega)
 have FB16 : FBlk w16 w3.heap.size a (bstr nm) (.slice zp lp.length zc) tr sc (.slice bp bm bc) ek eo en es (.slice ep el ec) ea:=by (rw [hw16];exact FB15.setO hne.2.1.symm _ _)
 have S16 : Hid (A4 w16 r4 rb g cap ws d p0 p1 (.slice p m k) p3 τ9):=hid (by (rw [hw16];first | exact S15.out.setD _ | (rw [hwd];exact S15.out.setD _)))
 have F16 : Fr3 r4 rb none W w16:=by (rw [hw16];exact F15.set (.inl rfl) _ _)
 have Hi16 : Hi w6.heap.size w15 w16:=by (rw [hw16];exact (Hi.refl _ _).set (by omega) _ _)
 have hz16 : w3.heap.size < w16.heap.size:=by (have:=Hi16.1;omega)
 have hq16 : w6.heap.size ≤ w16.heap.size:=Nat.le_trans hq15 Hi16.1
 have XP''''''''':=hid (XP''''''''.out.hi Hi16)
 clear XP''''''''
 have XB''''':=hid (fun t ht => (XB''''.out t ht).hi Hi16)
 clear XB''''
 have XX''':=hid (fun t ht => (XX''.out t ht).kept fun j hj hl => Hi16.2 j hj hl)
 clear XX''
 clear hw16 hwd m0 m1 mf ml FB15 S15 F15
 have G16 : w16.ownsRow B 73 12 (.slice p m k) m xs:=own_fr0 G.out F16 hB.1 hB.2.1
 have hzW:=F16.1.1
 obtain ⟨fl,⟨fc0,fc1,fc2,fc3,fc4,fc5,fc6,fc7,fc8,fc9,fc10,fc11⟩,ff0,ff1,ff2,ff3,ff4,ff5,ff6,ff7,ff8,ff9,ff10,ff11⟩:=FB16.facts
 obtain ⟨m0,m1,m2,m3,m4,m5⟩:=S16.out.at4.cells
 have ml:=S16.out.at4.lt
 have mf:=S16.out.at4.frozen 4
 have hown : ∀ k',k' < B → some k' ≠ (Value.slice p m k).ownBlock:=fun k' hk e => by (have:=(HLT.out k' e.symm).1;omega)
 go_region_law (refine step_append_lies _ (by rfl) _ _ _ (by rfl) B 73 i0 _ 12 152 Tryd.underlying25 hinf hzi0 hzi1 hzi2 rfl (by decide) (.slice p m k) m xs (by rfl) (own_below G16 (by (with_reducible repeat first | exact Below.refl _ _ | refine Below.alloc ?_ (by first | omega | (simp;omega)) _ | refine Below.drewN ?_ _ | refine Below.drew ?_ | refine Below.setCell ?_ (by first | omega | (simp;omega)) _ | refine Below.trans ?_ (by assumption)))) ⟨_,0,none⟩ 1 1 [.int .i64 a,.string (bstr nm),.slice zp lp.length zc,.bool tr,.bool sc,.slice bp bm bc,.int .i64 ek,.int .i64 eo,.int .i64 en,.string es,.slice ep el ec,.int .i64 ea] (by rfl) (by rfl) (World.news_of_block (heap_alloc_new _ _)) raw12_one (by decide) (by unfold maxLen;omega) (by omega) (by simp;omega) _ rfl ?_;intro gg cap6 w30 hown9 hgrow9 hor9 hlt9;have hgr9 : World.grownBy _ w30 (Value.slice p m k).ownBlock:=hgrow9;have S30:=hid (((S16.out.drew).alloc (.cells #[.int .i64 a,.string (bstr nm),.slice zp lp.length zc,.bool tr,.bool sc,.slice bp bm bc,.int .i64 ek,.int .i64 eo,.int .i64 en,.string es,.slice ep el ec,.int .i64 ea] 73)).grow hgr9 (hown _ hB.1) (hown _ hB.2.1) (hown _ hB.2.2.1));obtain ⟨n0,n1,n2,n3,n4,n5⟩:=S30.out.at4.cells;have nl:=S30.out.at4.lt;have nf:=S30.out.at4.frozen 4)
 all_goals go_end0
 all_goals
  have FR : Fr3 r4 rb (Value.slice p m k).ownBlock W (w30.setCell ⟨r4,4,none⟩ (.slice (some ⟨gg,0,none⟩) (m + 1) cap6)):=((((F16.drew).alloc (.cells #[.int .i64 a,.string (bstr nm),.slice zp lp.length zc,.bool tr,.bool sc,.slice bp bm bc,.int .i64 ek,.int .i64 eo,.int .i64 en,.string es,.slice ep el ec,.int .i64 ea] 73)).grow hgr9).set (.inl rfl) _ _)
  refine ⟨rfl,_,S30.out.set4 _,FR,fun t ht => ?_⟩
  have h:=own_fr hown9 ((Fr.refl (some r4) _).set (.inl rfl) 4 (.slice (some ⟨gg,0,none⟩) (m + 1) cap6)) hB.1
  have HI : Hi w6.heap.size w16 (w30.setCell ⟨r4,4,none⟩ (.slice (some ⟨gg,0,none⟩) (m + 1) cap6)):=by
   have h1 : Hi w6.heap.size w16 ((w16.drew).alloc (.cells #[.int .i64 a,.string (bstr nm),.slice zp lp.length zc,.bool tr,.bool sc,.slice bp bm bc,.int .i64 ek,.int .i64 eo,.int .i64 en,.string es,.slice ep el ec,.int .i64 ea] 73)):=(Hi.refl _ _).stay (((Below.refl _ _).drew).alloc (Nat.le_refl _) _)
   refine Hi.set ⟨Nat.le_trans h1.1 hgr9.size,fun g' hg' hl' => (hgr9.block g' (Nat.lt_of_lt_of_le hl' h1.1) (fun e => ?_)).trans (h1.2 g' hg' hl')⟩ (by omega) _ _
   have:=(HLT.out g' e.symm).2
   omega
  obtain ⟨t8,ht8⟩:=needQ_ok H9.out ht
  obtain ⟨t7,ht7⟩:=needQ_ok H8.out ht8
  obtain ⟨t6,ht6⟩:=exQ_ok H7.out ht7
  obtain ⟨t5,ht5⟩:=needQ_ok H6.out ht6
  have hx:=(XX'''.out t7 ht7).kept fun j hj hl => HI.2 j hj hl
  obtain ⟨rfl,rfl,rfl,rfl,rfl,rfl,hk⟩:=hx
  refine ⟨⟨.slice zp lp.length zc,.slice bp bm bc,.slice ep ex.ks.length ec⟩,h,?_,?_,?_⟩
  · exact (XP'''''''''.out.hi HI).low hlo
  · exact ((XB'''''.out t5 ht5).hi HI).lo hlo
  · exact hk.toP fun b hb _ => ⟨rfl,Nat.le_trans hlo hb⟩
end Go.Proofs.YtkhbbapocamlmaaDoor
