/- Joined texts: Rs Re Rnam Rlist RnamC: lemmas for the law; each says its own conditions. -/
import Derived.Test.YtbmmjomcjlpnlaaQ01
import Derived.Deep.Cut
import Derived.Deep.AppendLies
set_option linter.unusedSimpArgs false
set_option linter.unusedVariables false
set_option maxRecDepth 100000
set_option maxHeartbeats 8000000
open Go.Lib (hid)
namespace Go.Proofs.Ytbmmjomcjlpnlaa
open Go Go.RowKit
def KOk (x : Wd) : Prop:=(x.k = 0 → ∃ c r,x.t = c :: r ∧ isLetter c = true) ∧ (x.k = 2 → ∃ c r,x.t = c :: r ∧ isLetter c = false)
theorem KOk.sgn {x : Wd} (h : KOk x) {c : UInt8} {r : List UInt8} (hc : isLetter c = false) : ((x.k = 2 ∨ x.k = 0) ∧ x.t = c :: r) ↔ Sg x (c :: r):=by
 constructor
 · rintro ⟨h1 | h1,h2⟩
   · exact ⟨h1,h2⟩
   · obtain ⟨c',r',h3,h4⟩:=h.1 h1
     rw [h2] at h3
     cases h3
     rw [hc] at h4
     cases h4
 · rintro ⟨h1,h2⟩
   exact ⟨.inl h1,h2⟩
theorem KOk.nam {x : Wd} (h : KOk x) {c : UInt8} {r : List UInt8} (hc : isLetter c = true) : ((x.k = 2 ∨ x.k = 0) ∧ x.t = c :: r) ↔ (x.k = 0 ∧ x.t = c :: r):=by
 constructor
 · rintro ⟨h1 | h1,h2⟩
   · obtain ⟨c',r',h3,h4⟩:=h.2 h1
     rw [h2] at h3
     cases h3
     rw [hc] at h4
     cases h4
   · exact ⟨h1,h2⟩
 · rintro ⟨h1,h2⟩
   exact ⟨.inr h1,h2⟩
structure EnvR (rb g : Nat) (ws : List Wd) (W : World) : Prop where
 wc : WCells W g ws
 ne : g ≠ rb
 few : ws.length < 1000000
 long : ∀ x ∈ ws,x.t.length ≤ 100000
 kok : ∀ x ∈ ws,KOk x
theorem EnvR.kept {rb g : Nat} {ws : List Wd} {W X : World} (E : EnvR rb g ws W) (hf : Fr (some rb) W X) : EnvR rb g ws X :=
 ⟨E.wc.kept (fun k e => hf.block (by rw [e];exact E.wc.lt) (by simp;rw [e];exact E.ne)) hf.size,E.ne,E.few,E.long,E.kok⟩
theorem EnvR.stay {rb g : Nat} {ws : List Wd} {W X : World} (E : EnvR rb g ws W) (hf : Below W.heap.size W X) : EnvR rb g ws X:=E.kept (.of hf)
theorem EnvR.setO {rb g : Nat} {ws : List Wd} {W : World} (E : EnvR rb g ws W) {b : Nat} (hne : g ≠ b) (k : Nat) (v : Value) : EnvR rb g ws (W.setCell ⟨b,k,none⟩ v) :=
 ⟨E.wc.kept (fun j e => heap_setCell_other W ⟨b,k,none⟩ j v (by rw [e];exact hne)) (by simp),E.ne,E.few,E.long,E.kok⟩
def StR (W : World) (rb g cap : Nat) (ws : List Wd) (o : Int) : RS → Prop
 | .ok ts => ts <:+ ws ∧ Fin ts ∧ ∃ a,RrAt W rb (.slice (some ⟨g,0,none⟩) ws.length cap) ((ws.length - ts.length : Nat) : Int) o 0 a
 | .bad c b => c ≠ 0 ∧ ∃ i : Nat,i < ws.length ∧ RrAt W rb (.slice (some ⟨g,0,none⟩) ws.length cap) i o c b
section
variable {W X : World} {rb g cap : Nat} {ws : List Wd} {o : Int} {σ : RS}
theorem StR.stay (S : StR W rb g cap ws o σ) (hf : Below W.heap.size W X) : StR X rb g cap ws o σ:=by
 cases σ with
 | ok ts =>
  obtain ⟨h1,h2,a,h3⟩:=S
  exact ⟨h1,h2,a,h3.kept hf⟩
 | bad c b =>
  obtain ⟨h1,i,h2,h3⟩:=S
  exact ⟨h1,i,h2,h3.kept hf⟩
theorem StR.alloc (S : StR W rb g cap ws o σ) (ob : Obj) : StR (W.alloc ob) rb g cap ws o σ:=S.stay ((Below.refl _ _).alloc (Nat.le_refl _) _)
theorem StR.drewN (S : StR W rb g cap ws o σ) (n : Nat) : StR (W.drewN n) rb g cap ws o σ:=S.stay (below_drewN (Below.refl _ _) n)
theorem StR.drew (S : StR W rb g cap ws o σ) : StR W.drew rb g cap ws o σ:=S.stay (Below.refl _ _).drew
theorem StR.rd (S : StR W rb g cap ws o σ) : ∃ (i : Nat) (c a : Int),RrAt W rb (.slice (some ⟨g,0,none⟩) ws.length cap) i o c a ∧ (c = 0 ↔ σ.good = true) ∧ ∀ X o',RrAt X rb (.slice (some ⟨g,0,none⟩) ws.length cap) i o' c a → StR X rb g cap ws o' σ:=by
 cases σ with
 | ok ts =>
  obtain ⟨h1,h2,a,h3⟩:=S
  exact ⟨_,0,a,h3,by simp [RS.good],fun X o' h => ⟨h1,h2,a,h⟩⟩
 | bad c b =>
  obtain ⟨h1,i,h2,h3⟩:=S
  exact ⟨i,c,b,h3,by simp [RS.good,h1],fun X o' h => ⟨h1,i,h2,h⟩⟩
theorem StR.setO (S : StR W rb g cap ws o σ) {b : Nat} (hne : rb ≠ b) (k : Nat) (v : Value) : StR (W.setCell ⟨b,k,none⟩ v) rb g cap ws o σ:=by
 obtain ⟨i,c,a,h1,_,h2⟩:=S.rd
 exact h2 _ _ (h1.setO hne k v)
theorem StR.set2 (S : StR W rb g cap ws o σ) (v : Int) : StR (W.setCell ⟨rb,2,none⟩ (.int .i64 v)) rb g cap ws v σ:=by
 obtain ⟨i,c,a,h1,_,h2⟩:=S.rd
 exact h2 _ _ (h1.set2 v)
theorem StR.at_ (S : StR W rb g cap ws o σ) (E : EnvR rb g ws W) : ∃ (i : Nat) (x : Wd) (c a : Int),Rr W rb g cap ws i x o c a ∧ (∀ t,isB x c t = σ.is t) ∧ (c = 0 → ∃ tt,σ = .ok (x :: tt) ∧ i + 1 = ws.length - tt.length ∧ tt <:+ ws ∧ i < 1000000) ∧ (c ≠ 0 → ∃ b : Nat,a = b ∧ σ = .bad c b):=by
 cases σ with
 | ok ts =>
  obtain ⟨h1,h2,a,h3⟩:=S
  obtain ⟨x,tt,rfl⟩:=h2.ne
  obtain ⟨h4,h5,h6⟩:=suf_at h1
  refine ⟨_,x,0,a,⟨h3,E.wc,E.ne,h4⟩,fun t => by simp [isB,RS.is],fun _ => ⟨tt,rfl,h5,h6,?_⟩,fun h => absurd rfl h⟩
  have:=E.few
  omega
 | bad c b =>
  obtain ⟨h1,i,h2,h3⟩:=S
  exact ⟨i,ws[i],c,b,⟨h3,E.wc,E.ne,List.getElem?_eq_getElem h2⟩,fun t => by simp [isB,RS.is,h1],fun h => absurd h h1,fun _ => ⟨b,rfl,rfl⟩⟩
theorem st_adv {x : Wd} {tt : List Wd} {i : Nat} {a : Int} (S : StR W rb g cap ws o (.ok (x :: tt))) (R : Rr W rb g cap ws i x o 0 a) (hx : x.k ≠ 3) (h5 : i + 1 = ws.length - tt.length) : StR (W.setCell ⟨rb,1,none⟩ (.int .i64 ((i : Int) + 1))) rb g cap ws o (.ok tt) :=
 ⟨(suf_at S.1).2.2,S.2.1.cons hx,a,h5 ▸ R.rd.set1 _⟩
theorem st_dec {n : Nat} (S : StR W rb g cap ws ((n + 1 : Nat) : Int) σ) (hn : n ≤ 32) : StR (W.setCell ⟨rb,2,none⟩ (.int .i64 (wrap64 (((n + 1 : Nat) : Int) - 1)))) rb g cap ws n σ:=by
 have hw : wrap64 (((n + 1 : Nat) : Int) - 1) = (n : Int):=by unfold wrap64;omega
 rw [hw]
 exact S.set2 _
theorem StR.ok_cells {x : Wd} {tt : List Wd} (S : StR W rb g cap ws o (.ok (x :: tt))) (E : EnvR rb g ws W) : ∃ (i : Nat) (a : Int),Rr W rb g cap ws i x o 0 a ∧ i + 1 = ws.length - tt.length ∧ tt <:+ ws ∧ i < 1000000 ∧ x ∈ ws:=by
 obtain ⟨h1,h2,a,h3⟩:=S
 obtain ⟨h4,h5,h6⟩:=suf_at h1
 exact ⟨_,a,⟨h3,E.wc,E.ne,h4⟩,h5,h6,by have:=E.few;omega,h1.subset (by simp)⟩
theorem StR.mk_ok {tt : List Wd} {i : Nat} {a : Int} (h : RrAt W rb (.slice (some ⟨g,0,none⟩) ws.length cap) i o 0 a) (hi : i = ws.length - tt.length) (hs : tt <:+ ws) (hF : Fin tt) : StR W rb g cap ws o (.ok tt):=⟨hs,hF,a,hi ▸ h⟩
theorem StR.mk_bad {c : Int} {b i : Nat} (h : RrAt W rb (.slice (some ⟨g,0,none⟩) ws.length cap) i o c b) (hi : i < ws.length) (hc : c ≠ 0) : StR W rb g cap ws o (.bad c b):=⟨hc,i,hi,h⟩
theorem StR.fin {tt : List Wd} (S : StR W rb g cap ws o (.ok tt)) : Fin tt:=S.2.1
theorem StR.lt (S : StR W rb g cap ws o σ) : rb < W.heap.size:=by
 obtain ⟨i,c,a,h1,_⟩:=S.rd
 exact h1.lt
end
theorem RrAt.nx {W : World} {rb : Nat} {sl : Value} {op c a : Int} {k : Nat} (h : RrAt W rb sl k op c a) : nxOf W rb = k:=by
 unfold nxOf
 rw [h.cells.2.1]
 simp
def msR (W : World) (rb n : Nat) : Nat:=match W.cell? ⟨rb,3,none⟩ with | some (.int _ c) => if c = 0 then n + 1 - nxOf W rb else 0 | _ => 0
def RS.ms : RS → Nat | .ok tt => tt.length + 1 | .bad _ _ => 0
theorem StR.ms {W : World} {rb g cap : Nat} {ws : List Wd} {o : Int} {σ : RS} (S : StR W rb g cap ws o σ) : msR W rb ws.length = σ.ms:=by
 cases σ with
 | ok ts =>
  obtain ⟨h1,h2,a,h3⟩:=S
  have:=h1.length_le
  unfold msR
  rw [h3.cells.2.2.2.1,h3.nx]
  show (if (0 : Int) = 0 then ws.length + 1 - (ws.length - ts.length) else 0) = ts.length + 1
  rw [if_pos rfl]
  omega
 | bad c b =>
  obtain ⟨h1,i,h2,h3⟩:=S
  unfold msR
  rw [h3.cells.2.2.2.1]
  show (if c = 0 then ws.length + 1 - nxOf W rb else 0) = 0
  rw [if_neg h1]
theorem RS.is_ne3 {x : Wd} {tt : List Wd} {t : List UInt8} (h : (RS.ok (x :: tt)).is t = true) : x.k ≠ 3:=by
 simp [RS.is] at h
 omega
theorem Rr.lt {W : World} {rb g cap : Nat} {ws : List Wd} {i : Nat} {x : Wd} {op c a : Int} (R : Rr W rb g cap ws i x op c a) : i < ws.length:=(List.getElem?_eq_some_iff.1 R.at_).1
theorem st_is {rb g cap : Nat} {ws : List Wd} {o : Int} {σ : RS} {W : World} (S : StR W rb g cap ws o σ) (E : EnvR rb g ws W) (s : ByteArray) (b : Bool) (hb : σ.is s.data.toList = b) :
 Calls Try.prog 62 #[.pointer (some ⟨rb,0,none⟩),.string s] W fun e w' => e = .returned (.bool b) ∧ Below W.heap.size W w':=by
 obtain ⟨i,x,c,a,R,hi,_,_⟩:=S.at_ E
 exact rr_is rb g cap ws i x o c a s W R b ((hi _).trans hb)
theorem st_fail {rb g cap : Nat} {ws : List Wd} {o : Int} {σ : RS} {W : World} (S : StR W rb g cap ws o σ) (E : EnvR rb g ws W) (e0 : Int) (he : e0 ≠ 0) :
 Calls Try.prog 70 #[.pointer (some ⟨rb,0,none⟩),.int .i64 e0] W fun e w' => e = .returned (.tuple #[]) ∧ StR w' rb g cap ws o (σ.fail e0) ∧ Fr (some rb) W w':=by
 obtain ⟨i,x,c,a,R,_,h0,h1⟩:=S.at_ E
 by_cases hc : c = 0
 · subst hc
   obtain ⟨tt,rfl,_⟩:=h0 rfl
   exact (rr_fail0 rb g cap ws i x o a e0 W R).mono fun e w' ⟨h2,h3,h4⟩ => ⟨h2,.mk_bad h3 R.lt he,h4⟩
 · obtain ⟨b,rfl,rfl⟩:=h1 hc
   exact (rr_failN rb g cap ws i x o c b e0 W R hc).mono fun e w' ⟨h2,h3⟩ => ⟨h2,h3 ▸ S,h3 ▸ Fr.refl _ _⟩
theorem need_yes (rb g cap : Nat) (ws : List Wd) (i : Nat) (x : Wd) (op c a : Int) (s : ByteArray) (w : World) (R : Hid (Rr w rb g cap ws i x op c a)) (hb : Hid (isB x c s.data.toList = true)) (hi : i < 1000000) :
 Calls Try.prog 64 #[.pointer (some ⟨rb,0,none⟩),.string s] w fun e w' => e = .returned (.tuple #[]) ∧ RrAt w' rb (.slice (some ⟨g,0,none⟩) ws.length cap) ((i + 1 : Nat) : Int) op c a ∧ Fr (some rb) w w':=by
 have hw : wrap64 ((i : Int) + 1) = ((i + 1 : Nat) : Int):=by unfold wrap64;omega
 have HW:=hid hw
 clear hw hi
 go_enter Try.func64,Try.ntmps64
 go_wp2_with (go_at_call 62;(with_reducible refine (rr_is rb g cap ws i x op c a s _ R.out true hb.out).mono ?_);rintro e' w1 ⟨rfl,hb1⟩;have hR1:=hid (R.out.rd.kept hb1);obtain ⟨q0,q1,q2,q3,q4⟩:=hR1.out.cells;have hl:=hR1.out.lt;have hf1:=hR1.out.frozen 1)
 go_end0
 refine ⟨rfl,?_,by (with_reducible repeat first | exact Fr.refl _ _ | refine Fr.alloc ?_ _ | refine Fr.drewN ?_ _ | refine Fr.drew ?_ | (refine Fr.set ?_ ?_ _ _;rotate_left;first | exact .inl rfl | (right;simp;done) | (right;simp;omega) | (right;omega)) | refine Fr.step ?_ (by assumption) | refine Fr.stepB ?_ (by assumption))⟩
 rw [HW.out]
 exact hR1.out.set1 _
theorem need_no {rb g cap : Nat} {ws : List Wd} {o : Int} {σ : RS} {W : World} (S : Hid (StR W rb g cap ws o σ)) (E : Hid (EnvR rb g ws W)) (s : ByteArray) (hb : Hid (σ.is s.data.toList = false)) :
 Calls Try.prog 64 #[.pointer (some ⟨rb,0,none⟩),.string s] W fun e w' => e = .returned (.tuple #[]) ∧ StR w' rb g cap ws o (σ.fail 11) ∧ Fr (some rb) W w':=by
 go_enter Try.func64,Try.ntmps64
 go_wp2_with (first
  | (go_at_call 62;(with_reducible refine (st_is S.out E.out s false hb.out).mono ?_);rintro e' w1 ⟨rfl,hb1⟩)
  | (go_at_call 70;(with_reducible refine (st_fail (S.out.stay hb1) (E.out.stay hb1) 11 (by decide)).mono ?_);rintro e' w2 ⟨rfl,hs2,hf2⟩))
 ((try simp only [Exit.inBlock,Exit.then]);refine bodyPost_ret (results_none rfl _ _ _) rfl ?_)
 exact ⟨rfl,hs2,by (with_reducible repeat first | exact Fr.refl _ _ | refine Fr.alloc ?_ _ | refine Fr.drewN ?_ _ | refine Fr.drew ?_ | (refine Fr.set ?_ ?_ _ _;rotate_left;first | exact .inl rfl | (right;simp;done) | (right;simp;omega) | (right;omega)) | refine Fr.step ?_ (by assumption) | refine Fr.stepB ?_ (by assumption))⟩
theorem st_need {rb g cap : Nat} {ws : List Wd} {o : Int} {σ : RS} {W : World} (S : StR W rb g cap ws o σ) (E : EnvR rb g ws W) (s : ByteArray) :
 Calls Try.prog 64 #[.pointer (some ⟨rb,0,none⟩),.string s] W fun e w' => e = .returned (.tuple #[]) ∧ StR w' rb g cap ws o (σ.need s.data.toList) ∧ Fr (some rb) W w':=by
 cases hb : σ.is s.data.toList with
 | true =>
  obtain ⟨i,x,c,a,R,hi,h0,h1⟩:=S.at_ E
  have hc : c = 0:=by
   refine Decidable.byContradiction fun hc => ?_
   obtain ⟨b,_,rfl⟩:=h1 hc
   cases hb
  subst hc
  obtain ⟨tt,rfl,h5,h6,h7⟩:=h0 rfl
  refine (need_yes rb g cap ws i x o 0 a s W (hid R) (hid ((hi _).trans hb)) h7).mono fun e w' ⟨h2,h3,h4⟩ => ⟨h2,?_,h4⟩
  unfold RS.need
  rw [hb]
  exact .mk_ok h3 h5 h6 (S.fin.cons (RS.is_ne3 hb))
 | false =>
  refine (need_no (hid S) (hid E) s (hid hb)).mono fun e w' ⟨h2,h3,h4⟩ => ⟨h2,?_,h4⟩
  unfold RS.need
  rw [hb]
  exact h3
theorem renter_ok {rb g cap : Nat} {ws : List Wd} {o : Nat} {x : Wd} {tt : List Wd} {W : World} (S0 : StR W rb g cap ws o (.ok (x :: tt))) (E0 : EnvR rb g ws W) (hx : x.k ≠ 3) (ho : o < 32) :
 Calls Try.prog 78 #[.pointer (some ⟨rb,0,none⟩)] W fun e w' => e = .returned (.bool true) ∧ StR w' rb g cap ws ((o + 1 : Nat) : Int) (.ok tt) ∧ Fr (some rb) W w':=by
 obtain ⟨i,a,R,h5,h6,h7,_⟩:=S0.ok_cells E0
 have hRd:=hid R.rd
 obtain ⟨q0,q1,q2,q3,q4⟩:=hRd.out.cells
 have hl:=hRd.out.lt
 have hf1:=hRd.out.frozen 1
 have hf2:=hRd.out.frozen 2
 have hd : (decide ((o : Int) = 32)) = false:=by simp;omega
 have hd2 : ((o : Int) == 32) = false:=by simp;omega
 have hw1 : wrap64 ((o : Int) + 1) = ((o + 1 : Nat) : Int):=by unfold wrap64;omega
 have hw2 : wrap64 ((i : Int) + 1) = ((i + 1 : Nat) : Int):=by unfold wrap64;omega
 have HX:=hid (And.intro hw1 hw2)
 have HF:=hid (And.intro h5 (And.intro h6 (S0.fin.cons hx)))
 clear hw1 hw2 ho h5 h6 h7 R S0 E0 hx
 go_enter Try.func78,Try.ntmps78
 go_wp2
 go_ret
 refine ⟨rfl,?_,by (with_reducible repeat first | exact Fr.refl _ _ | refine Fr.alloc ?_ _ | refine Fr.drewN ?_ _ | refine Fr.drew ?_ | (refine Fr.set ?_ ?_ _ _;rotate_left;first | exact .inl rfl | (right;simp;done) | (right;simp;omega) | (right;omega)) | refine Fr.step ?_ (by assumption) | refine Fr.stepB ?_ (by assumption))⟩
 rw [HX.out.1,HX.out.2]
 exact .mk_ok ((hRd.out.set2 _).set1 _) HF.out.1 HF.out.2.1 HF.out.2.2
theorem renter_lim {rb g cap : Nat} {ws : List Wd} {σ : RS} {W : World} (S : Hid (StR W rb g cap ws 32 σ)) (E : Hid (EnvR rb g ws W)) :
 Calls Try.prog 78 #[.pointer (some ⟨rb,0,none⟩)] W fun e w' => e = .returned (.bool false) ∧ StR w' rb g cap ws 32 (σ.fail 2) ∧ Fr (some rb) W w':=by
 obtain ⟨i,c,a,hr,_,_⟩:=S.out.rd
 obtain ⟨q0,q1,q2,q3,q4⟩:=hr.cells
 have hl:=hr.lt
 clear hr
 go_enter Try.func78,Try.ntmps78
 go_wp2_with (go_at_call 70;(with_reducible refine (st_fail S.out E.out 2 (by decide)).mono ?_);rintro e' w2 ⟨rfl,hs2,hf2⟩)
 go_ret
 exact ⟨rfl,hs2,by (with_reducible repeat first | exact Fr.refl _ _ | refine Fr.alloc ?_ _ | refine Fr.drewN ?_ _ | refine Fr.drew ?_ | (refine Fr.set ?_ ?_ _ _;rotate_left;first | exact .inl rfl | (right;simp;done) | (right;simp;omega) | (right;omega)) | refine Fr.step ?_ (by assumption) | refine Fr.stepB ?_ (by assumption))⟩
end Go.Proofs.Ytbmmjomcjlpnlaa
namespace Go.Proofs.Ytbmmjomcjlpnlaa
open Go Go.RowKit
def Res.st : Res → RS | .ok _ ts => .ok ts | .okL _ ts => .ok ts | .bad c a => .bad c a
def GoodEx (lo : Nat) (W : World) (r : Res) (k op n : Int) (nm : ByteArray) (p : Option Addr) (l c : Nat) (a : Int) : Prop :=
 ∀ x ts',r = .ok x ts' → k = x.k ∧ op = x.op ∧ n = x.n ∧ nm = bstr x.nm ∧ l = x.ks.length ∧ a = x.a ∧ IsEx lo W x (.slice p l c)
theorem GoodEx.bad {lo : Nat} {W : World} {e a0 : Int} {b : Nat} {k op n : Int} {nm : ByteArray} {p : Option Addr} {l c : Nat} : GoodEx lo W (.bad e b) k op n nm p l c a0:=fun x ts' h => by cases h
theorem GoodEx.kept {lo : Nat} {W X : World} {r : Res} {k op n : Int} {nm : ByteArray} {p : Option Addr} {l c : Nat} {a : Int} (h : GoodEx lo W r k op n nm p l c a) (hk : ∀ g,lo ≤ g → g < W.heap.size → X.heap[g]? = W.heap[g]?) : GoodEx lo X r k op n nm p l c a :=
 fun x ts' e => by
  obtain ⟨h1,h2,h3,h4,h5,h6,h7⟩:=h x ts' e
  exact ⟨h1,h2,h3,h4,h5,h6,h7.kept hk⟩
theorem GoodEx.stay {lo : Nat} {W X : World} {r : Res} {k op n : Int} {nm : ByteArray} {p : Option Addr} {l c : Nat} {a : Int} (h : GoodEx lo W r k op n nm p l c a) (hf : Below W.heap.size W X) : GoodEx lo X r k op n nm p l c a:=h.kept fun g _ hl => hf.block g hl
theorem GoodEx.fr {lo rb : Nat} {W X : World} {r : Res} {k op n : Int} {nm : ByteArray} {p : Option Addr} {l c : Nat} {a : Int} (h : GoodEx lo W r k op n nm p l c a) (hf : Fr (some rb) W X) (hr : rb < lo) : GoodEx lo X r k op n nm p l c a :=
 h.kept fun g hg hl => hf.block hl (by simp;omega)
theorem GoodEx.low {lo lo' : Nat} {W : World} {r : Res} {k op n : Int} {nm : ByteArray} {p : Option Addr} {l c : Nat} {a : Int} (h : GoodEx lo W r k op n nm p l c a) (hl : lo' ≤ lo) : GoodEx lo' W r k op n nm p l c a :=
 fun x ts' e => by
  obtain ⟨h1,h2,h3,h4,h5,h6,h7⟩:=h x ts' e
  exact ⟨h1,h2,h3,h4,h5,h6,h7.low hl⟩
def SndR (rb g : Nat) (ws : List Wd) (f : Nat) (args : Array Value) (o : Nat) (ts : List Wd) (r : Res) : Prop :=
 ∀ (W : World) (cap : Nat),EnvR rb g ws W → StR W rb g cap ws o (.ok ts) → Calls Try.prog f args W fun e w' => Fr (some rb) W w' ∧ StR w' rb g cap ws o r.st ∧
  ∃ k op n nm p l c a,e = .returned (.agg #[.int .i64 k,.int .i64 op,.int .i64 n,.string nm,.slice p l c,.int .i64 a]) ∧ GoodEx W.heap.size w' r k op n nm p l c a
theorem SndR.use {rb g : Nat} {ws : List Wd} {f : Nat} {args : Array Value} {o : Nat} {ts : List Wd} {r : Res} (h : SndR rb g ws f args o ts r) (W : World) (cap : Nat) (E : EnvR rb g ws W) (S : StR W rb g cap ws o (.ok ts)) :
 Calls Try.prog f args W fun e w' => Fr (some rb) W w' ∧ StR w' rb g cap ws o r.st ∧
  ∃ k op n nm p l c a,e = .returned (.agg #[.int .i64 k,.int .i64 op,.int .i64 n,.string nm,.slice p l c,.int .i64 a]) ∧ GoodEx W.heap.size w' r k op n nm p l c a:=h W cap E S
def SndRL (rb g : Nat) (ws : List Wd) (f : Nat) (args : Array Value) (o : Nat) (ts : List Wd) (r : Res) : Prop :=
 ∀ (W : World) (cap : Nat),EnvR rb g ws W → StR W rb g cap ws o (.ok ts) → Calls Try.prog f args W fun e w' => Fr (some rb) W w' ∧ StR w' rb g cap ws o r.st ∧
  ∃ p l c,e = .returned (.slice p l c) ∧ ∀ xs ts',r = .okL xs ts' → l = xs.length ∧ IsEx W.heap.size w' (.mk 0 0 0 [] xs 0) (.slice p l c)
theorem SndRL.use {rb g : Nat} {ws : List Wd} {f : Nat} {args : Array Value} {o : Nat} {ts : List Wd} {r : Res} (h : SndRL rb g ws f args o ts r) (W : World) (cap : Nat) (E : EnvR rb g ws W) (S : StR W rb g cap ws o (.ok ts)) :
 Calls Try.prog f args W fun e w' => Fr (some rb) W w' ∧ StR w' rb g cap ws o r.st ∧
  ∃ p l c,e = .returned (.slice p l c) ∧ ∀ xs ts',r = .okL xs ts' → l = xs.length ∧ IsEx W.heap.size w' (.mk 0 0 0 [] xs 0) (.slice p l c):=h W cap E S
def GoalR (rb g : Nat) (ws : List Wd) : Job → Nat → List Wd → Res → Prop
 | .thing => SndR rb g ws 75 #[.pointer (some ⟨rb,0,none⟩)]
 | .nam => SndR rb g ws 79 #[.pointer (some ⟨rb,0,none⟩)]
 | .expr r => SndR rb g ws 73 #[.pointer (some ⟨rb,0,none⟩),.int .i64 r]
 | _ => fun _ _ _ => True
def BelowR (rb g : Nat) (ws : List Wd) (N : Nat) : Prop :=
 ∀ j o ts r,P o j ts r → ts <:+ ws → Fin ts → j.may ts → o ≤ 32 → 4 * ts.length + j.wt < N → GoalR rb g ws j o ts r
theorem Blk.grown {n : Nat} {X Y : World} {v0 v1 v2 v3 v4 v5 : Value} (h : Blk X n v0 v1 v2 v3 v4 v5) (hg : X.grownBy Y none) : Blk Y n v0 v1 v2 v3 v4 v5:=(hg.block n (Array.getElem?_eq_some_iff.1 h).1 (by simp)).trans h
theorem StR.grown {W X : World} {rb g cap : Nat} {ws : List Wd} {o : Int} {σ : RS} (S : StR W rb g cap ws o σ) (hg : W.grownBy X none) : StR X rb g cap ws o σ:=S.stay (Fr.below hg)
theorem EnvR.grown {W X : World} {rb g : Nat} {ws : List Wd} (E : EnvR rb g ws W) (hg : W.grownBy X none) : EnvR rb g ws X:=E.stay (Fr.below hg)
theorem results_ex {n : Nat} {X : World} {v0 v1 v2 v3 v4 v5 : Value} {fn : Func} {p : Tmp} (hfn : fn.results = #[.cell p 63]) (tmps : Array Value) (hp : tmps.getD p undef = .pointer (some ⟨n,0,none⟩)) (h : Blk X n v0 v1 v2 v3 v4 v5) :
 (results fn tmps).run Try.prog X = .ok (.agg #[v0,v1,v2,v3,v4,v5]) X:=by
 have hp' : tmps[p]?.getD undef = .pointer (some ⟨n,0,none⟩):=by simpa using hp
 simp [results,hfn,hp',asAddr,run_loadVar_row X n 63 63 _ (0,0) _ h Try.underlying63 rfl (by kernel_rfl)]
theorem isS_no {x : Wd} {tt : List Wd} (hk : KOk x) {c : UInt8} (r : List UInt8) (hc : isLetter c = false) (h : ¬ Sg x (c :: r)) : (RS.ok (x :: tt)).is (c :: r) = false:=by
 have:=mt (hk.sgn (r:=r) hc).1 h
 simp only [RS.is]
 by_cases h1 : x.k = 2 ∨ x.k = 0
 · have h2 : ¬ x.t = c :: r:=fun e => this ⟨h1,e⟩
   simp [h2]
 · simp at h1
   simp [h1]
theorem isS_yes {x : Wd} {tt : List Wd} {t : List UInt8} (h : Sg x t) : (RS.ok (x :: tt)).is t = true:=by
 simp [RS.is,h.1,h.2]
theorem rnam_var (rb g : Nat) (ws : List Wd) (o : Nat) (x y : Wd) (tt : List Wd) (hx : x.k = 0) (h1 : ¬ Sg y [91] ∧ ¬ Sg y [40]) : SndR rb g ws 79 #[.pointer (some ⟨rb,0,none⟩)] o (x :: y :: tt) (.ok (.mk 2 0 0 x.t [] x.a) (y :: tt)):=by
 intro W cap E0 S0
 have hrl:=S0.lt
 have hgl:=E0.wc.lt
 obtain ⟨i,a,R0,h5,h6,h7,hxm⟩:=S0.ok_cells E0
 have hky : KOk y:=E0.kok y (h6.subset (by simp))
 have hFy:=S0.fin.cons (by rw [hx];decide)
 have b1 : Hid ((RS.ok (y :: tt)).is (⟨#[91]⟩ : ByteArray).data.toList = false):=hid (isS_no hky [] (by decide) h1.1)
 have b2 : Hid ((RS.ok (y :: tt)).is (⟨#[40]⟩ : ByteArray).data.toList = false):=hid (isS_no hky [] (by decide) h1.2)
 obtain ⟨⟨r0,r1,r2,r3,r4⟩,⟨c0,c1,c2,c3⟩,_,_,hi1,hi2,_⟩:=R0.facts
 have hx3 : x.k ≠ 3:=by (rw [hx];decide)
 have S:=hid S0
 have E:=hid E0
 have R:=hid R0
 clear R0 E0 S0 hky h1 hxm h6
 go_enter Try.func79,Try.ntmps79
 go_upto_region 1 with (fail)
 go_wp2
 go_region
 go_upto_region 3 with (fail)
 refine name_world ?_
 intro W1 hW1
 have hB1 : Below W.heap.size W W1:=by (rw [hW1];(refine Fr.below ?_;(with_reducible repeat first | exact Fr.refl _ _ | refine Fr.alloc ?_ _ | refine Fr.drewN ?_ _ | refine Fr.drew ?_ | (refine Fr.set ?_ ?_ _ _;rotate_left;first | exact .inl rfl | (right;simp;done) | (right;simp;omega) | (right;omega)) | refine Fr.step ?_ (by assumption) | refine Fr.stepB ?_ (by assumption))))
 have hz1 : W1.heap.size = W.heap.size + 3:=by (rw [hW1];simp)
 have BV1 : Blk W1 W.heap.size (.int .i64 0) (.int .i64 0) (.int .i64 0) (.string ⟨#[]⟩) (.slice none 0 0) (.int .i64 0):=by (rw [hW1];exact ((((Blk.new rfl _ _ _ _ _ _).alloc _).alloc _).drew))
 have BE1 : Blk W1 (W.heap.size + 1 + 1) (.int .i64 2) (.int .i64 0) (.int .i64 0) (.string (bstr x.t)) (.slice none 0 0) (.int .i64 x.a):=by (rw [hW1];exact ((Blk.new (by simp) _ _ _ _ _ _).drew))
 clear hW1 r0 r1 r2 r3 r4 c0 c1 c2 c3
 have hR1:=R.out.kept hB1
 obtain ⟨⟨_,r1,_,_,_⟩,_,hrl1,_,_,_,hfz⟩:=hR1.facts
 have hf1:=hfz 1
 have hne0 : rb ≠ W.heap.size:=by omega
 have hne2 : rb ≠ W.heap.size + 1 + 1:=by omega
 have SA:=hid (st_adv (S.out.stay hB1) hR1 hx3 h5)
 have EA:=hid ((E.out.stay hB1).kept ((Fr.refl (some rb) W1).set (.inl rfl) 1 (.int .i64 ((i : Int) + 1))))
 have hfA : Fr (some rb) W (W1.setCell ⟨rb,1,none⟩ (.int .i64 ((i : Int) + 1))):=((Fr.of hB1).set (.inl rfl) 1 _)
 have BVA : Blk (W1.setCell ⟨rb,1,none⟩ (.int .i64 ((i : Int) + 1))) W.heap.size (.int .i64 0) (.int .i64 0) (.int .i64 0) (.string ⟨#[]⟩) (.slice none 0 0) (.int .i64 0):=BV1.setO (Ne.symm hne0) _ _
 have BEA : Blk (W1.setCell ⟨rb,1,none⟩ (.int .i64 ((i : Int) + 1))) (W.heap.size + 1 + 1) (.int .i64 2) (.int .i64 0) (.int .i64 0) (.string (bstr x.t)) (.slice none 0 0) (.int .i64 x.a):=BE1.setO (Ne.symm hne2) _ _
 go_upto_region 4 with (fail)
 refine name_world ?_
 intro WA hWA
 rw [← hWA] at SA EA hfA BVA BEA
 have hzA : W1.heap.size = WA.heap.size:=by (rw [hWA];simp)
 clear hWA BV1 BE1 hR1 r1 hfz hf1 hrl1 S E R hi1 hi2 h5 h7
 go_upto_region 21 with (first
  | (go_at_call 62;(with_reducible refine (st_is SA.out EA.out _ false b1.out).mono ?_);rintro e' w2 ⟨rfl,hb2⟩)
  | (go_at_call 62;(with_reducible refine (st_is (SA.out.stay hb2) (EA.out.stay hb2) _ false b2.out).mono ?_);rintro e' w3 ⟨rfl,hb3⟩))
 have hb23 : Below WA.heap.size WA w3:=hb2.trans (hb3.mono hb2.size)
 have BE3:=BEA.stay hb23
 have BV3:=BVA.stay hb23
 obtain ⟨ble,c0e,c1e,c2e,c3e,c4e,c5e,f0e,f1e,f2e,f3e,f4e,f5e⟩:=(BE3).facts
 obtain ⟨blv,c0v,c1v,c2v,c3v,c4v,c5v,f0v,f1v,f2v,f3v,f4v,f5v⟩:=(BV3).facts
 go_wp2
 refine bodyPost_ret (results_ex rfl _ rfl (BV3.all _ _ _ _ _ _)) rfl ⟨by (with_reducible repeat first | exact Fr.refl _ _ | refine Fr.alloc ?_ _ | refine Fr.drewN ?_ _ | refine Fr.drew ?_ | (refine Fr.set ?_ ?_ _ _;rotate_left;first | exact .inl rfl | (right;simp;done) | (right;simp;omega) | (right;omega)) | refine Fr.step ?_ (by assumption) | refine Fr.stepB ?_ (by assumption)),?_,_,_,_,_,_,_,_,_,rfl,?_⟩
 · show StR _ rb g cap ws o (.ok (y :: tt))
   (with_reducible repeat first | exact SA.out | refine StR.alloc ?_ _ | refine StR.drewN ?_ _ | refine StR.drew ?_ | refine StR.setO ?_ (by first | assumption | omega) _ _ | refine StR.stay ?_ (by assumption))
 · rintro x' ts' e
   cases e
   exact ⟨rfl,rfl,rfl,rfl,rfl,rfl,.leaf⟩
theorem rnam_elim (rb g : Nat) (ws : List Wd) (x y : Wd) (tt : List Wd) (hx : x.k = 0) (h1 : Sg y [91]) : SndR rb g ws 79 #[.pointer (some ⟨rb,0,none⟩)] 32 (x :: y :: tt) (.bad 2 y.a):=by
 intro W cap E0 S0
 have hrl:=S0.lt
 have hgl:=E0.wc.lt
 obtain ⟨i,a,R0,h5,h6,h7,hxm⟩:=S0.ok_cells E0
 have hky : KOk y:=E0.kok y (h6.subset (by simp))
 have hFy:=S0.fin.cons (by rw [hx];decide)
 have b1 : Hid ((RS.ok (y :: tt)).is (⟨#[91]⟩ : ByteArray).data.toList = true):=hid (isS_yes h1)
 obtain ⟨⟨r0,r1,r2,r3,r4⟩,⟨c0,c1,c2,c3⟩,_,_,hi1,hi2,_⟩:=R0.facts
 have hx3 : x.k ≠ 3:=by (rw [hx];decide)
 have S:=hid S0
 have E:=hid E0
 have R:=hid R0
 clear R0 E0 S0 hky h1 hxm h6
 go_enter Try.func79,Try.ntmps79
 go_upto_region 1 with (fail)
 go_wp2
 go_region
 go_upto_region 3 with (fail)
 refine name_world ?_
 intro W1 hW1
 have hB1 : Below W.heap.size W W1:=by (rw [hW1];(refine Fr.below ?_;(with_reducible repeat first | exact Fr.refl _ _ | refine Fr.alloc ?_ _ | refine Fr.drewN ?_ _ | refine Fr.drew ?_ | (refine Fr.set ?_ ?_ _ _;rotate_left;first | exact .inl rfl | (right;simp;done) | (right;simp;omega) | (right;omega)) | refine Fr.step ?_ (by assumption) | refine Fr.stepB ?_ (by assumption))))
 have hz1 : W1.heap.size = W.heap.size + 3:=by (rw [hW1];simp)
 have BV1 : Blk W1 W.heap.size (.int .i64 0) (.int .i64 0) (.int .i64 0) (.string ⟨#[]⟩) (.slice none 0 0) (.int .i64 0):=by (rw [hW1];exact ((((Blk.new rfl _ _ _ _ _ _).alloc _).alloc _).drew))
 have BE1 : Blk W1 (W.heap.size + 1 + 1) (.int .i64 2) (.int .i64 0) (.int .i64 0) (.string (bstr x.t)) (.slice none 0 0) (.int .i64 x.a):=by (rw [hW1];exact ((Blk.new (by simp) _ _ _ _ _ _).drew))
 clear hW1 r0 r1 r2 r3 r4 c0 c1 c2 c3
 have hR1:=R.out.kept hB1
 obtain ⟨⟨_,r1,_,_,_⟩,_,hrl1,_,_,_,hfz⟩:=hR1.facts
 have hf1:=hfz 1
 have hne0 : rb ≠ W.heap.size:=by omega
 have hne2 : rb ≠ W.heap.size + 1 + 1:=by omega
 have SA:=hid (st_adv (S.out.stay hB1) hR1 hx3 h5)
 have EA:=hid ((E.out.stay hB1).kept ((Fr.refl (some rb) W1).set (.inl rfl) 1 (.int .i64 ((i : Int) + 1))))
 have hfA : Fr (some rb) W (W1.setCell ⟨rb,1,none⟩ (.int .i64 ((i : Int) + 1))):=((Fr.of hB1).set (.inl rfl) 1 _)
 have BVA : Blk (W1.setCell ⟨rb,1,none⟩ (.int .i64 ((i : Int) + 1))) W.heap.size (.int .i64 0) (.int .i64 0) (.int .i64 0) (.string ⟨#[]⟩) (.slice none 0 0) (.int .i64 0):=BV1.setO (Ne.symm hne0) _ _
 have BEA : Blk (W1.setCell ⟨rb,1,none⟩ (.int .i64 ((i : Int) + 1))) (W.heap.size + 1 + 1) (.int .i64 2) (.int .i64 0) (.int .i64 0) (.string (bstr x.t)) (.slice none 0 0) (.int .i64 x.a):=BE1.setO (Ne.symm hne2) _ _
 go_upto_region 4 with (fail)
 refine name_world ?_
 intro WA hWA
 rw [← hWA] at SA EA hfA BVA BEA
 have hzA : W1.heap.size = WA.heap.size:=by (rw [hWA];simp)
 clear hWA BV1 BE1 hR1 r1 hfz hf1 hrl1 S E R hi1 hi2 h5 h7
 go_wp2_with (first
  | (go_at_call 62;(with_reducible refine (st_is SA.out EA.out _ true b1.out).mono ?_);rintro e' w2 ⟨rfl,hb2⟩;have BE2:=BEA.stay hb2;have BV2:=BVA.stay hb2)
  | (go_at_call 78;(with_reducible refine (renter_lim (hid (SA.out.stay hb2)) (hid (EA.out.stay hb2))).mono ?_);rintro e' w3 ⟨rfl,hs3,hf3⟩;have BE3:=BE2.fr hf3 (Ne.symm hne2);have BV3:=BV2.fr hf3 (Ne.symm hne0);(obtain ⟨ble,c0e,c1e,c2e,c3e,c4e,c5e,f0e,f1e,f2e,f3e,f4e,f5e⟩:=(BE3).facts);(obtain ⟨blv,c0v,c1v,c2v,c3v,c4v,c5v,f0v,f1v,f2v,f3v,f4v,f5v⟩:=(BV3).facts)))
 refine bodyPost_ret (results_ex rfl _ rfl (BV3.all _ _ _ _ _ _)) rfl ⟨by (with_reducible repeat first | exact Fr.refl _ _ | refine Fr.alloc ?_ _ | refine Fr.drewN ?_ _ | refine Fr.drew ?_ | (refine Fr.set ?_ ?_ _ _;rotate_left;first | exact .inl rfl | (right;simp;done) | (right;simp;omega) | (right;omega)) | refine Fr.step ?_ (by assumption) | refine Fr.stepB ?_ (by assumption)),?_,_,_,_,_,_,_,_,_,rfl,GoodEx.bad⟩
 have hs3' : StR w3 rb g cap ws 32 (.bad 2 y.a):=hs3
 show StR _ rb g cap ws 32 (.bad 2 y.a)
 (with_reducible repeat first | exact hs3' | refine StR.alloc ?_ _ | refine StR.drewN ?_ _ | refine StR.drew ?_ | refine StR.setO ?_ (by first | assumption | omega) _ _ | refine StR.stay ?_ (by assumption))
theorem RS.need_t {s : RS} {t : List UInt8} (h : s.is t = true) : s.need t = s.adv:=by simp [RS.need,h]
theorem RS.need_f {s : RS} {t : List UInt8} (h : s.is t = false) : s.need t = s.fail 11:=by simp [RS.need,h]
def WthEnd (cl : List UInt8) (f : Ex → Ex) : Res → Res → Prop
 | .ok e (d :: ts'),r => (Sg d cl ∧ r = .ok (f e) ts') ∨ (¬ Sg d cl ∧ r = .bad 11 d.a)
 | .bad c a,r => r = .bad c a
 | _,_ => False
theorem WthEnd.st {ws : List Wd} {cl : UInt8} {f : Ex → Ex} {r2 r : Res} (h : WthEnd [cl] f r2 r) (hc : isLetter cl = false) (hk : ∀ x ∈ ws,KOk x) (hs : ∀ tt,r2.st = .ok tt → tt <:+ ws) : r2.st.need [cl] = r.st:=by
 cases r2 with
 | ok e ts =>
  cases ts with
  | nil => exact h.elim
  | cons d ts =>
   have hd : KOk d:=hk d ((hs _ rfl).subset (by simp))
   rcases h with ⟨h1,rfl⟩ | ⟨h1,rfl⟩
   · exact (RS.need_t (isS_yes h1)).trans rfl
   · exact (RS.need_f (isS_no hd [] hc h1)).trans rfl
 | okL => exact h.elim
 | bad c a =>
  have h' : r = .bad c a:=h
  subst h'
  rfl
theorem WthEnd.inv {cl : List UInt8} {f : Ex → Ex} {r2 r : Res} (h : WthEnd cl f r2 r) {x : Ex} {ts' : List Wd} (hr : r = .ok x ts') : ∃ e d,r2 = .ok e (d :: ts') ∧ x = f e:=by
 cases r2 with
 | ok e ts =>
  cases ts with
  | nil => exact h.elim
  | cons d ts =>
   rcases h with ⟨_,h1⟩ | ⟨_,h1⟩
   · rw [hr] at h1
     cases h1
     exact ⟨e,d,rfl,rfl⟩
   · rw [hr] at h1
     cases h1
 | okL => exact h.elim
 | bad c a =>
  have h' : r = .bad c a:=h
  rw [hr] at h'
  cases h'
def rawL (k op n : Int) (nm : ByteArray) (p : Option Addr) (l c : Nat) (a : Int) : List Value:=[.int .i64 k,.int .i64 op,.int .i64 n,.string nm,.slice p l c,.int .i64 a]
theorem rawL_one (k op n : Int) (nm : ByteArray) (p : Option Addr) (l c : Nat) (a : Int) : ∀ u ∈ rawL k op n nm p l c a,u.oneCell' = true:=by
 intro u hu
 simp [rawL] at hu
 rcases hu with rfl | rfl | rfl | rfl | rfl | rfl <;> rfl
theorem one_row {B : Nat} {W X : World} {r2 : Res} {k op n : Int} {nm : ByteArray} {p : Option Addr} {l c : Nat} {a : Int} {gg cap : Nat} {e : Ex} {ts : List Wd} (h : GoodEx B W r2 k op n nm p l c a) (hr : r2 = .ok e ts)
 (ho : X.ownsRow B 63 6 (.slice (some ⟨gg,0,none⟩) 1 cap) 1 ([] ++ rawL k op n nm p l c a)) (hg : W.grownBy X none) (hh : gg = W.heap.size) (k' o' n' : Int) (nm' : List UInt8) (a' : Nat) : IsEx B X (.mk k' o' n' nm' [e] a') (.slice (some ⟨gg,0,none⟩) 1 cap):=by
 obtain ⟨rfl,rfl,rfl,rfl,rfl,rfl,h7⟩:=h e ts hr
 obtain ⟨l0,hl0⟩:=Grows.nil B W
 have hl0' : l0 = []:=by simpa using hl0.1
 subst hl0'
 have:=GrowsL.more hl0 h7 (fun j hj => by cases hj) hg rfl (.inr hh) ho
 exact Grows.ex ⟨_,this⟩ k' o' n' nm' a'
theorem rnam_elem (rb g : Nat) (ws : List Wd) (o : Nat) (x y : Wd) (tt : List Wd) (r2 r : Res) (ho : o < 32) (hx : x.k = 0) (h1 : Sg y [91]) (H2 : SndR rb g ws 73 #[.pointer (some ⟨rb,0,none⟩),.int .i64 1] (o + 1) tt r2) (hr : WthEnd [93] (fun e => .mk 3 0 0 x.t [e] x.a) r2 r) : SndR rb g ws 79 #[.pointer (some ⟨rb,0,none⟩)] o (x :: y :: tt) r:=by
 intro W cap E0 S0
 have hrl:=S0.lt
 have hgl:=E0.wc.lt
 obtain ⟨i,a,R0,h5,h6,h7,hxm⟩:=S0.ok_cells E0
 have hky : KOk y:=E0.kok y (h6.subset (by simp))
 have hFy:=S0.fin.cons (by rw [hx];decide)
 have b1 : Hid ((RS.ok (y :: tt)).is (⟨#[91]⟩ : ByteArray).data.toList = true):=hid (isS_yes h1)
 have hy3:=hid h1.ne
 obtain ⟨⟨r0,r1,r2,r3,r4⟩,⟨c0,c1,c2,c3⟩,_,_,hi1,hi2,_⟩:=R0.facts
 have hx3 : x.k ≠ 3:=by (rw [hx];decide)
 have S:=hid S0
 have E:=hid E0
 have R:=hid R0
 clear R0 E0 S0 hky h1 hxm h6
 go_enter Try.func79,Try.ntmps79
 go_upto_region 1 with (fail)
 go_wp2
 go_region
 go_upto_region 3 with (fail)
 refine name_world ?_
 intro W1 hW1
 have hB1 : Below W.heap.size W W1:=by (rw [hW1];(refine Fr.below ?_;(with_reducible repeat first | exact Fr.refl _ _ | refine Fr.alloc ?_ _ | refine Fr.drewN ?_ _ | refine Fr.drew ?_ | (refine Fr.set ?_ ?_ _ _;rotate_left;first | exact .inl rfl | (right;simp;done) | (right;simp;omega) | (right;omega)) | refine Fr.step ?_ (by assumption) | refine Fr.stepB ?_ (by assumption))))
 have hz1 : W1.heap.size = W.heap.size + 3:=by (rw [hW1];simp)
 have BV1 : Blk W1 W.heap.size (.int .i64 0) (.int .i64 0) (.int .i64 0) (.string ⟨#[]⟩) (.slice none 0 0) (.int .i64 0):=by (rw [hW1];exact ((((Blk.new rfl _ _ _ _ _ _).alloc _).alloc _).drew))
 have BE1 : Blk W1 (W.heap.size + 1 + 1) (.int .i64 2) (.int .i64 0) (.int .i64 0) (.string (bstr x.t)) (.slice none 0 0) (.int .i64 x.a):=by (rw [hW1];exact ((Blk.new (by simp) _ _ _ _ _ _).drew))
 clear hW1 r0 r1 r2 r3 r4 c0 c1 c2 c3
 have hR1:=R.out.kept hB1
 obtain ⟨⟨_,r1,_,_,_⟩,_,hrl1,_,_,_,hfz⟩:=hR1.facts
 have hf1:=hfz 1
 have hne0 : rb ≠ W.heap.size:=by omega
 have hne2 : rb ≠ W.heap.size + 1 + 1:=by omega
 have SA:=hid (st_adv (S.out.stay hB1) hR1 hx3 h5)
 have EA:=hid ((E.out.stay hB1).kept ((Fr.refl (some rb) W1).set (.inl rfl) 1 (.int .i64 ((i : Int) + 1))))
 have hfA : Fr (some rb) W (W1.setCell ⟨rb,1,none⟩ (.int .i64 ((i : Int) + 1))):=((Fr.of hB1).set (.inl rfl) 1 _)
 have BVA : Blk (W1.setCell ⟨rb,1,none⟩ (.int .i64 ((i : Int) + 1))) W.heap.size (.int .i64 0) (.int .i64 0) (.int .i64 0) (.string ⟨#[]⟩) (.slice none 0 0) (.int .i64 0):=BV1.setO (Ne.symm hne0) _ _
 have BEA : Blk (W1.setCell ⟨rb,1,none⟩ (.int .i64 ((i : Int) + 1))) (W.heap.size + 1 + 1) (.int .i64 2) (.int .i64 0) (.int .i64 0) (.string (bstr x.t)) (.slice none 0 0) (.int .i64 x.a):=BE1.setO (Ne.symm hne2) _ _
 go_upto_region 4 with (fail)
 refine name_world ?_
 intro WA hWA
 rw [← hWA] at SA EA hfA BVA BEA
 have hzA : W1.heap.size = WA.heap.size:=by (rw [hWA];simp)
 clear hWA BV1 BE1 hR1 r1 hfz hf1 hrl1 S E R hi1 hi2 h5 h7
 have HH2:=hid H2
 clear H2
 obtain ⟨i0,hinf,hzi0,hzi1,hzi2⟩:=info_parts infoEx
 go_upto_region 9 with (first
  | (go_at_call 62;(with_reducible refine (st_is SA.out EA.out _ true b1.out).mono ?_);rintro e' w2 ⟨rfl,hb2⟩;have BE2:=BEA.stay hb2;have BV2:=BVA.stay hb2)
  | (go_at_call 78;(with_reducible refine (renter_ok (SA.out.stay hb2) (EA.out.stay hb2) hy3.out ho).mono ?_);rintro e' w3 ⟨rfl,hs3,hf3⟩;have BE3:=BE2.fr hf3 (Ne.symm hne2);have BV3:=BV2.fr hf3 (Ne.symm hne0);(obtain ⟨ble,c0e,c1e,c2e,c3e,c4e,c5e,f0e,f1e,f2e,f3e,f4e,f5e⟩:=(BE3).facts);(obtain ⟨blv,c0v,c1v,c2v,c3v,c4v,c5v,f0v,f1v,f2v,f3v,f4v,f5v⟩:=(BV3).facts)))
 refine name_world ?_
 intro W4 hW4
 have BE4 : Blk W4 (W.heap.size + 1 + 1) (.int .i64 3) (.int .i64 0) (.int .i64 0) (.string (bstr x.t)) (.slice none 0 0) (.int .i64 x.a):=by (rw [hW4];exact BE3.set0 _)
 have BV4 : Blk W4 W.heap.size (.int .i64 0) (.int .i64 0) (.int .i64 0) (.string ⟨#[]⟩) (.slice none 0 0) (.int .i64 0):=by (rw [hW4];exact BV3.setO (by omega) _ _)
 have S4:=hid (show StR W4 rb g cap ws ((o + 1 : Nat) : Int) (.ok tt) by (rw [hW4];exact hs3.setO hne2 _ _))
 have E4 : Hid (EnvR rb g ws W4):=hid (by (rw [hW4];exact ((EA.out.stay hb2).kept hf3).setO (by omega) _ _))
 have hFW4 : Fr (some rb) W W4:=by (have hz2:=Fr.size hfA;rw [hW4];exact ((hfA.stepB hb2).step hf3).set (.inr (by omega)) _ _)
 have hz4 : W.heap.size + 3 ≤ W4.heap.size:=by (have h1:=hb2.size;have h2:=Fr.size hf3;rw [hW4];simp;omega)
 clear hW4 BE3 BV3 BE2 BV2 BEA BVA SA EA hs3 hf3 hb2 hfA
 obtain ⟨blh,c0h,c1h,c2h,c3h,c4h,c5h,f0h,f1h,f2h,f3h,f4h,f5h⟩:=(BE4).facts
 go_region_law (first
  | (refine step_append_lies _ (by rfl) _ _ _ (by rfl) W4.heap.size 63 i0 _ 6 72 Try.underlying61 hinf hzi0 hzi1 hzi2 rfl (by decide) _ 0 [] (by rfl) (World.ownsRow_nil _ _ _ _) ⟨_,0,none⟩ 1 1 (rawL k5 q5 n5 nm5 p5 l5 c5 a5) (by rfl) (by rfl) (World.news_of_block (heap_alloc_new _ _)) (rawL_one _ _ _ _ _ _ _ _) (by decide) (by unfold maxLen;omega) (by omega) (by simp;omega) _ rfl ?_;intro gg cap6 w6 hown6 hgrow6 hor6 hlt6;have hgr6 : World.grownBy _ w6 none:=hgrow6;have BE6:=(BE5.alloc (.cells #[.int .i64 k5,.int .i64 q5,.int .i64 n5,.string nm5,.slice p5 l5 c5,.int .i64 a5] 63)).grown hgr6;(obtain ⟨blj,c0j,c1j,c2j,c3j,c4j,c5j,f0j,f1j,f2j,f3j,f4j,f5j⟩:=(BE6).facts))
  | (go_simp;go_at_call 73;(with_reducible refine (HH2.out.use _ cap (E4.out.stay (by (refine Fr.below ?_;(with_reducible repeat first | exact Fr.refl _ _ | refine Fr.alloc ?_ _ | refine Fr.drewN ?_ _ | refine Fr.drew ?_ | (refine Fr.set ?_ ?_ _ _;rotate_left;first | exact .inl rfl | (right;simp;done) | (right;simp;omega) | (right;omega)) | refine Fr.step ?_ (by assumption) | refine Fr.stepB ?_ (by assumption))))) (by (with_reducible repeat first | exact S4.out | refine StR.alloc ?_ _ | refine StR.drewN ?_ _ | refine StR.drew ?_ | refine StR.setO ?_ (by first | assumption | omega) _ _ | refine StR.stay ?_ (by assumption)))).mono ?_);rintro e5 w5 ⟨hf5,hs5,k5,q5,n5,nm5,p5,l5,c5,a5,rfl,hg5⟩;have hz5a:=Fr.size hf5;(try simp only [World.size_drew] at hz5a);have BE5:=BE4.drew.fr hf5 (Ne.symm hne2);(obtain ⟨bli,c0i,c1i,c2i,c3i,c4i,c5i,f0i,f1i,f2i,f3i,f4i,f5i⟩:=(BE5).facts)))
 all_goals go_upto_region 10 with (fail)
 all_goals refine name_world ?_
 all_goals
  intro W7 hW7
  have hgg : gg = (w5.alloc (.cells #[.int .i64 k5,.int .i64 q5,.int .i64 n5,.string nm5,.slice p5 l5 c5,.int .i64 a5] 63)).heap.size:=by (rcases hor6 with h | h;(cases h);exact h)
  have hz5:=Fr.size hf5
  simp at hz5 hgg
  have hge : gg ≠ W.heap.size + 1 + 1:=by omega
  have BE7 : Blk W7 (W.heap.size + 1 + 1) (.int .i64 3) (.int .i64 0) (.int .i64 0) (.string (bstr x.t)) (.slice (some ⟨gg,0,none⟩) 1 cap6) (.int .i64 x.a):=by (rw [hW7];exact BE6.set4 _)
  have BV7 : Blk W7 W.heap.size (.int .i64 0) (.int .i64 0) (.int .i64 0) (.string ⟨#[]⟩) (.slice none 0 0) (.int .i64 0):=by (rw [hW7];exact (((BV4.drew.fr hf5 (Ne.symm hne0)).alloc _).grown hgr6).setO (by omega) _ _)
  obtain ⟨O,hO⟩ : ∃ O : Int,O = ((o + 1 : Nat) : Int):=⟨_,rfl⟩
  rw [← hO] at hs5
  have S7 : Hid (StR W7 rb g cap ws O r2.st):=hid (by (rw [hW7];exact ((hs5.alloc _).grown hgr6).setO hne2 _ _))
  have E7 : Hid (EnvR rb g ws W7):=hid (by (rw [hW7];exact ((((E4.out.stay (Below.refl _ _).drew).kept hf5).stay ((Below.refl _ _).alloc (Nat.le_refl _) _)).grown hgr6).setO (by omega) _ _))
  have hFW6 : Fr (some rb) W w6:=Fr.stepOwn (v:=.slice none 0 0) (((hFW4.drew).step hf5).alloc _) hgrow6 (fun j e => by cases e)
  have hFW7 : Fr (some rb) W W7:=by (rw [hW7];exact hFW6.set (.inr (by omega)) _ _)
  change GoodEx W4.heap.size w5 r2 k5 q5 n5 nm5 p5 l5 c5 a5 at hg5
  have X7 : Hid (∀ e ts,r2 = .ok e ts → IsEx W4.heap.size W7 (.mk 3 0 0 x.t [e] x.a) (.slice (some ⟨gg,0,none⟩) 1 cap6)):=hid (by
   intro e ts he
   rw [hW7]
   exact (one_row (hg5.stay ((Below.refl _ _).alloc (Nat.le_refl _) _)) he hown6 hgr6 (by simp;omega) 3 0 0 x.t x.a).set (by omega) _ _)
  have HO:=hid hO
  have hz7:=Fr.size hFW7
  clear hO hW7 hs5 hf5 hown6 hgrow6 hgr6 hor6 BE6 BE5 BE4 BV4 S4 E4 hg5 hgg hz5
  go_wp2_with (go_at_call 64;(with_reducible refine (st_need S7.out E7.out _).mono ?_);rintro e8 w8 ⟨rfl,hs8,hf8⟩;obtain ⟨i8,c8,a8,hr8,_,_⟩:=hs8.rd;obtain ⟨q0,q1,q2,q3,q4⟩:=hr8.cells;have hl8:=hr8.lt;have hfz8:=hr8.frozen 2;have BE8:=BE7.fr hf8 (Ne.symm hne2);have BV8:=BV7.fr hf8 (Ne.symm hne0);clear hr8;(obtain ⟨blk,c0k,c1k,c2k,c3k,c4k,c5k,f0k,f1k,f2k,f3k,f4k,f5k⟩:=(BE8).facts);(obtain ⟨bll,c0l,c1l,c2l,c3l,c4l,c5l,f0l,f1l,f2l,f3l,f4l,f5l⟩:=(BV8).facts))
  refine bodyPost_ret (results_ex rfl _ rfl ((BV8.setO (Ne.symm hne0) _ _).all _ _ _ _ _ _)) rfl ⟨by (with_reducible repeat first | exact Fr.refl _ _ | refine Fr.alloc ?_ _ | refine Fr.drewN ?_ _ | refine Fr.drew ?_ | (refine Fr.set ?_ ?_ _ _;rotate_left;first | exact .inl rfl | (right;simp;done) | (right;simp;omega) | (right;omega)) | refine Fr.step ?_ (by assumption) | refine Fr.stepB ?_ (by assumption)),?_,_,_,_,_,_,_,_,_,rfl,?_⟩
  · have hst:=hr.st (by decide) E7.out.kok (fun tt' h => (show StR W7 rb g cap ws O (.ok tt') from h ▸ S7.out).1)
    have hs9 : StR (w8.setCell ⟨rb,2,none⟩ (.int .i64 (wrap64 (O - 1)))) rb g cap ws o r.st:=by (rw [← hst,HO.out];exact st_dec (HO.out ▸ hs8) (by omega))
    (with_reducible repeat first | exact hs9 | refine StR.alloc ?_ _ | refine StR.drewN ?_ _ | refine StR.drew ?_ | refine StR.setO ?_ (by first | assumption | omega) _ _ | refine StR.stay ?_ (by assumption))
  · intro x' ts' e
    obtain ⟨e0,d,h8,rfl⟩:=hr.inv e
    have h9:=((X7.out e0 _ h8).fr hf8 (by omega)).set (show rb < W4.heap.size by omega) 2 (.int .i64 (wrap64 (O - 1)))
    refine ⟨rfl,rfl,rfl,rfl,rfl,rfl,IsEx.low (lo:=W4.heap.size) ?_ (by omega)⟩
    exact (((((h9.set (by omega) _ _).set (by omega) _ _).set (by omega) _ _).set (by omega) _ _).set (by omega) _ _).set (by omega) _ _
def LstNext (o : Nat) (acc : List Ex) (rl : Res) : Res → Prop
 | .ok e (f :: tt) => (Sg f [44] → P o (.list (acc ++ [e])) tt rl) ∧ (¬ Sg f [44] → rl = .okL (acc ++ [e]) (f :: tt))
 | .bad c a => rl = .bad c a
 | _ => False
theorem lst_step {o : Nat} {acc : List Ex} {tt : List Wd} {rl : Res} (h : P o (.list acc) tt rl) : ∃ r1,P o (.expr 1) tt r1 ∧ LstNext o acc rl r1:=by
 cases h with
 | lstMore h1 h2 h3 => exact ⟨_,h1,fun _ => h3,fun h => absurd h2 h⟩
 | lstEnd h1 h2 => exact ⟨_,h1,fun h => absurd h h2,fun _ => rfl⟩
 | lstBad h1 => exact ⟨_,h1,rfl⟩
theorem res_len {o : Nat} {ts tt : List Wd} {r : Res} (hP : P o (.expr 1) ts r) (hF : Fin ts) (h : r.st = .ok tt) : tt.length ≤ ts.length:=by
 have hpo:=hP.post' (by simp [Job.may]) hF
 cases r with
 | ok e ts' =>
  cases h
  simp only [Post,Job.lst,Job.min] at hpo
  omega
 | okL es ts' =>
  cases h
  simp only [Post,Job.lst,Job.min] at hpo
  omega
 | bad => cases h
def LRel (lo : Nat) (ws : List Wd) (o : Nat) (rl : Res) (v : Value) (W : World) (σ : RS) : Prop :=
 (∃ acc l f tt,σ = .ok (f :: tt) ∧ GrowsL lo W acc v l ∧ acc.length + (f :: tt).length ≤ ws.length ∧ (Sg f [44] → P o (.list acc) tt rl) ∧ (¬ Sg f [44] → rl = .okL acc (f :: tt))) ∨
 (∃ c a,σ = .bad c a ∧ rl = .bad c a ∧ ∃ p l k,v = .slice p l k)
theorem LRel.fr {lo rb : Nat} {ws : List Wd} {o : Nat} {rl : Res} {v : Value} {W X : World} {σ : RS} (h : LRel lo ws o rl v W σ) (hf : Fr (some rb) W X) (hr : rb < lo) : LRel lo ws o rl v X σ:=by
 rcases h with ⟨acc,l,f,tt,h1,h2,h3⟩ | h
 · exact .inl ⟨acc,l,f,tt,h1,h2.fr hf hr,h3⟩
 · exact .inr h
theorem LRel.next {lo B5 : Nat} {ws : List Wd} {o : Nat} {rl r1 : Res} {v : Value} {w5 w6 : World} {acc : List Ex} {l : List (Ex × Value)} {k q n : Int} {nm : ByteArray} {p : Option Addr} {m c : Nat} {a : Int} {g cap : Nat} {tt : List Wd}
 (hG : GrowsL lo w5 acc v l) (hg : GoodEx B5 w5 r1 k q n nm p m c a) (hlo : lo ≤ B5) (hv : ∀ j,v.ownBlock = some j → j < B5) (hP : P o (.expr 1) tt r1) (hF : Fin tt) (hlen : acc.length + tt.length ≤ ws.length) (hN : LstNext o acc rl r1)
 (hown : w6.ownsRow lo 63 6 (.slice (some ⟨g,0,none⟩) (acc.length + 1) cap) (acc.length + 1) (exRow l ++ rawL k q n nm p m c a)) (hgrow : (w5.alloc (.cells #[.int .i64 k,.int .i64 q,.int .i64 n,.string nm,.slice p m c,.int .i64 a] 63)).grownBy w6 v.ownBlock)
 (hor : v.ownBlock = some g ∨ g = (w5.alloc (.cells #[.int .i64 k,.int .i64 q,.int .i64 n,.string nm,.slice p m c,.int .i64 a] 63)).heap.size) : LRel lo ws o rl (.slice (some ⟨g,0,none⟩) (acc.length + 1) cap) w6 r1.st:=by
 cases r1 with
 | ok e ts =>
  cases ts with
  | nil => exact hN.elim
  | cons f tt' =>
   obtain ⟨rfl,rfl,rfl,rfl,rfl,rfl,h7⟩:=hg e _ rfl
   have hpo:=hP.post' (by simp [Job.may]) hF
   simp only [Post,Job.lst,Job.min] at hpo
   have hb : Below w5.heap.size w5 (w5.alloc (.cells #[.int .i64 e.k,.int .i64 e.op,.int .i64 e.n,.string (bstr e.nm),.slice p e.ks.length c,.int .i64 e.a] 63)):=(Below.refl _ _).alloc (Nat.le_refl _) _
   refine .inl ⟨acc ++ [e],l ++ [(e,.slice p e.ks.length c)],f,tt',rfl,?_,?_,hN⟩
   · refine GrowsL.more (x:=e) (u:=.slice p e.ks.length c) (l:=l) (H:=_) ?_ ((h7.low hlo).stay hb) ?_ hgrow rfl hor hown
     · obtain ⟨h1,h2,h3,h4⟩:=hG
       exact ⟨h1,own_below h2 hb,fun q hq => (h3 q hq).kept fun g hg hl => ⟨hb.block g hl,hg⟩,h4⟩
     · intro j hj
       have hjl:=hv j hj
       exact (h7.stay hb).toP fun g hg _ => ⟨rfl,by omega,by omega⟩
   · have:=hpo.2.2
     simp only [List.length_append,List.length_cons,List.length_nil] at this ⊢
     omega
 | okL => exact hN.elim
 | bad c' a' => exact .inr ⟨c',a',rfl,hN,_,_,_,rfl⟩
theorem GrowsL.form {B : Nat} {W : World} {es : List Ex} {v : Value} {l : List (Ex × Value)} (h : GrowsL B W es v l) : ∃ p c,v = .slice p es.length c:=by
 rcases h.2.1.2 with ⟨h1,h2⟩ | ⟨g,cap,cur,h1,_⟩
 · exact ⟨none,0,by rw [h1,h2]⟩
 · exact ⟨_,_,h1⟩
theorem rlist_none (rb g : Nat) (ws : List Wd) (o : Nat) (d : Wd) (tt : List Wd) (hd : Sg d [41]) : SndRL rb g ws 81 #[.pointer (some ⟨rb,0,none⟩)] o (d :: tt) (.okL [] (d :: tt)):=by
 intro W cap E0 S0
 have b1 : Hid ((RS.ok (d :: tt)).is (⟨#[41]⟩ : ByteArray).data.toList = true):=hid (isS_yes hd)
 have S:=hid S0
 have E:=hid E0
 have hrl:=S0.lt
 clear S0 E0 hd
 go_enter Try.func81,Try.ntmps81
 go_wp2_with (go_at_call 62;(with_reducible refine (st_is S.out E.out _ true b1.out).mono ?_);rintro e' w2 ⟨rfl,hb2⟩)
 go_ret
 refine ⟨by (with_reducible repeat first | exact Fr.refl _ _ | refine Fr.alloc ?_ _ | refine Fr.drewN ?_ _ | refine Fr.drew ?_ | (refine Fr.set ?_ ?_ _ _;rotate_left;first | exact .inl rfl | (right;simp;done) | (right;simp;omega) | (right;omega)) | refine Fr.step ?_ (by assumption) | refine Fr.stepB ?_ (by assumption)),?_,_,_,_,rfl,?_⟩
 · show StR _ rb g cap ws o (.ok (d :: tt))
   (with_reducible repeat first | exact S.out | refine StR.alloc ?_ _ | refine StR.drewN ?_ _ | refine StR.drew ?_ | refine StR.setO ?_ (by first | assumption | omega) _ _ | refine StR.stay ?_ (by assumption))
 · intro xs ts' e
   cases e
   exact ⟨rfl,.leaf⟩
theorem rlist_some (rb g : Nat) (ws : List Wd) (o : Nat) (d : Wd) (tt0 : List Wd) (rl : Res) (hd : ¬ Sg d [41]) (hP0 : P o (.list []) (d :: tt0) rl)
 (IH : ∀ tt r,P o (.expr 1) tt r → tt <:+ ws → Fin tt → tt.length ≤ (d :: tt0).length → SndR rb g ws 73 #[.pointer (some ⟨rb,0,none⟩),.int .i64 1] o tt r) : SndRL rb g ws 81 #[.pointer (some ⟨rb,0,none⟩)] o (d :: tt0) rl:=by
 intro W cap E0 S0
 have hdk : KOk d:=E0.kok d (S0.1.subset (by simp))
 have b1 : Hid ((RS.ok (d :: tt0)).is (⟨#[41]⟩ : ByteArray).data.toList = false):=hid (isS_no hdk [] (by decide) hd)
 obtain ⟨r1,hP1,hN1⟩:=lst_step hP0
 have H1:=hid (IH _ _ hP1 S0.1 S0.2.1 (Nat.le_refl _))
 have HP1:=hid (And.intro hP1 (And.intro hN1 (And.intro S0.2.1 S0.1.length_le)))
 have S:=hid S0
 have E:=hid E0
 have HI:=hid IH
 have hrl:=S0.lt
 have hgl:=E0.wc.lt
 have hfew:=E0.few
 obtain ⟨i0,hinf,hzi0,hzi1,hzi2⟩:=info_parts infoEx
 clear S0 E0 hd hdk hP1 hN1 hP0 IH
 go_enter Try.func81,Try.ntmps81
 go_upto_region 4 with (go_at_call 62;(with_reducible refine (st_is S.out E.out _ false b1.out).mono ?_);rintro e' w2 ⟨rfl,hb2⟩;have hz2:=hb2.size)
 go_wp2_with (first
  | (go_at_call 73;(with_reducible refine (H1.out.use _ cap (E.out.stay hb2) (S.out.stay hb2)).mono ?_);rintro e5 w5 ⟨hf5,hs5,k5,q5,n5,nm5,p5,l5,c5,a5,rfl,hg5⟩;have hz5:=Fr.size hf5)
  | (at_builtin;refine wpList_append_lies _ rfl (.tmp 6) (.tmp 9) 61 rfl w2.heap.size 63 i0 _ 6 72 Try.underlying61 hinf hzi0 hzi1 hzi2 rfl (by decide) _ 0 [] rfl (World.ownsRow_nil _ _ _ _) ⟨_,0,none⟩ 1 1 (rawL k5 q5 n5 nm5 p5 l5 c5 a5) rfl rfl (World.news_of_block (heap_alloc_new _ _)) (rawL_one _ _ _ _ _ _ _ _) (by decide) (by unfold maxLen;omega) (by omega) (by simp;omega) _ rfl ?_;intro g4 cap4 w4 hown4 hgrow4 hor4 hlt4))
 have hR4 : LRel w2.heap.size ws o rl (.slice (some ⟨g4,0,none⟩) 1 cap4) w4 r1.st:=by
  obtain ⟨l0,hl0⟩:=Grows.nil w2.heap.size w5
  have hl0' : l0 = []:=by simpa using hl0.1
  subst hl0'
  exact LRel.next hl0 hg5 (Nat.le_refl _) (fun j hj => by cases hj) HP1.out.1 HP1.out.2.2.1 (by simpa using HP1.out.2.2.2) HP1.out.2.1 hown4 hgrow4 hor4
 have hF4 : Fr (some rb) w2 w4:=Fr.stepOwn (v:=.slice none 0 0) (hf5.alloc _) hgrow4 (fun j e => by cases e)
 have hS4 : StR w4 rb g cap ws o r1.st:=(hs5.alloc _).grown hgrow4
 have HL1 : Hid (∀ tt,r1.st = .ok tt → tt.length ≤ (d :: tt0).length):=hid (fun tt h => res_len HP1.out.1 HP1.out.2.2.1 h)
 have HR4:=hid hR4
 have HS4:=hid hS4
 clear hR4 hS4 hown4 hgrow4 hor4 hs5 hg5 hf5 H1 HP1
 go_loopw [3] (fun v0 wr => ∃ v σ,v = v0 ∧ LRel w2.heap.size ws o rl v wr σ ∧ StR wr rb g cap ws o σ ∧ Fr (some rb) w2 wr ∧ ∀ tt,σ = .ok tt → tt.length ≤ (d :: tt0).length) (fun _ wr => msR wr rb ws.length)
 case atStart => exact ⟨_,r1.st,rfl,HR4.out,HS4.out,hF4,HL1.out⟩
 case round =>
  obtain ⟨v,σ,rfl,hL,hS,hF,hsh⟩:=hrel
  have E1:=hid ((E.out.stay hb2).kept hF)
  have S1:=hid hS
  have hz1:=Fr.size hF
  have hrw : rb < w2.heap.size:=by omega
  rcases hL with ⟨acc,l,f,tt,rfl,hG,hlen,hc1,hc2⟩ | ⟨c,a,rfl,rfl,p,q,k,rfl⟩
  · by_cases hcm : Sg f [44]
    · have hf3 : f.k ≠ 3:=hcm.ne
      have b2 : Hid ((RS.ok (f :: tt)).is (⟨#[44]⟩ : ByteArray).data.toList = true):=hid (isS_yes hcm)
      obtain ⟨r2,hP2,hN2⟩:=lst_step (hc1 hcm)
      have hst : tt <:+ ws:=(suf_at hS.1).2.2
      have hFt : Fin tt:=hS.2.1.cons hf3
      have hsl : tt.length ≤ (d :: tt0).length:=by (have:=hsh _ rfl;simp only [List.length_cons] at this ⊢;omega)
      have H2:=hid (HI.out tt r2 hP2 hst hFt hsl)
      have HP2:=hid (And.intro hP2 (And.intro hN2 hFt))
      have HG:=hid hG
      have HLT : Hid (∀ j,v.ownBlock = some j → w2.heap.size ≤ j ∧ j < wr.heap.size):=hid hG.2.1.lt
      have hlen2 : acc.length + tt.length + 1 ≤ ws.length:=by (simp only [List.length_cons] at hlen;omega)
      have HSL:=hid hsl
      clear hS hG hc1 hc2 hcm hsh hP2 hN2 hlen hst hFt hsl
      go_wp2_with (first
       | (go_at_call 62;(with_reducible refine (st_is S1.out E1.out _ true b2.out).mono ?_);rintro e' w7 ⟨rfl,hb7⟩;have hz7:=hb7.size;obtain ⟨i7,a7,R7,h57,h67,h77,_⟩:=(S1.out.stay hb7).ok_cells (E1.out.stay hb7);obtain ⟨q0,q1,q2,q3,q4⟩:=R7.rd.cells;have hl7:=R7.rd.lt;have hfz7:=R7.rd.frozen 1;have S8:=hid (st_adv (S1.out.stay hb7) R7 hf3 h57);have E8:=hid ((E1.out.stay hb7).kept ((Fr.refl (some rb) w7).set (.inl rfl) 1 (.int .i64 ((i7 : Int) + 1))));clear h57 h67 R7)
       | (go_at_call 73;(with_reducible refine (H2.out.use _ cap E8.out S8.out).mono ?_);rintro e5 w5 ⟨hf5,hs5,k5,q5,n5,nm5,p5,l5,c5,a5,rfl,hg5⟩;have hz5:=Fr.size hf5;(try simp only [World.size_setCell] at hz5);have hG5:=((HG.out.fr (rb:=rb) (.of hb7) hrw).fr ((Fr.refl (some rb) w7).set (.inl rfl) 1 (.int .i64 ((i7 : Int) + 1))) hrw).fr hf5 hrw)
       | (at_builtin;refine wpList_append_lies _ rfl (.tmp 20) (.tmp 23) 61 rfl w2.heap.size 63 i0 _ 6 72 Try.underlying61 hinf hzi0 hzi1 hzi2 rfl (by decide) v acc.length (exRow l) rfl (own_below hG5.2.1 ((Below.refl _ _).alloc (Nat.le_refl _) _)) ⟨_,0,none⟩ 1 1 (rawL k5 q5 n5 nm5 p5 l5 c5 a5) rfl rfl (World.news_of_block (heap_alloc_new _ _)) (rawL_one _ _ _ _ _ _ _ _) (by decide) (by unfold maxLen;omega) (by omega) (by simp;omega) _ rfl ?_;intro g4 cap4 w4 hown4 hgrow4 hor4 hlt4))
      have hgr4 : (w5.alloc (.cells #[.int .i64 k5,.int .i64 q5,.int .i64 n5,.string nm5,.slice p5 l5 c5,.int .i64 a5] 63)).grownBy w4 v.ownBlock:=hgrow4
      have hor4' : v.ownBlock = some g4 ∨ g4 = (w5.alloc (.cells #[.int .i64 k5,.int .i64 q5,.int .i64 n5,.string nm5,.slice p5 l5 c5,.int .i64 a5] 63)).heap.size:=hor4
      have hS9 : StR w4 rb g cap ws o r2.st:=by
       obtain ⟨i9,c9,a9,h1,_,h2⟩:=(hs5.alloc (.cells #[.int .i64 k5,.int .i64 q5,.int .i64 n5,.string nm5,.slice p5 l5 c5,.int .i64 a5] 63)).rd
       refine h2 _ _ ((hgr4.block rb h1.lt ?_).trans h1)
       intro e
       have:=(HLT.out rb e.symm).1
       omega
      go_roundw
      case rel =>
       refine ⟨_,r2.st,rfl,?_,hS9,?_,fun tt' h => Nat.le_trans (res_len HP2.out.1 HP2.out.2.2 h) HSL.out⟩
       · exact LRel.next hG5 hg5 (by simp;omega) (fun j hj => by (have:=(HLT.out j hj).2;simp;omega)) HP2.out.1 HP2.out.2.2 (by omega) HP2.out.2.1 hown4 hgr4 hor4'
       · exact Fr.stepOwn (v:=v) (((((hF.stepB hb7).set (.inl rfl) 1 (.int .i64 ((i7 : Int) + 1))).step hf5).alloc _)) hgr4 (fun j e => (HLT.out j e).1)
      case measure =>
       rw [hS9.ms,S1.out.ms]
       cases r2 with
       | ok e ts => have:=res_len HP2.out.1 HP2.out.2.2 rfl;simp only [RS.ms,Res.st,List.length_cons];omega
       | okL e ts => have:=res_len HP2.out.1 HP2.out.2.2 rfl;simp only [RS.ms,Res.st,List.length_cons];omega
       | bad c a => simp only [RS.ms,Res.st];omega
    · have hfk : KOk f:=E.out.kok f (hS.1.subset (by simp))
      have b2 : Hid ((RS.ok (f :: tt)).is (⟨#[44]⟩ : ByteArray).data.toList = false):=hid (isS_no hfk [] (by decide) hcm)
      obtain rfl:=hc2 hcm
      obtain ⟨p,k,rfl⟩:=hG.form
      have HG:=hid hG
      clear hS hG hc1 hc2 hcm hfk hsh
      go_wp2_with (go_at_call 62;(with_reducible refine (st_is S1.out E1.out _ false b2.out).mono ?_);rintro e' w7 ⟨rfl,hb7⟩)
      go_ret
      refine ⟨by (with_reducible repeat first | exact Fr.refl _ _ | refine Fr.alloc ?_ _ | refine Fr.drewN ?_ _ | refine Fr.drew ?_ | (refine Fr.set ?_ ?_ _ _;rotate_left;first | exact .inl rfl | (right;simp;done) | (right;simp;omega) | (right;omega)) | refine Fr.step ?_ (by assumption) | refine Fr.stepB ?_ (by assumption)),?_,_,_,_,rfl,?_⟩
      · show StR _ rb g cap ws o (.ok (f :: tt))
        (with_reducible repeat first | exact S1.out | refine StR.alloc ?_ _ | refine StR.drewN ?_ _ | refine StR.drew ?_ | refine StR.setO ?_ (by first | assumption | omega) _ _ | refine StR.stay ?_ (by assumption))
      · intro xs ts' e
        cases e
        exact ⟨rfl,((Grows.ex ⟨_,HG.out⟩ 0 0 0 [] 0).stay hb7).low (by omega)⟩
  · have b2 : Hid ((RS.bad c a).is (⟨#[44]⟩ : ByteArray).data.toList = false):=hid rfl
    clear hS hsh
    go_wp2_with (go_at_call 62;(with_reducible refine (st_is S1.out E1.out _ false b2.out).mono ?_);rintro e' w7 ⟨rfl,hb7⟩)
    go_ret
    refine ⟨by (with_reducible repeat first | exact Fr.refl _ _ | refine Fr.alloc ?_ _ | refine Fr.drewN ?_ _ | refine Fr.drew ?_ | (refine Fr.set ?_ ?_ _ _;rotate_left;first | exact .inl rfl | (right;simp;done) | (right;simp;omega) | (right;omega)) | refine Fr.step ?_ (by assumption) | refine Fr.stepB ?_ (by assumption)),?_,_,_,_,rfl,?_⟩
    · show StR _ rb g cap ws o (.bad c a)
      (with_reducible repeat first | exact S1.out | refine StR.alloc ?_ _ | refine StR.drewN ?_ _ | refine StR.drew ?_ | refine StR.setO ?_ (by first | assumption | omega) _ _ | refine StR.stay ?_ (by assumption))
    · intro xs ts' e
      cases e
def LEnd (f : List Ex → Ex) : Res → Res → Prop
 | .okL es (d :: ts'),r => (Sg d [41] ∧ r = .ok (f es) ts') ∨ (¬ Sg d [41] ∧ r = .bad 11 d.a)
 | .bad c a,r => r = .bad c a
 | _,_ => False
theorem LEnd.st {ws : List Wd} {f : List Ex → Ex} {r2 r : Res} (h : LEnd f r2 r) (hk : ∀ x ∈ ws,KOk x) (hs : ∀ tt,r2.st = .ok tt → tt <:+ ws) : r2.st.need [41] = r.st:=by
 cases r2 with
 | okL e ts =>
  cases ts with
  | nil => exact h.elim
  | cons d ts =>
   have hd : KOk d:=hk d ((hs _ rfl).subset (by simp))
   rcases h with ⟨h1,rfl⟩ | ⟨h1,rfl⟩
   · exact (RS.need_t (isS_yes h1)).trans rfl
   · exact (RS.need_f (isS_no hd [] (by decide) h1)).trans rfl
 | ok => exact h.elim
 | bad c a =>
  have h' : r = .bad c a:=h
  subst h'
  rfl
theorem LEnd.inv {f : List Ex → Ex} {r2 r : Res} (h : LEnd f r2 r) {x : Ex} {ts' : List Wd} (hr : r = .ok x ts') : ∃ es d,r2 = .okL es (d :: ts') ∧ x = f es:=by
 cases r2 with
 | okL e ts =>
  cases ts with
  | nil => exact h.elim
  | cons d ts =>
   rcases h with ⟨_,h1⟩ | ⟨_,h1⟩
   · rw [hr] at h1
     cases h1
     exact ⟨e,d,rfl,rfl⟩
   · rw [hr] at h1
     cases h1
 | ok => exact h.elim
 | bad c a =>
  have h' : r = .bad c a:=h
  rw [hr] at h'
  cases h'
theorem rnam_calllim (rb g : Nat) (ws : List Wd) (x y : Wd) (tt : List Wd) (hx : x.k = 0) (h1 : Sg y [40]) : SndR rb g ws 79 #[.pointer (some ⟨rb,0,none⟩)] 32 (x :: y :: tt) (.bad 2 y.a):=by
 intro W cap E0 S0
 have hrl:=S0.lt
 have hgl:=E0.wc.lt
 obtain ⟨i,a,R0,h5,h6,h7,hxm⟩:=S0.ok_cells E0
 have hky : KOk y:=E0.kok y (h6.subset (by simp))
 have hFy:=S0.fin.cons (by rw [hx];decide)
 have b1 : Hid ((RS.ok (y :: tt)).is (⟨#[91]⟩ : ByteArray).data.toList = false):=hid (isS_no hky [] (by decide) (fun h => by (have e:=h.2;rw [h1.2] at e;cases e)))
 have b2 : Hid ((RS.ok (y :: tt)).is (⟨#[40]⟩ : ByteArray).data.toList = true):=hid (isS_yes h1)
 obtain ⟨⟨r0,r1,r2,r3,r4⟩,⟨c0,c1,c2,c3⟩,_,_,hi1,hi2,_⟩:=R0.facts
 have hx3 : x.k ≠ 3:=by (rw [hx];decide)
 have S:=hid S0
 have E:=hid E0
 have R:=hid R0
 clear R0 E0 S0 hky h1 hxm h6
 go_enter Try.func79,Try.ntmps79
 go_upto_region 1 with (fail)
 go_wp2
 go_region
 go_upto_region 3 with (fail)
 refine name_world ?_
 intro W1 hW1
 have hB1 : Below W.heap.size W W1:=by (rw [hW1];(refine Fr.below ?_;(with_reducible repeat first | exact Fr.refl _ _ | refine Fr.alloc ?_ _ | refine Fr.drewN ?_ _ | refine Fr.drew ?_ | (refine Fr.set ?_ ?_ _ _;rotate_left;first | exact .inl rfl | (right;simp;done) | (right;simp;omega) | (right;omega)) | refine Fr.step ?_ (by assumption) | refine Fr.stepB ?_ (by assumption))))
 have hz1 : W1.heap.size = W.heap.size + 3:=by (rw [hW1];simp)
 have BV1 : Blk W1 W.heap.size (.int .i64 0) (.int .i64 0) (.int .i64 0) (.string ⟨#[]⟩) (.slice none 0 0) (.int .i64 0):=by (rw [hW1];exact ((((Blk.new rfl _ _ _ _ _ _).alloc _).alloc _).drew))
 have BE1 : Blk W1 (W.heap.size + 1 + 1) (.int .i64 2) (.int .i64 0) (.int .i64 0) (.string (bstr x.t)) (.slice none 0 0) (.int .i64 x.a):=by (rw [hW1];exact ((Blk.new (by simp) _ _ _ _ _ _).drew))
 clear hW1 r0 r1 r2 r3 r4 c0 c1 c2 c3
 have hR1:=R.out.kept hB1
 obtain ⟨⟨_,r1,_,_,_⟩,_,hrl1,_,_,_,hfz⟩:=hR1.facts
 have hf1:=hfz 1
 have hne0 : rb ≠ W.heap.size:=by omega
 have hne2 : rb ≠ W.heap.size + 1 + 1:=by omega
 have SA:=hid (st_adv (S.out.stay hB1) hR1 hx3 h5)
 have EA:=hid ((E.out.stay hB1).kept ((Fr.refl (some rb) W1).set (.inl rfl) 1 (.int .i64 ((i : Int) + 1))))
 have hfA : Fr (some rb) W (W1.setCell ⟨rb,1,none⟩ (.int .i64 ((i : Int) + 1))):=((Fr.of hB1).set (.inl rfl) 1 _)
 have BVA : Blk (W1.setCell ⟨rb,1,none⟩ (.int .i64 ((i : Int) + 1))) W.heap.size (.int .i64 0) (.int .i64 0) (.int .i64 0) (.string ⟨#[]⟩) (.slice none 0 0) (.int .i64 0):=BV1.setO (Ne.symm hne0) _ _
 have BEA : Blk (W1.setCell ⟨rb,1,none⟩ (.int .i64 ((i : Int) + 1))) (W.heap.size + 1 + 1) (.int .i64 2) (.int .i64 0) (.int .i64 0) (.string (bstr x.t)) (.slice none 0 0) (.int .i64 x.a):=BE1.setO (Ne.symm hne2) _ _
 go_upto_region 4 with (fail)
 refine name_world ?_
 intro WA hWA
 rw [← hWA] at SA EA hfA BVA BEA
 have hzA : W1.heap.size = WA.heap.size:=by (rw [hWA];simp)
 clear hWA BV1 BE1 hR1 r1 hfz hf1 hrl1 S E R hi1 hi2 h5 h7
 go_wp2_with (first
  | (go_at_call 62;(with_reducible refine (st_is SA.out EA.out _ false b1.out).mono ?_);rintro e' w2 ⟨rfl,hb2⟩)
  | (go_at_call 62;(with_reducible refine (st_is (SA.out.stay hb2) (EA.out.stay hb2) _ true b2.out).mono ?_);rintro e' w3 ⟨rfl,hb3⟩;have hb23 : Below WA.heap.size WA w3:=hb2.trans (hb3.mono hb2.size);have BE2:=BEA.stay hb23;have BV2:=BVA.stay hb23)
  | (go_at_call 78;(with_reducible refine (renter_lim (hid (SA.out.stay hb23)) (hid (EA.out.stay hb23))).mono ?_);rintro e' w4 ⟨rfl,hs3,hf3⟩;have BE3:=BE2.fr hf3 (Ne.symm hne2);have BV3:=BV2.fr hf3 (Ne.symm hne0);(obtain ⟨ble,c0e,c1e,c2e,c3e,c4e,c5e,f0e,f1e,f2e,f3e,f4e,f5e⟩:=(BE3).facts);(obtain ⟨blv,c0v,c1v,c2v,c3v,c4v,c5v,f0v,f1v,f2v,f3v,f4v,f5v⟩:=(BV3).facts)))
 refine bodyPost_ret (results_ex rfl _ rfl (BV3.all _ _ _ _ _ _)) rfl ⟨by (with_reducible repeat first | exact Fr.refl _ _ | refine Fr.alloc ?_ _ | refine Fr.drewN ?_ _ | refine Fr.drew ?_ | (refine Fr.set ?_ ?_ _ _;rotate_left;first | exact .inl rfl | (right;simp;done) | (right;simp;omega) | (right;omega)) | refine Fr.step ?_ (by assumption) | refine Fr.stepB ?_ (by assumption)),?_,_,_,_,_,_,_,_,_,rfl,GoodEx.bad⟩
 have hs3' : StR w4 rb g cap ws 32 (.bad 2 y.a):=hs3
 show StR _ rb g cap ws 32 (.bad 2 y.a)
 (with_reducible repeat first | exact hs3' | refine StR.alloc ?_ _ | refine StR.drewN ?_ _ | refine StR.drew ?_ | refine StR.setO ?_ (by first | assumption | omega) _ _ | refine StR.stay ?_ (by assumption))
theorem rnam_call (rb g : Nat) (ws : List Wd) (o : Nat) (x y : Wd) (tt : List Wd) (r2 r : Res) (ho : o < 32) (hx : x.k = 0) (h1 : Sg y [40]) (H2 : SndRL rb g ws 81 #[.pointer (some ⟨rb,0,none⟩)] (o + 1) tt r2) (hr : LEnd (fun es => .mk 7 0 0 x.t es x.a) r2 r) : SndR rb g ws 79 #[.pointer (some ⟨rb,0,none⟩)] o (x :: y :: tt) r:=by
 intro W cap E0 S0
 have hrl:=S0.lt
 have hgl:=E0.wc.lt
 obtain ⟨i,a,R0,h5,h6,h7,hxm⟩:=S0.ok_cells E0
 have hky : KOk y:=E0.kok y (h6.subset (by simp))
 have hFy:=S0.fin.cons (by rw [hx];decide)
 have b1 : Hid ((RS.ok (y :: tt)).is (⟨#[91]⟩ : ByteArray).data.toList = false):=hid (isS_no hky [] (by decide) (fun h => by (have e:=h.2;rw [h1.2] at e;cases e)))
 have b2 : Hid ((RS.ok (y :: tt)).is (⟨#[40]⟩ : ByteArray).data.toList = true):=hid (isS_yes h1)
 have hy3:=hid h1.ne
 obtain ⟨⟨r0,r1,r2,r3,r4⟩,⟨c0,c1,c2,c3⟩,_,_,hi1,hi2,_⟩:=R0.facts
 have hx3 : x.k ≠ 3:=by (rw [hx];decide)
 have S:=hid S0
 have E:=hid E0
 have R:=hid R0
 clear R0 E0 S0 hky h1 hxm h6
 go_enter Try.func79,Try.ntmps79
 go_upto_region 1 with (fail)
 go_wp2
 go_region
 go_upto_region 3 with (fail)
 refine name_world ?_
 intro W1 hW1
 have hB1 : Below W.heap.size W W1:=by (rw [hW1];(refine Fr.below ?_;(with_reducible repeat first | exact Fr.refl _ _ | refine Fr.alloc ?_ _ | refine Fr.drewN ?_ _ | refine Fr.drew ?_ | (refine Fr.set ?_ ?_ _ _;rotate_left;first | exact .inl rfl | (right;simp;done) | (right;simp;omega) | (right;omega)) | refine Fr.step ?_ (by assumption) | refine Fr.stepB ?_ (by assumption))))
 have hz1 : W1.heap.size = W.heap.size + 3:=by (rw [hW1];simp)
 have BV1 : Blk W1 W.heap.size (.int .i64 0) (.int .i64 0) (.int .i64 0) (.string ⟨#[]⟩) (.slice none 0 0) (.int .i64 0):=by (rw [hW1];exact ((((Blk.new rfl _ _ _ _ _ _).alloc _).alloc _).drew))
 have BE1 : Blk W1 (W.heap.size + 1 + 1) (.int .i64 2) (.int .i64 0) (.int .i64 0) (.string (bstr x.t)) (.slice none 0 0) (.int .i64 x.a):=by (rw [hW1];exact ((Blk.new (by simp) _ _ _ _ _ _).drew))
 clear hW1 r0 r1 r2 r3 r4 c0 c1 c2 c3
 have hR1:=R.out.kept hB1
 obtain ⟨⟨_,r1,_,_,_⟩,_,hrl1,_,_,_,hfz⟩:=hR1.facts
 have hf1:=hfz 1
 have hne0 : rb ≠ W.heap.size:=by omega
 have hne2 : rb ≠ W.heap.size + 1 + 1:=by omega
 have SA:=hid (st_adv (S.out.stay hB1) hR1 hx3 h5)
 have EA:=hid ((E.out.stay hB1).kept ((Fr.refl (some rb) W1).set (.inl rfl) 1 (.int .i64 ((i : Int) + 1))))
 have hfA : Fr (some rb) W (W1.setCell ⟨rb,1,none⟩ (.int .i64 ((i : Int) + 1))):=((Fr.of hB1).set (.inl rfl) 1 _)
 have BVA : Blk (W1.setCell ⟨rb,1,none⟩ (.int .i64 ((i : Int) + 1))) W.heap.size (.int .i64 0) (.int .i64 0) (.int .i64 0) (.string ⟨#[]⟩) (.slice none 0 0) (.int .i64 0):=BV1.setO (Ne.symm hne0) _ _
 have BEA : Blk (W1.setCell ⟨rb,1,none⟩ (.int .i64 ((i : Int) + 1))) (W.heap.size + 1 + 1) (.int .i64 2) (.int .i64 0) (.int .i64 0) (.string (bstr x.t)) (.slice none 0 0) (.int .i64 x.a):=BE1.setO (Ne.symm hne2) _ _
 go_upto_region 4 with (fail)
 refine name_world ?_
 intro WA hWA
 rw [← hWA] at SA EA hfA BVA BEA
 have hzA : W1.heap.size = WA.heap.size:=by (rw [hWA];simp)
 clear hWA BV1 BE1 hR1 r1 hfz hf1 hrl1 S E R hi1 hi2 h5 h7
 have HH2:=hid H2
 clear H2
 go_upto_region 18 with (first
  | (go_at_call 62;(with_reducible refine (st_is SA.out EA.out _ false b1.out).mono ?_);rintro e' w2 ⟨rfl,hb2⟩)
  | (go_at_call 62;(with_reducible refine (st_is (SA.out.stay hb2) (EA.out.stay hb2) _ true b2.out).mono ?_);rintro e' w3 ⟨rfl,hb3⟩;have hb23 : Below WA.heap.size WA w3:=hb2.trans (hb3.mono hb2.size);have BE2:=BEA.stay hb23;have BV2:=BVA.stay hb23)
  | (go_at_call 78;(with_reducible refine (renter_ok (SA.out.stay hb23) (EA.out.stay hb23) hy3.out ho).mono ?_);rintro e' w4 ⟨rfl,hs3,hf3⟩;have BE3:=BE2.fr hf3 (Ne.symm hne2);have BV3:=BV2.fr hf3 (Ne.symm hne0);(obtain ⟨ble,c0e,c1e,c2e,c3e,c4e,c5e,f0e,f1e,f2e,f3e,f4e,f5e⟩:=(BE3).facts);(obtain ⟨blv,c0v,c1v,c2v,c3v,c4v,c5v,f0v,f1v,f2v,f3v,f4v,f5v⟩:=(BV3).facts)))
 refine name_world ?_
 intro W4 hW4
 have BE4 : Blk W4 (W.heap.size + 1 + 1) (.int .i64 7) (.int .i64 0) (.int .i64 0) (.string (bstr x.t)) (.slice none 0 0) (.int .i64 x.a):=by (rw [hW4];exact BE3.set0 _)
 have BV4 : Blk W4 W.heap.size (.int .i64 0) (.int .i64 0) (.int .i64 0) (.string ⟨#[]⟩) (.slice none 0 0) (.int .i64 0):=by (rw [hW4];exact BV3.setO (by omega) _ _)
 have S4:=hid (show StR W4 rb g cap ws ((o + 1 : Nat) : Int) (.ok tt) by (rw [hW4];exact hs3.setO hne2 _ _))
 have E4 : Hid (EnvR rb g ws W4):=hid (by (rw [hW4];exact ((EA.out.stay hb23).kept hf3).setO (by omega) _ _))
 have hFW4 : Fr (some rb) W W4:=by (have hz2:=Fr.size hfA;rw [hW4];exact ((hfA.stepB hb23).step hf3).set (.inr (by omega)) _ _)
 have hz4 : W.heap.size + 3 ≤ W4.heap.size:=by (have h1:=hb23.size;have h2:=Fr.size hf3;rw [hW4];simp;omega)
 obtain ⟨O,hO⟩ : ∃ O : Int,O = ((o + 1 : Nat) : Int):=⟨_,rfl⟩
 have HO:=hid hO
 clear hO hW4 BE3 BV3 BE2 BV2 BEA BVA SA EA hs3 hf3 hb2 hb3 hb23 hfA
 go_upto_region 19 with (go_at_call 81;(with_reducible refine (HH2.out.use _ cap E4.out S4.out).mono ?_);rintro e5 w5 ⟨hf5,hs5,p5,l5,c5,rfl,hg5⟩;have BE5:=BE4.fr hf5 (Ne.symm hne2);(obtain ⟨bli,c0i,c1i,c2i,c3i,c4i,c5i,f0i,f1i,f2i,f3i,f4i,f5i⟩:=(BE5).facts))
 refine name_world ?_
 intro W7 hW7
 have BE7 : Blk W7 (W.heap.size + 1 + 1) (.int .i64 7) (.int .i64 0) (.int .i64 0) (.string (bstr x.t)) (.slice p5 l5 c5) (.int .i64 x.a):=by (rw [hW7];exact BE5.set4 _)
 have BV7 : Blk W7 W.heap.size (.int .i64 0) (.int .i64 0) (.int .i64 0) (.string ⟨#[]⟩) (.slice none 0 0) (.int .i64 0):=by (rw [hW7];exact (BV4.fr hf5 (Ne.symm hne0)).setO (by omega) _ _)
 rw [← HO.out] at hs5
 have S7 : Hid (StR W7 rb g cap ws O r2.st):=hid (by (rw [hW7];exact hs5.setO hne2 _ _))
 have E7 : Hid (EnvR rb g ws W7):=hid (by (rw [hW7];exact (E4.out.kept hf5).setO (by omega) _ _))
 have hFW7 : Fr (some rb) W W7:=by (rw [hW7];exact (hFW4.step hf5).set (.inr (by omega)) _ _)
 have X7 : Hid (∀ es ts,r2 = .okL es ts → l5 = es.length ∧ IsEx W4.heap.size W7 (.mk 7 0 0 x.t es x.a) (.slice p5 l5 c5)):=hid (by
  intro es ts he
  rw [hW7]
  exact ⟨(hg5 es ts he).1,((hg5 es ts he).2.recast).set (by omega) _ _⟩)
 have hz7:=Fr.size hFW7
 clear hW7 hs5 hf5 BE5 BE4 BV4 S4 E4 hg5
 go_wp2_with (go_at_call 64;(with_reducible refine (st_need S7.out E7.out _).mono ?_);rintro e8 w8 ⟨rfl,hs8,hf8⟩;obtain ⟨i8,c8,a8,hr8,_,_⟩:=hs8.rd;obtain ⟨q0,q1,q2,q3,q4⟩:=hr8.cells;have hl8:=hr8.lt;have hfz8:=hr8.frozen 2;have BE8:=BE7.fr hf8 (Ne.symm hne2);have BV8:=BV7.fr hf8 (Ne.symm hne0);clear hr8;(obtain ⟨blk,c0k,c1k,c2k,c3k,c4k,c5k,f0k,f1k,f2k,f3k,f4k,f5k⟩:=(BE8).facts);(obtain ⟨bll,c0l,c1l,c2l,c3l,c4l,c5l,f0l,f1l,f2l,f3l,f4l,f5l⟩:=(BV8).facts))
 refine bodyPost_ret (results_ex rfl _ rfl ((BV8.setO (Ne.symm hne0) _ _).all _ _ _ _ _ _)) rfl ⟨by (with_reducible repeat first | exact Fr.refl _ _ | refine Fr.alloc ?_ _ | refine Fr.drewN ?_ _ | refine Fr.drew ?_ | (refine Fr.set ?_ ?_ _ _;rotate_left;first | exact .inl rfl | (right;simp;done) | (right;simp;omega) | (right;omega)) | refine Fr.step ?_ (by assumption) | refine Fr.stepB ?_ (by assumption)),?_,_,_,_,_,_,_,_,_,rfl,?_⟩
 · have hst:=hr.st E7.out.kok (fun tt' h => (show StR W7 rb g cap ws O (.ok tt') from h ▸ S7.out).1)
   have hs9 : StR (w8.setCell ⟨rb,2,none⟩ (.int .i64 (wrap64 (O - 1)))) rb g cap ws o r.st:=by (rw [← hst,HO.out];exact st_dec (HO.out ▸ hs8) (by omega))
   (with_reducible repeat first | exact hs9 | refine StR.alloc ?_ _ | refine StR.drewN ?_ _ | refine StR.drew ?_ | refine StR.setO ?_ (by first | assumption | omega) _ _ | refine StR.stay ?_ (by assumption))
 · intro x' ts' e
   obtain ⟨e0,d,h8,rfl⟩:=hr.inv e
   have h9:=((X7.out e0 _ h8).2.fr hf8 (by omega)).set (show rb < W4.heap.size by omega) 2 (.int .i64 (wrap64 (O - 1)))
   refine ⟨rfl,rfl,rfl,rfl,(X7.out e0 _ h8).1,rfl,IsEx.low (lo:=W4.heap.size) ?_ (by omega)⟩
   exact (((((h9.set (by omega) _ _).set (by omega) _ _).set (by omega) _ _).set (by omega) _ _).set (by omega) _ _).set (by omega) _ _
theorem rnam_step (rb g : Nat) (ws : List Wd) (o : Nat) (ts0 : List Wd) (r : Res) (IH : BelowR rb g ws (4 * ts0.length)) (hP : P o .nam ts0 r) (hs : ts0 <:+ ws) (hF : Fin ts0) (hm : Job.may .nam ts0) (ho : o ≤ 32) :
 SndR rb g ws 79 #[.pointer (some ⟨rb,0,none⟩)] o ts0 r:=by
 have hlist : ∀ d tt0 rl,o < 32 → P (o + 1) (.list []) (d :: tt0) rl → ¬ Sg d [41] → (d :: tt0) <:+ ws → Fin (d :: tt0) → (d :: tt0).length + 2 ≤ ts0.length → SndRL rb g ws 81 #[.pointer (some ⟨rb,0,none⟩)] (o + 1) (d :: tt0) rl:=by
  intro d tt0 rl ho2 hP2 hd _ _ hl
  exact rlist_some rb g ws (o + 1) d tt0 rl hd hP2 fun tt r hP3 hs3 hF3 hl3 => IH (.expr 1) _ _ _ hP3 hs3 hF3 (by simp [Job.may]) (by omega) (by simp only [Job.wt];omega)
 cases hP with
 | @namVar _ w c ts h1 h2 => exact rnam_var rb g ws o w c ts (hm _ _ rfl) ⟨h1,h2⟩
 | @namElem _ w c ts ts' e h1 h2 =>
  have hk:=hm _ _ rfl
  cases h2 with
  | @wthOk _ _ _ d _ _ _ h3 h4 h5 =>
   have hs2 : ts <:+ ws:=(suf_at (suf_at hs).2.2).2.2
   have hF2 : Fin ts:=(hF.cons (by rw [hk];decide)).cons h1.ne
   exact rnam_elem rb g ws o w c ts _ _ h3 hk h1 (IH (.expr 1) _ _ _ h4 hs2 hF2 (by simp [Job.may]) (by omega) (by simp only [Job.wt,List.length_cons];omega)) (.inl ⟨h5,rfl⟩)
 | @namElemBad _ w c ts e a h1 h2 =>
  have hk:=hm _ _ rfl
  have hs2 : ts <:+ ws:=(suf_at (suf_at hs).2.2).2.2
  have hF2 : Fin ts:=(hF.cons (by rw [hk];decide)).cons h1.ne
  cases h2 with
  | wthLim h3 =>
   subst h3
   exact rnam_elim rb g ws w c ts hk h1
  | @wthNo _ _ _ d _ _ _ h3 h4 h5 => exact rnam_elem rb g ws o w c ts _ _ h3 hk h1 (IH (.expr 1) _ _ _ h4 hs2 hF2 (by simp [Job.may]) (by omega) (by simp only [Job.wt,List.length_cons];omega)) (.inr ⟨h5,rfl⟩)
  | wthBad h3 h4 => exact rnam_elem rb g ws o w c ts _ _ h3 hk h1 (IH (.expr 1) _ _ _ h4 hs2 hF2 (by simp [Job.may]) (by omega) (by simp only [Job.wt,List.length_cons];omega)) rfl
 | @namCall _ w c ts ts' es h1 h2 =>
  have hk:=hm _ _ rfl
  have hs2 : ts <:+ ws:=(suf_at (suf_at hs).2.2).2.2
  have hF2 : Fin ts:=(hF.cons (by rw [hk];decide)).cons h1.ne
  cases h2 with
  | givNone h3 h4 => exact rnam_call rb g ws o w c _ _ _ h3 hk h1 (rlist_none rb g ws (o + 1) _ _ h4) (.inl ⟨h4,rfl⟩)
  | givSome h3 h4 h5 h6 => exact rnam_call rb g ws o w c _ _ _ h3 hk h1 (hlist _ _ _ h3 h5 h4 hs2 hF2 (by simp)) (.inl ⟨h6,rfl⟩)
 | @namCallBad _ w c ts e a h1 h2 =>
  have hk:=hm _ _ rfl
  have hs2 : ts <:+ ws:=(suf_at (suf_at hs).2.2).2.2
  have hF2 : Fin ts:=(hF.cons (by rw [hk];decide)).cons h1.ne
  cases h2 with
  | givLim h3 =>
   subst h3
   exact rnam_calllim rb g ws w c ts hk h1
  | givNo h3 h4 h5 h6 => exact rnam_call rb g ws o w c _ _ _ h3 hk h1 (hlist _ _ _ h3 h5 h4 hs2 hF2 (by simp)) (.inr ⟨h6,rfl⟩)
  | givBad h3 h4 h5 => exact rnam_call rb g ws o w c _ _ _ h3 hk h1 (hlist _ _ _ h3 h5 h4 hs2 hF2 (by simp)) rfl
end Go.Proofs.Ytbmmjomcjlpnlaa
