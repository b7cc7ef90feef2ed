/- Joined texts: CpG Sp Ta Sk Sl Sg Sf Sm Sn Se Tw Rfn RthL RthF: lemmas for the law; each says its own conditions. -/
import Derived.Test.YtbmmjomcjlpnlaaQ06
set_option linter.unusedSimpArgs false
set_option linter.unusedVariables false
set_option maxRecDepth 100000
set_option maxHeartbeats 8000000
open Go.Lib (hid)
namespace Go.Proofs.Ytbmmjomcjlpnlaa
open Go Go.RowKit
abbrev glVal (y : Gl) : Value:=.agg #[.int .i64 y.a,.string (bstr y.nm),.bool y.tr,.bool y.sc,.int .i64 y.len,.string (bstr y.by_)]
section
variable {X Y : World} {n : Nat} {a ln : Int} {nm yy : ByteArray} {tr sc : Bool}
theorem GBlk.all (h : GBlk X n a nm tr sc ln yy) {a' ln' : Int} {nm' yy' : ByteArray} {tr' sc' : Bool} : GBlk ((((((X.setCell ⟨n,0,none⟩ (.int .i64 a')).setCell ⟨n,1,none⟩ (.string nm')).setCell ⟨n,2,none⟩ (.bool tr')).setCell ⟨n,3,none⟩ (.bool sc')).setCell ⟨n,4,none⟩ (.int .i64 ln')).setCell ⟨n,5,none⟩ (.string yy')) n a' nm' tr' sc' ln' yy' :=
 (((((h.set0 a').set1 nm').set2 tr').set3 sc').set4 ln').set5 yy'
theorem results_gl {fn : Func} {p : Tmp} (hfn : fn.results = #[.cell p 56]) (tmps : Array Value) (hp : tmps.getD p undef = .pointer (some ⟨n,0,none⟩)) (h : GBlk X n a nm tr sc ln yy) :
 (results fn tmps).run Try.prog X = .ok (.agg #[.int .i64 a,.string nm,.bool tr,.bool sc,.int .i64 ln,.string yy]) X:=by
 have hp' : tmps[p]?.getD undef = .pointer (some ⟨n,0,none⟩):=by simpa using hp
 simp [results,hfn,hp',asAddr,run_loadVar_row X n 56 56 _ (0,0) _ h Try.underlying56 rfl (by kernel_rfl)]
end
theorem cglobal_any (y : Gl) (w : World) (h1 : y.nm.length ≤ 100000) (h2 : y.by_.length ≤ 100000) :
 Calls Try.prog 28 #[glVal y] w fun e w' => e = .returned (glVal y) ∧ Below w.heap.size w w':=by
 have hn1 : (bstr y.nm).size ≤ 281474976710656:=by (show y.nm.length ≤ _;omega)
 have hn2 : (bstr y.by_).size ≤ 281474976710656:=by (show y.by_.length ≤ _;omega)
 go_enter Try.func28,Try.ntmps28
 go_upto_region 1 with (fail)
 refine name_world ?_
 intro W1 hW1
 have BA : GBlk W1 w.heap.size y.a (bstr y.nm) y.tr y.sc y.len (bstr y.by_):=by (rw [hW1];exact (GBlk.new rfl).alloc _)
 have BB : GBlk W1 (w.heap.size + 1) 0 ⟨#[]⟩ false false 0 ⟨#[]⟩:=by (rw [hW1];exact GBlk.new (by simp))
 have HB : Hid (Below w.heap.size w W1):=hid (by rw [hW1];exact ((Below.refl _ _).alloc (Nat.le_refl _) _).alloc (by simp) _)
 clear hW1
 obtain ⟨al,⟨ac0,ac1,ac2,ac3,ac4,ac5⟩,⟨af0,af1,af2,af3,af4,af5⟩⟩:=BA.facts
 have bl:=BB.facts.1
 go_upto_region 2 with (go_at_call 33;(with_reducible refine (clone_any _ _ hn1).mono ?_);rintro e1 w1 ⟨rfl,hb1⟩;have HBx:=hid (below_ch HB.out hb1);replace BA:=BA.stay hb1;replace BB:=BB.stay hb1;obtain ⟨xl,⟨xc0,xc1,xc2,xc3,xc4,xc5⟩,⟨xf0,xf1,xf2,xf3,xf4,xf5⟩⟩:=BA.facts;clear hb1)
 refine name_world ?_
 intro W2 hW2
 replace BA : GBlk W2 w.heap.size y.a (bstr y.nm) y.tr y.sc y.len (bstr y.by_):=by (rw [hW2];exact (BA.set1 _))
 replace BB : GBlk W2 (w.heap.size + 1) 0 ⟨#[]⟩ false false 0 ⟨#[]⟩:=by (rw [hW2];exact (BB.setO (by omega) _ _))
 replace HB : Hid (Below w.heap.size w W2):=hid (by (rw [hW2];exact (HBx.out.setCell (by simp) _)))
 clear hW2 HBx al ac0 ac1 ac2 ac3 ac4 ac5 af0 af1 af2 af3 af4 af5 xl xc0 xc1 xc2 xc3 xc4 xc5 xf0 xf1 xf2 xf3 xf4 xf5
 obtain ⟨al,⟨ac0,ac1,ac2,ac3,ac4,ac5⟩,⟨af0,af1,af2,af3,af4,af5⟩⟩:=BA.facts
 have bl:=BB.facts.1
 go_upto_region 3 with (go_at_call 33;(with_reducible refine (clone_any _ _ hn2).mono ?_);rintro e1 w1 ⟨rfl,hb1⟩;have HBx:=hid (below_ch HB.out hb1);replace BA:=BA.stay hb1;replace BB:=BB.stay hb1;obtain ⟨xl,⟨xc0,xc1,xc2,xc3,xc4,xc5⟩,⟨xf0,xf1,xf2,xf3,xf4,xf5⟩⟩:=BA.facts;clear hb1)
 refine name_world ?_
 intro W3 hW3
 replace BA : GBlk W3 w.heap.size y.a (bstr y.nm) y.tr y.sc y.len (bstr y.by_):=by (rw [hW3];exact (BA.set5 _))
 replace BB : GBlk W3 (w.heap.size + 1) 0 ⟨#[]⟩ false false 0 ⟨#[]⟩:=by (rw [hW3];exact (BB.setO (by omega) _ _))
 replace HB : Hid (Below w.heap.size w W3):=hid (by (rw [hW3];exact (HBx.out.setCell (by simp) _)))
 clear hW3 HBx al ac0 ac1 ac2 ac3 ac4 ac5 af0 af1 af2 af3 af4 af5 xl xc0 xc1 xc2 xc3 xc4 xc5 xf0 xf1 xf2 xf3 xf4 xf5
 obtain ⟨al,⟨ac0,ac1,ac2,ac3,ac4,ac5⟩,⟨af0,af1,af2,af3,af4,af5⟩⟩:=BA.facts
 have bl:=BB.facts.1
 obtain ⟨_,_,⟨f0,f1,f2,f3,f4,f5⟩⟩:=BB.facts
 go_wp2
 refine bodyPost_ret (results_gl rfl _ rfl BB.all) rfl ⟨rfl,?_⟩
 exact ((((((HB.out.setCell (by simp) _).setCell (by simp) _).setCell (by simp) _).setCell (by simp) _).setCell (by simp) _).setCell (by simp) _)
end Go.Proofs.Ytbmmjomcjlpnlaa
namespace Go.Proofs.Ytbmmjomcjlpnlaa
open Go Go.RowKit
inductive Th where
 | gl (y : Gl) (i : Nat)
 | lk (i : Nat)
 | fn (y : Fn) (v : FV) (i : Nat)
 | lo (tr sc : Bool)
def Th.val : Th → Value
 | .gl y i => .iface 93 (.agg #[.int .i64 y.a,.string (bstr y.nm),.bool y.tr,.bool y.sc,.int .i64 y.len,.string (bstr y.by_),.int .i64 i])
 | .lk i => .iface 97 (.agg #[.int .i64 i])
 | .fn y v i => .iface 100 (.agg #[.int .i64 y.a,.string (bstr y.nm),v.p,.bool y.tr,.bool y.sc,v.b,.int .i64 y.ret.k,.int .i64 y.ret.op,.int .i64 y.ret.n,.string (bstr y.ret.nm),v.k,.int .i64 y.ret.a,.int .i64 i])
 | .lo tr sc => .iface 108 (.agg #[.bool tr,.bool sc])
def Th.ok (lo : Nat) (W : World) : Th → Prop
 | .gl y _ => y.nm.length ≤ 100000 ∧ y.by_.length ≤ 100000
 | .lk _ => True
 | .fn y v _ => ShF y ∧ IsFn1 (fun g => lo ≤ g) W y v
 | .lo _ _ => True
abbrev TF : Type:=List UInt8 → Option Th
def TF.kf (F : TF) : KF:=fun t => (F t).map Th.val
structure Scp (B : Nat) (W : World) (s n : Nat) (F : TF) (L : List ByteArray) (bl : List Nat) (m lv bv : Value) : Prop where
 blk : W.heap[s]? = some (.cells #[m,lv,bv] 89 (0,0))
 hs : B ≤ s
 mp : (m = .map none ∧ ∀ t,F t = none) ∨ ∃ b,m = .map (some b) ∧ B ≤ b ∧ KMap W b n F.kf
 lo : W.ownsRow B 9 1 lv L.length (L.map Value.string)
 bk : W.ownsRow B 3 1 bv bl.length (bl.map fun (i : Nat) => Value.int .i64 (i : Int))
 th : ∀ t x,F t = some x → x.ok B W
section
variable {B : Nat} {W : World} {s n : Nat} {F : TF} {L : List ByteArray} {bl : List Nat} {m lv bv : Value}
theorem Scp.facts (h : Scp B W s n F L bl m lv bv) : s < W.heap.size ∧ (W.cell? ⟨s,0,none⟩ = some m ∧ W.cell? ⟨s,1,none⟩ = some lv ∧ W.cell? ⟨s,2,none⟩ = some bv) ∧ (W.frozen? ⟨s,0,none⟩ = false ∧ W.frozen? ⟨s,1,none⟩ = false ∧ W.frozen? ⟨s,2,none⟩ = false):=by
 refine ⟨(Array.getElem?_eq_some_iff.1 h.blk).1,⟨?_,?_,?_⟩,frozen_of_row W s _ _ _ h.blk,frozen_of_row W s _ _ _ h.blk,frozen_of_row W s _ _ _ h.blk⟩ <;> rw [cell_of_row _ _ _ _ _ _ h.blk] <;> rfl
theorem eql_ptr_some (a : Addr) (W : World) : (binOp .eql 33 (.pointer (some a)) (.pointer none)).run Try.prog W = .ok (.bool false) W:=by
 have h:=run_eql_pointer_nil (P:=Try.prog) W 33 (some a) (by kernel_rfl)
 simpa using h
theorem thing_any (h : Hid (Scp B W s n F L bl m lv bv)) (t : ByteArray) (ht : t.size ≤ 140737488355328) :
 Calls Try.prog 32 #[.pointer (some ⟨s,0,none⟩),.string t] W fun e w' => e = .returned ((F.kf t.data.toList).getD .nilIface) ∧ w' = W:=by
 have hmx : t.size ≤ maxLen:=Nat.le_trans ht (by decide)
 have heq:=eql_ptr_some ⟨s,0,none⟩ W
 have hl : ∃ mm,m = .map mm ∧ (Instr.lookup 86 (.map mm) (.string t) false).run Try.prog W = .ok ((F.kf t.data.toList).getD .nilIface) W:=by
  rcases h.out.mp with ⟨rfl,hn⟩ | ⟨b,rfl,_,hk⟩
  · refine ⟨none,rfl,?_⟩
    rw [look_nil hmx,TF.kf,hn]
    rfl
  · exact ⟨some b,rfl,hk.look hmx⟩
 obtain ⟨mm,rfl,hlk⟩:=hl
 obtain ⟨u,hu⟩ : ∃ u,(F.kf t.data.toList).getD .nilIface = u:=⟨_,rfl⟩
 rw [hu] at hlk ⊢
 clear hu
 obtain ⟨sl,⟨c0,c1,c2⟩,f0,f1,f2⟩:=h.out.facts
 go_enter Try.func32,Try.ntmps32
 go_wp2
 go_ret
 exact ⟨rfl,rfl⟩
end
end Go.Proofs.Ytbmmjomcjlpnlaa
namespace Go.Proofs.Ytbmmjomcjlpnlaa
open Go Go.RowKit
def zGl : Value:=.agg #[.int .i64 0,.string ⟨#[]⟩,.bool false,.bool false,.int .i64 0,.string ⟨#[]⟩,.int .i64 0]
def zLk : Value:=.agg #[.int .i64 0]
def zFn : Value:=.agg #[.int .i64 0,.string ⟨#[]⟩,.slice none 0 0,.bool false,.bool false,.slice none 0 0,.int .i64 0,.int .i64 0,.int .i64 0,.string ⟨#[]⟩,.slice none 0 0,.int .i64 0,.int .i64 0]
def zLo : Value:=.agg #[.bool false,.bool false]
theorem z_gl (W : World) : (zeroValue 93).run Try.prog W = .ok zGl W:=by kernel_rfl
theorem z_lk (W : World) : (zeroValue 97).run Try.prog W = .ok zLk W:=by kernel_rfl
theorem z_fn (W : World) : (zeroValue 100).run Try.prog W = .ok zFn W:=by kernel_rfl
theorem z_lo (W : World) : (zeroValue 108).run Try.prog W = .ok zLo W:=by kernel_rfl
theorem ta_same {T E : TypeId} {d : TypeDesc} (hT : Try.prog.underlying T = some d) (hs : ∀ ms,d ≠ .interface ms) (v : Value) (W : World) : (Instr.typeAssert (.iface T v) E T true).run Try.prog W = .ok (.tuple #[v,.bool true]) W:=by
 cases d with
 | interface ms => exact absurd rfl (hs ms)
 | _ => simp [Instr.typeAssert,run_underlying hT]
theorem ta_other {T T' E : TypeId} {d : TypeDesc} {z : Value} (hT : Try.prog.underlying T' = some d) (hs : ∀ ms,d ≠ .interface ms) (hne : T ≠ T') (hz : ∀ W,(zeroValue T').run Try.prog W = .ok z W) (v : Value) (W : World) : (Instr.typeAssert (.iface T v) E T' true).run Try.prog W = .ok (.tuple #[z,.bool false]) W:=by
 cases d with
 | interface ms => exact absurd rfl (hs ms)
 | _ => simp [Instr.typeAssert,run_underlying hT,hne,hz]
theorem ta_nil {T' E : TypeId} {d : TypeDesc} {z : Value} (hT : Try.prog.underlying T' = some d) (hs : ∀ ms,d ≠ .interface ms) (hz : ∀ W,(zeroValue T').run Try.prog W = .ok z W) (W : World) : (Instr.typeAssert .nilIface E T' true).run Try.prog W = .ok (.tuple #[z,.bool false]) W:=by
 cases d with
 | interface ms => exact absurd rfl (hs ms)
 | _ => simp [Instr.typeAssert,run_underlying hT,hz]
theorem u_gl : ∃ d,Try.prog.underlying 93 = some d ∧ ∀ ms,d ≠ .interface ms:=⟨_,Try.underlying93,fun _ h => by cases h⟩
theorem u_lk : ∃ d,Try.prog.underlying 97 = some d ∧ ∀ ms,d ≠ .interface ms:=⟨_,Try.underlying97,fun _ h => by cases h⟩
theorem u_fn : ∃ d,Try.prog.underlying 100 = some d ∧ ∀ ms,d ≠ .interface ms:=⟨_,Try.underlying100,fun _ h => by cases h⟩
theorem u_lo : ∃ d,Try.prog.underlying 108 = some d ∧ ∀ ms,d ≠ .interface ms:=⟨_,Try.underlying108,fun _ h => by cases h⟩
theorem ta_gl (x : Option Th) (W : World) : (Instr.typeAssert ((x.map Th.val).getD .nilIface) 20 93 true).run Try.prog W = .ok (match x with | some (.gl y i) => .tuple #[.agg #[.int .i64 y.a,.string (bstr y.nm),.bool y.tr,.bool y.sc,.int .i64 y.len,.string (bstr y.by_),.int .i64 i],.bool true] | _ => .tuple #[zGl,.bool false]) W:=by
 obtain ⟨d,h1,h2⟩:=u_gl
 rcases x with _ | x
 · exact ta_nil h1 h2 z_gl W
 · cases x with
   | gl y i => exact ta_same h1 h2 _ W
   | _ => exact ta_other h1 h2 (by decide) z_gl _ W
theorem ta_lk (x : Option Th) (W : World) : (Instr.typeAssert ((x.map Th.val).getD .nilIface) 20 97 true).run Try.prog W = .ok (match x with | some (.lk i) => .tuple #[.agg #[.int .i64 i],.bool true] | _ => .tuple #[zLk,.bool false]) W:=by
 obtain ⟨d,h1,h2⟩:=u_lk
 rcases x with _ | x
 · exact ta_nil h1 h2 z_lk W
 · cases x with
   | lk i => exact ta_same h1 h2 _ W
   | _ => exact ta_other h1 h2 (by decide) z_lk _ W
theorem ta_fn (x : Option Th) (W : World) : (Instr.typeAssert ((x.map Th.val).getD .nilIface) 20 100 true).run Try.prog W = .ok (match x with | some (.fn y v i) => .tuple #[.agg #[.int .i64 y.a,.string (bstr y.nm),v.p,.bool y.tr,.bool y.sc,v.b,.int .i64 y.ret.k,.int .i64 y.ret.op,.int .i64 y.ret.n,.string (bstr y.ret.nm),v.k,.int .i64 y.ret.a,.int .i64 i],.bool true] | _ => .tuple #[zFn,.bool false]) W:=by
 obtain ⟨d,h1,h2⟩:=u_fn
 rcases x with _ | x
 · exact ta_nil h1 h2 z_fn W
 · cases x with
   | fn y v i => exact ta_same h1 h2 _ W
   | _ => exact ta_other h1 h2 (by decide) z_fn _ W
theorem ta_lo (x : Option Th) (W : World) : (Instr.typeAssert ((x.map Th.val).getD .nilIface) 20 108 true).run Try.prog W = .ok (match x with | some (.lo tr sc) => .tuple #[.agg #[.bool tr,.bool sc],.bool true] | _ => .tuple #[zLo,.bool false]) W:=by
 obtain ⟨d,h1,h2⟩:=u_lo
 rcases x with _ | x
 · exact ta_nil h1 h2 z_lo W
 · cases x with
   | lo tr sc => exact ta_same h1 h2 _ W
   | _ => exact ta_other h1 h2 (by decide) z_lo _ W
end Go.Proofs.Ytbmmjomcjlpnlaa
namespace Go.Proofs.Ytbmmjomcjlpnlaa
open Go Go.RowKit
def kindN : Option Th → Int
 | none => 0
 | some (.gl _ _) => 1
 | some (.lk _) => 2
 | some (.fn _ _ _) => 3
 | some (.lo _ _) => 4
section
variable {B : Nat} {W : World} {s n : Nat} {F : TF} {L : List ByteArray} {bl : List Nat} {m lv bv : Value}
theorem kind_any (h : Hid (Scp B W s n F L bl m lv bv)) (t : ByteArray) (ht : t.size ≤ 140737488355328) :
 Calls Try.prog 19 #[.pointer (some ⟨s,0,none⟩),.string t] W fun e w' => e = .returned (.int .i64 (kindN (F t.data.toList))) ∧ w' = W:=by
 have HT:=hid (thing_any h t ht)
 unfold TF.kf at HT
 obtain ⟨x,hx⟩ : ∃ x,F t.data.toList = x:=⟨_,rfl⟩
 rw [hx] at HT ⊢
 have a1:=ta_gl x W
 have a2:=ta_lk x W
 have a3:=ta_fn x W
 have a4:=ta_lo x W
 clear hx h
 rcases x with _ | x
 · simp only [Option.map_none,Option.getD_none] at a1 a2 a3 a4
   go_enter Try.func19,Try.ntmps19
   go_wp2_with (go_at_call 32;refine HT.out.mono ?_;rintro e1 w1 ⟨rfl,rfl⟩;simp only [Option.map_none,Option.getD_none])
   go_ret
   exact ⟨rfl,rfl⟩
 · cases x with
   | gl y i =>
    simp only [Option.map_some,Option.getD_some,Th.val] at a1 a2 a3 a4
    go_enter Try.func19,Try.ntmps19
    go_wp2_with (go_at_call 32;refine HT.out.mono ?_;rintro e1 w1 ⟨rfl,rfl⟩;simp only [Option.map_some,Option.getD_some,Th.val])
    go_ret
    exact ⟨rfl,rfl⟩
   | lk i =>
    simp only [Option.map_some,Option.getD_some,Th.val] at a1 a2 a3 a4
    go_enter Try.func19,Try.ntmps19
    go_wp2_with (go_at_call 32;refine HT.out.mono ?_;rintro e1 w1 ⟨rfl,rfl⟩;simp only [Option.map_some,Option.getD_some,Th.val])
    go_ret
    exact ⟨rfl,rfl⟩
   | fn y v i =>
    simp only [Option.map_some,Option.getD_some,Th.val] at a1 a2 a3 a4
    go_enter Try.func19,Try.ntmps19
    go_wp2_with (go_at_call 32;refine HT.out.mono ?_;rintro e1 w1 ⟨rfl,rfl⟩;simp only [Option.map_some,Option.getD_some,Th.val])
    go_ret
    exact ⟨rfl,rfl⟩
   | lo tr sc =>
    simp only [Option.map_some,Option.getD_some,Th.val] at a1 a2 a3 a4
    go_enter Try.func19,Try.ntmps19
    go_wp2_with (go_at_call 32;refine HT.out.mono ?_;rintro e1 w1 ⟨rfl,rfl⟩;simp only [Option.map_some,Option.getD_some,Th.val])
    go_ret
    exact ⟨rfl,rfl⟩
end
end Go.Proofs.Ytbmmjomcjlpnlaa
namespace Go.Proofs.Ytbmmjomcjlpnlaa
open Go Go.RowKit
def typeN : Option Th → Bool × Bool
 | some (.gl y _) => (y.tr,y.sc)
 | some (.lo tr sc) => (tr,sc)
 | _ => (false,false)
def lockN : Option Th → Int
 | some (.lk i) => i
 | _ => -1
def ZBlk (X : World) (n : Nat) (tr sc : Bool) : Prop:=X.heap[n]? = some (.cells #[.bool tr,.bool sc] 42 (0,0))
section
variable {X Y : World} {n : Nat} {tr sc : Bool}
theorem ZBlk.facts (h : ZBlk X n tr sc) : n < X.heap.size ∧ (X.cell? ⟨n,0,none⟩ = some (.bool tr) ∧ X.cell? ⟨n,1,none⟩ = some (.bool sc)) ∧ (X.frozen? ⟨n,0,none⟩ = false ∧ X.frozen? ⟨n,1,none⟩ = false):=by
 refine ⟨(Array.getElem?_eq_some_iff.1 h).1,⟨?_,?_⟩,frozen_of_row X n _ _ _ h,frozen_of_row X n _ _ _ h⟩ <;> rw [cell_of_row _ _ _ _ _ _ h] <;> rfl
theorem ZBlk.all (h : ZBlk X n tr sc) {tr' sc' : Bool} : ZBlk ((X.setCell ⟨n,0,none⟩ (.bool tr')).setCell ⟨n,1,none⟩ (.bool sc')) n tr' sc':=heap_setCell_same _ n 1 _ _ _ (heap_setCell_same X n 0 _ _ _ h)
theorem ZBlk.alloc (h : ZBlk X n tr sc) (o : Obj) : ZBlk (X.alloc o) n tr sc:=(Below.heap_alloc X o n (Array.getElem?_eq_some_iff.1 h).1).trans h
theorem ZBlk.new (hn : n = X.heap.size) : ZBlk (X.alloc (.cells #[.bool tr,.bool sc] 42)) n tr sc:=hn ▸ heap_alloc_new X _
theorem results_zt {fn : Func} {p : Tmp} (hfn : fn.results = #[.cell p 42]) (tmps : Array Value) (hp : tmps.getD p undef = .pointer (some ⟨n,0,none⟩)) (h : ZBlk X n tr sc) :
 (results fn tmps).run Try.prog X = .ok (.agg #[.bool tr,.bool sc]) X:=by
 have hp' : tmps[p]?.getD undef = .pointer (some ⟨n,0,none⟩):=by simpa using hp
 simp [results,hfn,hp',asAddr,run_loadVar_row X n 42 42 _ (0,0) _ h Try.underlying42 rfl (by kernel_rfl)]
end
section
variable {B : Nat} {W : World} {s n : Nat} {F : TF} {L : List ByteArray} {bl : List Nat} {m lv bv : Value}
theorem Scp.stay (h : Scp B W s n F L bl m lv bv) {X : World} (k : Below W.heap.size W X) : Scp B X s n F L bl m lv bv:=by
 obtain ⟨h1,h2,h3,h4,h5,h6⟩:=h
 refine ⟨(k.block s (Array.getElem?_eq_some_iff.1 h1).1).trans h1,h2,?_,own_below h4 k,own_below h5 k,fun t x hx => ?_⟩
 · rcases h3 with h3 | ⟨b,e,hb,hk⟩
   · exact .inl h3
   · exact .inr ⟨b,e,hb,hk.stay k⟩
 · have:=h6 t x hx
   cases x with
   | fn y v i => exact ⟨this.1,this.2.stay k⟩
   | _ => exact this
theorem thing_x (h : Hid (Scp B W s n F L bl m lv bv)) (t : ByteArray) (ht : t.size ≤ 140737488355328) {x : Option Th} (hx : F t.data.toList = x) : Hid (∀ X,Below W.heap.size W X → Calls Try.prog 32 #[.pointer (some ⟨s,0,none⟩),.string t] X fun e w' => e = .returned ((x.map Th.val).getD .nilIface) ∧ w' = X):=hid fun X hX => by
 have:=thing_any (hid (h.out.stay hX)) t ht
 unfold TF.kf at this
 rw [hx] at this
 exact this
theorem lock_any (h : Hid (Scp B W s n F L bl m lv bv)) (t : ByteArray) (ht : t.size ≤ 140737488355328) :
 Calls Try.prog 20 #[.pointer (some ⟨s,0,none⟩),.string t] W fun e w' => e = .returned (.int .i64 (lockN (F t.data.toList))) ∧ Below W.heap.size W w':=by
 obtain ⟨x,hx⟩ : ∃ x,F t.data.toList = x:=⟨_,rfl⟩
 have HT:=thing_x h t ht hx
 have a2:=ta_lk x W
 have H0:=hid (Below.refl W.heap.size W)
 rw [hx]
 clear hx h
 rcases x with _ | x
 · simp only [Option.map_none,Option.getD_none,zLk] at a2
   go_enter Try.func20,Try.ntmps20
   go_wp2_with (go_at_call 32;refine (HT.out _ H0.out).mono ?_;rintro e1 w1 ⟨rfl,rfl⟩;simp only [Option.map_none,Option.getD_none])
   go_ret
   exact ⟨rfl,(Below.refl _ _).alloc (Nat.le_refl _) _⟩
 · cases x with
   | gl y i =>
    simp only [Option.map_some,Option.getD_some,Th.val,zLk] at a2
    go_enter Try.func20,Try.ntmps20
    go_wp2_with (go_at_call 32;refine (HT.out _ H0.out).mono ?_;rintro e1 w1 ⟨rfl,rfl⟩;simp only [Option.map_some,Option.getD_some,Th.val])
    go_ret
    exact ⟨rfl,(Below.refl _ _).alloc (Nat.le_refl _) _⟩
   | lk i =>
    simp only [Option.map_some,Option.getD_some,Th.val,zLk] at a2
    go_enter Try.func20,Try.ntmps20
    go_wp2_with (go_at_call 32;refine (HT.out _ H0.out).mono ?_;rintro e1 w1 ⟨rfl,rfl⟩;simp only [Option.map_some,Option.getD_some,Th.val])
    go_ret
    exact ⟨rfl,(Below.refl _ _).alloc (Nat.le_refl _) _⟩
   | fn y v i =>
    simp only [Option.map_some,Option.getD_some,Th.val,zLk] at a2
    go_enter Try.func20,Try.ntmps20
    go_wp2_with (go_at_call 32;refine (HT.out _ H0.out).mono ?_;rintro e1 w1 ⟨rfl,rfl⟩;simp only [Option.map_some,Option.getD_some,Th.val])
    go_ret
    exact ⟨rfl,(Below.refl _ _).alloc (Nat.le_refl _) _⟩
   | lo tr sc =>
    simp only [Option.map_some,Option.getD_some,Th.val,zLk] at a2
    go_enter Try.func20,Try.ntmps20
    go_wp2_with (go_at_call 32;refine (HT.out _ H0.out).mono ?_;rintro e1 w1 ⟨rfl,rfl⟩;simp only [Option.map_some,Option.getD_some,Th.val])
    go_ret
    exact ⟨rfl,(Below.refl _ _).alloc (Nat.le_refl _) _⟩
theorem typ_any (h : Hid (Scp B W s n F L bl m lv bv)) (t : ByteArray) (ht : t.size ≤ 140737488355328) :
 Calls Try.prog 21 #[.pointer (some ⟨s,0,none⟩),.string t] W fun e w' => e = .returned (.agg #[.bool (typeN (F t.data.toList)).1,.bool (typeN (F t.data.toList)).2]) ∧ Below W.heap.size W w':=by
 obtain ⟨x,hx⟩ : ∃ x,F t.data.toList = x:=⟨_,rfl⟩
 have HT:=thing_x h t ht hx
 have hA:=below_of_alloc W (.cells #[.bool false,.bool false] 42)
 have hY:=ZBlk.new (X:=W) (n:=W.heap.size) (tr:=false) (sc:=false) rfl
 obtain ⟨W1,hW1⟩ : ∃ X,W.alloc (.cells #[.bool false,.bool false] 42) = X:=⟨_,rfl⟩
 rw [hW1] at hA hY
 have a1:=ta_gl x W1
 have a4:=ta_lo x W1
 have HA:=hid hA
 have HY:=hid hY
 rw [hx]
 clear hx h hA hY
 rcases x with _ | x
 · simp only [Option.map_none,Option.getD_none,zGl,zLo] at a1 a4
   go_enter Try.func21,Try.ntmps21
   go_upto_region 1 with (fail)
   obtain ⟨yl,⟨y0,y1⟩,yf0,yf1⟩:=HY.out.facts
   clear hW1
   go_wp2_with (go_at_call 32;refine (HT.out _ HA.out).mono ?_;rintro e1 w1 ⟨rfl,rfl⟩;simp only [Option.map_none,Option.getD_none])
   refine bodyPost_ret (results_zt rfl _ rfl HY.out.all) rfl ⟨rfl,?_⟩
   exact (HA.out.setCell (by simp) _).setCell (by simp) _
 · cases x with
   | gl y i =>
    simp only [Option.map_some,Option.getD_some,Th.val,zGl,zLo] at a1 a4
    go_enter Try.func21,Try.ntmps21
    go_upto_region 1 with (fail)
    obtain ⟨yl,⟨y0,y1⟩,yf0,yf1⟩:=HY.out.facts
    clear hW1
    go_wp2_with (go_at_call 32;refine (HT.out _ HA.out).mono ?_;rintro e1 w1 ⟨rfl,rfl⟩;simp only [Option.map_some,Option.getD_some,Th.val])
    refine bodyPost_ret (results_zt rfl _ rfl (HY.out.all.alloc _)) rfl ⟨rfl,?_⟩
    exact ((HA.out.setCell (by simp) _).setCell (by simp) _).alloc (by simp;have:=HA.out.size;omega) _
   | lk i =>
    simp only [Option.map_some,Option.getD_some,Th.val,zGl,zLo] at a1 a4
    go_enter Try.func21,Try.ntmps21
    go_upto_region 1 with (fail)
    obtain ⟨yl,⟨y0,y1⟩,yf0,yf1⟩:=HY.out.facts
    clear hW1
    go_wp2_with (go_at_call 32;refine (HT.out _ HA.out).mono ?_;rintro e1 w1 ⟨rfl,rfl⟩;simp only [Option.map_some,Option.getD_some,Th.val])
    refine bodyPost_ret (results_zt rfl _ rfl HY.out.all) rfl ⟨rfl,?_⟩
    exact (HA.out.setCell (by simp) _).setCell (by simp) _
   | fn y v i =>
    simp only [Option.map_some,Option.getD_some,Th.val,zGl,zLo] at a1 a4
    go_enter Try.func21,Try.ntmps21
    go_upto_region 1 with (fail)
    obtain ⟨yl,⟨y0,y1⟩,yf0,yf1⟩:=HY.out.facts
    clear hW1
    go_wp2_with (go_at_call 32;refine (HT.out _ HA.out).mono ?_;rintro e1 w1 ⟨rfl,rfl⟩;simp only [Option.map_some,Option.getD_some,Th.val])
    refine bodyPost_ret (results_zt rfl _ rfl HY.out.all) rfl ⟨rfl,?_⟩
    exact (HA.out.setCell (by simp) _).setCell (by simp) _
   | lo tr sc =>
    simp only [Option.map_some,Option.getD_some,Th.val,zGl,zLo] at a1 a4
    go_enter Try.func21,Try.ntmps21
    go_upto_region 1 with (fail)
    obtain ⟨yl,⟨y0,y1⟩,yf0,yf1⟩:=HY.out.facts
    clear hW1
    go_wp2_with (go_at_call 32;refine (HT.out _ HA.out).mono ?_;rintro e1 w1 ⟨rfl,rfl⟩;simp only [Option.map_some,Option.getD_some,Th.val])
    refine bodyPost_ret (results_zt rfl _ rfl (HY.out.all.alloc _)) rfl ⟨rfl,?_⟩
    exact ((HA.out.setCell (by simp) _).setCell (by simp) _).alloc (by simp;have:=HA.out.size;omega) _
end
end Go.Proofs.Ytbmmjomcjlpnlaa
namespace Go.Proofs.Ytbmmjomcjlpnlaa
open Go Go.RowKit
theorem results_gn {X : World} {n : Nat} {a ln : Int} {nm yy : ByteArray} {tr sc : Bool} {u : Value} {fn : Func} {p q : Tmp} (hfn : fn.results = #[.cell p 56,.tmp q]) (tmps : Array Value) (hp : tmps.getD p undef = .pointer (some ⟨n,0,none⟩)) (hq : tmps.getD q undef = u) (h : GBlk X n a nm tr sc ln yy) :
 (results fn tmps).run Try.prog X = .ok (.tuple #[.agg #[.int .i64 a,.string nm,.bool tr,.bool sc,.int .i64 ln,.string yy],u]) X:=by
 have hp' : tmps[p]?.getD undef = .pointer (some ⟨n,0,none⟩):=by simpa using hp
 have hq' : tmps[q]?.getD undef = u:=by simpa using hq
 simp [results,hfn,hp',hq',asAddr,run_loadVar_row X n 56 56 _ (0,0) _ h Try.underlying56 rfl (by kernel_rfl)]
def gl00 : Gl:=⟨0,[],false,false,0,[]⟩
def globN : Option Th → Gl × Int
 | some (.gl y i) => (y,i)
 | _ => (gl00,-1)
section
variable {B : Nat} {W : World} {s n : Nat} {F : TF} {L : List ByteArray} {bl : List Nat} {m lv bv : Value}
theorem glob_any (h : Hid (Scp B W s n F L bl m lv bv)) (t : ByteArray) (ht : t.size ≤ 140737488355328) :
 Calls Try.prog 17 #[.pointer (some ⟨s,0,none⟩),.string t] W fun e w' => e = .returned (.tuple #[glVal (globN (F t.data.toList)).1,.int .i64 (globN (F t.data.toList)).2]) ∧ Below W.heap.size W w':=by
 obtain ⟨x,hx⟩ : ∃ x,F t.data.toList = x:=⟨_,rfl⟩
 have HT:=thing_x h t ht hx
 have HO:=hid (fun x' hx' => h.out.th t.data.toList x' hx')
 have hA:=below_of_alloc W (.cells #[.int .i64 0,.string ⟨#[]⟩,.bool false,.bool false,.int .i64 0,.string ⟨#[]⟩] 56)
 have hY:=GBlk.new (X:=W) (n:=W.heap.size) (a:=0) (nm:=⟨#[]⟩) (tr:=false) (sc:=false) (ln:=0) (yy:=⟨#[]⟩) rfl
 obtain ⟨W1,hW1⟩ : ∃ X,W.alloc (.cells #[.int .i64 0,.string ⟨#[]⟩,.bool false,.bool false,.int .i64 0,.string ⟨#[]⟩] 56) = X:=⟨_,rfl⟩
 rw [hW1] at hA hY
 have a1:=ta_gl x W1
 have HA:=hid hA
 have HY:=hid hY
 rw [hx] at HO ⊢
 clear hx h hA hY
 rcases x with _ | x
 · simp only [Option.map_none,Option.getD_none,zGl] at a1
   clear HO
   go_enter Try.func17,Try.ntmps17
   go_upto_region 1 with (fail)
   obtain ⟨yl,⟨y0,y1,y2,y3,y4,y5⟩,yf0,yf1,yf2,yf3,yf4,yf5⟩:=HY.out.facts
   clear hW1
   go_wp2_with (go_at_call 32;refine (HT.out _ HA.out).mono ?_;rintro e1 w1 ⟨rfl,rfl⟩;simp only [Option.map_none,Option.getD_none])
   refine bodyPost_ret (results_gn rfl _ rfl rfl (HY.out.all.alloc _)) rfl ⟨rfl,?_⟩
   exact ((((((HA.out.setCell (by simp) _).setCell (by simp) _).setCell (by simp) _).setCell (by simp) _).setCell (by simp) _).setCell (by simp) _).alloc (by simp;have:=HA.out.size;omega) _
 · cases x with
   | gl y i =>
    simp only [Option.map_some,Option.getD_some,Th.val,zGl] at a1
    have hok:=HO.out _ rfl
    go_enter Try.func17,Try.ntmps17
    go_upto_region 1 with (fail)
    obtain ⟨yl,⟨y0,y1,y2,y3,y4,y5⟩,yf0,yf1,yf2,yf3,yf4,yf5⟩:=HY.out.facts
    clear hW1
    go_upto_region 4 with (go_at_call 32;refine (HT.out _ HA.out).mono ?_;rintro e1 w1 ⟨rfl,rfl⟩;simp only [Option.map_some,Option.getD_some,Th.val])
    refine name_world ?_
    intro W2 hW2
    have hB2 : Below W.heap.size W W2:=by (rw [hW2];exact HA.out.alloc HA.out.size _)
    have hY2 : GBlk W2 W.heap.size 0 ⟨#[]⟩ false false 0 ⟨#[]⟩:=by (rw [hW2];exact HY.out.alloc _)
    have hg : W2.heap[w1.heap.size]? = some (.cells #[.int .i64 y.a,.string (bstr y.nm),.bool y.tr,.bool y.sc,.int .i64 y.len,.string (bstr y.by_),.int .i64 i] 93 (0,0)):=by (rw [hW2];exact heap_alloc_new _ _)
    have hgw : W.heap.size < w1.heap.size:=yl
    clear hW2 y0 y1 y2 y3 y4 y5 yf0 yf1 yf2 yf3 yf4 yf5 yl
    have HB2:=hid hB2
    have HY2:=hid hY2
    have HG:=hid hg
    have hok1:=hok.1
    have hok2:=hok.2
    have hgl : w1.heap.size < W2.heap.size:=(Array.getElem?_eq_some_iff.1 hg).1
    have g0 : W2.cell? ⟨w1.heap.size,0,none⟩ = some (.int .i64 y.a):=cell_of_row _ _ _ _ _ _ hg
    have g1 : W2.cell? ⟨w1.heap.size,1,none⟩ = some (.string (bstr y.nm)):=cell_of_row _ _ _ _ _ _ hg
    have g2 : W2.cell? ⟨w1.heap.size,2,none⟩ = some (.bool y.tr):=cell_of_row _ _ _ _ _ _ hg
    have g3 : W2.cell? ⟨w1.heap.size,3,none⟩ = some (.bool y.sc):=cell_of_row _ _ _ _ _ _ hg
    have g4 : W2.cell? ⟨w1.heap.size,4,none⟩ = some (.int .i64 y.len):=cell_of_row _ _ _ _ _ _ hg
    have g5 : W2.cell? ⟨w1.heap.size,5,none⟩ = some (.string (bstr y.by_)):=cell_of_row _ _ _ _ _ _ hg
    have g6 : W2.cell? ⟨w1.heap.size,6,none⟩ = some (.int .i64 i):=cell_of_row _ _ _ _ _ _ hg
    obtain ⟨zl,⟨z0,z1,z2,z3,z4,z5⟩,zf0,zf1,zf2,zf3,zf4,zf5⟩:=hY2.facts
    clear hB2 hY2 hg hok
    go_region_law (first | (go_simp;go_at_call 28;(with_reducible refine (cglobal_any y _ hok1 hok2).mono ?_);rintro e2 w3 ⟨rfl,hb3⟩;replace hb3:=below_ch ((Below.refl W2.heap.size W2).drew) hb3;have HB3:=hid hb3;obtain ⟨zl3,⟨z03,z13,z23,z33,z43,z53⟩,zf03,zf13,zf23,zf33,zf43,zf53⟩:=(HY2.out.stay hb3).facts;have g63 : w3.cell? ⟨w1.heap.size,6,none⟩ = some (.int .i64 i):=(hb3.cell (p:=⟨w1.heap.size,6,none⟩) hgl).trans (cell_of_row _ _ _ _ _ _ HG.out)))
    all_goals go_wp2
    all_goals refine bodyPost_ret (results_gn rfl _ rfl rfl (HY2.out.stay HB3.out).all) rfl ⟨rfl,?_⟩
    all_goals exact (((((((below_ch HB2.out HB3.out).setCell (by simp) _).setCell (by simp) _).setCell (by simp) _).setCell (by simp) _).setCell (by simp) _).setCell (by simp) _)
   | lk i =>
    simp only [Option.map_some,Option.getD_some,Th.val,zGl] at a1
    clear HO
    go_enter Try.func17,Try.ntmps17
    go_upto_region 1 with (fail)
    obtain ⟨yl,⟨y0,y1,y2,y3,y4,y5⟩,yf0,yf1,yf2,yf3,yf4,yf5⟩:=HY.out.facts
    clear hW1
    go_wp2_with (go_at_call 32;refine (HT.out _ HA.out).mono ?_;rintro e1 w1 ⟨rfl,rfl⟩;simp only [Option.map_some,Option.getD_some,Th.val])
    refine bodyPost_ret (results_gn rfl _ rfl rfl (HY.out.all.alloc _)) rfl ⟨rfl,?_⟩
    exact ((((((HA.out.setCell (by simp) _).setCell (by simp) _).setCell (by simp) _).setCell (by simp) _).setCell (by simp) _).setCell (by simp) _).alloc (by simp;have:=HA.out.size;omega) _
   | fn y v i =>
    simp only [Option.map_some,Option.getD_some,Th.val,zGl] at a1
    clear HO
    go_enter Try.func17,Try.ntmps17
    go_upto_region 1 with (fail)
    obtain ⟨yl,⟨y0,y1,y2,y3,y4,y5⟩,yf0,yf1,yf2,yf3,yf4,yf5⟩:=HY.out.facts
    clear hW1
    go_wp2_with (go_at_call 32;refine (HT.out _ HA.out).mono ?_;rintro e1 w1 ⟨rfl,rfl⟩;simp only [Option.map_some,Option.getD_some,Th.val])
    refine bodyPost_ret (results_gn rfl _ rfl rfl (HY.out.all.alloc _)) rfl ⟨rfl,?_⟩
    exact ((((((HA.out.setCell (by simp) _).setCell (by simp) _).setCell (by simp) _).setCell (by simp) _).setCell (by simp) _).setCell (by simp) _).alloc (by simp;have:=HA.out.size;omega) _
   | lo tr sc =>
    simp only [Option.map_some,Option.getD_some,Th.val,zGl] at a1
    clear HO
    go_enter Try.func17,Try.ntmps17
    go_upto_region 1 with (fail)
    obtain ⟨yl,⟨y0,y1,y2,y3,y4,y5⟩,yf0,yf1,yf2,yf3,yf4,yf5⟩:=HY.out.facts
    clear hW1
    go_wp2_with (go_at_call 32;refine (HT.out _ HA.out).mono ?_;rintro e1 w1 ⟨rfl,rfl⟩;simp only [Option.map_some,Option.getD_some,Th.val])
    refine bodyPost_ret (results_gn rfl _ rfl rfl (HY.out.all.alloc _)) rfl ⟨rfl,?_⟩
    exact ((((((HA.out.setCell (by simp) _).setCell (by simp) _).setCell (by simp) _).setCell (by simp) _).setCell (by simp) _).setCell (by simp) _).alloc (by simp;have:=HA.out.size;omega) _
end
end Go.Proofs.Ytbmmjomcjlpnlaa
namespace Go.Proofs.Ytbmmjomcjlpnlaa
open Go Go.RowKit
theorem results_fnn {X : World} {b : Nat} {a : Int} {nm : ByteArray} {pv : Value} {tr : Bool} {sc : Bool} {bv : Value} {k : Int} {q : Int} {n : Int} {s : ByteArray} {kv : Value} {xa : Int} {u : Value} {fn : Func} {p r : Tmp} (hfn : fn.results = #[.cell p 65,.tmp r]) (tmps : Array Value) (hp : tmps.getD p undef = .pointer (some ⟨b,0,none⟩)) (hr : tmps.getD r undef = u) (h : FBlk X b a nm pv tr sc bv k q n s kv xa) :
 (results fn tmps).run Try.prog X = .ok (.tuple #[.agg #[.int .i64 a,.string nm,pv,.bool tr,.bool sc,bv,.int .i64 k,.int .i64 q,.int .i64 n,.string s,kv,.int .i64 xa],u]) X:=by
 have hp' : tmps[p]?.getD undef = .pointer (some ⟨b,0,none⟩):=by simpa using hp
 have hr' : tmps[r]?.getD undef = u:=by simpa using hr
 simp [results,hfn,hp',hr',asAddr,run_loadVar_row X b 65 65 _ (0,0) _ h Try.underlying65 rfl (by kernel_rfl)]
def fn00 : Fn:=⟨0,[],[],false,false,[],ex00⟩
def funcN : Option Th → Fn × Int
 | some (.fn y _ i) => (y,i)
 | _ => (fn00,-1)
section
variable {B : Nat} {W : World} {s n : Nat} {F : TF} {L : List ByteArray} {bl : List Nat} {m lv bv : Value}
theorem func_any (h : Hid (Scp B W s n F L bl m lv bv)) (t : ByteArray) (ht : t.size ≤ 140737488355328) :
 Calls Try.prog 18 #[.pointer (some ⟨s,0,none⟩),.string t] W fun e w' => (∃ z0 k0 z1 k1 z2 k2,e = .returned (.tuple #[fnVal (funcN (F t.data.toList)).1 ⟨.slice z0 (funcN (F t.data.toList)).1.ps.length k0,.slice z1 (funcN (F t.data.toList)).1.bd.length k1,.slice z2 (funcN (F t.data.toList)).1.ret.ks.length k2⟩,.int .i64 (funcN (F t.data.toList)).2])) ∧ Below W.heap.size W w':=by
 obtain ⟨x,hx⟩ : ∃ x,F t.data.toList = x:=⟨_,rfl⟩
 have HT:=thing_x h t ht hx
 have HO:=hid (fun x' hx' => h.out.th t.data.toList x' hx')
 have hA:=below_of_alloc W (.cells #[.int .i64 0,.string ⟨#[]⟩,.slice none 0 0,.bool false,.bool false,.slice none 0 0,.int .i64 0,.int .i64 0,.int .i64 0,.string ⟨#[]⟩,.slice none 0 0,.int .i64 0] 65)
 have hY:=FBlk.new (X:=W) (b:=W.heap.size) (a:=0) (nm:=⟨#[]⟩) (pv:=.slice none 0 0) (tr:=false) (sc:=false) (bv:=.slice none 0 0) (k:=0) (q:=0) (n:=0) (s:=⟨#[]⟩) (kv:=.slice none 0 0) (xa:=0) rfl
 obtain ⟨W1,hW1⟩ : ∃ X,W.alloc (.cells #[.int .i64 0,.string ⟨#[]⟩,.slice none 0 0,.bool false,.bool false,.slice none 0 0,.int .i64 0,.int .i64 0,.int .i64 0,.string ⟨#[]⟩,.slice none 0 0,.int .i64 0] 65) = X:=⟨_,rfl⟩
 rw [hW1] at hA hY
 have a1:=ta_fn x W1
 have HA:=hid hA
 have HY:=hid hY
 rw [hx] at HO ⊢
 clear hx h hA hY
 rcases x with _ | x
 · simp only [Option.map_none,Option.getD_none,zFn] at a1
   clear HO
   go_enter Try.func18,Try.ntmps18
   go_upto_region 1 with (fail)
   obtain ⟨yl,⟨y0,y1,y2,y3,y4,y5,y6,y7,y8,y9,y10,y11⟩,⟨yf0,yf1,yf2,yf3,yf4,yf5,yf6,yf7,yf8,yf9,yf10,yf11⟩⟩:=HY.out.facts
   clear hW1
   go_wp2_with (go_at_call 32;refine (HT.out _ HA.out).mono ?_;rintro e1 w1 ⟨rfl,rfl⟩;simp only [Option.map_none,Option.getD_none])
   refine bodyPost_ret (results_fnn rfl _ rfl rfl (HY.out.all.alloc _)) rfl ⟨⟨none,0,none,0,none,0,rfl⟩,?_⟩
   exact ((((((((((((HA.out.setCell (by simp) _).setCell (by simp) _).setCell (by simp) _).setCell (by simp) _).setCell (by simp) _).setCell (by simp) _).setCell (by simp) _).setCell (by simp) _).setCell (by simp) _).setCell (by simp) _).setCell (by simp) _).setCell (by simp) _).alloc (by simp;have:=HA.out.size;omega) _
 · cases x with
   | gl y i =>
    simp only [Option.map_some,Option.getD_some,Th.val,zFn] at a1
    clear HO
    go_enter Try.func18,Try.ntmps18
    go_upto_region 1 with (fail)
    obtain ⟨yl,⟨y0,y1,y2,y3,y4,y5,y6,y7,y8,y9,y10,y11⟩,⟨yf0,yf1,yf2,yf3,yf4,yf5,yf6,yf7,yf8,yf9,yf10,yf11⟩⟩:=HY.out.facts
    clear hW1
    go_wp2_with (go_at_call 32;refine (HT.out _ HA.out).mono ?_;rintro e1 w1 ⟨rfl,rfl⟩;simp only [Option.map_some,Option.getD_some,Th.val])
    refine bodyPost_ret (results_fnn rfl _ rfl rfl (HY.out.all.alloc _)) rfl ⟨⟨none,0,none,0,none,0,rfl⟩,?_⟩
    exact ((((((((((((HA.out.setCell (by simp) _).setCell (by simp) _).setCell (by simp) _).setCell (by simp) _).setCell (by simp) _).setCell (by simp) _).setCell (by simp) _).setCell (by simp) _).setCell (by simp) _).setCell (by simp) _).setCell (by simp) _).setCell (by simp) _).alloc (by simp;have:=HA.out.size;omega) _
   | lk i =>
    simp only [Option.map_some,Option.getD_some,Th.val,zFn] at a1
    clear HO
    go_enter Try.func18,Try.ntmps18
    go_upto_region 1 with (fail)
    obtain ⟨yl,⟨y0,y1,y2,y3,y4,y5,y6,y7,y8,y9,y10,y11⟩,⟨yf0,yf1,yf2,yf3,yf4,yf5,yf6,yf7,yf8,yf9,yf10,yf11⟩⟩:=HY.out.facts
    clear hW1
    go_wp2_with (go_at_call 32;refine (HT.out _ HA.out).mono ?_;rintro e1 w1 ⟨rfl,rfl⟩;simp only [Option.map_some,Option.getD_some,Th.val])
    refine bodyPost_ret (results_fnn rfl _ rfl rfl (HY.out.all.alloc _)) rfl ⟨⟨none,0,none,0,none,0,rfl⟩,?_⟩
    exact ((((((((((((HA.out.setCell (by simp) _).setCell (by simp) _).setCell (by simp) _).setCell (by simp) _).setCell (by simp) _).setCell (by simp) _).setCell (by simp) _).setCell (by simp) _).setCell (by simp) _).setCell (by simp) _).setCell (by simp) _).setCell (by simp) _).alloc (by simp;have:=HA.out.size;omega) _
   | fn y v i =>
    have hok:=HO.out _ rfl
    obtain ⟨hsh,hif⟩:=hok
    obtain ⟨⟨p0,c0,e0⟩,_⟩:=hif.1
    obtain ⟨p1,c1,e1⟩:=hif.2.1.form
    obtain ⟨p2,c2,e2⟩:=hif.2.2.form
    obtain ⟨vp,vb,vk⟩:=v
    simp only at e0 e1 e2
    subst e0 e1 e2
    have HIF : Hid (IsFn1 (fun g => 0 ≤ g) W y ⟨.slice p0 y.ps.length c0,.slice p1 y.bd.length c1,.slice p2 y.ret.ks.length c2⟩):=hid ⟨hif.1.kept fun g _ _ => ⟨rfl,Nat.zero_le g⟩,hif.2.1.kept fun g _ _ => ⟨rfl,Nat.zero_le g⟩,hif.2.2.kept fun g _ _ => ⟨rfl,Nat.zero_le g⟩⟩
    clear hif HO
    obtain ⟨n0,hn0⟩ : ∃ q,y.ps.length = q:=⟨_,rfl⟩
    obtain ⟨n1,hn1⟩ : ∃ q,y.bd.length = q:=⟨_,rfl⟩
    obtain ⟨n2,hn2⟩ : ∃ q,y.ret.ks.length = q:=⟨_,rfl⟩
    have HC : Hid (∀ X,Below W.heap.size W X → Calls Try.prog 29 #[.agg #[.int .i64 y.a,.string (bstr y.nm),.slice p0 n0 c0,.bool y.tr,.bool y.sc,.slice p1 n1 c1,.int .i64 y.ret.k,.int .i64 y.ret.op,.int .i64 y.ret.n,.string (bstr y.ret.nm),.slice p2 n2 c2,.int .i64 y.ret.a]] X fun r w' => Below X.heap.size X w' ∧ ∃ z0 k0 z1 k1 z2 k2,r = .returned (fnVal y ⟨.slice z0 n0 k0,.slice z1 n1 k1,.slice z2 n2 k2⟩)):=hid fun X hX => by
     have h:=cfunc_any y X _ (hid (HIF.out.stay hX)) hsh
     unfold CpF at h
     rw [hn0,hn1,hn2] at h
     exact h.mono fun r w' ⟨hb,z0,k0,z1,k1,z2,k2,e,_⟩ => ⟨hb,z0,k0,z1,k1,z2,k2,e⟩
    show Calls _ _ _ _ fun e w' => (∃ z0 k0 z1 k1 z2 k2,e = .returned (.tuple #[fnVal y ⟨.slice z0 y.ps.length k0,.slice z1 y.bd.length k1,.slice z2 y.ret.ks.length k2⟩,.int .i64 i])) ∧ Below W.heap.size W w'
    simp only [Option.map_some,Option.getD_some,Th.val,zFn,hn0,hn1,hn2] at a1
    rw [hn0,hn1,hn2]
    simp only [Option.map_some,Option.getD_some,Th.val,hn0,hn1,hn2] at HT
    clear HIF hn0 hn1 hn2 hsh
    go_enter Try.func18,Try.ntmps18
    go_upto_region 1 with (fail)
    obtain ⟨yl,⟨y0,y1,y2,y3,y4,y5,y6,y7,y8,y9,y10,y11⟩,⟨yf0,yf1,yf2,yf3,yf4,yf5,yf6,yf7,yf8,yf9,yf10,yf11⟩⟩:=HY.out.facts
    clear hW1
    go_upto_region 4 with (go_at_call 32;refine (HT.out _ HA.out).mono ?_;rintro e1 w1 ⟨rfl,rfl⟩)
    refine name_world ?_
    intro W2 hW2
    have hB2 : Below W.heap.size W W2:=by (rw [hW2];exact HA.out.alloc HA.out.size _)
    have hY2 : FBlk W2 W.heap.size 0 ⟨#[]⟩ (.slice none 0 0) false false (.slice none 0 0) 0 0 0 ⟨#[]⟩ (.slice none 0 0) 0:=by (rw [hW2];exact HY.out.alloc _)
    have hg : W2.heap[w1.heap.size]? = some (.cells #[.int .i64 y.a,.string (bstr y.nm),.slice p0 n0 c0,.bool y.tr,.bool y.sc,.slice p1 n1 c1,.int .i64 y.ret.k,.int .i64 y.ret.op,.int .i64 y.ret.n,.string (bstr y.ret.nm),.slice p2 n2 c2,.int .i64 y.ret.a,.int .i64 i] 100 (0,0)):=by (rw [hW2];exact heap_alloc_new _ _)
    have hgw : W.heap.size < w1.heap.size:=yl
    clear hW2 yl y0 y1 y2 y3 y4 y5 y6 y7 y8 y9 y10 y11 yf0 yf1 yf2 yf3 yf4 yf5 yf6 yf7 yf8 yf9 yf10 yf11
    have HB2:=hid hB2
    have HY2:=hid hY2
    have HG:=hid hg
    have hgl : w1.heap.size < W2.heap.size:=(Array.getElem?_eq_some_iff.1 hg).1
    have g0 : W2.cell? ⟨w1.heap.size,0,none⟩ = some (.int .i64 y.a):=cell_of_row _ _ _ _ _ _ hg
    have g1 : W2.cell? ⟨w1.heap.size,1,none⟩ = some (.string (bstr y.nm)):=cell_of_row _ _ _ _ _ _ hg
    have g2 : W2.cell? ⟨w1.heap.size,2,none⟩ = some (.slice p0 n0 c0):=cell_of_row _ _ _ _ _ _ hg
    have g3 : W2.cell? ⟨w1.heap.size,3,none⟩ = some (.bool y.tr):=cell_of_row _ _ _ _ _ _ hg
    have g4 : W2.cell? ⟨w1.heap.size,4,none⟩ = some (.bool y.sc):=cell_of_row _ _ _ _ _ _ hg
    have g5 : W2.cell? ⟨w1.heap.size,5,none⟩ = some (.slice p1 n1 c1):=cell_of_row _ _ _ _ _ _ hg
    have g6 : W2.cell? ⟨w1.heap.size,6,none⟩ = some (.int .i64 y.ret.k):=cell_of_row _ _ _ _ _ _ hg
    have g7 : W2.cell? ⟨w1.heap.size,7,none⟩ = some (.int .i64 y.ret.op):=cell_of_row _ _ _ _ _ _ hg
    have g8 : W2.cell? ⟨w1.heap.size,8,none⟩ = some (.int .i64 y.ret.n):=cell_of_row _ _ _ _ _ _ hg
    have g9 : W2.cell? ⟨w1.heap.size,9,none⟩ = some (.string (bstr y.ret.nm)):=cell_of_row _ _ _ _ _ _ hg
    have g10 : W2.cell? ⟨w1.heap.size,10,none⟩ = some (.slice p2 n2 c2):=cell_of_row _ _ _ _ _ _ hg
    have g11 : W2.cell? ⟨w1.heap.size,11,none⟩ = some (.int .i64 y.ret.a):=cell_of_row _ _ _ _ _ _ hg
    have g12 : W2.cell? ⟨w1.heap.size,12,none⟩ = some (.int .i64 i):=cell_of_row _ _ _ _ _ _ hg
    obtain ⟨zl,⟨z0,z1,z2,z3,z4,z5,z6,z7,z8,z9,z10,z11⟩,⟨zf0,zf1,zf2,zf3,zf4,zf5,zf6,zf7,zf8,zf9,zf10,zf11⟩⟩:=hY2.facts
    clear hB2 hY2 hg
    go_region_law (first | (go_simp;go_at_call 29;(with_reducible refine (HC.out _ (HB2.out.drew)).mono ?_);rintro e2 w3 ⟨hb3,q0,k0,q1,k1,q2,k2,rfl⟩;replace hb3:=below_ch ((Below.refl W2.heap.size W2).drew) hb3;have HB3:=hid hb3;obtain ⟨zl3,⟨z03,z13,z23,z33,z43,z53,z63,z73,z83,z93,z103,z113⟩,⟨zf03,zf13,zf23,zf33,zf43,zf53,zf63,zf73,zf83,zf93,zf103,zf113⟩⟩:=(HY2.out.stay hb3).facts;have g63 : w3.cell? ⟨w1.heap.size,12,none⟩ = some (.int .i64 i):=(hb3.cell (p:=⟨w1.heap.size,12,none⟩) hgl).trans (cell_of_row _ _ _ _ _ _ HG.out)))
    all_goals go_wp2
    all_goals refine bodyPost_ret (results_fnn rfl _ rfl rfl (HY2.out.stay HB3.out).all) rfl ⟨⟨_,_,_,_,_,_,rfl⟩,?_⟩
    all_goals exact (((((((((((((below_ch HB2.out HB3.out).setCell (by simp) _).setCell (by simp) _).setCell (by simp) _).setCell (by simp) _).setCell (by simp) _).setCell (by simp) _).setCell (by simp) _).setCell (by simp) _).setCell (by simp) _).setCell (by simp) _).setCell (by simp) _).setCell (by simp) _)
   | lo tr sc =>
    simp only [Option.map_some,Option.getD_some,Th.val,zFn] at a1
    clear HO
    go_enter Try.func18,Try.ntmps18
    go_upto_region 1 with (fail)
    obtain ⟨yl,⟨y0,y1,y2,y3,y4,y5,y6,y7,y8,y9,y10,y11⟩,⟨yf0,yf1,yf2,yf3,yf4,yf5,yf6,yf7,yf8,yf9,yf10,yf11⟩⟩:=HY.out.facts
    clear hW1
    go_wp2_with (go_at_call 32;refine (HT.out _ HA.out).mono ?_;rintro e1 w1 ⟨rfl,rfl⟩;simp only [Option.map_some,Option.getD_some,Th.val])
    refine bodyPost_ret (results_fnn rfl _ rfl rfl (HY.out.all.alloc _)) rfl ⟨⟨none,0,none,0,none,0,rfl⟩,?_⟩
    exact ((((((((((((HA.out.setCell (by simp) _).setCell (by simp) _).setCell (by simp) _).setCell (by simp) _).setCell (by simp) _).setCell (by simp) _).setCell (by simp) _).setCell (by simp) _).setCell (by simp) _).setCell (by simp) _).setCell (by simp) _).setCell (by simp) _).alloc (by simp;have:=HA.out.size;omega) _
end
end Go.Proofs.Ytbmmjomcjlpnlaa
namespace Go.Proofs.Ytbmmjomcjlpnlaa
open Go Go.RowKit
def TF.upd (F : TF) (s : List UInt8) (x : Th) : TF:=fun t => if t = s then some x else F t
def TF.del (F : TF) (s : List UInt8) : TF:=fun t => if t = s then none else F t
theorem TF.kf_upd (F : TF) (s : List UInt8) (x : Th) : (F.upd s x).kf = F.kf.upd s x.val:=by
 funext t
 unfold TF.kf TF.upd KF.upd
 by_cases e : t = s <;> simp [e]
theorem TF.kf_del (F : TF) (s : List UInt8) : (F.del s).kf = F.kf.del s:=by
 funext t
 unfold TF.kf TF.del KF.del
 by_cases e : t = s <;> simp [e]
def Fr2 (s b : Nat) (W X : World) : Prop:=(W.heap.size ≤ X.heap.size ∧ X.os = W.os ∧ X.tape = W.tape ∧ X.output = W.output) ∧ ∀ g,g < W.heap.size → g ≠ s → g ≠ b → X.heap[g]? = W.heap[g]?
section
variable {s b : Nat} {W X Y : World}
theorem Fr2.refl (s b : Nat) (W : World) : Fr2 s b W W:=⟨⟨Nat.le_refl _,rfl,rfl,rfl⟩,fun _ _ _ _ => rfl⟩
theorem Fr2.below (h : Fr2 s b W X) (k : Below X.heap.size X Y) : Fr2 s b W Y:=⟨⟨Nat.le_trans h.1.1 k.size,k.os.trans h.1.2.1,k.tape.trans h.1.2.2.1,k.output.trans h.1.2.2.2⟩,fun g hg h1 h2 => (k.block g (Nat.lt_of_lt_of_le hg h.1.1)).trans (h.2 g hg h1 h2)⟩
theorem Fr2.alloc (h : Fr2 s b W X) (o : Obj) : Fr2 s b W (X.alloc o):=h.below (below_of_alloc X o)
theorem Fr2.drew (h : Fr2 s b W X) : Fr2 s b W X.drew:=h
theorem Fr2.set (h : Fr2 s b W X) {c : Nat} (hc : c = s ∨ c = b ∨ W.heap.size ≤ c) (o : Nat) (v : Value) : Fr2 s b W (X.setCell ⟨c,o,none⟩ v):=by
 obtain ⟨e1,e2,e3⟩:=setCell_else X ⟨c,o,none⟩ v
 exact ⟨⟨by simpa using h.1.1,e1.trans h.1.2.1,e2.trans h.1.2.2.1,e3.trans h.1.2.2.2⟩,fun g hg h1 h2 => (heap_setCell_other X ⟨c,o,none⟩ g v (by rcases hc with rfl | rfl | hc <;> simp <;> omega)).trans (h.2 g hg h1 h2)⟩
theorem Fr2.grow (h : Fr2 s b W X) {c : Nat} (k : X.grownBy Y (some c)) (hc : c = s ∨ c = b ∨ W.heap.size ≤ c) : Fr2 s b W Y:=⟨⟨Nat.le_trans h.1.1 k.size,k.os.trans h.1.2.1,k.tape.trans h.1.2.2.1,k.output.trans h.1.2.2.2⟩,fun g hg h1 h2 => (k.block g (Nat.lt_of_lt_of_le hg h.1.1) (by simp;omega)).trans (h.2 g hg h1 h2)⟩
theorem Fr2.to {B : Nat} (h : Fr2 s b W X) (hs : B ≤ s) (hb : B ≤ b) (hB : B ≤ W.heap.size) : Below B W X:=⟨h.1.2.1,h.1.2.2.1,h.1.2.2.2,h.1.1,fun g hg => h.2 g (by omega) (by omega) (by omega)⟩
theorem own_fr2 {B T k n : Nat} {v : Value} {xs : List Value} (h : W.ownsRow B T k v n xs) (hf : Fr2 s b W X) {cs : Array Value} {T1 : TypeId} {fr : Nat × Nat} (hs : W.heap[s]? = some (.cells cs T1 fr)) (hT : T ≠ T1) (hb : ∀ g cs' fr',W.heap[g]? = some (.cells cs' T fr') → g ≠ b) : X.ownsRow B T k v n xs:=by
 refine ⟨h.1,?_⟩
 rcases h.2 with h0 | ⟨g,cap,cur,rfl,hB,hg,rest⟩
 · exact .inl h0
 · refine .inr ⟨g,cap,cur,rfl,hB,?_,rest⟩
   rw [hf.2 g (Array.getElem?_eq_some_iff.1 hg).1 (fun e => by
    subst e
    rw [hs] at hg
    simp only [Option.some.injEq,Obj.cells.injEq] at hg
    exact hT hg.2.1.symm) (hb g _ _ hg)]
   exact hg
theorem tree_fr2 {B : Nat} (hf : Fr2 s b W X) {cs : Array Value} {T1 : TypeId} {fr : Nat × Nat} (hs : W.heap[s]? = some (.cells cs T1 fr)) (hT : T1 ≠ 141 ∧ T1 ≠ 63 ∧ T1 ≠ 137) (hb : ∀ g cs' T' fr',W.heap[g]? = some (.cells cs' T' fr') → g ≠ b) : KeptT B W X:=by
 refine ⟨hf.1.1,fun g cs T fr hg hbk ht => hf.2 g (Array.getElem?_eq_some_iff.1 hbk).1 (fun e => ?_) (hb g _ _ _ hbk)⟩
 subst e
 rw [hs] at hbk
 simp only [Option.some.injEq,Obj.cells.injEq] at hbk
 obtain ⟨h1,h2,h3⟩:=hT
 rcases ht with e | e | e
 · exact h1 (hbk.2.1.trans e)
 · exact h2 (hbk.2.1.trans e)
 · exact h3 (hbk.2.1.trans e)
end
theorem KMap.nocells {W : World} {b n : Nat} {f : KF} (h : KMap W b n f) (g : Nat) (cs : Array Value) (T : TypeId) (fr : Nat × Nat) (hg : W.heap[g]? = some (.cells cs T fr)) : g ≠ b:=by
 obtain ⟨D,⟨es,clock,hb,_⟩,_⟩:=h
 intro e
 subst e
 rw [hb] at hg
 cases hg
theorem Th.ok_kept {B : Nat} {W X : World} {x : Th} (h : x.ok B W) (k : KeptT B W X) : x.ok B X:=by
 cases x with
 | fn y v i => exact ⟨h.1,h.2.keptT k⟩
 | _ => exact h
end Go.Proofs.Ytbmmjomcjlpnlaa
namespace Go.Proofs.Ytbmmjomcjlpnlaa
open Go Go.RowKit
def Oth (W X : World) : Prop:=W.heap.size ≤ X.heap.size ∧ ∀ (g : Nat) (cs : Array Value) (T : TypeId) (fr : Nat × Nat),W.heap[g]? = some (.cells cs T fr) → T ≠ 89 → T ≠ 9 → T ≠ 3 → X.heap[g]? = W.heap[g]?
theorem Oth.refl (W : World) : Oth W W:=⟨Nat.le_refl _,fun _ _ _ _ _ _ _ _ => rfl⟩
theorem Oth.trans {W X Y : World} (h : Oth W X) (k : Oth X Y) : Oth W Y:=⟨Nat.le_trans h.1 k.1,fun g cs T fr hg h1 h2 h3 => by
 have e:=h.2 g cs T fr hg h1 h2 h3
 exact (k.2 g cs T fr (e.trans hg) h1 h2 h3).trans e⟩
theorem Oth.of {W X : World} (h : Below W.heap.size W X) : Oth W X:=⟨h.size,fun g _ _ _ hg _ _ _ => h.block g (Array.getElem?_eq_some_iff.1 hg).1⟩
def Apt (g s : Nat) (m lv bv : Value) : Prop:=g ≠ s ∧ m ≠ .map (some g) ∧ lv.ownBlock ≠ some g ∧ bv.ownBlock ≠ some g
def Apx (W X : World) (s : Nat) (m lv bv m' lv' bv' : Value) : Prop:=∀ g,g < W.heap.size → Apt g s m lv bv → X.heap[g]? = W.heap[g]? ∧ Apt g s m' lv' bv'
theorem Apx.refl (W : World) (s : Nat) (m lv bv : Value) : Apx W W s m lv bv m lv bv:=fun _ _ ha => ⟨rfl,ha⟩
theorem Apx.trans {W X Y : World} {s : Nat} {m lv bv m1 lv1 bv1 m2 lv2 bv2 : Value} (h : Apx W X s m lv bv m1 lv1 bv1) (hs : W.heap.size ≤ X.heap.size) (k : Apx X Y s m1 lv1 bv1 m2 lv2 bv2) : Apx W Y s m lv bv m2 lv2 bv2:=fun g hg ha => by
 obtain ⟨h1,h2⟩:=h g hg ha
 obtain ⟨k1,k2⟩:=k g (Nat.lt_of_lt_of_le hg hs) h2
 exact ⟨k1.trans h1,k2⟩
theorem Apx.of {W X : World} (h : Below W.heap.size W X) (s : Nat) (m lv bv : Value) : Apx W X s m lv bv m lv bv:=fun g hg ha => ⟨h.block g hg,ha⟩
theorem Oth.fr2 {s b : Nat} {W X : World} (hf : Fr2 s b W X) {cs : Array Value} {fr : Nat × Nat} (hs : W.heap[s]? = some (.cells cs 89 fr)) (hnb : ∀ g cs' T' fr',W.heap[g]? = some (.cells cs' T' fr') → T' ≠ 9 → T' ≠ 3 → T' ≠ 89 → g ≠ b) : Oth W X:=⟨hf.1.1,fun g cs' T fr' hg h1 h2 h3 => hf.2 g (Array.getElem?_eq_some_iff.1 hg).1 (fun e => by
 subst e
 rw [hs] at hg
 simp only [Option.some.injEq,Obj.cells.injEq] at hg
 exact h1 hg.2.1.symm) (hnb g _ _ _ hg h2 h3 h1)⟩
section
variable {B : Nat} {W : World} {s n : Nat} {F : TF} {L : List ByteArray} {bl : List Nat} {m lv bv : Value}
theorem Scp.next (h : Scp B W s n F L bl m lv bv) {b : Nat} {X : World} (hb : B ≤ b) (hf : Fr2 s b W X) (hnb : ∀ g cs T fr,W.heap[g]? = some (.cells cs T fr) → g ≠ b) (hs : X.heap[s]? = some (.cells #[.map (some b),lv,bv] 89 (0,0))) {n' : Nat} {F' : TF} (hk : KMap X b n' F'.kf) (hth : ∀ t x,F' t = some x → F t = some x ∨ x.ok B W) : Scp B X s n' F' L bl (.map (some b)) lv bv:=by
 have hT:=tree_fr2 (B:=B) hf h.blk (by decide) hnb
 exact ⟨hs,h.hs,.inr ⟨b,rfl,hb,hk⟩,own_fr2 h.lo hf h.blk (by decide) (fun g cs fr => hnb g cs _ fr),own_fr2 h.bk hf h.blk (by decide) (fun g cs fr => hnb g cs _ fr),fun t x hx => by
  rcases hth t x hx with h1 | h1
  · exact Th.ok_kept (h.th t x h1) hT
  · exact Th.ok_kept h1 hT⟩
theorem know_any (h : Hid (Scp B W s n F L bl m lv bv)) (hn : n < 1000000) (t : ByteArray) (ht : t.size ≤ 140737488355328) (x : Th) (hx : x.ok B W) :
 Calls Try.prog 27 #[.pointer (some ⟨s,0,none⟩),.string t,x.val] W fun e w' => e = .returned (.tuple #[]) ∧ ∃ b,Scp B w' s (n + 1) (F.upd t.data.toList x) L bl (.map (some b)) lv bv ∧ Below B W w' ∧ B ≤ b ∧ Oth W w' ∧ Apx W w' s m lv bv (.map (some b)) lv bv:=by
 obtain ⟨xv,hxv⟩ : ∃ v,x.val = v:=⟨_,rfl⟩
 have HXV:=hid hxv
 have HXO:=hid hx
 have hmx : t.size ≤ maxLen:=Nat.le_trans ht (by decide)
 have hsz : t.size ≤ 281474976710656:=by omega
 have hnm : n < maxLen:=Nat.lt_of_lt_of_le hn (by decide)
 have hBW : B ≤ W.heap.size:=Nat.le_of_lt (Nat.lt_of_le_of_lt h.out.hs h.out.facts.1)
 rw [hxv]
 clear hxv hx
 obtain ⟨sl,⟨c0,c1,c2⟩,f0,f1,f2⟩:=h.out.facts
 rcases h.out.mp with ⟨rfl,hnone⟩ | ⟨b,rfl,hBb,hk⟩
 · have heq:=run_eql_map_nil W none
   have HFK : Hid (F.kf = fun _ => none):=hid (by funext t;simp [TF.kf,hnone t])
   have HNO:=hid hnone
   clear hnone
   have hmk : (Instr.makeMap 86 none).run Try.prog W = .ok (.map (some W.heap.size)) (W.alloc (.map #[] 0)):=rfl
   go_enter Try.func27,Try.ntmps27
   go_upto_region 2 with (fail)
   clear heq hmk
   refine name_world ?_
   intro W2 hW2
   have hk : KMap W2 W.heap.size n F.kf:=by
    rw [HFK.out,hW2]
    first
     | exact ((KMap.made W).mono (Nat.zero_le n)).setCell (by omega) _ _
     | (have hz:=(KMap.made (W.setCell ⟨s,0,none⟩ (.map (some W.heap.size)))).mono (Nat.zero_le n);simpa using hz)
   have hf2 : Fr2 s W.heap.size W W2:=by
    rw [hW2]
    first
     | exact ((Fr2.refl _ _ _).alloc _).set (.inl rfl) _ _
     | exact ((Fr2.refl _ _ _).set (.inl rfl) _ _).alloc _
   have hbk : W2.heap[s]? = some (.cells #[.map (some W.heap.size),lv,bv] 89 (0,0)):=by
    rw [hW2]
    first
     | exact heap_setCell_same _ s 0 _ _ _ ((Below.heap_alloc W _ s sl).trans h.out.blk)
     | exact (Below.heap_alloc _ _ s (by simpa using sl)).trans (heap_setCell_same W s 0 _ _ _ h.out.blk)
   have HK:=hid hk
   have HF2:=hid hf2
   have HBK:=hid hbk
   have sl2 : s < W2.heap.size:=(Array.getElem?_eq_some_iff.1 hbk).1
   have c02 : W2.cell? ⟨s,0,none⟩ = some (.map (some W.heap.size)):=cell_of_row _ _ _ _ _ _ hbk
   clear hk hf2 hbk hW2 c0 c1 c2 f0 f1 f2
   go_region_law (first
    | (go_simp;go_at_call 33;(with_reducible refine (clone_any _ _ hsz).mono ?_);rintro e2 w3 ⟨rfl,hb3⟩;replace hb3:=below_ch ((Below.refl W2.heap.size W2).drew) hb3;have HB3:=hid hb3;have c03:=(hb3.cell (p:=⟨s,0,none⟩) sl2).trans c02;have sl3:=Nat.lt_of_lt_of_le sl2 hb3.size;obtain ⟨w4,hrun,hk4,hg4⟩:=(HK.out.stay hb3).run_put hnm hmx xv;have HK4:=hid hk4;have HG4:=hid hg4))
   all_goals go_wp2
   all_goals go_end0
   all_goals
    have hfr : Fr2 s W.heap.size W w4:=(HF2.out.below HB3.out).grow HG4.out (.inr (.inl rfl))
    have hs4 : w4.heap[s]? = some (.cells #[.map (some W.heap.size),lv,bv] 89 (0,0)):=(HG4.out.block s sl3 (by simp;omega)).trans ((HB3.out.block s sl2).trans HBK.out)
    have hk5 : KMap w4 W.heap.size (n + 1) (F.upd t.data.toList x).kf:=by (rw [TF.kf_upd,HXV.out];exact HK4.out)
    exact ⟨rfl,_,h.out.next hBW hfr (fun g cs T fr hg => Nat.ne_of_lt (Array.getElem?_eq_some_iff.1 hg).1) hs4 hk5 (fun u y hu => by unfold TF.upd at hu;split at hu;exact .inr (by cases hu;exact HXO.out);exact .inl hu),hfr.to h.out.hs hBW hBW,hBW,Oth.fr2 hfr h.out.blk (fun g cs T fr hg _ _ _ => Nat.ne_of_lt (Array.getElem?_eq_some_iff.1 hg).1),fun g hg ha => ⟨hfr.2 g hg ha.1 (Nat.ne_of_lt hg),ha.1,(fun e => by cases e;exact Nat.lt_irrefl _ hg),ha.2.2⟩⟩
 · have heq:=run_eql_map_nil W (some b)
   have HK:=hid hk
   have hbl:=hk.lt
   clear hk
   go_enter Try.func27,Try.ntmps27
   go_upto_region 2 with (fail)
   clear heq
   go_region_law (first
    | (go_simp;go_at_call 33;(with_reducible refine (clone_any _ _ hsz).mono ?_);rintro e2 w3 ⟨rfl,hb3⟩;replace hb3:=below_ch ((Below.refl W.heap.size W).drew) hb3;have HB3:=hid hb3;have c03:=(hb3.cell (p:=⟨s,0,none⟩) sl).trans c0;have sl3:=Nat.lt_of_lt_of_le sl hb3.size;obtain ⟨w4,hrun,hk4,hg4⟩:=(HK.out.stay hb3).run_put hnm hmx xv;have HK4:=hid hk4;have HG4:=hid hg4))
   all_goals go_wp2
   all_goals go_end0
   all_goals
    have hsb : s ≠ b:=HK.out.nocells s _ _ _ h.out.blk
    have hfr : Fr2 s b W w4:=((Fr2.refl s b W).below HB3.out).grow HG4.out (.inr (.inl rfl))
    have hs4 : w4.heap[s]? = some (.cells #[.map (some b),lv,bv] 89 (0,0)):=(HG4.out.block s sl3 (by simp;exact hsb)).trans ((HB3.out.block s sl).trans h.out.blk)
    have hk5 : KMap w4 b (n + 1) (F.upd t.data.toList x).kf:=by (rw [TF.kf_upd,HXV.out];exact HK4.out)
    exact ⟨rfl,_,h.out.next hBb hfr (fun g cs T fr hg => HK.out.nocells g cs T fr hg) hs4 hk5 (fun u y hu => by unfold TF.upd at hu;split at hu;exact .inr (by cases hu;exact HXO.out);exact .inl hu),hfr.to h.out.hs hBb hBW,hBb,Oth.fr2 hfr h.out.blk (fun g cs T fr hg _ _ _ => HK.out.nocells g cs T fr hg),fun g hg ha => ⟨hfr.2 g hg ha.1 (fun e => ha.2.1 (by rw [e])),ha⟩⟩
end
end Go.Proofs.Ytbmmjomcjlpnlaa
namespace Go.Proofs.Ytbmmjomcjlpnlaa
open Go Go.RowKit
theorem infoI1 : (Try.prog.info? 3).map (fun i => (i.zero,i.size,i.bytes)) = some (some (.int .i64 0),1,8):=by kernel_rfl
theorem int_one1 {i : Int} : ∀ u ∈ ([.int .i64 i] : List Value),u.oneCell' = true:=by
 intro u hu
 simp at hu
 rcases hu with rfl
 rfl
theorem str_one1 {s : ByteArray} : ∀ u ∈ ([.string s] : List Value),u.oneCell' = true:=by
 intro u hu
 simp at hu
 rcases hu with rfl
 rfl
theorem own_setN {w : World} {B e size n b : Nat} {v : Value} {xs : List Value} (h : w.ownsRow B e size v n xs) (hne : v.ownBlock ≠ some b) (i : Nat) (u : Value) : (w.setCell ⟨b,i,none⟩ u).ownsRow B e size v n xs:=by
 refine ⟨h.1,?_⟩
 rcases h.2 with h0 | ⟨g,cap,cur,rfl,hB,hg,rest⟩
 · exact .inl h0
 · exact .inr ⟨g,cap,cur,rfl,hB,(Below.heap_setCell w ⟨b,i,none⟩ u g (fun e => hne (by rw [e];rfl))).trans hg,rest⟩
theorem KMap.same {W X : World} {b n : Nat} {f : KF} (h : KMap W b n f) (e : X.heap[b]? = W.heap[b]?) : KMap X b n f:=by
 obtain ⟨D,⟨es,clock,hb,r⟩,h2⟩:=h
 exact ⟨D,⟨es,clock,e.trans hb,r⟩,h2⟩
section
variable {B : Nat} {W X : World} {s n : Nat} {F : TF} {L L' : List ByteArray} {bl bl' : List Nat} {m lv bv lv' bv' : Value}
theorem Scp.row (h : Scp B W s n F L bl m lv bv) {r : Nat} (hf : Fr2 s r W X) {cs : Array Value} {T : TypeId} {fr : Nat × Nat} (hr : W.heap[r]? = some (.cells cs T fr)) (hT : T ≠ 141 ∧ T ≠ 63 ∧ T ≠ 137)
 (hs : X.heap[s]? = some (.cells #[m,lv',bv'] 89 (0,0))) (hlo : X.ownsRow B 9 1 lv' L'.length (L'.map Value.string)) (hbk : X.ownsRow B 3 1 bv' bl'.length (bl'.map fun (i : Nat) => Value.int .i64 (i : Int))) : Scp B X s n F L' bl' m lv' bv':=by
 refine ⟨hs,h.hs,?_,hlo,hbk,fun t x hx => Th.ok_kept (h.th t x hx) ⟨hf.1.1,fun g cs' T' fr' hg hb ht => hf.2 g (Array.getElem?_eq_some_iff.1 hb).1 (fun e => ?_) fun e => ?_⟩⟩
 · rcases h.mp with h3 | ⟨b,e,hb,hk⟩
   · exact .inl h3
   · have h1:=hk.nocells s _ _ _ h.blk
     have h2:=hk.nocells r _ _ _ hr
     exact .inr ⟨b,e,hb,hk.same (hf.2 b hk.lt (Ne.symm h1) (Ne.symm h2))⟩
 · subst e
   rw [h.blk] at hb
   simp only [Option.some.injEq,Obj.cells.injEq] at hb
   rcases ht with e | e | e <;> (rw [← hb.2.1] at e;revert e;decide)
 · subst e
   rw [hr] at hb
   simp only [Option.some.injEq,Obj.cells.injEq] at hb
   rcases ht with e | e | e
   · exact hT.1 (hb.2.1.trans e)
   · exact hT.2.1 (hb.2.1.trans e)
   · exact hT.2.2 (hb.2.1.trans e)
def rowB (v : Value) (s : Nat) : Nat:=v.ownBlock.getD s
theorem rowB_at {T k l : Nat} {v : Value} {xs : List Value} (h : W.ownsRow B T k v l xs) (s : Nat) : (rowB v s = s ∧ v.ownBlock = none) ∨ ∃ cs,v.ownBlock = some (rowB v s) ∧ W.heap[rowB v s]? = some (.cells cs T (0,0)) ∧ B ≤ rowB v s:=by
 rcases h.2 with ⟨rfl,_⟩ | ⟨g,cap,cur,rfl,hB,hg,_⟩
 · exact .inl ⟨rfl,rfl⟩
 · exact .inr ⟨cur,rfl,hg,hB⟩
theorem Fr2.growRow {v : Value} {Y : World} {s : Nat} (h : Fr2 s (rowB v s) W X) (k : X.grownBy Y v.ownBlock) : Fr2 s (rowB v s) W Y:=by
 refine ⟨⟨Nat.le_trans h.1.1 k.size,k.os.trans h.1.2.1,k.tape.trans h.1.2.2.1,k.output.trans h.1.2.2.2⟩,fun g hg h1 h2 => (k.block g (Nat.lt_of_lt_of_le hg h.1.1) fun e => h2 ?_).trans (h.2 g hg h1 h2)⟩
 unfold rowB
 rw [← e]
 rfl
theorem Scp.forms (h : Scp B W s n F L bl m lv bv) : ∃ mm p c q d,m = .map mm ∧ lv = .slice p L.length c ∧ bv = .slice q bl.length d:=by
 obtain ⟨p,c,e1⟩:=own_form h.lo
 obtain ⟨q,d,e2⟩:=own_form h.bk
 rcases h.mp with ⟨e,_⟩ | ⟨b,e,_⟩
 · exact ⟨none,p,c,q,d,e,e1,e2⟩
 · exact ⟨some b,p,c,q,d,e,e1,e2⟩
theorem Scp.turn (h : Scp B W s n F L bl m lv bv) {Tv kx lx : Nat} {v : Value} {xs : List Value} (hv : W.ownsRow B Tv kx v lx xs) (hT : Tv = 9 ∨ Tv = 3) (hf : Fr2 s (rowB v s) W X)
 (hs : X.heap[s]? = some (.cells #[m,lv',bv'] 89 (0,0))) (hlo : X.ownsRow B 9 1 lv' L'.length (L'.map Value.string)) (hbk : X.ownsRow B 3 1 bv' bl'.length (bl'.map fun (i : Nat) => Value.int .i64 (i : Int))) : Scp B X s n F L' bl' m lv' bv' ∧ Below B W X:=by
 have hBW : B ≤ W.heap.size:=Nat.le_of_lt (Nat.lt_of_le_of_lt h.hs h.facts.1)
 rcases rowB_at hv s with ⟨e,_⟩ | ⟨cs,_,hg,hB⟩
 · rw [e] at hf
   exact ⟨h.row hf h.blk (by decide) hs hlo hbk,hf.to h.hs h.hs hBW⟩
 · exact ⟨h.row hf hg (by rcases hT with rfl | rfl <;> decide) hs hlo hbk,hf.to h.hs hB hBW⟩
theorem Oth.turn (h : Scp B W s n F L bl m lv bv) {Tv kx lx : Nat} {v : Value} {xs : List Value} (hv : W.ownsRow B Tv kx v lx xs) (hT : Tv = 9 ∨ Tv = 3) (hf : Fr2 s (rowB v s) W X) : Oth W X :=
 Oth.fr2 hf h.blk fun g cs' T' fr' hg h1 h2 h3 e => by
  rcases rowB_at hv s with ⟨e1,_⟩ | ⟨cs,_,hg1,_⟩
  · rw [e,e1,h.blk] at hg
    simp only [Option.some.injEq,Obj.cells.injEq] at hg
    exact h3 hg.2.1.symm
  · rw [e,hg1] at hg
    simp only [Option.some.injEq,Obj.cells.injEq] at hg
    rcases hT with rfl | rfl
    · exact h1 hg.2.1.symm
    · exact h2 hg.2.1.symm
theorem own_turn (h : Scp B W s n F L bl m lv bv) {Tv kx lx To ky ly : Nat} {v vo : Value} {xs ys : List Value} (hv : W.ownsRow B Tv kx v lx xs) (ho : W.ownsRow B To ky vo ly ys) (hne : To ≠ Tv) (hTo : To ≠ 89) (hf : Fr2 s (rowB v s) W X) : X.ownsRow B To ky vo ly ys:=by
 refine own_fr2 ho hf h.blk hTo fun g cs' fr' hg e => ?_
 rcases rowB_at hv s with ⟨e1,_⟩ | ⟨cs,_,hg1,_⟩
 · rw [e1] at e
   rw [e,h.blk] at hg
   simp only [Option.some.injEq,Obj.cells.injEq] at hg
   exact hTo hg.2.1.symm
 · rw [e,hg1] at hg
   simp only [Option.some.injEq,Obj.cells.injEq] at hg
   exact hne hg.2.1.symm
theorem own_ne {Tv kx lx T1 b : Nat} {v : Value} {xs : List Value} {cs1 : Array Value} {fr1 : Nat × Nat} (hv : W.ownsRow B Tv kx v lx xs) (hb : W.heap[b]? = some (.cells cs1 T1 fr1)) (hT : Tv ≠ T1) : v.ownBlock ≠ some b:=by
 intro e
 rcases rowB_at hv b with ⟨_,e1⟩ | ⟨cs,e1,hg,_⟩
 · rw [e1] at e
   cases e
 · rw [e1] at e
   simp only [Option.some.injEq] at e
   rw [e,hb] at hg
   simp only [Option.some.injEq,Obj.cells.injEq] at hg
   exact hT hg.2.1.symm
theorem rowB_ne {v : Value} {g s : Nat} (h1 : g ≠ s) (h : v.ownBlock ≠ some g) : g ≠ rowB v s:=fun e => by
 unfold rowB at e
 cases hv : v.ownBlock with
 | none =>
  rw [hv] at e
  exact h1 e
 | some c =>
  rw [hv] at e
  exact h (by rw [hv,e];rfl)
theorem ownBlock_some {gg l c g : Nat} (h : (Value.slice (some ⟨gg,0,none⟩) l c).ownBlock = some g) : gg = g:=by
 simpa [Value.ownBlock] using h
theorem apx_bv {W X : World} {s gg k c : Nat} {m lv bv : Value} (hfr : Fr2 s (rowB bv s) W X) (hge : bv.ownBlock = some gg ∨ W.heap.size ≤ gg) : Apx W X s m lv bv m lv (.slice (some ⟨gg,0,none⟩) k c):=fun g hg ha => ⟨hfr.2 g hg ha.1 (rowB_ne ha.1 ha.2.2.2),ha.1,ha.2.1,ha.2.2.1,fun e => by
 have:=ownBlock_some e
 subst this
 rcases hge with h | h
 · exact ha.2.2.2 h
 · omega⟩
theorem apx_lv {W X : World} {s gg k c : Nat} {m lv bv : Value} (hfr : Fr2 s (rowB lv s) W X) (hge : lv.ownBlock = some gg ∨ W.heap.size ≤ gg) : Apx W X s m lv bv m (.slice (some ⟨gg,0,none⟩) k c) bv:=fun g hg ha => ⟨hfr.2 g hg ha.1 (rowB_ne ha.1 ha.2.2.1),ha.1,ha.2.1,(fun e => by
 have:=ownBlock_some e
 subst this
 rcases hge with h | h
 · exact ha.2.2.1 h
 · omega),ha.2.2.2⟩
theorem enter_any (h : Hid (Scp B W s n F L bl m lv bv)) (hL : L.length ≤ 1000000) (hb : bl.length ≤ 1000000) :
 Calls Try.prog 10 #[.pointer (some ⟨s,0,none⟩)] W fun e w' => e = .returned (.tuple #[]) ∧ ∃ bv',Scp B w' s n F L (bl ++ [L.length]) m lv bv' ∧ Below B W w' ∧ Apx W w' s m lv bv m lv bv':=by
 obtain ⟨mm,p,c,q,d,rfl,rfl,rfl⟩:=h.out.forms
 obtain ⟨i0,hinf,hzi0,hzi1,hzi2⟩:=info_parts infoI1
 have heq:=eql_ptr_some ⟨s,0,none⟩ W
 obtain ⟨sl,⟨c0,c1,c2⟩,f0,f1,f2⟩:=h.out.facts
 have hBW : B ≤ W.heap.size:=Nat.le_of_lt (Nat.lt_of_le_of_lt h.out.hs sl)
 obtain ⟨l,hl⟩ : ∃ l,L.length = l:=⟨_,rfl⟩
 obtain ⟨k,hk⟩ : ∃ k,bl.length = k:=⟨_,rfl⟩
 rw [hl] at hL c1
 rw [hk] at hb c2
 have HK : Hid (L.length = l ∧ bl.length = k):=hid ⟨hl,hk⟩
 have HO : Hid (W.ownsRow B 3 1 (.slice q k d) k (bl.map fun (i : Nat) => Value.int .i64 (i : Int))):=hid (by (have:=h.out.bk;rwa [hk] at this))
 have hne : (Value.slice q k d).ownBlock ≠ some s:=own_ne HO.out h.out.blk (by decide)
 have HNE:=hid hne
 clear hl hk hne
 go_enter Try.func10,Try.ntmps10
 go_upto_region 1 with (fail)
 clear heq
 go_region_law (first
  | (refine step_append_lies _ (by rfl) _ _ _ (by rfl) B 3 i0 _ 1 8 Try.underlying87 hinf hzi0 hzi1 hzi2 rfl (by decide) (.slice q k d) k (bl.map fun (i : Nat) => Value.int .i64 (i : Int)) (by rfl) (own_below HO.out (((Below.refl W.heap.size W).drew).alloc (Nat.le_refl _) _)) ⟨_,0,none⟩ 1 1 [.int .i64 l] (by rfl) (by rfl) (World.news_of_block (heap_alloc_new _ _)) int_one1 (by decide) (by unfold maxLen;omega) (by omega) (by simp;omega) _ rfl ?_;intro gg cap6 w9 hown9 hgrow9 hor9 hlt9;have hs9 : w9.heap[s]? = some (.cells #[.map mm,.slice p l c,.slice q k d] 89 (0,0)):=(hgrow9.block s (by simp;omega) (fun e => HNE.out e.symm)).trans ((Below.heap_alloc _ _ s sl).trans (by (have:=h.out.blk;rw [HK.out.1,HK.out.2] at this;exact this)));have s92 : w9.cell? ⟨s,2,none⟩ = some (.slice q k d):=cell_of_row _ _ _ _ _ _ hs9;have sf9 : w9.frozen? ⟨s,2,none⟩ = false:=frozen_of_row _ _ _ _ _ hs9;have sl9 : s < w9.heap.size:=(Array.getElem?_eq_some_iff.1 hs9).1;have HS9:=hid hs9;have HGE : Hid ((Value.slice q k d).ownBlock = some gg ∨ W.heap.size ≤ gg):=hid (hor9.imp id (fun e => by rw [e];simp));clear hor9;have HG9:=hid hgrow9;have HO9:=hid hown9;clear hs9 hgrow9 hown9))
 all_goals go_wp2
 all_goals go_end0
 all_goals
  have hfr : Fr2 s (rowB (.slice q k d) s) W (w9.setCell ⟨s,2,none⟩ (.slice (some ⟨gg,0,none⟩) (k + 1) cap6)):=(Fr2.growRow (((Fr2.refl _ _ W).drew).alloc _) HG9.out).set (.inl rfl) _ _
  have hsX:=heap_setCell_same w9 s 2 _ _ (.slice (some ⟨gg,0,none⟩) (k + 1) cap6) HS9.out
  have hbk : (w9.setCell ⟨s,2,none⟩ (.slice (some ⟨gg,0,none⟩) (k + 1) cap6)).ownsRow B 3 1 (.slice (some ⟨gg,0,none⟩) (k + 1) cap6) (bl ++ [L.length]).length ((bl ++ [L.length]).map fun (i : Nat) => Value.int .i64 (i : Int)):=by
   rw [List.length_append,List.map_append,HK.out.1,HK.out.2]
   exact own_setN HO9.out (own_ne HO9.out HS9.out (by decide)) _ _
  have hlo:=own_turn h.out HO.out h.out.lo (by decide) (by decide) hfr
  obtain ⟨h1,h2⟩:=h.out.turn HO.out (.inr rfl) hfr (by rw [HK.out.1];exact hsX) hlo hbk
  exact ⟨rfl,_,h1,h2,by (rw [HK.out.1,HK.out.2];exact apx_bv hfr HGE.out)⟩
end
end Go.Proofs.Ytbmmjomcjlpnlaa
namespace Go.Proofs.Ytbmmjomcjlpnlaa
open Go Go.RowKit
def nmCells (x : ByteArray × Int) : List Value:=[.string x.1,.int .i64 x.2]
theorem infoNd : (Try.prog.info? 134).map (fun i => (i.zero,i.size,i.bytes)) = some (some (.agg #[.string ⟨#[]⟩,.int .i64 0]),2,24):=by kernel_rfl
theorem nm_one {s : ByteArray} {i : Int} : ∀ u ∈ ([.string s,.int .i64 i] : List Value),u.oneCell' = true:=by
 intro u hu
 simp at hu
 rcases hu with rfl | rfl <;> rfl
def glNm (y : Gl) : ByteArray × Int:=(bstr y.nm,y.a)
def lkNm (y : Lk) : ByteArray × Int:=(bstr y.nm,y.a)
def fnNm (y : Fn) : ByteArray × Int:=(bstr y.nm,y.a)
def rfNm (q : Fn × FV) : ByteArray × Int:=fnNm q.1
def fnF (q : Fn × FV) : List Value:=fnCells q.1 q.2
def thingsL (p : Pg) : List (ByteArray × Int):=p.gs.map glNm ++ p.ls.map lkNm ++ p.fs.map fnNm
theorem plain_cell {α : Type} {B T K n : Nat} {f : α → List Value} (hf : ∀ a,(f a).length = K) {W : World} {l : List α} {g c : Nat} (h : W.ownsRow B T K (.slice (some ⟨g,0,none⟩) n c) n (l.flatMap f)) {i : Nat} {x : α} (hx : l[i]? = some x) {j : Nat} {u : Value} (hu : (f x)[j]? = some u) : W.cell? ⟨g,i * K + j,none⟩ = some u:=by
 rcases h.2 with ⟨h0,_⟩ | ⟨g',cap,cur,hv,hB,hg,hcap,hmx,hsz,htk⟩
 · cases h0
 cases hv
 refine (cell_of_row _ _ _ _ _ _ hg).trans ?_
 have h1:=plain_at hf l i x j u hx hu
 rw [← htk,List.getElem?_take] at h1
 split at h1
 · simpa using h1
 · cases h1
theorem own_base {B B' T K n : Nat} {W : World} {v : Value} {xs : List Value} (h : W.ownsRow B T K v n xs) (hb : B' ≤ B) : W.ownsRow B' T K v n xs:=by
 refine ⟨h.1,?_⟩
 rcases h.2 with h0 | ⟨g,cap,cur,rfl,hB,rest⟩
 · exact .inl h0
 · exact .inr ⟨g,cap,cur,rfl,Nat.le_trans hb hB,rest⟩
theorem own_memN {B T K n : Nat} {W : World} {v : Value} {xs : List Value} (h : W.ownsRow B T K v n xs) : ∀ j,v.ownBlock = some j → B ≤ j:=by
 intro j e
 rcases h.2 with ⟨rfl,_⟩ | ⟨g,cap,cur,rfl,hB,_⟩
 · cases e
 · cases e
   exact hB
theorem row_some {B T K n : Nat} {W : World} {v : Value} {xs : List Value} (h : W.ownsRow B T K v n xs) (hn : 0 < n) : ∃ g c,v = .slice (some ⟨g,0,none⟩) n c ∧ g < W.heap.size ∧ B ≤ g:=by
 rcases h.2 with ⟨_,h0⟩ | ⟨g,cap,cur,hv,hB,hg,_⟩
 · omega
 · exact ⟨g,cap,hv,(Array.getElem?_eq_some_iff.1 hg).1,hB⟩
theorem things_any {B : Nat} {W : World} {p : Pg} {v0 v1 v2 v3 : Value} {rf : List (Fn × FV)} {rt : List (List Stm × Value)} (R : Hid (PRows B W p v0 v1 v2 v3 rf rt)) (hg : p.gs.length ≤ 1000) (hl : p.ls.length ≤ 1000) (hf : p.fs.length ≤ 1000) :
 Calls Try.prog 53 #[.agg #[v0,v1,v2,v3]] W fun e w' => Below W.heap.size W w' ∧ ∃ v,e = .returned v ∧ w'.ownsRow W.heap.size 134 2 v (thingsL p).length ((thingsL p).flatMap nmCells):=by
 obtain ⟨i0,hinf,hzi0,hzi1,hzi2⟩:=info_parts infoNd
 obtain ⟨z0,k0,rfl⟩:=own_form R.out.g
 obtain ⟨z1,k1,rfl⟩:=own_form R.out.l
 obtain ⟨z2,k2,rfl⟩:=own_form R.out.f
 obtain ⟨z3,k3,rfl⟩:=own_form R.out.t
 obtain ⟨n0,hn0⟩ : ∃ n,p.gs.length = n:=⟨_,rfl⟩
 obtain ⟨n1,hn1⟩ : ∃ n,p.ls.length = n:=⟨_,rfl⟩
 obtain ⟨n2,hn2⟩ : ∃ n,p.fs.length = n:=⟨_,rfl⟩
 obtain ⟨n3,hn3⟩ : ∃ n,p.ths.length = n:=⟨_,rfl⟩
 have HN : Hid (p.gs.length = n0 ∧ p.ls.length = n1 ∧ p.fs.length = n2 ∧ p.ths.length = n3):=hid ⟨hn0,hn1,hn2,hn3⟩
 have HR0 : Hid (W.ownsRow B 56 6 (.slice z0 n0 k0) n0 (p.gs.flatMap glCells)):=hid (by (have:=R.out.g;rwa [hn0] at this))
 have HR1 : Hid (W.ownsRow B 95 2 (.slice z1 n1 k1) n1 (p.ls.flatMap lkCells)):=hid (by (have:=R.out.l;rwa [hn1] at this))
 have HR2 : Hid (W.ownsRow B 65 12 (.slice z2 n2 k2) n2 (rf.flatMap fnF)):=hid (by (have:=R.out.f;rwa [hn2] at this))
 have HRL : Hid (rf.length = n2):=hid (by (have h:=congrArg List.length R.out.ef;rw [List.length_map] at h;exact h.trans hn2))
 have HEF:=hid R.out.ef
 rw [hn0] at hg
 rw [hn1] at hl
 rw [hn2] at hf
 rw [hn0,hn1,hn2,hn3]
 clear hn0 hn1 hn2 hn3
 go_enter Try.func53,Try.ntmps53
 go_upto_region 3 with (fail)
 refine name_world ?_
 intro W1 hW1
 have HB1 : Hid (Below W.heap.size W W1):=hid (by (rw [hW1];exact below_of_alloc _ _))
 have hm1 : W1.heap[W.heap.size]? = some (.cells #[.slice z0 n0 k0,.slice z1 n1 k1,.slice z2 n2 k2,.slice z3 n3 k3] 29 (0,0)):=by (rw [hW1];exact heap_alloc_new _ _)
 have HM1:=hid hm1
 have HS0 : Hid (W1.ownsRow B 56 6 (.slice z0 n0 k0) n0 (p.gs.flatMap glCells)):=hid (own_below HR0.out HB1.out)
 have HS1 : Hid (W1.ownsRow B 95 2 (.slice z1 n1 k1) n1 (p.ls.flatMap lkCells)):=hid (own_below HR1.out HB1.out)
 have HS2 : Hid (W1.ownsRow B 65 12 (.slice z2 n2 k2) n2 (rf.flatMap fnF)):=hid (own_below HR2.out HB1.out)
 have hM : W.heap.size < W1.heap.size:=(Array.getElem?_eq_some_iff.1 hm1).1
 clear hW1 hm1 HR0 HR1 HR2
 go_loopw [3,13] (fun tv iv wr => ∃ (i : Nat) (v : Value),tv = v ∧ iv = .int .i64 i ∧ i ≤ n0 ∧ Below W1.heap.size W1 wr ∧ wr.ownsRow W1.heap.size 134 2 v (([] : List (ByteArray × Int)) ++ (p.gs.take i).map glNm).length ((([] : List (ByteArray × Int)) ++ (p.gs.take i).map glNm).flatMap nmCells)) (fun _ iv _ => n0 - (intOf iv).toNat)
 case atStart => exact ⟨0,_,rfl,rfl,Nat.zero_le _,Below.refl _ _,World.ownsRow_nil _ _ _ _⟩
 case round =>
  obtain ⟨i,v,rfl,rfl,hi,hbr,hown⟩:=hrel
  have HBR:=hid hbr
  have HOW:=hid hown
  by_cases hin : i < n0
  · obtain ⟨x,hx⟩ : ∃ x,p.gs[i]? = some x:=⟨_,List.getElem?_eq_getElem (by (have:=HN.out.1;omega))⟩
    obtain ⟨gx,cx,ez,hgx,_⟩:=row_some HS0.out (show 0 < n0 by omega)
    cases ez
    have hrw:=own_below HS0.out (hbr.mono (Nat.le_refl _))
    have d0 : wr.cell? ⟨gx,i * 6,none⟩ = some (.int .i64 x.a):=plain_cell (K:=6) (f:=glCells) (fun _ => rfl) hrw hx (j:=0) rfl
    have d1 : wr.cell? ⟨gx,i * 6 + 1,none⟩ = some (.string (bstr x.nm)):=plain_cell (K:=6) (f:=glCells) (fun _ => rfl) hrw hx (j:=1) rfl
    have d2 : wr.cell? ⟨gx,i * 6 + 2,none⟩ = some (.bool x.tr):=plain_cell (K:=6) (f:=glCells) (fun _ => rfl) hrw hx (j:=2) rfl
    have d3 : wr.cell? ⟨gx,i * 6 + 3,none⟩ = some (.bool x.sc):=plain_cell (K:=6) (f:=glCells) (fun _ => rfl) hrw hx (j:=3) rfl
    have d4 : wr.cell? ⟨gx,i * 6 + 4,none⟩ = some (.int .i64 x.len):=plain_cell (K:=6) (f:=glCells) (fun _ => rfl) hrw hx (j:=4) rfl
    have d5 : wr.cell? ⟨gx,i * 6 + 5,none⟩ = some (.string (bstr x.by_)):=plain_cell (K:=6) (f:=glCells) (fun _ => rfl) hrw hx (j:=5) rfl
    have hgw : gx < wr.heap.size:=Nat.lt_of_lt_of_le hgx hbr.size
    have hlt : (i : Int) < (n0 : Int):=by omega
    have hi0 : (0 : Int) ≤ (i : Int):=Int.natCast_nonneg _
    have hA:=below_of_alloc wr (.cells #[.int .i64 x.a,.string (bstr x.nm),.bool x.tr,.bool x.sc,.int .i64 x.len,.string (bstr x.by_)] 56)
    have HX:=hid hx
    have hcnt : (([] : List (ByteArray × Int)) ++ (p.gs.take i).map glNm).length ≤ 3000:=by (have:=HN.out;have hc1 : (p.gs.take i).length ≤ i:=List.length_take_le _ _;simp only [List.length_append,List.length_map,List.length_nil];omega)
    clear hrw hx hbr hown
    go_upto_region 5 with (fail)
    clear d0 d1 d2 d3 d4 d5
    refine name_world ?_
    intro W2 hW2
    have hP : W2.heap[wr.heap.size]? = some (.cells #[.int .i64 x.a,.string (bstr x.nm),.bool x.tr,.bool x.sc,.int .i64 x.len,.string (bstr x.by_)] 56 (0,0)):=by (rw [hW2];exact heap_alloc_new _ _)
    have HA : Hid (Below wr.heap.size wr W2):=hid (by (rw [hW2];exact hA))
    have HO2:=hid (own_below HOW.out HA.out)
    have hpl : wr.heap.size < W2.heap.size:=(Array.getElem?_eq_some_iff.1 hP).1
    have p0 : W2.cell? ⟨wr.heap.size,0,none⟩ = some (.int .i64 x.a):=cell_of_row _ _ _ _ _ _ hP
    have p1 : W2.cell? ⟨wr.heap.size,1,none⟩ = some (.string (bstr x.nm)):=cell_of_row _ _ _ _ _ _ hP
    have hBW2 : W1.heap.size ≤ W2.heap.size:=Nat.le_trans HBR.out.size HA.out.size
    clear hW2 hP hA
    go_wp2_with (at_builtin;go_must (refine wpList_append_own _ rfl (.tmp 17) (.tmp 23) 130 rfl W1.heap.size 134 i0 _ 2 24 Try.underlying130 hinf hzi0 hzi1 hzi2 rfl (by decide) _ _ _ rfl (HO2.out.alloc _) ⟨_,0,none⟩ 1 1 [.string (bstr x.nm),.int .i64 x.a] rfl rfl (World.news_of_block (heap_alloc_new _ _)) nm_one (by unfold maxLen;omega) (by omega) (by simp;omega) ?_;intro v4 w4 hown4 hgrow4 _;have HO4:=hid hown4;have HG4:=hid hgrow4;clear hown4 hgrow4))
    go_roundw
    case rel =>
     have e : ([] : List (ByteArray × Int)) ++ (p.gs.take (i + 1)).map glNm = (([] : List (ByteArray × Int)) ++ (p.gs.take i).map glNm) ++ [glNm x]:=by
      rw [List.take_add_one,HX.out]
      simp
     refine ⟨i + 1,_,rfl,by go_num,by omega,((below_ch HBR.out HA.out).alloc hBW2 _).grown HG4.out (by simp;omega) (own_memN HOW.out),?_⟩
     rw [e,List.length_append,List.flatMap_append]
     exact HO4.out
    case measure =>
     simp [intOf]
     omega
  · have hlt : ¬ (i : Int) < (n0 : Int):=by omega
    obtain rfl : n0 = i:=by omega
    have et : p.gs.take n0 = p.gs:=by (rw [← HN.out.1];exact List.take_length)
    rw [et] at HOW
    clear et hbr hown
    have hm : wr.heap[W.heap.size]? = some (.cells #[.slice z0 n0 k0,.slice z1 n1 k1,.slice z2 n2 k2,.slice z3 n3 k3] 29 (0,0)):=(HBR.out.block _ hM).trans HM1.out
    have hml : W.heap.size < wr.heap.size:=(Array.getElem?_eq_some_iff.1 hm).1
    have m1 : wr.cell? ⟨W.heap.size,1,none⟩ = some (.slice z1 n1 k1):=cell_of_row _ _ _ _ _ _ hm
    have m2 : wr.cell? ⟨W.heap.size,2,none⟩ = some (.slice z2 n2 k2):=cell_of_row _ _ _ _ _ _ hm
    clear hm
    go_upto_region 8 with (fail)
    have HBA:=HBR
    have HOA:=HOW
    clear HBR HOW m1 m2 hml
    go_loopw [3,29] (fun tv iv wr => ∃ (i : Nat) (v : Value),tv = v ∧ iv = .int .i64 i ∧ i ≤ n1 ∧ Below W1.heap.size W1 wr ∧ wr.ownsRow W1.heap.size 134 2 v (p.gs.map glNm ++ (p.ls.take i).map lkNm).length ((p.gs.map glNm ++ (p.ls.take i).map lkNm).flatMap nmCells)) (fun _ iv _ => n1 - (intOf iv).toNat)
    case atStart => exact ⟨0,_,rfl,rfl,Nat.zero_le _,HBA.out,by simpa using HOA.out⟩
    case round =>
     obtain ⟨i,v,rfl,rfl,hi,hbr,hown⟩:=hrel
     have HBR:=hid hbr
     have HOW:=hid hown
     by_cases hin : i < n1
     · obtain ⟨x,hx⟩ : ∃ x,p.ls[i]? = some x:=⟨_,List.getElem?_eq_getElem (by (have:=HN.out.2.1;omega))⟩
       obtain ⟨gx,cx,ez,hgx,_⟩:=row_some HS1.out (show 0 < n1 by omega)
       cases ez
       have hrw:=own_below HS1.out (hbr.mono (Nat.le_refl _))
       have d0 : wr.cell? ⟨gx,i * 2,none⟩ = some (.int .i64 x.a):=plain_cell (K:=2) (f:=lkCells) (fun _ => rfl) hrw hx (j:=0) rfl
       have d1 : wr.cell? ⟨gx,i * 2 + 1,none⟩ = some (.string (bstr x.nm)):=plain_cell (K:=2) (f:=lkCells) (fun _ => rfl) hrw hx (j:=1) rfl
       have hgw : gx < wr.heap.size:=Nat.lt_of_lt_of_le hgx hbr.size
       have hlt : (i : Int) < (n1 : Int):=by omega
       have hi0 : (0 : Int) ≤ (i : Int):=Int.natCast_nonneg _
       have hA:=below_of_alloc wr (.cells #[.int .i64 x.a,.string (bstr x.nm)] 95)
       have HX:=hid hx
       have hcnt : (p.gs.map glNm ++ (p.ls.take i).map lkNm).length ≤ 3000:=by (have:=HN.out;have hc1 : (p.ls.take i).length ≤ i:=List.length_take_le _ _;simp only [List.length_append,List.length_map,List.length_nil];omega)
       clear hrw hx hbr hown
       go_upto_region 10 with (fail)
       clear d0 d1
       refine name_world ?_
       intro W2 hW2
       have hP : W2.heap[wr.heap.size]? = some (.cells #[.int .i64 x.a,.string (bstr x.nm)] 95 (0,0)):=by (rw [hW2];exact heap_alloc_new _ _)
       have HA : Hid (Below wr.heap.size wr W2):=hid (by (rw [hW2];exact hA))
       have HO2:=hid (own_below HOW.out HA.out)
       have hpl : wr.heap.size < W2.heap.size:=(Array.getElem?_eq_some_iff.1 hP).1
       have p0 : W2.cell? ⟨wr.heap.size,0,none⟩ = some (.int .i64 x.a):=cell_of_row _ _ _ _ _ _ hP
       have p1 : W2.cell? ⟨wr.heap.size,1,none⟩ = some (.string (bstr x.nm)):=cell_of_row _ _ _ _ _ _ hP
       have hBW2 : W1.heap.size ≤ W2.heap.size:=Nat.le_trans HBR.out.size HA.out.size
       clear hW2 hP hA
       go_wp2_with (at_builtin;go_must (refine wpList_append_own _ rfl (.tmp 33) (.tmp 39) 130 rfl W1.heap.size 134 i0 _ 2 24 Try.underlying130 hinf hzi0 hzi1 hzi2 rfl (by decide) _ _ _ rfl (HO2.out.alloc _) ⟨_,0,none⟩ 1 1 [.string (bstr x.nm),.int .i64 x.a] rfl rfl (World.news_of_block (heap_alloc_new _ _)) nm_one (by unfold maxLen;omega) (by omega) (by simp;omega) ?_;intro v4 w4 hown4 hgrow4 _;have HO4:=hid hown4;have HG4:=hid hgrow4;clear hown4 hgrow4))
       go_roundw
       case rel =>
        have e : p.gs.map glNm ++ (p.ls.take (i + 1)).map lkNm = (p.gs.map glNm ++ (p.ls.take i).map lkNm) ++ [lkNm x]:=by
         rw [List.take_add_one,HX.out]
         simp
        refine ⟨i + 1,_,rfl,by go_num,by omega,((below_ch HBR.out HA.out).alloc hBW2 _).grown HG4.out (by simp;omega) (own_memN HOW.out),?_⟩
        rw [e,List.length_append,List.flatMap_append]
        exact HO4.out
       case measure =>
        simp [intOf]
        omega
     · have hlt : ¬ (i : Int) < (n1 : Int):=by omega
       obtain rfl : n1 = i:=by omega
       have et : p.ls.take n1 = p.ls:=by (rw [← HN.out.2.1];exact List.take_length)
       rw [et] at HOW
       clear et hbr hown
       have hm : wr.heap[W.heap.size]? = some (.cells #[.slice z0 n0 k0,.slice z1 n1 k1,.slice z2 n2 k2,.slice z3 n3 k3] 29 (0,0)):=(HBR.out.block _ hM).trans HM1.out
       have hml : W.heap.size < wr.heap.size:=(Array.getElem?_eq_some_iff.1 hm).1
       have m1 : wr.cell? ⟨W.heap.size,1,none⟩ = some (.slice z1 n1 k1):=cell_of_row _ _ _ _ _ _ hm
       have m2 : wr.cell? ⟨W.heap.size,2,none⟩ = some (.slice z2 n2 k2):=cell_of_row _ _ _ _ _ _ hm
       clear hm
       go_upto_region 13 with (fail)
       clear HBA HOA
       have HBA:=HBR
       have HOA:=HOW
       clear HBR HOW m1 m2 hml
       go_loopw [3,45] (fun tv iv wr => ∃ (i : Nat) (v : Value),tv = v ∧ iv = .int .i64 i ∧ i ≤ n2 ∧ Below W1.heap.size W1 wr ∧ wr.ownsRow W1.heap.size 134 2 v ((p.gs.map glNm ++ p.ls.map lkNm) ++ (rf.take i).map rfNm).length (((p.gs.map glNm ++ p.ls.map lkNm) ++ (rf.take i).map rfNm).flatMap nmCells)) (fun _ iv _ => n2 - (intOf iv).toNat)
       case atStart => exact ⟨0,_,rfl,rfl,Nat.zero_le _,HBA.out,by simpa using HOA.out⟩
       case round =>
        obtain ⟨i,v,rfl,rfl,hi,hbr,hown⟩:=hrel
        have HBR:=hid hbr
        have HOW:=hid hown
        by_cases hin : i < n2
        · obtain ⟨⟨y,fv⟩,hx⟩ : ∃ x,rf[i]? = some x:=⟨_,List.getElem?_eq_getElem (by (have:=HRL.out;omega))⟩
          have hfn:=R.out.xf _ (List.mem_of_getElem? hx)
          obtain ⟨⟨p0,c0,ef0⟩,_⟩:=hfn.1
          obtain ⟨p1,c1,ef1⟩:=hfn.2.1.form
          obtain ⟨p2,c2,ef2⟩:=hfn.2.2.form
          obtain ⟨vp,vb,vk⟩:=fv
          simp only at ef0 ef1 ef2
          subst ef0 ef1 ef2
          obtain ⟨y0,hy0⟩ : ∃ q,y.ps.length = q:=⟨_,rfl⟩
          obtain ⟨y1,hy1⟩ : ∃ q,y.bd.length = q:=⟨_,rfl⟩
          obtain ⟨y2,hy2⟩ : ∃ q,y.ret.ks.length = q:=⟨_,rfl⟩
          rw [hy0,hy1,hy2] at hx
          obtain ⟨gx,cx,ez,hgx,_⟩:=row_some HS2.out (show 0 < n2 by omega)
          cases ez
          have hrw:=own_below HS2.out (hbr.mono (Nat.le_refl _))
          have d0 : wr.cell? ⟨gx,i * 12,none⟩ = some (.int .i64 y.a):=plain_cell (K:=12) (f:=fnF) (fun _ => rfl) hrw hx (j:=0) rfl
          have d1 : wr.cell? ⟨gx,i * 12 + 1,none⟩ = some (.string (bstr y.nm)):=plain_cell (K:=12) (f:=fnF) (fun _ => rfl) hrw hx (j:=1) rfl
          have d2 : wr.cell? ⟨gx,i * 12 + 2,none⟩ = some (.slice p0 y0 c0):=plain_cell (K:=12) (f:=fnF) (fun _ => rfl) hrw hx (j:=2) rfl
          have d3 : wr.cell? ⟨gx,i * 12 + 3,none⟩ = some (.bool y.tr):=plain_cell (K:=12) (f:=fnF) (fun _ => rfl) hrw hx (j:=3) rfl
          have d4 : wr.cell? ⟨gx,i * 12 + 4,none⟩ = some (.bool y.sc):=plain_cell (K:=12) (f:=fnF) (fun _ => rfl) hrw hx (j:=4) rfl
          have d5 : wr.cell? ⟨gx,i * 12 + 5,none⟩ = some (.slice p1 y1 c1):=plain_cell (K:=12) (f:=fnF) (fun _ => rfl) hrw hx (j:=5) rfl
          have d6 : wr.cell? ⟨gx,i * 12 + 6,none⟩ = some (.int .i64 y.ret.k):=plain_cell (K:=12) (f:=fnF) (fun _ => rfl) hrw hx (j:=6) rfl
          have d7 : wr.cell? ⟨gx,i * 12 + 7,none⟩ = some (.int .i64 y.ret.op):=plain_cell (K:=12) (f:=fnF) (fun _ => rfl) hrw hx (j:=7) rfl
          have d8 : wr.cell? ⟨gx,i * 12 + 8,none⟩ = some (.int .i64 y.ret.n):=plain_cell (K:=12) (f:=fnF) (fun _ => rfl) hrw hx (j:=8) rfl
          have d9 : wr.cell? ⟨gx,i * 12 + 9,none⟩ = some (.string (bstr y.ret.nm)):=plain_cell (K:=12) (f:=fnF) (fun _ => rfl) hrw hx (j:=9) rfl
          have d10 : wr.cell? ⟨gx,i * 12 + 10,none⟩ = some (.slice p2 y2 c2):=plain_cell (K:=12) (f:=fnF) (fun _ => rfl) hrw hx (j:=10) rfl
          have d11 : wr.cell? ⟨gx,i * 12 + 11,none⟩ = some (.int .i64 y.ret.a):=plain_cell (K:=12) (f:=fnF) (fun _ => rfl) hrw hx (j:=11) rfl
          have hgw : gx < wr.heap.size:=Nat.lt_of_lt_of_le hgx hbr.size
          have hlt : (i : Int) < (n2 : Int):=by omega
          have hi0 : (0 : Int) ≤ (i : Int):=Int.natCast_nonneg _
          have hA:=below_of_alloc wr (.cells #[.int .i64 y.a,.string (bstr y.nm),.slice p0 y0 c0,.bool y.tr,.bool y.sc,.slice p1 y1 c1,.int .i64 y.ret.k,.int .i64 y.ret.op,.int .i64 y.ret.n,.string (bstr y.ret.nm),.slice p2 y2 c2,.int .i64 y.ret.a] 65)
          have HX:=hid hx
          have hcnt : ((p.gs.map glNm ++ p.ls.map lkNm) ++ (rf.take i).map rfNm).length ≤ 3000:=by (have:=HN.out;have hc1 : (rf.take i).length ≤ i:=List.length_take_le _ _;simp only [List.length_append,List.length_map,List.length_nil];omega)
          clear hrw hx hbr hown hfn hy0 hy1 hy2
          go_upto_region 15 with (fail)
          clear d0 d1 d2 d3 d4 d5 d6 d7 d8 d9 d10 d11
          refine name_world ?_
          intro W2 hW2
          have hP : W2.heap[wr.heap.size]? = some (.cells #[.int .i64 y.a,.string (bstr y.nm),.slice p0 y0 c0,.bool y.tr,.bool y.sc,.slice p1 y1 c1,.int .i64 y.ret.k,.int .i64 y.ret.op,.int .i64 y.ret.n,.string (bstr y.ret.nm),.slice p2 y2 c2,.int .i64 y.ret.a] 65 (0,0)):=by (rw [hW2];exact heap_alloc_new _ _)
          have HA : Hid (Below wr.heap.size wr W2):=hid (by (rw [hW2];exact hA))
          have HO2:=hid (own_below HOW.out HA.out)
          have hpl : wr.heap.size < W2.heap.size:=(Array.getElem?_eq_some_iff.1 hP).1
          have pp0 : W2.cell? ⟨wr.heap.size,0,none⟩ = some (.int .i64 y.a):=cell_of_row _ _ _ _ _ _ hP
          have pp1 : W2.cell? ⟨wr.heap.size,1,none⟩ = some (.string (bstr y.nm)):=cell_of_row _ _ _ _ _ _ hP
          have hBW2 : W1.heap.size ≤ W2.heap.size:=Nat.le_trans HBR.out.size HA.out.size
          clear hW2 hP hA
          go_wp2_with (at_builtin;go_must (refine wpList_append_own _ rfl (.tmp 49) (.tmp 55) 130 rfl W1.heap.size 134 i0 _ 2 24 Try.underlying130 hinf hzi0 hzi1 hzi2 rfl (by decide) _ _ _ rfl (HO2.out.alloc _) ⟨_,0,none⟩ 1 1 [.string (bstr y.nm),.int .i64 y.a] rfl rfl (World.news_of_block (heap_alloc_new _ _)) nm_one (by unfold maxLen;omega) (by omega) (by simp;omega) ?_;intro v4 w4 hown4 hgrow4 _;have HO4:=hid hown4;have HG4:=hid hgrow4;clear hown4 hgrow4))
          go_roundw
          case rel =>
           have e : (p.gs.map glNm ++ p.ls.map lkNm) ++ (rf.take (i + 1)).map rfNm = ((p.gs.map glNm ++ p.ls.map lkNm) ++ (rf.take i).map rfNm) ++ [rfNm (y,⟨.slice p0 y0 c0,.slice p1 y1 c1,.slice p2 y2 c2⟩)]:=by
            rw [List.take_add_one,HX.out]
            simp
           refine ⟨i + 1,_,rfl,by go_num,by omega,((below_ch HBR.out HA.out).alloc hBW2 _).grown HG4.out (by simp;omega) (own_memN HOW.out),?_⟩
           rw [e,List.length_append,List.flatMap_append]
           exact HO4.out
          case measure =>
           simp [intOf]
           omega
        · have hlt : ¬ (i : Int) < (n2 : Int):=by omega
          obtain rfl : n2 = i:=by omega
          have et : rf.take n2 = rf:=by (rw [← HRL.out];exact List.take_length)
          rw [et] at HOW
          clear et hbr hown
          go_wp2
          go_ret
          refine ⟨below_ch HB1.out HBR.out,_,rfl,?_⟩
          have e : thingsL p = (p.gs.map glNm ++ p.ls.map lkNm) ++ rf.map rfNm:=by
           unfold thingsL
           rw [← HEF.out,List.map_map]
           rfl
          rw [e]
          exact own_base HOW.out (Nat.le_of_lt hM)
theorem r4_limit16 {r4 rb g cap : Nat} {ws : List Wd} {d : Int} {p0 p1 p2 p3 : Value} {W : World} {σ : RS} (S : Hid (A4 W r4 rb g cap ws d p0 p1 p2 p3 σ)) (n : Nat) :
 Calls Try.prog 46 #[.pointer (some ⟨r4,0,none⟩),.int .i64 n,.int .i64 16] W fun e w' => e = .returned (.tuple #[]) ∧ A4 w' r4 rb g cap ws d p0 p1 p2 p3 (limF n 16 σ) ∧ Fr (some rb) W w':=r4_limit S n 16
theorem r4_paramsQ {r4 rb g cap : Nat} {ws : List Wd} {d : Int} {p0 p1 p2 p3 : Value} {W : World} {σ τ : RS} {lp : List Pm} (S : Hid (A4 W r4 rb g cap ws d p0 p1 p2 p3 σ)) (h : paramsF σ = (lp,τ)) :
 Calls Try.prog 65 #[.pointer (some ⟨r4,0,none⟩)] W fun e w' => (∃ p c,e = .returned (.slice p lp.length c) ∧ IsPl (fun g => W.heap.size ≤ g) 137 3 pmCells w' lp (.slice p lp.length c)) ∧ A4 w' r4 rb g cap ws d p0 p1 p2 p3 τ ∧ Fr (some rb) W w':=by
 have:=r4_params S
 rwa [h] at this
theorem rfn_no {r4 rb g cap B k m n d : Nat} {ws : List Wd} {p : Option Addr} {p0 p1 p3 : Value} {W : World} {x : Wd} {tt : List Wd} {σ : RS} {c0 : Int} {b0 : Nat} (S : Hid (A4 W r4 rb g cap ws d p0 p1 (.slice p m k) p3 σ)) (hlim : Hid (limF m 16 σ = .bad c0 b0)) :
 Calls Try.prog 49 #[.pointer (some ⟨r4,0,none⟩)] W fun e w' => e = .returned (.tuple #[]) ∧ A4 w' r4 rb g cap ws d p0 p1 (.slice p m k) p3 (.bad c0 b0) ∧ Fr (some rb) W w':=by
 obtain ⟨m0,m1,m2,m3,m4,m5⟩:=S.out.at4.cells
 have ml0:=S.out.at4.lt
 go_enter Try.func49,Try.ntmps49
 go_wp2_with (first
  | (go_at_call 46;(with_reducible refine (r4_limit16 S m).mono ?_);rintro e1 w1 ⟨rfl,hs1,hf1⟩;have S1 : Hid (A4 w1 r4 rb g cap ws d p0 p1 (.slice p m k) p3 (.bad c0 b0)):=hid (hlim.out ▸ hs1))
  | (go_at_call 23;(with_reducible refine (r4_ok S1 false rfl).mono ?_);rintro e2 w2 ⟨rfl,hb2⟩))
 first
  | (((try simp only [Exit.inBlock,Exit.then]);refine bodyPost_ret (results_none rfl _ _ _) rfl ?_);exact ⟨rfl,S1.out.stay hb2,hf1.stepB hb2⟩)
  | (go_end0;exact ⟨rfl,S1.out.stay hb2,hf1.stepB hb2⟩)
theorem rfn_yes {r4 rb g cap B k m n d : Nat} {ws : List Wd} {p : Option Addr} {p0 p1 p3 : Value} {W : World} {x : Wd} {tt : List Wd} {xs : List Value} {nm : List UInt8} {a : Nat} {lp : List Pm} {tr sc : Bool} {lb : List Stm} {ex : Ex} {τ1 τ2 τ3 τ4 τ5 τ6 τ7 τ8 τ9 : RS}
 (S : Hid (A4 W r4 rb g cap ws d p0 p1 (.slice p m k) p3 (.ok (x :: tt)))) (G : Hid (W.ownsRow B 65 12 (.slice p m k) m xs)) (hB : r4 < B ∧ rb < B ∧ g < B ∧ B ≤ W.heap.size) (hl : m ≤ 1000000) (hlim : Hid (limF m 16 (.ok (x :: tt)) = .ok (x :: tt))) (hx : x.k ≠ 3)
 (H1 : Hid (nameF (.ok tt) = ((nm,a),τ1))) (H2 : Hid (paramsF τ1 = (lp,τ2))) (H3 : Hid (kindF τ2 = ((tr,sc),τ3))) (H4 : Hid (τ3.need (⟨#[123]⟩ : ByteArray).data.toList = τ4)) (H5 : Hid (stmtsF n (d + 1) (⟨#[114,101,116,117,114,110]⟩ : ByteArray).data.toList τ4 = (lb,τ5))) (H6 : Hid (τ5.need (⟨#[114,101,116,117,114,110]⟩ : ByteArray).data.toList = τ6)) (H7 : Hid (exF τ6 = (ex,τ7))) (H8 : Hid (τ7.need (⟨#[59]⟩ : ByteArray).data.toList = τ8)) (H9 : Hid (τ8.need (⟨#[125]⟩ : ByteArray).data.toList = τ9))
 (HG : Hid (GStmts r4 rb g ws n)) (hlen : 3 * τ4.len + 1 ≤ n) (hd : d + 1 ≤ 32) :
 Calls Try.prog 49 #[.pointer (some ⟨r4,0,none⟩)] W fun e w' => e = .returned (.tuple #[]) ∧ ∃ q,A4 w' r4 rb g cap ws d p0 p1 q p3 τ9 ∧ Fr3 r4 rb (Value.slice p m k).ownBlock W w' ∧ ∀ t,τ9 = .ok t → ∃ fv,w'.ownsRow B 65 12 q (m + 1) (xs ++ fnCells ⟨a,nm,lp,tr,sc,lb,ex⟩ fv) ∧ IsFn1 (fun b => W.heap.size ≤ b) w' ⟨a,nm,lp,tr,sc,lb,ex⟩ fv:=by
 have hBW:=hB.2.2.2
 have HLT : Hid (∀ j,(Value.slice p m k).ownBlock = some j → B ≤ j ∧ j < W.heap.size):=hid G.out.lt
 obtain ⟨i0,hinf,hzi0,hzi1,hzi2⟩:=info_parts infoFn
 obtain ⟨m0,m1,m2,m3,m4,m5⟩:=S.out.at4.cells
 have ml0:=S.out.at4.lt
 go_enter Try.func49,Try.ntmps49
 go_upto_region 2 with (first
  | (go_at_call 46;(with_reducible refine (r4_limit16 S m).mono ?_);rintro e1 w1 ⟨rfl,hs1,hf1⟩;have S1 : Hid (A4 w1 r4 rb g cap ws d p0 p1 (.slice p m k) p3 (.ok (x :: tt))):=hid (hlim.out ▸ hs1))
  | (go_at_call 23;(with_reducible refine (r4_ok S1 true rfl).mono ?_);rintro e2 w2 ⟨rfl,hb2⟩;have S2:=hid (S1.out.stay hb2)))
 have F2 : Fr (some rb) W w2:=hf1.stepB hb2
 clear m0 m1 m2 m3 m4 m5 ml0
 obtain ⟨q4l,qbl,qgl⟩:=S2.out.blk
 obtain ⟨i,a9,R0,h5,_,_,_⟩:=S2.out.st.ok_cells S2.out.env
 obtain ⟨m0,_,_,_,_,_⟩:=S2.out.at4.cells
 obtain ⟨q0,q1,q2,q3,q4⟩:=R0.rd.cells
 have hlr:=R0.rd.lt
 have hfr:=R0.rd.frozen 1
 go_upto_region 3 with (fail)
 refine name_world ?_
 intro w3 hw3
 have F9 : Fr (some rb) w2 (w2.setCell ⟨rb,1,none⟩ (.int .i64 ((i : Int) + 1))):=(Fr.refl _ _).set (.inl rfl) _ _
 have S3 : Hid (A4 w3 r4 rb g cap ws d p0 p1 (.slice p m k) p3 (.ok tt)):=hid (by (rw [hw3];exact S2.out.fr F9 (st_adv S2.out.st R0 hx h5)))
 have F3 : Fr3 r4 rb none W w3:=by (rw [hw3];exact .of (F2.step F9))
 have hz3:=F3.1.1
 clear hw3 m0 q0 q1 q2 q3 q4 R0 h5 F9 hlr hfr q4l qbl qgl
 obtain ⟨q4l,qbl,qgl⟩:=S3.out.blk
 have FB3:=FBlk.new (X:=w3) (a:=0) (nm:=⟨#[]⟩) (pv:=(.slice none 0 0)) (tr:=false) (sc:=false) (bv:=(.slice none 0 0)) (k:=0) (q:=0) (n:=0) (s:=⟨#[]⟩) (kv:=(.slice none 0 0)) (xa:=0) rfl
 have S3':=hid (S3.out.alloc (.cells #[.int .i64 0,.string ⟨#[]⟩,.slice none 0 0,.bool false,.bool false,.slice none 0 0,.int .i64 0,.int .i64 0,.int .i64 0,.string ⟨#[]⟩,.slice none 0 0,.int .i64 0] 65))
 go_upto_region 5 with (go_at_call 47;(with_reducible refine (r4_name S3' H1.out).mono ?_);rintro e4 w4 ⟨rfl,hs4,hf4⟩;have hz4:=Fr.size hf4;(try simp only [World.size_alloc] at hz4))
 refine name_world ?_
 intro w5 hw5
 have FB5 : FBlk w5 w3.heap.size 0 ⟨#[]⟩ (.slice none 0 0) false false (.slice none 0 0) 0 0 0 ⟨#[]⟩ (.slice none 0 0) 0:=by (rw [hw5];exact (FB3.fr hf4 (by omega)).alloc _)
 have TB5 : TBlk w5 w4.heap.size (bstr nm) a:=by (rw [hw5];exact TBlk.new rfl)
 have S5 : Hid (A4 w5 r4 rb g cap ws d p0 p1 (.slice p m k) p3 τ1):=hid (by (rw [hw5];exact hs4.alloc _))
 have F5 : Fr3 r4 rb none W w5:=by (rw [hw5];exact ((F3.alloc _).step hf4).alloc _)
 have hz5 : w3.heap.size < w5.heap.size:=by (rw [hw5];simp;omega)
 obtain ⟨fl,⟨fc0,fc1,fc2,fc3,fc4,fc5,fc6,fc7,fc8,fc9,fc10,fc11⟩,ff0,ff1,ff2,ff3,ff4,ff5,ff6,ff7,ff8,ff9,ff10,ff11⟩:=FB5.facts
 obtain ⟨tl5,tc0,tc1,tf0,tf1⟩:=TB5.facts
 clear hw5
 go_upto_region 7 with (fail)
 refine name_world ?_
 intro w6 hw6
 have FB6 : FBlk w6 w3.heap.size a (bstr nm) (.slice none 0 0) false false (.slice none 0 0) 0 0 0 ⟨#[]⟩ (.slice none 0 0) 0:=by (rw [hw6];exact (FB5.set1 _).set0 _)
 have S6 : Hid (A4 w6 r4 rb g cap ws d p0 p1 (.slice p m k) p3 τ1):=hid (by (rw [hw6];exact (S5.out.setO (by omega) (by omega) (by omega) _ _).setO (by omega) (by omega) (by omega) _ _))
 have F6 : Fr3 r4 rb none W w6:=by (rw [hw6];exact (F5.set (.inr (.inr (by omega))) _ _).set (.inr (.inr (by omega))) _ _)
 have hz6 : w3.heap.size < w6.heap.size:=by (rw [hw6];simpa using hz5)
 clear hw6 tl5 tc0 tc1 tf0 tf1 fl fc0 fc1 fc2 fc3 fc4 fc5 fc6 fc7 fc8 fc9 fc10 fc11 ff0 ff1 ff2 ff3 ff4 ff5 ff6 ff7 ff8 ff9 ff10 ff11 FB5 TB5 S5 F5 hz5 hs4 hf4 S3' FB3
 have hne : rb ≠ w3.heap.size ∧ r4 ≠ w3.heap.size ∧ g ≠ w3.heap.size ∧ w3.heap.size ≠ rb:=by omega
 have hlo : W.heap.size ≤ w6.heap.size:=F6.1.1
 have hq6 : w6.heap.size ≤ w6.heap.size:=Nat.le_refl _
 obtain ⟨fl,⟨fc0,fc1,fc2,fc3,fc4,fc5,fc6,fc7,fc8,fc9,fc10,fc11⟩,ff0,ff1,ff2,ff3,ff4,ff5,ff6,ff7,ff8,ff9,ff10,ff11⟩:=FB6.facts
 go_upto_region 8 with (go_at_call 65;(with_reducible refine (r4_paramsQ S6 H2.out).mono ?_);rintro e w ⟨⟨zp,zc,rfl,hp7⟩,hs,hf⟩;have BQ:=FB6.fr hf hne.2.2.2;obtain ⟨gl,⟨gc0,gc1,gc2,gc3,gc4,gc5,gc6,gc7,gc8,gc9,gc10,gc11⟩,gf0,gf1,gf2,gf3,gf4,gf5,gf6,gf7,gf8,gf9,gf10,gf11⟩:=BQ.facts)
 refine name_world ?_
 intro w7 hw7
 have FB7 : FBlk w7 w3.heap.size a (bstr nm) (.slice zp lp.length zc) false false (.slice none 0 0) 0 0 0 ⟨#[]⟩ (.slice none 0 0) 0:=by (rw [hw7];exact (BQ.set2 _))
 have S7 : Hid (A4 w7 r4 rb g cap ws d p0 p1 (.slice p m k) p3 τ2):=hid (by (rw [hw7];exact (hs.setO hne.2.1 hne.1 hne.2.2.1 _ _)))
 have F7 : Fr3 r4 rb none W w7:=by (rw [hw7];exact ((F6.step hf).set (.inr (.inr (by omega))) _ _))
 have Hi7 : Hi w6.heap.size w6 w7:=by (rw [hw7];exact (((Hi.refl w6.heap.size w6).fr hf (by omega)).set (by omega) _ _))
 have hz7 : w3.heap.size < w7.heap.size:=by (have:=Hi7.1;omega)
 have hq7 : w6.heap.size ≤ w7.heap.size:=Nat.le_trans hq6 Hi7.1
 have XP:=hid (show IsPl (fun g => w6.heap.size ≤ g) 137 3 pmCells w7 lp (.slice zp lp.length zc) by (rw [hw7];exact (hp7.hi ((Hi.refl _ _).set (by omega) _ _))))
 clear hw7 fl fc0 fc1 fc2 fc3 fc4 fc5 fc6 fc7 fc8 fc9 fc10 fc11 ff0 ff1 ff2 ff3 ff4 ff5 ff6 ff7 ff8 ff9 ff10 ff11 gc0 gc1 gc2 gc3 gc4 gc5 gc6 gc7 gc8 gc9 gc10 gc11 gf0 gf1 gf2 gf3 gf4 gf5 gf6 gf7 gf8 gf9 gf10 gf11 gl BQ hs hf FB6 S6 F6
 obtain ⟨fl,⟨fc0,fc1,fc2,fc3,fc4,fc5,fc6,fc7,fc8,fc9,fc10,fc11⟩,ff0,ff1,ff2,ff3,ff4,ff5,ff6,ff7,ff8,ff9,ff10,ff11⟩:=FB7.facts
 go_upto_region 9 with (go_at_call 66;(with_reducible refine (r4_kind S7 H3.out).mono ?_);rintro e w ⟨rfl,hs,hf⟩;have BQ:=FB7.fr hf hne.2.2.2;obtain ⟨gl,⟨gc0,gc1,gc2,gc3,gc4,gc5,gc6,gc7,gc8,gc9,gc10,gc11⟩,gf0,gf1,gf2,gf3,gf4,gf5,gf6,gf7,gf8,gf9,gf10,gf11⟩:=BQ.facts)
 refine name_world ?_
 intro w8 hw8
 have FB8 : FBlk w8 w3.heap.size a (bstr nm) (.slice zp lp.length zc) tr sc (.slice none 0 0) 0 0 0 ⟨#[]⟩ (.slice none 0 0) 0:=by (rw [hw8];exact ((BQ.set3 _).set4 _))
 have S8 : Hid (A4 w8 r4 rb g cap ws d p0 p1 (.slice p m k) p3 τ3):=hid (by (rw [hw8];exact ((hs.setO hne.2.1 hne.1 hne.2.2.1 _ _).setO hne.2.1 hne.1 hne.2.2.1 _ _)))
 have F8 : Fr3 r4 rb none W w8:=by (rw [hw8];exact (((F7.step hf).set (.inr (.inr (by omega))) _ _).set (.inr (.inr (by omega))) _ _))
 have Hi8 : Hi w6.heap.size w7 w8:=by (rw [hw8];exact ((((Hi.refl w6.heap.size w7).fr hf (by omega)).set (by omega) _ _).set (by omega) _ _))
 have hz8 : w3.heap.size < w8.heap.size:=by (have:=Hi8.1;omega)
 have hq8 : w6.heap.size ≤ w8.heap.size:=Nat.le_trans hq7 Hi8.1
 have XP':=hid (XP.out.hi Hi8)
 clear XP
 clear hw8 fl fc0 fc1 fc2 fc3 fc4 fc5 fc6 fc7 fc8 fc9 fc10 fc11 ff0 ff1 ff2 ff3 ff4 ff5 ff6 ff7 ff8 ff9 ff10 ff11 gc0 gc1 gc2 gc3 gc4 gc5 gc6 gc7 gc8 gc9 gc10 gc11 gf0 gf1 gf2 gf3 gf4 gf5 gf6 gf7 gf8 gf9 gf10 gf11 gl BQ hs hf FB7 S7 F7
 obtain ⟨fl,⟨fc0,fc1,fc2,fc3,fc4,fc5,fc6,fc7,fc8,fc9,fc10,fc11⟩,ff0,ff1,ff2,ff3,ff4,ff5,ff6,ff7,ff8,ff9,ff10,ff11⟩:=FB8.facts
 go_upto_region 10 with (go_at_call 48;(with_reducible refine (r4_need S8 _ _ H4).mono ?_);rintro e w ⟨rfl,hs,hf⟩;have BQ:=FB8.fr hf hne.2.2.2;obtain ⟨gl,⟨gc0,gc1,gc2,gc3,gc4,gc5,gc6,gc7,gc8,gc9,gc10,gc11⟩,gf0,gf1,gf2,gf3,gf4,gf5,gf6,gf7,gf8,gf9,gf10,gf11⟩:=BQ.facts)
 refine name_world ?_
 intro w9 hw9
 have FB9 : FBlk w9 w3.heap.size a (bstr nm) (.slice zp lp.length zc) tr sc (.slice none 0 0) 0 0 0 ⟨#[]⟩ (.slice none 0 0) 0:=by (rw [hw9];exact BQ)
 have S9 : Hid (A4 w9 r4 rb g cap ws d p0 p1 (.slice p m k) p3 τ4):=hid (by (rw [hw9];exact hs))
 have F9 : Fr3 r4 rb none W w9:=by (rw [hw9];exact (F8.step hf))
 have Hi9 : Hi w6.heap.size w8 w9:=by (rw [hw9];exact ((Hi.refl w6.heap.size w8).fr hf (by omega)))
 have hz9 : w3.heap.size < w9.heap.size:=by (have:=Hi9.1;omega)
 have hq9 : w6.heap.size ≤ w9.heap.size:=Nat.le_trans hq8 Hi9.1
 have XP'':=hid (XP'.out.hi Hi9)
 clear XP'
 clear hw9 fl fc0 fc1 fc2 fc3 fc4 fc5 fc6 fc7 fc8 fc9 fc10 fc11 ff0 ff1 ff2 ff3 ff4 ff5 ff6 ff7 ff8 ff9 ff10 ff11 gc0 gc1 gc2 gc3 gc4 gc5 gc6 gc7 gc8 gc9 gc10 gc11 gf0 gf1 gf2 gf3 gf4 gf5 gf6 gf7 gf8 gf9 gf10 gf11 gl BQ hs hf FB8 S8 F8
 obtain ⟨m0,m1,_,_,_,_⟩:=S9.out.at4.cells
 have ml:=S9.out.at4.lt
 have mf:=S9.out.at4.frozen 1
 go_upto_region 11 with (fail)
 refine name_world ?_
 intro w10 hw10
 have hd1 : ((d + 1 : Nat) : Int) = (d : Int) + 1:=by omega
 have FB10 : FBlk w10 w3.heap.size a (bstr nm) (.slice zp lp.length zc) tr sc (.slice none 0 0) 0 0 0 ⟨#[]⟩ (.slice none 0 0) 0:=by (rw [hw10];exact FB9.setO hne.2.1.symm _ _)
 have S10 : Hid (A4 w10 r4 rb g cap ws ((d + 1 : Nat) : Int) p0 p1 (.slice p m k) p3 τ4):=hid (by (rw [hw10];exact S9.out.setD _))
 have F10 : Fr3 r4 rb none W w10:=by (rw [hw10];exact F9.set (.inl rfl) _ _)
 have Hi10 : Hi w6.heap.size w9 w10:=by (rw [hw10];exact (Hi.refl _ _).set (by omega) _ _)
 have hz10 : w3.heap.size < w10.heap.size:=by (have:=Hi10.1;omega)
 have hq10 : w6.heap.size ≤ w10.heap.size:=Nat.le_trans hq9 Hi10.1
 have XP''':=hid (XP''.out.hi Hi10)
 clear XP''
 clear hw10 m0 m1 mf ml hd1 FB9 S9 F9
 obtain ⟨fl,⟨fc0,fc1,fc2,fc3,fc4,fc5,fc6,fc7,fc8,fc9,fc10,fc11⟩,ff0,ff1,ff2,ff3,ff4,ff5,ff6,ff7,ff8,ff9,ff10,ff11⟩:=FB10.facts
 go_upto_region 12 with (go_at_call 67;(with_reducible refine (HG.out.use S10 hlen (.inl hd) _ H5.out).mono ?_);rintro e w ⟨⟨bp,bm,bc,rfl,hb12⟩,hs,hf⟩;have BQ:=FB10.fr hf hne.2.2.2;obtain ⟨gl,⟨gc0,gc1,gc2,gc3,gc4,gc5,gc6,gc7,gc8,gc9,gc10,gc11⟩,gf0,gf1,gf2,gf3,gf4,gf5,gf6,gf7,gf8,gf9,gf10,gf11⟩:=BQ.facts)
 refine name_world ?_
 intro w11 hw11
 have FB11 : FBlk w11 w3.heap.size a (bstr nm) (.slice zp lp.length zc) tr sc (.slice bp bm bc) 0 0 0 ⟨#[]⟩ (.slice none 0 0) 0:=by (rw [hw11];exact (BQ.set5 _))
 have S11 : Hid (A4 w11 r4 rb g cap ws ((d + 1 : Nat) : Int) p0 p1 (.slice p m k) p3 τ5):=hid (by (rw [hw11];exact (hs.setO hne.2.1 hne.1 hne.2.2.1 _ _)))
 have F11 : Fr3 r4 rb none W w11:=by (rw [hw11];exact ((F10.step hf).set (.inr (.inr (by omega))) _ _))
 have Hi11 : Hi w6.heap.size w10 w11:=by (rw [hw11];exact (((Hi.refl w6.heap.size w10).fr hf (by omega)).set (by omega) _ _))
 have hz11 : w3.heap.size < w11.heap.size:=by (have:=Hi11.1;omega)
 have hq11 : w6.heap.size ≤ w11.heap.size:=Nat.le_trans hq10 Hi11.1
 have XB:=hid (show ∀ t,τ5 = .ok t → IsSts (fun g => w6.heap.size ≤ g) w11 lb (.slice bp bm bc) from fun t ht => by (rw [hw11];exact ((hb12 t ht).lo (by omega)).hi ((Hi.refl _ _).set (by omega) _ _)))
 have XP'''':=hid (XP'''.out.hi Hi11)
 clear XP'''
 clear hw11 fl fc0 fc1 fc2 fc3 fc4 fc5 fc6 fc7 fc8 fc9 fc10 fc11 ff0 ff1 ff2 ff3 ff4 ff5 ff6 ff7 ff8 ff9 ff10 ff11 gc0 gc1 gc2 gc3 gc4 gc5 gc6 gc7 gc8 gc9 gc10 gc11 gf0 gf1 gf2 gf3 gf4 gf5 gf6 gf7 gf8 gf9 gf10 gf11 gl BQ hs hf FB10 S10 F10
 obtain ⟨fl,⟨fc0,fc1,fc2,fc3,fc4,fc5,fc6,fc7,fc8,fc9,fc10,fc11⟩,ff0,ff1,ff2,ff3,ff4,ff5,ff6,ff7,ff8,ff9,ff10,ff11⟩:=FB11.facts
 go_upto_region 13 with (go_at_call 48;(with_reducible refine (r4_need S11 _ _ H6).mono ?_);rintro e w ⟨rfl,hs,hf⟩;have BQ:=FB11.fr hf hne.2.2.2;obtain ⟨gl,⟨gc0,gc1,gc2,gc3,gc4,gc5,gc6,gc7,gc8,gc9,gc10,gc11⟩,gf0,gf1,gf2,gf3,gf4,gf5,gf6,gf7,gf8,gf9,gf10,gf11⟩:=BQ.facts)
 refine name_world ?_
 intro w12 hw12
 have FB12 : FBlk w12 w3.heap.size a (bstr nm) (.slice zp lp.length zc) tr sc (.slice bp bm bc) 0 0 0 ⟨#[]⟩ (.slice none 0 0) 0:=by (rw [hw12];exact BQ)
 have S12 : Hid (A4 w12 r4 rb g cap ws ((d + 1 : Nat) : Int) p0 p1 (.slice p m k) p3 τ6):=hid (by (rw [hw12];exact hs))
 have F12 : Fr3 r4 rb none W w12:=by (rw [hw12];exact (F11.step hf))
 have Hi12 : Hi w6.heap.size w11 w12:=by (rw [hw12];exact ((Hi.refl w6.heap.size w11).fr hf (by omega)))
 have hz12 : w3.heap.size < w12.heap.size:=by (have:=Hi12.1;omega)
 have hq12 : w6.heap.size ≤ w12.heap.size:=Nat.le_trans hq11 Hi12.1
 have XP''''':=hid (XP''''.out.hi Hi12)
 clear XP''''
 have XB':=hid (fun t ht => (XB.out t ht).hi Hi12)
 clear XB
 clear hw12 fl fc0 fc1 fc2 fc3 fc4 fc5 fc6 fc7 fc8 fc9 fc10 fc11 ff0 ff1 ff2 ff3 ff4 ff5 ff6 ff7 ff8 ff9 ff10 ff11 gc0 gc1 gc2 gc3 gc4 gc5 gc6 gc7 gc8 gc9 gc10 gc11 gf0 gf1 gf2 gf3 gf4 gf5 gf6 gf7 gf8 gf9 gf10 gf11 gl BQ hs hf FB11 S11 F11
 obtain ⟨fl,⟨fc0,fc1,fc2,fc3,fc4,fc5,fc6,fc7,fc8,fc9,fc10,fc11⟩,ff0,ff1,ff2,ff3,ff4,ff5,ff6,ff7,ff8,ff9,ff10,ff11⟩:=FB12.facts
 go_upto_region 14 with (go_at_call 68;(with_reducible refine (r4_exprQ S12 H7.out).mono ?_);rintro e w ⟨⟨ek,eo,en,es,ep,el,ec,ea,rfl,hx14⟩,hs,hf⟩;have BQ:=FB12.fr hf hne.2.2.2;obtain ⟨gl,⟨gc0,gc1,gc2,gc3,gc4,gc5,gc6,gc7,gc8,gc9,gc10,gc11⟩,gf0,gf1,gf2,gf3,gf4,gf5,gf6,gf7,gf8,gf9,gf10,gf11⟩:=BQ.facts)
 refine name_world ?_
 intro w13 hw13
 have FB13 : FBlk w13 w3.heap.size a (bstr nm) (.slice zp lp.length zc) tr sc (.slice bp bm bc) ek eo en es (.slice ep el ec) ea:=by (rw [hw13];exact ((((((BQ.set6 _).set7 _).set8 _).set9 _).set10 _).set11 _))
 have S13 : Hid (A4 w13 r4 rb g cap ws ((d + 1 : Nat) : Int) p0 p1 (.slice p m k) p3 τ7):=hid (by (rw [hw13];exact ((((((hs.setO hne.2.1 hne.1 hne.2.2.1 _ _).setO hne.2.1 hne.1 hne.2.2.1 _ _).setO hne.2.1 hne.1 hne.2.2.1 _ _).setO hne.2.1 hne.1 hne.2.2.1 _ _).setO hne.2.1 hne.1 hne.2.2.1 _ _).setO hne.2.1 hne.1 hne.2.2.1 _ _)))
 have F13 : Fr3 r4 rb none W w13:=by (rw [hw13];exact (((((((F12.step hf).set (.inr (.inr (by omega))) _ _).set (.inr (.inr (by omega))) _ _).set (.inr (.inr (by omega))) _ _).set (.inr (.inr (by omega))) _ _).set (.inr (.inr (by omega))) _ _).set (.inr (.inr (by omega))) _ _))
 have Hi13 : Hi w6.heap.size w12 w13:=by (rw [hw13];exact ((((((((Hi.refl w6.heap.size w12).fr hf (by omega)).set (by omega) _ _).set (by omega) _ _).set (by omega) _ _).set (by omega) _ _).set (by omega) _ _).set (by omega) _ _))
 have hz13 : w3.heap.size < w13.heap.size:=by (have:=Hi13.1;omega)
 have hq13 : w6.heap.size ≤ w13.heap.size:=Nat.le_trans hq12 Hi13.1
 have XX:=hid (show ∀ t,τ7 = .ok t → VEx w6.heap.size w13 ex ek eo en es ep el ec ea from fun t ht => by (rw [hw13];exact ((hx14 t ht).low (by omega)).kept fun j hj hl => (((((((Hi.refl w6.heap.size _).set (show w3.heap.size < w6.heap.size by omega) _ _).set (show w3.heap.size < w6.heap.size by omega) _ _).set (show w3.heap.size < w6.heap.size by omega) _ _).set (show w3.heap.size < w6.heap.size by omega) _ _).set (show w3.heap.size < w6.heap.size by omega) _ _).set (show w3.heap.size < w6.heap.size by omega) _ _).2 j hj hl))
 have XP'''''':=hid (XP'''''.out.hi Hi13)
 clear XP'''''
 have XB'':=hid (fun t ht => (XB'.out t ht).hi Hi13)
 clear XB'
 clear hw13 fl fc0 fc1 fc2 fc3 fc4 fc5 fc6 fc7 fc8 fc9 fc10 fc11 ff0 ff1 ff2 ff3 ff4 ff5 ff6 ff7 ff8 ff9 ff10 ff11 gc0 gc1 gc2 gc3 gc4 gc5 gc6 gc7 gc8 gc9 gc10 gc11 gf0 gf1 gf2 gf3 gf4 gf5 gf6 gf7 gf8 gf9 gf10 gf11 gl BQ hs hf FB12 S12 F12
 obtain ⟨fl,⟨fc0,fc1,fc2,fc3,fc4,fc5,fc6,fc7,fc8,fc9,fc10,fc11⟩,ff0,ff1,ff2,ff3,ff4,ff5,ff6,ff7,ff8,ff9,ff10,ff11⟩:=FB13.facts
 go_upto_region 15 with (go_at_call 48;(with_reducible refine (r4_need S13 _ _ H8).mono ?_);rintro e w ⟨rfl,hs,hf⟩;have BQ:=FB13.fr hf hne.2.2.2;obtain ⟨gl,⟨gc0,gc1,gc2,gc3,gc4,gc5,gc6,gc7,gc8,gc9,gc10,gc11⟩,gf0,gf1,gf2,gf3,gf4,gf5,gf6,gf7,gf8,gf9,gf10,gf11⟩:=BQ.facts)
 refine name_world ?_
 intro w14 hw14
 have FB14 : FBlk w14 w3.heap.size a (bstr nm) (.slice zp lp.length zc) tr sc (.slice bp bm bc) ek eo en es (.slice ep el ec) ea:=by (rw [hw14];exact BQ)
 have S14 : Hid (A4 w14 r4 rb g cap ws ((d + 1 : Nat) : Int) p0 p1 (.slice p m k) p3 τ8):=hid (by (rw [hw14];exact hs))
 have F14 : Fr3 r4 rb none W w14:=by (rw [hw14];exact (F13.step hf))
 have Hi14 : Hi w6.heap.size w13 w14:=by (rw [hw14];exact ((Hi.refl w6.heap.size w13).fr hf (by omega)))
 have hz14 : w3.heap.size < w14.heap.size:=by (have:=Hi14.1;omega)
 have hq14 : w6.heap.size ≤ w14.heap.size:=Nat.le_trans hq13 Hi14.1
 have XP''''''':=hid (XP''''''.out.hi Hi14)
 clear XP''''''
 have XB''':=hid (fun t ht => (XB''.out t ht).hi Hi14)
 clear XB''
 have XX':=hid (fun t ht => (XX.out t ht).kept fun j hj hl => Hi14.2 j hj hl)
 clear XX
 clear hw14 fl fc0 fc1 fc2 fc3 fc4 fc5 fc6 fc7 fc8 fc9 fc10 fc11 ff0 ff1 ff2 ff3 ff4 ff5 ff6 ff7 ff8 ff9 ff10 ff11 gc0 gc1 gc2 gc3 gc4 gc5 gc6 gc7 gc8 gc9 gc10 gc11 gf0 gf1 gf2 gf3 gf4 gf5 gf6 gf7 gf8 gf9 gf10 gf11 gl BQ hs hf FB13 S13 F13
 obtain ⟨O,hO⟩ : ∃ O : Int,O = ((d + 1 : Nat) : Int):=⟨_,rfl⟩
 have HO:=hid hO
 have S14' : Hid (A4 w14 r4 rb g cap ws O p0 p1 (.slice p m k) p3 τ8):=hid (hO ▸ S14.out)
 clear hO
 clear S14
 have S14:=S14'
 clear S14'
 obtain ⟨fl,⟨fc0,fc1,fc2,fc3,fc4,fc5,fc6,fc7,fc8,fc9,fc10,fc11⟩,ff0,ff1,ff2,ff3,ff4,ff5,ff6,ff7,ff8,ff9,ff10,ff11⟩:=FB14.facts
 go_upto_region 16 with (go_at_call 48;(with_reducible refine (r4_need S14 _ _ H9).mono ?_);rintro e w ⟨rfl,hs,hf⟩;have BQ:=FB14.fr hf hne.2.2.2;obtain ⟨gl,⟨gc0,gc1,gc2,gc3,gc4,gc5,gc6,gc7,gc8,gc9,gc10,gc11⟩,gf0,gf1,gf2,gf3,gf4,gf5,gf6,gf7,gf8,gf9,gf10,gf11⟩:=BQ.facts)
 refine name_world ?_
 intro w15 hw15
 have FB15 : FBlk w15 w3.heap.size a (bstr nm) (.slice zp lp.length zc) tr sc (.slice bp bm bc) ek eo en es (.slice ep el ec) ea:=by (rw [hw15];exact BQ)
 have S15 : Hid (A4 w15 r4 rb g cap ws O p0 p1 (.slice p m k) p3 τ9):=hid (by (rw [hw15];exact hs))
 have F15 : Fr3 r4 rb none W w15:=by (rw [hw15];exact (F14.step hf))
 have Hi15 : Hi w6.heap.size w14 w15:=by (rw [hw15];exact ((Hi.refl w6.heap.size w14).fr hf (by omega)))
 have hz15 : w3.heap.size < w15.heap.size:=by (have:=Hi15.1;omega)
 have hq15 : w6.heap.size ≤ w15.heap.size:=Nat.le_trans hq14 Hi15.1
 have XP'''''''':=hid (XP'''''''.out.hi Hi15)
 clear XP'''''''
 have XB'''':=hid (fun t ht => (XB'''.out t ht).hi Hi15)
 clear XB'''
 have XX'':=hid (fun t ht => (XX'.out t ht).kept fun j hj hl => Hi15.2 j hj hl)
 clear XX'
 clear hw15 fl fc0 fc1 fc2 fc3 fc4 fc5 fc6 fc7 fc8 fc9 fc10 fc11 ff0 ff1 ff2 ff3 ff4 ff5 ff6 ff7 ff8 ff9 ff10 ff11 gc0 gc1 gc2 gc3 gc4 gc5 gc6 gc7 gc8 gc9 gc10 gc11 gf0 gf1 gf2 gf3 gf4 gf5 gf6 gf7 gf8 gf9 gf10 gf11 gl BQ hs hf FB14 S14 F14
 obtain ⟨m0,m1,_,_,_,_⟩:=S15.out.at4.cells
 have ml:=S15.out.at4.lt
 have mf:=S15.out.at4.frozen 1
 go_upto_region 17 with (fail)
 refine name_world ?_
 intro w16 hw16
 have hwd : wrap64 (O - 1) = (d : Int):=by (rw [HO.out];unfold wrap64;omega)
 have FB16 : FBlk w16 w3.heap.size a (bstr nm) (.slice zp lp.length zc) tr sc (.slice bp bm bc) ek eo en es (.slice ep el ec) ea:=by (rw [hw16];exact FB15.setO hne.2.1.symm _ _)
 have S16 : Hid (A4 w16 r4 rb g cap ws d p0 p1 (.slice p m k) p3 τ9):=hid (by (rw [hw16];first | exact S15.out.setD _ | (rw [hwd];exact S15.out.setD _)))
 have F16 : Fr3 r4 rb none W w16:=by (rw [hw16];exact F15.set (.inl rfl) _ _)
 have Hi16 : Hi w6.heap.size w15 w16:=by (rw [hw16];exact (Hi.refl _ _).set (by omega) _ _)
 have hz16 : w3.heap.size < w16.heap.size:=by (have:=Hi16.1;omega)
 have hq16 : w6.heap.size ≤ w16.heap.size:=Nat.le_trans hq15 Hi16.1
 have XP''''''''':=hid (XP''''''''.out.hi Hi16)
 clear XP''''''''
 have XB''''':=hid (fun t ht => (XB''''.out t ht).hi Hi16)
 clear XB''''
 have XX''':=hid (fun t ht => (XX''.out t ht).kept fun j hj hl => Hi16.2 j hj hl)
 clear XX''
 clear hw16 hwd m0 m1 mf ml FB15 S15 F15
 have G16 : w16.ownsRow B 65 12 (.slice p m k) m xs:=own_fr0 G.out F16 hB.1 hB.2.1
 have hzW:=F16.1.1
 obtain ⟨fl,⟨fc0,fc1,fc2,fc3,fc4,fc5,fc6,fc7,fc8,fc9,fc10,fc11⟩,ff0,ff1,ff2,ff3,ff4,ff5,ff6,ff7,ff8,ff9,ff10,ff11⟩:=FB16.facts
 obtain ⟨m0,m1,m2,m3,m4,m5⟩:=S16.out.at4.cells
 have ml:=S16.out.at4.lt
 have mf:=S16.out.at4.frozen 4
 have hown : ∀ k',k' < B → some k' ≠ (Value.slice p m k).ownBlock:=fun k' hk e => by (have:=(HLT.out k' e.symm).1;omega)
 go_region_law (refine step_append_lies _ (by rfl) _ _ _ (by rfl) B 65 i0 _ 12 152 Try.underlying26 hinf hzi0 hzi1 hzi2 rfl (by decide) (.slice p m k) m xs (by rfl) (own_below G16 (by (with_reducible repeat first | exact Below.refl _ _ | refine Below.alloc ?_ (by first | omega | (simp;omega)) _ | refine Below.drewN ?_ _ | refine Below.drew ?_ | refine Below.setCell ?_ (by first | omega | (simp;omega)) _ | refine Below.trans ?_ (by assumption)))) ⟨_,0,none⟩ 1 1 [.int .i64 a,.string (bstr nm),.slice zp lp.length zc,.bool tr,.bool sc,.slice bp bm bc,.int .i64 ek,.int .i64 eo,.int .i64 en,.string es,.slice ep el ec,.int .i64 ea] (by rfl) (by rfl) (World.news_of_block (heap_alloc_new _ _)) raw12_one (by decide) (by unfold maxLen;omega) (by omega) (by simp;omega) _ rfl ?_;intro gg cap6 w30 hown9 hgrow9 hor9 hlt9;have hgr9 : World.grownBy _ w30 (Value.slice p m k).ownBlock:=hgrow9;have S30:=hid (((S16.out.drew).alloc (.cells #[.int .i64 a,.string (bstr nm),.slice zp lp.length zc,.bool tr,.bool sc,.slice bp bm bc,.int .i64 ek,.int .i64 eo,.int .i64 en,.string es,.slice ep el ec,.int .i64 ea] 65)).grow hgr9 (hown _ hB.1) (hown _ hB.2.1) (hown _ hB.2.2.1));obtain ⟨n0,n1,n2,n3,n4,n5⟩:=S30.out.at4.cells;have nl:=S30.out.at4.lt;have nf:=S30.out.at4.frozen 4)
 all_goals go_end0
 all_goals
  have FR : Fr3 r4 rb (Value.slice p m k).ownBlock W (w30.setCell ⟨r4,4,none⟩ (.slice (some ⟨gg,0,none⟩) (m + 1) cap6)):=((((F16.drew).alloc (.cells #[.int .i64 a,.string (bstr nm),.slice zp lp.length zc,.bool tr,.bool sc,.slice bp bm bc,.int .i64 ek,.int .i64 eo,.int .i64 en,.string es,.slice ep el ec,.int .i64 ea] 65)).grow hgr9).set (.inl rfl) _ _)
  refine ⟨rfl,_,S30.out.set4 _,FR,fun t ht => ?_⟩
  have h:=own_fr hown9 ((Fr.refl (some r4) _).set (.inl rfl) 4 (.slice (some ⟨gg,0,none⟩) (m + 1) cap6)) hB.1
  have HI : Hi w6.heap.size w16 (w30.setCell ⟨r4,4,none⟩ (.slice (some ⟨gg,0,none⟩) (m + 1) cap6)):=by
   have h1 : Hi w6.heap.size w16 ((w16.drew).alloc (.cells #[.int .i64 a,.string (bstr nm),.slice zp lp.length zc,.bool tr,.bool sc,.slice bp bm bc,.int .i64 ek,.int .i64 eo,.int .i64 en,.string es,.slice ep el ec,.int .i64 ea] 65)):=(Hi.refl _ _).stay (((Below.refl _ _).drew).alloc (Nat.le_refl _) _)
   refine Hi.set ⟨Nat.le_trans h1.1 hgr9.size,fun g' hg' hl' => (hgr9.block g' (Nat.lt_of_lt_of_le hl' h1.1) (fun e => ?_)).trans (h1.2 g' hg' hl')⟩ (by omega) _ _
   have:=(HLT.out g' e.symm).2
   omega
  obtain ⟨t8,ht8⟩:=needQ_ok H9.out ht
  obtain ⟨t7,ht7⟩:=needQ_ok H8.out ht8
  obtain ⟨t6,ht6⟩:=exQ_ok H7.out ht7
  obtain ⟨t5,ht5⟩:=needQ_ok H6.out ht6
  have hx:=(XX'''.out t7 ht7).kept fun j hj hl => HI.2 j hj hl
  obtain ⟨rfl,rfl,rfl,rfl,rfl,rfl,hk⟩:=hx
  refine ⟨⟨.slice zp lp.length zc,.slice bp bm bc,.slice ep ex.ks.length ec⟩,h,?_,?_,?_⟩
  · exact (XP'''''''''.out.hi HI).low hlo
  · exact ((XB'''''.out t5 ht5).hi HI).lo hlo
  · exact hk.toP fun b hb _ => ⟨rfl,Nat.le_trans hlo hb⟩
theorem r4_limit8 {r4 rb g cap : Nat} {ws : List Wd} {d : Int} {p0 p1 p2 p3 : Value} {W : World} {σ : RS} (S : Hid (A4 W r4 rb g cap ws d p0 p1 p2 p3 σ)) (n : Nat) :
 Calls Try.prog 46 #[.pointer (some ⟨r4,0,none⟩),.int .i64 n,.int .i64 8] W fun e w' => e = .returned (.tuple #[]) ∧ A4 w' r4 rb g cap ws d p0 p1 p2 p3 (limF n 8 σ) ∧ Fr (some rb) W w':=r4_limit S n 8
theorem rth_lockNo {r4 rb g cap B k : Nat} {ws : List Wd} {d : Int} {p : Option Addr} {p0 p2 p3 : Value} {W : World} {σ τ2 τ3 : RS} {l : List Lk} {nm : List UInt8} {a : Nat} {x : Wd} {tt : List Wd} {c0 : Int} {b0 : Nat} (S : Hid (A4 W r4 rb g cap ws d p0 (.slice p l.length k) p2 p3 σ)) (hL : Hid (σ.is (⟨#[108,111,99,107]⟩ : ByteArray).data.toList = true)) (hlim : Hid (limF l.length 8 σ = .bad c0 b0)) :
 Calls Try.prog 25 #[.pointer (some ⟨r4,0,none⟩)] W fun e w' => e = .returned (.tuple #[]) ∧ A4 w' r4 rb g cap ws d p0 (.slice p l.length k) p2 p3 (.bad c0 b0) ∧ Fr (some rb) W w':=by
 go_enter Try.func25,Try.ntmps25
 go_wp2_with (first
  | (go_at_call 45;(with_reducible refine (r4_is S _ true hL).mono ?_);rintro e0 w0 ⟨rfl,hb0⟩;have S0:=hid (S.out.stay hb0);obtain ⟨m0,m1,m2,m3,m4,m5⟩:=S0.out.at4.cells;have ml0:=S0.out.at4.lt)
  | (go_at_call 46;(with_reducible refine (r4_limit8 S0 l.length).mono ?_);rintro e1 w1 ⟨rfl,hs1,hf1⟩;have S1 : Hid (A4 w1 r4 rb g cap ws d p0 (.slice p l.length k) p2 p3 (.bad c0 b0)):=hid (hlim.out ▸ hs1))
  | (go_at_call 23;(with_reducible refine (r4_ok S1 false rfl).mono ?_);rintro e2 w2 ⟨rfl,hb2⟩))
 go_end0
 exact ⟨rfl,S1.out.stay hb2,((Fr.of hb0).step hf1).stepB hb2⟩
theorem rth_lockYes {r4 rb g cap B k : Nat} {ws : List Wd} {d : Int} {p : Option Addr} {p0 p2 p3 : Value} {W : World} {σ τ2 τ3 : RS} {l : List Lk} {nm : List UInt8} {a : Nat} {x : Wd} {tt : List Wd} (S : Hid (A4 W r4 rb g cap ws d p0 (.slice p l.length k) p2 p3 σ)) (G : Hid (W.ownsRow B 95 2 (.slice p l.length k) l.length (l.flatMap lkCells))) (hB : r4 < B ∧ rb < B ∧ g < B ∧ B ≤ W.heap.size) (hl : l.length ≤ 1000000) (hL : Hid (σ.is (⟨#[108,111,99,107]⟩ : ByteArray).data.toList = true)) (hlim : Hid (limF l.length 8 σ = .ok (x :: tt))) (hx : x.k ≠ 3) (H2 : Hid (nameF (.ok tt) = ((nm,a),τ2))) (h59 : Hid (τ2.need (⟨#[59]⟩ : ByteArray).data.toList = τ3)) :
 Calls Try.prog 25 #[.pointer (some ⟨r4,0,none⟩)] W fun e w' => e = .returned (.tuple #[]) ∧ ∃ q,A4 w' r4 rb g cap ws d p0 q p2 p3 τ3 ∧ w'.ownsRow B 95 2 q (l.length + 1) ((l ++ [(⟨a,nm⟩ : Lk)]).flatMap lkCells) ∧ Fr3 r4 rb (Value.slice p l.length k).ownBlock W w':=by
 have hBW:=hB.2.2.2
 have HLT : Hid (∀ j,(Value.slice p l.length k).ownBlock = some j → B ≤ j ∧ j < W.heap.size):=hid G.out.lt
 obtain ⟨i0,hinf,hzi0,hzi1,hzi2⟩:=info_parts infoLk
 go_enter Try.func25,Try.ntmps25
 go_upto_region 6 with (first
  | (go_at_call 45;(with_reducible refine (r4_is S _ true hL).mono ?_);rintro e0 w0 ⟨rfl,hb0⟩;have S0:=hid (S.out.stay hb0);obtain ⟨m0,m1,m2,m3,m4,m5⟩:=S0.out.at4.cells;have ml0:=S0.out.at4.lt)
  | (go_at_call 46;(with_reducible refine (r4_limit8 S0 l.length).mono ?_);rintro e1 w1 ⟨rfl,hs1,hf1⟩;have S1 : Hid (A4 w1 r4 rb g cap ws d p0 (.slice p l.length k) p2 p3 (.ok (x :: tt))):=hid (hlim.out ▸ hs1))
  | (go_at_call 23;(with_reducible refine (r4_ok S1 true rfl).mono ?_);rintro e2 w2 ⟨rfl,hb2⟩;have S2:=hid (S1.out.stay hb2)))
 have F2 : Fr (some rb) W w2:=((Fr.of hb0).step hf1).stepB hb2
 obtain ⟨q4l,qbl,qgl⟩:=S2.out.blk
 obtain ⟨i,a9,R0,h5,_,_,_⟩:=S2.out.st.ok_cells S2.out.env
 obtain ⟨m0,_,_,_,_,_⟩:=S2.out.at4.cells
 obtain ⟨q0,q1,q2,q3,q4⟩:=R0.rd.cells
 have hlr:=R0.rd.lt
 have hfr:=R0.rd.frozen 1
 go_upto_region 7 with (fail)
 refine name_world ?_
 intro w3 hw3
 have F9 : Fr (some rb) w2 (w2.setCell ⟨rb,1,none⟩ (.int .i64 ((i : Int) + 1))):=(Fr.refl _ _).set (.inl rfl) _ _
 have S3 : Hid (A4 w3 r4 rb g cap ws d p0 (.slice p l.length k) p2 p3 (.ok tt)):=hid (by (rw [hw3];exact S2.out.fr F9 (st_adv S2.out.st R0 hx h5)))
 have F3 : Fr (some rb) W w3:=by (rw [hw3];exact F2.step F9)
 have hz3:=Fr.size F3
 clear hw3 m0 q0 q1 q2 q3 q4 R0 h5 F9 hlr hfr q4l qbl qgl
 obtain ⟨q4l,qbl,qgl⟩:=S3.out.blk
 have KB3:=KBlk.new (X:=w3) (a:=0) (nm:=⟨#[]⟩) rfl
 have S3':=hid (S3.out.alloc (.cells #[.int .i64 0,.string ⟨#[]⟩] 95))
 go_upto_region 9 with (go_at_call 47;(with_reducible refine (r4_name S3' H2.out).mono ?_);rintro e4 w4 ⟨rfl,hs4,hf4⟩;have hz4:=Fr.size hf4;(try simp only [World.size_alloc] at hz4))
 refine name_world ?_
 intro w5 hw5
 have KB5 : KBlk w5 w3.heap.size 0 ⟨#[]⟩:=by (rw [hw5];exact (KB3.fr hf4 (by omega)).alloc _)
 have TB5 : TBlk w5 w4.heap.size (bstr nm) a:=by (rw [hw5];exact TBlk.new rfl)
 have S5 : Hid (A4 w5 r4 rb g cap ws d p0 (.slice p l.length k) p2 p3 τ2):=hid (by (rw [hw5];exact hs4.alloc _))
 have F5 : Fr (some rb) W w5:=by (rw [hw5];exact ((F3.alloc _).step hf4).alloc _)
 have hz5 : w3.heap.size < w5.heap.size:=by (rw [hw5];simp;omega)
 obtain ⟨kl5,⟨kc0,kc1⟩,kf0,kf1⟩:=KB5.facts
 obtain ⟨tl5,tc0,tc1,tf0,tf1⟩:=TB5.facts
 clear hw5
 go_upto_region 11 with (fail)
 refine name_world ?_
 intro w6 hw6
 have KB6 : KBlk w6 w3.heap.size a (bstr nm):=by (rw [hw6];exact (KB5.set1 _).set0 _)
 have F6 : Fr (some rb) W w6:=by (rw [hw6];exact (F5.set (.inr (by omega)) _ _).set (.inr (by omega)) _ _)
 have S6 : Hid (A4 w6 r4 rb g cap ws d p0 (.slice p l.length k) p2 p3 τ2):=hid (by (rw [hw6];exact (S5.out.setO (by omega) (by omega) (by omega) _ _).setO (by omega) (by omega) (by omega) _ _))
 clear hw6 kc0 kc1 kf0 kf1 tc0 tc1 tf0 tf1
 go_upto_region 12 with (go_at_call 48;(with_reducible refine (r4_need S6 _ _ h59).mono ?_);rintro e8 w8 ⟨rfl,hs8,hf8⟩)
 have KB8:=KB6.fr hf8 (by omega)
 have F8 : Fr (some rb) W w8:=F6.step hf8
 have G8:=own_fr G.out F8 hB.2.1
 have hz8:=Fr.size F8
 obtain ⟨kl8,⟨kc0,kc1⟩,_⟩:=KB8.facts
 obtain ⟨m0,m1,m2,m3,m4,m5⟩:=hs8.at4.cells
 have ml:=hs8.at4.lt
 have mf:=hs8.at4.frozen 3
 have hown : ∀ k',k' < B → some k' ≠ (Value.slice p l.length k).ownBlock:=fun k' hk e => by (have:=(HLT.out k' e.symm).1;omega)
 go_region_law (refine step_append_lies _ (by rfl) _ _ _ (by rfl) B 95 i0 _ 2 24 Try.underlying25 hinf hzi0 hzi1 hzi2 rfl (by decide) (.slice p l.length k) l.length (l.flatMap lkCells) (by rfl) (own_below G8 (by (with_reducible repeat first | exact Below.refl _ _ | refine Below.alloc ?_ (by first | omega | (simp;omega)) _ | refine Below.drewN ?_ _ | refine Below.drew ?_ | refine Below.setCell ?_ (by first | omega | (simp;omega)) _ | refine Below.trans ?_ (by assumption)))) ⟨_,0,none⟩ 1 1 [.int .i64 a,.string (bstr nm)] (by rfl) (by rfl) (World.news_of_block (heap_alloc_new _ _)) raw2_one (by decide) (by unfold maxLen;omega) (by omega) (by simp;omega) _ rfl ?_;intro gg cap6 w9 hown9 hgrow9 hor9 hlt9;have hgr9 : World.grownBy _ w9 (Value.slice p l.length k).ownBlock:=hgrow9;have S9:=hid (((hs8.drew).alloc (.cells #[.int .i64 a,.string (bstr nm)] 95)).grow hgr9 (hown _ hB.1) (hown _ hB.2.1) (hown _ hB.2.2.1));obtain ⟨n0,n1,n2,n3,n4,n5⟩:=S9.out.at4.cells;have nl:=S9.out.at4.lt;have nf:=S9.out.at4.frozen 3)
 all_goals go_end0
 all_goals
  refine ⟨rfl,_,S9.out.set3 _,?_,?_⟩
  · have h:=own_fr hown9 ((Fr.refl (some r4) _).set (.inl rfl) 3 (.slice (some ⟨gg,0,none⟩) (l.length + 1) cap6)) hB.1
    simpa [lkCells] using h
  · exact Fr3.mk_ ((F8.drew).alloc (.cells #[.int .i64 a,.string (bstr nm)] 95)) hgr9 _ _
theorem below_dual {W a c : World} (h : Below W.heap.size W a) (k : Below a.heap.size a c) : Below W.heap.size W c :=
 ⟨k.os.trans h.os,k.tape.trans h.tape,k.output.trans h.output,Nat.le_trans h.size k.size,fun i hi => (k.block i (Nat.lt_of_lt_of_le hi h.size)).trans (h.block i hi)⟩
theorem rth_func {r4 rb g cap : Nat} {ws : List Wd} {d : Int} {p0 p1 p2 p3 : Value} {W : World} {σ : RS} {Q : World → World → Prop} (S : Hid (A4 W r4 rb g cap ws d p0 p1 p2 p3 σ)) (h1 : Hid (σ.is (⟨#[108,111,99,107]⟩ : ByteArray).data.toList = false)) (h2 : Hid (σ.is (⟨#[102,117,110,99]⟩ : ByteArray).data.toList = true))
 (HC : Hid (∀ W',Below W.heap.size W W' → Calls Try.prog 49 #[.pointer (some ⟨r4,0,none⟩)] W' fun e w' => e = .returned (.tuple #[]) ∧ Q W' w')) :
 Calls Try.prog 25 #[.pointer (some ⟨r4,0,none⟩)] W fun e w' => e = .returned (.tuple #[]) ∧ ∃ W',Below W.heap.size W W' ∧ Q W' w':=by
 go_enter Try.func25,Try.ntmps25
 go_wp2_with (first
  | (go_at_call 45;(with_reducible refine (r4_is S _ false h1).mono ?_);rintro e1 w1 ⟨rfl,hb1⟩;have S1:=hid (S.out.stay hb1))
  | (go_at_call 45;(with_reducible refine (r4_is S1 _ true h2).mono ?_);rintro e2 w2 ⟨rfl,hb2⟩;have S2:=hid (S1.out.stay hb2))
  | (go_at_call 49;(with_reducible refine (HC.out _ (below_dual hb1 hb2)).mono ?_);rintro e9 w9 ⟨rfl,hq⟩))
 first
  | (((try simp only [Exit.inBlock,Exit.then]);refine bodyPost_ret (results_none rfl _ _ _) rfl ?_);exact ⟨rfl,_,below_dual hb1 hb2,hq⟩)
  | (go_end0;exact ⟨rfl,_,below_dual hb1 hb2,hq⟩)
theorem r4_limit4 {r4 rb g cap : Nat} {ws : List Wd} {d : Int} {p0 p1 p2 p3 : Value} {W : World} {σ : RS} (S : Hid (A4 W r4 rb g cap ws d p0 p1 p2 p3 σ)) (n : Nat) :
 Calls Try.prog 46 #[.pointer (some ⟨r4,0,none⟩),.int .i64 n,.int .i64 4] W fun e w' => e = .returned (.tuple #[]) ∧ A4 w' r4 rb g cap ws d p0 p1 p2 p3 (limF n 4 σ) ∧ Fr (some rb) W w':=r4_limit S n 4
theorem infoTh : (Try.prog.info? 60).map (fun i => (i.zero,i.size,i.bytes)) = some (some (.slice none 0 0),1,24):=by kernel_rfl
theorem rth_thrNo {r4 rb g cap B k m n d : Nat} {ws : List Wd} {p : Option Addr} {p0 p1 p2 : Value} {W : World} {σ : RS} {c0 : Int} {b0 : Nat} (S : Hid (A4 W r4 rb g cap ws d p0 p1 p2 (.slice p m k) σ)) (h1 : Hid (σ.is (⟨#[108,111,99,107]⟩ : ByteArray).data.toList = false)) (h2 : Hid (σ.is (⟨#[102,117,110,99]⟩ : ByteArray).data.toList = false)) (h3 : Hid (σ.is (⟨#[116,104,114,101,97,100]⟩ : ByteArray).data.toList = true)) (hlim : Hid (limF m 4 σ = .bad c0 b0)) :
 Calls Try.prog 25 #[.pointer (some ⟨r4,0,none⟩)] W fun e w' => e = .returned (.tuple #[]) ∧ A4 w' r4 rb g cap ws d p0 p1 p2 (.slice p m k) (.bad c0 b0) ∧ Fr (some rb) W w':=by
 go_enter Try.func25,Try.ntmps25
 go_wp2_with (first
  | (go_at_call 45;(with_reducible refine (r4_is S _ false h1).mono ?_);rintro e1 w1 ⟨rfl,hb1⟩;have S1:=hid (S.out.stay hb1))
  | (go_at_call 45;(with_reducible refine (r4_is S1 _ false h2).mono ?_);rintro e2 w2 ⟨rfl,hb2⟩;have S2:=hid (S1.out.stay hb2))
  | (go_at_call 45;(with_reducible refine (r4_is S2 _ true h3).mono ?_);rintro e3 w3 ⟨rfl,hb3⟩;have S3:=hid (S2.out.stay hb3);obtain ⟨m0,m1,m2,m3,m4,m5⟩:=S3.out.at4.cells;have ml0:=S3.out.at4.lt)
  | (go_at_call 46;(with_reducible refine (r4_limit4 S3 m).mono ?_);rintro e4 w4 ⟨rfl,hs4,hf4⟩;have S4 : Hid (A4 w4 r4 rb g cap ws d p0 p1 p2 (.slice p m k) (.bad c0 b0)):=hid (hlim.out ▸ hs4))
  | (go_at_call 23;(with_reducible refine (r4_ok S4 false rfl).mono ?_);rintro e5 w5 ⟨rfl,hb5⟩))
 first
  | (((try simp only [Exit.inBlock,Exit.then]);refine bodyPost_ret (results_none rfl _ _ _) rfl ?_);exact ⟨rfl,S4.out.stay hb5,((((Fr.of hb1).stepB hb2).stepB hb3).step hf4).stepB hb5⟩)
  | (go_end0;exact ⟨rfl,S4.out.stay hb5,((((Fr.of hb1).stepB hb2).stepB hb3).step hf4).stepB hb5⟩)
theorem raw1_one {z : Option Addr} {y k : Nat} : ∀ u ∈ ([.slice z y k] : List Value),u.oneCell' = true:=by
 intro u hu
 simp at hu
 subst hu
 rfl
theorem rth_thrYes {r4 rb g cap B k m n d : Nat} {ws : List Wd} {p : Option Addr} {p0 p1 p2 : Value} {W : World} {σ : RS} {xs : List Value} {x : Wd} {tt : List Wd} {lb : List Stm} {τ2 : RS} (S : Hid (A4 W r4 rb g cap ws d p0 p1 p2 (.slice p m k) σ)) (G : Hid (W.ownsRow B 60 1 (.slice p m k) m xs)) (hB : r4 < B ∧ rb < B ∧ g < B ∧ B ≤ W.heap.size) (hl : m ≤ 1000000) (h1 : Hid (σ.is (⟨#[108,111,99,107]⟩ : ByteArray).data.toList = false)) (h2 : Hid (σ.is (⟨#[102,117,110,99]⟩ : ByteArray).data.toList = false)) (h3 : Hid (σ.is (⟨#[116,104,114,101,97,100]⟩ : ByteArray).data.toList = true)) (hlim : Hid (limF m 4 σ = .ok (x :: tt))) (hx : x.k ≠ 3) (H5 : Hid (blockF n d (.ok tt) = (lb,τ2))) (HB : Hid (GBlock r4 rb g ws n)) (hlen : 3 * (RS.ok tt).len + 2 ≤ n) (hd : d ≤ 32) :
 Calls Try.prog 25 #[.pointer (some ⟨r4,0,none⟩)] W fun e w' => e = .returned (.tuple #[]) ∧ ∃ q,A4 w' r4 rb g cap ws d p0 p1 p2 q τ2 ∧ Fr3 r4 rb (Value.slice p m k).ownBlock W w' ∧ ∀ t,τ2 = .ok t → ∃ v,w'.ownsRow B 60 1 q (m + 1) (xs ++ [v]) ∧ IsSts (fun b => W.heap.size ≤ b) w' lb v:=by
 have hBW:=hB.2.2.2
 have HLT : Hid (∀ j,(Value.slice p m k).ownBlock = some j → B ≤ j ∧ j < W.heap.size):=hid G.out.lt
 obtain ⟨i0,hinf,hzi0,hzi1,hzi2⟩:=info_parts infoTh
 go_enter Try.func25,Try.ntmps25
 go_upto_region 18 with (first
  | (go_at_call 45;(with_reducible refine (r4_is S _ false h1).mono ?_);rintro e1 w1 ⟨rfl,hb1⟩;have S1:=hid (S.out.stay hb1))
  | (go_at_call 45;(with_reducible refine (r4_is S1 _ false h2).mono ?_);rintro e2 w2 ⟨rfl,hb2⟩;have S2:=hid (S1.out.stay hb2))
  | (go_at_call 45;(with_reducible refine (r4_is S2 _ true h3).mono ?_);rintro e3 w3 ⟨rfl,hb3⟩;have S3:=hid (S2.out.stay hb3);obtain ⟨m0,m1,m2,m3,m4,m5⟩:=S3.out.at4.cells;have ml0:=S3.out.at4.lt)
  | (go_at_call 46;(with_reducible refine (r4_limit4 S3 m).mono ?_);rintro e4 w4 ⟨rfl,hs4,hf4⟩;have S4 : Hid (A4 w4 r4 rb g cap ws d p0 p1 p2 (.slice p m k) (.ok (x :: tt))):=hid (hlim.out ▸ hs4))
  | (go_at_call 23;(with_reducible refine (r4_ok S4 true rfl).mono ?_);rintro e5 w5 ⟨rfl,hb5⟩;have S5:=hid (S4.out.stay hb5)))
 have F5 : Fr (some rb) W w5:=((((Fr.of hb1).stepB hb2).stepB hb3).step hf4).stepB hb5
 clear m0 m1 m2 m3 m4 m5 ml0
 obtain ⟨q4l,qbl,qgl⟩:=S5.out.blk
 obtain ⟨i,a9,R0,h5,_,_,_⟩:=S5.out.st.ok_cells S5.out.env
 obtain ⟨m0,_,_,_,_,_⟩:=S5.out.at4.cells
 obtain ⟨q0,q1,q2,q3,q4⟩:=R0.rd.cells
 have hlr:=R0.rd.lt
 have hfr:=R0.rd.frozen 1
 go_upto_region 19 with (fail)
 refine name_world ?_
 intro w6 hw6
 have F9 : Fr (some rb) w5 (w5.setCell ⟨rb,1,none⟩ (.int .i64 ((i : Int) + 1))):=(Fr.refl _ _).set (.inl rfl) _ _
 have S6 : Hid (A4 w6 r4 rb g cap ws d p0 p1 p2 (.slice p m k) (.ok tt)):=hid (by (rw [hw6];exact S5.out.fr F9 (st_adv S5.out.st R0 hx h5)))
 have F6 : Fr (some rb) W w6:=by (rw [hw6];exact F5.step F9)
 have hz6:=Fr.size F6
 clear hw6 m0 q0 q1 q2 q3 q4 R0 h5 F9 hlr hfr q4l qbl qgl S1 S2 S3 S4 S5 F5 hs4 hf4 hb1 hb2 hb3 hb5
 have G6:=own_fr G.out F6 hB.2.1
 obtain ⟨m0,m1,m2,m3,m4,m5⟩:=S6.out.at4.cells
 have ml:=S6.out.at4.lt
 have mf:=S6.out.at4.frozen 5
 have S6D : Hid (A4 w6.drew r4 rb g cap ws d p0 p1 p2 (.slice p m k) (.ok tt)):=hid S6.out.drew
 have hown : ∀ k',k' < B → some k' ≠ (Value.slice p m k).ownBlock:=fun k' hk e => by (have:=(HLT.out k' e.symm).1;omega)
 go_region_law (first
  | (refine step_append_lies _ (by rfl) _ _ _ (by rfl) B 60 i0 _ 1 24 Try.underlying27 hinf hzi0 hzi1 hzi2 rfl (by decide) (.slice p m k) m xs (by rfl) (own_below G8 ((Below.refl _ _).alloc (Nat.le_refl _) _)) ⟨_,0,none⟩ 1 1 [.slice lp lm lc] (by rfl) (by rfl) (World.news_of_block (heap_alloc_new _ _)) raw1_one (by decide) (by unfold maxLen;omega) (by omega) (by simp;omega) _ rfl ?_;intro gg cap6 w9 hown9 hgrow9 hor9 hlt9;have hgr9 : World.grownBy _ w9 (Value.slice p m k).ownBlock:=hgrow9;have S9:=hid ((hs8.alloc (.cells #[.slice lp lm lc] 60)).grow hgr9 (hown _ hB.1) (hown _ hB.2.1) (hown _ hB.2.2.1));obtain ⟨k0,k1,k2,k3,k4,k5⟩:=S9.out.at4.cells;have kl:=S9.out.at4.lt;have kf:=S9.out.at4.frozen 5)
  | (go_simp;go_at_call 50;(with_reducible refine (HB.out.use S6D hlen hd _ H5.out).mono ?_);rintro e8 w8 ⟨⟨lp,lm,lc,rfl,hb8⟩,hs8,hf8⟩;have G8:=own_fr (W:=w6.drew) G6 hf8 hB.2.1;obtain ⟨n0,n1,n2,n3,n4,n5⟩:=hs8.at4.cells;have nl:=hs8.at4.lt;have nf:=hs8.at4.frozen 5;have hz8:=Fr.size hf8;(try simp only [World.size_drew] at hz8)))
 all_goals go_end0
 all_goals
  have F8 : Fr (some rb) W w8:=(show Fr (some rb) W w6.drew from F6.drew).step hf8
  have FR : Fr3 r4 rb (Value.slice p m k).ownBlock W (w9.setCell ⟨r4,5,none⟩ (.slice (some ⟨gg,0,none⟩) (m + 1) cap6)):=Fr3.mk_ (F8.alloc (.cells #[.slice lp lm lc] 60)) hgr9 _ _
  refine ⟨rfl,_,S9.out.set5 _,FR,fun t ht => ?_⟩
  have h:=own_fr hown9 ((Fr.refl (some r4) _).set (.inl rfl) 5 (.slice (some ⟨gg,0,none⟩) (m + 1) cap6)) hB.1
  have HI : Hi w6.heap.size w8 (w9.setCell ⟨r4,5,none⟩ (.slice (some ⟨gg,0,none⟩) (m + 1) cap6)):=by
   have h1 : Hi w6.heap.size w8 (w8.alloc (.cells #[.slice lp lm lc] 60)):=(Hi.refl _ _).stay ((Below.refl _ _).alloc (Nat.le_refl _) _)
   refine Hi.set ⟨Nat.le_trans h1.1 hgr9.size,fun g' hg' hl' => (hgr9.block g' (Nat.lt_of_lt_of_le hl' h1.1) (fun e => ?_)).trans (h1.2 g' hg' hl')⟩ (by omega) _ _
   have:=(HLT.out g' e.symm).2
   omega
  exact ⟨_,h,((((hb8 t ht).lo (lo':=w6.heap.size) (Nat.le_refl _)).hi HI).lo hz6)⟩
theorem limF_cases (n most : Nat) (x : Wd) (tt : List Wd) : limF n most (.ok (x :: tt)) = .ok (x :: tt) ∨ limF n most (.ok (x :: tt)) = .bad 2 x.a:=by
 unfold limF
 split
 · right;rfl
 · left;rfl
end Go.Proofs.Ytbmmjomcjlpnlaa
