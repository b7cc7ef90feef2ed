/- Joined texts: Sf Sm Sn Se Tw Tc Sh2 Nw Shp Aw6 Sd2 Sv Sw2 So: lemmas for the law; each says its own conditions. -/
import Derived.Test.YtbmmjomcjlpnlaaQ11
import Derived.Test.YtbmmjomcjlpnlaaQ10
import Derived.Lib.RowBridge
set_option linter.unusedSimpArgs false
set_option linter.unusedVariables false
set_option maxRecDepth 100000
set_option maxHeartbeats 8000000
open Go.Lib (hid)
namespace Go.Proofs.Ytbmmjomcjlpnlaa
open Go Go.RowKit
theorem results_fnn {X : World} {b : Nat} {a : Int} {nm : ByteArray} {pv : Value} {tr : Bool} {sc : Bool} {bv : Value} {k : Int} {q : Int} {n : Int} {s : ByteArray} {kv : Value} {xa : Int} {u : Value} {fn : Func} {p r : Tmp} (hfn : fn.results = #[.cell p 65,.tmp r]) (tmps : Array Value) (hp : tmps.getD p undef = .pointer (some ⟨b,0,none⟩)) (hr : tmps.getD r undef = u) (h : FBlk X b a nm pv tr sc bv k q n s kv xa) :
 (results fn tmps).run Try.prog X = .ok (.tuple #[.agg #[.int .i64 a,.string nm,pv,.bool tr,.bool sc,bv,.int .i64 k,.int .i64 q,.int .i64 n,.string s,kv,.int .i64 xa],u]) X:=by
 have hp' : tmps[p]?.getD undef = .pointer (some ⟨b,0,none⟩):=by simpa using hp
 have hr' : tmps[r]?.getD undef = u:=by simpa using hr
 simp [results,hfn,hp',hr',asAddr,run_loadVar_row X b 65 65 _ (0,0) _ h Try.underlying65 rfl (by kernel_rfl)]
def fn00 : Fn:=⟨0,[],[],false,false,[],ex00⟩
def funcN : Option Th → Fn × Int
 | some (.fn y _ i) => (y,i)
 | _ => (fn00,-1)
section
variable {B : Nat} {W : World} {s n : Nat} {F : TF} {L : List ByteArray} {bl : List Nat} {m lv bv : Value}
theorem func_any (h : Hid (Scp B W s n F L bl m lv bv)) (t : ByteArray) (ht : t.size ≤ 140737488355328) :
 Calls Try.prog 18 #[.pointer (some ⟨s,0,none⟩),.string t] W fun e w' => (∃ z0 k0 z1 k1 z2 k2,e = .returned (.tuple #[fnVal (funcN (F t.data.toList)).1 ⟨.slice z0 (funcN (F t.data.toList)).1.ps.length k0,.slice z1 (funcN (F t.data.toList)).1.bd.length k1,.slice z2 (funcN (F t.data.toList)).1.ret.ks.length k2⟩,.int .i64 (funcN (F t.data.toList)).2])) ∧ Below W.heap.size W w':=by
 obtain ⟨x,hx⟩ : ∃ x,F t.data.toList = x:=⟨_,rfl⟩
 have HT:=thing_x h t ht hx
 have HO:=hid (fun x' hx' => h.out.th t.data.toList x' hx')
 have hA:=below_of_alloc W (.cells #[.int .i64 0,.string ⟨#[]⟩,.slice none 0 0,.bool false,.bool false,.slice none 0 0,.int .i64 0,.int .i64 0,.int .i64 0,.string ⟨#[]⟩,.slice none 0 0,.int .i64 0] 65)
 have hY:=FBlk.new (X:=W) (b:=W.heap.size) (a:=0) (nm:=⟨#[]⟩) (pv:=.slice none 0 0) (tr:=false) (sc:=false) (bv:=.slice none 0 0) (k:=0) (q:=0) (n:=0) (s:=⟨#[]⟩) (kv:=.slice none 0 0) (xa:=0) rfl
 obtain ⟨W1,hW1⟩ : ∃ X,W.alloc (.cells #[.int .i64 0,.string ⟨#[]⟩,.slice none 0 0,.bool false,.bool false,.slice none 0 0,.int .i64 0,.int .i64 0,.int .i64 0,.string ⟨#[]⟩,.slice none 0 0,.int .i64 0] 65) = X:=⟨_,rfl⟩
 rw [hW1] at hA hY
 have a1:=ta_fn x W1
 have HA:=hid hA
 have HY:=hid hY
 rw [hx] at HO ⊢
 clear hx h hA hY
 rcases x with _ | x
 · simp only [Option.map_none,Option.getD_none,zFn] at a1
   clear HO
   go_enter Try.func18,Try.ntmps18
   go_upto_region 1 with (fail)
   obtain ⟨yl,⟨y0,y1,y2,y3,y4,y5,y6,y7,y8,y9,y10,y11⟩,⟨yf0,yf1,yf2,yf3,yf4,yf5,yf6,yf7,yf8,yf9,yf10,yf11⟩⟩:=HY.out.facts
   clear hW1
   go_wp2_with (go_at_call 32;refine (HT.out _ HA.out).mono ?_;rintro e1 w1 ⟨rfl,rfl⟩;simp only [Option.map_none,Option.getD_none])
   refine bodyPost_ret (results_fnn rfl _ rfl rfl (HY.out.all.alloc _)) rfl ⟨⟨none,0,none,0,none,0,rfl⟩,?_⟩
   exact ((((((((((((HA.out.setCell (by simp) _).setCell (by simp) _).setCell (by simp) _).setCell (by simp) _).setCell (by simp) _).setCell (by simp) _).setCell (by simp) _).setCell (by simp) _).setCell (by simp) _).setCell (by simp) _).setCell (by simp) _).setCell (by simp) _).alloc (by simp;have:=HA.out.size;omega) _
 · cases x with
   | gl y i =>
    simp only [Option.map_some,Option.getD_some,Th.val,zFn] at a1
    clear HO
    go_enter Try.func18,Try.ntmps18
    go_upto_region 1 with (fail)
    obtain ⟨yl,⟨y0,y1,y2,y3,y4,y5,y6,y7,y8,y9,y10,y11⟩,⟨yf0,yf1,yf2,yf3,yf4,yf5,yf6,yf7,yf8,yf9,yf10,yf11⟩⟩:=HY.out.facts
    clear hW1
    go_wp2_with (go_at_call 32;refine (HT.out _ HA.out).mono ?_;rintro e1 w1 ⟨rfl,rfl⟩;simp only [Option.map_some,Option.getD_some,Th.val])
    refine bodyPost_ret (results_fnn rfl _ rfl rfl (HY.out.all.alloc _)) rfl ⟨⟨none,0,none,0,none,0,rfl⟩,?_⟩
    exact ((((((((((((HA.out.setCell (by simp) _).setCell (by simp) _).setCell (by simp) _).setCell (by simp) _).setCell (by simp) _).setCell (by simp) _).setCell (by simp) _).setCell (by simp) _).setCell (by simp) _).setCell (by simp) _).setCell (by simp) _).setCell (by simp) _).alloc (by simp;have:=HA.out.size;omega) _
   | lk i =>
    simp only [Option.map_some,Option.getD_some,Th.val,zFn] at a1
    clear HO
    go_enter Try.func18,Try.ntmps18
    go_upto_region 1 with (fail)
    obtain ⟨yl,⟨y0,y1,y2,y3,y4,y5,y6,y7,y8,y9,y10,y11⟩,⟨yf0,yf1,yf2,yf3,yf4,yf5,yf6,yf7,yf8,yf9,yf10,yf11⟩⟩:=HY.out.facts
    clear hW1
    go_wp2_with (go_at_call 32;refine (HT.out _ HA.out).mono ?_;rintro e1 w1 ⟨rfl,rfl⟩;simp only [Option.map_some,Option.getD_some,Th.val])
    refine bodyPost_ret (results_fnn rfl _ rfl rfl (HY.out.all.alloc _)) rfl ⟨⟨none,0,none,0,none,0,rfl⟩,?_⟩
    exact ((((((((((((HA.out.setCell (by simp) _).setCell (by simp) _).setCell (by simp) _).setCell (by simp) _).setCell (by simp) _).setCell (by simp) _).setCell (by simp) _).setCell (by simp) _).setCell (by simp) _).setCell (by simp) _).setCell (by simp) _).setCell (by simp) _).alloc (by simp;have:=HA.out.size;omega) _
   | fn y v i =>
    have hok:=HO.out _ rfl
    obtain ⟨hsh,hif⟩:=hok
    obtain ⟨⟨p0,c0,e0⟩,_⟩:=hif.1
    obtain ⟨p1,c1,e1⟩:=hif.2.1.form
    obtain ⟨p2,c2,e2⟩:=hif.2.2.form
    obtain ⟨vp,vb,vk⟩:=v
    simp only at e0 e1 e2
    subst e0 e1 e2
    have HIF : Hid (IsFn1 (fun g => 0 ≤ g) W y ⟨.slice p0 y.ps.length c0,.slice p1 y.bd.length c1,.slice p2 y.ret.ks.length c2⟩):=hid ⟨hif.1.kept fun g _ _ => ⟨rfl,Nat.zero_le g⟩,hif.2.1.kept fun g _ _ => ⟨rfl,Nat.zero_le g⟩,hif.2.2.kept fun g _ _ => ⟨rfl,Nat.zero_le g⟩⟩
    clear hif HO
    obtain ⟨n0,hn0⟩ : ∃ q,y.ps.length = q:=⟨_,rfl⟩
    obtain ⟨n1,hn1⟩ : ∃ q,y.bd.length = q:=⟨_,rfl⟩
    obtain ⟨n2,hn2⟩ : ∃ q,y.ret.ks.length = q:=⟨_,rfl⟩
    have HC : Hid (∀ X,Below W.heap.size W X → Calls Try.prog 29 #[.agg #[.int .i64 y.a,.string (bstr y.nm),.slice p0 n0 c0,.bool y.tr,.bool y.sc,.slice p1 n1 c1,.int .i64 y.ret.k,.int .i64 y.ret.op,.int .i64 y.ret.n,.string (bstr y.ret.nm),.slice p2 n2 c2,.int .i64 y.ret.a]] X fun r w' => Below X.heap.size X w' ∧ ∃ z0 k0 z1 k1 z2 k2,r = .returned (fnVal y ⟨.slice z0 n0 k0,.slice z1 n1 k1,.slice z2 n2 k2⟩)):=hid fun X hX => by
     have h:=cfunc_any y X _ (hid (HIF.out.stay hX)) hsh
     unfold CpF at h
     rw [hn0,hn1,hn2] at h
     exact h.mono fun r w' ⟨hb,z0,k0,z1,k1,z2,k2,e,_⟩ => ⟨hb,z0,k0,z1,k1,z2,k2,e⟩
    show Calls _ _ _ _ fun e w' => (∃ z0 k0 z1 k1 z2 k2,e = .returned (.tuple #[fnVal y ⟨.slice z0 y.ps.length k0,.slice z1 y.bd.length k1,.slice z2 y.ret.ks.length k2⟩,.int .i64 i])) ∧ Below W.heap.size W w'
    simp only [Option.map_some,Option.getD_some,Th.val,zFn,hn0,hn1,hn2] at a1
    rw [hn0,hn1,hn2]
    simp only [Option.map_some,Option.getD_some,Th.val,hn0,hn1,hn2] at HT
    clear HIF hn0 hn1 hn2 hsh
    go_enter Try.func18,Try.ntmps18
    go_upto_region 1 with (fail)
    obtain ⟨yl,⟨y0,y1,y2,y3,y4,y5,y6,y7,y8,y9,y10,y11⟩,⟨yf0,yf1,yf2,yf3,yf4,yf5,yf6,yf7,yf8,yf9,yf10,yf11⟩⟩:=HY.out.facts
    clear hW1
    go_upto_region 4 with (go_at_call 32;refine (HT.out _ HA.out).mono ?_;rintro e1 w1 ⟨rfl,rfl⟩)
    refine name_world ?_
    intro W2 hW2
    have hB2 : Below W.heap.size W W2:=by (rw [hW2];exact HA.out.alloc HA.out.size _)
    have hY2 : FBlk W2 W.heap.size 0 ⟨#[]⟩ (.slice none 0 0) false false (.slice none 0 0) 0 0 0 ⟨#[]⟩ (.slice none 0 0) 0:=by (rw [hW2];exact HY.out.alloc _)
    have hg : W2.heap[w1.heap.size]? = some (.cells #[.int .i64 y.a,.string (bstr y.nm),.slice p0 n0 c0,.bool y.tr,.bool y.sc,.slice p1 n1 c1,.int .i64 y.ret.k,.int .i64 y.ret.op,.int .i64 y.ret.n,.string (bstr y.ret.nm),.slice p2 n2 c2,.int .i64 y.ret.a,.int .i64 i] 100 (0,0)):=by (rw [hW2];exact heap_alloc_new _ _)
    have hgw : W.heap.size < w1.heap.size:=yl
    clear hW2 yl y0 y1 y2 y3 y4 y5 y6 y7 y8 y9 y10 y11 yf0 yf1 yf2 yf3 yf4 yf5 yf6 yf7 yf8 yf9 yf10 yf11
    have HB2:=hid hB2
    have HY2:=hid hY2
    have HG:=hid hg
    have hgl : w1.heap.size < W2.heap.size:=(Array.getElem?_eq_some_iff.1 hg).1
    have g0 : W2.cell? ⟨w1.heap.size,0,none⟩ = some (.int .i64 y.a):=cell_of_row _ _ _ _ _ _ hg
    have g1 : W2.cell? ⟨w1.heap.size,1,none⟩ = some (.string (bstr y.nm)):=cell_of_row _ _ _ _ _ _ hg
    have g2 : W2.cell? ⟨w1.heap.size,2,none⟩ = some (.slice p0 n0 c0):=cell_of_row _ _ _ _ _ _ hg
    have g3 : W2.cell? ⟨w1.heap.size,3,none⟩ = some (.bool y.tr):=cell_of_row _ _ _ _ _ _ hg
    have g4 : W2.cell? ⟨w1.heap.size,4,none⟩ = some (.bool y.sc):=cell_of_row _ _ _ _ _ _ hg
    have g5 : W2.cell? ⟨w1.heap.size,5,none⟩ = some (.slice p1 n1 c1):=cell_of_row _ _ _ _ _ _ hg
    have g6 : W2.cell? ⟨w1.heap.size,6,none⟩ = some (.int .i64 y.ret.k):=cell_of_row _ _ _ _ _ _ hg
    have g7 : W2.cell? ⟨w1.heap.size,7,none⟩ = some (.int .i64 y.ret.op):=cell_of_row _ _ _ _ _ _ hg
    have g8 : W2.cell? ⟨w1.heap.size,8,none⟩ = some (.int .i64 y.ret.n):=cell_of_row _ _ _ _ _ _ hg
    have g9 : W2.cell? ⟨w1.heap.size,9,none⟩ = some (.string (bstr y.ret.nm)):=cell_of_row _ _ _ _ _ _ hg
    have g10 : W2.cell? ⟨w1.heap.size,10,none⟩ = some (.slice p2 n2 c2):=cell_of_row _ _ _ _ _ _ hg
    have g11 : W2.cell? ⟨w1.heap.size,11,none⟩ = some (.int .i64 y.ret.a):=cell_of_row _ _ _ _ _ _ hg
    have g12 : W2.cell? ⟨w1.heap.size,12,none⟩ = some (.int .i64 i):=cell_of_row _ _ _ _ _ _ hg
    obtain ⟨zl,⟨z0,z1,z2,z3,z4,z5,z6,z7,z8,z9,z10,z11⟩,⟨zf0,zf1,zf2,zf3,zf4,zf5,zf6,zf7,zf8,zf9,zf10,zf11⟩⟩:=hY2.facts
    clear hB2 hY2 hg
    go_region_law (first | (go_simp;go_at_call 29;(with_reducible refine (HC.out _ (HB2.out.drew)).mono ?_);rintro e2 w3 ⟨hb3,q0,k0,q1,k1,q2,k2,rfl⟩;replace hb3:=below_ch ((Below.refl W2.heap.size W2).drew) hb3;have HB3:=hid hb3;obtain ⟨zl3,⟨z03,z13,z23,z33,z43,z53,z63,z73,z83,z93,z103,z113⟩,⟨zf03,zf13,zf23,zf33,zf43,zf53,zf63,zf73,zf83,zf93,zf103,zf113⟩⟩:=(HY2.out.stay hb3).facts;have g63 : w3.cell? ⟨w1.heap.size,12,none⟩ = some (.int .i64 i):=(hb3.cell (p:=⟨w1.heap.size,12,none⟩) hgl).trans (cell_of_row _ _ _ _ _ _ HG.out)))
    all_goals go_wp2
    all_goals refine bodyPost_ret (results_fnn rfl _ rfl rfl (HY2.out.stay HB3.out).all) rfl ⟨⟨_,_,_,_,_,_,rfl⟩,?_⟩
    all_goals exact (((((((((((((below_ch HB2.out HB3.out).setCell (by simp) _).setCell (by simp) _).setCell (by simp) _).setCell (by simp) _).setCell (by simp) _).setCell (by simp) _).setCell (by simp) _).setCell (by simp) _).setCell (by simp) _).setCell (by simp) _).setCell (by simp) _).setCell (by simp) _)
   | lo tr sc =>
    simp only [Option.map_some,Option.getD_some,Th.val,zFn] at a1
    clear HO
    go_enter Try.func18,Try.ntmps18
    go_upto_region 1 with (fail)
    obtain ⟨yl,⟨y0,y1,y2,y3,y4,y5,y6,y7,y8,y9,y10,y11⟩,⟨yf0,yf1,yf2,yf3,yf4,yf5,yf6,yf7,yf8,yf9,yf10,yf11⟩⟩:=HY.out.facts
    clear hW1
    go_wp2_with (go_at_call 32;refine (HT.out _ HA.out).mono ?_;rintro e1 w1 ⟨rfl,rfl⟩;simp only [Option.map_some,Option.getD_some,Th.val])
    refine bodyPost_ret (results_fnn rfl _ rfl rfl (HY.out.all.alloc _)) rfl ⟨⟨none,0,none,0,none,0,rfl⟩,?_⟩
    exact ((((((((((((HA.out.setCell (by simp) _).setCell (by simp) _).setCell (by simp) _).setCell (by simp) _).setCell (by simp) _).setCell (by simp) _).setCell (by simp) _).setCell (by simp) _).setCell (by simp) _).setCell (by simp) _).setCell (by simp) _).setCell (by simp) _).alloc (by simp;have:=HA.out.size;omega) _
end
end Go.Proofs.Ytbmmjomcjlpnlaa
namespace Go.Proofs.Ytbmmjomcjlpnlaa
open Go Go.RowKit
def TF.upd (F : TF) (s : List UInt8) (x : Th) : TF:=fun t => if t = s then some x else F t
def TF.del (F : TF) (s : List UInt8) : TF:=fun t => if t = s then none else F t
theorem TF.kf_upd (F : TF) (s : List UInt8) (x : Th) : (F.upd s x).kf = F.kf.upd s x.val:=by
 funext t
 unfold TF.kf TF.upd KF.upd
 by_cases e : t = s <;> simp [e]
theorem TF.kf_del (F : TF) (s : List UInt8) : (F.del s).kf = F.kf.del s:=by
 funext t
 unfold TF.kf TF.del KF.del
 by_cases e : t = s <;> simp [e]
def Fr2 (s b : Nat) (W X : World) : Prop:=(W.heap.size ≤ X.heap.size ∧ X.os = W.os ∧ X.tape = W.tape ∧ X.output = W.output) ∧ ∀ g,g < W.heap.size → g ≠ s → g ≠ b → X.heap[g]? = W.heap[g]?
section
variable {s b : Nat} {W X Y : World}
theorem Fr2.refl (s b : Nat) (W : World) : Fr2 s b W W:=⟨⟨Nat.le_refl _,rfl,rfl,rfl⟩,fun _ _ _ _ => rfl⟩
theorem Fr2.below (h : Fr2 s b W X) (k : Below X.heap.size X Y) : Fr2 s b W Y:=⟨⟨Nat.le_trans h.1.1 k.size,k.os.trans h.1.2.1,k.tape.trans h.1.2.2.1,k.output.trans h.1.2.2.2⟩,fun g hg h1 h2 => (k.block g (Nat.lt_of_lt_of_le hg h.1.1)).trans (h.2 g hg h1 h2)⟩
theorem Fr2.alloc (h : Fr2 s b W X) (o : Obj) : Fr2 s b W (X.alloc o):=h.below (below_of_alloc X o)
theorem Fr2.drew (h : Fr2 s b W X) : Fr2 s b W X.drew:=h
theorem Fr2.set (h : Fr2 s b W X) {c : Nat} (hc : c = s ∨ c = b ∨ W.heap.size ≤ c) (o : Nat) (v : Value) : Fr2 s b W (X.setCell ⟨c,o,none⟩ v):=by
 obtain ⟨e1,e2,e3⟩:=setCell_else X ⟨c,o,none⟩ v
 exact ⟨⟨by simpa using h.1.1,e1.trans h.1.2.1,e2.trans h.1.2.2.1,e3.trans h.1.2.2.2⟩,fun g hg h1 h2 => (heap_setCell_other X ⟨c,o,none⟩ g v (by rcases hc with rfl | rfl | hc <;> simp <;> omega)).trans (h.2 g hg h1 h2)⟩
theorem Fr2.grow (h : Fr2 s b W X) {c : Nat} (k : X.grownBy Y (some c)) (hc : c = s ∨ c = b ∨ W.heap.size ≤ c) : Fr2 s b W Y:=⟨⟨Nat.le_trans h.1.1 k.size,k.os.trans h.1.2.1,k.tape.trans h.1.2.2.1,k.output.trans h.1.2.2.2⟩,fun g hg h1 h2 => (k.block g (Nat.lt_of_lt_of_le hg h.1.1) (by simp;omega)).trans (h.2 g hg h1 h2)⟩
theorem Fr2.to {B : Nat} (h : Fr2 s b W X) (hs : B ≤ s) (hb : B ≤ b) (hB : B ≤ W.heap.size) : Below B W X:=⟨h.1.2.1,h.1.2.2.1,h.1.2.2.2,h.1.1,fun g hg => h.2 g (by omega) (by omega) (by omega)⟩
theorem own_fr2 {B T k n : Nat} {v : Value} {xs : List Value} (h : W.ownsRow B T k v n xs) (hf : Fr2 s b W X) {cs : Array Value} {T1 : TypeId} {fr : Nat × Nat} (hs : W.heap[s]? = some (.cells cs T1 fr)) (hT : T ≠ T1) (hb : ∀ g cs' fr',W.heap[g]? = some (.cells cs' T fr') → g ≠ b) : X.ownsRow B T k v n xs:=by
 refine ⟨h.1,?_⟩
 rcases h.2 with h0 | ⟨g,cap,cur,rfl,hB,hg,rest⟩
 · exact .inl h0
 · refine .inr ⟨g,cap,cur,rfl,hB,?_,rest⟩
   rw [hf.2 g (Array.getElem?_eq_some_iff.1 hg).1 (fun e => by
    subst e
    rw [hs] at hg
    simp only [Option.some.injEq,Obj.cells.injEq] at hg
    exact hT hg.2.1.symm) (hb g _ _ hg)]
   exact hg
theorem tree_fr2 {B : Nat} (hf : Fr2 s b W X) {cs : Array Value} {T1 : TypeId} {fr : Nat × Nat} (hs : W.heap[s]? = some (.cells cs T1 fr)) (hT : T1 ≠ 141 ∧ T1 ≠ 63 ∧ T1 ≠ 137) (hb : ∀ g cs' T' fr',W.heap[g]? = some (.cells cs' T' fr') → g ≠ b) : KeptT B W X:=by
 refine ⟨hf.1.1,fun g cs T fr hg hbk ht => hf.2 g (Array.getElem?_eq_some_iff.1 hbk).1 (fun e => ?_) (hb g _ _ _ hbk)⟩
 subst e
 rw [hs] at hbk
 simp only [Option.some.injEq,Obj.cells.injEq] at hbk
 obtain ⟨h1,h2,h3⟩:=hT
 rcases ht with e | e | e
 · exact h1 (hbk.2.1.trans e)
 · exact h2 (hbk.2.1.trans e)
 · exact h3 (hbk.2.1.trans e)
end
theorem KMap.nocells {W : World} {b n : Nat} {f : KF} (h : KMap W b n f) (g : Nat) (cs : Array Value) (T : TypeId) (fr : Nat × Nat) (hg : W.heap[g]? = some (.cells cs T fr)) : g ≠ b:=by
 obtain ⟨D,⟨es,clock,hb,_⟩,_⟩:=h
 intro e
 subst e
 rw [hb] at hg
 cases hg
theorem Th.ok_kept {B : Nat} {W X : World} {x : Th} (h : x.ok B W) (k : KeptT B W X) : x.ok B X:=by
 cases x with
 | fn y v i => exact ⟨h.1,h.2.keptT k⟩
 | _ => exact h
end Go.Proofs.Ytbmmjomcjlpnlaa
namespace Go.Proofs.Ytbmmjomcjlpnlaa
open Go Go.RowKit
def Oth (W X : World) : Prop:=W.heap.size ≤ X.heap.size ∧ ∀ (g : Nat) (cs : Array Value) (T : TypeId) (fr : Nat × Nat),W.heap[g]? = some (.cells cs T fr) → T ≠ 89 → T ≠ 9 → T ≠ 3 → X.heap[g]? = W.heap[g]?
theorem Oth.refl (W : World) : Oth W W:=⟨Nat.le_refl _,fun _ _ _ _ _ _ _ _ => rfl⟩
theorem Oth.trans {W X Y : World} (h : Oth W X) (k : Oth X Y) : Oth W Y:=⟨Nat.le_trans h.1 k.1,fun g cs T fr hg h1 h2 h3 => by
 have e:=h.2 g cs T fr hg h1 h2 h3
 exact (k.2 g cs T fr (e.trans hg) h1 h2 h3).trans e⟩
theorem Oth.of {W X : World} (h : Below W.heap.size W X) : Oth W X:=⟨h.size,fun g _ _ _ hg _ _ _ => h.block g (Array.getElem?_eq_some_iff.1 hg).1⟩
def Apt (g s : Nat) (m lv bv : Value) : Prop:=g ≠ s ∧ m ≠ .map (some g) ∧ lv.ownBlock ≠ some g ∧ bv.ownBlock ≠ some g
def Apx (W X : World) (s : Nat) (m lv bv m' lv' bv' : Value) : Prop:=∀ g,g < W.heap.size → Apt g s m lv bv → X.heap[g]? = W.heap[g]? ∧ Apt g s m' lv' bv'
theorem Apx.refl (W : World) (s : Nat) (m lv bv : Value) : Apx W W s m lv bv m lv bv:=fun _ _ ha => ⟨rfl,ha⟩
theorem Apx.trans {W X Y : World} {s : Nat} {m lv bv m1 lv1 bv1 m2 lv2 bv2 : Value} (h : Apx W X s m lv bv m1 lv1 bv1) (hs : W.heap.size ≤ X.heap.size) (k : Apx X Y s m1 lv1 bv1 m2 lv2 bv2) : Apx W Y s m lv bv m2 lv2 bv2:=fun g hg ha => by
 obtain ⟨h1,h2⟩:=h g hg ha
 obtain ⟨k1,k2⟩:=k g (Nat.lt_of_lt_of_le hg hs) h2
 exact ⟨k1.trans h1,k2⟩
theorem Apx.of {W X : World} (h : Below W.heap.size W X) (s : Nat) (m lv bv : Value) : Apx W X s m lv bv m lv bv:=fun g hg ha => ⟨h.block g hg,ha⟩
theorem Oth.fr2 {s b : Nat} {W X : World} (hf : Fr2 s b W X) {cs : Array Value} {fr : Nat × Nat} (hs : W.heap[s]? = some (.cells cs 89 fr)) (hnb : ∀ g cs' T' fr',W.heap[g]? = some (.cells cs' T' fr') → T' ≠ 9 → T' ≠ 3 → T' ≠ 89 → g ≠ b) : Oth W X:=⟨hf.1.1,fun g cs' T fr' hg h1 h2 h3 => hf.2 g (Array.getElem?_eq_some_iff.1 hg).1 (fun e => by
 subst e
 rw [hs] at hg
 simp only [Option.some.injEq,Obj.cells.injEq] at hg
 exact h1 hg.2.1.symm) (hnb g _ _ _ hg h2 h3 h1)⟩
section
variable {B : Nat} {W : World} {s n : Nat} {F : TF} {L : List ByteArray} {bl : List Nat} {m lv bv : Value}
theorem Scp.next (h : Scp B W s n F L bl m lv bv) {b : Nat} {X : World} (hb : B ≤ b) (hf : Fr2 s b W X) (hnb : ∀ g cs T fr,W.heap[g]? = some (.cells cs T fr) → g ≠ b) (hs : X.heap[s]? = some (.cells #[.map (some b),lv,bv] 89 (0,0))) {n' : Nat} {F' : TF} (hk : KMap X b n' F'.kf) (hth : ∀ t x,F' t = some x → F t = some x ∨ x.ok B W) : Scp B X s n' F' L bl (.map (some b)) lv bv:=by
 have hT:=tree_fr2 (B:=B) hf h.blk (by decide) hnb
 exact ⟨hs,h.hs,.inr ⟨b,rfl,hb,hk⟩,own_fr2 h.lo hf h.blk (by decide) (fun g cs fr => hnb g cs _ fr),own_fr2 h.bk hf h.blk (by decide) (fun g cs fr => hnb g cs _ fr),fun t x hx => by
  rcases hth t x hx with h1 | h1
  · exact Th.ok_kept (h.th t x h1) hT
  · exact Th.ok_kept h1 hT⟩
theorem know_any (h : Hid (Scp B W s n F L bl m lv bv)) (hn : n < 1000000) (t : ByteArray) (ht : t.size ≤ 140737488355328) (x : Th) (hx : x.ok B W) :
 Calls Try.prog 27 #[.pointer (some ⟨s,0,none⟩),.string t,x.val] W fun e w' => e = .returned (.tuple #[]) ∧ ∃ b,Scp B w' s (n + 1) (F.upd t.data.toList x) L bl (.map (some b)) lv bv ∧ Below B W w' ∧ B ≤ b ∧ Oth W w' ∧ Apx W w' s m lv bv (.map (some b)) lv bv:=by
 obtain ⟨xv,hxv⟩ : ∃ v,x.val = v:=⟨_,rfl⟩
 have HXV:=hid hxv
 have HXO:=hid hx
 have hmx : t.size ≤ maxLen:=Nat.le_trans ht (by decide)
 have hsz : t.size ≤ 281474976710656:=by omega
 have hnm : n < maxLen:=Nat.lt_of_lt_of_le hn (by decide)
 have hBW : B ≤ W.heap.size:=Nat.le_of_lt (Nat.lt_of_le_of_lt h.out.hs h.out.facts.1)
 rw [hxv]
 clear hxv hx
 obtain ⟨sl,⟨c0,c1,c2⟩,f0,f1,f2⟩:=h.out.facts
 rcases h.out.mp with ⟨rfl,hnone⟩ | ⟨b,rfl,hBb,hk⟩
 · have heq:=run_eql_map_nil W none
   have HFK : Hid (F.kf = fun _ => none):=hid (by funext t;simp [TF.kf,hnone t])
   have HNO:=hid hnone
   clear hnone
   have hmk : (Instr.makeMap 86 none).run Try.prog W = .ok (.map (some W.heap.size)) (W.alloc (.map #[] 0)):=rfl
   go_enter Try.func27,Try.ntmps27
   go_upto_region 2 with (fail)
   clear heq hmk
   refine name_world ?_
   intro W2 hW2
   have hk : KMap W2 W.heap.size n F.kf:=by
    rw [HFK.out,hW2]
    first
     | exact ((KMap.made W).mono (Nat.zero_le n)).setCell (by omega) _ _
     | (have hz:=(KMap.made (W.setCell ⟨s,0,none⟩ (.map (some W.heap.size)))).mono (Nat.zero_le n);simpa using hz)
   have hf2 : Fr2 s W.heap.size W W2:=by
    rw [hW2]
    first
     | exact ((Fr2.refl _ _ _).alloc _).set (.inl rfl) _ _
     | exact ((Fr2.refl _ _ _).set (.inl rfl) _ _).alloc _
   have hbk : W2.heap[s]? = some (.cells #[.map (some W.heap.size),lv,bv] 89 (0,0)):=by
    rw [hW2]
    first
     | exact heap_setCell_same _ s 0 _ _ _ ((Below.heap_alloc W _ s sl).trans h.out.blk)
     | exact (Below.heap_alloc _ _ s (by simpa using sl)).trans (heap_setCell_same W s 0 _ _ _ h.out.blk)
   have HK:=hid hk
   have HF2:=hid hf2
   have HBK:=hid hbk
   have sl2 : s < W2.heap.size:=(Array.getElem?_eq_some_iff.1 hbk).1
   have c02 : W2.cell? ⟨s,0,none⟩ = some (.map (some W.heap.size)):=cell_of_row _ _ _ _ _ _ hbk
   clear hk hf2 hbk hW2 c0 c1 c2 f0 f1 f2
   go_region_law (first
    | (go_simp;go_at_call 33;(with_reducible refine (clone_any _ _ hsz).mono ?_);rintro e2 w3 ⟨rfl,hb3⟩;replace hb3:=below_ch ((Below.refl W2.heap.size W2).drew) hb3;have HB3:=hid hb3;have c03:=(hb3.cell (p:=⟨s,0,none⟩) sl2).trans c02;have sl3:=Nat.lt_of_lt_of_le sl2 hb3.size;obtain ⟨w4,hrun,hk4,hg4⟩:=(HK.out.stay hb3).run_put hnm hmx xv;have HK4:=hid hk4;have HG4:=hid hg4))
   all_goals go_wp2
   all_goals go_end0
   all_goals
    have hfr : Fr2 s W.heap.size W w4:=(HF2.out.below HB3.out).grow HG4.out (.inr (.inl rfl))
    have hs4 : w4.heap[s]? = some (.cells #[.map (some W.heap.size),lv,bv] 89 (0,0)):=(HG4.out.block s sl3 (by simp;omega)).trans ((HB3.out.block s sl2).trans HBK.out)
    have hk5 : KMap w4 W.heap.size (n + 1) (F.upd t.data.toList x).kf:=by (rw [TF.kf_upd,HXV.out];exact HK4.out)
    exact ⟨rfl,_,h.out.next hBW hfr (fun g cs T fr hg => Nat.ne_of_lt (Array.getElem?_eq_some_iff.1 hg).1) hs4 hk5 (fun u y hu => by unfold TF.upd at hu;split at hu;exact .inr (by cases hu;exact HXO.out);exact .inl hu),hfr.to h.out.hs hBW hBW,hBW,Oth.fr2 hfr h.out.blk (fun g cs T fr hg _ _ _ => Nat.ne_of_lt (Array.getElem?_eq_some_iff.1 hg).1),fun g hg ha => ⟨hfr.2 g hg ha.1 (Nat.ne_of_lt hg),ha.1,(fun e => by cases e;exact Nat.lt_irrefl _ hg),ha.2.2⟩⟩
 · have heq:=run_eql_map_nil W (some b)
   have HK:=hid hk
   have hbl:=hk.lt
   clear hk
   go_enter Try.func27,Try.ntmps27
   go_upto_region 2 with (fail)
   clear heq
   go_region_law (first
    | (go_simp;go_at_call 33;(with_reducible refine (clone_any _ _ hsz).mono ?_);rintro e2 w3 ⟨rfl,hb3⟩;replace hb3:=below_ch ((Below.refl W.heap.size W).drew) hb3;have HB3:=hid hb3;have c03:=(hb3.cell (p:=⟨s,0,none⟩) sl).trans c0;have sl3:=Nat.lt_of_lt_of_le sl hb3.size;obtain ⟨w4,hrun,hk4,hg4⟩:=(HK.out.stay hb3).run_put hnm hmx xv;have HK4:=hid hk4;have HG4:=hid hg4))
   all_goals go_wp2
   all_goals go_end0
   all_goals
    have hsb : s ≠ b:=HK.out.nocells s _ _ _ h.out.blk
    have hfr : Fr2 s b W w4:=((Fr2.refl s b W).below HB3.out).grow HG4.out (.inr (.inl rfl))
    have hs4 : w4.heap[s]? = some (.cells #[.map (some b),lv,bv] 89 (0,0)):=(HG4.out.block s sl3 (by simp;exact hsb)).trans ((HB3.out.block s sl).trans h.out.blk)
    have hk5 : KMap w4 b (n + 1) (F.upd t.data.toList x).kf:=by (rw [TF.kf_upd,HXV.out];exact HK4.out)
    exact ⟨rfl,_,h.out.next hBb hfr (fun g cs T fr hg => HK.out.nocells g cs T fr hg) hs4 hk5 (fun u y hu => by unfold TF.upd at hu;split at hu;exact .inr (by cases hu;exact HXO.out);exact .inl hu),hfr.to h.out.hs hBb hBW,hBb,Oth.fr2 hfr h.out.blk (fun g cs T fr hg _ _ _ => HK.out.nocells g cs T fr hg),fun g hg ha => ⟨hfr.2 g hg ha.1 (fun e => ha.2.1 (by rw [e])),ha⟩⟩
end
end Go.Proofs.Ytbmmjomcjlpnlaa
namespace Go.Proofs.Ytbmmjomcjlpnlaa
open Go Go.RowKit
theorem infoI1 : (Try.prog.info? 3).map (fun i => (i.zero,i.size,i.bytes)) = some (some (.int .i64 0),1,8):=by kernel_rfl
theorem int_one1 {i : Int} : ∀ u ∈ ([.int .i64 i] : List Value),u.oneCell' = true:=by
 intro u hu
 simp at hu
 rcases hu with rfl
 rfl
theorem str_one1 {s : ByteArray} : ∀ u ∈ ([.string s] : List Value),u.oneCell' = true:=by
 intro u hu
 simp at hu
 rcases hu with rfl
 rfl
theorem own_setN {w : World} {B e size n b : Nat} {v : Value} {xs : List Value} (h : w.ownsRow B e size v n xs) (hne : v.ownBlock ≠ some b) (i : Nat) (u : Value) : (w.setCell ⟨b,i,none⟩ u).ownsRow B e size v n xs:=by
 refine ⟨h.1,?_⟩
 rcases h.2 with h0 | ⟨g,cap,cur,rfl,hB,hg,rest⟩
 · exact .inl h0
 · exact .inr ⟨g,cap,cur,rfl,hB,(Below.heap_setCell w ⟨b,i,none⟩ u g (fun e => hne (by rw [e];rfl))).trans hg,rest⟩
theorem KMap.same {W X : World} {b n : Nat} {f : KF} (h : KMap W b n f) (e : X.heap[b]? = W.heap[b]?) : KMap X b n f:=by
 obtain ⟨D,⟨es,clock,hb,r⟩,h2⟩:=h
 exact ⟨D,⟨es,clock,e.trans hb,r⟩,h2⟩
section
variable {B : Nat} {W X : World} {s n : Nat} {F : TF} {L L' : List ByteArray} {bl bl' : List Nat} {m lv bv lv' bv' : Value}
theorem Scp.row (h : Scp B W s n F L bl m lv bv) {r : Nat} (hf : Fr2 s r W X) {cs : Array Value} {T : TypeId} {fr : Nat × Nat} (hr : W.heap[r]? = some (.cells cs T fr)) (hT : T ≠ 141 ∧ T ≠ 63 ∧ T ≠ 137)
 (hs : X.heap[s]? = some (.cells #[m,lv',bv'] 89 (0,0))) (hlo : X.ownsRow B 9 1 lv' L'.length (L'.map Value.string)) (hbk : X.ownsRow B 3 1 bv' bl'.length (bl'.map fun (i : Nat) => Value.int .i64 (i : Int))) : Scp B X s n F L' bl' m lv' bv':=by
 refine ⟨hs,h.hs,?_,hlo,hbk,fun t x hx => Th.ok_kept (h.th t x hx) ⟨hf.1.1,fun g cs' T' fr' hg hb ht => hf.2 g (Array.getElem?_eq_some_iff.1 hb).1 (fun e => ?_) fun e => ?_⟩⟩
 · rcases h.mp with h3 | ⟨b,e,hb,hk⟩
   · exact .inl h3
   · have h1:=hk.nocells s _ _ _ h.blk
     have h2:=hk.nocells r _ _ _ hr
     exact .inr ⟨b,e,hb,hk.same (hf.2 b hk.lt (Ne.symm h1) (Ne.symm h2))⟩
 · subst e
   rw [h.blk] at hb
   simp only [Option.some.injEq,Obj.cells.injEq] at hb
   rcases ht with e | e | e <;> (rw [← hb.2.1] at e;revert e;decide)
 · subst e
   rw [hr] at hb
   simp only [Option.some.injEq,Obj.cells.injEq] at hb
   rcases ht with e | e | e
   · exact hT.1 (hb.2.1.trans e)
   · exact hT.2.1 (hb.2.1.trans e)
   · exact hT.2.2 (hb.2.1.trans e)
def rowB (v : Value) (s : Nat) : Nat:=v.ownBlock.getD s
theorem rowB_at {T k l : Nat} {v : Value} {xs : List Value} (h : W.ownsRow B T k v l xs) (s : Nat) : (rowB v s = s ∧ v.ownBlock = none) ∨ ∃ cs,v.ownBlock = some (rowB v s) ∧ W.heap[rowB v s]? = some (.cells cs T (0,0)) ∧ B ≤ rowB v s:=by
 rcases h.2 with ⟨rfl,_⟩ | ⟨g,cap,cur,rfl,hB,hg,_⟩
 · exact .inl ⟨rfl,rfl⟩
 · exact .inr ⟨cur,rfl,hg,hB⟩
theorem Fr2.growRow {v : Value} {Y : World} {s : Nat} (h : Fr2 s (rowB v s) W X) (k : X.grownBy Y v.ownBlock) : Fr2 s (rowB v s) W Y:=by
 refine ⟨⟨Nat.le_trans h.1.1 k.size,k.os.trans h.1.2.1,k.tape.trans h.1.2.2.1,k.output.trans h.1.2.2.2⟩,fun g hg h1 h2 => (k.block g (Nat.lt_of_lt_of_le hg h.1.1) fun e => h2 ?_).trans (h.2 g hg h1 h2)⟩
 unfold rowB
 rw [← e]
 rfl
theorem Scp.forms (h : Scp B W s n F L bl m lv bv) : ∃ mm p c q d,m = .map mm ∧ lv = .slice p L.length c ∧ bv = .slice q bl.length d:=by
 obtain ⟨p,c,e1⟩:=own_form h.lo
 obtain ⟨q,d,e2⟩:=own_form h.bk
 rcases h.mp with ⟨e,_⟩ | ⟨b,e,_⟩
 · exact ⟨none,p,c,q,d,e,e1,e2⟩
 · exact ⟨some b,p,c,q,d,e,e1,e2⟩
theorem Scp.turn (h : Scp B W s n F L bl m lv bv) {Tv kx lx : Nat} {v : Value} {xs : List Value} (hv : W.ownsRow B Tv kx v lx xs) (hT : Tv = 9 ∨ Tv = 3) (hf : Fr2 s (rowB v s) W X)
 (hs : X.heap[s]? = some (.cells #[m,lv',bv'] 89 (0,0))) (hlo : X.ownsRow B 9 1 lv' L'.length (L'.map Value.string)) (hbk : X.ownsRow B 3 1 bv' bl'.length (bl'.map fun (i : Nat) => Value.int .i64 (i : Int))) : Scp B X s n F L' bl' m lv' bv' ∧ Below B W X:=by
 have hBW : B ≤ W.heap.size:=Nat.le_of_lt (Nat.lt_of_le_of_lt h.hs h.facts.1)
 rcases rowB_at hv s with ⟨e,_⟩ | ⟨cs,_,hg,hB⟩
 · rw [e] at hf
   exact ⟨h.row hf h.blk (by decide) hs hlo hbk,hf.to h.hs h.hs hBW⟩
 · exact ⟨h.row hf hg (by rcases hT with rfl | rfl <;> decide) hs hlo hbk,hf.to h.hs hB hBW⟩
theorem Oth.turn (h : Scp B W s n F L bl m lv bv) {Tv kx lx : Nat} {v : Value} {xs : List Value} (hv : W.ownsRow B Tv kx v lx xs) (hT : Tv = 9 ∨ Tv = 3) (hf : Fr2 s (rowB v s) W X) : Oth W X :=
 Oth.fr2 hf h.blk fun g cs' T' fr' hg h1 h2 h3 e => by
  rcases rowB_at hv s with ⟨e1,_⟩ | ⟨cs,_,hg1,_⟩
  · rw [e,e1,h.blk] at hg
    simp only [Option.some.injEq,Obj.cells.injEq] at hg
    exact h3 hg.2.1.symm
  · rw [e,hg1] at hg
    simp only [Option.some.injEq,Obj.cells.injEq] at hg
    rcases hT with rfl | rfl
    · exact h1 hg.2.1.symm
    · exact h2 hg.2.1.symm
theorem own_turn (h : Scp B W s n F L bl m lv bv) {Tv kx lx To ky ly : Nat} {v vo : Value} {xs ys : List Value} (hv : W.ownsRow B Tv kx v lx xs) (ho : W.ownsRow B To ky vo ly ys) (hne : To ≠ Tv) (hTo : To ≠ 89) (hf : Fr2 s (rowB v s) W X) : X.ownsRow B To ky vo ly ys:=by
 refine own_fr2 ho hf h.blk hTo fun g cs' fr' hg e => ?_
 rcases rowB_at hv s with ⟨e1,_⟩ | ⟨cs,_,hg1,_⟩
 · rw [e1] at e
   rw [e,h.blk] at hg
   simp only [Option.some.injEq,Obj.cells.injEq] at hg
   exact hTo hg.2.1.symm
 · rw [e,hg1] at hg
   simp only [Option.some.injEq,Obj.cells.injEq] at hg
   exact hne hg.2.1.symm
theorem own_ne {Tv kx lx T1 b : Nat} {v : Value} {xs : List Value} {cs1 : Array Value} {fr1 : Nat × Nat} (hv : W.ownsRow B Tv kx v lx xs) (hb : W.heap[b]? = some (.cells cs1 T1 fr1)) (hT : Tv ≠ T1) : v.ownBlock ≠ some b:=by
 intro e
 rcases rowB_at hv b with ⟨_,e1⟩ | ⟨cs,e1,hg,_⟩
 · rw [e1] at e
   cases e
 · rw [e1] at e
   simp only [Option.some.injEq] at e
   rw [e,hb] at hg
   simp only [Option.some.injEq,Obj.cells.injEq] at hg
   exact hT hg.2.1.symm
theorem rowB_ne {v : Value} {g s : Nat} (h1 : g ≠ s) (h : v.ownBlock ≠ some g) : g ≠ rowB v s:=fun e => by
 unfold rowB at e
 cases hv : v.ownBlock with
 | none =>
  rw [hv] at e
  exact h1 e
 | some c =>
  rw [hv] at e
  exact h (by rw [hv,e];rfl)
theorem ownBlock_some {gg l c g : Nat} (h : (Value.slice (some ⟨gg,0,none⟩) l c).ownBlock = some g) : gg = g:=by
 simpa [Value.ownBlock] using h
theorem apx_bv {W X : World} {s gg k c : Nat} {m lv bv : Value} (hfr : Fr2 s (rowB bv s) W X) (hge : bv.ownBlock = some gg ∨ W.heap.size ≤ gg) : Apx W X s m lv bv m lv (.slice (some ⟨gg,0,none⟩) k c):=fun g hg ha => ⟨hfr.2 g hg ha.1 (rowB_ne ha.1 ha.2.2.2),ha.1,ha.2.1,ha.2.2.1,fun e => by
 have:=ownBlock_some e
 subst this
 rcases hge with h | h
 · exact ha.2.2.2 h
 · omega⟩
theorem apx_lv {W X : World} {s gg k c : Nat} {m lv bv : Value} (hfr : Fr2 s (rowB lv s) W X) (hge : lv.ownBlock = some gg ∨ W.heap.size ≤ gg) : Apx W X s m lv bv m (.slice (some ⟨gg,0,none⟩) k c) bv:=fun g hg ha => ⟨hfr.2 g hg ha.1 (rowB_ne ha.1 ha.2.2.1),ha.1,ha.2.1,(fun e => by
 have:=ownBlock_some e
 subst this
 rcases hge with h | h
 · exact ha.2.2.1 h
 · omega),ha.2.2.2⟩
theorem enter_any (h : Hid (Scp B W s n F L bl m lv bv)) (hL : L.length ≤ 1000000) (hb : bl.length ≤ 1000000) :
 Calls Try.prog 10 #[.pointer (some ⟨s,0,none⟩)] W fun e w' => e = .returned (.tuple #[]) ∧ ∃ bv',Scp B w' s n F L (bl ++ [L.length]) m lv bv' ∧ Below B W w' ∧ Apx W w' s m lv bv m lv bv':=by
 obtain ⟨mm,p,c,q,d,rfl,rfl,rfl⟩:=h.out.forms
 obtain ⟨i0,hinf,hzi0,hzi1,hzi2⟩:=info_parts infoI1
 have heq:=eql_ptr_some ⟨s,0,none⟩ W
 obtain ⟨sl,⟨c0,c1,c2⟩,f0,f1,f2⟩:=h.out.facts
 have hBW : B ≤ W.heap.size:=Nat.le_of_lt (Nat.lt_of_le_of_lt h.out.hs sl)
 obtain ⟨l,hl⟩ : ∃ l,L.length = l:=⟨_,rfl⟩
 obtain ⟨k,hk⟩ : ∃ k,bl.length = k:=⟨_,rfl⟩
 rw [hl] at hL c1
 rw [hk] at hb c2
 have HK : Hid (L.length = l ∧ bl.length = k):=hid ⟨hl,hk⟩
 have HO : Hid (W.ownsRow B 3 1 (.slice q k d) k (bl.map fun (i : Nat) => Value.int .i64 (i : Int))):=hid (by (have:=h.out.bk;rwa [hk] at this))
 have hne : (Value.slice q k d).ownBlock ≠ some s:=own_ne HO.out h.out.blk (by decide)
 have HNE:=hid hne
 clear hl hk hne
 go_enter Try.func10,Try.ntmps10
 go_upto_region 1 with (fail)
 clear heq
 go_region_law (first
  | (refine step_append_lies _ (by rfl) _ _ _ (by rfl) B 3 i0 _ 1 8 Try.underlying87 hinf hzi0 hzi1 hzi2 rfl (by decide) (.slice q k d) k (bl.map fun (i : Nat) => Value.int .i64 (i : Int)) (by rfl) (own_below HO.out (((Below.refl W.heap.size W).drew).alloc (Nat.le_refl _) _)) ⟨_,0,none⟩ 1 1 [.int .i64 l] (by rfl) (by rfl) (World.news_of_block (heap_alloc_new _ _)) int_one1 (by decide) (by unfold maxLen;omega) (by omega) (by simp;omega) _ rfl ?_;intro gg cap6 w9 hown9 hgrow9 hor9 hlt9;have hs9 : w9.heap[s]? = some (.cells #[.map mm,.slice p l c,.slice q k d] 89 (0,0)):=(hgrow9.block s (by simp;omega) (fun e => HNE.out e.symm)).trans ((Below.heap_alloc _ _ s sl).trans (by (have:=h.out.blk;rw [HK.out.1,HK.out.2] at this;exact this)));have s92 : w9.cell? ⟨s,2,none⟩ = some (.slice q k d):=cell_of_row _ _ _ _ _ _ hs9;have sf9 : w9.frozen? ⟨s,2,none⟩ = false:=frozen_of_row _ _ _ _ _ hs9;have sl9 : s < w9.heap.size:=(Array.getElem?_eq_some_iff.1 hs9).1;have HS9:=hid hs9;have HGE : Hid ((Value.slice q k d).ownBlock = some gg ∨ W.heap.size ≤ gg):=hid (hor9.imp id (fun e => by rw [e];simp));clear hor9;have HG9:=hid hgrow9;have HO9:=hid hown9;clear hs9 hgrow9 hown9))
 all_goals go_wp2
 all_goals go_end0
 all_goals
  have hfr : Fr2 s (rowB (.slice q k d) s) W (w9.setCell ⟨s,2,none⟩ (.slice (some ⟨gg,0,none⟩) (k + 1) cap6)):=(Fr2.growRow (((Fr2.refl _ _ W).drew).alloc _) HG9.out).set (.inl rfl) _ _
  have hsX:=heap_setCell_same w9 s 2 _ _ (.slice (some ⟨gg,0,none⟩) (k + 1) cap6) HS9.out
  have hbk : (w9.setCell ⟨s,2,none⟩ (.slice (some ⟨gg,0,none⟩) (k + 1) cap6)).ownsRow B 3 1 (.slice (some ⟨gg,0,none⟩) (k + 1) cap6) (bl ++ [L.length]).length ((bl ++ [L.length]).map fun (i : Nat) => Value.int .i64 (i : Int)):=by
   rw [List.length_append,List.map_append,HK.out.1,HK.out.2]
   exact own_setN HO9.out (own_ne HO9.out HS9.out (by decide)) _ _
  have hlo:=own_turn h.out HO.out h.out.lo (by decide) (by decide) hfr
  obtain ⟨h1,h2⟩:=h.out.turn HO.out (.inr rfl) hfr (by rw [HK.out.1];exact hsX) hlo hbk
  exact ⟨rfl,_,h1,h2,by (rw [HK.out.1,HK.out.2];exact apx_bv hfr HGE.out)⟩
end
end Go.Proofs.Ytbmmjomcjlpnlaa
namespace Go.Proofs.Ytbmmjomcjlpnlaa
open Go Go.RowKit
def nmCells (x : ByteArray × Int) : List Value:=[.string x.1,.int .i64 x.2]
theorem infoNd : (Try.prog.info? 134).map (fun i => (i.zero,i.size,i.bytes)) = some (some (.agg #[.string ⟨#[]⟩,.int .i64 0]),2,24):=by kernel_rfl
theorem nm_one {s : ByteArray} {i : Int} : ∀ u ∈ ([.string s,.int .i64 i] : List Value),u.oneCell' = true:=by
 intro u hu
 simp at hu
 rcases hu with rfl | rfl <;> rfl
def glNm (y : Gl) : ByteArray × Int:=(bstr y.nm,y.a)
def lkNm (y : Lk) : ByteArray × Int:=(bstr y.nm,y.a)
def fnNm (y : Fn) : ByteArray × Int:=(bstr y.nm,y.a)
def rfNm (q : Fn × FV) : ByteArray × Int:=fnNm q.1
def fnF (q : Fn × FV) : List Value:=fnCells q.1 q.2
def thingsL (p : Pg) : List (ByteArray × Int):=p.gs.map glNm ++ p.ls.map lkNm ++ p.fs.map fnNm
theorem plain_cell {α : Type} {B T K n : Nat} {f : α → List Value} (hf : ∀ a,(f a).length = K) {W : World} {l : List α} {g c : Nat} (h : W.ownsRow B T K (.slice (some ⟨g,0,none⟩) n c) n (l.flatMap f)) {i : Nat} {x : α} (hx : l[i]? = some x) {j : Nat} {u : Value} (hu : (f x)[j]? = some u) : W.cell? ⟨g,i * K + j,none⟩ = some u:=by
 rcases h.2 with ⟨h0,_⟩ | ⟨g',cap,cur,hv,hB,hg,hcap,hmx,hsz,htk⟩
 · cases h0
 cases hv
 refine (cell_of_row _ _ _ _ _ _ hg).trans ?_
 have h1:=plain_at hf l i x j u hx hu
 rw [← htk,List.getElem?_take] at h1
 split at h1
 · simpa using h1
 · cases h1
theorem own_base {B B' T K n : Nat} {W : World} {v : Value} {xs : List Value} (h : W.ownsRow B T K v n xs) (hb : B' ≤ B) : W.ownsRow B' T K v n xs:=by
 refine ⟨h.1,?_⟩
 rcases h.2 with h0 | ⟨g,cap,cur,rfl,hB,rest⟩
 · exact .inl h0
 · exact .inr ⟨g,cap,cur,rfl,Nat.le_trans hb hB,rest⟩
theorem own_memN {B T K n : Nat} {W : World} {v : Value} {xs : List Value} (h : W.ownsRow B T K v n xs) : ∀ j,v.ownBlock = some j → B ≤ j:=by
 intro j e
 rcases h.2 with ⟨rfl,_⟩ | ⟨g,cap,cur,rfl,hB,_⟩
 · cases e
 · cases e
   exact hB
theorem row_some {B T K n : Nat} {W : World} {v : Value} {xs : List Value} (h : W.ownsRow B T K v n xs) (hn : 0 < n) : ∃ g c,v = .slice (some ⟨g,0,none⟩) n c ∧ g < W.heap.size ∧ B ≤ g:=by
 rcases h.2 with ⟨_,h0⟩ | ⟨g,cap,cur,hv,hB,hg,_⟩
 · omega
 · exact ⟨g,cap,hv,(Array.getElem?_eq_some_iff.1 hg).1,hB⟩
theorem things_any {B : Nat} {W : World} {p : Pg} {v0 v1 v2 v3 : Value} {rf : List (Fn × FV)} {rt : List (List Stm × Value)} (R : Hid (PRows B W p v0 v1 v2 v3 rf rt)) (hg : p.gs.length ≤ 1000) (hl : p.ls.length ≤ 1000) (hf : p.fs.length ≤ 1000) :
 Calls Try.prog 53 #[.agg #[v0,v1,v2,v3]] W fun e w' => Below W.heap.size W w' ∧ ∃ v,e = .returned v ∧ w'.ownsRow W.heap.size 134 2 v (thingsL p).length ((thingsL p).flatMap nmCells):=by
 obtain ⟨i0,hinf,hzi0,hzi1,hzi2⟩:=info_parts infoNd
 obtain ⟨z0,k0,rfl⟩:=own_form R.out.g
 obtain ⟨z1,k1,rfl⟩:=own_form R.out.l
 obtain ⟨z2,k2,rfl⟩:=own_form R.out.f
 obtain ⟨z3,k3,rfl⟩:=own_form R.out.t
 obtain ⟨n0,hn0⟩ : ∃ n,p.gs.length = n:=⟨_,rfl⟩
 obtain ⟨n1,hn1⟩ : ∃ n,p.ls.length = n:=⟨_,rfl⟩
 obtain ⟨n2,hn2⟩ : ∃ n,p.fs.length = n:=⟨_,rfl⟩
 obtain ⟨n3,hn3⟩ : ∃ n,p.ths.length = n:=⟨_,rfl⟩
 have HN : Hid (p.gs.length = n0 ∧ p.ls.length = n1 ∧ p.fs.length = n2 ∧ p.ths.length = n3):=hid ⟨hn0,hn1,hn2,hn3⟩
 have HR0 : Hid (W.ownsRow B 56 6 (.slice z0 n0 k0) n0 (p.gs.flatMap glCells)):=hid (by (have:=R.out.g;rwa [hn0] at this))
 have HR1 : Hid (W.ownsRow B 95 2 (.slice z1 n1 k1) n1 (p.ls.flatMap lkCells)):=hid (by (have:=R.out.l;rwa [hn1] at this))
 have HR2 : Hid (W.ownsRow B 65 12 (.slice z2 n2 k2) n2 (rf.flatMap fnF)):=hid (by (have:=R.out.f;rwa [hn2] at this))
 have HRL : Hid (rf.length = n2):=hid (by (have h:=congrArg List.length R.out.ef;rw [List.length_map] at h;exact h.trans hn2))
 have HEF:=hid R.out.ef
 rw [hn0] at hg
 rw [hn1] at hl
 rw [hn2] at hf
 rw [hn0,hn1,hn2,hn3]
 clear hn0 hn1 hn2 hn3
 go_enter Try.func53,Try.ntmps53
 go_upto_region 3 with (fail)
 refine name_world ?_
 intro W1 hW1
 have HB1 : Hid (Below W.heap.size W W1):=hid (by (rw [hW1];exact below_of_alloc _ _))
 have hm1 : W1.heap[W.heap.size]? = some (.cells #[.slice z0 n0 k0,.slice z1 n1 k1,.slice z2 n2 k2,.slice z3 n3 k3] 29 (0,0)):=by (rw [hW1];exact heap_alloc_new _ _)
 have HM1:=hid hm1
 have HS0 : Hid (W1.ownsRow B 56 6 (.slice z0 n0 k0) n0 (p.gs.flatMap glCells)):=hid (own_below HR0.out HB1.out)
 have HS1 : Hid (W1.ownsRow B 95 2 (.slice z1 n1 k1) n1 (p.ls.flatMap lkCells)):=hid (own_below HR1.out HB1.out)
 have HS2 : Hid (W1.ownsRow B 65 12 (.slice z2 n2 k2) n2 (rf.flatMap fnF)):=hid (own_below HR2.out HB1.out)
 have hM : W.heap.size < W1.heap.size:=(Array.getElem?_eq_some_iff.1 hm1).1
 clear hW1 hm1 HR0 HR1 HR2
 go_loopw [3,13] (fun tv iv wr => ∃ (i : Nat) (v : Value),tv = v ∧ iv = .int .i64 i ∧ i ≤ n0 ∧ Below W1.heap.size W1 wr ∧ wr.ownsRow W1.heap.size 134 2 v (([] : List (ByteArray × Int)) ++ (p.gs.take i).map glNm).length ((([] : List (ByteArray × Int)) ++ (p.gs.take i).map glNm).flatMap nmCells)) (fun _ iv _ => n0 - (intOf iv).toNat)
 case atStart => exact ⟨0,_,rfl,rfl,Nat.zero_le _,Below.refl _ _,World.ownsRow_nil _ _ _ _⟩
 case round =>
  obtain ⟨i,v,rfl,rfl,hi,hbr,hown⟩:=hrel
  have HBR:=hid hbr
  have HOW:=hid hown
  by_cases hin : i < n0
  · obtain ⟨x,hx⟩ : ∃ x,p.gs[i]? = some x:=⟨_,List.getElem?_eq_getElem (by (have:=HN.out.1;omega))⟩
    obtain ⟨gx,cx,ez,hgx,_⟩:=row_some HS0.out (show 0 < n0 by omega)
    cases ez
    have hrw:=own_below HS0.out (hbr.mono (Nat.le_refl _))
    have d0 : wr.cell? ⟨gx,i * 6,none⟩ = some (.int .i64 x.a):=plain_cell (K:=6) (f:=glCells) (fun _ => rfl) hrw hx (j:=0) rfl
    have d1 : wr.cell? ⟨gx,i * 6 + 1,none⟩ = some (.string (bstr x.nm)):=plain_cell (K:=6) (f:=glCells) (fun _ => rfl) hrw hx (j:=1) rfl
    have d2 : wr.cell? ⟨gx,i * 6 + 2,none⟩ = some (.bool x.tr):=plain_cell (K:=6) (f:=glCells) (fun _ => rfl) hrw hx (j:=2) rfl
    have d3 : wr.cell? ⟨gx,i * 6 + 3,none⟩ = some (.bool x.sc):=plain_cell (K:=6) (f:=glCells) (fun _ => rfl) hrw hx (j:=3) rfl
    have d4 : wr.cell? ⟨gx,i * 6 + 4,none⟩ = some (.int .i64 x.len):=plain_cell (K:=6) (f:=glCells) (fun _ => rfl) hrw hx (j:=4) rfl
    have d5 : wr.cell? ⟨gx,i * 6 + 5,none⟩ = some (.string (bstr x.by_)):=plain_cell (K:=6) (f:=glCells) (fun _ => rfl) hrw hx (j:=5) rfl
    have hgw : gx < wr.heap.size:=Nat.lt_of_lt_of_le hgx hbr.size
    have hlt : (i : Int) < (n0 : Int):=by omega
    have hi0 : (0 : Int) ≤ (i : Int):=Int.natCast_nonneg _
    have hA:=below_of_alloc wr (.cells #[.int .i64 x.a,.string (bstr x.nm),.bool x.tr,.bool x.sc,.int .i64 x.len,.string (bstr x.by_)] 56)
    have HX:=hid hx
    have hcnt : (([] : List (ByteArray × Int)) ++ (p.gs.take i).map glNm).length ≤ 3000:=by (have:=HN.out;have hc1 : (p.gs.take i).length ≤ i:=List.length_take_le _ _;simp only [List.length_append,List.length_map,List.length_nil];omega)
    clear hrw hx hbr hown
    go_upto_region 5 with (fail)
    clear d0 d1 d2 d3 d4 d5
    refine name_world ?_
    intro W2 hW2
    have hP : W2.heap[wr.heap.size]? = some (.cells #[.int .i64 x.a,.string (bstr x.nm),.bool x.tr,.bool x.sc,.int .i64 x.len,.string (bstr x.by_)] 56 (0,0)):=by (rw [hW2];exact heap_alloc_new _ _)
    have HA : Hid (Below wr.heap.size wr W2):=hid (by (rw [hW2];exact hA))
    have HO2:=hid (own_below HOW.out HA.out)
    have hpl : wr.heap.size < W2.heap.size:=(Array.getElem?_eq_some_iff.1 hP).1
    have p0 : W2.cell? ⟨wr.heap.size,0,none⟩ = some (.int .i64 x.a):=cell_of_row _ _ _ _ _ _ hP
    have p1 : W2.cell? ⟨wr.heap.size,1,none⟩ = some (.string (bstr x.nm)):=cell_of_row _ _ _ _ _ _ hP
    have hBW2 : W1.heap.size ≤ W2.heap.size:=Nat.le_trans HBR.out.size HA.out.size
    clear hW2 hP hA
    go_wp2_with (at_builtin;go_must (refine wpList_append_own _ rfl (.tmp 17) (.tmp 23) 130 rfl W1.heap.size 134 i0 _ 2 24 Try.underlying130 hinf hzi0 hzi1 hzi2 rfl (by decide) _ _ _ rfl (HO2.out.alloc _) ⟨_,0,none⟩ 1 1 [.string (bstr x.nm),.int .i64 x.a] rfl rfl (World.news_of_block (heap_alloc_new _ _)) nm_one (by unfold maxLen;omega) (by omega) (by simp;omega) ?_;intro v4 w4 hown4 hgrow4 _;have HO4:=hid hown4;have HG4:=hid hgrow4;clear hown4 hgrow4))
    go_roundw
    case rel =>
     have e : ([] : List (ByteArray × Int)) ++ (p.gs.take (i + 1)).map glNm = (([] : List (ByteArray × Int)) ++ (p.gs.take i).map glNm) ++ [glNm x]:=by
      rw [List.take_add_one,HX.out]
      simp
     refine ⟨i + 1,_,rfl,by go_num,by omega,((below_ch HBR.out HA.out).alloc hBW2 _).grown HG4.out (by simp;omega) (own_memN HOW.out),?_⟩
     rw [e,List.length_append,List.flatMap_append]
     exact HO4.out
    case measure =>
     simp [intOf]
     omega
  · have hlt : ¬ (i : Int) < (n0 : Int):=by omega
    obtain rfl : n0 = i:=by omega
    have et : p.gs.take n0 = p.gs:=by (rw [← HN.out.1];exact List.take_length)
    rw [et] at HOW
    clear et hbr hown
    have hm : wr.heap[W.heap.size]? = some (.cells #[.slice z0 n0 k0,.slice z1 n1 k1,.slice z2 n2 k2,.slice z3 n3 k3] 29 (0,0)):=(HBR.out.block _ hM).trans HM1.out
    have hml : W.heap.size < wr.heap.size:=(Array.getElem?_eq_some_iff.1 hm).1
    have m1 : wr.cell? ⟨W.heap.size,1,none⟩ = some (.slice z1 n1 k1):=cell_of_row _ _ _ _ _ _ hm
    have m2 : wr.cell? ⟨W.heap.size,2,none⟩ = some (.slice z2 n2 k2):=cell_of_row _ _ _ _ _ _ hm
    clear hm
    go_upto_region 8 with (fail)
    have HBA:=HBR
    have HOA:=HOW
    clear HBR HOW m1 m2 hml
    go_loopw [3,29] (fun tv iv wr => ∃ (i : Nat) (v : Value),tv = v ∧ iv = .int .i64 i ∧ i ≤ n1 ∧ Below W1.heap.size W1 wr ∧ wr.ownsRow W1.heap.size 134 2 v (p.gs.map glNm ++ (p.ls.take i).map lkNm).length ((p.gs.map glNm ++ (p.ls.take i).map lkNm).flatMap nmCells)) (fun _ iv _ => n1 - (intOf iv).toNat)
    case atStart => exact ⟨0,_,rfl,rfl,Nat.zero_le _,HBA.out,by simpa using HOA.out⟩
    case round =>
     obtain ⟨i,v,rfl,rfl,hi,hbr,hown⟩:=hrel
     have HBR:=hid hbr
     have HOW:=hid hown
     by_cases hin : i < n1
     · obtain ⟨x,hx⟩ : ∃ x,p.ls[i]? = some x:=⟨_,List.getElem?_eq_getElem (by (have:=HN.out.2.1;omega))⟩
       obtain ⟨gx,cx,ez,hgx,_⟩:=row_some HS1.out (show 0 < n1 by omega)
       cases ez
       have hrw:=own_below HS1.out (hbr.mono (Nat.le_refl _))
       have d0 : wr.cell? ⟨gx,i * 2,none⟩ = some (.int .i64 x.a):=plain_cell (K:=2) (f:=lkCells) (fun _ => rfl) hrw hx (j:=0) rfl
       have d1 : wr.cell? ⟨gx,i * 2 + 1,none⟩ = some (.string (bstr x.nm)):=plain_cell (K:=2) (f:=lkCells) (fun _ => rfl) hrw hx (j:=1) rfl
       have hgw : gx < wr.heap.size:=Nat.lt_of_lt_of_le hgx hbr.size
       have hlt : (i : Int) < (n1 : Int):=by omega
       have hi0 : (0 : Int) ≤ (i : Int):=Int.natCast_nonneg _
       have hA:=below_of_alloc wr (.cells #[.int .i64 x.a,.string (bstr x.nm)] 95)
       have HX:=hid hx
       have hcnt : (p.gs.map glNm ++ (p.ls.take i).map lkNm).length ≤ 3000:=by (have:=HN.out;have hc1 : (p.ls.take i).length ≤ i:=List.length_take_le _ _;simp only [List.length_append,List.length_map,List.length_nil];omega)
       clear hrw hx hbr hown
       go_upto_region 10 with (fail)
       clear d0 d1
       refine name_world ?_
       intro W2 hW2
       have hP : W2.heap[wr.heap.size]? = some (.cells #[.int .i64 x.a,.string (bstr x.nm)] 95 (0,0)):=by (rw [hW2];exact heap_alloc_new _ _)
       have HA : Hid (Below wr.heap.size wr W2):=hid (by (rw [hW2];exact hA))
       have HO2:=hid (own_below HOW.out HA.out)
       have hpl : wr.heap.size < W2.heap.size:=(Array.getElem?_eq_some_iff.1 hP).1
       have p0 : W2.cell? ⟨wr.heap.size,0,none⟩ = some (.int .i64 x.a):=cell_of_row _ _ _ _ _ _ hP
       have p1 : W2.cell? ⟨wr.heap.size,1,none⟩ = some (.string (bstr x.nm)):=cell_of_row _ _ _ _ _ _ hP
       have hBW2 : W1.heap.size ≤ W2.heap.size:=Nat.le_trans HBR.out.size HA.out.size
       clear hW2 hP hA
       go_wp2_with (at_builtin;go_must (refine wpList_append_own _ rfl (.tmp 33) (.tmp 39) 130 rfl W1.heap.size 134 i0 _ 2 24 Try.underlying130 hinf hzi0 hzi1 hzi2 rfl (by decide) _ _ _ rfl (HO2.out.alloc _) ⟨_,0,none⟩ 1 1 [.string (bstr x.nm),.int .i64 x.a] rfl rfl (World.news_of_block (heap_alloc_new _ _)) nm_one (by unfold maxLen;omega) (by omega) (by simp;omega) ?_;intro v4 w4 hown4 hgrow4 _;have HO4:=hid hown4;have HG4:=hid hgrow4;clear hown4 hgrow4))
       go_roundw
       case rel =>
        have e : p.gs.map glNm ++ (p.ls.take (i + 1)).map lkNm = (p.gs.map glNm ++ (p.ls.take i).map lkNm) ++ [lkNm x]:=by
         rw [List.take_add_one,HX.out]
         simp
        refine ⟨i + 1,_,rfl,by go_num,by omega,((below_ch HBR.out HA.out).alloc hBW2 _).grown HG4.out (by simp;omega) (own_memN HOW.out),?_⟩
        rw [e,List.length_append,List.flatMap_append]
        exact HO4.out
       case measure =>
        simp [intOf]
        omega
     · have hlt : ¬ (i : Int) < (n1 : Int):=by omega
       obtain rfl : n1 = i:=by omega
       have et : p.ls.take n1 = p.ls:=by (rw [← HN.out.2.1];exact List.take_length)
       rw [et] at HOW
       clear et hbr hown
       have hm : wr.heap[W.heap.size]? = some (.cells #[.slice z0 n0 k0,.slice z1 n1 k1,.slice z2 n2 k2,.slice z3 n3 k3] 29 (0,0)):=(HBR.out.block _ hM).trans HM1.out
       have hml : W.heap.size < wr.heap.size:=(Array.getElem?_eq_some_iff.1 hm).1
       have m1 : wr.cell? ⟨W.heap.size,1,none⟩ = some (.slice z1 n1 k1):=cell_of_row _ _ _ _ _ _ hm
       have m2 : wr.cell? ⟨W.heap.size,2,none⟩ = some (.slice z2 n2 k2):=cell_of_row _ _ _ _ _ _ hm
       clear hm
       go_upto_region 13 with (fail)
       clear HBA HOA
       have HBA:=HBR
       have HOA:=HOW
       clear HBR HOW m1 m2 hml
       go_loopw [3,45] (fun tv iv wr => ∃ (i : Nat) (v : Value),tv = v ∧ iv = .int .i64 i ∧ i ≤ n2 ∧ Below W1.heap.size W1 wr ∧ wr.ownsRow W1.heap.size 134 2 v ((p.gs.map glNm ++ p.ls.map lkNm) ++ (rf.take i).map rfNm).length (((p.gs.map glNm ++ p.ls.map lkNm) ++ (rf.take i).map rfNm).flatMap nmCells)) (fun _ iv _ => n2 - (intOf iv).toNat)
       case atStart => exact ⟨0,_,rfl,rfl,Nat.zero_le _,HBA.out,by simpa using HOA.out⟩
       case round =>
        obtain ⟨i,v,rfl,rfl,hi,hbr,hown⟩:=hrel
        have HBR:=hid hbr
        have HOW:=hid hown
        by_cases hin : i < n2
        · obtain ⟨⟨y,fv⟩,hx⟩ : ∃ x,rf[i]? = some x:=⟨_,List.getElem?_eq_getElem (by (have:=HRL.out;omega))⟩
          have hfn:=R.out.xf _ (List.mem_of_getElem? hx)
          obtain ⟨⟨p0,c0,ef0⟩,_⟩:=hfn.1
          obtain ⟨p1,c1,ef1⟩:=hfn.2.1.form
          obtain ⟨p2,c2,ef2⟩:=hfn.2.2.form
          obtain ⟨vp,vb,vk⟩:=fv
          simp only at ef0 ef1 ef2
          subst ef0 ef1 ef2
          obtain ⟨y0,hy0⟩ : ∃ q,y.ps.length = q:=⟨_,rfl⟩
          obtain ⟨y1,hy1⟩ : ∃ q,y.bd.length = q:=⟨_,rfl⟩
          obtain ⟨y2,hy2⟩ : ∃ q,y.ret.ks.length = q:=⟨_,rfl⟩
          rw [hy0,hy1,hy2] at hx
          obtain ⟨gx,cx,ez,hgx,_⟩:=row_some HS2.out (show 0 < n2 by omega)
          cases ez
          have hrw:=own_below HS2.out (hbr.mono (Nat.le_refl _))
          have d0 : wr.cell? ⟨gx,i * 12,none⟩ = some (.int .i64 y.a):=plain_cell (K:=12) (f:=fnF) (fun _ => rfl) hrw hx (j:=0) rfl
          have d1 : wr.cell? ⟨gx,i * 12 + 1,none⟩ = some (.string (bstr y.nm)):=plain_cell (K:=12) (f:=fnF) (fun _ => rfl) hrw hx (j:=1) rfl
          have d2 : wr.cell? ⟨gx,i * 12 + 2,none⟩ = some (.slice p0 y0 c0):=plain_cell (K:=12) (f:=fnF) (fun _ => rfl) hrw hx (j:=2) rfl
          have d3 : wr.cell? ⟨gx,i * 12 + 3,none⟩ = some (.bool y.tr):=plain_cell (K:=12) (f:=fnF) (fun _ => rfl) hrw hx (j:=3) rfl
          have d4 : wr.cell? ⟨gx,i * 12 + 4,none⟩ = some (.bool y.sc):=plain_cell (K:=12) (f:=fnF) (fun _ => rfl) hrw hx (j:=4) rfl
          have d5 : wr.cell? ⟨gx,i * 12 + 5,none⟩ = some (.slice p1 y1 c1):=plain_cell (K:=12) (f:=fnF) (fun _ => rfl) hrw hx (j:=5) rfl
          have d6 : wr.cell? ⟨gx,i * 12 + 6,none⟩ = some (.int .i64 y.ret.k):=plain_cell (K:=12) (f:=fnF) (fun _ => rfl) hrw hx (j:=6) rfl
          have d7 : wr.cell? ⟨gx,i * 12 + 7,none⟩ = some (.int .i64 y.ret.op):=plain_cell (K:=12) (f:=fnF) (fun _ => rfl) hrw hx (j:=7) rfl
          have d8 : wr.cell? ⟨gx,i * 12 + 8,none⟩ = some (.int .i64 y.ret.n):=plain_cell (K:=12) (f:=fnF) (fun _ => rfl) hrw hx (j:=8) rfl
          have d9 : wr.cell? ⟨gx,i * 12 + 9,none⟩ = some (.string (bstr y.ret.nm)):=plain_cell (K:=12) (f:=fnF) (fun _ => rfl) hrw hx (j:=9) rfl
          have d10 : wr.cell? ⟨gx,i * 12 + 10,none⟩ = some (.slice p2 y2 c2):=plain_cell (K:=12) (f:=fnF) (fun _ => rfl) hrw hx (j:=10) rfl
          have d11 : wr.cell? ⟨gx,i * 12 + 11,none⟩ = some (.int .i64 y.ret.a):=plain_cell (K:=12) (f:=fnF) (fun _ => rfl) hrw hx (j:=11) rfl
          have hgw : gx < wr.heap.size:=Nat.lt_of_lt_of_le hgx hbr.size
          have hlt : (i : Int) < (n2 : Int):=by omega
          have hi0 : (0 : Int) ≤ (i : Int):=Int.natCast_nonneg _
          have hA:=below_of_alloc wr (.cells #[.int .i64 y.a,.string (bstr y.nm),.slice p0 y0 c0,.bool y.tr,.bool y.sc,.slice p1 y1 c1,.int .i64 y.ret.k,.int .i64 y.ret.op,.int .i64 y.ret.n,.string (bstr y.ret.nm),.slice p2 y2 c2,.int .i64 y.ret.a] 65)
          have HX:=hid hx
          have hcnt : ((p.gs.map glNm ++ p.ls.map lkNm) ++ (rf.take i).map rfNm).length ≤ 3000:=by (have:=HN.out;have hc1 : (rf.take i).length ≤ i:=List.length_take_le _ _;simp only [List.length_append,List.length_map,List.length_nil];omega)
          clear hrw hx hbr hown hfn hy0 hy1 hy2
          go_upto_region 15 with (fail)
          clear d0 d1 d2 d3 d4 d5 d6 d7 d8 d9 d10 d11
          refine name_world ?_
          intro W2 hW2
          have hP : W2.heap[wr.heap.size]? = some (.cells #[.int .i64 y.a,.string (bstr y.nm),.slice p0 y0 c0,.bool y.tr,.bool y.sc,.slice p1 y1 c1,.int .i64 y.ret.k,.int .i64 y.ret.op,.int .i64 y.ret.n,.string (bstr y.ret.nm),.slice p2 y2 c2,.int .i64 y.ret.a] 65 (0,0)):=by (rw [hW2];exact heap_alloc_new _ _)
          have HA : Hid (Below wr.heap.size wr W2):=hid (by (rw [hW2];exact hA))
          have HO2:=hid (own_below HOW.out HA.out)
          have hpl : wr.heap.size < W2.heap.size:=(Array.getElem?_eq_some_iff.1 hP).1
          have pp0 : W2.cell? ⟨wr.heap.size,0,none⟩ = some (.int .i64 y.a):=cell_of_row _ _ _ _ _ _ hP
          have pp1 : W2.cell? ⟨wr.heap.size,1,none⟩ = some (.string (bstr y.nm)):=cell_of_row _ _ _ _ _ _ hP
          have hBW2 : W1.heap.size ≤ W2.heap.size:=Nat.le_trans HBR.out.size HA.out.size
          clear hW2 hP hA
          go_wp2_with (at_builtin;go_must (refine wpList_append_own _ rfl (.tmp 49) (.tmp 55) 130 rfl W1.heap.size 134 i0 _ 2 24 Try.underlying130 hinf hzi0 hzi1 hzi2 rfl (by decide) _ _ _ rfl (HO2.out.alloc _) ⟨_,0,none⟩ 1 1 [.string (bstr y.nm),.int .i64 y.a] rfl rfl (World.news_of_block (heap_alloc_new _ _)) nm_one (by unfold maxLen;omega) (by omega) (by simp;omega) ?_;intro v4 w4 hown4 hgrow4 _;have HO4:=hid hown4;have HG4:=hid hgrow4;clear hown4 hgrow4))
          go_roundw
          case rel =>
           have e : (p.gs.map glNm ++ p.ls.map lkNm) ++ (rf.take (i + 1)).map rfNm = ((p.gs.map glNm ++ p.ls.map lkNm) ++ (rf.take i).map rfNm) ++ [rfNm (y,⟨.slice p0 y0 c0,.slice p1 y1 c1,.slice p2 y2 c2⟩)]:=by
            rw [List.take_add_one,HX.out]
            simp
           refine ⟨i + 1,_,rfl,by go_num,by omega,((below_ch HBR.out HA.out).alloc hBW2 _).grown HG4.out (by simp;omega) (own_memN HOW.out),?_⟩
           rw [e,List.length_append,List.flatMap_append]
           exact HO4.out
          case measure =>
           simp [intOf]
           omega
        · have hlt : ¬ (i : Int) < (n2 : Int):=by omega
          obtain rfl : n2 = i:=by omega
          have et : rf.take n2 = rf:=by (rw [← HRL.out];exact List.take_length)
          rw [et] at HOW
          clear et hbr hown
          go_wp2
          go_ret
          refine ⟨below_ch HB1.out HBR.out,_,rfl,?_⟩
          have e : thingsL p = (p.gs.map glNm ++ p.ls.map lkNm) ++ rf.map rfNm:=by
           unfold thingsL
           rw [← HEF.out,List.map_map]
           rfl
          rw [e]
          exact own_base HOW.out (Nat.le_of_lt hM)
end Go.Proofs.Ytbmmjomcjlpnlaa
namespace Go.Proofs.Ytbmmjomcjlpnlaa
open Go Go.RowKit Go.ChangeMaps Go.MapKept Go.WideElems Go.Maps
abbrev IF : Type:=List UInt8 → Option Int
def IF.kf (f : IF) : KF:=fun t => (f t).map (Value.int .i64)
def IF.upd (f : IF) (s : List UInt8) (a : Int) : IF:=fun t => if t = s then some a else f t
def fstep (f : IF) (x : ByteArray × Int) : IF:=match f x.1.data.toList with
 | none => f.upd x.1.data.toList x.2
 | some a => if x.2 < a then f.upd x.1.data.toList x.2 else f
def lstep (f : IF) (st : Int × Bool) (x : ByteArray × Int) : Int × Bool:=if (f x.1.data.toList).getD 0 < x.2 ∧ (st.2 = false ∨ x.2 < st.1) then (x.2,true) else st
def firstF (l : List (ByteArray × Int)) : IF:=l.foldl fstep fun _ => none
def twiceF (l : List (ByteArray × Int)) : Int × Bool:=l.foldl (lstep (firstF l)) (0,false)
theorem IF.kf_upd (f : IF) (s : List UInt8) (a : Int) : (f.upd s a).kf = f.kf.upd s (.int .i64 a):=by
 funext t
 unfold IF.kf IF.upd KF.upd
 by_cases e : t = s <;> simp [e]
theorem zeroInt (W : World) : (zeroValue 3).run Try.prog W = .ok (.int .i64 0) W:=by kernel_rfl
section
variable {W : World} {b n : Nat} {f : KF}
theorem KMap.look_ok (h : KMap W b n f) {s : ByteArray} (hs : s.size ≤ maxLen) : (Instr.lookup 132 (.map (some b)) (.string s) true).run Try.prog W = .ok (.tuple #[(f s.data.toList).getD (.int .i64 0),.bool (f s.data.toList).isSome]) W:=by
 obtain ⟨D,h1,h2⟩:=h
 obtain ⟨v,ps,hr,hv⟩:=h1.look_ok keyedM Try.underlying132 (zeroInt W) (zd:=.held (.int .i64 0)) (zp:=[]) rfl (keyOfS hs)
 rw [h2] at hv
 cases hf : f s.data.toList with
 | none =>
  rw [hf] at hv
  have e : v = .int .i64 0:=(by simpa [RV] using hv : _ ∧ _).1
  have hh : Maps.has D (.string s.data.toList) = false:=Maps.has_false_of_atKey fun z => by rw [h2,hf]
  rw [hr,hh,e]
  rfl
 | some u =>
  rw [hf] at hv
  have e : v = u:=(by simpa [RV] using hv : _ ∧ _).1
  have hh : Maps.has D (.string s.data.toList) = true:=Maps.has_true_of_atKey (y:=.held u) fun z => by rw [h2,hf]
  rw [hr,hh,e]
  rfl
theorem KMap.look_int (h : KMap W b n f) {s : ByteArray} (hs : s.size ≤ maxLen) : (Instr.lookup 132 (.map (some b)) (.string s) false).run Try.prog W = .ok ((f s.data.toList).getD (.int .i64 0)) W:=by
 obtain ⟨D,h1,h2⟩:=h
 obtain ⟨v,ps,hr,hv⟩:=h1.lookup keyedM Try.underlying132 (zeroInt W) (zd:=.held (.int .i64 0)) (zp:=[]) rfl (keyOfS hs)
 rw [h2] at hv
 have e : v = (f s.data.toList).getD (.int .i64 0):=by
  cases hf : f s.data.toList with
  | none =>
   rw [hf] at hv
   exact (by simpa [RV] using hv : _ ∧ _).1
  | some u =>
   rw [hf] at hv
   exact (by simpa [RV] using hv : _ ∧ _).1
 rw [hr,e]
theorem KMap.run_putI (h : KMap W b n f) (hn : n < maxLen) {s : ByteArray} (hs : s.size ≤ maxLen) (val : Value) :
 ∃ w',(Instr.mapUpdate 132 (.map (some b)) (.string s) val).run Try.prog W = .ok () w' ∧ KMap w' b (n + 1) (f.upd s.data.toList val) ∧ W.grownBy w' (some b):=by
 obtain ⟨D,h1,h2⟩:=h
 obtain ⟨w',hrun,r1,r2⟩:=h1.update keyedM Try.underlying132 hn (keyOfS hs) (val:=val) rfl
 exact ⟨w',hrun,⟨_,r1,KMap.put_ h1.isMap h2⟩,r2⟩
end
theorem twice_any {B : Nat} {W : World} {p : Pg} {v0 v1 v2 v3 : Value} {rf : List (Fn × FV)} {rt : List (List Stm × Value)} (R : Hid (PRows B W p v0 v1 v2 v3 rf rt)) (hg : p.gs.length ≤ 1000) (hl : p.ls.length ≤ 1000) (hf : p.fs.length ≤ 1000) (hx : ∀ x ∈ thingsL p,x.1.size ≤ 140737488355328) :
 Calls Try.prog 26 #[.agg #[v0,v1,v2,v3]] W fun e w' => Below W.heap.size W w' ∧ e = .returned (.tuple #[.int .i64 (twiceF (thingsL p)).1,.bool (twiceF (thingsL p)).2]):=by
 obtain ⟨z0,k0,rfl⟩:=own_form R.out.g
 obtain ⟨z1,k1,rfl⟩:=own_form R.out.l
 obtain ⟨z2,k2,rfl⟩:=own_form R.out.f
 obtain ⟨z3,k3,rfl⟩:=own_form R.out.t
 have HT : Hid (∀ X,Below W.heap.size W X → Calls Try.prog 53 #[.agg #[.slice z0 p.gs.length k0,.slice z1 p.ls.length k1,.slice z2 p.fs.length k2,.slice z3 p.ths.length k3]] X fun e w' => Below X.heap.size X w' ∧ ∃ v,e = .returned v ∧ w'.ownsRow X.heap.size 134 2 v (thingsL p).length ((thingsL p).flatMap nmCells)):=hid fun X hX => things_any (hid (R.out.stay hX)) hg hl hf
 obtain ⟨l,hll⟩ : ∃ l,thingsL p = l:=⟨_,rfl⟩
 have hlen : l.length ≤ 3000:=by (rw [← hll];unfold thingsL;simp only [List.length_append,List.length_map];omega)
 rw [hll] at HT hx ⊢
 obtain ⟨n0,hn0⟩ : ∃ n,p.gs.length = n:=⟨_,rfl⟩
 obtain ⟨n1,hn1⟩ : ∃ n,p.ls.length = n:=⟨_,rfl⟩
 obtain ⟨n2,hn2⟩ : ∃ n,p.fs.length = n:=⟨_,rfl⟩
 obtain ⟨n3,hn3⟩ : ∃ n,p.ths.length = n:=⟨_,rfl⟩
 rw [hn0,hn1,hn2,hn3] at HT
 rw [hn0,hn1,hn2,hn3]
 obtain ⟨n,hn⟩ : ∃ n,l.length = n:=⟨_,rfl⟩
 rw [hn] at HT hlen
 have HX:=hid hx
 have HN:=hid hn
 clear hn0 hn1 hn2 hn3 hg hl hf R hll hx hn
 go_enter Try.func26,Try.ntmps26
 go_upto_region 1 with (fail)
 refine name_world ?_
 intro W1 hW1
 have HB1 : Hid (Below W.heap.size W W1):=hid (by (rw [hW1];exact below_of_alloc _ _))
 have hm1 : W1.heap[W.heap.size]? = some (.cells #[.slice z0 n0 k0,.slice z1 n1 k1,.slice z2 n2 k2,.slice z3 n3 k3] 29 (0,0)):=by (rw [hW1];exact heap_alloc_new _ _)
 have hml : W.heap.size < W1.heap.size:=(Array.getElem?_eq_some_iff.1 hm1).1
 have m0 : W1.cell? ⟨W.heap.size,0,none⟩ = some (.slice z0 n0 k0):=cell_of_row _ _ _ _ _ _ hm1
 have m1 : W1.cell? ⟨W.heap.size,1,none⟩ = some (.slice z1 n1 k1):=cell_of_row _ _ _ _ _ _ hm1
 have m2 : W1.cell? ⟨W.heap.size,2,none⟩ = some (.slice z2 n2 k2):=cell_of_row _ _ _ _ _ _ hm1
 have m3 : W1.cell? ⟨W.heap.size,3,none⟩ = some (.slice z3 n3 k3):=cell_of_row _ _ _ _ _ _ hm1
 clear hW1 hm1
 go_upto_region 2 with (go_at_call 53;(with_reducible refine (HT.out _ HB1.out).mono ?_);rintro e1 w2 ⟨hb2,v,rfl,ho2⟩;obtain ⟨zv,cv,rfl⟩:=own_form ho2;have HB2:=hid (below_ch HB1.out hb2);have HO2:=hid ho2;clear hb2 ho2)
 clear m0 m1 m2 m3
 have hmk : (Instr.makeMap 132 none).run Try.prog w2 = .ok (.map (some w2.heap.size)) (w2.alloc (.map #[] 0)):=rfl
 go_upto_region 4 with (fail)
 clear hmk
 refine name_world ?_
 intro W3 hW3
 have HK3 : Hid (KMap W3 w2.heap.size 0 (IF.kf fun _ => none)):=hid (by (rw [hW3];exact KMap.made w2))
 have HA3 : Hid (Below w2.heap.size w2 W3):=hid (by (rw [hW3];exact below_of_alloc _ _))
 have HO3:=hid (own_below HO2.out HA3.out)
 clear hW3
 go_loopw [19] (fun iv wr => ∃ (i : Nat),iv = .int .i64 i ∧ i ≤ n ∧ Below w2.heap.size w2 wr ∧ KMap wr w2.heap.size i (IF.kf ((l.take i).foldl fstep fun _ => none))) (fun iv _ => n - (intOf iv).toNat)
 case atStart => exact ⟨0,rfl,Nat.zero_le _,HA3.out,HK3.out⟩
 case round =>
  obtain ⟨i,rfl,hi,hbr,hkr⟩:=hrel
  have HBR:=hid hbr
  have HKR:=hid hkr
  by_cases hin : i < n
  · obtain ⟨x,hx⟩ : ∃ x,l[i]? = some x:=⟨_,List.getElem?_eq_getElem (by (have:=HN.out;omega))⟩
    have HO5 : Hid (w2.ownsRow W1.heap.size 134 2 (.slice zv n cv) n (l.flatMap nmCells)):=hid HO2.out
    obtain ⟨gx,cx,ez,hgx,_⟩:=row_some HO5.out (show 0 < n by omega)
    cases ez
    have hrw:=own_below HO5.out hbr
    have d0 : wr.cell? ⟨gx,i * 2,none⟩ = some (.string x.1):=plain_cell (K:=2) (f:=nmCells) (fun _ => rfl) hrw hx (j:=0) rfl
    have d1 : wr.cell? ⟨gx,i * 2 + 1,none⟩ = some (.int .i64 x.2):=plain_cell (K:=2) (f:=nmCells) (fun _ => rfl) hrw hx (j:=1) rfl
    have hgw : gx < wr.heap.size:=Nat.lt_of_lt_of_le hgx hbr.size
    have hlt : (i : Int) < (n : Int):=by omega
    have hi0 : (0 : Int) ≤ (i : Int):=Int.natCast_nonneg _
    have HXX:=hid hx
    have hxs : x.1.size ≤ maxLen:=Nat.le_trans (HX.out x (List.mem_of_getElem? hx)) (by decide)
    clear hrw hx hbr hkr HO5
    go_upto_region 6 with (fail)
    clear d0 d1
    refine name_world ?_
    intro W4 hW4
    have hP : W4.heap[wr.heap.size]? = some (.cells #[.string x.1,.int .i64 x.2] 134 (0,0)):=by (rw [hW4];exact heap_alloc_new _ _)
    have HA : Hid (Below wr.heap.size wr W4):=hid (by (rw [hW4];exact below_of_alloc _ _))
    have hpl : wr.heap.size < W4.heap.size:=(Array.getElem?_eq_some_iff.1 hP).1
    have p0 : W4.cell? ⟨wr.heap.size,0,none⟩ = some (.string x.1):=cell_of_row _ _ _ _ _ _ hP
    have p1 : W4.cell? ⟨wr.heap.size,1,none⟩ = some (.int .i64 x.2):=cell_of_row _ _ _ _ _ _ hP
    have hk4:=HKR.out.stay HA.out
    have HK4:=hid hk4
    have HB4:=hid (below_ch HBR.out HA.out)
    have HP:=hid hP
    clear hW4 hP
    have et : ∀ g : IF,(l.take (i + 1)).foldl fstep g = fstep ((l.take i).foldl fstep g) x:=fun g => by rw [List.take_add_one,HXX.out,List.foldl_append];rfl
    have HET:=hid et
    obtain ⟨f,hf⟩ : ∃ f,(l.take i).foldl fstep (fun _ => none) = f:=⟨_,rfl⟩
    have HF:=hid hf
    rw [hf] at hk4 HK4
    have hlk:=hk4.look_ok hxs
    obtain ⟨w5,hrun,hk5,hg5⟩:=hk4.run_putI (by (have : i ≤ 3000:=by omega);exact Nat.lt_of_le_of_lt this (by decide)) hxs (.int .i64 x.2)
    have HK5:=hid hk5
    have HG5:=hid hg5
    have HB5 : Hid (Below w2.heap.size w2 w5):=hid (HB4.out.grown hg5 HB4.out.size (fun k e => by cases e;exact Nat.le_refl _))
    clear et hf hk4 hk5 hg5
    cases ha : f x.1.data.toList with
    | none =>
     have hv : IF.kf f x.1.data.toList = none:=by (unfold IF.kf;rw [ha];rfl)
     rw [hv] at hlk
     simp only [Option.getD_none,Option.isSome_none] at hlk
     clear hv
     have HAA:=hid ha
     clear ha
     go_wp2
     go_roundw
     case rel =>
      refine ⟨i + 1,by go_num,by omega,HB5.out,?_⟩
      rw [HET.out,HF.out]
      unfold fstep
      rw [HAA.out]
      rw [IF.kf_upd]
      exact HK5.out
     case measure =>
      simp [intOf]
      omega
    | some a =>
     have hv : IF.kf f x.1.data.toList = some (.int .i64 a):=by (unfold IF.kf;rw [ha];rfl)
     rw [hv] at hlk
     simp only [Option.getD_some,Option.isSome_some] at hlk
     clear hv
     have HAA:=hid ha
     clear ha
     by_cases hxa : x.2 < a
     · go_wp2
       go_roundw
       case rel =>
        refine ⟨i + 1,by go_num,by omega,HB5.out,?_⟩
        rw [HET.out,HF.out]
        unfold fstep
        rw [HAA.out]
        simp only [hxa,if_true]
        rw [IF.kf_upd]
        exact HK5.out
       case measure =>
        simp [intOf]
        omega
     · go_wp2
       go_roundw
       case rel =>
        refine ⟨i + 1,by go_num,by omega,HB4.out,?_⟩
        rw [HET.out,HF.out]
        unfold fstep
        rw [HAA.out]
        simp only [hxa,if_false]
        exact HK4.out.mono (Nat.le_succ _)
       case measure =>
        simp [intOf]
        omega
  · have hlt : ¬ (i : Int) < (n : Int):=by omega
    obtain rfl : n = i:=by omega
    have et : l.take n = l:=by (rw [← HN.out];exact List.take_length)
    rw [et] at HKR
    clear et hkr hbr
    have hff : (l.foldl fstep fun _ => none) = firstF l:=rfl
    rw [hff] at HKR
    clear hff
    have HBA:=HBR
    have HKA:=HKR
    clear HBR HKR
    obtain ⟨w6,rfl⟩ : ∃ w,w = wr:=⟨_,rfl⟩
    go_upto_region 12 with (fail)
    go_loopw [46,10,11] (fun iv av bv wr => ∃ (i : Nat),iv = .int .i64 i ∧ i ≤ n ∧ Below w6.heap.size w6 wr ∧ av = .int .i64 ((l.take i).foldl (lstep (firstF l)) (0,false)).1 ∧ bv = .bool ((l.take i).foldl (lstep (firstF l)) (0,false)).2) (fun iv _ _ _ => n - (intOf iv).toNat)
    case atStart => exact ⟨0,rfl,Nat.zero_le _,Below.refl _ _,rfl,rfl⟩
    case round =>
     obtain ⟨i,rfl,hi,hbr,rfl,rfl⟩:=hrel
     by_cases hin : i < n
     · obtain ⟨x,hx⟩ : ∃ x,l[i]? = some x:=⟨_,List.getElem?_eq_getElem (by (have:=HN.out;omega))⟩
       have HO5 : Hid (w2.ownsRow W1.heap.size 134 2 (.slice zv n cv) n (l.flatMap nmCells)):=hid HO2.out
       obtain ⟨gx,cx,ez,hgx,_⟩:=row_some HO5.out (show 0 < n by omega)
       cases ez
       have hbq:=below_ch HBA.out hbr
       have hrw:=own_below HO5.out hbq
       have d0 : wr.cell? ⟨gx,i * 2,none⟩ = some (.string x.1):=plain_cell (K:=2) (f:=nmCells) (fun _ => rfl) hrw hx (j:=0) rfl
       have d1 : wr.cell? ⟨gx,i * 2 + 1,none⟩ = some (.int .i64 x.2):=plain_cell (K:=2) (f:=nmCells) (fun _ => rfl) hrw hx (j:=1) rfl
       have hgw : gx < wr.heap.size:=Nat.lt_of_lt_of_le hgx hbq.size
       have hlt : (i : Int) < (n : Int):=by omega
       have hi0 : (0 : Int) ≤ (i : Int):=Int.natCast_nonneg _
       have HXX:=hid hx
       have HBR:=hid hbr
       have hxs : x.1.size ≤ maxLen:=Nat.le_trans (HX.out x (List.mem_of_getElem? hx)) (by decide)
       have HET : Hid ((l.take (i + 1)).foldl (lstep (firstF l)) (0,false) = lstep (firstF l) ((l.take i).foldl (lstep (firstF l)) (0,false)) x):=hid (by rw [List.take_add_one,hx,List.foldl_append];rfl)
       obtain ⟨⟨least,isb⟩,hst⟩ : ∃ q,(l.take i).foldl (lstep (firstF l)) (0,false) = q:=⟨_,rfl⟩
       rw [hst]
       rw [hst] at HET
       clear hrw hx hbr hbq HO5 hst
       go_upto_region 14 with (fail)
       clear d0 d1
       refine name_world ?_
       intro W4 hW4
       have hP : W4.heap[wr.heap.size]? = some (.cells #[.string x.1,.int .i64 x.2] 134 (0,0)):=by (rw [hW4];exact heap_alloc_new _ _)
       have HA : Hid (Below wr.heap.size wr W4):=hid (by (rw [hW4];exact below_of_alloc _ _))
       have hpl : wr.heap.size < W4.heap.size:=(Array.getElem?_eq_some_iff.1 hP).1
       have p0 : W4.cell? ⟨wr.heap.size,0,none⟩ = some (.string x.1):=cell_of_row _ _ _ _ _ _ hP
       have p1 : W4.cell? ⟨wr.heap.size,1,none⟩ = some (.int .i64 x.2):=cell_of_row _ _ _ _ _ _ hP
       have HB4 : Hid (Below w6.heap.size w6 W4):=hid (below_ch HBR.out HA.out)
       have hlk:=(HKA.out.stay HB4.out).look_int hxs
       obtain ⟨fa,hfa⟩ : ∃ fa,(firstF l x.1.data.toList).getD 0 = fa:=⟨_,rfl⟩
       have hv : (IF.kf (firstF l) x.1.data.toList).getD (.int .i64 0) = .int .i64 fa:=by
        rw [← hfa]
        unfold IF.kf
        cases firstF l x.1.data.toList <;> rfl
       rw [hv] at hlk
       have HFA:=hid hfa
       clear hW4 hP hv hfa
       by_cases hc1 : fa < x.2
       · cases isb with
         | false =>
          go_wp2
          go_roundw
          case rel =>
           have e : lstep (firstF l) (least,false) x = (x.2,true):=by (unfold lstep;rw [HFA.out];simp [hc1])
           refine ⟨i + 1,by go_num,by omega,HB4.out,?_,?_⟩
           · rw [HET.out,e]
           · rw [HET.out,e]
          case measure =>
           simp [intOf]
           omega
         | true =>
          by_cases hc2 : x.2 < least
          · go_wp2
            go_roundw
            case rel =>
             have e : lstep (firstF l) (least,true) x = (x.2,true):=by (unfold lstep;rw [HFA.out];simp [hc1,hc2])
             refine ⟨i + 1,by go_num,by omega,HB4.out,?_,?_⟩
             · rw [HET.out,e]
             · rw [HET.out,e]
            case measure =>
             simp [intOf]
             omega
          · go_wp2
            go_roundw
            case rel =>
             have e : lstep (firstF l) (least,true) x = (least,true):=by (unfold lstep;rw [HFA.out];simp [hc2])
             refine ⟨i + 1,by go_num,by omega,HB4.out,?_,?_⟩
             · rw [HET.out,e]
             · rw [HET.out,e]
            case measure =>
             simp [intOf]
             omega
       · go_wp2
         go_roundw
         case rel =>
          have e : lstep (firstF l) (least,isb) x = (least,isb):=by (unfold lstep;rw [HFA.out];simp [hc1])
          refine ⟨i + 1,by go_num,by omega,HB4.out,?_,?_⟩
          · rw [HET.out,e]
          · rw [HET.out,e]
         case measure =>
          simp [intOf]
          omega
     · have hlt : ¬ (i : Int) < (n : Int):=by omega
       obtain rfl : n = i:=by omega
       have et : l.take n = l:=by (rw [← HN.out];exact List.take_length)
       rw [et]
       have hbw:=below_ch HB2.out (below_ch HBA.out hbr)
       have HBW:=hid hbw
       have hq : l.foldl (lstep (firstF l)) (0,false) = twiceF l:=rfl
       rw [hq]
       obtain ⟨⟨qa,qb⟩,hqq⟩ : ∃ q,twiceF l = q:=⟨_,rfl⟩
       rw [hqq]
       have HQQ:=hid hqq
       clear et hbw hbr hq hqq
       go_wp2
       go_ret2
       refine ⟨HBW.out,?_⟩
       rw [HQQ.out]
       rfl
end Go.Proofs.Ytbmmjomcjlpnlaa
namespace Go.Proofs.Ytbmmjomcjlpnlaa
open Go Go.RowKit
theorem below_tr {B : Nat} {W X Y : World} (h : Below B W X) (k : Below B X Y) : Below B W Y:=⟨k.os.trans h.os,k.tape.trans h.tape,k.output.trans h.output,Nat.le_trans h.size k.size,fun i hi => (k.block i hi).trans (h.block i hi)⟩
theorem neq_thing (x : Option Th) (W : World) : (binOp .neq 20 ((x.map Th.val).getD .nilIface) .nilIface).run Try.prog W = .ok (.bool x.isSome) W:=by
 cases x with
 | none =>
  have h:=run_eql_nil_nil (P:=Try.prog) W 20 (by kernel_rfl)
  simp only [binOp] at h ⊢
  simp [run_equal_nil_nil (P:=Try.prog) W 20 (by kernel_rfl)]
 | some x =>
  obtain ⟨T,v,e⟩ : ∃ T v,x.val = .iface T v:=by (cases x <;> exact ⟨_,_,rfl⟩)
  simp only [Option.map_some,Option.getD_some,e,binOp]
  simp [run_equal_held_nil (P:=Try.prog) W 20 T v (by kernel_rfl)]
theorem eqg_thing (op : BinOp) (x : Option Th) (a : Operand) (W : World) : (eqGuard op 20 a (.const .nilIface) ((x.map Th.val).getD .nilIface) .nilIface).run Try.prog W = .ok () W:=by
 cases x with
 | none => cases op <;> simp [eqGuard]
 | some x =>
  obtain ⟨T,v,e⟩ : ∃ T v,x.val = .iface T v:=by (cases x <;> exact ⟨_,_,rfl⟩)
  simp only [Option.map_some,Option.getD_some,e]
  cases op <;> simp [eqGuard]
section
variable {B : Nat} {W X : World} {s n : Nat} {F : TF} {L L' : List ByteArray} {bl bl' : List Nat} {m lv bv lv' bv' : Value}
theorem let_no0 (h : Hid (Scp B W s n F L [] m lv bv)) (t : ByteArray) (tr sc : Bool) :
 Calls Try.prog 13 #[.pointer (some ⟨s,0,none⟩),.string t,.agg #[.bool tr,.bool sc]] W fun e w' => e = .returned (.int .i64 12) ∧ Below W.heap.size W w':=by
 obtain ⟨mm,p,c,q,d,rfl,rfl,rfl⟩:=h.out.forms
 have HA:=hid (below_of_alloc W (.cells #[.bool tr,.bool sc] 42))
 obtain ⟨W1,hW1⟩ : ∃ X,W.alloc (.cells #[.bool tr,.bool sc] 42) = X:=⟨_,rfl⟩
 rw [hW1] at HA
 have heq:=eql_ptr_some ⟨s,0,none⟩ W1
 obtain ⟨sl,⟨c0,c1,c2⟩,f0,f1,f2⟩:=(h.out.stay HA.out).facts
 go_enter Try.func13,Try.ntmps13
 go_wp2
 go_ret
 exact ⟨rfl,HA.out⟩
theorem let_no1 (h : Hid (Scp B W s n F L bl m lv bv)) (hbl : bl ≠ []) (tr sc : Bool) :
 Calls Try.prog 13 #[.pointer (some ⟨s,0,none⟩),.string ⟨#[]⟩,.agg #[.bool tr,.bool sc]] W fun e w' => e = .returned (.int .i64 12) ∧ Below W.heap.size W w':=by
 obtain ⟨mm,p,c,q,d,rfl,rfl,rfl⟩:=h.out.forms
 have HA:=hid (below_of_alloc W (.cells #[.bool tr,.bool sc] 42))
 obtain ⟨W1,hW1⟩ : ∃ X,W.alloc (.cells #[.bool tr,.bool sc] 42) = X:=⟨_,rfl⟩
 rw [hW1] at HA
 have heq:=eql_ptr_some ⟨s,0,none⟩ W1
 obtain ⟨sl,⟨c0,c1,c2⟩,f0,f1,f2⟩:=(h.out.stay HA.out).facts
 obtain ⟨k,hk⟩ : ∃ k,bl.length = k:=⟨_,rfl⟩
 have hk0 : 0 < k:=by (rw [← hk];exact List.length_pos_iff.2 hbl)
 have hkn : ¬ (k : Int) = 0:=by omega
 rw [hk] at c2
 clear hk
 go_enter Try.func13,Try.ntmps13
 go_wp2
 all_goals go_ret
 all_goals exact ⟨rfl,HA.out⟩
theorem let_no2 (h : Hid (Scp B W s n F L bl m lv bv)) (hbl : bl ≠ []) (t : ByteArray) (ht : t.size ≤ 140737488355328) (ht0 : t.data.toList ≠ []) (tr sc : Bool) (hF : (F t.data.toList).isSome = true) :
 Calls Try.prog 13 #[.pointer (some ⟨s,0,none⟩),.string t,.agg #[.bool tr,.bool sc]] W fun e w' => e = .returned (.int .i64 12) ∧ Below W.heap.size W w':=by
 obtain ⟨x,hx⟩ : ∃ x,F t.data.toList = x:=⟨_,rfl⟩
 have HT:=thing_x h t ht hx
 rw [hx] at hF
 obtain ⟨mm,p,c,q,d,rfl,rfl,rfl⟩:=h.out.forms
 have HA:=hid (below_of_alloc W (.cells #[.bool tr,.bool sc] 42))
 obtain ⟨W1,hW1⟩ : ∃ X,W.alloc (.cells #[.bool tr,.bool sc] 42) = X:=⟨_,rfl⟩
 rw [hW1] at HA
 have heq:=eql_ptr_some ⟨s,0,none⟩ W1
 have hnq:=neq_thing x W1
 rw [hF] at hnq
 obtain ⟨u,hu⟩ : ∃ u,(x.map Th.val).getD .nilIface = u:=⟨_,rfl⟩
 have hqg:=fun a => eqg_thing .neq x a W1
 rw [hu] at HT hnq
 simp only [hu] at hqg
 have hte : t.toList.isEmpty = false:=by (rw [ByteArray.toList_eq];simpa using ht0)
 obtain ⟨sl,⟨c0,c1,c2⟩,f0,f1,f2⟩:=(h.out.stay HA.out).facts
 obtain ⟨k,hk⟩ : ∃ k,bl.length = k:=⟨_,rfl⟩
 have hk0 : 0 < k:=by (rw [← hk];exact List.length_pos_iff.2 hbl)
 have hkn : ¬ (k : Int) = 0:=by omega
 have hkb : ((k : Int) == 0) = false:=by simpa using hkn
 rw [hk] at c2
 clear hk hu hx hF
 go_enter Try.func13,Try.ntmps13
 go_wp2_with (go_at_call 32;refine (HT.out _ HA.out).mono ?_;rintro e1 w1 ⟨rfl,rfl⟩)
 go_ret
 exact ⟨rfl,HA.out⟩
theorem let_yes (h : Hid (Scp B W s n F L bl m lv bv)) (hbl : bl ≠ []) (t : ByteArray) (ht : t.size ≤ 140737488355328) (ht0 : t.data.toList ≠ []) (tr sc : Bool) (hF : F t.data.toList = none) (hn : n < 1000000) (hL : L.length ≤ 1000000) :
 Calls Try.prog 13 #[.pointer (some ⟨s,0,none⟩),.string t,.agg #[.bool tr,.bool sc]] W fun e w' => e = .returned (.int .i64 0) ∧ ∃ b' lv',Scp B w' s (n + 1) (F.upd t.data.toList (.lo tr sc)) (L ++ [t]) bl (.map (some b')) lv' bv ∧ Below B W w' ∧ Oth W w' ∧ Apx W w' s m lv bv (.map (some b')) lv' bv:=by
 have HT:=thing_x h t ht hF
 obtain ⟨i0,hinf,hzi0,hzi1,hzi2⟩:=info_parts infoS1
 have hsz : t.size ≤ 281474976710656:=by omega
 obtain ⟨mm,p,c,q,d,rfl,rfl,rfl⟩:=h.out.forms
 have hA:=below_of_alloc W (.cells #[.bool tr,.bool sc] 42)
 have hZ:=ZBlk.new (X:=W) (n:=W.heap.size) (tr:=tr) (sc:=sc) rfl
 obtain ⟨W1,hW1⟩ : ∃ X,W.alloc (.cells #[.bool tr,.bool sc] 42) = X:=⟨_,rfl⟩
 rw [hW1] at hA hZ
 have HA:=hid hA
 have heq:=eql_ptr_some ⟨s,0,none⟩ W1
 have hnq:=neq_thing none W1
 have hqg:=fun a => eqg_thing .neq none a W1
 simp only [Option.map_none,Option.getD_none,Option.isSome_none] at HT hnq hqg
 have hte : t.toList.isEmpty = false:=by (rw [ByteArray.toList_eq];simpa using ht0)
 have HS:=hid (h.out.stay hA)
 obtain ⟨sl,⟨c0,c1,c2⟩,f0,f1,f2⟩:=HS.out.facts
 obtain ⟨zl,⟨z0,z1⟩,_⟩:=hZ.facts
 have hBW : B ≤ W.heap.size:=Nat.le_of_lt (Nat.lt_of_le_of_lt h.out.hs h.out.facts.1)
 obtain ⟨k,hk⟩ : ∃ k,bl.length = k:=⟨_,rfl⟩
 obtain ⟨l,hl⟩ : ∃ l,L.length = l:=⟨_,rfl⟩
 have hk0 : 0 < k:=by (rw [← hk];exact List.length_pos_iff.2 hbl)
 have hkn : ¬ (k : Int) = 0:=by omega
 have hkb : ((k : Int) == 0) = false:=by simpa using hkn
 rw [hk] at c2
 rw [hl] at c1 hL
 have HK : Hid (L.length = l ∧ bl.length = k):=hid ⟨hl,hk⟩
 have HKN : Hid (∀ X,X = W1 → Calls Try.prog 27 #[.pointer (some ⟨s,0,none⟩),.string t,.iface 108 (.agg #[.bool tr,.bool sc])] X fun e w' => e = .returned (.tuple #[]) ∧ ∃ b,Scp B w' s (n + 1) (F.upd t.data.toList (.lo tr sc)) L bl (.map (some b)) (.slice p l c) (.slice q k d) ∧ Below B X w' ∧ B ≤ b ∧ Oth X w' ∧ Apx X w' s (.map mm) (.slice p l c) (.slice q k d) (.map (some b)) (.slice p l c) (.slice q k d)):=hid fun X hX => by
  have h1:=know_any HS hn t ht (.lo tr sc) trivial
  rw [hl,hk] at h1
  rw [hX]
  exact h1
 clear hk hl hF hA hZ
 go_enter Try.func13,Try.ntmps13
 go_upto_region 3 with (go_at_call 32;refine (HT.out _ HA.out).mono ?_;rintro e1 w1 ⟨rfl,rfl⟩)
 clear hW1
 go_upto_region 4 with (go_at_call 27;refine (HKN.out _ rfl).mono ?_;rintro e1 w2 ⟨rfl,b,hS2,hB2,hBb,hO2,hX2⟩;have HS2:=hid hS2;have HB2:=hid hB2;have HO2':=hid hO2;have HX2:=hid hX2;clear hS2 hB2 hO2 hX2)
 clear c0 c1 c2 f0 f1 f2 sl z0 z1 zl heq hnq hqg
 obtain ⟨sl,⟨c0,c1,c2⟩,f0,f1,f2⟩:=HS2.out.facts
 have HO : Hid (w2.ownsRow B 9 1 (.slice p l c) l (L.map Value.string)):=hid (by (have:=HS2.out.lo;rwa [HK.out.1] at this))
 have hBW2 : B ≤ w2.heap.size:=Nat.le_of_lt (Nat.lt_of_le_of_lt h.out.hs sl)
 have hne : (Value.slice p l c).ownBlock ≠ some s:=own_ne HO.out HS2.out.blk (by decide)
 have HNE:=hid hne
 clear hne
 go_region_law (first
  | (go_simp;go_at_call 33;(with_reducible refine (clone_any _ _ hsz).mono ?_);rintro e2 w3 ⟨rfl,hb3⟩;replace hb3:=below_ch ((Below.refl w2.heap.size w2).drew) hb3;have HB3:=hid hb3;have sl3:=Nat.lt_of_lt_of_le sl hb3.size;have c13:=(hb3.cell (p:=⟨s,1,none⟩) sl).trans c1)
  | (refine step_append_lies _ (by rfl) _ _ _ (by rfl) B 9 i0 _ 1 16 Try.underlying50 hinf hzi0 hzi1 hzi2 rfl (by decide) (.slice p l c) l (L.map Value.string) (by rfl) (own_below HO.out (HB3.out.alloc HB3.out.size _)) ⟨_,0,none⟩ 1 1 [.string t] (by rfl) (by rfl) (World.news_of_block (heap_alloc_new _ _)) str_one1 (by decide) (by unfold maxLen;omega) (by omega) (by (have:=HB3.out.size;simp;omega)) _ rfl ?_;intro gg cap6 w9 hown9 hgrow9 hor9 hlt9;have hs9 : w9.heap[s]? = some (.cells #[.map (some b),.slice p l c,.slice q k d] 89 (0,0)):=(hgrow9.block s (by simp;omega) (fun e => HNE.out e.symm)).trans ((Below.heap_alloc _ _ s sl3).trans ((HB3.out.block s sl).trans HS2.out.blk));have s92 : w9.cell? ⟨s,1,none⟩ = some (.slice p l c):=cell_of_row _ _ _ _ _ _ hs9;have sf9 : w9.frozen? ⟨s,1,none⟩ = false:=frozen_of_row _ _ _ _ _ hs9;have sl9 : s < w9.heap.size:=(Array.getElem?_eq_some_iff.1 hs9).1;have HS9:=hid hs9;have HGE : Hid ((Value.slice p l c).ownBlock = some gg ∨ w2.heap.size ≤ gg):=hid (hor9.imp id (fun e => by rw [e];have:=HB3.out.size;simp;omega));clear hor9;have HG9:=hid hgrow9;have HO9:=hid hown9;clear hs9 hgrow9 hown9))
 all_goals go_wp2
 all_goals go_ret
 all_goals
  have hfr : Fr2 s (rowB (.slice p l c) s) w2 (w9.setCell ⟨s,1,none⟩ (.slice (some ⟨gg,0,none⟩) (l + 1) cap6)):=(Fr2.growRow (((Fr2.refl _ _ w2).below HB3.out).alloc _) HG9.out).set (.inl rfl) _ _
  have hsX:=heap_setCell_same w9 s 1 _ _ (.slice (some ⟨gg,0,none⟩) (l + 1) cap6) HS9.out
  have hlo : (w9.setCell ⟨s,1,none⟩ (.slice (some ⟨gg,0,none⟩) (l + 1) cap6)).ownsRow B 9 1 (.slice (some ⟨gg,0,none⟩) (l + 1) cap6) (L ++ [t]).length ((L ++ [t]).map Value.string):=by
   rw [List.length_append,List.map_append,HK.out.1]
   exact own_setN HO9.out (own_ne HO9.out HS9.out (by decide)) _ _
  have hbk:=own_turn HS2.out HO.out HS2.out.bk (by decide) (by decide) hfr
  obtain ⟨h1,h2⟩:=HS2.out.turn HO.out (.inl rfl) hfr hsX hlo hbk
  exact ⟨rfl,_,_,(by rw [HK.out.2];exact h1),below_tr (below_tr (HA.out.mono hBW) HB2.out) h2,((Oth.of HA.out).trans HO2'.out).trans (Oth.turn HS2.out HO.out (.inl rfl) hfr),by (rw [HK.out.1,HK.out.2];exact ((Apx.of HA.out s _ _ _).trans HA.out.size HX2.out).trans (Nat.le_trans HA.out.size HB2.out.size) (apx_lv hfr HGE.out))⟩
end
end Go.Proofs.Ytbmmjomcjlpnlaa
namespace Go.Proofs.Ytbmmjomcjlpnlaa
open Go Go.RowKit
def Th.er : Th → Th
 | .fn y _ i => .fn y ⟨undef,undef,undef⟩ i
 | x => x
def TF.er (F : TF) : TF:=fun t => (F t).map Th.er
theorem TF.er_upd (F : TF) (s : List UInt8) (x : Th) : (F.upd s x).er = F.er.upd s x.er:=by
 funext t
 unfold TF.er TF.upd
 by_cases e : t = s <;> simp [e]
def tagG (l : List Gl) (F : TF) : TF:=l.zipIdx.foldl (fun G q => G.upd q.1.nm (.gl q.1 q.2)) F
def tagL (l : List Lk) (F : TF) : TF:=l.zipIdx.foldl (fun G q => G.upd q.1.nm (.lk q.2)) F
def tagN (l : List Fn) (F : TF) : TF:=l.zipIdx.foldl (fun G q => G.upd q.1.nm (.fn q.1 ⟨undef,undef,undef⟩ q.2)) F
def tagP (p : Pg) : TF:=tagN p.fs (tagL p.ls (tagG p.gs fun _ => none))
theorem tagG_snoc (l : List Gl) (x : Gl) (F : TF) : tagG (l ++ [x]) F = (tagG l F).upd x.nm (.gl x l.length):=by
 simp [tagG,List.zipIdx_append]
theorem tagL_snoc (l : List Lk) (x : Lk) (F : TF) : tagL (l ++ [x]) F = (tagL l F).upd x.nm (.lk l.length):=by
 simp [tagL,List.zipIdx_append]
theorem tagN_snoc (l : List Fn) (x : Fn) (F : TF) : tagN (l ++ [x]) F = (tagN l F).upd x.nm (.fn x ⟨undef,undef,undef⟩ l.length):=by
 simp [tagN,List.zipIdx_append]
theorem bstr_list (t : List UInt8) : (bstr t).data.toList = t:=by simp [bstr]
def NewOk (W w' : World) (p : Pg) (s : Nat) : Prop:=∃ F m n,n ≤ 3000 ∧ F.er = tagP p ∧ Scp W.heap.size w' s n F [] [] m (.slice none 0 0) (.slice none 0 0)
structure ShP (p : Pg) : Prop where
 gs : p.gs.length ≤ 1000 ∧ ∀ y ∈ p.gs,y.nm.length ≤ 100000 ∧ y.by_.length ≤ 100000
 ls : p.ls.length ≤ 1000 ∧ ∀ y ∈ p.ls,y.nm.length ≤ 100000
 fs : p.fs.length ≤ 1000 ∧ ∀ y ∈ p.fs,ShF y
theorem ShP.things {p : Pg} (h : ShP p) : ∀ x ∈ thingsL p,x.1.size ≤ 140737488355328:=by
 intro x hx
 unfold thingsL at hx
 rcases List.mem_append.1 hx with hx | hx
 · rcases List.mem_append.1 hx with hx | hx
   · obtain ⟨y,hy,rfl⟩:=List.mem_map.1 hx
     have:=(h.gs.2 y hy).1
     show y.nm.length ≤ _
     omega
   · obtain ⟨y,hy,rfl⟩:=List.mem_map.1 hx
     have:=h.ls.2 y hy
     show y.nm.length ≤ _
     omega
 · obtain ⟨y,hy,rfl⟩:=List.mem_map.1 hx
   have:=(h.fs.2 y hy).nm
   show y.nm.length ≤ _
   omega
theorem Scp.low {B B' : Nat} {W : World} {s n : Nat} {F : TF} {L : List ByteArray} {bl : List Nat} {m lv bv : Value} (h : Scp B W s n F L bl m lv bv) (hb : B' ≤ B) : Scp B' W s n F L bl m lv bv:=by
 obtain ⟨h1,h2,h3,h4,h5,h6⟩:=h
 refine ⟨h1,Nat.le_trans hb h2,?_,own_base h4 hb,own_base h5 hb,fun t x hx => ?_⟩
 · rcases h3 with h3 | ⟨b,e,hb',hk⟩
   · exact .inl h3
   · exact .inr ⟨b,e,Nat.le_trans hb hb',hk⟩
 · have:=h6 t x hx
   cases x with
   | fn y v i => exact ⟨this.1,this.2.low hb⟩
   | _ => exact this
theorem new_bad {B : Nat} {W : World} {p : Pg} {v0 v1 v2 v3 : Value} {rf : List (Fn × FV)} {rt : List (List Stm × Value)} (R : Hid (PRows B W p v0 v1 v2 v3 rf rt)) (hp : ShP p) (hb : (twiceF (thingsL p)).2 = true) :
 Calls Try.prog 8 #[.agg #[v0,v1,v2,v3]] W fun e w' => Below W.heap.size W w' ∧ e = .returned (.tuple #[.pointer none,.int .i64 12,.int .i64 (twiceF (thingsL p)).1]):=by
 obtain ⟨z0,k0,rfl⟩:=own_form R.out.g
 obtain ⟨z1,k1,rfl⟩:=own_form R.out.l
 obtain ⟨z2,k2,rfl⟩:=own_form R.out.f
 obtain ⟨z3,k3,rfl⟩:=own_form R.out.t
 have HT : Hid (∀ X,Below W.heap.size W X → Calls Try.prog 26 #[.agg #[.slice z0 p.gs.length k0,.slice z1 p.ls.length k1,.slice z2 p.fs.length k2,.slice z3 p.ths.length k3]] X fun e w' => Below X.heap.size X w' ∧ e = .returned (.tuple #[.int .i64 (twiceF (thingsL p)).1,.bool (twiceF (thingsL p)).2])):=hid fun X hX => twice_any (hid (R.out.stay hX)) hp.gs.1 hp.ls.1 hp.fs.1 hp.things
 obtain ⟨⟨qa,qb⟩,hq⟩ : ∃ q,twiceF (thingsL p) = q:=⟨_,rfl⟩
 rw [hq] at HT hb
 simp only at hb
 subst hb
 obtain ⟨n0,hn0⟩ : ∃ n,p.gs.length = n:=⟨_,rfl⟩
 obtain ⟨n1,hn1⟩ : ∃ n,p.ls.length = n:=⟨_,rfl⟩
 obtain ⟨n2,hn2⟩ : ∃ n,p.fs.length = n:=⟨_,rfl⟩
 obtain ⟨n3,hn3⟩ : ∃ n,p.ths.length = n:=⟨_,rfl⟩
 rw [hn0,hn1,hn2,hn3] at HT
 rw [hn0,hn1,hn2,hn3,hq]
 have HPS:=hid hp
 have HN : Hid (p.gs.length = n0 ∧ p.ls.length = n1 ∧ p.fs.length = n2 ∧ p.ths.length = n3):=hid ⟨hn0,hn1,hn2,hn3⟩
 have hb0 : n0 ≤ 1000:=by (rw [← hn0];exact hp.gs.1)
 have hb1 : n1 ≤ 1000:=by (rw [← hn1];exact hp.ls.1)
 have hb2 : n2 ≤ 1000:=by (rw [← hn2];exact hp.fs.1)
 have HR0 : Hid (W.ownsRow B 56 6 (.slice z0 n0 k0) n0 (p.gs.flatMap glCells)):=hid (by (have:=R.out.g;rwa [hn0] at this))
 have HR1 : Hid (W.ownsRow B 95 2 (.slice z1 n1 k1) n1 (p.ls.flatMap lkCells)):=hid (by (have:=R.out.l;rwa [hn1] at this))
 have HR2 : Hid (W.ownsRow B 65 12 (.slice z2 n2 k2) n2 (rf.flatMap fnF)):=hid (by (have:=R.out.f;rwa [hn2] at this))
 have HRL : Hid (rf.length = n2):=hid (by (have h:=congrArg List.length R.out.ef;rw [List.length_map] at h;exact h.trans hn2))
 clear hn0 hn1 hn2 hn3 hq hp
 go_enter Try.func8,Try.ntmps8
 go_upto_region 1 with (fail)
 refine name_world ?_
 intro W1 hW1
 have HB1 : Hid (Below W.heap.size W W1):=hid (by (rw [hW1];exact below_of_alloc _ _))
 have hm1 : W1.heap[W.heap.size]? = some (.cells #[.slice z0 n0 k0,.slice z1 n1 k1,.slice z2 n2 k2,.slice z3 n3 k3] 29 (0,0)):=by (rw [hW1];exact heap_alloc_new _ _)
 have hml : W.heap.size < W1.heap.size:=(Array.getElem?_eq_some_iff.1 hm1).1
 have m0 : W1.cell? ⟨W.heap.size,0,none⟩ = some (.slice z0 n0 k0):=cell_of_row _ _ _ _ _ _ hm1
 have m1 : W1.cell? ⟨W.heap.size,1,none⟩ = some (.slice z1 n1 k1):=cell_of_row _ _ _ _ _ _ hm1
 have m2 : W1.cell? ⟨W.heap.size,2,none⟩ = some (.slice z2 n2 k2):=cell_of_row _ _ _ _ _ _ hm1
 have m3 : W1.cell? ⟨W.heap.size,3,none⟩ = some (.slice z3 n3 k3):=cell_of_row _ _ _ _ _ _ hm1
 have HM1:=hid hm1
 clear hW1 hm1
 go_upto_region 2 with (go_at_call 26;(with_reducible refine (HT.out _ HB1.out).mono ?_);rintro e1 w2 ⟨hb2,rfl⟩;have HB2:=hid (below_ch HB1.out hb2);clear hb2)
 go_wp2
 go_ret3
 exact ⟨HB2.out,rfl⟩
theorem new_good {B : Nat} {W : World} {p : Pg} {v0 v1 v2 v3 : Value} {rf : List (Fn × FV)} {rt : List (List Stm × Value)} (R : Hid (PRows B W p v0 v1 v2 v3 rf rt)) (hp : ShP p) (hb : (twiceF (thingsL p)).2 = false) :
 Calls Try.prog 8 #[.agg #[v0,v1,v2,v3]] W fun e w' => Below W.heap.size W w' ∧ ∃ s,e = .returned (.tuple #[.pointer (some ⟨s,0,none⟩),.int .i64 0,.int .i64 0]) ∧ W.heap.size ≤ s ∧ NewOk W w' p s:=by
 obtain ⟨z0,k0,rfl⟩:=own_form R.out.g
 obtain ⟨z1,k1,rfl⟩:=own_form R.out.l
 obtain ⟨z2,k2,rfl⟩:=own_form R.out.f
 obtain ⟨z3,k3,rfl⟩:=own_form R.out.t
 have HT : Hid (∀ X,Below W.heap.size W X → Calls Try.prog 26 #[.agg #[.slice z0 p.gs.length k0,.slice z1 p.ls.length k1,.slice z2 p.fs.length k2,.slice z3 p.ths.length k3]] X fun e w' => Below X.heap.size X w' ∧ e = .returned (.tuple #[.int .i64 (twiceF (thingsL p)).1,.bool (twiceF (thingsL p)).2])):=hid fun X hX => twice_any (hid (R.out.stay hX)) hp.gs.1 hp.ls.1 hp.fs.1 hp.things
 obtain ⟨⟨qa,qb⟩,hq⟩ : ∃ q,twiceF (thingsL p) = q:=⟨_,rfl⟩
 rw [hq] at HT hb
 simp only at hb
 subst hb
 obtain ⟨n0,hn0⟩ : ∃ n,p.gs.length = n:=⟨_,rfl⟩
 obtain ⟨n1,hn1⟩ : ∃ n,p.ls.length = n:=⟨_,rfl⟩
 obtain ⟨n2,hn2⟩ : ∃ n,p.fs.length = n:=⟨_,rfl⟩
 obtain ⟨n3,hn3⟩ : ∃ n,p.ths.length = n:=⟨_,rfl⟩
 rw [hn0,hn1,hn2,hn3] at HT
 rw [hn0,hn1,hn2,hn3]
 have HPS:=hid hp
 have HN : Hid (p.gs.length = n0 ∧ p.ls.length = n1 ∧ p.fs.length = n2 ∧ p.ths.length = n3):=hid ⟨hn0,hn1,hn2,hn3⟩
 have hb0 : n0 ≤ 1000:=by (rw [← hn0];exact hp.gs.1)
 have hb1 : n1 ≤ 1000:=by (rw [← hn1];exact hp.ls.1)
 have hb2 : n2 ≤ 1000:=by (rw [← hn2];exact hp.fs.1)
 have HR0 : Hid (W.ownsRow B 56 6 (.slice z0 n0 k0) n0 (p.gs.flatMap glCells)):=hid (by (have:=R.out.g;rwa [hn0] at this))
 have HR1 : Hid (W.ownsRow B 95 2 (.slice z1 n1 k1) n1 (p.ls.flatMap lkCells)):=hid (by (have:=R.out.l;rwa [hn1] at this))
 have HR2 : Hid (W.ownsRow B 65 12 (.slice z2 n2 k2) n2 (rf.flatMap fnF)):=hid (by (have:=R.out.f;rwa [hn2] at this))
 have HRL : Hid (rf.length = n2):=hid (by (have h:=congrArg List.length R.out.ef;rw [List.length_map] at h;exact h.trans hn2))
 clear hn0 hn1 hn2 hn3 hq hp
 go_enter Try.func8,Try.ntmps8
 go_upto_region 1 with (fail)
 refine name_world ?_
 intro W1 hW1
 have HB1 : Hid (Below W.heap.size W W1):=hid (by (rw [hW1];exact below_of_alloc _ _))
 have hm1 : W1.heap[W.heap.size]? = some (.cells #[.slice z0 n0 k0,.slice z1 n1 k1,.slice z2 n2 k2,.slice z3 n3 k3] 29 (0,0)):=by (rw [hW1];exact heap_alloc_new _ _)
 have hml : W.heap.size < W1.heap.size:=(Array.getElem?_eq_some_iff.1 hm1).1
 have m0 : W1.cell? ⟨W.heap.size,0,none⟩ = some (.slice z0 n0 k0):=cell_of_row _ _ _ _ _ _ hm1
 have m1 : W1.cell? ⟨W.heap.size,1,none⟩ = some (.slice z1 n1 k1):=cell_of_row _ _ _ _ _ _ hm1
 have m2 : W1.cell? ⟨W.heap.size,2,none⟩ = some (.slice z2 n2 k2):=cell_of_row _ _ _ _ _ _ hm1
 have m3 : W1.cell? ⟨W.heap.size,3,none⟩ = some (.slice z3 n3 k3):=cell_of_row _ _ _ _ _ _ hm1
 have HM1:=hid hm1
 clear hW1 hm1
 go_upto_region 2 with (go_at_call 26;(with_reducible refine (HT.out _ HB1.out).mono ?_);rintro e1 w2 ⟨hb2,rfl⟩;have HB2:=hid hb2;clear hb2)
 have hm2 : w2.heap[W.heap.size]? = some (.cells #[.slice z0 n0 k0,.slice z1 n1 k1,.slice z2 n2 k2,.slice z3 n3 k3] 29 (0,0)):=(HB2.out.block _ hml).trans HM1.out
 clear m0 m1 m2 m3 hml
 have HM2:=hid hm2
 have hml : W.heap.size < w2.heap.size:=(Array.getElem?_eq_some_iff.1 hm2).1
 have m0 : w2.cell? ⟨W.heap.size,0,none⟩ = some (.slice z0 n0 k0):=cell_of_row _ _ _ _ _ _ hm2
 have HBW:=hid (below_ch HB1.out HB2.out)
 have HS0 : Hid (w2.ownsRow B 56 6 (.slice z0 n0 k0) n0 (p.gs.flatMap glCells)):=hid (own_below HR0.out HBW.out)
 have HS1 : Hid (w2.ownsRow B 95 2 (.slice z1 n1 k1) n1 (p.ls.flatMap lkCells)):=hid (own_below HR1.out HBW.out)
 have HS2 : Hid (w2.ownsRow B 65 12 (.slice z2 n2 k2) n2 (rf.flatMap fnF)):=hid (own_below HR2.out HBW.out)
 clear hm2
 go_upto_region 6 with (fail)
 clear m0
 refine name_world ?_
 intro W3 hW3
 have HA3 : Hid (Below w2.heap.size w2 W3):=hid (by (rw [hW3];exact below_of_alloc _ _))
 have HC3 : Hid (Scp w2.heap.size W3 w2.heap.size 0 (fun _ => none) [] [] (.map none) (.slice none 0 0) (.slice none 0 0)):=hid (by (rw [hW3];exact ⟨heap_alloc_new _ _,Nat.le_refl _,.inl ⟨rfl,fun _ => rfl⟩,World.ownsRow_nil _ _ _ _,World.ownsRow_nil _ _ _ _,fun t x h => by cases h⟩))
 clear hW3
 go_loopw [26] (fun iv wr => ∃ (i : Nat) (m : Value) (F : TF),iv = .int .i64 i ∧ i ≤ n0 ∧ Below w2.heap.size w2 wr ∧ F.er = tagG (p.gs.take i) (fun _ => none) ∧ Scp w2.heap.size wr w2.heap.size i F [] [] m (.slice none 0 0) (.slice none 0 0)) (fun iv _ => n0 - (intOf iv).toNat)
 case atStart => exact ⟨0,_,_,rfl,Nat.zero_le _,HA3.out,rfl,HC3.out⟩
 case round =>
  obtain ⟨i,m,F,rfl,hi,hbr,hFe,hsc⟩:=hrel
  have HBR:=hid hbr
  have HFE:=hid hFe
  have HSC:=hid hsc
  by_cases hin : i < n0
  · obtain ⟨x,hx⟩ : ∃ x,p.gs[i]? = some x:=⟨_,List.getElem?_eq_getElem (by (have:=HN.out.1;omega))⟩
    obtain ⟨gx,cx,ez,hgx,_⟩:=row_some HS0.out (show 0 < n0 by omega)
    cases ez
    have hrw:=own_below HS0.out hbr
    have d0 : wr.cell? ⟨gx,i * 6,none⟩ = some (.int .i64 x.a):=plain_cell (K:=6) (f:=glCells) (fun _ => rfl) hrw hx (j:=0) rfl
    have d1 : wr.cell? ⟨gx,i * 6 + 1,none⟩ = some (.string (bstr x.nm)):=plain_cell (K:=6) (f:=glCells) (fun _ => rfl) hrw hx (j:=1) rfl
    have d2 : wr.cell? ⟨gx,i * 6 + 2,none⟩ = some (.bool x.tr):=plain_cell (K:=6) (f:=glCells) (fun _ => rfl) hrw hx (j:=2) rfl
    have d3 : wr.cell? ⟨gx,i * 6 + 3,none⟩ = some (.bool x.sc):=plain_cell (K:=6) (f:=glCells) (fun _ => rfl) hrw hx (j:=3) rfl
    have d4 : wr.cell? ⟨gx,i * 6 + 4,none⟩ = some (.int .i64 x.len):=plain_cell (K:=6) (f:=glCells) (fun _ => rfl) hrw hx (j:=4) rfl
    have d5 : wr.cell? ⟨gx,i * 6 + 5,none⟩ = some (.string (bstr x.by_)):=plain_cell (K:=6) (f:=glCells) (fun _ => rfl) hrw hx (j:=5) rfl
    have hgw : gx < wr.heap.size:=Nat.lt_of_lt_of_le hgx hbr.size
    have hlt : (i : Int) < (n0 : Int):=by omega
    have hi0 : (0 : Int) ≤ (i : Int):=Int.natCast_nonneg _
    have HXX:=hid hx
    obtain ⟨hnm,hby⟩:=HPS.out.gs.2 x (List.mem_of_getElem? hx)
    have hsz : (bstr x.nm).size ≤ 140737488355328:=by (show x.nm.length ≤ _;omega)
    clear hrw hx hbr hFe hsc
    go_upto_region 8 with (fail)
    clear d0 d1 d2 d3 d4 d5
    refine name_world ?_
    intro W4 hW4
    have hP : W4.heap[wr.heap.size]? = some (.cells #[.int .i64 x.a,.string (bstr x.nm),.bool x.tr,.bool x.sc,.int .i64 x.len,.string (bstr x.by_)] 56 (0,0)):=by (rw [hW4];exact heap_alloc_new _ _)
    have HA : Hid (Below wr.heap.size wr W4):=hid (by (rw [hW4];exact below_of_alloc _ _))
    have hpl : wr.heap.size < W4.heap.size:=(Array.getElem?_eq_some_iff.1 hP).1
    have p0 : W4.cell? ⟨wr.heap.size,0,none⟩ = some (.int .i64 x.a):=cell_of_row _ _ _ _ _ _ hP
    have p1 : W4.cell? ⟨wr.heap.size,1,none⟩ = some (.string (bstr x.nm)):=cell_of_row _ _ _ _ _ _ hP
    have p2 : W4.cell? ⟨wr.heap.size,2,none⟩ = some (.bool x.tr):=cell_of_row _ _ _ _ _ _ hP
    have p3 : W4.cell? ⟨wr.heap.size,3,none⟩ = some (.bool x.sc):=cell_of_row _ _ _ _ _ _ hP
    have p4 : W4.cell? ⟨wr.heap.size,4,none⟩ = some (.int .i64 x.len):=cell_of_row _ _ _ _ _ _ hP
    have p5 : W4.cell? ⟨wr.heap.size,5,none⟩ = some (.string (bstr x.by_)):=cell_of_row _ _ _ _ _ _ hP
    have HP:=hid hP
    have HSC4:=hid (HSC.out.stay HA.out)
    have HKN : Hid (∀ X,Below W4.heap.size W4 X → Calls Try.prog 27 #[.pointer (some ⟨w2.heap.size,0,none⟩),.string (bstr x.nm),.iface 93 (.agg #[.int .i64 x.a,.string (bstr x.nm),.bool x.tr,.bool x.sc,.int .i64 x.len,.string (bstr x.by_),.int .i64 i])] X fun e w' => e = .returned (.tuple #[]) ∧ ∃ b,Scp w2.heap.size w' w2.heap.size (i + 1) (F.upd x.nm (.gl x i)) [] [] (.map (some b)) (.slice none 0 0) (.slice none 0 0) ∧ Below w2.heap.size X w'):=hid fun X hX => by
     have h:=know_any (hid (HSC4.out.stay hX)) (by omega) (bstr x.nm) hsz (.gl x i) ⟨hnm,hby⟩
     rw [bstr_list] at h
     exact h.mono fun e w' ⟨h1,b,h2,h3,_⟩ => ⟨h1,b,h2,h3⟩
    clear hW4 hP
    go_region_law (first
     | (go_simp;go_at_call 28;(with_reducible refine (cglobal_any x _ hnm hby).mono ?_);rintro e2 w5 ⟨rfl,hb5⟩;replace hb5:=below_ch ((Below.refl W4.heap.size W4).drew) hb5;have HB5:=hid hb5;have p15 : w5.cell? ⟨wr.heap.size,1,none⟩ = some (.string (bstr x.nm)):=(hb5.cell (p:=⟨wr.heap.size,1,none⟩) hpl).trans (cell_of_row _ _ _ _ _ _ HP.out);have hpl5:=Nat.lt_of_lt_of_le hpl hb5.size)
     | (go_simp;go_at_call 27;(with_reducible refine (HKN.out _ HB5.out).mono ?_);rintro e3 w6 ⟨rfl,b6,hs6,hb6⟩;have HS6:=hid hs6;have HB6:=hid hb6;clear hs6 hb6))
    all_goals go_wp2
    all_goals
     refine ⟨⟨i + 1,_,F.upd x.nm (.gl x i),by go_num,by omega,below_tr (below_ch HBR.out (below_ch HA.out HB5.out)) HB6.out,?_,HS6.out⟩,?_⟩
     · rw [TF.er_upd,HFE.out,List.take_add_one,HXX.out]
       show _ = tagG (p.gs.take i ++ [x]) _
       rw [tagG_snoc,List.length_take,Nat.min_eq_left (by have:=HN.out.1;omega)]
       rfl
     · simp [intOf]
       omega
  · have hlt : ¬ (i : Int) < (n0 : Int):=by omega
    obtain rfl : n0 = i:=by omega
    have et : p.gs.take n0 = p.gs:=by (rw [← HN.out.1];exact List.take_length)
    have HFA : Hid (F.er = tagG p.gs fun _ => none):=hid (by rw [hFe,et])
    have HSA:=HSC
    have HBA:=HBR
    clear et HFE HSC HBR hFe hsc hbr
    have hmx : wr.heap[W.heap.size]? = some (.cells #[.slice z0 n0 k0,.slice z1 n1 k1,.slice z2 n2 k2,.slice z3 n3 k3] 29 (0,0)):=(HBA.out.block _ hml).trans HM2.out
    have hmlx : W.heap.size < wr.heap.size:=(Array.getElem?_eq_some_iff.1 hmx).1
    have m1 : wr.cell? ⟨W.heap.size,1,none⟩ = some (.slice z1 n1 k1):=cell_of_row _ _ _ _ _ _ hmx
    have m2 : wr.cell? ⟨W.heap.size,2,none⟩ = some (.slice z2 n2 k2):=cell_of_row _ _ _ _ _ _ hmx
    clear hmx
    go_upto_region 11 with (fail)
    clear m1 m2 hmlx
    go_loopw [44] (fun iv wr => ∃ (i : Nat) (m : Value) (F : TF),iv = .int .i64 i ∧ i ≤ n1 ∧ Below w2.heap.size w2 wr ∧ F.er = tagL (p.ls.take i) (tagG p.gs fun _ => none) ∧ Scp w2.heap.size wr w2.heap.size (n0 + i) F [] [] m (.slice none 0 0) (.slice none 0 0)) (fun iv _ => n1 - (intOf iv).toNat)
    case atStart => exact ⟨0,_,_,rfl,Nat.zero_le _,HBA.out,HFA.out,HSA.out⟩
    case round =>
     obtain ⟨i,m,F,rfl,hi,hbr,hFe,hsc⟩:=hrel
     have HBR:=hid hbr
     have HFE:=hid hFe
     have HSC:=hid hsc
     by_cases hin : i < n1
     · obtain ⟨x,hx⟩ : ∃ x,p.ls[i]? = some x:=⟨_,List.getElem?_eq_getElem (by (have:=HN.out.2.1;omega))⟩
       obtain ⟨gx,cx,ez,hgx,_⟩:=row_some HS1.out (show 0 < n1 by omega)
       cases ez
       have hrw:=own_below HS1.out hbr
       have d0 : wr.cell? ⟨gx,i * 2,none⟩ = some (.int .i64 x.a):=plain_cell (K:=2) (f:=lkCells) (fun _ => rfl) hrw hx (j:=0) rfl
       have d1 : wr.cell? ⟨gx,i * 2 + 1,none⟩ = some (.string (bstr x.nm)):=plain_cell (K:=2) (f:=lkCells) (fun _ => rfl) hrw hx (j:=1) rfl
       have hgw : gx < wr.heap.size:=Nat.lt_of_lt_of_le hgx hbr.size
       have hlt : (i : Int) < (n1 : Int):=by omega
       have hi0 : (0 : Int) ≤ (i : Int):=Int.natCast_nonneg _
       have HXX:=hid hx
       have hnm:=HPS.out.ls.2 x (List.mem_of_getElem? hx)
       have hsz : (bstr x.nm).size ≤ 140737488355328:=by (show x.nm.length ≤ _;omega)
       clear hrw hx hbr hFe hsc
       go_upto_region 13 with (fail)
       clear d0 d1
       refine name_world ?_
       intro W4 hW4
       have hP : W4.heap[wr.heap.size]? = some (.cells #[.int .i64 x.a,.string (bstr x.nm)] 95 (0,0)):=by (rw [hW4];exact heap_alloc_new _ _)
       have HA : Hid (Below wr.heap.size wr W4):=hid (by (rw [hW4];exact below_of_alloc _ _))
       have hpl : wr.heap.size < W4.heap.size:=(Array.getElem?_eq_some_iff.1 hP).1
       have p0 : W4.cell? ⟨wr.heap.size,0,none⟩ = some (.int .i64 x.a):=cell_of_row _ _ _ _ _ _ hP
       have p1 : W4.cell? ⟨wr.heap.size,1,none⟩ = some (.string (bstr x.nm)):=cell_of_row _ _ _ _ _ _ hP
       have HSC4:=hid (HSC.out.stay HA.out)
       have HKN : Hid (∀ X,Below W4.heap.size W4 X → Calls Try.prog 27 #[.pointer (some ⟨w2.heap.size,0,none⟩),.string (bstr x.nm),.iface 97 (.agg #[.int .i64 i])] X fun e w' => e = .returned (.tuple #[]) ∧ ∃ b,Scp w2.heap.size w' w2.heap.size (n0 + (i + 1)) (F.upd x.nm (.lk i)) [] [] (.map (some b)) (.slice none 0 0) (.slice none 0 0) ∧ Below w2.heap.size X w'):=hid fun X hX => by
        have h:=know_any (hid (HSC4.out.stay hX)) (by omega) (bstr x.nm) hsz (.lk i) trivial
        rw [bstr_list] at h
        exact h.mono fun e w' ⟨h1,b,h2,h3,_⟩ => ⟨h1,b,h2,h3⟩
       have H44:=hid (Below.refl W4.heap.size W4)
       clear hW4 hP
       go_wp2_with (go_at_call 27;(with_reducible refine (HKN.out _ H44.out).mono ?_);rintro e3 w6 ⟨rfl,b6,hs6,hb6⟩;have HS6:=hid hs6;have HB6:=hid hb6;clear hs6 hb6)
       all_goals
        refine ⟨⟨i + 1,_,F.upd x.nm (.lk i),by go_num,by omega,below_tr (below_ch HBR.out HA.out) HB6.out,?_,HS6.out⟩,?_⟩
        · rw [TF.er_upd,HFE.out,List.take_add_one,HXX.out]
          show _ = tagL (p.ls.take i ++ [x]) _
          rw [tagL_snoc,List.length_take,Nat.min_eq_left (by have:=HN.out.2.1;omega)]
          rfl
        · simp [intOf]
          omega
     · have hlt : ¬ (i : Int) < (n1 : Int):=by omega
       obtain rfl : n1 = i:=by omega
       have et : p.ls.take n1 = p.ls:=by (rw [← HN.out.2.1];exact List.take_length)
       clear HFA HSA HBA
       have HFA : Hid (F.er = tagL p.ls (tagG p.gs fun _ => none)):=hid (by rw [hFe,et])
       have HSA:=HSC
       have HBA:=HBR
       clear et HFE HSC HBR hFe hsc hbr
       have hmx : wr.heap[W.heap.size]? = some (.cells #[.slice z0 n0 k0,.slice z1 n1 k1,.slice z2 n2 k2,.slice z3 n3 k3] 29 (0,0)):=(HBA.out.block _ hml).trans HM2.out
       have hmlx : W.heap.size < wr.heap.size:=(Array.getElem?_eq_some_iff.1 hmx).1
       have m1 : wr.cell? ⟨W.heap.size,1,none⟩ = some (.slice z1 n1 k1):=cell_of_row _ _ _ _ _ _ hmx
       have m2 : wr.cell? ⟨W.heap.size,2,none⟩ = some (.slice z2 n2 k2):=cell_of_row _ _ _ _ _ _ hmx
       clear hmx
       go_upto_region 16 with (fail)
       clear m1 m2 hmlx
       go_loopw [60] (fun iv wr => ∃ (i : Nat) (m : Value) (F : TF),iv = .int .i64 i ∧ i ≤ n2 ∧ Below w2.heap.size w2 wr ∧ F.er = tagN (p.fs.take i) (tagL p.ls (tagG p.gs fun _ => none)) ∧ Scp w2.heap.size wr w2.heap.size (n0 + n1 + i) F [] [] m (.slice none 0 0) (.slice none 0 0)) (fun iv _ => n2 - (intOf iv).toNat)
       case atStart => exact ⟨0,_,_,rfl,Nat.zero_le _,HBA.out,HFA.out,HSA.out⟩
       case round =>
        obtain ⟨i,m,F,rfl,hi,hbr,hFe,hsc⟩:=hrel
        have HBR:=hid hbr
        have HFE:=hid hFe
        have HSC:=hid hsc
        by_cases hin : i < n2
        · obtain ⟨⟨y,fv⟩,hx⟩ : ∃ x,rf[i]? = some x:=⟨_,List.getElem?_eq_getElem (by (have:=HRL.out;omega))⟩
          have hmem:=List.mem_of_getElem? hx
          have hfn:=R.out.xf _ hmem
          have hyf : p.fs[i]? = some y:=by (rw [← R.out.ef,List.getElem?_map,hx];rfl)
          have hsh:=HPS.out.fs.2 y (List.mem_of_getElem? hyf)
          obtain ⟨⟨p0,c0,ef0⟩,_⟩:=hfn.1
          obtain ⟨p1,c1,ef1⟩:=hfn.2.1.form
          obtain ⟨p2,c2,ef2⟩:=hfn.2.2.form
          obtain ⟨vp,vb,vk⟩:=fv
          simp only at ef0 ef1 ef2
          subst ef0 ef1 ef2
          obtain ⟨y0,hy0⟩ : ∃ q,y.ps.length = q:=⟨_,rfl⟩
          obtain ⟨y1,hy1⟩ : ∃ q,y.bd.length = q:=⟨_,rfl⟩
          obtain ⟨y2,hy2⟩ : ∃ q,y.ret.ks.length = q:=⟨_,rfl⟩
          have HFN : Hid (IsFn1 (fun g => 0 ≤ g) wr y ⟨.slice p0 y0 c0,.slice p1 y1 c1,.slice p2 y2 c2⟩):=hid (by
           rw [← hy0,← hy1,← hy2]
           have h:=(hfn.stay HBW.out).stay hbr
           exact ⟨h.1.kept fun g _ _ => ⟨rfl,Nat.zero_le g⟩,h.2.1.kept fun g _ _ => ⟨rfl,Nat.zero_le g⟩,h.2.2.kept fun g _ _ => ⟨rfl,Nat.zero_le g⟩⟩)
          simp only [hy0,hy1,hy2] at hx
          obtain ⟨gx,cx,ez,hgx,_⟩:=row_some HS2.out (show 0 < n2 by omega)
          cases ez
          have hrw:=own_below HS2.out hbr
          have d0 : wr.cell? ⟨gx,i * 12,none⟩ = some (.int .i64 y.a):=plain_cell (K:=12) (f:=fnF) (fun _ => rfl) hrw hx (j:=0) rfl
          have d1 : wr.cell? ⟨gx,i * 12 + 1,none⟩ = some (.string (bstr y.nm)):=plain_cell (K:=12) (f:=fnF) (fun _ => rfl) hrw hx (j:=1) rfl
          have d2 : wr.cell? ⟨gx,i * 12 + 2,none⟩ = some (.slice p0 y0 c0):=plain_cell (K:=12) (f:=fnF) (fun _ => rfl) hrw hx (j:=2) rfl
          have d3 : wr.cell? ⟨gx,i * 12 + 3,none⟩ = some (.bool y.tr):=plain_cell (K:=12) (f:=fnF) (fun _ => rfl) hrw hx (j:=3) rfl
          have d4 : wr.cell? ⟨gx,i * 12 + 4,none⟩ = some (.bool y.sc):=plain_cell (K:=12) (f:=fnF) (fun _ => rfl) hrw hx (j:=4) rfl
          have d5 : wr.cell? ⟨gx,i * 12 + 5,none⟩ = some (.slice p1 y1 c1):=plain_cell (K:=12) (f:=fnF) (fun _ => rfl) hrw hx (j:=5) rfl
          have d6 : wr.cell? ⟨gx,i * 12 + 6,none⟩ = some (.int .i64 y.ret.k):=plain_cell (K:=12) (f:=fnF) (fun _ => rfl) hrw hx (j:=6) rfl
          have d7 : wr.cell? ⟨gx,i * 12 + 7,none⟩ = some (.int .i64 y.ret.op):=plain_cell (K:=12) (f:=fnF) (fun _ => rfl) hrw hx (j:=7) rfl
          have d8 : wr.cell? ⟨gx,i * 12 + 8,none⟩ = some (.int .i64 y.ret.n):=plain_cell (K:=12) (f:=fnF) (fun _ => rfl) hrw hx (j:=8) rfl
          have d9 : wr.cell? ⟨gx,i * 12 + 9,none⟩ = some (.string (bstr y.ret.nm)):=plain_cell (K:=12) (f:=fnF) (fun _ => rfl) hrw hx (j:=9) rfl
          have d10 : wr.cell? ⟨gx,i * 12 + 10,none⟩ = some (.slice p2 y2 c2):=plain_cell (K:=12) (f:=fnF) (fun _ => rfl) hrw hx (j:=10) rfl
          have d11 : wr.cell? ⟨gx,i * 12 + 11,none⟩ = some (.int .i64 y.ret.a):=plain_cell (K:=12) (f:=fnF) (fun _ => rfl) hrw hx (j:=11) rfl
          have hgw : gx < wr.heap.size:=Nat.lt_of_lt_of_le hgx hbr.size
          have hlt : (i : Int) < (n2 : Int):=by omega
          have hi0 : (0 : Int) ≤ (i : Int):=Int.natCast_nonneg _
          have HXX:=hid hyf
          have hsz : (bstr y.nm).size ≤ 140737488355328:=by (have:=hsh.nm;show y.nm.length ≤ _;omega)
          have HSH:=hid hsh
          have HYN : Hid (y.ps.length = y0 ∧ y.bd.length = y1 ∧ y.ret.ks.length = y2):=hid ⟨hy0,hy1,hy2⟩
          clear hrw hx hbr hFe hsc hfn hmem hyf hsh hy0 hy1 hy2
          go_upto_region 18 with (fail)
          clear d0 d1 d2 d3 d4 d5 d6 d7 d8 d9 d10 d11
          refine name_world ?_
          intro W4 hW4
          have hP : W4.heap[wr.heap.size]? = some (.cells #[.int .i64 y.a,.string (bstr y.nm),.slice p0 y0 c0,.bool y.tr,.bool y.sc,.slice p1 y1 c1,.int .i64 y.ret.k,.int .i64 y.ret.op,.int .i64 y.ret.n,.string (bstr y.ret.nm),.slice p2 y2 c2,.int .i64 y.ret.a] 65 (0,0)):=by (rw [hW4];exact heap_alloc_new _ _)
          have HA : Hid (Below wr.heap.size wr W4):=hid (by (rw [hW4];exact below_of_alloc _ _))
          have hpl : wr.heap.size < W4.heap.size:=(Array.getElem?_eq_some_iff.1 hP).1
          have pp0 : W4.cell? ⟨wr.heap.size,0,none⟩ = some (.int .i64 y.a):=cell_of_row _ _ _ _ _ _ hP
          have pp1 : W4.cell? ⟨wr.heap.size,1,none⟩ = some (.string (bstr y.nm)):=cell_of_row _ _ _ _ _ _ hP
          have pp2 : W4.cell? ⟨wr.heap.size,2,none⟩ = some (.slice p0 y0 c0):=cell_of_row _ _ _ _ _ _ hP
          have pp3 : W4.cell? ⟨wr.heap.size,3,none⟩ = some (.bool y.tr):=cell_of_row _ _ _ _ _ _ hP
          have pp4 : W4.cell? ⟨wr.heap.size,4,none⟩ = some (.bool y.sc):=cell_of_row _ _ _ _ _ _ hP
          have pp5 : W4.cell? ⟨wr.heap.size,5,none⟩ = some (.slice p1 y1 c1):=cell_of_row _ _ _ _ _ _ hP
          have pp6 : W4.cell? ⟨wr.heap.size,6,none⟩ = some (.int .i64 y.ret.k):=cell_of_row _ _ _ _ _ _ hP
          have pp7 : W4.cell? ⟨wr.heap.size,7,none⟩ = some (.int .i64 y.ret.op):=cell_of_row _ _ _ _ _ _ hP
          have pp8 : W4.cell? ⟨wr.heap.size,8,none⟩ = some (.int .i64 y.ret.n):=cell_of_row _ _ _ _ _ _ hP
          have pp9 : W4.cell? ⟨wr.heap.size,9,none⟩ = some (.string (bstr y.ret.nm)):=cell_of_row _ _ _ _ _ _ hP
          have pp10 : W4.cell? ⟨wr.heap.size,10,none⟩ = some (.slice p2 y2 c2):=cell_of_row _ _ _ _ _ _ hP
          have pp11 : W4.cell? ⟨wr.heap.size,11,none⟩ = some (.int .i64 y.ret.a):=cell_of_row _ _ _ _ _ _ hP
          have HP:=hid hP
          have HSC4:=hid (HSC.out.stay HA.out)
          have hW24 : w2.heap.size ≤ W4.heap.size:=Nat.le_trans HBR.out.size HA.out.size
          have HCF : Hid (∀ X,Below W4.heap.size W4 X → Calls Try.prog 29 #[.agg #[.int .i64 y.a,.string (bstr y.nm),.slice p0 y0 c0,.bool y.tr,.bool y.sc,.slice p1 y1 c1,.int .i64 y.ret.k,.int .i64 y.ret.op,.int .i64 y.ret.n,.string (bstr y.ret.nm),.slice p2 y2 c2,.int .i64 y.ret.a]] X fun r w' => Below X.heap.size X w' ∧ ∃ q0 e0 q1 e1 q2 e2,r = .returned (.agg #[.int .i64 y.a,.string (bstr y.nm),.slice q0 y0 e0,.bool y.tr,.bool y.sc,.slice q1 y1 e1,.int .i64 y.ret.k,.int .i64 y.ret.op,.int .i64 y.ret.n,.string (bstr y.ret.nm),.slice q2 y2 e2,.int .i64 y.ret.a]) ∧ IsFn1 (fun g => w2.heap.size ≤ g) w' y ⟨.slice q0 y0 e0,.slice q1 y1 e1,.slice q2 y2 e2⟩):=hid fun X hX => by
           have h:=cfunc_any y X ⟨.slice p0 y0 c0,.slice p1 y1 c1,.slice p2 y2 c2⟩ (hid ((HFN.out.stay HA.out).stay hX)) HSH.out
           unfold CpF at h
           rw [HYN.out.1,HYN.out.2.1,HYN.out.2.2] at h
           exact h.mono fun r w' ⟨hb,q0,e0,q1,e1,q2,e2,er,hf⟩ => ⟨hb,q0,e0,q1,e1,q2,e2,er,hf.1.kept fun g hg _ => ⟨rfl,Nat.le_trans (Nat.le_trans hW24 hX.size) hg⟩,hf.2.1.kept fun g hg _ => ⟨rfl,Nat.le_trans (Nat.le_trans hW24 hX.size) hg⟩,hf.2.2.kept fun g hg _ => ⟨rfl,Nat.le_trans (Nat.le_trans hW24 hX.size) hg⟩⟩
          have HKN : Hid (∀ X,Below W4.heap.size W4 X → ∀ q0 e0 q1 e1 q2 e2,IsFn1 (fun g => w2.heap.size ≤ g) X y ⟨.slice q0 y0 e0,.slice q1 y1 e1,.slice q2 y2 e2⟩ → Calls Try.prog 27 #[.pointer (some ⟨w2.heap.size,0,none⟩),.string (bstr y.nm),.iface 100 (.agg #[.int .i64 y.a,.string (bstr y.nm),.slice q0 y0 e0,.bool y.tr,.bool y.sc,.slice q1 y1 e1,.int .i64 y.ret.k,.int .i64 y.ret.op,.int .i64 y.ret.n,.string (bstr y.ret.nm),.slice q2 y2 e2,.int .i64 y.ret.a,.int .i64 i])] X fun e w' => e = .returned (.tuple #[]) ∧ ∃ b,Scp w2.heap.size w' w2.heap.size (n0 + n1 + (i + 1)) (F.upd y.nm (.fn y ⟨.slice q0 y0 e0,.slice q1 y1 e1,.slice q2 y2 e2⟩ i)) [] [] (.map (some b)) (.slice none 0 0) (.slice none 0 0) ∧ Below w2.heap.size X w'):=hid fun X hX q0 e0 q1 e1 q2 e2 hf => by
           have h:=know_any (hid (HSC4.out.stay hX)) (by omega) (bstr y.nm) hsz (.fn y ⟨.slice q0 y0 e0,.slice q1 y1 e1,.slice q2 y2 e2⟩ i) ⟨HSH.out,hf⟩
           rw [bstr_list] at h
           exact h.mono fun e w' ⟨h1,b,h2,h3,_⟩ => ⟨h1,b,h2,h3⟩
          clear hW4 hP
          go_region_law (first
           | (go_simp;go_at_call 29;(with_reducible refine (HCF.out _ ((Below.refl W4.heap.size W4).drew)).mono ?_);rintro e2 w5 ⟨hb5,q0,e0,q1,e1,q2,e2',rfl,hf5⟩;replace hb5:=below_ch ((Below.refl W4.heap.size W4).drew) hb5;have HB5:=hid hb5;have HF5:=hid hf5;have p15 : w5.cell? ⟨wr.heap.size,1,none⟩ = some (.string (bstr y.nm)):=(hb5.cell (p:=⟨wr.heap.size,1,none⟩) hpl).trans (cell_of_row _ _ _ _ _ _ HP.out);have hpl5:=Nat.lt_of_lt_of_le hpl hb5.size;clear hf5)
           | (go_simp;go_at_call 27;(with_reducible refine (HKN.out _ HB5.out _ _ _ _ _ _ HF5.out).mono ?_);rintro e3 w6 ⟨rfl,b6,hs6,hb6⟩;have HS6:=hid hs6;have HB6:=hid hb6;clear hs6 hb6))
          all_goals go_wp2
          all_goals
           refine ⟨⟨i + 1,_,_,by go_num,by omega,below_tr (below_ch HBR.out (below_ch HA.out HB5.out)) HB6.out,?_,HS6.out⟩,?_⟩
           · rw [TF.er_upd,HFE.out,List.take_add_one,HXX.out]
             show _ = tagN (p.fs.take i ++ [y]) _
             rw [tagN_snoc,List.length_take,Nat.min_eq_left (by have:=HN.out.2.2.1;omega)]
             rfl
           · simp [intOf]
             omega
        · have hlt : ¬ (i : Int) < (n2 : Int):=by omega
          obtain rfl : n2 = i:=by omega
          have et : p.fs.take n2 = p.fs:=by (rw [← HN.out.2.2.1];exact List.take_length)
          clear HFA HSA HBA
          have HFA : Hid (F.er = tagP p):=hid (by rw [hFe,et];rfl)
          have HSA:=HSC
          have HBA:=HBR
          clear et HFE HSC HBR hFe hsc hbr
          go_wp2
          go_ret3
          have hnok : NewOk W wr p w2.heap.size:=⟨F,m,n0 + n1 + n2,by omega,HFA.out,HSA.out.low HBW.out.size⟩
          exact ⟨below_ch HBW.out HBA.out,w2.heap.size,rfl,HBW.out.size,hnok⟩
theorem cnt_in {e : Ex} : ∀ {es : List Ex},e ∈ es → e.cnt ≤ Ex.cntL es
 | x :: r,h => by
  simp only [Ex.cntL]
  rcases List.mem_cons.1 h with rfl | h
  · omega
  · have:=cnt_in h
    omega
theorem NameB.short {t : List UInt8} (h : NameB t) : t.length ≤ 100000:=by
 obtain ⟨_,_,_,_,_,h24,_⟩:=h
 omega
theorem she_fit {o : Nat} {r : Int} {x : Ex} (h : Fit o r x) : x.cnt < 1000000 → ShE x:=by
 induction h with
 | num _ _ => exact fun _ => .mk (by simp) (by simp) (by simp)
 | tru => exact fun _ => .mk (by simp) (by simp) (by simp)
 | fls => exact fun _ => .mk (by simp) (by simp) (by simp)
 | var h => exact fun _ => .mk h.short (by simp) (by simp)
 | elem h1 _ _ ih =>
  exact fun hc => .mk h1.short (by simp) fun e he => (by simp only [List.mem_singleton] at he;subst he;exact ih (by simp [Ex.cnt,Ex.cntL] at hc;omega))
 | neg _ _ ih =>
  exact fun hc => .mk (by simp) (by simp) fun e he => (by simp only [List.mem_singleton] at he;subst he;exact ih (by simp [Ex.cnt,Ex.cntL] at hc;omega))
 | not _ _ ih =>
  exact fun hc => .mk (by simp) (by simp) fun e he => (by simp only [List.mem_singleton] at he;subst he;exact ih (by simp [Ex.cnt,Ex.cntL] at hc;omega))
 | two _ _ _ _ _ ih1 ih2 =>
  intro hc
  simp [Ex.cnt,Ex.cntL] at hc
  refine .mk (by simp) (by simp) fun e he => ?_
  simp only [List.mem_cons,List.not_mem_nil,or_false] at he
  rcases he with rfl | rfl
  · exact ih1 (by omega)
  · exact ih2 (by omega)
 | brk _ _ _ _ ih => exact fun hc => ih hc
 | @call o r nm es a h1 _ _ ih =>
  intro hc
  have hl:=cntL_len es
  simp [Ex.cnt] at hc
  exact .mk h1.short (by omega) fun e he => ih e he (by have:=cnt_in he;omega)
theorem she_good {x : Ex} (h : GoodE x) : ShE x:=she_fit h.2.2.2 h.1
theorem cntS_len : ∀ (l : List Stm),l.length ≤ cntS l
 | [] => Nat.le_refl _
 | e :: r => by
  have h:=cntS_len r
  have h1 : 1 ≤ e.cnt:=by (cases e;simp only [Stm.cnt];omega)
  simp only [cntS,List.length_cons]
  omega
theorem shs_good {s : Stm} (h : GX.GoodX s) : s.cnt ≤ 1000000 → ShS s:=by
 induction h with
 | @mk k a tr sc nm ix es bd el h1 h2 hix hes hx1 hx2 hn _ _ ih1 ih2 =>
  intro hc
  simp only [Stm.cnt] at hc
  have hb:=cntS_len bd
  have he:=cntS_len el
  exact .mk hn.len (by omega) (by omega) (by omega) (by omega) (fun e h => she_good (hx1 e h)) (fun e h => she_good (hx2 e h)) (fun t ht => ih1 t ht (by have:=cnt_mem ht;omega)) (fun t ht => ih2 t ht (by have:=cnt_mem ht;omega))
theorem shp_of {p : Pg} (h : GX.GoodP p 16385) (k : NiceP p) : ShP p:=by
 refine ⟨⟨by have:=k.ng;omega,fun y hy => ⟨(k.gs y hy).1.short,(k.gs y hy).2.2.len⟩⟩,⟨by have:=k.nl;omega,fun y hy => (k.ls y hy).short⟩,⟨by have:=k.nf;omega,fun y hy => ?_⟩⟩
 obtain ⟨h1,h2,h3,h4⟩:=h.fn y hy
 have hl:=cntS_len y.bd
 exact ⟨h4,⟨by have:=(k.fs y hy).2.1;omega,fun q hq => ((k.fs y hy).2.2 q hq).short⟩,⟨by omega,fun s hs => shs_good (h1 s hs) (by have:=cnt_mem hs;omega)⟩,she_good h3⟩
def Parsed6 (B : Nat) (w' : World) (c : Int) (v0 v1 v2 v3 : Value) : Prop:=c ≠ 0 ∨ (c = 0 ∧ ∃ p rf rt,ShP p ∧ PRows B w' p v0 v1 v2 v3 rf rt)
open Go
def aw6aT : List UInt8:=[112,117,98,108,105,99,32,105,110,116,32,97,59,32,108,111,99,107,32,97,59]
def aw6aW : List Wd:=[⟨0,[112,117,98,108,105,99],0,0⟩,⟨0,[105,110,116],0,7⟩,⟨0,[97],0,11⟩,⟨2,[59],0,12⟩,⟨0,[108,111,99,107],0,14⟩,⟨0,[97],0,19⟩,⟨2,[59],0,20⟩,⟨3,[],0,21⟩]
theorem aw6a_sc : Sc numO aw6aT 0 aw6aW none:=by
 refine .word _ 0 6 0 0 _ _ (by simp [aw6aT]) rfl ?_
 refine .gap _ 6 1 _ _ (by simp [aw6aT]) rfl ?_
 refine .word _ 7 3 0 0 _ _ (by simp [aw6aT]) rfl ?_
 refine .gap _ 10 1 _ _ (by simp [aw6aT]) rfl ?_
 refine .word _ 11 1 0 0 _ _ (by simp [aw6aT]) rfl ?_
 refine .word _ 12 1 2 0 _ _ (by simp [aw6aT]) rfl ?_
 refine .gap _ 13 1 _ _ (by simp [aw6aT]) rfl ?_
 refine .word _ 14 4 0 0 _ _ (by simp [aw6aT]) rfl ?_
 refine .gap _ 18 1 _ _ (by simp [aw6aT]) rfl ?_
 refine .word _ 19 1 0 0 _ _ (by simp [aw6aT]) rfl ?_
 refine .word _ 20 1 2 0 _ _ (by simp [aw6aT]) rfl ?_
 exact .done 21
def aw6bT : List UInt8:=[115,101,99,114,101,116,32,98,111,111,108,32,103,91,51,93,59,32,108,111,99,107,32,109,59,32,102,117,110,99,32,102,40,41,32,112,117,98,108,105,99,32,105,110,116,32,123,32,114,101,116,117,114,110,32,49,59,32,125]
def aw6bW : List Wd:=[⟨0,[115,101,99,114,101,116],0,0⟩,⟨0,[98,111,111,108],0,7⟩,⟨0,[103],0,12⟩,⟨2,[91],0,13⟩,⟨1,[51],3,14⟩,⟨2,[93],0,15⟩,⟨2,[59],0,16⟩,⟨0,[108,111,99,107],0,18⟩,⟨0,[109],0,23⟩,⟨2,[59],0,24⟩,⟨0,[102,117,110,99],0,26⟩,⟨0,[102],0,31⟩,⟨2,[40],0,32⟩,⟨2,[41],0,33⟩,⟨0,[112,117,98,108,105,99],0,35⟩,⟨0,[105,110,116],0,42⟩,⟨2,[123],0,46⟩,⟨0,[114,101,116,117,114,110],0,48⟩,⟨1,[49],1,55⟩,⟨2,[59],0,56⟩,⟨2,[125],0,58⟩,⟨3,[],0,59⟩]
theorem aw6b_sc : Sc numO aw6bT 0 aw6bW none:=by
 refine .word _ 0 6 0 0 _ _ (by simp [aw6bT]) rfl ?_
 refine .gap _ 6 1 _ _ (by simp [aw6bT]) rfl ?_
 refine .word _ 7 4 0 0 _ _ (by simp [aw6bT]) rfl ?_
 refine .gap _ 11 1 _ _ (by simp [aw6bT]) rfl ?_
 refine .word _ 12 1 0 0 _ _ (by simp [aw6bT]) rfl ?_
 refine .word _ 13 1 2 0 _ _ (by simp [aw6bT]) rfl ?_
 refine .word _ 14 1 1 3 _ _ (by simp [aw6bT]) ?_ ?_
 · show (match numO [51] with | some v => Tok.word 1 1 v | none => .bad 10) = _
   rw [num_3]
 refine .word _ 15 1 2 0 _ _ (by simp [aw6bT]) rfl ?_
 refine .word _ 16 1 2 0 _ _ (by simp [aw6bT]) rfl ?_
 refine .gap _ 17 1 _ _ (by simp [aw6bT]) rfl ?_
 refine .word _ 18 4 0 0 _ _ (by simp [aw6bT]) rfl ?_
 refine .gap _ 22 1 _ _ (by simp [aw6bT]) rfl ?_
 refine .word _ 23 1 0 0 _ _ (by simp [aw6bT]) rfl ?_
 refine .word _ 24 1 2 0 _ _ (by simp [aw6bT]) rfl ?_
 refine .gap _ 25 1 _ _ (by simp [aw6bT]) rfl ?_
 refine .word _ 26 4 0 0 _ _ (by simp [aw6bT]) rfl ?_
 refine .gap _ 30 1 _ _ (by simp [aw6bT]) rfl ?_
 refine .word _ 31 1 0 0 _ _ (by simp [aw6bT]) rfl ?_
 refine .word _ 32 1 2 0 _ _ (by simp [aw6bT]) rfl ?_
 refine .word _ 33 1 2 0 _ _ (by simp [aw6bT]) rfl ?_
 refine .gap _ 34 1 _ _ (by simp [aw6bT]) rfl ?_
 refine .word _ 35 6 0 0 _ _ (by simp [aw6bT]) rfl ?_
 refine .gap _ 41 1 _ _ (by simp [aw6bT]) rfl ?_
 refine .word _ 42 3 0 0 _ _ (by simp [aw6bT]) rfl ?_
 refine .gap _ 45 1 _ _ (by simp [aw6bT]) rfl ?_
 refine .word _ 46 1 2 0 _ _ (by simp [aw6bT]) rfl ?_
 refine .gap _ 47 1 _ _ (by simp [aw6bT]) rfl ?_
 refine .word _ 48 6 0 0 _ _ (by simp [aw6bT]) rfl ?_
 refine .gap _ 54 1 _ _ (by simp [aw6bT]) rfl ?_
 refine .word _ 55 1 1 1 _ _ (by simp [aw6bT]) ?_ ?_
 · show (match numO [49] with | some v => Tok.word 1 1 v | none => .bad 10) = _
   rw [num_1]
 refine .word _ 56 1 2 0 _ _ (by simp [aw6bT]) rfl ?_
 refine .gap _ 57 1 _ _ (by simp [aw6bT]) rfl ?_
 refine .word _ 58 1 2 0 _ _ (by simp [aw6bT]) rfl ?_
 exact .done 59
def aw6aP : Pg:=⟨[⟨11,[97],false,false,0,[]⟩],[⟨19,[97]⟩],[],[]⟩
theorem aw6a_par : parF aw6aW = (aw6aP,.ok [⟨3,[],0,21⟩]):=by
 have t1 : thingF 26 ⟨[],[],[],[]⟩ (.ok aw6aW) = (⟨[⟨11,[97],false,false,0,[]⟩],[],[],[]⟩,.ok (⟨0,[108,111,99,107],0,14⟩ :: ⟨0,[97],0,19⟩ :: ⟨2,[59],0,20⟩ :: [⟨3,[],0,21⟩])):=by
  unfold thingF
  rw [if_neg (by decide),if_neg (by decide),if_neg (by decide),if_pos (by decide)]
  rfl
 have t2 : thingF 26 ⟨[⟨11,[97],false,false,0,[]⟩],[],[],[]⟩ (.ok (⟨0,[108,111,99,107],0,14⟩ :: ⟨0,[97],0,19⟩ :: ⟨2,[59],0,20⟩ :: [⟨3,[],0,21⟩])) = (aw6aP,.ok [⟨3,[],0,21⟩]):=by
  unfold thingF
  rw [if_pos (by decide)]
  rfl
 have w1 : ∀ m p,wholeF 26 (m + 1) p (.ok aw6aW) = wholeF 26 m (thingF 26 p (.ok aw6aW)).1 (thingF 26 p (.ok aw6aW)).2:=fun m p => whole_more (by decide)
 show wholeF 26 9 ⟨[],[],[],[]⟩ (.ok aw6aW) = _
 rw [w1 8,t1]
 show wholeF 26 (7 + 1) _ (.ok (_ :: _)) = _
 rw [whole_more (by decide),t2]
 exact whole_stop rfl
def aw6bP : Pg:=⟨[⟨12,[103],true,true,3,[]⟩],[⟨23,[109]⟩],[⟨31,[102],[],false,false,[],.mk 0 0 1 [] [] 55⟩],[]⟩
theorem aw6b_par : parF aw6bW = (aw6bP,.ok [⟨3,[],0,59⟩]):=by
 have t1 : thingF 68 ⟨[],[],[],[]⟩ (.ok aw6bW) = (⟨[⟨12,[103],true,true,3,[]⟩],[],[],[]⟩,.ok (⟨0,[108,111,99,107],0,18⟩ :: ⟨0,[109],0,23⟩ :: ⟨2,[59],0,24⟩ :: ⟨0,[102,117,110,99],0,26⟩ :: ⟨0,[102],0,31⟩ :: ⟨2,[40],0,32⟩ :: ⟨2,[41],0,33⟩ :: ⟨0,[112,117,98,108,105,99],0,35⟩ :: ⟨0,[105,110,116],0,42⟩ :: ⟨2,[123],0,46⟩ :: ⟨0,[114,101,116,117,114,110],0,48⟩ :: ⟨1,[49],1,55⟩ :: ⟨2,[59],0,56⟩ :: ⟨2,[125],0,58⟩ :: [⟨3,[],0,59⟩])):=by
  unfold thingF
  rw [if_neg (by decide),if_neg (by decide),if_neg (by decide),if_pos (by decide)]
  rfl
 have t2 : thingF 68 ⟨[⟨12,[103],true,true,3,[]⟩],[],[],[]⟩ (.ok (⟨0,[108,111,99,107],0,18⟩ :: ⟨0,[109],0,23⟩ :: ⟨2,[59],0,24⟩ :: ⟨0,[102,117,110,99],0,26⟩ :: ⟨0,[102],0,31⟩ :: ⟨2,[40],0,32⟩ :: ⟨2,[41],0,33⟩ :: ⟨0,[112,117,98,108,105,99],0,35⟩ :: ⟨0,[105,110,116],0,42⟩ :: ⟨2,[123],0,46⟩ :: ⟨0,[114,101,116,117,114,110],0,48⟩ :: ⟨1,[49],1,55⟩ :: ⟨2,[59],0,56⟩ :: ⟨2,[125],0,58⟩ :: [⟨3,[],0,59⟩])) = (⟨[⟨12,[103],true,true,3,[]⟩],[⟨23,[109]⟩],[],[]⟩,.ok (⟨0,[102,117,110,99],0,26⟩ :: ⟨0,[102],0,31⟩ :: ⟨2,[40],0,32⟩ :: ⟨2,[41],0,33⟩ :: ⟨0,[112,117,98,108,105,99],0,35⟩ :: ⟨0,[105,110,116],0,42⟩ :: ⟨2,[123],0,46⟩ :: ⟨0,[114,101,116,117,114,110],0,48⟩ :: ⟨1,[49],1,55⟩ :: ⟨2,[59],0,56⟩ :: ⟨2,[125],0,58⟩ :: [⟨3,[],0,59⟩])):=by
  unfold thingF
  rw [if_pos (by decide)]
  rfl
 have he : exF (.ok (⟨1,[49],1,55⟩ :: ⟨2,[59],0,56⟩ :: ⟨2,[125],0,58⟩ :: [⟨3,[],0,59⟩])) = (.mk 0 0 1 [] [] 55,.ok (⟨2,[59],0,56⟩ :: ⟨2,[125],0,58⟩ :: [⟨3,[],0,59⟩])):=exn (rk5_se _ _)
 have hs : stmtsF 68 1 kReturn (.ok (⟨0,[114,101,116,117,114,110],0,48⟩ :: ⟨1,[49],1,55⟩ :: ⟨2,[59],0,56⟩ :: ⟨2,[125],0,58⟩ :: [⟨3,[],0,59⟩])) = ([],.ok (⟨0,[114,101,116,117,114,110],0,48⟩ :: ⟨1,[49],1,55⟩ :: ⟨2,[59],0,56⟩ :: ⟨2,[125],0,58⟩ :: [⟨3,[],0,59⟩])):=by
  show stmtsF (67 + 1) 1 kReturn _ = _
  unfold stmtsF
  simp (config:={ decide:=true }) [RS.is,RS.good,RS.adv,RS.hd,RS.need,RS.fail,kReturn]
 have hf : funcF 68 (.ok (⟨0,[102,117,110,99],0,26⟩ :: ⟨0,[102],0,31⟩ :: ⟨2,[40],0,32⟩ :: ⟨2,[41],0,33⟩ :: ⟨0,[112,117,98,108,105,99],0,35⟩ :: ⟨0,[105,110,116],0,42⟩ :: ⟨2,[123],0,46⟩ :: ⟨0,[114,101,116,117,114,110],0,48⟩ :: ⟨1,[49],1,55⟩ :: ⟨2,[59],0,56⟩ :: ⟨2,[125],0,58⟩ :: [⟨3,[],0,59⟩])) = (⟨31,[102],[],false,false,[],.mk 0 0 1 [] [] 55⟩,.ok [⟨3,[],0,59⟩]):=by
  unfold funcF
  have hb : ((kindF (paramsF (nameF (RS.ok (⟨0,[102,117,110,99],0,26⟩ :: ⟨0,[102],0,31⟩ :: ⟨2,[40],0,32⟩ :: ⟨2,[41],0,33⟩ :: ⟨0,[112,117,98,108,105,99],0,35⟩ :: ⟨0,[105,110,116],0,42⟩ :: ⟨2,[123],0,46⟩ :: ⟨0,[114,101,116,117,114,110],0,48⟩ :: ⟨1,[49],1,55⟩ :: ⟨2,[59],0,56⟩ :: ⟨2,[125],0,58⟩ :: [⟨3,[],0,59⟩])).adv).2).2).2.need [123]) = .ok (⟨0,[114,101,116,117,114,110],0,48⟩ :: ⟨1,[49],1,55⟩ :: ⟨2,[59],0,56⟩ :: ⟨2,[125],0,58⟩ :: [⟨3,[],0,59⟩]):=rfl
  simp only [hb,hs]
  have hr : (RS.ok (⟨0,[114,101,116,117,114,110],0,48⟩ :: ⟨1,[49],1,55⟩ :: ⟨2,[59],0,56⟩ :: ⟨2,[125],0,58⟩ :: [⟨3,[],0,59⟩])).need kReturn = .ok (⟨1,[49],1,55⟩ :: ⟨2,[59],0,56⟩ :: ⟨2,[125],0,58⟩ :: [⟨3,[],0,59⟩]):=rfl
  rw [hr,he]
  rfl
 have t3 : thingF 68 ⟨[⟨12,[103],true,true,3,[]⟩],[⟨23,[109]⟩],[],[]⟩ (.ok (⟨0,[102,117,110,99],0,26⟩ :: ⟨0,[102],0,31⟩ :: ⟨2,[40],0,32⟩ :: ⟨2,[41],0,33⟩ :: ⟨0,[112,117,98,108,105,99],0,35⟩ :: ⟨0,[105,110,116],0,42⟩ :: ⟨2,[123],0,46⟩ :: ⟨0,[114,101,116,117,114,110],0,48⟩ :: ⟨1,[49],1,55⟩ :: ⟨2,[59],0,56⟩ :: ⟨2,[125],0,58⟩ :: [⟨3,[],0,59⟩])) = (aw6bP,.ok [⟨3,[],0,59⟩]):=by
  unfold thingF
  rw [if_neg (by decide),if_pos (by decide)]
  have hl : limF ([] : List Fn).length 16 (.ok (⟨0,[102,117,110,99],0,26⟩ :: ⟨0,[102],0,31⟩ :: ⟨2,[40],0,32⟩ :: ⟨2,[41],0,33⟩ :: ⟨0,[112,117,98,108,105,99],0,35⟩ :: ⟨0,[105,110,116],0,42⟩ :: ⟨2,[123],0,46⟩ :: ⟨0,[114,101,116,117,114,110],0,48⟩ :: ⟨1,[49],1,55⟩ :: ⟨2,[59],0,56⟩ :: ⟨2,[125],0,58⟩ :: [⟨3,[],0,59⟩])) = .ok (⟨0,[102,117,110,99],0,26⟩ :: ⟨0,[102],0,31⟩ :: ⟨2,[40],0,32⟩ :: ⟨2,[41],0,33⟩ :: ⟨0,[112,117,98,108,105,99],0,35⟩ :: ⟨0,[105,110,116],0,42⟩ :: ⟨2,[123],0,46⟩ :: ⟨0,[114,101,116,117,114,110],0,48⟩ :: ⟨1,[49],1,55⟩ :: ⟨2,[59],0,56⟩ :: ⟨2,[125],0,58⟩ :: [⟨3,[],0,59⟩]):=rfl
  simp only [hl]
  rw [if_pos (by decide),hf]
  rfl
 have w1 : ∀ m p,wholeF 68 (m + 1) p (.ok aw6bW) = wholeF 68 m (thingF 68 p (.ok aw6bW)).1 (thingF 68 p (.ok aw6bW)).2:=fun m p => whole_more (by decide)
 show wholeF 68 23 ⟨[],[],[],[]⟩ (.ok aw6bW) = _
 rw [w1 22,t1]
 show wholeF 68 (21 + 1) _ (.ok (_ :: _)) = _
 rw [whole_more (by decide),t2]
 show wholeF 68 (20 + 1) _ (.ok (_ :: _)) = _
 rw [whole_more (by decide),t3]
 exact whole_stop rfl
theorem setCells_same (b : Nat) (T : TypeId) : ∀ (vs : List Value) (o : Nat) (X : World) (cs : Array Value),X.heap[b]? = some (.cells cs T (0,0)) → o + vs.length ≤ cs.size →
 ∃ cs',(X.setCells b o vs).heap[b]? = some (.cells cs' T (0,0)) ∧ cs'.size = cs.size ∧ (∀ j u,vs[j]? = some u → cs'[o + j]? = some u) ∧ ∀ q,(q < o ∨ o + vs.length ≤ q) → cs'[q]? = cs[q]?
 | [],o,X,cs,h,_ => ⟨cs,h,rfl,fun j u hu => by simp at hu,fun _ _ => rfl⟩
 | v :: r,o,X,cs,h,hl => by
  have hs:=heap_setCell_same X b o cs T v h
  simp only [List.length_cons] at hl
  obtain ⟨cs',h1,h2,h3,h4⟩:=setCells_same b T r (o + 1) _ _ hs (by simp;omega)
  refine ⟨cs',h1,by rw [h2];simp,fun j u hu => ?_,fun q hq => ?_⟩
  · cases j with
    | zero =>
     simp only [List.getElem?_cons_zero,Option.some.injEq] at hu
     subst hu
     rw [Nat.add_zero,h4 o (by omega)]
     have : o < cs.size:=by omega
     simp [Array.getElem?_setIfInBounds,this]
    | succ j =>
     simp only [List.getElem?_cons_succ] at hu
     have:=h3 j u hu
     rw [show o + (j + 1) = o + 1 + j by omega]
     exact this
  · simp only [List.length_cons] at hq
    rw [h4 q (by omega),Array.getElem?_setIfInBounds,if_neg (by omega)]
theorem setCells_fr (b : Nat) : ∀ (vs : List Value) (o : Nat) (W X : World),Fr2 b b W X → Fr2 b b W (X.setCells b o vs)
 | [],_,_,_,h => h
 | v :: r,o,W,X,h => setCells_fr b r (o + 1) W _ (h.set (.inl rfl) o v)
theorem Fr2.drewN {s b : Nat} {W X : World} (h : Fr2 s b W X) (n : Nat) : Fr2 s b W (X.drewN n):=h
theorem str_data (s : ByteArray) : (⟨s.data.toList.toArray⟩ : ByteArray) = s:=by simp
theorem del_rows {B : Nat} {W : World} {g l c i : Nat} {L : List ByteArray} (ho : W.ownsRow B 9 1 (.slice (some ⟨g,0,none⟩) l c) l (L.map Value.string)) (hl : L.length = l) (hi : i ≤ l) :
 Calls Try.prog 31 #[.slice (some ⟨g,0,none⟩) l c,.int .i64 i,.int .i64 l] W fun e w' => e = .returned (.slice (some ⟨g,0,none⟩) i c) ∧ w'.ownsRow B 9 1 (.slice (some ⟨g,0,none⟩) i c) i ((L.take i).map Value.string) ∧ Fr2 g g W w':=by
 rcases ho.2 with ⟨h0,_⟩ | ⟨g',cap,cur,hv,hB,hg,hcap,hmx,hsz,htk⟩
 · cases h0
 cases hv
 have hcell : ∀ j,j < l → cur[j]? = some (.string (L.getD j ⟨#[]⟩)):=fun j hj => by
  have h1 : (L.map Value.string)[j]? = some (.string (L.getD j ⟨#[]⟩)):=by
   rw [List.getElem?_map,List.getElem?_eq_getElem (by omega),List.getD_eq_getElem?_getD,List.getElem?_eq_getElem (by omega)]
   rfl
  rw [← htk,List.getElem?_take] at h1
  split at h1
  · simpa using h1
  · cases h1
 refine (Try.slices_Delete_string_cells g 0 l c i l (fun j => L.getD j ⟨#[]⟩) W hcap hmx hi (Nat.le_refl _) (fun j hj => by rw [Nat.zero_add];exact (cell_of_row _ _ _ _ _ _ hg).trans (hcell j hj)) (fun j _ => by rw [Nat.zero_add];exact frozen_of_row _ _ _ _ _ hg)).mono ?_
 rintro e w' ⟨rfl,q,rfl⟩
 obtain ⟨vs,hvs⟩ : ∃ vs,((Lib.strsOf (fun j => L.getD j ⟨#[]⟩) l).take i ++ (Lib.strsOf (fun j => L.getD j ⟨#[]⟩) l).drop l ++ List.replicate (l - i) []).map encStr = vs:=⟨_,rfl⟩
 rw [hvs]
 have hlen : vs.length = l:=by
  rw [← hvs]
  simp [Lib.strsOf]
  omega
 have hat : ∀ j,j < i → vs[j]? = some (.string (L.getD j ⟨#[]⟩)):=fun j hj => by
  rw [← hvs,List.getElem?_map,List.append_assoc,List.getElem?_append_left (by simp [Lib.strsOf];omega),List.getElem?_take,if_pos hj]
  simp only [Lib.strsOf,List.getElem?_map]
  rw [List.getElem?_range (by omega)]
  simp only [Option.map_some,encStr,str_data]
 have hg' : (W.drewN q).heap[g]? = some (.cells cur 9 (0,0)):=hg
 obtain ⟨cs',e1,e2,e3,e4⟩:=setCells_same g 9 vs 0 (W.drewN q) cur hg' (by omega)
 refine ⟨by rw [show l - (l - i) = i by omega],⟨by simp;omega,.inr ⟨g,c,cs',rfl,hB,e1,by omega,hmx,by omega,?_⟩⟩,setCells_fr g vs 0 W _ (Fr2.drewN (Fr2.refl _ _ _) q)⟩
 apply List.ext_getElem?
 intro j
 by_cases hj : j < i
 · have h1:=e3 j _ (hat j hj)
   rw [Nat.zero_add] at h1
   rw [List.getElem?_take,if_pos (by omega),Array.getElem?_toList,h1,List.getElem?_map,List.getElem?_take,if_pos hj,List.getElem?_eq_getElem (by omega),List.getD_eq_getElem?_getD,List.getElem?_eq_getElem (by omega)]
   rfl
 · rw [List.getElem?_eq_none (by simp;omega),List.getElem?_eq_none (by simp;omega)]
end Go.Proofs.Ytbmmjomcjlpnlaa
namespace Go.Proofs.Ytbmmjomcjlpnlaa
open Go Go.RowKit
def TF.dels (F : TF) (l : List ByteArray) : TF:=l.foldl (fun G x => G.del x.data.toList) F
section
variable {B : Nat} {W X : World} {s n : Nat} {F : TF} {L L' : List ByteArray} {bl bl' : List Nat} {m lv bv lv' bv' : Value}
theorem row_last {k : Nat} {q : Option Addr} {d a : Nat} {b0 : List Nat} (h : W.ownsRow B 3 1 (.slice q (k + 1) d) (k + 1) ((b0 ++ [a]).map fun (i : Nat) => Value.int .i64 (i : Int))) (hk : b0.length = k) :
 ∃ gb,q = some ⟨gb,0,none⟩ ∧ gb < W.heap.size ∧ W.cell? ⟨gb,k,none⟩ = some (.int .i64 a) ∧ k + 1 ≤ d ∧ W.ownsRow B 3 1 (.slice q k d) k (b0.map fun (i : Nat) => Value.int .i64 (i : Int)):=by
 rcases h.2 with ⟨h0,_⟩ | ⟨g',cap,cur,hv,hB,hg,hcap,hmx,hsz,htk⟩
 · cases h0
 · cases hv
   refine ⟨g',rfl,(Array.getElem?_eq_some_iff.1 hg).1,(cell_of_row _ _ _ _ _ _ hg).trans ?_,hcap,by simp;omega,.inr ⟨g',d,cur,rfl,hB,hg,by omega,hmx,hsz,?_⟩⟩
   · have h1 : ((b0 ++ [a]).map fun (i : Nat) => Value.int .i64 (i : Int))[k]? = some (.int .i64 a):=by
      rw [List.map_append,List.getElem?_append_right (by simp;omega)]
      simp [hk]
     rw [← htk,List.getElem?_take] at h1
     split at h1
     · simpa using h1
     · cases h1
   · have h2:=congrArg (List.take (k * 1)) htk
     rw [List.take_take,List.map_append,List.take_left' (by simp;omega)] at h2
     rw [← h2]
     congr 1
     omega
theorem leave_nil {b0 : List Nat} (h : Hid (Scp B W s n F [] (b0 ++ [0]) m lv bv)) (hb : b0.length ≤ 1000000) :
 Calls Try.prog 11 #[.pointer (some ⟨s,0,none⟩)] W fun e w' => e = .returned (.tuple #[]) ∧ ∃ lv' bv',Scp B w' s n F [] b0 m lv' bv' ∧ Below B W w' ∧ Apx W w' s m lv bv m lv' bv':=by
 obtain ⟨mm,p,c,q,d,rfl,rfl,rfl⟩:=h.out.forms
 have heq:=eql_ptr_some ⟨s,0,none⟩ W
 obtain ⟨k,hk⟩ : ∃ k,b0.length = k:=⟨_,rfl⟩
 have hrow:=h.out.bk
 have hfa:=h.out.facts
 rw [List.length_append,List.length_singleton,hk] at hrow hfa
 obtain ⟨gb,rfl,hgb,hcb,hkd,hrow0⟩:=row_last hrow hk
 obtain ⟨sl,⟨c0,c1,c2⟩,f0,f1,f2⟩:=hfa
 have hk1 : ¬ ((k : Int) + 1) = 0:=by omega
 have hkb : (((k : Int) + 1) == 0) = false:=by simpa using hk1
 have HK:=hid hk
 have HR:=hid hrow0
 rw [hk] at hb
 clear hrow hrow0 hk
 have e1 : (k : Int) + 1 - 1 = (k : Int):=by omega
 cases p with
 | none =>
  go_enter Try.func11,Try.ntmps11
  go_upto_region 4 with (fail)
  go_loopw [36] (fun iv wr => iv = .int .i64 0 ∧ wr = W) (fun _ _ => 0)
  case atStart => exact ⟨rfl,rfl⟩
  case round =>
   obtain ⟨rfl,rfl⟩:=hrel
   go_upto_region 8 with (fail)
   go_region_law (first
    | (go_simp;go_at_call 31;(with_reducible refine (Try.slices_Delete_string_empty _ _ _).mono ?_);rintro e2 w3 ⟨rfl,rfl⟩))
   all_goals go_wp2
   all_goals go_end0
   all_goals
    have hsX:=heap_setCell_same (wr.setCell ⟨s,1,none⟩ (.slice none 0 c)).drew s 2 _ _ (.slice (some ⟨gb,0,none⟩) k d) (heap_setCell_same wr s 1 _ _ (.slice none 0 c) h.out.blk)
    have hfr : Fr2 s (rowB (.slice none 0 0) s) wr ((wr.setCell ⟨s,1,none⟩ (.slice none 0 c)).drew.setCell ⟨s,2,none⟩ (.slice (some ⟨gb,0,none⟩) k d)):=(((Fr2.refl _ _ wr).set (.inl rfl) 1 _).drew).set (.inl rfl) 2 _
    have hlo:=own_turn h.out (World.ownsRow_nil wr B 3 1) h.out.lo (by decide) (by decide) hfr
    have hbk:=own_turn h.out (World.ownsRow_nil wr B 9 1) HR.out (by decide) (by decide) hfr
    obtain ⟨h1,h2⟩:=h.out.turn (L':=[]) (bl':=b0) (World.ownsRow_nil wr B 3 1) (.inr rfl) hfr hsX hlo (by rw [HK.out];exact hbk)
    exact ⟨rfl,_,_,h1,h2,fun g hg ha => ⟨hfr.2 g hg ha.1 ha.1,ha.1,ha.2.1,ha.2.2.1,ha.2.2.2⟩⟩
 | some a =>
  go_enter Try.func11,Try.ntmps11
  go_upto_region 4 with (fail)
  go_loopw [36] (fun iv wr => iv = .int .i64 0 ∧ wr = W) (fun _ _ => 0)
  case atStart => exact ⟨rfl,rfl⟩
  case round =>
   obtain ⟨rfl,rfl⟩:=hrel
   go_upto_region 8 with (fail)
   go_region_law (first
    | (go_simp;go_at_call 31;(with_reducible refine (Try.slices_Delete_string_empty _ _ _).mono ?_);rintro e2 w3 ⟨rfl,rfl⟩))
   all_goals go_wp2
   all_goals go_end0
   all_goals
    have hsX:=heap_setCell_same (wr.setCell ⟨s,1,none⟩ (.slice (some a) 0 c)).drew s 2 _ _ (.slice (some ⟨gb,0,none⟩) k d) (heap_setCell_same wr s 1 _ _ (.slice (some a) 0 c) h.out.blk)
    have hfr : Fr2 s (rowB (.slice none 0 0) s) wr ((wr.setCell ⟨s,1,none⟩ (.slice (some a) 0 c)).drew.setCell ⟨s,2,none⟩ (.slice (some ⟨gb,0,none⟩) k d)):=(((Fr2.refl _ _ wr).set (.inl rfl) 1 _).drew).set (.inl rfl) 2 _
    have hlo:=own_turn h.out (World.ownsRow_nil wr B 3 1) h.out.lo (by decide) (by decide) hfr
    have hbk:=own_turn h.out (World.ownsRow_nil wr B 9 1) HR.out (by decide) (by decide) hfr
    obtain ⟨h1,h2⟩:=h.out.turn (L':=[]) (bl':=b0) (World.ownsRow_nil wr B 3 1) (.inr rfl) hfr hsX hlo (by rw [HK.out];exact hbk)
    exact ⟨rfl,_,_,h1,h2,fun g hg ha => ⟨hfr.2 g hg ha.1 ha.1,ha.1,ha.2.1,ha.2.2.1,ha.2.2.2⟩⟩
end
end Go.Proofs.Ytbmmjomcjlpnlaa
namespace Go.Proofs.Ytbmmjomcjlpnlaa
open Go Go.RowKit
theorem Fr2.wk {g : Nat} {W X : World} (h : Fr2 g g W X) (s : Nat) : Fr2 s g W X:=⟨h.1,fun i hi _ h2 => h.2 i hi h2 h2⟩
theorem own_str {B : Nat} {W : World} {g l c : Nat} {L : List ByteArray} (ho : W.ownsRow B 9 1 (.slice (some ⟨g,0,none⟩) l c) l (L.map Value.string)) : g < W.heap.size ∧ l ≤ c ∧ c ≤ maxLen ∧ ∀ j x,L[j]? = some x → W.cell? ⟨g,j,none⟩ = some (.string x):=by
 rcases ho.2 with ⟨h0,_⟩ | ⟨g',cap,cur,hv,hB,hg,hcap,hmx,hsz,htk⟩
 · cases h0
 cases hv
 refine ⟨(Array.getElem?_eq_some_iff.1 hg).1,hcap,hmx,fun j x hx => (cell_of_row _ _ _ _ _ _ hg).trans ?_⟩
 have h1 : (L.map Value.string)[j]? = some (.string x):=by rw [List.getElem?_map,hx];rfl
 rw [← htk,List.getElem?_take] at h1
 split at h1
 · simpa using h1
 · cases h1
theorem TF.dels_snoc (F : TF) (l : List ByteArray) (x : ByteArray) : F.dels (l ++ [x]) = (F.dels l).del x.data.toList:=by simp [TF.dels]
section
variable {B : Nat} {W X : World} {s n : Nat} {F : TF} {L L' : List ByteArray} {bl bl' : List Nat} {m lv bv lv' bv' : Value}
theorem Scp.kmap {b : Nat} (h : Scp B W s n F L bl (.map (some b)) lv bv) : B ≤ b ∧ KMap W b n F.kf:=by
 rcases h.mp with ⟨e,_⟩ | ⟨b',e,h1,h2⟩
 · cases e
 · cases e
   exact ⟨h1,h2⟩
theorem leave_some {b0 : List Nat} {a b g c : Nat} (h : Hid (Scp B W s n F L (b0 ++ [a]) (.map (some b)) (.slice (some ⟨g,0,none⟩) L.length c) bv)) (hb : b0.length ≤ 1000000) (ha : a ≤ L.length) (hL : L.length ≤ 1000000) (hx : ∀ x ∈ L,x.size ≤ 140737488355328) (hac : a < c) :
 Calls Try.prog 11 #[.pointer (some ⟨s,0,none⟩)] W fun e w' => e = .returned (.tuple #[]) ∧ ∃ bv',Scp B w' s n (F.dels (L.drop a)) (L.take a) b0 (.map (some b)) (.slice (some ⟨g,0,none⟩) a c) bv' ∧ Below B W w' ∧ Oth W w' ∧ Apx W w' s (.map (some b)) (.slice (some ⟨g,0,none⟩) L.length c) bv (.map (some b)) (.slice (some ⟨g,0,none⟩) a c) bv':=by
 obtain ⟨mm,p',c',q,d,e0,e1',rfl⟩:=h.out.forms
 cases e0
 cases e1'
 have heq:=eql_ptr_some ⟨s,0,none⟩ W
 obtain ⟨k,hk⟩ : ∃ k,b0.length = k:=⟨_,rfl⟩
 obtain ⟨l,hl⟩ : ∃ l,L.length = l:=⟨_,rfl⟩
 have hrow:=h.out.bk
 have hfa:=h.out.facts
 rw [List.length_append,List.length_singleton,hk] at hrow hfa
 rw [hl] at hfa ha hL
 obtain ⟨gb,rfl,hgb,hcb,hkd,hrow0⟩:=row_last hrow hk
 obtain ⟨sl,⟨c0,c1,c2⟩,f0,f1,f2⟩:=hfa
 have hk1 : ¬ ((k : Int) + 1) = 0:=by omega
 have hkb : (((k : Int) + 1) == 0) = false:=by simpa using hk1
 have HK : Hid (b0.length = k ∧ L.length = l):=hid ⟨hk,hl⟩
 have HX:=hid hx
 have HS : Hid (Scp B W s n F L (b0 ++ [a]) (.map (some b)) (.slice (some ⟨g,0,none⟩) l c) (.slice (some ⟨gb,0,none⟩) (k + 1) d)):=hid (by (have:=h.out;rw [hl,List.length_append,List.length_singleton,hk] at this;exact this))
 obtain ⟨hgl,hlc,hcm,_⟩:=own_str (by (have:=HS.out.lo;rwa [hl] at this) : W.ownsRow B 9 1 (.slice (some ⟨g,0,none⟩) l c) l (L.map Value.string))
 have hBW : B ≤ W.heap.size:=Nat.le_of_lt (Nat.lt_of_le_of_lt h.out.hs sl)
 rw [hk] at hb
 clear hrow hrow0 hk hl hx h
 have e1 : (k : Int) + 1 - 1 = (k : Int):=by omega
 have hac1 : ¬ c = a:=by omega
 have hac2 : ¬ a = c:=by omega
 have hac3 : ¬ c - a = 0:=by omega
 go_enter Try.func11,Try.ntmps11
 go_upto_region 4 with (fail)
 go_loopw [36] (fun iv wr => ∃ i : Nat,iv = .int .i64 i ∧ i ≤ l - a ∧ (Below B W wr ∧ Oth W wr ∧ Apx W wr s (.map (some b)) (.slice (some ⟨g,0,none⟩) l c) (.slice (some ⟨gb,0,none⟩) (k + 1) d) (.map (some b)) (.slice (some ⟨g,0,none⟩) l c) (.slice (some ⟨gb,0,none⟩) (k + 1) d)) ∧ Scp B wr s n (F.dels ((L.drop a).take i)) L (b0 ++ [a]) (.map (some b)) (.slice (some ⟨g,0,none⟩) l c) (.slice (some ⟨gb,0,none⟩) (k + 1) d)) (fun iv _ => (l - a) - (intOf iv).toNat)
 case atStart => exact ⟨0,rfl,Nat.zero_le _,⟨⟨rfl,rfl,rfl,Nat.le_refl _,fun _ _ => rfl⟩,Oth.refl _,Apx.refl _ _ _ _ _⟩,HS.out⟩
 case round =>
  obtain ⟨i,rfl,hi,⟨hbr,hor,har⟩,hsr⟩:=hrel
  have HOR:=hid hor
  have HAR:=hid har
  clear hor har
  have HBR:=hid hbr
  have HSR:=hid hsr
  clear sl c0 c1 c2 f0 f1 f2 hgb hcb
  obtain ⟨sl,⟨c0,c1,c2⟩,f0,f1,f2⟩:=hsr.facts
  have hrow2:=hsr.bk
  rw [List.length_append,List.length_singleton,HK.out.1] at hrow2
  obtain ⟨gb',egb,hgb,hcb,_,hrow3⟩:=row_last hrow2 HK.out.1
  cases egb
  have HR3:=hid hrow3
  have HLO : Hid (wr.ownsRow B 9 1 (.slice (some ⟨g,0,none⟩) l c) l (L.map Value.string)):=hid (by (have:=hsr.lo;rwa [HK.out.2] at this))
  clear hbr hsr hrow2 hrow3
  by_cases hik : i < l - a
  · obtain ⟨x,hxx⟩ : ∃ x,L[a + i]? = some x:=⟨_,List.getElem?_eq_getElem (by (have:=HK.out.2;omega))⟩
    obtain ⟨_,_,_,hcell⟩:=own_str HLO.out
    have cx:=hcell _ _ hxx
    have hxs : x.size ≤ maxLen:=Nat.le_trans (HX.out x (List.mem_of_getElem? hxx)) (by decide)
    obtain ⟨hBb,hkm⟩:=HSR.out.kmap
    obtain ⟨w4,hrun,hk4,hg4⟩:=hkm.run_del hxs 0
    have HK4:=hid hk4
    have HG4:=hid hg4
    have HKM:=hid hkm
    have HXX:=hid hxx
    have hlt : (i : Int) < ((l - a : Nat) : Int):=by omega
    have hi0 : (0 : Int) ≤ (i : Int):=Int.natCast_nonneg _
    clear hcell hk4 hg4 hkm hxx
    go_wp2
    have hfr : Fr2 s b wr w4:=(Fr2.refl s b wr).grow HG4.out (.inr (.inl rfl))
    have hsb : s ≠ b:=HKM.out.nocells s _ _ _ HSR.out.blk
    have hs4 : w4.heap[s]? = some (.cells #[.map (some b),.slice (some ⟨g,0,none⟩) l c,.slice (some ⟨gb,0,none⟩) (k + 1) d] 89 (0,0)):=(HG4.out.block s sl (by simp;exact hsb)).trans HSR.out.blk
    have et : (L.drop a).take (i + 1) = (L.drop a).take i ++ [x]:=by
     rw [List.take_add_one,List.getElem?_drop,HXX.out]
     rfl
    have hk5 : KMap w4 b n (F.dels ((L.drop a).take (i + 1))).kf:=by (rw [et,TF.dels_snoc,TF.kf_del];exact HK4.out)
    refine ⟨⟨i + 1,by go_num,by omega,⟨below_tr HBR.out (hfr.to HSR.out.hs hBb (Nat.le_trans hBW HBR.out.size)),HOR.out.trans (Oth.fr2 hfr HSR.out.blk (fun g' cs T fr hg _ _ _ => HKM.out.nocells g' cs T fr hg)),HAR.out.trans HBR.out.size (fun g' hg' ha' => ⟨hfr.2 g' hg' ha'.1 (fun e => ha'.2.1 (by rw [e])),ha'⟩)⟩,HSR.out.next hBb hfr (fun g' cs T fr hg => HKM.out.nocells g' cs T fr hg) hs4 hk5 (fun u y hu => by rw [et,TF.dels_snoc] at hu;unfold TF.del at hu;split at hu;cases hu;exact .inl hu)⟩,?_⟩
    simp [intOf]
    omega
  · have hlt : ¬ (i : Int) < ((l - a : Nat) : Int):=by omega
    obtain rfl : l - a = i:=by omega
    go_upto_region 8 with (fail)
    have hsg : s ≠ g:=fun e => by
     have h1:=own_ne HLO.out HSR.out.blk (by decide)
     exact h1 (by rw [e];rfl)
    have HSG:=hid hsg
    go_region_law (first
     | (go_simp;go_at_call 31;(with_reducible refine (del_rows (B:=B) (own_below HLO.out ((Below.refl wr.heap.size wr).drew)) HK.out.2 ha).mono ?_);rintro e2 w3 ⟨rfl,ho3,hf3⟩;have HO3:=hid ho3;have HF3 : Hid (Fr2 g g wr w3):=hid hf3;have hs3 : w3.heap[s]? = some (.cells #[.map (some b),.slice (some ⟨g,0,none⟩) l c,.slice (some ⟨gb,0,none⟩) (k + 1) d] 89 (0,0)):=(HF3.out.2 s sl HSG.out HSG.out).trans HSR.out.blk;have HS3:=hid hs3;have c13 : w3.cell? ⟨s,1,none⟩ = some (.slice (some ⟨g,0,none⟩) l c):=cell_of_row _ _ _ _ _ _ hs3;have c23 : w3.cell? ⟨s,2,none⟩ = some (.slice (some ⟨gb,0,none⟩) (k + 1) d):=cell_of_row _ _ _ _ _ _ hs3;have f13:=frozen_of_row w3 s 1 _ _ hs3;have f23:=frozen_of_row w3 s 2 _ _ hs3;have sl3 : s < w3.heap.size:=(Array.getElem?_eq_some_iff.1 hs3).1;clear ho3 hf3 hs3))
    all_goals go_wp2
    all_goals go_end0
    all_goals
     have hsX:=heap_setCell_same (w3.setCell ⟨s,1,none⟩ (.slice (some ⟨g,0,none⟩) a c)) s 2 _ _ (.slice (some ⟨gb,0,none⟩) k d) (heap_setCell_same w3 s 1 _ _ (.slice (some ⟨g,0,none⟩) a c) HS3.out)
     have hfr : Fr2 s (rowB (.slice (some ⟨g,0,none⟩) l c) s) wr ((w3.setCell ⟨s,1,none⟩ (.slice (some ⟨g,0,none⟩) a c)).setCell ⟨s,2,none⟩ (.slice (some ⟨gb,0,none⟩) k d)):=((Fr2.wk HF3.out s).set (.inl rfl) 1 _).set (.inl rfl) 2 _
     have hlo:=own_setN (own_setN HO3.out (own_ne HO3.out HS3.out (by decide)) 1 (.slice (some ⟨g,0,none⟩) a c)) (own_ne HO3.out HS3.out (by decide)) 2 (.slice (some ⟨gb,0,none⟩) k d)
     have hbk:=own_turn HSR.out HLO.out HR3.out (by decide) (by decide) hfr
     obtain ⟨h1,h2⟩:=HSR.out.turn (L':=L.take a) (bl':=b0) HLO.out (.inl rfl) hfr hsX (by rw [List.length_take,HK.out.2,Nat.min_eq_left ha];exact hlo) (by rw [HK.out.1];exact hbk)
     have e : (L.drop a).take (l - a) = L.drop a:=List.take_of_length_le (by rw [List.length_drop,HK.out.2];exact Nat.le_refl _)
     rw [e] at h1
     have hbf:=below_tr HBR.out h2
     have hof:=HOR.out.trans (Oth.turn HSR.out HLO.out (.inl rfl) hfr)
     clear hsX hlo hbk h2 e
     exact ⟨rfl,_,h1,hbf,hof,by (rw [HK.out.2];exact HAR.out.trans HBR.out.size (fun g' hg' ha' => ⟨hfr.2 g' hg' ha'.1 (rowB_ne ha'.1 ha'.2.2.1),ha'.1,ha'.2.1,ha'.2.2.1,ha'.2.2.2⟩))⟩
end
end Go.Proofs.Ytbmmjomcjlpnlaa
namespace Go.Proofs.Ytbmmjomcjlpnlaa
open Go Go.RowKit
theorem own_str1 {B : Nat} {W : World} {g l c : Nat} {L : List ByteArray} (ho : W.ownsRow B 9 1 (.slice (some ⟨g,0,none⟩) l c) l (L.map Value.string)) : g < W.heap.size ∧ ∀ j x,L[j]? = some x → W.cell? ⟨g,j,none⟩ = some (.string x):=by
 rcases ho.2 with ⟨h0,_⟩ | ⟨g',cap,cur,hv,hB,hg,hcap,hmx,hsz,htk⟩
 · cases h0
 cases hv
 refine ⟨(Array.getElem?_eq_some_iff.1 hg).1,fun j x hx => (cell_of_row _ _ _ _ _ _ hg).trans ?_⟩
 have h1 : (L.map Value.string)[j]? = some (.string x):=by rw [List.getElem?_map,hx];rfl
 rw [← htk,List.getElem?_take] at h1
 split at h1
 · simpa using h1
 · cases h1
section
variable {B : Nat} {W X : World} {s n : Nat} {F : TF} {L : List ByteArray} {bl : List Nat} {m lv bv : Value}
theorem locals_any (h : Hid (Scp B W s n F L bl m lv bv)) (hL : L.length ≤ 1000000) (hx : ∀ x ∈ L,x.size ≤ 140737488355328) :
 Calls Try.prog 16 #[.pointer (some ⟨s,0,none⟩)] W fun e w' => Below W.heap.size W w' ∧ ∃ p c,e = .returned (.slice p L.length c) ∧ (L ≠ [] → ∃ g,p = some ⟨g,0,none⟩ ∧ (W.heap.size ≤ g ∧ g < w'.heap.size) ∧ ∀ j x,L[j]? = some x → w'.cell? ⟨g,j,none⟩ = some (.string x)):=by
 obtain ⟨mm,p,c,q,d,rfl,rfl,rfl⟩:=h.out.forms
 have heq:=eql_ptr_some ⟨s,0,none⟩ W
 obtain ⟨l,hl⟩ : ∃ l,L.length = l:=⟨_,rfl⟩
 have hlo:=h.out.lo
 have hfa:=h.out.facts
 rw [hl] at hlo hfa hL ⊢
 have HK:=hid hl
 obtain ⟨sl,⟨c0,c1,c2⟩,f0,f1,f2⟩:=hfa
 rcases hlo.2 with ⟨e,h0⟩ | ⟨g,cap,cur,e,_⟩
 · cases e
   have hLn : L = []:=List.eq_nil_of_length_eq_zero (hl.trans h0)
   have HLN:=hid hLn
   clear hlo hl hLn
   go_enter Try.func16,Try.ntmps16
   go_wp2_with (go_at_call 39;(with_reducible refine (cstrs_nil _ _ _).mono ?_);rintro e2 w3 ⟨rfl,rfl⟩)
   go_ret
   exact ⟨Below.refl _ _,none,0,rfl,fun h => absurd HLN.out h⟩
 · cases e
   obtain ⟨hgl,hcell⟩:=own_str1 hlo
   have HC:=hid hcell
   have HQ : Hid (∀ q ∈ L,q.size ≤ 281474976710656):=hid fun q hq => Nat.le_trans (hx q hq) (by decide)
   clear hlo hl hcell hx
   go_enter Try.func16,Try.ntmps16
   go_wp2_with (go_at_call 39;(with_reducible refine (cstrs_some W hgl HC.out l HK.out hL HQ.out).mono ?_);rintro e2 w3 ⟨hb3,g3,rfl,hg3,hf3⟩;have HG3:=hid hg3;clear hg3;have HB3:=hid hb3;have HF3:=hid hf3;clear hb3 hf3)
   go_ret
   obtain ⟨cs,e1,e2,e3⟩:=HF3.out
   refine ⟨HB3.out,_,_,rfl,fun _ => ⟨g3,rfl,⟨HG3.out,(Array.getElem?_eq_some_iff.1 e1).1⟩,fun j x hjx => ?_⟩⟩
   refine (cell_of_row _ _ _ _ _ _ e1).trans ?_
   have hjl : j < l:=by (rw [← HK.out];exact (List.getElem?_eq_some_iff.1 hjx).1)
   have:=e3 j hjl 0 (.string x) (by decide) (by show [Value.string (L.getD j _)][0]? = _;rw [List.getD_eq_getElem?_getD,hjx];rfl)
   simpa using this
end
end Go.Proofs.Ytbmmjomcjlpnlaa
