/- Joined texts: Pp Pms Aw5 Facts Ge Fw Rsh: lemmas for the law; each says its own conditions. -/
import Derived.Test.YtkhbbapocamlmaaDoorQ08
import Derived.Test.YtkhbbapocamlmaaDoorQ02
import Derived.Test.YtkhbbapocamlmaaDoorQ07
import Derived.Test.YtkhbbapocamlmaaDoorQ06
import Derived.Test.YtkhbbapocamlmaaDoorQ03
set_option linter.unusedSimpArgs false
set_option linter.unusedVariables false
set_option maxRecDepth 100000
set_option maxHeartbeats 8000000
open Go.Lib (hid)
namespace Go.Proofs.YtkhbbapocamlmaaDoor
open Go Go.RowKit
def GFn (fnT : Fn → List UInt8) (f : Fn) : Prop:=∀ (B b : Nat) (fv : FV) (bs : List UInt8) (W : World),Wr B b (Lib.byteCells bs) ((0 : Nat) : Int) W → LB B W → B ≤ W.heap.size → IsFn1 (fun g => 0 ≤ g) W f fv → bs.length + (fnT f).length ≤ 100000000000000 →
 Calls Tryd.prog 23 #[.pointer (some ⟨b,0,none⟩),.agg #[.int .i64 f.a,.string (bstr f.nm),fv.p,.bool f.tr,.bool f.sc,fv.b,.int .i64 f.ret.k,.int .i64 f.ret.op,.int .i64 f.ret.n,.string (bstr f.ret.nm),fv.k,.int .i64 f.ret.a]] W fun e w' => e = .returned (.tuple #[]) ∧ Wr B b (Lib.byteCells (bs ++ fnT f)) ((0 : Nat) : Int) w' ∧ KW B b W w'
def progT (fnT : Fn → List UInt8) (p : Pg) : List UInt8:=p.ls.flatMap lkT ++ (p.gs.flatMap glT ++ (p.fs.flatMap fnT ++ p.ths.flatMap thT))
theorem flat_succ {α : Type} (f : α → List UInt8) (l : List α) (k : Nat) (x : α) (h : l[k]? = some x) : (l.take (k + 1)).flatMap f = (l.take k).flatMap f ++ f x:=by
 rw [List.take_add_one,h]
 simp
theorem flat_le {α : Type} (f : α → List UInt8) (l : List α) (k : Nat) : ((l.take k).flatMap f).length ≤ (l.flatMap f).length:=by
 have h:=congrArg List.length (congrArg (List.flatMap f) (List.take_append_drop k l))
 rw [List.flatMap_append,List.length_append] at h
 omega
theorem own_some {B T k n : Nat} {w : World} {v : Value} {xs : List Value} (h : w.ownsRow B T k v n xs) (hn : 0 < n) : ∃ g c,v = .slice (some ⟨g,0,none⟩) n c ∧ g < w.heap.size ∧ ∀ j u,xs[j]? = some u → w.cell? ⟨g,j,none⟩ = some u:=by
 have hc:=fun g hg => h.cells (g:=g) hg
 rcases h.2 with ⟨_,h0⟩ | ⟨g,cap,cur,rfl,_,hg,_⟩
 · omega
 · exact ⟨g,cap,rfl,(Array.getElem?_eq_some_iff.1 hg).1,fun j u hu => by
    have h1:=hc g rfl j u hu
    by_cases hj : j = 0
    · subst hj
      simpa [Addr.add] using h1
    · simpa [Addr.add,hj] using h1⟩
theorem prog_any (fnT : Fn → List UInt8) (p : Pg) (BB : Nat) (W : World) (v0 v1 v2 v3 : Value) (rf : List (Fn × FV)) (rt : List (List Stm × Value)) (R : PRows BB W p v0 v1 v2 v3 rf rt) (L : Laid W) (hgs : ∀ g ∈ p.gs,g.nm.length ≤ 100000 ∧ g.by_.length ≤ 100000 ∧ 0 ≤ g.len ∧ g.len ≤ 64) (hth : ∀ l ∈ p.ths,(∀ s ∈ l,GoodS s) ∧ 1 + cntS l ≤ 1000000) (hfn : ∀ f ∈ p.fs,GFn fnT f)
 (hcn : p.gs.length ≤ 1000000 ∧ p.ls.length ≤ 1000000 ∧ p.fs.length ≤ 1000000 ∧ p.ths.length ≤ 1000000) (T : List UInt8) (hT : progT fnT p = T) (hlen : T.length ≤ 100000000000000) :
 Calls Tryd.prog 9 #[.agg #[v0,v1,v2,v3]] W fun e w' => e = .returned (.string (bstr T)) ∧ Below W.heap.size W w':=by
 obtain ⟨z0,c0,rfl⟩:=own_form R.g
 obtain ⟨z1,c1,rfl⟩:=own_form R.l
 obtain ⟨z2,c2,rfl⟩:=own_form R.f
 obtain ⟨z3,c3,rfl⟩:=own_form R.t
 obtain ⟨A1,hA1⟩ : ∃ A,p.ls.flatMap lkT = A:=⟨_,rfl⟩
 obtain ⟨A2,hA2⟩ : ∃ A,p.gs.flatMap glT = A:=⟨_,rfl⟩
 obtain ⟨A3,hA3⟩ : ∃ A,p.fs.flatMap fnT = A:=⟨_,rfl⟩
 obtain ⟨A4,hA4⟩ : ∃ A,p.ths.flatMap thT = A:=⟨_,rfl⟩
 have hT' : T = A1 ++ (A2 ++ (A3 ++ A4)):=by (rw [← hT,← hA1,← hA2,← hA3,← hA4];rfl)
 have hle : A1.length + (A2.length + (A3.length + A4.length)) ≤ 100000000000000:=by (rw [hT'] at hlen;simp only [List.length_append] at hlen;exact hlen)
 have HT':=hid hT'
 have HA1:=hid hA1
 have HA2:=hid hA2
 have HA3:=hid hA3
 have HA4:=hid hA4
 have hB2 : Below W.heap.size W ((W.alloc (.cells #[.slice z0 p.gs.length c0,.slice z1 p.ls.length c1,.slice z2 p.fs.length c2,.slice z3 p.ths.length c3] 28)).alloc (.cells #[.pointer none,.slice none 0 0,.int .i64 0] 64)):=((Below.refl _ _).alloc (Nat.le_refl _) _).alloc (by simp) _
 have hPB:=PgBlk.new (X:=W) (n:=W.heap.size) (p0:=.slice z0 p.gs.length c0) (p1:=.slice z1 p.ls.length c1) (p2:=.slice z2 p.fs.length c2) (p3:=.slice z3 p.ths.length c3) rfl
 have hWN:=wr_new (W.alloc (.cells #[.slice z0 p.gs.length c0,.slice z1 p.ls.length c1,.slice z2 p.fs.length c2,.slice z3 p.ths.length c3] 28)) 0
 have hLN:=lb_new (L.below (below_of_alloc W (.cells #[.slice z0 p.gs.length c0,.slice z1 p.ls.length c1,.slice z2 p.fs.length c2,.slice z3 p.ths.length c3] 28))) (.cells #[.pointer none,.slice none 0 0,.int .i64 0] 64)
 obtain ⟨ng,hng⟩ : ∃ n,p.gs.length = n:=⟨_,rfl⟩
 obtain ⟨nl,hnl⟩ : ∃ n,p.ls.length = n:=⟨_,rfl⟩
 obtain ⟨nf,hnf⟩ : ∃ n,p.fs.length = n:=⟨_,rfl⟩
 obtain ⟨nt,hnt⟩ : ∃ n,p.ths.length = n:=⟨_,rfl⟩
 have Rg:=R.g
 have Rl:=R.l
 have Rf:=R.f
 have Rt:=R.t
 rw [hng] at Rg
 rw [hnl] at Rl
 rw [hnf] at Rf
 rw [hnt] at Rt
 rw [hng,hnl,hnf,hnt] at hB2 hPB hWN hLN ⊢
 simp only [World.size_alloc] at hWN hLN
 have hPB0 : PgBlk (W.alloc (.cells #[.slice z0 ng c0,.slice z1 nl c1,.slice z2 nf c2,.slice z3 nt c3] 28)) W.heap.size _ _ _ _:=hPB
 obtain ⟨gpl,⟨pc0,pc1,pc2,pc3⟩,_⟩:=hPB0.facts
 have HRX : Hid ((∀ q ∈ rf,IsFn1 (fun g => 0 ≤ g) W q.1 q.2) ∧ (∀ q ∈ rt,IsSts (fun g => 0 ≤ g) W q.1 q.2) ∧ rf.map (·.1) = p.fs ∧ rt.map (·.1) = p.ths):=hid ⟨fun q hq => (R.xf q hq).low (Nat.zero_le _),fun q hq => (R.xt q hq).lo (Nat.zero_le _),R.ef,R.et⟩
 have HHY:=hid (And.intro hgs (And.intro hth hfn))
 have HN:=hid (And.intro hng (And.intro hnl (And.intro hnf hnt)))
 rw [hng,hnl,hnf,hnt] at hcn
 have hPB0':=hPB0
 clear R hT hT' hA1 hA2 hA3 hA4 L hgs hth hfn hlen hng hnl hnf hnt hPB0
 go_enter Tryd.func9,Tryd.ntmps9
 go_wp2
 refine name_world ?_
 intro W2 hW2
 rw [← hW2] at hB2 hWN hLN
 have HB2:=hid hB2
 have HW2 : Hid (Wr (W.heap.size + 1) (W.heap.size + 1) (Lib.byteCells []) ((0 : Nat) : Int) W2):=hid hWN
 have HL2:=hid hLN
 have HPB : Hid (PgBlk W2 W.heap.size (.slice z0 ng c0) (.slice z1 nl c1) (.slice z2 nf c2) (.slice z3 nt c3)):=hid (by (rw [hW2];exact (hPB0'.of (Below.heap_alloc _ _ _ (by simp)))))
 have hs2 : W.heap.size + 2 = W2.heap.size:=by (rw [hW2];simp)
 have HRg:=hid (own_below Rg hB2)
 have HRl:=hid (own_below Rl hB2)
 have HRf:=hid (own_below Rf hB2)
 have HRt:=hid (own_below Rt hB2)
 clear hW2 hB2 hPB hWN hLN Rg Rl Rf Rt hPB0' gpl pc0 pc1 pc2 pc3
 go_loopw [15] (fun i wr => ∃ k : Nat,i = .int .i64 k ∧ k ≤ nl ∧ Wr (W.heap.size + 1) (W.heap.size + 1) (Lib.byteCells ([] ++ (p.ls.take k).flatMap lkT)) ((0 : Nat) : Int) wr ∧ KW (W.heap.size + 1) (W.heap.size + 1) W2 wr) (fun i _ => nl - (intOf i).toNat)
 case atStart => exact ⟨0,rfl,Nat.zero_le _,by simpa using HW2.out,KW.refl _ _ _⟩
 case round =>
  obtain ⟨k0,rfl,hk,hX,hKx⟩:=hrel
  have HX0:=hid hX
  have HK0:=hid hKx
  have hz0:=hKx.size
  have HLX0:=hid (HL2.out.b hKx.1)
  have hfl0:=flat_le lkT p.ls k0
  have hrow:=hKx.row HW2.out HRl.out (by decide)
  by_cases hkl : k0 < nl
  · obtain ⟨g,cg,hv,hgl,hcell⟩:=own_some hrow (by omega)
    cases hv
    have hlt : (k0 : Int) < (nl : Int):=by omega
    have hk0 : (0 : Int) ≤ (k0 : Int):=Int.natCast_nonneg _
    obtain ⟨x,hx⟩ : ∃ x,p.ls[k0]? = some x:=⟨_,List.getElem?_eq_getElem (by (have:=HN.out;omega))⟩
    have hxm:=List.mem_of_getElem? hx
    have hsu:=flat_succ lkT p.ls k0 x hx
    have hfs:=flat_le lkT p.ls (k0 + 1)
    rw [hsu,List.length_append,HA1.out] at hfs
    have HSU:=hid hsu
    have hln : ([] ++ (p.ls.take k0).flatMap lkT).length + (lkT x).length ≤ 100000000000000:=by (simp only [List.length_append,List.length_nil];omega)
    have d0:=hcell (k0 * 2 + 0) (.int .i64 x.a) (plain_at (f:=lkCells) (n:=2) (fun _ => rfl) p.ls k0 x 0 _ hx rfl)
    rw [Nat.add_zero] at d0
    have d1:=hcell (k0 * 2 + 1) (.string (bstr x.nm)) (plain_at (f:=lkCells) (n:=2) (fun _ => rfl) p.ls k0 x 1 _ hx rfl)
    have hA:=below_of_alloc wr (.cells #[.int .i64 x.a,.string (bstr x.nm)] 66)
    obtain ⟨_,⟨bc0,bc1⟩,_⟩:=(KBlk.new (X:=wr) (n:=wr.heap.size) (a:=x.a) (nm:=bstr x.nm) rfl).facts
    have HCS : Hid ((#[.string ⟨#[108,111,99,107,32]⟩,.string (bstr (x.nm)),.string ⟨#[59]⟩] : Array Value) = ([tLock,x.nm,[59]].map fun p => Value.string (bstr p)).toArray):=hid (by rfl)
    have HTL : lineT 0 [tLock,x.nm,[59]] = lkT x:=rfl
    have HBS:=hid (HX0.out.stay hA)
    have hB9 : W.heap.size + 1 ≤ (wr.alloc (.cells #[.int .i64 x.a,.string (bstr x.nm)] 66)).heap.size:=by (simp;omega)
    clear hX hKx hrow hcell hsu hx hxm hA
    go_wp2_with (go_at_call 20;(with_reducible refine (line_at _ _ _ _ 3 _ 0 [tLock,x.nm,[59]] rfl (lkT x) HTL _ HCS _ (hid (HBS.out.alloc _)) (alloc2_new _ _ _) hln (by (simp;omega)) (by decide)).mono ?_);rintro e9 w9 ⟨rfl,hw9,hk9⟩)
    go_roundw
    case rel =>
     refine ⟨k0 + 1,by go_num,Nat.succ_le_of_lt hkl,?_,HK0.out.trans ((KW.below (by omega) (below_of_alloc wr (.cells #[.int .i64 x.a,.string (bstr x.nm)] 66))).trans ((KW.alloc (.refl _ _ _) hB9 _).trans hk9))⟩
     rw [HSU.out,← List.append_assoc]
     exact hw9
    case measure =>
     simp [intOf]
     omega
  · have hlt : ¬ ((k0 : Int) < (nl : Int)):=by omega
    obtain rfl : nl = k0:=by omega
    have hXe : Wr (W.heap.size + 1) (W.heap.size + 1) (Lib.byteCells A1) ((0 : Nat) : Int) wr:=by (have e : p.ls.take nl = p.ls:=(by rw [← HN.out.2.1];exact List.take_length);rw [e,HA1.out] at hX;first | exact hX | simpa using hX)
    have HE0:=hid hXe
    have HPX0 : Hid (PgBlk wr W.heap.size (.slice z0 ng c0) (.slice z1 nl c1) (.slice z2 nf c2) (.slice z3 nt c3)):=hid (hKx.keep HW2.out HPB.out (by decide))
    obtain ⟨gpl,⟨pc0,pc1,pc2,pc3⟩,_⟩:=HPX0.out.facts
    clear hX hKx hrow hkl hk hXe hfl0
    go_wp2
    go_loopw [27] (fun i wr => ∃ k : Nat,i = .int .i64 k ∧ k ≤ ng ∧ Wr (W.heap.size + 1) (W.heap.size + 1) (Lib.byteCells (A1 ++ (p.gs.take k).flatMap glT)) ((0 : Nat) : Int) wr ∧ KW (W.heap.size + 1) (W.heap.size + 1) W2 wr) (fun i _ => ng - (intOf i).toNat)
    case atStart => exact ⟨0,rfl,Nat.zero_le _,by simpa using HE0.out,HK0.out⟩
    case round =>
     obtain ⟨k1,rfl,hk,hX,hKx⟩:=hrel
     have HX1:=hid hX
     have HK1:=hid hKx
     have hz1:=hKx.size
     have HLX1:=hid (HL2.out.b hKx.1)
     have hfl1:=flat_le glT p.gs k1
     have hrow:=hKx.row HW2.out HRg.out (by decide)
     by_cases hkl : k1 < ng
     · obtain ⟨g,cg,hv,hgl,hcell⟩:=own_some hrow (by omega)
       cases hv
       have hlt : (k1 : Int) < (ng : Int):=by omega
       have hk0 : (0 : Int) ≤ (k1 : Int):=Int.natCast_nonneg _
       obtain ⟨x,hx⟩ : ∃ x,p.gs[k1]? = some x:=⟨_,List.getElem?_eq_getElem (by (have:=HN.out;omega))⟩
       have hxm:=List.mem_of_getElem? hx
       have hsu:=flat_succ glT p.gs k1 x hx
       have hfs:=flat_le glT p.gs (k1 + 1)
       rw [hsu,List.length_append,HA2.out] at hfs
       have HSU:=hid hsu
       have hln : (A1 ++ (p.gs.take k1).flatMap glT).length + (glT x).length ≤ 100000000000000:=by (simp only [List.length_append,List.length_nil];omega)
       have d0:=hcell (k1 * 6 + 0) (.int .i64 x.a) (plain_at (f:=glCells) (n:=6) (fun _ => rfl) p.gs k1 x 0 _ hx rfl)
       rw [Nat.add_zero] at d0
       have d1:=hcell (k1 * 6 + 1) (.string (bstr x.nm)) (plain_at (f:=glCells) (n:=6) (fun _ => rfl) p.gs k1 x 1 _ hx rfl)
       have d2:=hcell (k1 * 6 + 2) (.bool x.tr) (plain_at (f:=glCells) (n:=6) (fun _ => rfl) p.gs k1 x 2 _ hx rfl)
       have d3:=hcell (k1 * 6 + 3) (.bool x.sc) (plain_at (f:=glCells) (n:=6) (fun _ => rfl) p.gs k1 x 3 _ hx rfl)
       have d4:=hcell (k1 * 6 + 4) (.int .i64 x.len) (plain_at (f:=glCells) (n:=6) (fun _ => rfl) p.gs k1 x 4 _ hx rfl)
       have d5:=hcell (k1 * 6 + 5) (.string (bstr x.by_)) (plain_at (f:=glCells) (n:=6) (fun _ => rfl) p.gs k1 x 5 _ hx rfl)
       have hA:=below_of_alloc wr (.cells #[.int .i64 x.a,.string (bstr x.nm),.bool x.tr,.bool x.sc,.int .i64 x.len,.string (bstr x.by_)] 39)
       have hgg:=HHY.out.1 x hxm
       obtain ⟨_,⟨bc0,bc1,bc2,bc3,bc4,bc5⟩,_⟩:=(GBlk.new (X:=wr) (n:=wr.heap.size) (a:=x.a) (nm:=bstr x.nm) (tr:=x.tr) (sc:=x.sc) (ln:=x.len) (yy:=bstr x.by_) rfl).facts
       have hG0:=GBlk.new (X:=wr) (n:=wr.heap.size) (a:=x.a) (nm:=bstr x.nm) (tr:=x.tr) (sc:=x.sc) (ln:=x.len) (yy:=bstr x.by_) rfl
       have HCS : Hid ((#[.string (bstr (typeT x.tr x.sc)),.string ⟨#[32]⟩,.string (bstr (x.nm)),.string (bstr (lenT x.len)),.string (bstr (byT x.by_)),.string ⟨#[59]⟩] : Array Value) = ([typeT x.tr x.sc,[32],x.nm,lenT x.len,byT x.by_,[59]].map fun p => Value.string (bstr p)).toArray):=hid (by rfl)
       have HTG : lineT 0 [typeT x.tr x.sc,[32],x.nm,lenT x.len,byT x.by_,[59]] = glT x:=rfl
       have HBS:=hid (HX1.out.stay hA)
       have HLL:=hid (HLX1.out.laid.below hA)
       clear hX hKx hrow hcell hsu hx hxm
       go_upto_region 10 with (fail)
       clear bc0 bc1 bc2 bc3 bc4 bc5 d0 d1 d2 d3 d4 d5
       refine name_world ?_
       intro W1 hW1
       rw [← hW1] at hG0 HBS HLL hA
       clear hW1
       have SB:=hid hG0
       have HAA:=hid hA
       have hB9 : W.heap.size + 1 ≤ W1.heap.size:=Nat.le_trans (by omega) hA.size
       clear hG0 hA
       refine name_act ?_
       intro a0 ha0
       have p7 : a0.tmps.getD 7 undef = .pointer (some ⟨wr.heap.size,0,none⟩):=by (rw [ha0];rfl)
       have p3 : a0.tmps.getD 3 undef = .pointer (some ⟨W.heap.size + 1,0,none⟩):=by (rw [ha0];rfl)
       have q1 : a0.tmps.size = 66:=by (rw [ha0];rfl)
       have q2 : a0.defers = []:=by (rw [ha0])
       have HA0:=hid ha0
       clear ha0
       obtain ⟨VS,hVS⟩ : ∃ VS : List (Option Value),VS = [some (.pointer (some ⟨wr.heap.size,2,none⟩)),some (.agg #[.bool x.tr,.bool x.sc]),some (.string (bstr (typeT x.tr x.sc))),some (.pointer (some ⟨wr.heap.size,1,none⟩)),some (.string (bstr x.nm)),some (.agg #[.int .i64 x.a,.string (bstr x.nm),.bool x.tr,.bool x.sc,.int .i64 x.len,.string (bstr x.by_)]),some (.string (bstr (lenT x.len))),some (.agg #[.int .i64 x.a,.string (bstr x.nm),.bool x.tr,.bool x.sc,.int .i64 x.len,.string (bstr x.by_)]),some (.string (bstr (byT x.by_))),none,none]:=⟨_,rfl⟩
       obtain ⟨ARR,hARR⟩ : ∃ A : Array Value,A = #[.string (bstr (typeT x.tr x.sc)),.string ⟨#[32]⟩,.string (bstr (x.nm)),.string (bstr (lenT x.len)),.string (bstr (byT x.by_)),.string ⟨#[59]⟩]:=⟨_,rfl⟩
       have HCSA : Hid (ARR = ([typeT x.tr x.sc,[32],x.nm,lenT x.len,byT x.by_,[59]].map fun p => Value.string (bstr p)).toArray):=hid (hARR.trans HCS.out)
       have hRst : ∀ X X' : World,Below X.heap.size X X' → (Wr (W.heap.size + 1) (W.heap.size + 1) (Lib.byteCells (A1 ++ (p.gs.take k1).flatMap glT ++ glT x)) ((0 : Nat) : Int) X ∧ KW (W.heap.size + 1) (W.heap.size + 1) W1 X) → (Wr (W.heap.size + 1) (W.heap.size + 1) (Lib.byteCells (A1 ++ (p.gs.take k1).flatMap glT ++ glT x)) ((0 : Nat) : Int) X' ∧ KW (W.heap.size + 1) (W.heap.size + 1) W1 X'):=fun X X' hb h => ⟨h.1.stay hb,h.2.stay (Nat.le_trans hB9 h.2.size) hb⟩
       refine wp_region_any (by kernel_rfl) ?_
       refine wpAny_inv (fun listed a X => GI VS a0.tmps W1 ARR (fun X => Wr (W.heap.size + 1) (W.heap.size + 1) (Lib.byteCells (A1 ++ (p.gs.take k1).flatMap glT ++ glT x)) ((0 : Nat) : Int) X ∧ KW (W.heap.size + 1) (W.heap.size + 1) W1 X) listed a X) ?step ?fin _ _ _ _ ⟨⟨rfl,q1,q2,fun d _ => rfl,fun k v hk _ hl => absurd ((noneG k hk).symm.trans hl) (by simp)⟩,.inl ⟨by rfl,(Below.refl _ _).drew,fun h => absurd ((noneG 9 (by decide)).symm.trans h) (by simp)⟩⟩ (by rfl) (by decide)
       case fin =>
        intro listed a X hI hr
        have hl:=all_came (by rw [hI.ins.size];rfl) hr (by decide +kernel)
        have hR:=hI.wd.elim (fun h => absurd (h.1.symm.trans (hl 10 (by decide))) (by simp)) (fun h => h.2)
        have hold:=hI.ins.old
        have hsz:=hI.ins.tsz
        have hdf:=hI.ins.defs
        obtain ⟨hw9,hk9⟩:=hR
        have hlit:=arr66 a.tmps hsz
        have t0 : a.tmps.getD 0 undef = .agg #[.slice (some ⟨g,0,none⟩) ng c0,.slice z1 nl c1,.slice z2 nf c2,.slice z3 nt c3]:=(hold 0 (by intro k hk;unfold dstG;omega)).trans (by rw [HA0.out];rfl)
        have t1 : a.tmps.getD 1 undef = .pointer (some ⟨W.heap.size,0,none⟩):=(hold 1 (by intro k hk;unfold dstG;omega)).trans (by rw [HA0.out];rfl)
        have t2 : a.tmps.getD 2 undef = .string ⟨#[]⟩:=(hold 2 (by intro k hk;unfold dstG;omega)).trans (by rw [HA0.out];rfl)
        have t3 : a.tmps.getD 3 undef = .pointer (some ⟨W.heap.size + 1,0,none⟩):=(hold 3 (by intro k hk;unfold dstG;omega)).trans (by rw [HA0.out];rfl)
        have t4 : a.tmps.getD 4 undef = undef:=(hold 4 (by intro k hk;unfold dstG;omega)).trans (by rw [HA0.out];rfl)
        have t5 : a.tmps.getD 5 undef = u5:=(hold 5 (by intro k hk;unfold dstG;omega)).trans (by rw [HA0.out];rfl)
        have t6 : a.tmps.getD 6 undef = undef:=(hold 6 (by intro k hk;unfold dstG;omega)).trans (by rw [HA0.out];rfl)
        have t7 : a.tmps.getD 7 undef = .pointer (some ⟨wr.heap.size,0,none⟩):=(hold 7 (by intro k hk;unfold dstG;omega)).trans (by rw [HA0.out];rfl)
        have t8 : a.tmps.getD 8 undef = undef:=(hold 8 (by intro k hk;unfold dstG;omega)).trans (by rw [HA0.out];rfl)
        have t9 : a.tmps.getD 9 undef = undef:=(hold 9 (by intro k hk;unfold dstG;omega)).trans (by rw [HA0.out];rfl)
        have t10 : a.tmps.getD 10 undef = undef:=(hold 10 (by intro k hk;unfold dstG;omega)).trans (by rw [HA0.out];rfl)
        have t11 : a.tmps.getD 11 undef = undef:=(hold 11 (by intro k hk;unfold dstG;omega)).trans (by rw [HA0.out];rfl)
        have t12 : a.tmps.getD 12 undef = .pointer (some ⟨W.heap.size,1,none⟩):=(hold 12 (by intro k hk;unfold dstG;omega)).trans (by rw [HA0.out];rfl)
        have t13 : a.tmps.getD 13 undef = .slice z1 nl c1:=(hold 13 (by intro k hk;unfold dstG;omega)).trans (by rw [HA0.out];rfl)
        have t14 : a.tmps.getD 14 undef = .int .i64 nl:=(hold 14 (by intro k hk;unfold dstG;omega)).trans (by rw [HA0.out];rfl)
        have t15 : a.tmps.getD 15 undef = .int .i64 nl:=(hold 15 (by intro k hk;unfold dstG;omega)).trans (by rw [HA0.out];rfl)
        have t16 : a.tmps.getD 16 undef = .bool false:=(hold 16 (by intro k hk;unfold dstG;omega)).trans (by rw [HA0.out];rfl)
        have t17 : a.tmps.getD 17 undef = u17:=(hold 17 (by intro k hk;unfold dstG;omega)).trans (by rw [HA0.out];rfl)
        have t18 : a.tmps.getD 18 undef = u18:=(hold 18 (by intro k hk;unfold dstG;omega)).trans (by rw [HA0.out];rfl)
        have t19 : a.tmps.getD 19 undef = u19:=(hold 19 (by intro k hk;unfold dstG;omega)).trans (by rw [HA0.out];rfl)
        have t20 : a.tmps.getD 20 undef = u20:=(hold 20 (by intro k hk;unfold dstG;omega)).trans (by rw [HA0.out];rfl)
        have t21 : a.tmps.getD 21 undef = u21:=(hold 21 (by intro k hk;unfold dstG;omega)).trans (by rw [HA0.out];rfl)
        have t22 : a.tmps.getD 22 undef = u22:=(hold 22 (by intro k hk;unfold dstG;omega)).trans (by rw [HA0.out];rfl)
        have t23 : a.tmps.getD 23 undef = u23:=(hold 23 (by intro k hk;unfold dstG;omega)).trans (by rw [HA0.out];rfl)
        have t24 : a.tmps.getD 24 undef = .pointer (some ⟨W.heap.size,0,none⟩):=(hold 24 (by intro k hk;unfold dstG;omega)).trans (by rw [HA0.out];rfl)
        have t25 : a.tmps.getD 25 undef = .slice (some ⟨g,0,none⟩) ng c0:=(hold 25 (by intro k hk;unfold dstG;omega)).trans (by rw [HA0.out];rfl)
        have t26 : a.tmps.getD 26 undef = .int .i64 ng:=(hold 26 (by intro k hk;unfold dstG;omega)).trans (by rw [HA0.out];rfl)
        have t27 : a.tmps.getD 27 undef = .int .i64 k1:=(hold 27 (by intro k hk;unfold dstG;omega)).trans (by rw [HA0.out];rfl)
        have t28 : a.tmps.getD 28 undef = .bool true:=(hold 28 (by intro k hk;unfold dstG;omega)).trans (by rw [HA0.out];rfl)
        have t29 : a.tmps.getD 29 undef = .pointer (some ⟨g,k1 * 6,none⟩):=(hold 29 (by intro k hk;unfold dstG;omega)).trans (by rw [HA0.out];rfl)
        have t30 : a.tmps.getD 30 undef = .agg #[.int .i64 x.a,.string (bstr x.nm),.bool x.tr,.bool x.sc,.int .i64 x.len,.string (bstr x.by_)]:=(hold 30 (by intro k hk;unfold dstG;omega)).trans (by rw [HA0.out];rfl)
        have t42 : a.tmps.getD 42 undef = u42:=(hold 42 (by intro k hk;unfold dstG;omega)).trans (by rw [HA0.out];rfl)
        have t43 : a.tmps.getD 43 undef = undef:=(hold 43 (by intro k hk;unfold dstG;omega)).trans (by rw [HA0.out];rfl)
        have t44 : a.tmps.getD 44 undef = undef:=(hold 44 (by intro k hk;unfold dstG;omega)).trans (by rw [HA0.out];rfl)
        have t45 : a.tmps.getD 45 undef = undef:=(hold 45 (by intro k hk;unfold dstG;omega)).trans (by rw [HA0.out];rfl)
        have t46 : a.tmps.getD 46 undef = undef:=(hold 46 (by intro k hk;unfold dstG;omega)).trans (by rw [HA0.out];rfl)
        have t47 : a.tmps.getD 47 undef = undef:=(hold 47 (by intro k hk;unfold dstG;omega)).trans (by rw [HA0.out];rfl)
        have t48 : a.tmps.getD 48 undef = undef:=(hold 48 (by intro k hk;unfold dstG;omega)).trans (by rw [HA0.out];rfl)
        have t49 : a.tmps.getD 49 undef = undef:=(hold 49 (by intro k hk;unfold dstG;omega)).trans (by rw [HA0.out];rfl)
        have t50 : a.tmps.getD 50 undef = undef:=(hold 50 (by intro k hk;unfold dstG;omega)).trans (by rw [HA0.out];rfl)
        have t51 : a.tmps.getD 51 undef = undef:=(hold 51 (by intro k hk;unfold dstG;omega)).trans (by rw [HA0.out];rfl)
        have t52 : a.tmps.getD 52 undef = undef:=(hold 52 (by intro k hk;unfold dstG;omega)).trans (by rw [HA0.out];rfl)
        have t53 : a.tmps.getD 53 undef = undef:=(hold 53 (by intro k hk;unfold dstG;omega)).trans (by rw [HA0.out];rfl)
        have t54 : a.tmps.getD 54 undef = undef:=(hold 54 (by intro k hk;unfold dstG;omega)).trans (by rw [HA0.out];rfl)
        have t55 : a.tmps.getD 55 undef = undef:=(hold 55 (by intro k hk;unfold dstG;omega)).trans (by rw [HA0.out];rfl)
        have t56 : a.tmps.getD 56 undef = undef:=(hold 56 (by intro k hk;unfold dstG;omega)).trans (by rw [HA0.out];rfl)
        have t57 : a.tmps.getD 57 undef = undef:=(hold 57 (by intro k hk;unfold dstG;omega)).trans (by rw [HA0.out];rfl)
        have t58 : a.tmps.getD 58 undef = undef:=(hold 58 (by intro k hk;unfold dstG;omega)).trans (by rw [HA0.out];rfl)
        have t59 : a.tmps.getD 59 undef = undef:=(hold 59 (by intro k hk;unfold dstG;omega)).trans (by rw [HA0.out];rfl)
        have t60 : a.tmps.getD 60 undef = undef:=(hold 60 (by intro k hk;unfold dstG;omega)).trans (by rw [HA0.out];rfl)
        have t61 : a.tmps.getD 61 undef = undef:=(hold 61 (by intro k hk;unfold dstG;omega)).trans (by rw [HA0.out];rfl)
        have t62 : a.tmps.getD 62 undef = undef:=(hold 62 (by intro k hk;unfold dstG;omega)).trans (by rw [HA0.out];rfl)
        have t63 : a.tmps.getD 63 undef = undef:=(hold 63 (by intro k hk;unfold dstG;omega)).trans (by rw [HA0.out];rfl)
        have t64 : a.tmps.getD 64 undef = undef:=(hold 64 (by intro k hk;unfold dstG;omega)).trans (by rw [HA0.out];rfl)
        have t65 : a.tmps.getD 65 undef = undef:=(hold 65 (by intro k hk;unfold dstG;omega)).trans (by rw [HA0.out];rfl)
        rw [t0,t1,t2,t3,t4,t5,t6,t7,t8,t9,t10,t11,t12,t13,t14,t15,t16,t17,t18,t19,t20,t21,t22,t23,t24,t25,t26,t27,t28,t29,t30,t42,t43,t44,t45,t46,t47,t48,t49,t50,t51,t52,t53,t54,t55,t56,t57,t58,t59,t60,t61,t62,t63,t64,t65] at hlit
        clear t0 t1 t2 t3 t4 t5 t6 t7 t8 t9 t10 t11 t12 t13 t14 t15 t16 t17 t18 t19 t20 t21 t22 t23 t24 t25 t26 t27 t28 t29 t30 t42 t43 t44 t45 t46 t47 t48 t49 t50 t51 t52 t53 t54 t55 t56 t57 t58 t59 t60 t61 t62 t63 t64 t65 hold
        generalize a.tmps.getD 31 undef = r31 at hlit
        generalize a.tmps.getD 32 undef = r32 at hlit
        generalize a.tmps.getD 33 undef = r33 at hlit
        generalize a.tmps.getD 34 undef = r34 at hlit
        generalize a.tmps.getD 35 undef = r35 at hlit
        generalize a.tmps.getD 36 undef = r36 at hlit
        generalize a.tmps.getD 37 undef = r37 at hlit
        generalize a.tmps.getD 38 undef = r38 at hlit
        generalize a.tmps.getD 39 undef = r39 at hlit
        generalize a.tmps.getD 40 undef = r40 at hlit
        generalize a.tmps.getD 41 undef = r41 at hlit
        have ha : a = { tmps:=#[.agg #[.slice (some ⟨g,0,none⟩) ng c0,.slice z1 nl c1,.slice z2 nf c2,.slice z3 nt c3],.pointer (some ⟨W.heap.size,0,none⟩),.string ⟨#[]⟩,.pointer (some ⟨W.heap.size + 1,0,none⟩),undef,u5,undef,.pointer (some ⟨wr.heap.size,0,none⟩),undef,undef,undef,undef,.pointer (some ⟨W.heap.size,1,none⟩),.slice z1 nl c1,.int .i64 nl,.int .i64 nl,.bool false,u17,u18,u19,u20,u21,u22,u23,.pointer (some ⟨W.heap.size,0,none⟩),.slice (some ⟨g,0,none⟩) ng c0,.int .i64 ng,.int .i64 k1,.bool true,.pointer (some ⟨g,k1 * 6,none⟩),.agg #[.int .i64 x.a,.string (bstr x.nm),.bool x.tr,.bool x.sc,.int .i64 x.len,.string (bstr x.by_)],r31,r32,r33,r34,r35,r36,r37,r38,r39,r40,r41,u42,undef,undef,undef,undef,undef,undef,undef,undef,undef,undef,undef,undef,undef,undef,undef,undef,undef,undef,undef,undef,undef,undef,undef],defers:=[] }:=by (cases a;simp only at hlit hdf;rw [hlit,hdf])
        rw [ha]
        clear ha hlit hdf hsz hl hr hI HA0 p7 p3 q1 q2 hVS hARR HCSA hRst
        go_wp2
        go_roundw
        case rel =>
         refine ⟨k1 + 1,by go_num,Nat.succ_le_of_lt hkl,?_,HK1.out.trans ((KW.below (by omega) HAA.out).trans hk9)⟩
         rw [HSU.out,← List.append_assoc]
         exact hw9
        case measure =>
         simp [intOf]
         omega
       case step =>
        intro listed a X k hI hk
        have hlt : k < 11:=List.mem_range.1 (List.mem_filter.1 hk).1
        have hk2:=(List.mem_filter.1 hk).2
        have hls : listed.size = 11:=hI.ins.size
        have o7 : a.eval (.tmp 7) = .pointer (some ⟨wr.heap.size,0,none⟩):=(hI.ins.old 7 (by intro k hk;unfold dstG;omega)).trans p7
        have o3 : a.eval (.tmp 3) = .pointer (some ⟨W.heap.size + 1,0,none⟩):=(hI.ins.old 3 (by intro k hk;unfold dstG;omega)).trans p3
        have hBX : GBlk X wr.heap.size x.a (bstr x.nm) x.tr x.sc x.len (bstr x.by_):=hI.wd.elim (fun h => SB.out.stay h.2.1) (fun h => h.2.2.keep HBS.out SB.out (by decide))
        obtain ⟨gl9,⟨bc0,bc1,bc2,bc3,bc4,bc5⟩,_⟩:=hBX.facts
        have hLX : Laid X:=hI.wd.elim (fun h => HLL.out.below h.2.1) (fun h => ((HLX1.out.b (HAA.out.mono (by omega))).b h.2.2.1).laid)
        have hcase : k = 0 ∨ k = 1 ∨ k = 2 ∨ k = 3 ∨ k = 4 ∨ k = 5 ∨ k = 6 ∨ k = 7 ∨ k = 8 ∨ k = 9 ∨ k = 10:=by omega
        rcases hcase with rfl | rfl | rfl | rfl | rfl | rfl | rfl | rfl | rfl | rfl | rfl
        · refine wpOp_of rfl rfl ?_
          exact wp_val (v:=.pointer (some ⟨wr.heap.size,2,none⟩)) (run_fieldAddr rfl o7 (by go_simp)) (hI.put 0 31 _ (by decide) rfl (fun u e => by (rw [hVS] at e;cases e;rfl)) (Below.refl _ _) id)
        · have hd0 : listed.getD 0 false = true:=by simp [Region.binds] at hk2;simp only [Array.getD_eq_getD_getElem?];simp [hk2]
          have e0 : a.eval (.tmp 31) = .pointer (some ⟨wr.heap.size,2,none⟩):=hI.ins.new 0 _ (by decide) (by rw [hVS];rfl) hd0
          refine wpOp_of rfl rfl ?_
          exact wp_val (v:=.agg #[.bool x.tr,.bool x.sc]) (run_load rfl e0 (by go_simp)) (hI.put 1 32 _ (by decide) rfl (fun u e => by (rw [hVS] at e;cases e;rfl)) (Below.refl _ _) id)
        · have hd1 : listed.getD 1 false = true:=by simp [Region.binds] at hk2;simp only [Array.getD_eq_getD_getElem?];simp [hk2]
          have e1 : a.eval (.tmp 32) = .agg #[.bool x.tr,.bool x.sc]:=hI.ins.new 1 _ (by decide) (by rw [hVS];rfl) hd1
          refine wpOp_of rfl rfl ?_
          refine wp_enter (f:=13) (args:=#[a.eval (.tmp 32)]) ((Go.Conc.run_call_body rfl Tryd.func13 (by kernel_rfl) (by kernel_rfl)).trans (by simp)) ?_
          rw [e1]
          refine (type_any x.tr x.sc X).mono ?_
          rintro e w' ⟨rfl,hb⟩
          exact ⟨.string (bstr (typeT x.tr x.sc)),rfl,hI.put 2 33 _ (by decide) rfl (fun u e => by (rw [hVS] at e;cases e;rfl)) hb (hRst _ _ hb)⟩
        · refine wpOp_of rfl rfl ?_
          exact wp_val (v:=.pointer (some ⟨wr.heap.size,1,none⟩)) (run_fieldAddr rfl o7 (by go_simp)) (hI.put 3 34 _ (by decide) rfl (fun u e => by (rw [hVS] at e;cases e;rfl)) (Below.refl _ _) id)
        · have hd3 : listed.getD 3 false = true:=by simp [Region.binds] at hk2;simp only [Array.getD_eq_getD_getElem?];simp [hk2]
          have e3 : a.eval (.tmp 34) = .pointer (some ⟨wr.heap.size,1,none⟩):=hI.ins.new 3 _ (by decide) (by rw [hVS];rfl) hd3
          refine wpOp_of rfl rfl ?_
          exact wp_val (v:=.string (bstr x.nm)) (run_load rfl e3 (by go_simp)) (hI.put 4 35 _ (by decide) rfl (fun u e => by (rw [hVS] at e;cases e;rfl)) (Below.refl _ _) id)
        · refine wpOp_of rfl rfl ?_
          exact wp_val (v:=.agg #[.int .i64 x.a,.string (bstr x.nm),.bool x.tr,.bool x.sc,.int .i64 x.len,.string (bstr x.by_)]) (run_load rfl o7 (by go_simp)) (hI.put 5 36 _ (by decide) rfl (fun u e => by (rw [hVS] at e;cases e;rfl)) (Below.refl _ _) id)
        · have hd5 : listed.getD 5 false = true:=by simp [Region.binds] at hk2;simp only [Array.getD_eq_getD_getElem?];simp [hk2]
          have e5 : a.eval (.tmp 36) = .agg #[.int .i64 x.a,.string (bstr x.nm),.bool x.tr,.bool x.sc,.int .i64 x.len,.string (bstr x.by_)]:=hI.ins.new 5 _ (by decide) (by rw [hVS];rfl) hd5
          refine wpOp_of rfl rfl ?_
          refine wp_enter (f:=21) (args:=#[a.eval (.tmp 36)]) ((Go.Conc.run_call_body rfl Tryd.func21 (by kernel_rfl) (by kernel_rfl)).trans (by simp)) ?_
          rw [e5]
          refine (length_any x.a (bstr x.nm) x.tr x.sc x.len (bstr x.by_) hgg.2.2.1 hgg.2.2.2 X (hid hLX)).mono ?_
          rintro e w' ⟨rfl,hb⟩
          exact ⟨.string (bstr (lenT x.len)),rfl,hI.put 6 37 _ (by decide) rfl (fun u e => by (rw [hVS] at e;cases e;rfl)) hb (hRst _ _ hb)⟩
        · refine wpOp_of rfl rfl ?_
          exact wp_val (v:=.agg #[.int .i64 x.a,.string (bstr x.nm),.bool x.tr,.bool x.sc,.int .i64 x.len,.string (bstr x.by_)]) (run_load rfl o7 (by go_simp)) (hI.put 7 38 _ (by decide) rfl (fun u e => by (rw [hVS] at e;cases e;rfl)) (Below.refl _ _) id)
        · have hd7 : listed.getD 7 false = true:=by simp [Region.binds] at hk2;simp only [Array.getD_eq_getD_getElem?];simp [hk2]
          have e7 : a.eval (.tmp 38) = .agg #[.int .i64 x.a,.string (bstr x.nm),.bool x.tr,.bool x.sc,.int .i64 x.len,.string (bstr x.by_)]:=hI.ins.new 7 _ (by decide) (by rw [hVS];rfl) hd7
          refine wpOp_of rfl rfl ?_
          refine wp_enter (f:=22) (args:=#[a.eval (.tmp 38)]) ((Go.Conc.run_call_body rfl Tryd.func22 (by kernel_rfl) (by kernel_rfl)).trans (by simp)) ?_
          rw [e7]
          refine (guard_any x.a (bstr x.nm) x.tr x.sc x.len x.by_ hgg.2.1 X).mono ?_
          rintro e w' ⟨rfl,hb⟩
          exact ⟨.string (bstr (byT x.by_)),rfl,hI.put 8 39 _ (by decide) rfl (fun u e => by (rw [hVS] at e;cases e;rfl)) hb (hRst _ _ hb)⟩
        · have hd2 : listed.getD 2 false = true:=by simp [Region.binds] at hk2;simp only [Array.getD_eq_getD_getElem?];simp [hk2]
          have e2 : a.eval (.tmp 33) = .string (bstr (typeT x.tr x.sc)):=hI.ins.new 2 _ (by decide) (by rw [hVS];rfl) hd2
          have hd4 : listed.getD 4 false = true:=by simp [Region.binds] at hk2;simp only [Array.getD_eq_getD_getElem?];simp [hk2]
          have e4 : a.eval (.tmp 35) = .string (bstr x.nm):=hI.ins.new 4 _ (by decide) (by rw [hVS];rfl) hd4
          have hd6 : listed.getD 6 false = true:=by simp [Region.binds] at hk2;simp only [Array.getD_eq_getD_getElem?];simp [hk2]
          have e6 : a.eval (.tmp 37) = .string (bstr (lenT x.len)):=hI.ins.new 6 _ (by decide) (by rw [hVS];rfl) hd6
          have hd8 : listed.getD 8 false = true:=by simp [Region.binds] at hk2;simp only [Array.getD_eq_getD_getElem?];simp [hk2]
          have e8 : a.eval (.tmp 39) = .string (bstr (byT x.by_)):=hI.ins.new 8 _ (by decide) (by rw [hVS];rfl) hd8
          refine wpOp_of rfl rfl ?_
          refine wp_val9 ?_ (hI.nine hls (by rw [hVS];rfl) (hRst _ _ (below_of_alloc _ _)))
          refine run_build (t:=95) (n:=6) rfl ?_
          rw [hARR]
          simp [e2,e4,e6,e8]
          go_simp
        · have hd9 : listed.getD 9 false = true:=by simp [Region.binds] at hk2;simp only [Array.getD_eq_getD_getElem?];simp [hk2]
          refine wpOp_of rfl rfl ?_
          have hl10 : listed.getD 10 false = false:=by (have h9:=(mem_ready.1 hk).1;rw [Array.getD_eq_getD_getElem?] at h9 ⊢;rw [Array.getElem?_eq_getElem (by omega)] at h9 ⊢;exact h9)
          obtain ⟨hXb,g9,e9,hrow9⟩ : Below W1.heap.size W1 X ∧ ∃ g,a.tmps.getD 40 undef = .slice (some ⟨g,0,none⟩) 6 6 ∧ X.heap[g]? = some (.cells ARR 9 (0,0)):=hI.wd.elim (fun h => ⟨h.2.1,h.2.2 hd9⟩) (fun h => absurd (hl10.symm.trans h.1) (by simp))
          have e40 : a.eval (.tmp 40) = .slice (some ⟨g9,0,none⟩) 6 6:=e9
          refine wp_enter (f:=20) (args:=#[a.eval (.tmp 3),a.eval (.tmp 40)]) ((Go.Conc.run_call_body rfl Tryd.func20 (by kernel_rfl) (by kernel_rfl)).trans (by simp)) ?_
          rw [o3,e40]
          refine (line_at _ _ g9 6 6 _ 0 [typeT x.tr x.sc,[32],x.nm,lenT x.len,byT x.by_,[59]] rfl (glT x) HTG ARR HCSA X (hid (HBS.out.stay hXb)) hrow9 hln (Nat.le_trans hB9 hXb.size) (by decide)).mono ?_
          rintro e w' ⟨rfl,hw,hk⟩
          exact ⟨_,rfl,hI.ten hls _ (by rw [hVS];rfl) ⟨hw,(KW.below hB9 hXb).trans hk⟩⟩
     · have hlt : ¬ ((k1 : Int) < (ng : Int)):=by omega
       obtain rfl : ng = k1:=by omega
       have hXe : Wr (W.heap.size + 1) (W.heap.size + 1) (Lib.byteCells (A1 ++ A2)) ((0 : Nat) : Int) wr:=by (have e : p.gs.take ng = p.gs:=(by rw [← HN.out.1];exact List.take_length);rw [e,HA2.out] at hX;first | exact hX | simpa using hX)
       have HE1:=hid hXe
       have HPX1 : Hid (PgBlk wr W.heap.size (.slice z0 ng c0) (.slice z1 nl c1) (.slice z2 nf c2) (.slice z3 nt c3)):=hid (hKx.keep HW2.out HPB.out (by decide))
       obtain ⟨gpl,⟨pc0,pc1,pc2,pc3⟩,_⟩:=HPX1.out.facts
       clear hX hKx hrow hkl hk hXe hfl1
       go_wp2
       go_loopw [46] (fun i wr => ∃ k : Nat,i = .int .i64 k ∧ k ≤ nf ∧ Wr (W.heap.size + 1) (W.heap.size + 1) (Lib.byteCells ((A1 ++ A2) ++ (p.fs.take k).flatMap fnT)) ((0 : Nat) : Int) wr ∧ KW (W.heap.size + 1) (W.heap.size + 1) W2 wr) (fun i _ => nf - (intOf i).toNat)
       case atStart => exact ⟨0,rfl,Nat.zero_le _,by simpa using HE1.out,HK1.out⟩
       case round =>
        obtain ⟨k2,rfl,hk,hX,hKx⟩:=hrel
        have HX2:=hid hX
        have HK2:=hid hKx
        have hz2:=hKx.size
        have HLX2:=hid (HL2.out.b hKx.1)
        have hfl2:=flat_le fnT p.fs k2
        have hrow:=hKx.row HW2.out HRf.out (by decide)
        by_cases hkl : k2 < nf
        · obtain ⟨g,cg,hv,hgl,hcell⟩:=own_some hrow (by omega)
          cases hv
          have hlt : (k2 : Int) < (nf : Int):=by omega
          have hk0 : (0 : Int) ≤ (k2 : Int):=Int.natCast_nonneg _
          obtain ⟨q,hq⟩ : ∃ q,rf[k2]? = some q:=⟨_,List.getElem?_eq_getElem (by (have:=HN.out;have e:=congrArg List.length HRX.out.2.2.1;rw [List.length_map] at e;omega))⟩
          obtain ⟨x,fv⟩:=q
          have hx : p.fs[k2]? = some x:=by (rw [← HRX.out.2.2.1,List.getElem?_map,hq];rfl)
          have hxm:=List.mem_of_getElem? hx
          have hsu:=flat_succ fnT p.fs k2 x hx
          have hfs:=flat_le fnT p.fs (k2 + 1)
          rw [hsu,List.length_append,HA3.out] at hfs
          have HSU:=hid hsu
          have hln : ((A1 ++ A2) ++ (p.fs.take k2).flatMap fnT).length + (fnT x).length ≤ 100000000000000:=by (simp only [List.length_append,List.length_nil];omega)
          have hI:=HRX.out.1 _ (List.mem_of_getElem? hq)
          obtain ⟨⟨fz0,fk0,e0⟩,_⟩:=hI.1
          obtain ⟨fz1,fk1,e1⟩:=hI.2.1.form
          obtain ⟨fz2,fk2,e2⟩:=hI.2.2.form
          obtain ⟨fy0,hy0⟩ : ∃ y,x.ps.length = y:=⟨_,rfl⟩
          obtain ⟨fy1,hy1⟩ : ∃ y,x.bd.length = y:=⟨_,rfl⟩
          obtain ⟨fy2,hy2⟩ : ∃ y,x.ret.ks.length = y:=⟨_,rfl⟩
          simp only at e0 e1 e2 hI
          rw [hy0] at e0
          rw [hy1] at e1
          rw [hy2] at e2
          obtain ⟨fp,fb,fk⟩:=fv
          simp only at e0 e1 e2
          subst e0 e1 e2
          have d0:=hcell (k2 * 12 + 0) (.int .i64 x.a) (plain_at (f:=fun p : Fn × FV => fnCells p.1 p.2) (n:=12) (fun _ => rfl) rf k2 _ 0 _ hq rfl)
          rw [Nat.add_zero] at d0
          have d1:=hcell (k2 * 12 + 1) (.string (bstr x.nm)) (plain_at (f:=fun p : Fn × FV => fnCells p.1 p.2) (n:=12) (fun _ => rfl) rf k2 _ 1 _ hq rfl)
          have d2:=hcell (k2 * 12 + 2) (.slice fz0 fy0 fk0) (plain_at (f:=fun p : Fn × FV => fnCells p.1 p.2) (n:=12) (fun _ => rfl) rf k2 _ 2 _ hq rfl)
          have d3:=hcell (k2 * 12 + 3) (.bool x.tr) (plain_at (f:=fun p : Fn × FV => fnCells p.1 p.2) (n:=12) (fun _ => rfl) rf k2 _ 3 _ hq rfl)
          have d4:=hcell (k2 * 12 + 4) (.bool x.sc) (plain_at (f:=fun p : Fn × FV => fnCells p.1 p.2) (n:=12) (fun _ => rfl) rf k2 _ 4 _ hq rfl)
          have d5:=hcell (k2 * 12 + 5) (.slice fz1 fy1 fk1) (plain_at (f:=fun p : Fn × FV => fnCells p.1 p.2) (n:=12) (fun _ => rfl) rf k2 _ 5 _ hq rfl)
          have d6:=hcell (k2 * 12 + 6) (.int .i64 x.ret.k) (plain_at (f:=fun p : Fn × FV => fnCells p.1 p.2) (n:=12) (fun _ => rfl) rf k2 _ 6 _ hq rfl)
          have d7:=hcell (k2 * 12 + 7) (.int .i64 x.ret.op) (plain_at (f:=fun p : Fn × FV => fnCells p.1 p.2) (n:=12) (fun _ => rfl) rf k2 _ 7 _ hq rfl)
          have d8:=hcell (k2 * 12 + 8) (.int .i64 x.ret.n) (plain_at (f:=fun p : Fn × FV => fnCells p.1 p.2) (n:=12) (fun _ => rfl) rf k2 _ 8 _ hq rfl)
          have d9:=hcell (k2 * 12 + 9) (.string (bstr x.ret.nm)) (plain_at (f:=fun p : Fn × FV => fnCells p.1 p.2) (n:=12) (fun _ => rfl) rf k2 _ 9 _ hq rfl)
          have d10:=hcell (k2 * 12 + 10) (.slice fz2 fy2 fk2) (plain_at (f:=fun p : Fn × FV => fnCells p.1 p.2) (n:=12) (fun _ => rfl) rf k2 _ 10 _ hq rfl)
          have d11:=hcell (k2 * 12 + 11) (.int .i64 x.ret.a) (plain_at (f:=fun p : Fn × FV => fnCells p.1 p.2) (n:=12) (fun _ => rfl) rf k2 _ 11 _ hq rfl)
          have hA:=below_of_alloc wr (.cells #[.int .i64 x.a,.string (bstr x.nm),.slice fz0 fy0 fk0,.bool x.tr,.bool x.sc,.slice fz1 fy1 fk1,.int .i64 x.ret.k,.int .i64 x.ret.op,.int .i64 x.ret.n,.string (bstr x.ret.nm),.slice fz2 fy2 fk2,.int .i64 x.ret.a] 73)
          obtain ⟨_,⟨bc0,bc1,bc2,bc3,bc4,bc5,bc6,bc7,bc8,bc9,bc10,bc11⟩,_⟩:=(FBlk.new (X:=wr) (b:=wr.heap.size) (a:=x.a) (nm:=bstr x.nm) (pv:=.slice fz0 fy0 fk0) (tr:=x.tr) (sc:=x.sc) (bv:=.slice fz1 fy1 fk1) (k:=x.ret.k) (q:=x.ret.op) (n:=x.ret.n) (s:=bstr x.ret.nm) (kv:=.slice fz2 fy2 fk2) (xa:=x.ret.a) rfl).facts
          have hKT : KeptT 0 W wr:=(KeptT.hi ⟨HB2.out.size,fun g _ hl => HB2.out.block g hl⟩).trans (hKx.tree HW2.out)
          have HFC:=hid ((HHY.out.2.2 x hxm) (W.heap.size + 1) (W.heap.size + 1) ⟨.slice fz0 fy0 fk0,.slice fz1 fy1 fk1,.slice fz2 fy2 fk2⟩ _ (wr.alloc (.cells #[.int .i64 x.a,.string (bstr x.nm),.slice fz0 fy0 fk0,.bool x.tr,.bool x.sc,.slice fz1 fy1 fk1,.int .i64 x.ret.k,.int .i64 x.ret.op,.int .i64 x.ret.n,.string (bstr x.ret.nm),.slice fz2 fy2 fk2,.int .i64 x.ret.a] 73)) (hX.stay hA) (HLX2.out.b (hA.mono (by omega))) (by (simp;omega)) ((hI.keptT hKT).keptT (.hi ⟨hA.size,fun g _ hl => hA.block g hl⟩)) hln)
          have hB9 : W.heap.size + 1 ≤ wr.heap.size:=by omega
          clear hX hKx hrow hcell hsu hx hxm hq hI hKT hA
          go_wp2_with (go_at_call 23;(with_reducible refine (HFC.out).mono ?_);rintro e9 w9 ⟨rfl,hw9,hk9⟩)
          go_roundw
          case rel =>
           refine ⟨k2 + 1,by go_num,Nat.succ_le_of_lt hkl,?_,HK2.out.trans ((KW.below hB9 (below_of_alloc wr (.cells #[.int .i64 x.a,.string (bstr x.nm),.slice fz0 fy0 fk0,.bool x.tr,.bool x.sc,.slice fz1 fy1 fk1,.int .i64 x.ret.k,.int .i64 x.ret.op,.int .i64 x.ret.n,.string (bstr x.ret.nm),.slice fz2 fy2 fk2,.int .i64 x.ret.a] 73))).trans hk9)⟩
           rw [HSU.out,← List.append_assoc]
           exact hw9
          case measure =>
           simp [intOf]
           omega
        · have hlt : ¬ ((k2 : Int) < (nf : Int)):=by omega
          obtain rfl : nf = k2:=by omega
          have hXe : Wr (W.heap.size + 1) (W.heap.size + 1) (Lib.byteCells (A1 ++ A2 ++ A3)) ((0 : Nat) : Int) wr:=by (have e : p.fs.take nf = p.fs:=(by rw [← HN.out.2.2.1];exact List.take_length);rw [e,HA3.out] at hX;first | exact hX | simpa using hX)
          have HE2:=hid hXe
          have HPX2 : Hid (PgBlk wr W.heap.size (.slice z0 ng c0) (.slice z1 nl c1) (.slice z2 nf c2) (.slice z3 nt c3)):=hid (hKx.keep HW2.out HPB.out (by decide))
          obtain ⟨gpl,⟨pc0,pc1,pc2,pc3⟩,_⟩:=HPX2.out.facts
          clear hX hKx hrow hkl hk hXe hfl2
          go_wp2
          go_loopw [56] (fun i wr => ∃ k : Nat,i = .int .i64 k ∧ k ≤ nt ∧ Wr (W.heap.size + 1) (W.heap.size + 1) (Lib.byteCells ((A1 ++ A2 ++ A3) ++ (p.ths.take k).flatMap thT)) ((0 : Nat) : Int) wr ∧ KW (W.heap.size + 1) (W.heap.size + 1) W2 wr) (fun i _ => nt - (intOf i).toNat)
          case atStart => exact ⟨0,rfl,Nat.zero_le _,by simpa using HE2.out,HK2.out⟩
          case round =>
           obtain ⟨k3,rfl,hk,hX,hKx⟩:=hrel
           have HX3:=hid hX
           have HK3:=hid hKx
           have hz3:=hKx.size
           have HLX3:=hid (HL2.out.b hKx.1)
           have hfl3:=flat_le thT p.ths k3
           have hrow:=hKx.row HW2.out HRt.out (by decide)
           by_cases hkl : k3 < nt
           · obtain ⟨g,cg,hv,hgl,hcell⟩:=own_some hrow (by omega)
             cases hv
             have hlt : (k3 : Int) < (nt : Int):=by omega
             have hk0 : (0 : Int) ≤ (k3 : Int):=Int.natCast_nonneg _
             obtain ⟨q,hq⟩ : ∃ q,rt[k3]? = some q:=⟨_,List.getElem?_eq_getElem (by (have:=HN.out;have e:=congrArg List.length HRX.out.2.2.2;rw [List.length_map] at e;omega))⟩
             obtain ⟨x,tv⟩:=q
             have hx : p.ths[k3]? = some x:=by (rw [← HRX.out.2.2.2,List.getElem?_map,hq];rfl)
             have hxm:=List.mem_of_getElem? hx
             have hsu:=flat_succ thT p.ths k3 x hx
             have hfs:=flat_le thT p.ths (k3 + 1)
             rw [hsu,List.length_append,HA4.out] at hfs
             have HSU:=hid hsu
             have hln : ((A1 ++ A2 ++ A3) ++ (p.ths.take k3).flatMap thT).length + (thT x).length ≤ 100000000000000:=by (simp only [List.length_append,List.length_nil];omega)
             have hI:=HRX.out.2.1 _ (List.mem_of_getElem? hq)
             simp only at hI
             obtain ⟨tz,tk,e0⟩:=hI.form
             obtain ⟨ty,hy0⟩ : ∃ y,x.length = y:=⟨_,rfl⟩
             rw [hy0] at e0
             subst e0
             have d0:=hcell (k3) (.slice tz ty tk) ((by (simp [thRow,hq])))
             have hKT : KeptT 0 W wr:=(KeptT.hi ⟨HB2.out.size,fun g _ hl => HB2.out.block g hl⟩).trans (hKx.tree HW2.out)
             have HCS : Hid ((#[.string ⟨#[116,104,114,101,97,100,32,123]⟩] : Array Value) = ([tThr].map fun p => Value.string (bstr p)).toArray):=hid (by rfl)
             have hth:=HHY.out.2.1 x hxm
             have HGG:=hid (stmts_all (cntS x))
             have HG4:=hid hth.1
             have HI4:=hid (hI.keptT hKT)
             have hB9 : W.heap.size + 1 ≤ wr.heap.size:=by omega
             have hln2 : ((A1 ++ A2 ++ A3) ++ (p.ths.take k3).flatMap thT).length + ((lineT 0 [tThr]).length + ((stsT x (0 + 1)).length + (lineT 0 [[125]]).length)) ≤ 100000000000000:=by (have e : (thT x).length = (lineT 0 [tThr]).length + ((stsT x (0 + 1)).length + (lineT 0 [[125]]).length):=(by simp only [thT,List.length_append,Nat.zero_add]);omega)
             have ht2 : 0 + 1 + cntS x ≤ 1000000:=by (have:=hth.2;omega)
             clear hX hKx hrow hcell hsu hx hxm hq hI hKT
             go_wp2_with (go_at_call 24;(with_reducible refine (block_any (n:=1) HGG [tThr] rfl _ HCS _ _ _ (hid rfl) (hid rfl) (hid rfl) (Nat.le_refl _) HG4 (hid (HX3.out.alloc _)) (hid (HLX3.out.b ((Below.refl _ _).alloc (by omega) _))) (by (simp;omega)) (hid (HI4.out.kept fun g hg hl => ⟨Below.heap_alloc _ _ g hl,hg⟩)) (heap_alloc_new _ _) ht2 hln2 (by decide)).mono ?_);rintro e9 w9 ⟨rfl,hw9,hk9⟩)
             go_roundw
             case rel =>
              refine ⟨k3 + 1,by go_num,Nat.succ_le_of_lt hkl,?_,HK3.out.trans ((KW.alloc (.refl _ _ _) hB9 _).trans hk9)⟩
              rw [HSU.out,← List.append_assoc]
              exact hw9
             case measure =>
              simp [intOf]
              omega
           · have hlt : ¬ ((k3 : Int) < (nt : Int)):=by omega
             obtain rfl : nt = k3:=by omega
             have hXe : Wr (W.heap.size + 1) (W.heap.size + 1) (Lib.byteCells (A1 ++ A2 ++ A3 ++ A4)) ((0 : Nat) : Int) wr:=by (have e : p.ths.take nt = p.ths:=(by rw [← HN.out.2.2.2];exact List.take_length);rw [e,HA4.out] at hX;first | exact hX | simpa using hX)
             have HE3:=hid hXe
             clear hX hKx hrow hkl hk hXe hfl3
             go_wp2_with (go_at_call 25;(with_reducible refine (wr_text _ _ _ _ _ HE3).mono ?_);rintro e2 w2 ⟨rfl,hb2⟩)
             go_ret
             refine ⟨by (rw [HT'.out];simp only [List.append_assoc];rfl),?_⟩
             exact (HB2.out.trans (HK3.out.1.mono (by omega))).trans (hb2.mono (by omega))
def pmT (q : Pm) : List UInt8:=typeT q.tr q.sc ++ 32 :: q.nm
def paramsT (l : List Pm) : List UInt8:=Lib.join (l.map pmT) [44,32]
theorem infoStr : (Tryd.prog.info? 9).map (fun i => (i.zero,i.size,i.bytes)) = some (some (.string ⟨#[]⟩),1,16):=by kernel_rfl
theorem str_one {s : ByteArray} : ∀ u ∈ ([.string s] : List Value),u.oneCell' = true:=by
 intro u hu
 simp at hu
 rcases hu with rfl
 rfl
theorem type_len9 (tr sc : Bool) : (typeT tr sc).length ≤ 20:=by cases tr <;> cases sc <;> decide
def pmV (q : Pm) : Value:=.string (bstr (pmT q))
theorem pmV_at (l : List Pm) {w : World} {B g n c : Nat} (h : w.ownsRow B 9 1 (.slice (some ⟨g,0,none⟩) n c) n (l.map pmV)) : ∀ (j : Nat) x,(l.map fun q => bstr (pmT q))[j]? = some x → w.cell? ⟨g,0 + j,none⟩ = some (.string x):=by
 intro j x hx
 rw [List.getElem?_map] at hx
 obtain ⟨q,hq,rfl⟩:=Option.map_eq_some_iff.1 hx
 rcases h.2 with ⟨e,_⟩ | ⟨g',cap,cur,e,_,hg,_,_,_,ht⟩
 · cases e
 · cases e
   rw [Nat.zero_add,Lib.cell_of_heap hg j]
   have h1 : (l.map pmV)[j]? = some (.string (bstr (pmT q))):=by (rw [List.getElem?_map,hq];rfl)
   rw [← ht,List.getElem?_take] at h1
   split at h1
   · simpa using h1
   · cases h1
theorem join_len (ts : List (List UInt8)) (K : Nat) (h : ∀ t ∈ ts,t.length ≤ K) : (Lib.join ts [44,32]).length ≤ ts.length * (K + 2):=by
 induction ts with
 | nil => simp [Lib.join]
 | cons t r ih =>
  have h1:=h t (.head _)
  have h2:=ih fun x hx => h x (.tail _ hx)
  cases r with
  | nil => simp [Lib.join];omega
  | cons y r =>
   have e : Lib.join (t :: y :: r) [44,32] = t ++ ([44,32] ++ Lib.join (y :: r) [44,32]):=by simp [Lib.join,List.intercalate]
   have e2 : (t :: y :: r).length * (K + 2) = (y :: r).length * (K + 2) + (K + 2):=by simp [Nat.succ_mul]
   rw [e,e2]
   simp only [List.length_append,List.length_cons,List.length_nil] at h2 ⊢
   omega
theorem params_len {l : List Pm} (hn : l.length ≤ 6) (hm : ∀ q ∈ l,NameB q.nm) : (paramsT l).length ≤ 1000:=by
 have h:=join_len (l.map pmT) 45 (fun t ht => by
  obtain ⟨q,hq,rfl⟩:=List.mem_map.1 ht
  obtain ⟨_,_,_,_,_,h24,_⟩:=hm q hq
  have:=type_len9 q.tr q.sc
  simp only [pmT,List.length_append,List.length_cons]
  omega)
 have : (l.map pmT).length * (45 + 2) ≤ 6 * 47:=by (rw [List.length_map];exact Nat.mul_le_mul_right _ hn)
 unfold paramsT
 omega
theorem bstr_cat (a b : List UInt8) : bstr a ++ bstr b = bstr (a ++ b):=by
 apply ByteArray.ext
 simp [bstr]
theorem own_mem {B T k n : Nat} {w : World} {v : Value} {xs : List Value} (h : w.ownsRow B T k v n xs) : ∀ j,v.ownBlock = some j → B ≤ j:=by
 rcases h.2 with ⟨rfl,_⟩ | ⟨g,cap,cur,rfl,hB,_⟩
 · simp [Value.ownBlock]
 · intro j e
   have : g = j:=by simpa [Value.ownBlock] using e
   omega
theorem own_cap {B T k n : Nat} {w : World} {v : Value} {xs : List Value} (h : w.ownsRow B T k v n xs) (hn : 0 < n) : ∃ g c,v = .slice (some ⟨g,0,none⟩) n c ∧ g < w.heap.size ∧ n ≤ c:=by
 rcases h.2 with ⟨_,h0⟩ | ⟨g,cap,cur,rfl,_,hg,hc,_⟩
 · omega
 · exact ⟨g,cap,rfl,(Array.getElem?_eq_some_iff.1 hg).1,hc⟩
theorem params_any {l : List Pm} {v : Value} (w : World) (hi : Hid (IsPl (fun g => 0 ≤ g) 106 3 pmCells w l v)) (hn : l.length ≤ 6) (hm : ∀ q ∈ l,NameB q.nm) (T : List UInt8) (hT : Hid (paramsT l = T)) :
 Calls Tryd.prog 49 #[v] w fun e w' => e = .returned (.string (bstr T)) ∧ Below w.heap.size w w':=by
 obtain ⟨i0,hinf,hzi0,hzi1,hzi2⟩:=info_parts infoStr
 obtain ⟨⟨z,c,rfl⟩,hi2⟩:=hi.out
 obtain ⟨n,hln⟩ : ∃ n,l.length = n:=⟨_,rfl⟩
 have HI:=hid hi2
 have HM:=hid hm
 have HN:=hid hln
 rw [hln] at hn ⊢
 clear hi hi2 hm hln
 go_enter Tryd.func49,Tryd.ntmps49
 go_wp2
 go_loopw [3,8] (fun tv iv wr => ∃ (k : Nat) (p : Option Addr) (d : Nat),tv = .slice p k d ∧ iv = .int .i64 k ∧ k ≤ n ∧ Below w.heap.size w wr ∧ wr.ownsRow w.heap.size 9 1 (.slice p k d) k ((l.take k).map pmV)) (fun _ iv _ => n - (intOf iv).toNat)
 case atStart => exact ⟨0,none,0,rfl,rfl,Nat.zero_le _,Below.refl _ _,World.ownsRow_nil _ _ _ _⟩
 case round =>
  obtain ⟨k,p,d,rfl,rfl,hk,hbr,hown⟩:=hrel
  have HB:=hid hbr
  have HO:=hid hown
  by_cases hkl : k < n
  · obtain ⟨x,hx⟩ : ∃ x,l[k]? = some x:=⟨_,List.getElem?_eq_getElem (by (have:=HN.out;omega))⟩
    obtain ⟨g,cap,cs,fr,e,_,hg,hcs⟩:=HI.out (by rintro rfl;simp at hx)
    cases e
    have hgr:=(hbr.block g (Array.getElem?_eq_some_iff.1 hg).1).trans hg
    have hgl : g < wr.heap.size:=(Array.getElem?_eq_some_iff.1 hgr).1
    have d0 : wr.cell? ⟨g,k * 3,none⟩ = some (.string (bstr x.nm)):=(Lib.cell_of_heap hgr _).trans (hcs k x hx 0 _ rfl)
    have d1 : wr.cell? ⟨g,k * 3 + 1,none⟩ = some (.bool x.tr):=(Lib.cell_of_heap hgr _).trans (hcs k x hx 1 _ rfl)
    have d2 : wr.cell? ⟨g,k * 3 + 2,none⟩ = some (.bool x.sc):=(Lib.cell_of_heap hgr _).trans (hcs k x hx 2 _ rfl)
    have hlt : (k : Int) < (n : Int):=by omega
    have hk0 : (0 : Int) ≤ (k : Int):=Int.natCast_nonneg _
    have HX:=hid hx
    have hnb:=HM.out x (List.mem_of_getElem? hx)
    have hnl : (bstr x.nm).size ≤ 24:=by (obtain ⟨_,_,_,_,_,h24,_⟩:=hnb;exact h24)
    have hA:=below_of_alloc wr (.cells #[.string (bstr x.nm),.bool x.tr,.bool x.sc] 106)
    have hP:=PBlk.new (X:=wr) (n:=wr.heap.size) (s:=bstr x.nm) (tr:=x.tr) (sc:=x.sc) rfl
    clear hbr hown hcs hg hgr hx hnb
    go_upto_region 5 with (fail)
    clear d0 d1 d2
    refine name_world ?_
    intro W1 hW1
    rw [← hW1] at hA hP
    clear hW1
    have HA:=hid hA
    have HP:=hid hP
    have HC : Hid (Below W1.heap.size W1 W1.drew):=hid ((Below.refl _ _).drew)
    have HO1:=hid (own_below HO.out HA.out)
    obtain ⟨pl,pc0,pc1,pc2,_⟩:=(HP.out.stay HC.out).facts
    clear hA hP
    obtain ⟨T0,hT0⟩ : ∃ T0,typeT x.tr x.sc = T0:=⟨_,rfl⟩
    have hs0 : (bstr T0).size ≤ 20:=by (rw [← hT0];exact type_len9 _ _)
    have e1 : (⟨#[32]⟩ : ByteArray).size = 1:=rfl
    have hc1 : (bstr T0).size + (⟨#[32]⟩ : ByteArray).size ≤ 9223372036854775807:=by omega
    have hc2 : ((bstr T0) ++ (⟨#[32]⟩ : ByteArray)).size + (bstr x.nm).size ≤ 9223372036854775807:=by (rw [ByteArray.size_append];omega)
    have hc3 : ¬ 9223372036854775807 < (bstr T0).size + (⟨#[32]⟩ : ByteArray).size:=by omega
    have hc4 : ¬ 9223372036854775807 < ((bstr T0) ++ (⟨#[32]⟩ : ByteArray)).size + (bstr x.nm).size:=by (rw [ByteArray.size_append];omega)
    have hc5 : ¬ 9223372036854775807 < (bstr T0).size + 1:=by omega
    have hc6 : ¬ 9223372036854775807 < (bstr T0).size + 1 + (bstr x.nm).size:=by omega
    have hc7 : ¬ 9223372036854775807 < ((bstr T0) ++ (⟨#[32]⟩ : ByteArray)).size + (bstr x.nm).size:=hc4
    have HT0:=hid hT0
    clear hT0 e1
    go_region_law (first
     | (go_simp;go_at_call 13;(with_reducible refine (type_any _ _ _).mono ?_);rintro e1 wt ⟨rfl,hbt⟩;rw [HT0.out];replace HC:=hid (below_ch HC.out hbt);obtain ⟨pl,pc0,pc1,pc2,_⟩:=(HP.out.stay HC.out).facts;clear hbt)
     | (refine step_append_lies _ (by rfl) _ _ _ (by rfl) w.heap.size 9 i0 _ 1 16 Tryd.underlying95 hinf hzi0 hzi1 hzi2 rfl (by decide) (.slice p k d) k ((l.take k).map pmV) (by rfl) (own_below HO1.out (HC.out.alloc HC.out.size _)) ⟨_,0,none⟩ 1 1 [.string (bstr T0 ++ ⟨#[32]⟩ ++ bstr x.nm)] (by rfl) (by rfl) (World.news_of_block (heap_alloc_new _ _)) str_one (by decide) (by unfold maxLen;omega) (by omega) (by (have:=HC.out.size;have:=HA.out.size;have:=HB.out.size;simp;omega)) _ rfl ?_;intro gg cap6 w9 hown9 hgrow9 hor9 hlt9))
    all_goals
     go_wp2
     go_roundw
     case rel =>
      refine ⟨k + 1,_,_,rfl,by go_num,Nat.succ_le_of_lt hkl,((below_ch HB.out (below_ch HA.out HC.out)).alloc (by (have:=HC.out.size;have:=HA.out.size;have:=HB.out.size;omega)) _).grown hgrow9 (by (have:=HC.out.size;have:=HA.out.size;have:=HB.out.size;simp;omega)) (own_mem HO.out),?_⟩
      have e : (l.take (k + 1)).map pmV = (l.take k).map pmV ++ [.string (bstr T0 ++ ⟨#[32]⟩ ++ bstr x.nm)]:=by
       rw [List.take_add_one,HX.out,← HT0.out]
       simp only [List.map_append,Option.toList,List.map_cons,List.map_nil,pmV,pmT]
       congr 3
       rw [show (⟨#[32]⟩ : ByteArray) = bstr [32] from rfl,bstr_cat,bstr_cat]
       simp
      rw [e]
      exact hown9
     case measure =>
      simp [intOf]
      omega
  · have hlt : ¬ ((k : Int) < (n : Int)):=by omega
    obtain rfl : n = k:=by omega
    have et : l.take n = l:=by (rw [← HN.out];exact List.take_length)
    rw [et] at hown
    have HO2:=hid hown
    clear hown HO et hkl hk
    by_cases h0 : n = 0
    · subst h0
      have hl0 : l = []:=List.eq_nil_of_length_eq_zero HN.out
      have hT0 : T = []:=by (rw [← hT.out,hl0];rfl)
      go_wp2_with (go_at_call 65;(with_reducible refine (Tryd.strings_Join_none _ _ _ _).mono ?_);rintro e9 w9 ⟨rfl,rfl⟩)
      go_ret
      exact ⟨by rw [hT0];rfl,HB.out⟩
    · obtain ⟨g,cg,e,hgl,hgc⟩:=own_cap HO2.out (by omega)
      cases e
      obtain ⟨XS,hXS⟩ : ∃ XS,(l.map fun q => bstr (pmT q)) = XS:=⟨_,rfl⟩
      have hXl : XS.length = n:=by (rw [← hXS,List.length_map];exact HN.out)
      have hXd : XS.map (·.data.toList) = l.map pmT:=by (rw [← hXS,List.map_map];apply List.map_congr_left;intro q _;rfl)
      have hj : (⟨(Lib.join (XS.map (·.data.toList)) (⟨#[44,32]⟩ : ByteArray).data.toList).toArray⟩ : ByteArray) = bstr T:=by (rw [hXd,← hT.out];rfl)
      have hjl : (Lib.join (XS.map (·.data.toList)) (⟨#[44,32]⟩ : ByteArray).data.toList).length ≤ 140737488355328:=by
       rw [hXd]
       exact Nat.le_trans (params_len (by (rw [HN.out];exact hn)) HM.out) (by decide)
      have HJ:=Tryd.strings_Join g 0 d XS ⟨#[44,32]⟩ wr (fun j x hx => pmV_at l HO2.out j x (by rw [hXS];exact hx)) hgl (by omega) (by omega) hjl
      rw [hXl,hj] at HJ
      have HJJ:=hid HJ
      clear HJ hj hjl hXd hXS
      go_wp2_with (go_at_call 65;(with_reducible refine (HJJ.out).mono ?_);rintro e9 w9 ⟨rfl,hb9⟩)
      go_ret
      exact ⟨rfl,below_ch HB.out hb9⟩
open Go
def aw5T : List UInt8:=[116,104,114,101,97,100,123,105,102,40,97,41,123,111,117,116,32,49,59,125,101,108,115,101,123,98,91,50,93,61,51,59,125,125,112,117,98,108,105,99,32,105,110,116,32,103,91,50,93,98,121,32,109,59,108,111,99,107,32,109,59]
def aw5W : List Wd:=[⟨0,[116,104,114,101,97,100],0,0⟩,⟨2,[123],0,6⟩,⟨0,[105,102],0,7⟩,⟨2,[40],0,9⟩,⟨0,[97],0,10⟩,⟨2,[41],0,11⟩,⟨2,[123],0,12⟩,⟨0,[111,117,116],0,13⟩,⟨1,[49],1,17⟩,⟨2,[59],0,18⟩,⟨2,[125],0,19⟩,⟨0,[101,108,115,101],0,20⟩,⟨2,[123],0,24⟩,⟨0,[98],0,25⟩,⟨2,[91],0,26⟩,⟨1,[50],2,27⟩,⟨2,[93],0,28⟩,⟨2,[61],0,29⟩,⟨1,[51],3,30⟩,⟨2,[59],0,31⟩,⟨2,[125],0,32⟩,⟨2,[125],0,33⟩,⟨0,[112,117,98,108,105,99],0,34⟩,⟨0,[105,110,116],0,41⟩,⟨0,[103],0,45⟩,⟨2,[91],0,46⟩,⟨1,[50],2,47⟩,⟨2,[93],0,48⟩,⟨0,[98,121],0,49⟩,⟨0,[109],0,52⟩,⟨2,[59],0,53⟩,⟨0,[108,111,99,107],0,54⟩,⟨0,[109],0,59⟩,⟨2,[59],0,60⟩,⟨3,[],0,61⟩]
theorem numO_itoa {n : Int} (h0 : 0 ≤ n) (h1 : n ≤ 9223372036854775807) : numO (Lib.itoa n) = some n:=by
 have e : (⟨(Lib.itoa n).toArray⟩ : ByteArray) = dig n:=rfl
 unfold numO
 rw [e,num_dig h0 h1]
theorem numO_inv {t : List UInt8} {v : Int} (h : numO t = some v) : 0 ≤ v ∧ v ≤ 9223372036854775807 ∧ t = Lib.itoa v:=by
 unfold numO at h
 split at h
 · rename_i u hu
   cases h
   unfold numM at hu
   split at hu
   · cases hu
   · split at hu
     · rename_i x hx
       split at hu
       · cases hu
       · split at hu
         · rename_i hneg hs
           cases hu
           have hb:=(Lib.parseIntB_bounds hx).2
           refine ⟨by omega,by simp at hb;omega,?_⟩
           have:=by simpa [ByteArray.toList_eq] using hs
           rw [← this]
           rfl
         · cases hu
     · cases hu
 · cases h
theorem num_1 : numO [49] = some 1:=by
 have h:=numO_itoa (n:=1) (by decide) (by decide)
 rwa [show Lib.itoa 1 = [49] by (rw [show (1 : Int) = ((1 : Nat) : Int) from rfl,Lib.itoa_nonneg];simp [Lib.decDigits])] at h
theorem num_2 : numO [50] = some 2:=by
 have h:=numO_itoa (n:=2) (by decide) (by decide)
 rwa [show Lib.itoa 2 = [50] by (rw [show (2 : Int) = ((2 : Nat) : Int) from rfl,Lib.itoa_nonneg];simp [Lib.decDigits])] at h
theorem num_3 : numO [51] = some 3:=by
 have h:=numO_itoa (n:=3) (by decide) (by decide)
 rwa [show Lib.itoa 3 = [51] by (rw [show (3 : Int) = ((3 : Nat) : Int) from rfl,Lib.itoa_nonneg];simp [Lib.decDigits])] at h
theorem aw5_sc : Sc numO aw5T 0 aw5W none:=by
 refine .word _ 0 6 0 0 _ _ (by simp [aw5T]) rfl ?_
 refine .word _ 6 1 2 0 _ _ (by simp [aw5T]) rfl ?_
 refine .word _ 7 2 0 0 _ _ (by simp [aw5T]) rfl ?_
 refine .word _ 9 1 2 0 _ _ (by simp [aw5T]) rfl ?_
 refine .word _ 10 1 0 0 _ _ (by simp [aw5T]) rfl ?_
 refine .word _ 11 1 2 0 _ _ (by simp [aw5T]) rfl ?_
 refine .word _ 12 1 2 0 _ _ (by simp [aw5T]) rfl ?_
 refine .word _ 13 3 0 0 _ _ (by simp [aw5T]) rfl ?_
 refine .gap _ 16 1 _ _ (by simp [aw5T]) rfl ?_
 refine .word _ 17 1 1 1 _ _ (by simp [aw5T]) ?_ ?_
 · show (match numO [49] with | some v => Tok.word 1 1 v | none => .bad 10) = _
   rw [num_1]
 refine .word _ 18 1 2 0 _ _ (by simp [aw5T]) rfl ?_
 refine .word _ 19 1 2 0 _ _ (by simp [aw5T]) rfl ?_
 refine .word _ 20 4 0 0 _ _ (by simp [aw5T]) rfl ?_
 refine .word _ 24 1 2 0 _ _ (by simp [aw5T]) rfl ?_
 refine .word _ 25 1 0 0 _ _ (by simp [aw5T]) rfl ?_
 refine .word _ 26 1 2 0 _ _ (by simp [aw5T]) rfl ?_
 refine .word _ 27 1 1 2 _ _ (by simp [aw5T]) ?_ ?_
 · show (match numO [50] with | some v => Tok.word 1 1 v | none => .bad 10) = _
   rw [num_2]
 refine .word _ 28 1 2 0 _ _ (by simp [aw5T]) rfl ?_
 refine .word _ 29 1 2 0 _ _ (by simp [aw5T]) rfl ?_
 refine .word _ 30 1 1 3 _ _ (by simp [aw5T]) ?_ ?_
 · show (match numO [51] with | some v => Tok.word 1 1 v | none => .bad 10) = _
   rw [num_3]
 refine .word _ 31 1 2 0 _ _ (by simp [aw5T]) rfl ?_
 refine .word _ 32 1 2 0 _ _ (by simp [aw5T]) rfl ?_
 refine .word _ 33 1 2 0 _ _ (by simp [aw5T]) rfl ?_
 refine .word _ 34 6 0 0 _ _ (by simp [aw5T]) rfl ?_
 refine .gap _ 40 1 _ _ (by simp [aw5T]) rfl ?_
 refine .word _ 41 3 0 0 _ _ (by simp [aw5T]) rfl ?_
 refine .gap _ 44 1 _ _ (by simp [aw5T]) rfl ?_
 refine .word _ 45 1 0 0 _ _ (by simp [aw5T]) rfl ?_
 refine .word _ 46 1 2 0 _ _ (by simp [aw5T]) rfl ?_
 refine .word _ 47 1 1 2 _ _ (by simp [aw5T]) ?_ ?_
 · show (match numO [50] with | some v => Tok.word 1 1 v | none => .bad 10) = _
   rw [num_2]
 refine .word _ 48 1 2 0 _ _ (by simp [aw5T]) rfl ?_
 refine .word _ 49 2 0 0 _ _ (by simp [aw5T]) rfl ?_
 refine .gap _ 51 1 _ _ (by simp [aw5T]) rfl ?_
 refine .word _ 52 1 0 0 _ _ (by simp [aw5T]) rfl ?_
 refine .word _ 53 1 2 0 _ _ (by simp [aw5T]) rfl ?_
 refine .word _ 54 4 0 0 _ _ (by simp [aw5T]) rfl ?_
 refine .gap _ 58 1 _ _ (by simp [aw5T]) rfl ?_
 refine .word _ 59 1 0 0 _ _ (by simp [aw5T]) rfl ?_
 refine .word _ 60 1 2 0 _ _ (by simp [aw5T]) rfl ?_
 exact .done 61
def aw5S : Stm:=.mk 2 7 false false [] [] [.mk 2 0 0 [97] [] 10] [.mk 5 13 false false [] [] [.mk 0 0 1 [] [] 17] [] []] [.mk 1 25 false false [98] [.mk 0 0 2 [] [] 27] [.mk 0 0 3 [] [] 30] [] []]
def aw5P : Pg:=⟨[⟨45,[103],false,false,2,[109]⟩],[⟨59,[109]⟩],[],[[aw5S]]⟩
theorem exv {t : List UInt8} {a : Nat} {c : Wd} {r : List Wd} (h : keyB t = false) (h1 : ¬ Sg c [91]) (h2 : ¬ Sg c [40]) (h3 : rkW c < 1) : exF (.ok (⟨0,t,0,a⟩ :: c :: r)) = (.mk 2 0 0 t [] a,.ok (c :: r)) :=
 exF_ok (.expr (.name rfl h (.namVar h1 h2)) (.loopEnd h3))
theorem exn {t : List UInt8} {n : Int} {a : Nat} {c : Wd} {r : List Wd} (h3 : rkW c < 1) : exF (.ok (⟨1,t,n,a⟩ :: c :: r)) = (.mk 0 0 n [] [] a,.ok (c :: r)) :=
 exF_ok (.expr (.num rfl) (.loopEnd h3))
theorem op5_none : opB [41] = -1 ∧ opB [93] = -1 ∧ opB [59] = -1:=by
 refine ⟨?_,?_,?_⟩ <;> simp [opB,opM,opGo,sgn,sgnL,ByteArray.toList_eq]
theorem rk5_rb (v : Int) (a : Nat) : rkW ⟨2,[41],v,a⟩ < 1:=by unfold rkW;rw [if_pos rfl,op5_none.1];decide
theorem rk5_sb (v : Int) (a : Nat) : rkW ⟨2,[93],v,a⟩ < 1:=by unfold rkW;rw [if_pos rfl,op5_none.2.1];decide
theorem rk5_se (v : Int) (a : Nat) : rkW ⟨2,[59],v,a⟩ < 1:=by unfold rkW;rw [if_pos rfl,op5_none.2.2];decide
theorem aw5_a (r : List Wd) : exF (.ok (⟨0,[97],0,10⟩ :: ⟨2,[41],0,11⟩ :: r)) = (.mk 2 0 0 [97] [] 10,.ok (⟨2,[41],0,11⟩ :: r)):=exv (by decide) (fun e => absurd e.2 (by decide)) (fun e => absurd e.2 (by decide)) (rk5_rb _ _)
theorem aw5_1 (r : List Wd) : exF (.ok (⟨1,[49],1,17⟩ :: ⟨2,[59],0,18⟩ :: r)) = (.mk 0 0 1 [] [] 17,.ok (⟨2,[59],0,18⟩ :: r)):=exn (rk5_se _ _)
theorem aw5_2 (r : List Wd) : exF (.ok (⟨1,[50],2,27⟩ :: ⟨2,[93],0,28⟩ :: r)) = (.mk 0 0 2 [] [] 27,.ok (⟨2,[93],0,28⟩ :: r)):=exn (rk5_sb _ _)
theorem aw5_3 (r : List Wd) : exF (.ok (⟨1,[51],3,30⟩ :: ⟨2,[59],0,31⟩ :: r)) = (.mk 0 0 3 [] [] 30,.ok (⟨2,[59],0,31⟩ :: r)):=exn (rk5_se _ _)
theorem aw5_o (n d : Nat) (r : List Wd) : stmtF (n + 1) d (.ok (⟨0,[111,117,116],0,13⟩ :: ⟨1,[49],1,17⟩ :: ⟨2,[59],0,18⟩ :: r)) = ((.mk 5 13 false false [] [] [.mk 0 0 1 [] [] 17] [] []),.ok r):=by
 unfold stmtF
 simp (config:={ decide:=true }) [RS.is,RS.good,RS.adv,RS.hd,RS.need,RS.fail,nameF,kindF,eithF,kVar,kIf,kWhile,kLock,kOut,kPublic,kSecret,kInt,kBool,kElse,kBy,kFunc,kThread,kReturn,aw5_1]
theorem aw5_s (n d : Nat) (r : List Wd) : stmtF (n + 1) d (.ok (⟨0,[98],0,25⟩ :: ⟨2,[91],0,26⟩ :: ⟨1,[50],2,27⟩ :: ⟨2,[93],0,28⟩ :: ⟨2,[61],0,29⟩ :: ⟨1,[51],3,30⟩ :: ⟨2,[59],0,31⟩ :: r)) = ((.mk 1 25 false false [98] [.mk 0 0 2 [] [] 27] [.mk 0 0 3 [] [] 30] [] []),.ok r):=by
 unfold stmtF
 simp (config:={ decide:=true }) [RS.is,RS.good,RS.adv,RS.hd,RS.need,RS.fail,nameF,kindF,eithF,kVar,kIf,kWhile,kLock,kOut,kPublic,kSecret,kInt,kBool,kElse,kBy,kFunc,kThread,kReturn,aw5_2,aw5_3]
theorem aw5_b1 (n : Nat) (r : List Wd) : blockF (n + 4) 1 (.ok (⟨2,[123],0,12⟩ :: ⟨0,[111,117,116],0,13⟩ :: ⟨1,[49],1,17⟩ :: ⟨2,[59],0,18⟩ :: ⟨2,[125],0,19⟩ :: r)) = ([(.mk 5 13 false false [] [] [.mk 0 0 1 [] [] 17] [] [])],.ok r):=by
 have h : stmtsF (n + 3) 2 [125] (.ok (⟨0,[111,117,116],0,13⟩ :: ⟨1,[49],1,17⟩ :: ⟨2,[59],0,18⟩ :: ⟨2,[125],0,19⟩ :: r)) = ([(.mk 5 13 false false [] [] [.mk 0 0 1 [] [] 17] [] [])],.ok (⟨2,[125],0,19⟩ :: r)):=by
  unfold stmtsF
  rw [aw5_o]
  unfold stmtsF
  simp (config:={ decide:=true }) [RS.is,RS.good,RS.adv,RS.hd,RS.need,RS.fail,nameF,kindF,eithF,kVar,kIf,kWhile,kLock,kOut,kPublic,kSecret,kInt,kBool,kElse,kBy,kFunc,kThread,kReturn]
 unfold blockF
 simp (config:={ decide:=true }) [RS.is,RS.good,RS.adv,RS.hd,RS.need,RS.fail,nameF,kindF,eithF,kVar,kIf,kWhile,kLock,kOut,kPublic,kSecret,kInt,kBool,kElse,kBy,kFunc,kThread,kReturn,h]
theorem aw5_b2 (n : Nat) (r : List Wd) : blockF (n + 4) 1 (.ok (⟨2,[123],0,24⟩ :: ⟨0,[98],0,25⟩ :: ⟨2,[91],0,26⟩ :: ⟨1,[50],2,27⟩ :: ⟨2,[93],0,28⟩ :: ⟨2,[61],0,29⟩ :: ⟨1,[51],3,30⟩ :: ⟨2,[59],0,31⟩ :: ⟨2,[125],0,32⟩ :: r)) = ([(.mk 1 25 false false [98] [.mk 0 0 2 [] [] 27] [.mk 0 0 3 [] [] 30] [] [])],.ok r):=by
 have h : stmtsF (n + 3) 2 [125] (.ok (⟨0,[98],0,25⟩ :: ⟨2,[91],0,26⟩ :: ⟨1,[50],2,27⟩ :: ⟨2,[93],0,28⟩ :: ⟨2,[61],0,29⟩ :: ⟨1,[51],3,30⟩ :: ⟨2,[59],0,31⟩ :: ⟨2,[125],0,32⟩ :: r)) = ([(.mk 1 25 false false [98] [.mk 0 0 2 [] [] 27] [.mk 0 0 3 [] [] 30] [] [])],.ok (⟨2,[125],0,32⟩ :: r)):=by
  unfold stmtsF
  rw [aw5_s]
  unfold stmtsF
  simp (config:={ decide:=true }) [RS.is,RS.good,RS.adv,RS.hd,RS.need,RS.fail,nameF,kindF,eithF,kVar,kIf,kWhile,kLock,kOut,kPublic,kSecret,kInt,kBool,kElse,kBy,kFunc,kThread,kReturn]
 unfold blockF
 simp (config:={ decide:=true }) [RS.is,RS.good,RS.adv,RS.hd,RS.need,RS.fail,nameF,kindF,eithF,kVar,kIf,kWhile,kLock,kOut,kPublic,kSecret,kInt,kBool,kElse,kBy,kFunc,kThread,kReturn,h]
theorem aw5_if (n : Nat) (r : List Wd) : stmtF (n + 5) 1 (.ok (⟨0,[105,102],0,7⟩ :: ⟨2,[40],0,9⟩ :: ⟨0,[97],0,10⟩ :: ⟨2,[41],0,11⟩ :: ⟨2,[123],0,12⟩ :: ⟨0,[111,117,116],0,13⟩ :: ⟨1,[49],1,17⟩ :: ⟨2,[59],0,18⟩ :: ⟨2,[125],0,19⟩ :: ⟨0,[101,108,115,101],0,20⟩ :: ⟨2,[123],0,24⟩ :: ⟨0,[98],0,25⟩ :: ⟨2,[91],0,26⟩ :: ⟨1,[50],2,27⟩ :: ⟨2,[93],0,28⟩ :: ⟨2,[61],0,29⟩ :: ⟨1,[51],3,30⟩ :: ⟨2,[59],0,31⟩ :: ⟨2,[125],0,32⟩ :: r)) = (aw5S,.ok r):=by
 have hb : boundF (.ok (⟨2,[40],0,9⟩ :: ⟨0,[97],0,10⟩ :: ⟨2,[41],0,11⟩ :: ⟨2,[123],0,12⟩ :: ⟨0,[111,117,116],0,13⟩ :: ⟨1,[49],1,17⟩ :: ⟨2,[59],0,18⟩ :: ⟨2,[125],0,19⟩ :: ⟨0,[101,108,115,101],0,20⟩ :: ⟨2,[123],0,24⟩ :: ⟨0,[98],0,25⟩ :: ⟨2,[91],0,26⟩ :: ⟨1,[50],2,27⟩ :: ⟨2,[93],0,28⟩ :: ⟨2,[61],0,29⟩ :: ⟨1,[51],3,30⟩ :: ⟨2,[59],0,31⟩ :: ⟨2,[125],0,32⟩ :: r)) = (.mk 2 0 0 [97] [] 10,.ok (⟨2,[123],0,12⟩ :: ⟨0,[111,117,116],0,13⟩ :: ⟨1,[49],1,17⟩ :: ⟨2,[59],0,18⟩ :: ⟨2,[125],0,19⟩ :: ⟨0,[101,108,115,101],0,20⟩ :: ⟨2,[123],0,24⟩ :: ⟨0,[98],0,25⟩ :: ⟨2,[91],0,26⟩ :: ⟨1,[50],2,27⟩ :: ⟨2,[93],0,28⟩ :: ⟨2,[61],0,29⟩ :: ⟨1,[51],3,30⟩ :: ⟨2,[59],0,31⟩ :: ⟨2,[125],0,32⟩ :: r)):=by
  unfold boundF
  simp (config:={ decide:=true }) [RS.is,RS.good,RS.adv,RS.hd,RS.need,RS.fail,nameF,kindF,eithF,kVar,kIf,kWhile,kLock,kOut,kPublic,kSecret,kInt,kBool,kElse,kBy,kFunc,kThread,kReturn,aw5_a]
 have h1:=aw5_b1 n (⟨0,[101,108,115,101],0,20⟩ :: ⟨2,[123],0,24⟩ :: ⟨0,[98],0,25⟩ :: ⟨2,[91],0,26⟩ :: ⟨1,[50],2,27⟩ :: ⟨2,[93],0,28⟩ :: ⟨2,[61],0,29⟩ :: ⟨1,[51],3,30⟩ :: ⟨2,[59],0,31⟩ :: ⟨2,[125],0,32⟩ :: r)
 have h2:=aw5_b2 n r
 unfold stmtF
 rw [show (RS.ok (⟨0,[105,102],0,7⟩ :: ⟨2,[40],0,9⟩ :: ⟨0,[97],0,10⟩ :: ⟨2,[41],0,11⟩ :: ⟨2,[123],0,12⟩ :: ⟨0,[111,117,116],0,13⟩ :: ⟨1,[49],1,17⟩ :: ⟨2,[59],0,18⟩ :: ⟨2,[125],0,19⟩ :: ⟨0,[101,108,115,101],0,20⟩ :: ⟨2,[123],0,24⟩ :: ⟨0,[98],0,25⟩ :: ⟨2,[91],0,26⟩ :: ⟨1,[50],2,27⟩ :: ⟨2,[93],0,28⟩ :: ⟨2,[61],0,29⟩ :: ⟨1,[51],3,30⟩ :: ⟨2,[59],0,31⟩ :: ⟨2,[125],0,32⟩ :: r)).adv = .ok (⟨2,[40],0,9⟩ :: ⟨0,[97],0,10⟩ :: ⟨2,[41],0,11⟩ :: ⟨2,[123],0,12⟩ :: ⟨0,[111,117,116],0,13⟩ :: ⟨1,[49],1,17⟩ :: ⟨2,[59],0,18⟩ :: ⟨2,[125],0,19⟩ :: ⟨0,[101,108,115,101],0,20⟩ :: ⟨2,[123],0,24⟩ :: ⟨0,[98],0,25⟩ :: ⟨2,[91],0,26⟩ :: ⟨1,[50],2,27⟩ :: ⟨2,[93],0,28⟩ :: ⟨2,[61],0,29⟩ :: ⟨1,[51],3,30⟩ :: ⟨2,[59],0,31⟩ :: ⟨2,[125],0,32⟩ :: r) from rfl,hb]
 simp only [h1]
 simp (config:={ decide:=true }) [RS.is,RS.good,RS.adv,RS.hd,RS.need,RS.fail,nameF,kindF,eithF,kVar,kIf,kWhile,kLock,kOut,kPublic,kSecret,kInt,kBool,kElse,kBy,kFunc,kThread,kReturn,h2,aw5S]
theorem aw5_th (n : Nat) (r : List Wd) : blockF (n + 7) 0 (.ok (⟨2,[123],0,6⟩ :: ⟨0,[105,102],0,7⟩ :: ⟨2,[40],0,9⟩ :: ⟨0,[97],0,10⟩ :: ⟨2,[41],0,11⟩ :: ⟨2,[123],0,12⟩ :: ⟨0,[111,117,116],0,13⟩ :: ⟨1,[49],1,17⟩ :: ⟨2,[59],0,18⟩ :: ⟨2,[125],0,19⟩ :: ⟨0,[101,108,115,101],0,20⟩ :: ⟨2,[123],0,24⟩ :: ⟨0,[98],0,25⟩ :: ⟨2,[91],0,26⟩ :: ⟨1,[50],2,27⟩ :: ⟨2,[93],0,28⟩ :: ⟨2,[61],0,29⟩ :: ⟨1,[51],3,30⟩ :: ⟨2,[59],0,31⟩ :: ⟨2,[125],0,32⟩ :: ⟨2,[125],0,33⟩ :: r)) = ([aw5S],.ok r):=by
 have h : stmtsF (n + 6) 1 [125] (.ok (⟨0,[105,102],0,7⟩ :: ⟨2,[40],0,9⟩ :: ⟨0,[97],0,10⟩ :: ⟨2,[41],0,11⟩ :: ⟨2,[123],0,12⟩ :: ⟨0,[111,117,116],0,13⟩ :: ⟨1,[49],1,17⟩ :: ⟨2,[59],0,18⟩ :: ⟨2,[125],0,19⟩ :: ⟨0,[101,108,115,101],0,20⟩ :: ⟨2,[123],0,24⟩ :: ⟨0,[98],0,25⟩ :: ⟨2,[91],0,26⟩ :: ⟨1,[50],2,27⟩ :: ⟨2,[93],0,28⟩ :: ⟨2,[61],0,29⟩ :: ⟨1,[51],3,30⟩ :: ⟨2,[59],0,31⟩ :: ⟨2,[125],0,32⟩ :: ⟨2,[125],0,33⟩ :: r)) = ([aw5S],.ok (⟨2,[125],0,33⟩ :: r)):=by
  unfold stmtsF
  rw [aw5_if]
  unfold stmtsF
  simp (config:={ decide:=true }) [RS.is,RS.good,RS.adv,RS.hd,RS.need,RS.fail,nameF,kindF,eithF,kVar,kIf,kWhile,kLock,kOut,kPublic,kSecret,kInt,kBool,kElse,kBy,kFunc,kThread,kReturn]
 unfold blockF
 show ((stmtsF (n + 6) 1 [125] (RS.ok (⟨0,[105,102],0,7⟩ :: ⟨2,[40],0,9⟩ :: ⟨0,[97],0,10⟩ :: ⟨2,[41],0,11⟩ :: ⟨2,[123],0,12⟩ :: ⟨0,[111,117,116],0,13⟩ :: ⟨1,[49],1,17⟩ :: ⟨2,[59],0,18⟩ :: ⟨2,[125],0,19⟩ :: ⟨0,[101,108,115,101],0,20⟩ :: ⟨2,[123],0,24⟩ :: ⟨0,[98],0,25⟩ :: ⟨2,[91],0,26⟩ :: ⟨1,[50],2,27⟩ :: ⟨2,[93],0,28⟩ :: ⟨2,[61],0,29⟩ :: ⟨1,[51],3,30⟩ :: ⟨2,[59],0,31⟩ :: ⟨2,[125],0,32⟩ :: ⟨2,[125],0,33⟩ :: r))).1,(stmtsF (n + 6) 1 [125] (RS.ok (⟨0,[105,102],0,7⟩ :: ⟨2,[40],0,9⟩ :: ⟨0,[97],0,10⟩ :: ⟨2,[41],0,11⟩ :: ⟨2,[123],0,12⟩ :: ⟨0,[111,117,116],0,13⟩ :: ⟨1,[49],1,17⟩ :: ⟨2,[59],0,18⟩ :: ⟨2,[125],0,19⟩ :: ⟨0,[101,108,115,101],0,20⟩ :: ⟨2,[123],0,24⟩ :: ⟨0,[98],0,25⟩ :: ⟨2,[91],0,26⟩ :: ⟨1,[50],2,27⟩ :: ⟨2,[93],0,28⟩ :: ⟨2,[61],0,29⟩ :: ⟨1,[51],3,30⟩ :: ⟨2,[59],0,31⟩ :: ⟨2,[125],0,32⟩ :: ⟨2,[125],0,33⟩ :: r))).2.need [125]) = _
 rw [h]
 rfl
theorem aw5_gl (n : Nat) (r : List Wd) : globF n (.ok (⟨0,[112,117,98,108,105,99],0,34⟩ :: ⟨0,[105,110,116],0,41⟩ :: ⟨0,[103],0,45⟩ :: ⟨2,[91],0,46⟩ :: ⟨1,[50],2,47⟩ :: ⟨2,[93],0,48⟩ :: ⟨0,[98,121],0,49⟩ :: ⟨0,[109],0,52⟩ :: ⟨2,[59],0,53⟩ :: r)) = if 32 ≤ n then globF n (.ok (⟨0,[112,117,98,108,105,99],0,34⟩ :: ⟨0,[105,110,116],0,41⟩ :: ⟨0,[103],0,45⟩ :: ⟨2,[91],0,46⟩ :: ⟨1,[50],2,47⟩ :: ⟨2,[93],0,48⟩ :: ⟨0,[98,121],0,49⟩ :: ⟨0,[109],0,52⟩ :: ⟨2,[59],0,53⟩ :: r)) else (⟨45,[103],false,false,2,[109]⟩,.ok r):=by
 by_cases h : 32 ≤ n
 · rw [if_pos h]
 · rw [if_neg h]
   unfold globF
   rw [show limF n 32 (.ok (⟨0,[112,117,98,108,105,99],0,34⟩ :: ⟨0,[105,110,116],0,41⟩ :: ⟨0,[103],0,45⟩ :: ⟨2,[91],0,46⟩ :: ⟨1,[50],2,47⟩ :: ⟨2,[93],0,48⟩ :: ⟨0,[98,121],0,49⟩ :: ⟨0,[109],0,52⟩ :: ⟨2,[59],0,53⟩ :: r)) = .ok (⟨0,[112,117,98,108,105,99],0,34⟩ :: ⟨0,[105,110,116],0,41⟩ :: ⟨0,[103],0,45⟩ :: ⟨2,[91],0,46⟩ :: ⟨1,[50],2,47⟩ :: ⟨2,[93],0,48⟩ :: ⟨0,[98,121],0,49⟩ :: ⟨0,[109],0,52⟩ :: ⟨2,[59],0,53⟩ :: r) from if_neg h]
   rfl
theorem aw5_par : parF aw5W = (aw5P,.ok [⟨3,[],0,61⟩]):=by
 have h1:=aw5_th 100 (⟨0,[112,117,98,108,105,99],0,34⟩ :: ⟨0,[105,110,116],0,41⟩ :: ⟨0,[103],0,45⟩ :: ⟨2,[91],0,46⟩ :: ⟨1,[50],2,47⟩ :: ⟨2,[93],0,48⟩ :: ⟨0,[98,121],0,49⟩ :: ⟨0,[109],0,52⟩ :: ⟨2,[59],0,53⟩ :: ⟨0,[108,111,99,107],0,54⟩ :: ⟨0,[109],0,59⟩ :: ⟨2,[59],0,60⟩ :: [⟨3,[],0,61⟩])
 have t1 : thingF 107 ⟨[],[],[],[]⟩ (.ok aw5W) = (⟨[],[],[],[[aw5S]]⟩,.ok (⟨0,[112,117,98,108,105,99],0,34⟩ :: ⟨0,[105,110,116],0,41⟩ :: ⟨0,[103],0,45⟩ :: ⟨2,[91],0,46⟩ :: ⟨1,[50],2,47⟩ :: ⟨2,[93],0,48⟩ :: ⟨0,[98,121],0,49⟩ :: ⟨0,[109],0,52⟩ :: ⟨2,[59],0,53⟩ :: ⟨0,[108,111,99,107],0,54⟩ :: ⟨0,[109],0,59⟩ :: ⟨2,[59],0,60⟩ :: [⟨3,[],0,61⟩])):=by
  unfold thingF
  rw [if_neg (by decide),if_neg (by decide),if_pos (by decide)]
  rw [show limF ([] : List (List Stm)).length 4 (.ok aw5W) = .ok aw5W from rfl]
  rw [if_pos (by decide)]
  rw [show (RS.ok aw5W).adv = .ok (⟨2,[123],0,6⟩ :: ⟨0,[105,102],0,7⟩ :: ⟨2,[40],0,9⟩ :: ⟨0,[97],0,10⟩ :: ⟨2,[41],0,11⟩ :: ⟨2,[123],0,12⟩ :: ⟨0,[111,117,116],0,13⟩ :: ⟨1,[49],1,17⟩ :: ⟨2,[59],0,18⟩ :: ⟨2,[125],0,19⟩ :: ⟨0,[101,108,115,101],0,20⟩ :: ⟨2,[123],0,24⟩ :: ⟨0,[98],0,25⟩ :: ⟨2,[91],0,26⟩ :: ⟨1,[50],2,27⟩ :: ⟨2,[93],0,28⟩ :: ⟨2,[61],0,29⟩ :: ⟨1,[51],3,30⟩ :: ⟨2,[59],0,31⟩ :: ⟨2,[125],0,32⟩ :: ⟨2,[125],0,33⟩ :: ⟨0,[112,117,98,108,105,99],0,34⟩ :: ⟨0,[105,110,116],0,41⟩ :: ⟨0,[103],0,45⟩ :: ⟨2,[91],0,46⟩ :: ⟨1,[50],2,47⟩ :: ⟨2,[93],0,48⟩ :: ⟨0,[98,121],0,49⟩ :: ⟨0,[109],0,52⟩ :: ⟨2,[59],0,53⟩ :: ⟨0,[108,111,99,107],0,54⟩ :: ⟨0,[109],0,59⟩ :: ⟨2,[59],0,60⟩ :: [⟨3,[],0,61⟩]) from rfl]
  rw [h1]
  rfl
 have t2 : thingF 107 ⟨[],[],[],[[aw5S]]⟩ (.ok (⟨0,[112,117,98,108,105,99],0,34⟩ :: ⟨0,[105,110,116],0,41⟩ :: ⟨0,[103],0,45⟩ :: ⟨2,[91],0,46⟩ :: ⟨1,[50],2,47⟩ :: ⟨2,[93],0,48⟩ :: ⟨0,[98,121],0,49⟩ :: ⟨0,[109],0,52⟩ :: ⟨2,[59],0,53⟩ :: ⟨0,[108,111,99,107],0,54⟩ :: ⟨0,[109],0,59⟩ :: ⟨2,[59],0,60⟩ :: [⟨3,[],0,61⟩])) = (⟨[⟨45,[103],false,false,2,[109]⟩],[],[],[[aw5S]]⟩,.ok (⟨0,[108,111,99,107],0,54⟩ :: ⟨0,[109],0,59⟩ :: ⟨2,[59],0,60⟩ :: [⟨3,[],0,61⟩])):=by
  unfold thingF
  rw [if_neg (by decide),if_neg (by decide),if_neg (by decide),if_pos (by decide)]
  have g:=aw5_gl 0 (⟨0,[108,111,99,107],0,54⟩ :: ⟨0,[109],0,59⟩ :: ⟨2,[59],0,60⟩ :: [⟨3,[],0,61⟩])
  rw [if_neg (by decide)] at g
  rw [show (⟨[],[],[],[[aw5S]]⟩ : Pg).gs.length = 0 from rfl,g]
  rfl
 have t3 : thingF 107 ⟨[⟨45,[103],false,false,2,[109]⟩],[],[],[[aw5S]]⟩ (.ok (⟨0,[108,111,99,107],0,54⟩ :: ⟨0,[109],0,59⟩ :: ⟨2,[59],0,60⟩ :: [⟨3,[],0,61⟩])) = (aw5P,.ok [⟨3,[],0,61⟩]):=by
  unfold thingF
  rw [if_pos (by decide)]
  rfl
 have w1 : ∀ m p,wholeF 107 (m + 1) p (.ok aw5W) = wholeF 107 m (thingF 107 p (.ok aw5W)).1 (thingF 107 p (.ok aw5W)).2:=fun m p => whole_more (by decide)
 show wholeF 107 36 ⟨[],[],[],[]⟩ (.ok aw5W) = _
 rw [w1 35,t1]
 show wholeF 107 (34 + 1) _ (.ok (_ :: _)) = _
 rw [whole_more (by decide),t2]
 show wholeF 107 (33 + 1) _ (.ok (_ :: _)) = _
 rw [whole_more (by decide),t3]
 exact whole_stop rfl
end Go.Proofs.YtkhbbapocamlmaaDoor
namespace Go.Proofs.YtkhbbapocamlmaaDoor
open Go
section
variable {num : List UInt8 → Option Int}
theorem mem_tw {p : UInt8 → Bool} : ∀ (l : List UInt8) (c : UInt8),c ∈ l.takeWhile p → p c = true
 | [],c,h => by simp at h
 | x :: r,c,h => by
  rw [List.takeWhile_cons] at h
  split at h
  · rcases List.mem_cons.1 h with rfl | h
    · assumption
    · exact mem_tw r c h
  · simp at h
theorem all_take {p : UInt8 → Bool} : ∀ l : List UInt8,∀ c ∈ l.take (l.takeWhile p).length,p c = true:=by
 intro l
 rw [take_takeWhile]
 intro c hc
 exact mem_tw l c hc
theorem Sc.wd_ok (hnum : ∀ t v,num t = some v → 0 ≤ v ∧ v ≤ 9223372036854775807 ∧ t = Lib.itoa v) {l : List UInt8} {a : Nat} {ws : List Wd} {r : Option (Int × Nat)} (h : Sc num l a ws r) : ∀ w ∈ ws,WdOk w:=by
 induction h with
 | done a => intro w hw;simp at hw;subst hw;exact ⟨fun h => absurd (show (3 : Int) = 0 from h) (by decide),fun h => absurd (show (3 : Int) = 1 from h) (by decide),fun h => absurd rfl h⟩
 | bad => intro w hw;simp at hw
 | gap _ _ _ _ _ _ _ _ ih => exact ih
 | word l a n k v ws r hl ht hs ih =>
  intro w hw
  rcases List.mem_cons.1 hw with rfl | hw
  · have hn:=tok_word hl ht
    refine ⟨fun hk hy => ?_,fun hk => ?_,fun _ => by show 1 ≤ (l.take n).length;rw [List.length_take];omega⟩
    · obtain rfl : k = 0:=hk
      obtain ⟨c,q,rfl⟩:=List.exists_cons_of_ne_nil hl
      simp only [tok] at ht
      split at ht
      · cases ht
      split at ht
      · cases ht
      split at ht
      · rename_i hc
        split at ht
        · cases ht
        · rename_i hs24
          injection ht with e1 e2 e3
          subst e2
          have hall:=all_take (p:=isPart) (c :: q)
          obtain ⟨m,hm⟩ : ∃ m,spanL (c :: q) = m + 1:=⟨spanL (c :: q) - 1,by have:=hn.1;omega⟩
          refine ⟨c,q.take m,by rw [hm];rfl,hc,fun d hd => hall d ?_,by rw [List.length_take];omega,hy⟩
          show d ∈ (c :: q).take (spanL (c :: q))
          rw [hm,List.take_succ_cons]
          exact List.mem_cons_of_mem _ hd
      · split at ht
        · split at ht
          · injection ht with e1;cases e1
          · cases ht
        · split at ht
          · cases ht
          · injection ht with e1;cases e1
    · obtain rfl : k = 1:=hk
      obtain ⟨c,q,rfl⟩:=List.exists_cons_of_ne_nil hl
      simp only [tok] at ht
      split at ht
      · cases ht
      split at ht
      · cases ht
      split at ht
      · split at ht
        · cases ht
        · injection ht with e1;cases e1
      · split at ht
        · split at ht
          · rename_i v' hv
            injection ht with e1 e2 e3
            subst e3
            rw [e2] at hv
            exact hnum _ _ hv
          · cases ht
        · split at ht
          · cases ht
          · injection ht with e1;cases e1
  · exact ih w hw
theorem Sc.lens_le {l : List UInt8} {a : Nat} {ws : List Wd} {r : Option (Int × Nat)} (h : Sc num l a ws r) : lens ws ≤ l.length:=by
 induction h with
 | done a => simp [lens]
 | bad => simp [lens]
 | gap l a n ws r _ _ _ ih =>
  rw [List.length_drop] at ih
  omega
 | word l a n k v ws r hl ht _ ih =>
  have:=tok_word hl ht
  simp only [lens,List.length_take]
  rw [List.length_drop] at ih
  omega
theorem Sc.place {l : List UInt8} {a : Nat} {ws : List Wd} {r : Option (Int × Nat)} (h : Sc num l a ws r) : ∀ w ∈ ws,w.a ≤ a + l.length ∧ (w.k ≠ 3 → w.a < a + l.length):=by
 induction h with
 | done a => intro w hw;simp at hw;subst hw;exact ⟨Nat.le_refl _,fun h => absurd rfl h⟩
 | bad => intro w hw;simp at hw
 | gap l a n ws r hl ht _ ih =>
  intro w hw
  have h1:=tok_gap hl ht
  have:=ih w hw
  rw [List.length_drop] at this
  exact ⟨by omega,fun h => by have:=this.2 h;omega⟩
 | word l a n k v ws r hl ht _ ih =>
  intro w hw
  have h1:=tok_word hl ht
  rcases List.mem_cons.1 hw with rfl | hw
  · exact ⟨by show a ≤ _;omega,fun _ => by show a < _;omega⟩
  · have:=ih w hw
    rw [List.length_drop] at this
    exact ⟨by omega,fun h => by have:=this.2 h;omega⟩
theorem Sc.ends {l : List UInt8} {a : Nat} {ws : List Wd} {r : Option (Int × Nat)} (h : Sc num l a ws r) (hr : r = none) : ∃ ws0 e,ws = ws0 ++ [e] ∧ e.k = 3 ∧ ∀ w ∈ ws0,w.k ≠ 3:=by
 induction h with
 | done a => exact ⟨[],_,rfl,rfl,by simp⟩
 | bad => cases hr
 | gap _ _ _ _ _ _ _ _ ih => exact ih hr
 | word l a n k v ws r hl ht _ ih =>
  obtain ⟨w0,e,h1,h2,h3⟩:=ih hr
  exact ⟨_ :: w0,e,by rw [h1];rfl,h2,fun w hw => by
   rcases List.mem_cons.1 hw with rfl | hw
   · exact tok_kind ht
   · exact h3 w hw⟩
end
theorem P.ne {o : Nat} {j : Job} {ts : List Wd} {r : Res} (h : P o j ts r) : ts ≠ []:=by
 induction h with
 | lstMore _ _ _ ih _ => exact ih
 | lstEnd _ _ ih => exact ih
 | lstBad _ ih => exact ih
 | expr _ _ ih _ => exact ih
 | exprBad _ ih => exact ih
 | _ => simp
theorem P.begins {o : Nat} {j : Job} {ts : List Wd} {r : Res} (h : P o j ts r) : (j = .thing ∨ (∃ q,j = .expr q) ∨ ∃ acc,j = .list acc) → (∀ c a,r ≠ .bad c a) → ∀ w t,ts = w :: t → w.k ≠ 3:=by
 induction h with
 | num h => rintro _ _ w t e;cases e;rw [h];decide
 | tru h _ | fls h _ => rintro _ _ w t e;cases e;rw [h];decide
 | neg h _ _ | not h _ _ | par h _ _ => rintro _ _ w t e;cases e;exact h.ne
 | name h _ _ _ => rintro _ _ w t e;cases e;rw [h];decide
 | stray | behLim | behBad | wthLim | wthNo | wthBad | namElemBad | namCallBad | givLim | givNo | givBad | lstBad | exprBad | loopBad => intro _ h;exact absurd rfl (h _ _)
 | behOk | wthOk | namVar | namElem | namCall | givNone | givSome | loopEnd | loopMore => intro h;rcases h with h | ⟨_,h⟩ | ⟨_,h⟩ <;> cases h
 | lstMore _ _ _ ih _ => intro _ _;exact ih (.inr (.inl ⟨_,rfl⟩)) (by intros;simp)
 | lstEnd _ _ ih => intro _ _;exact ih (.inr (.inl ⟨_,rfl⟩)) (by intros;simp)
 | expr _ _ ih _ => intro _ _;exact ih (.inl rfl) (by intros;simp)
end Go.Proofs.YtkhbbapocamlmaaDoor
namespace Go.Proofs.YtkhbbapocamlmaaDoor
open Go Go.RowKit
structure NiceP (p : Pg) : Prop where
 nl : p.ls.length ≤ 8
 ng : p.gs.length ≤ 32
 nf : p.fs.length ≤ 16
 nt : p.ths.length ≤ 4
 ls : ∀ l ∈ p.ls,NameB l.nm
 gs : ∀ g ∈ p.gs,NameB g.nm ∧ (g.len = 0 ∨ 1 ≤ g.len ∧ g.len ≤ 64) ∧ NmOk g.by_
 fs : ∀ f ∈ p.fs,NameB f.nm ∧ f.ps.length ≤ 6 ∧ ∀ q ∈ f.ps,NameB q.nm
theorem name_nb {s : RS} (hf : s.fin) {tt : List Wd} (hh : (nameF s).2 = .ok tt) {ss : List Wd} (hs : s = .ok ss) (ho : OkW ss) : NameB (nameF s).1.1:=by
 subst hs
 obtain ⟨w,r,rfl⟩:=(hf ss rfl).ne
 rw [nameF_cons] at hh ⊢
 by_cases h : w.k ≠ 0 ∨ keyB w.t = true
 · rw [if_pos h] at hh
   cases hh
 · rw [if_neg h]
   have hk : w.k = 0:=by (cases Classical.em (w.k = 0) with | inl e => exact e | inr e => exact absurd (.inl e) h)
   have hy : keyB w.t = false:=by (cases e : keyB w.t with | false => rfl | true => exact absurd (.inr e) h)
   exact (ho.1 w (.head _)).1 hk hy
theorem lim_lt {n m : Nat} {s : RS} {u : List Wd} (hf : s.fin) (h : limF n m s = .ok u) : n < m ∧ s = .ok u:=by
 unfold limF at h
 split at h
 · cases s with
   | bad c a => cases h
   | ok ss =>
    obtain ⟨w,r,rfl⟩:=(hf ss rfl).ne
    cases h
 · exact ⟨by omega,h⟩
theorem pars_nice : ∀ (n k : Nat) (s : RS),k ≤ 6 → s.fin → ∀ (ss : List Wd),s = .ok ss → OkW ss → ∀ tt,(parsF n k s).2 = .ok tt → (∀ q ∈ (parsF n k s).1,NameB q.nm) ∧ k + (parsF n k s).1.length ≤ 6
 | 0,k,s,hk,_,_,_,_,_,_ => ⟨by simp [parsF],by simpa [parsF] using hk⟩
 | n + 1,k,s,hk,hf,ss,hs,ho,tt,ht => by
  subst hs
  have hg : (RS.ok ss).good = true:=rfl
  have l1:=lim_le hf k 6
  have l2:=kind_le l1.2
  have l3:=name_le l2.2
  unfold parsF at ht ⊢
  simp only [hg,if_true] at ht ⊢
  cases b : (nameF (kindF (limF k 6 (.ok ss))).2).2.is [44] with
  | false =>
   simp only [b,Bool.false_eq_true,if_false] at ht ⊢
   obtain ⟨u1,e1,s1⟩:=(name_sb _).1 tt ht
   obtain ⟨u0,e0,s0⟩:=kind_sb _ u1 e1
   obtain ⟨hlt,es⟩:=lim_lt hf e0
   cases es
   have hn:=name_nb l2.2 ht e1 (ho.suf s0)
   refine ⟨fun q hq => ?_,?_⟩
   · simp only [List.mem_singleton] at hq
     subst hq
     exact hn
   · simp only [List.length_cons,List.length_nil]
     omega
  | true =>
   simp only [b,if_true] at ht ⊢
   have l4:=(is_adv b l3.2).1
   have k5:=pars_sb n (k + 1) (nameF (kindF (limF k 6 (.ok ss))).2).2.adv
   obtain ⟨u4,e4,s4⟩:=k5 tt ht
   obtain ⟨u3,e3,s3⟩:=adv_sb _ u4 e4
   obtain ⟨u1,e1,s1⟩:=(name_sb _).1 u3 e3
   obtain ⟨u0,e0,s0⟩:=kind_sb _ u1 e1
   obtain ⟨hlt,es⟩:=lim_lt hf e0
   cases es
   have hn:=name_nb l2.2 e3 e1 (ho.suf s0)
   obtain ⟨i1,i2⟩:=pars_nice n (k + 1) _ (by omega) l4.2 u4 e4 (ho.suf (s3.trans (s1.trans s0))) tt ht
   refine ⟨fun q hq => ?_,?_⟩
   · rcases List.mem_cons.1 hq with rfl | hq
     · exact hn
     · exact i1 q hq
   · simp only [List.length_cons]
     omega
theorem params_nice {s : RS} (hf : s.fin) {ss : List Wd} (hs : s = .ok ss) (ho : OkW ss) {tt : List Wd} (ht : (paramsF s).2 = .ok tt) : (∀ q ∈ (paramsF s).1,NameB q.nm) ∧ (paramsF s).1.length ≤ 6:=by
 have e : paramsF s = if (s.need [40]).is [41] then ([],(s.need [40]).adv) else ((parsF 8 0 (s.need [40])).1,(parsF 8 0 (s.need [40])).2.need [41]):=rfl
 rw [e] at ht ⊢
 have l1:=need_le hf [40]
 cases b : (s.need [40]).is [41] with
 | true => simp
 | false =>
  simp only [b,Bool.false_eq_true,if_false] at ht ⊢
  obtain ⟨u2,e2,s2⟩:=need_sb [41] _ tt ht
  obtain ⟨u1,e1,s1⟩:=pars_sb 8 0 _ u2 e2
  obtain ⟨u0,e0,s0⟩:=need_sb [40] _ u1 e1
  rw [hs] at e0
  cases e0
  have h:=pars_nice 8 0 _ (by omega) l1.2 u1 e1 (ho.suf s0) u2 e2
  exact ⟨h.1,by simpa using h.2⟩
theorem lenF_nice {s : RS} (hf : s.fin) {tt : List Wd} (ht : (lenF s).2 = .ok tt) : 1 ≤ (lenF s).1 ∧ (lenF s).1 ≤ 64:=by
 cases s with
 | bad c a => cases ht
 | ok ss =>
  obtain ⟨w,r,rfl⟩:=(hf ss rfl).ne
  have e : lenF (.ok (w :: r)) = if w.k ≠ 1 then (0,.bad 11 w.a) else if w.n < 1 ∨ 64 < w.n then (0,.bad 2 w.a) else (w.n,.ok r):=rfl
  rw [e] at ht ⊢
  by_cases h1 : w.k ≠ 1
  · rw [if_pos h1] at ht
    cases ht
  · rw [if_neg h1] at ht ⊢
    by_cases h2 : w.n < 1 ∨ 64 < w.n
    · rw [if_pos h2] at ht
      cases ht
    · rw [if_neg h2]
      show 1 ≤ w.n ∧ w.n ≤ 64
      omega
theorem glob_nice {n : Nat} {s : RS} (hf : s.fin) {ss : List Wd} (hs : s = .ok ss) (ho : OkW ss) {tt : List Wd} (ht : (globF n s).2 = .ok tt) : n < 32 ∧ NameB (globF n s).1.nm ∧ ((globF n s).1.len = 0 ∨ 1 ≤ (globF n s).1.len ∧ (globF n s).1.len ≤ 64) ∧ NmOk (globF n s).1.by_:=by
 obtain ⟨τ0,h0⟩ : ∃ q,limF n 32 s = q:=⟨_,rfl⟩
 obtain ⟨⟨⟨tr,sc⟩,τ1⟩,h1⟩ : ∃ q,kindF τ0 = q:=⟨_,rfl⟩
 obtain ⟨⟨⟨nm,a⟩,τ2⟩,h2⟩ : ∃ q,nameF τ1 = q:=⟨_,rfl⟩
 obtain ⟨⟨l,τ3⟩,h3⟩ : ∃ q,(if τ2.is [91] then (let q:=lenF τ2.adv;(q.1,q.2.need [93])) else ((0 : Int),τ2)) = q:=⟨_,rfl⟩
 obtain ⟨⟨y,τ4⟩,h4⟩ : ∃ q,(if τ3.is kBy then (let q:=nameF τ3.adv;(q.1.1,q.2)) else (([] : List UInt8),τ3)) = q:=⟨_,rfl⟩
 have eG : globF n s = (⟨a,nm,tr,sc,l,y⟩,τ4.need [59]):=by
  simp only [globF,h0,h1,h2]
  rw [h3]
  simp only [h4]
 rw [eG] at ht ⊢
 have l0 : Le τ0 s:=by (have:=lim_le hf n 32;rwa [h0] at this)
 have l1 : Le τ1 τ0:=by (have:=kind_le l0.2;rwa [h1] at this)
 have l2 : Le τ2 τ1:=by (have:=name_le l1.2;rwa [h2] at this)
 obtain ⟨u4,e4,s4⟩:=need_sb [59] _ tt ht
 have k0 : Sb τ0 s:=by (have:=lim_sb n 32 s;rwa [h0] at this)
 have k1 : Sb τ1 τ0:=by (have:=kind_sb τ0;rwa [h1] at this)
 have k2 : Sb τ2 τ1:=by (have:=(name_sb τ1).1;rwa [h2] at this)
 have q3 : Sb τ3 τ2 ∧ τ3.fin ∧ ((∃ u,τ3 = .ok u) → l = 0 ∨ 1 ≤ l ∧ l ≤ 64):=by
  cases b : τ2.is [91] with
  | false =>
   rw [b] at h3
   cases h3
   exact ⟨.refl _,l2.2,fun _ => .inl rfl⟩
  | true =>
   rw [b] at h3
   cases h3
   have m1:=(is_adv b l2.2).1
   have m2 : Sb (lenF τ2.adv).2 τ2.adv:=lenF_sb _
   have m3 : (lenF τ2.adv).2.fin:=by
    cases ha : τ2.adv with
    | bad c a => exact bad_fin _ _
    | ok q =>
     obtain ⟨w,r,rfl⟩:=(m1.2 q ha).ne
     have e : lenF (.ok (w :: r)) = if w.k ≠ 1 then (0,.bad 11 w.a) else if w.n < 1 ∨ 64 < w.n then (0,.bad 2 w.a) else (w.n,.ok r):=rfl
     rw [e]
     by_cases p1 : w.k ≠ 1
     · rw [if_pos p1]
       exact bad_fin _ _
     · rw [if_neg p1]
       by_cases p2 : w.n < 1 ∨ 64 < w.n
       · rw [if_pos p2]
         exact bad_fin _ _
       · rw [if_neg p2]
         have hf2 : (RS.ok (w :: r)).fin:=fun t e => by cases e;exact m1.2 _ ha
         exact (adv_le hf2 (by omega)).1.2
   refine ⟨(need_sb _ _).trans (m2.trans (adv_sb _)),(need_le m3 [93]).2,fun ⟨u,hu⟩ => .inr ?_⟩
   obtain ⟨v,hv,_⟩:=need_sb [93] _ u hu
   exact lenF_nice m1.2 hv
 have q4 : Sb τ4 τ3 ∧ ∀ u v,τ4 = .ok u → τ3 = .ok v → OkW v → NmOk y:=by
  cases b : τ3.is kBy with
  | false =>
   rw [b] at h4
   cases h4
   exact ⟨.refl _,fun _ _ _ _ _ => .inl rfl⟩
  | true =>
   rw [b] at h4
   cases h4
   refine ⟨(name_sb _).1.trans (adv_sb _),fun u v hu hv hov => ?_⟩
   obtain ⟨w,hw,_⟩:=(name_sb τ3.adv).1 u hu
   obtain ⟨x,hx,sx⟩:=adv_sb τ3 w hw
   rw [hv] at hx
   cases hx
   exact name_nm _ u hu w hw (hov.suf sx)
 obtain ⟨u3,e3,s3⟩:=q4.1 u4 e4
 obtain ⟨u2,e2,s2⟩:=q3.1 u3 e3
 obtain ⟨u1,e1,s1⟩:=k2 u2 e2
 obtain ⟨u0,e0,s0⟩:=k1 u1 e1
 obtain ⟨hlt,es⟩:=lim_lt hf (h0.trans e0)
 rw [hs] at es
 cases es
 have hn:=name_nb l1.2 (by rw [h2];exact e2) e1 (ho.suf s0)
 rw [h2] at hn
 exact ⟨hlt,hn,q3.2.2 ⟨u3,e3⟩,q4.2 u4 u3 e4 e3 (ho.suf (s2.trans (s1.trans s0)))⟩
theorem func_nice (n : Nat) {x : Wd} {tt : List Wd} (hft : (RS.ok tt).fin) (hn : 3 * tt.length + 2 ≤ n) (ho : OkW tt) {t' : List Wd} (ht : (funcF n (.ok (x :: tt))).2 = .ok t') : NameB (funcF n (.ok (x :: tt))).1.nm ∧ (funcF n (.ok (x :: tt))).1.ps.length ≤ 6 ∧ ∀ q ∈ (funcF n (.ok (x :: tt))).1.ps,NameB q.nm:=by
 obtain ⟨⟨⟨nm,a⟩,τ1⟩,h1⟩ : ∃ q,nameF (.ok tt) = q:=⟨_,rfl⟩
 obtain ⟨⟨lp,τ2⟩,h2⟩ : ∃ q,paramsF τ1 = q:=⟨_,rfl⟩
 obtain ⟨⟨⟨tr,sc⟩,τ3⟩,h3⟩ : ∃ q,kindF τ2 = q:=⟨_,rfl⟩
 obtain ⟨τ4,h4⟩ : ∃ q,τ3.need [123] = q:=⟨_,rfl⟩
 obtain ⟨⟨lb,τ5⟩,h5⟩ : ∃ q,stmtsF n 1 kReturn τ4 = q:=⟨_,rfl⟩
 obtain ⟨τ6,h6⟩ : ∃ q,τ5.need kReturn = q:=⟨_,rfl⟩
 obtain ⟨⟨ex,τ7⟩,h7⟩ : ∃ q,exF τ6 = q:=⟨_,rfl⟩
 obtain ⟨τ8,h8⟩ : ∃ q,τ7.need [59] = q:=⟨_,rfl⟩
 obtain ⟨τ9,h9⟩ : ∃ q,τ8.need [125] = q:=⟨_,rfl⟩
 have eF : funcF n (.ok (x :: tt)) = (⟨a,nm,lp,tr,sc,lb,ex⟩,τ9):=by simp only [funcF,RS.adv,h1,h2,h3,h4,h5,h6,h7,h8,h9]
 rw [eF] at ht ⊢
 have k1:=(name_sb (.ok tt)).1
 have k2:=params_sb τ1
 have k3:=kind_sb τ2
 have k4:=need_sb [123] τ3
 have l1 : Le τ1 (.ok tt):=by (have:=name_le hft;rwa [h1] at this)
 have l2 : Le τ2 (.ok tt):=by (have:=params_le l1.2;rw [h2] at this;exact this.trans l1)
 have l3 : Le τ3 (.ok tt):=by (have:=kind_le l2.2;rw [h3] at this;exact this.trans l2)
 have l4 : Le τ4 (.ok tt):=by (have:=need_le l3.2 [123];rw [h4] at this;exact this.trans l3)
 have k5:=((rd_all n).2.2 1 kReturn τ4 l4.2 (by (have h44 : τ4.len ≤ tt.length:=l4.1;omega))).1
 have k6:=need_sb kReturn τ5
 have k7:=(ex_sb τ6).1
 have k8:=need_sb [59] τ7
 have k9:=need_sb [125] τ8
 rw [h1] at k1
 rw [h2] at k2
 rw [h3] at k3
 rw [h4] at k4
 rw [h5] at k5
 rw [h6] at k6
 rw [h7] at k7
 rw [h8] at k8
 rw [h9] at k9
 obtain ⟨u8,e8,s8⟩:=k9 t' ht
 obtain ⟨u7,e7,s7⟩:=k8 u8 e8
 obtain ⟨u6,e6,s6⟩:=k7 u7 e7
 obtain ⟨u5,e5,s5⟩:=k6 u6 e6
 obtain ⟨u4,e4,s4⟩:=k5 u5 e5
 obtain ⟨u3,e3,s3⟩:=k4 u4 e4
 obtain ⟨u2,e2,s2⟩:=k3 u3 e3
 obtain ⟨u1,e1,s1⟩:=k2 u2 e2
 obtain ⟨u0,e0,s0⟩:=k1 u1 e1
 cases e0
 have g1:=name_nb hft (by rw [h1];exact e1) rfl ho
 have g2:=params_nice l1.2 e1 (ho.suf s0) (by rw [h2];exact e2)
 rw [h1] at g1
 rw [h2] at g2
 exact ⟨g1,g2.2,g2.1⟩
theorem thing_nice {n : Nat} {p : Pg} {x : Wd} {tt : List Wd} (hf : (RS.ok (x :: tt)).fin) (hx : x.k ≠ 3) (hn : 3 * tt.length + 2 ≤ n) (ho : OkW (x :: tt)) (hG : NiceP p) {t' : List Wd} (ht : (thingF n p (.ok (x :: tt))).2 = .ok t') : NiceP (thingF n p (.ok (x :: tt))).1:=by
 have hft : (RS.ok tt).fin:=(adv_le hf hx).1.2
 have hot : OkW tt:=ho.suf (List.suffix_cons _ _)
 obtain ⟨q1,q2,q3,q4,q5,q6,q7⟩:=hG
 cases b1 : (RS.ok (x :: tt)).is kLock with
 | true =>
  rcases limF_cases p.ls.length 8 x tt with e | e
  · have eT : thingF n p (.ok (x :: tt)) = ({ p with ls:=p.ls ++ [⟨(nameF (.ok tt)).1.2,(nameF (.ok tt)).1.1⟩] },(nameF (.ok tt)).2.need [59]):=by simp [thingF,b1,e,RS.good,RS.adv]
    rw [eT] at ht ⊢
    have hl:=(lim_lt hf e).1
    obtain ⟨u1,e1,s1⟩:=need_sb [59] _ t' ht
    have hnm:=name_nb hft e1 rfl hot
    refine ⟨by (simp only [List.length_append,List.length_cons,List.length_nil];omega),q2,q3,q4,fun l hl => ?_,q6,q7⟩
    rcases List.mem_append.1 hl with hl | hl
    · exact q5 l hl
    · simp only [List.mem_singleton] at hl
      subst hl
      exact hnm
  · have eT : thingF n p (.ok (x :: tt)) = (p,.bad 2 x.a):=by simp [thingF,b1,e,RS.good]
    rw [eT] at ht
    cases ht
 | false =>
  cases b2 : (RS.ok (x :: tt)).is kFunc with
  | true =>
   rcases limF_cases p.fs.length 16 x tt with e | e
   · have eT : thingF n p (.ok (x :: tt)) = ({ p with fs:=p.fs ++ [(funcF n (.ok (x :: tt))).1] },(funcF n (.ok (x :: tt))).2):=by simp [thingF,b1,b2,e,RS.good]
     rw [eT] at ht ⊢
     have hl:=(lim_lt hf e).1
     have hg:=func_nice n hft hn hot ht
     refine ⟨q1,q2,by (simp only [List.length_append,List.length_cons,List.length_nil];omega),q4,q5,q6,fun f hf => ?_⟩
     rcases List.mem_append.1 hf with hf | hf
     · exact q7 f hf
     · simp only [List.mem_singleton] at hf
       subst hf
       exact hg
   · have eT : thingF n p (.ok (x :: tt)) = (p,.bad 2 x.a):=by simp [thingF,b1,b2,e,RS.good]
     rw [eT] at ht
     cases ht
  | false =>
   cases b3 : (RS.ok (x :: tt)).is kThread with
   | true =>
    rcases limF_cases p.ths.length 4 x tt with e | e
    · have eT : thingF n p (.ok (x :: tt)) = ({ p with ths:=p.ths ++ [(blockF n 0 (.ok tt)).1] },(blockF n 0 (.ok tt)).2):=by simp [thingF,b1,b2,b3,e,RS.good,RS.adv]
      rw [eT] at ht ⊢
      have hl:=(lim_lt hf e).1
      exact ⟨q1,q2,q3,by (simp only [List.length_append,List.length_cons,List.length_nil];omega),q5,q6,q7⟩
    · have eT : thingF n p (.ok (x :: tt)) = (p,.bad 2 x.a):=by simp [thingF,b1,b2,b3,e,RS.good]
      rw [eT] at ht
      cases ht
   | false =>
    cases b4 : ((RS.ok (x :: tt)).is kPublic || (RS.ok (x :: tt)).is kSecret) with
    | true =>
     have eT : thingF n p (.ok (x :: tt)) = ({ p with gs:=p.gs ++ [(globF p.gs.length (.ok (x :: tt))).1] },(globF p.gs.length (.ok (x :: tt))).2):=by simp [thingF,b1,b2,b3,b4]
     rw [eT] at ht ⊢
     obtain ⟨hl,hg⟩:=glob_nice hf rfl ho ht
     refine ⟨q1,by (simp only [List.length_append,List.length_cons,List.length_nil];omega),q3,q4,q5,fun g hg2 => ?_,q7⟩
     rcases List.mem_append.1 hg2 with hg2 | hg2
     · exact q6 g hg2
     · simp only [List.mem_singleton] at hg2
       subst hg2
       exact hg
    | false =>
     have eT : thingF n p (.ok (x :: tt)) = (p,(RS.ok (x :: tt)).fail 11):=by simp [thingF,b1,b2,b3,b4]
     rw [eT] at ht
     cases ht
theorem whole_nice (n : Nat) : ∀ (m : Nat) (p : Pg) (tt : List Wd),(RS.ok tt).fin → 3 * tt.length ≤ n + 1 → OkW tt → GoodP p 16385 → NiceP p → ∀ q t',wholeF n m p (.ok tt) = (q,.ok t') → NiceP q
 | 0,p,tt,_,_,_,_,hN,q,t',h => by
  have : wholeF n 0 p (.ok tt) = (p,.ok tt):=rfl
  rw [this] at h
  cases h
  exact hN
 | m + 1,p,tt,hf,hn,ho,hG,hN,q,t',h => by
  obtain ⟨x,r,rfl⟩:=(hf tt rfl).ne
  by_cases hx : x.k = 3
  · have e : wholeF n (m + 1) p (.ok (x :: r)) = (p,.ok (x :: r)):=by simp [wholeF,RS.hd,hx]
    rw [e] at h
    cases h
    exact hN
  · have e : wholeF n (m + 1) p (.ok (x :: r)) = wholeF n m (thingF n p (.ok (x :: r))).1 (thingF n p (.ok (x :: r))).2:=by simp [wholeF,RS.hd,RS.good,hx]
    rw [e] at h
    have hlen : 3 * r.length + 2 ≤ n:=by (simp only [List.length_cons] at hn;omega)
    have hle:=thing_le n p hf hx
    cases hq : (thingF n p (.ok (x :: r))).2 with
    | ok t2 =>
     have hg:=thing_good hf hx hlen ho hG hq
     have hi:=thing_nice hf hx hlen ho hN hq
     rw [hq] at h hle
     have h2 : t2.length ≤ r.length:=hg.2.length_le
     exact whole_nice n m _ t2 hle.2 (by omega) ((ho.suf (List.suffix_cons _ _)).suf hg.2) hg.1 hi q t' h
    | bad c a =>
     rw [hq] at h
     have e2 : wholeF n m (thingF n p (.ok (x :: r))).1 (.bad c a) = ((thingF n p (.ok (x :: r))).1,.bad c a):=by
      cases m with
      | zero => rfl
      | succ m => simp [wholeF,RS.good]
     rw [e2] at h
     cases h
theorem par_nice {s : ByteArray} {ws t : List Wd} {p : Pg} (hS : Sc numO s.data.toList 0 ws none) (hs : s.size ≤ 16384) (hp : parF ws = (p,.ok t)) : NiceP p:=by
 have hl : s.data.toList.length ≤ 16384:=by simpa using hs
 have h1:=hS.lens_le
 have h2:=hS.few rfl
 have hw:=hS.wd_ok fun t v h => numO_inv h
 refine whole_nice (3 * ws.length + 2) (ws.length + 1) ⟨[],[],[],[]⟩ ws (fun _ e => by cases e;exact hS.fin rfl) (by omega) ⟨hw,by omega,by omega⟩ ?_ ?_ p t hp
 · exact ⟨by simp,by simp⟩
 · exact ⟨by simp,by simp,by simp,by simp,by simp,by simp,by simp⟩
def tFunc : List UInt8:=[102,117,110,99,32]
def tRet : List UInt8:=[114,101,116,117,114,110,32]
def fnA (tabs : Nat) (f : Fn) : List UInt8:=lineT tabs [tFunc,f.nm,[40],paramsT f.ps,[41,32],typeT f.tr f.sc,[32,123]]
def fnC (tabs : Nat) (f : Fn) : List UInt8:=lineT (tabs + 1) [tRet,f.ret.txt,[59]]
def fnT (f : Fn) : List UInt8:=fnA 0 f ++ (stsT f.bd (0 + 1) ++ (fnC 0 f ++ lineT 0 [[125]]))
theorem IsPl.stay {l : List Pm} {v : Value} {W X : World} (h : IsPl (fun g => 0 ≤ g) 106 3 pmCells W l v) (hb : Below W.heap.size W X) : IsPl (fun g => 0 ≤ g) 106 3 pmCells X l v:=h.kept fun g hg hl => ⟨hb.block g hl,hg⟩
theorem FBlk.lt {X : World} {b : Nat} {a : Int} {nm : ByteArray} {pv : Value} {tr sc : Bool} {bv : Value} {k q n : Int} {s : ByteArray} {kv : Value} {xa : Int} (h : FBlk X b a nm pv tr sc bv k q n s kv xa) : b < X.heap.size:=(Array.getElem?_eq_some_iff.1 h).1
theorem FBlk.kw2 {X Y : World} {b : Nat} {a : Int} {nm : ByteArray} {pv : Value} {tr sc : Bool} {bv : Value} {k q n : Int} {s : ByteArray} {kv : Value} {xa : Int} (h : FBlk X b a nm pv tr sc bv k q n s kv xa) (e : Y.heap[b]? = X.heap[b]?) : FBlk Y b a nm pv tr sc bv k q n s kv xa:=e.trans h
theorem fn_any (f : Fn) (tabs : Nat) (htabs : tabs ≤ 1000) (hg1 : ∀ s ∈ f.bd,GoodS s) (hg2 : cntS f.bd ≤ 16385) (hg3 : GoodE f.ret) (hn1 : f.ps.length ≤ 6) (hn2 : ∀ q ∈ f.ps,NameB q.nm) (T1 T2 T3 T4 : List UInt8) (HT1 : Hid (fnA tabs f = T1)) (HT2 : Hid (stsT f.bd (tabs + 1) = T2)) (HT3 : Hid (fnC tabs f = T3)) (HT4 : Hid (lineT tabs [[125]] = T4))
 (B b : Nat) (fv : FV) (bs : List UInt8) (W : World) (hw : Wr B b (Lib.byteCells bs) ((tabs : Nat) : Int) W) (hL : LB B W) (hBW : B ≤ W.heap.size) (hI : IsFn1 (fun g => 0 ≤ g) W f fv) (hlen : bs.length + (T1.length + (T2.length + (T3.length + T4.length))) ≤ 100000000000000) :
 Calls Tryd.prog 23 #[.pointer (some ⟨b,0,none⟩),.agg #[.int .i64 f.a,.string (bstr f.nm),fv.p,.bool f.tr,.bool f.sc,fv.b,.int .i64 f.ret.k,.int .i64 f.ret.op,.int .i64 f.ret.n,.string (bstr f.ret.nm),fv.k,.int .i64 f.ret.a]] W fun e w' => e = .returned (.tuple #[]) ∧ Wr B b (Lib.byteCells (bs ++ (T1 ++ (T2 ++ (T3 ++ T4))))) ((tabs : Nat) : Int) w' ∧ KW B b W w':=by
 obtain ⟨hp,hb,hk⟩:=hI
 obtain ⟨zp,cp,ep⟩:=hp.1
 obtain ⟨zb,cb,eb⟩:=hb.form
 obtain ⟨zk,ck,ek⟩:=hk.form
 obtain ⟨pv,bv,kv⟩:=fv
 obtain ⟨P,hP⟩ : ∃ P,paramsT f.ps = P:=⟨_,rfl⟩
 obtain ⟨Y,hY⟩ : ∃ Y,typeT f.tr f.sc = Y:=⟨_,rfl⟩
 obtain ⟨R,hR⟩ : ∃ R,f.ret.txt = R:=⟨_,rfl⟩
 have HP:=hid hP
 have HYY:=hid hY
 have HR:=hid hR
 have H3:=hid hg3
 have HN1:=hid hn1
 have HN2:=hid hn2
 have HG1:=hid hg1
 have hL1 : lineT tabs [tFunc,f.nm,[40],P,[41,32],Y,[32,123]] = T1:=by (rw [← hP,← hY];exact HT1.out)
 have hL3 : lineT (tabs + 1) [tRet,R,[59]] = T3:=by (rw [← hR];exact HT3.out)
 have HL1:=hid hL1
 have HL3:=hid hL3
 obtain ⟨a,nm,ps,tr,sc,bd,ret⟩:=f
 simp only at ep eb ek HP HYY HR H3 HN1 HN2 HG1 HL1 hg2 HT2 hp hb hk ⊢
 subst ep eb ek
 obtain ⟨yp,hyp⟩ : ∃ y,ps.length = y:=⟨_,rfl⟩
 obtain ⟨yb,hyb⟩ : ∃ y,bd.length = y:=⟨_,rfl⟩
 obtain ⟨yk,hyk⟩ : ∃ y,ret.ks.length = y:=⟨_,rfl⟩
 have HYK:=hid hyk
 rw [hyp] at hp
 rw [hyb] at hb
 rw [hyk] at hk
 rw [hyp,hyb,hyk]
 have HCS1 : Hid ((#[.string ⟨#[102,117,110,99,32]⟩,.string (bstr nm),.string ⟨#[40]⟩,.string (bstr P),.string ⟨#[41,32]⟩,.string (bstr Y),.string ⟨#[32,123]⟩] : Array Value) = ([tFunc,nm,[40],P,[41,32],Y,[32,123]].map fun p => Value.string (bstr p)).toArray):=hid (by rfl)
 have HCS3 : Hid ((#[.string ⟨#[114,101,116,117,114,110,32]⟩,.string (bstr R),.string ⟨#[59]⟩] : Array Value) = ([tRet,R,[59]].map fun p => Value.string (bstr p)).toArray):=hid (by rfl)
 have HCS4 : Hid ((#[.string ⟨#[125]⟩] : Array Value) = ([[125]].map fun p => Value.string (bstr p)).toArray):=hid (by rfl)
 have hln1 : bs.length + T1.length ≤ 100000000000000:=by omega
 have hln2 : (bs ++ T1).length + T2.length ≤ 100000000000000:=by (rw [List.length_append];omega)
 have hln3 : (bs ++ T1 ++ T2).length + T3.length ≤ 100000000000000:=by (rw [List.length_append,List.length_append];omega)
 have hln4 : (bs ++ T1 ++ T2 ++ T3).length + T4.length ≤ 100000000000000:=by (rw [List.length_append,List.length_append,List.length_append];omega)
 have hA:=below_of_alloc W (.cells #[.int .i64 a,.string (bstr nm),.slice zp yp cp,.bool tr,.bool sc,.slice zb yb cb,.int .i64 ret.k,.int .i64 ret.op,.int .i64 ret.n,.string (bstr ret.nm),.slice zk yk ck,.int .i64 ret.a] 73)
 have hF:=FBlk.new (X:=W) (b:=W.heap.size) (a:=a) (nm:=bstr nm) (pv:=.slice zp yp cp) (tr:=tr) (sc:=sc) (bv:=.slice zb yb cb) (k:=ret.k) (q:=ret.op) (n:=ret.n) (s:=bstr ret.nm) (kv:=.slice zk yk ck) (xa:=ret.a) rfl
 have HG : Hid (GSts 16385):=hid (stmts_all 16385)
 have HW0:=hid hw
 have HLB0:=hid hL
 have HI0:=hid (And.intro hp (And.intro hb hk))
 clear hP hY hR hg3 hn1 hn2 hg1 hL1 hL3 hp hb hk hyp hyb hyk hw hL
 go_enter Tryd.func23,Tryd.ntmps23
 go_upto_region 1 with (fail)
 refine name_world ?_
 intro W1 hW1
 rw [← hW1] at hA hF
 clear hW1
 have HA:=hid hA
 have HF:=hid hF
 have HW1:=hid (HW0.out.stay HA.out)
 have HK1 : Hid (KW B b W W1):=hid (KW.below hBW HA.out)
 have HLB1:=hid (HLB0.out.b HK1.out.1)
 have HI1 : Hid (IsPl (fun g => 0 ≤ g) 106 3 pmCells W1 ps (.slice zp yp cp) ∧ IsSts (fun g => 0 ≤ g) W1 bd (.slice zb yb cb) ∧ IsExP (fun g => 0 ≤ g) W1 ret (.slice zk yk ck)):=hid ⟨HI0.out.1.stay HA.out,HI0.out.2.1.keptT (HK1.out.tree HW0.out),HI0.out.2.2.keptT (HK1.out.tree HW0.out)⟩
 have hB1 : B ≤ W1.heap.size:=Nat.le_trans hBW HA.out.size
 have HC : Hid (Below W1.heap.size W1 W1.drew):=hid ((Below.refl _ _).drew)
 obtain ⟨fl,⟨fc0,fc1,fc2,fc3,fc4,fc5,fc6,fc7,fc8,fc9,fc10,fc11⟩,_⟩:=(HF.out.kw2 (HC.out.block _ HF.out.lt)).facts
 clear hA hF
 go_cut [] from 4 (fun X => Wr B b (Lib.byteCells (bs ++ T1)) ((tabs : Nat) : Int) X ∧ KW B b W1 X)
 case first =>
  go_region_law (first
   | (go_simp;go_at_call 13;(with_reducible refine (type_any _ _ _).mono ?_);rintro e1 wt ⟨rfl,hbt⟩;rw [HYY.out];replace HC:=hid (below_ch HC.out hbt);obtain ⟨fl,⟨fc0,fc1,fc2,fc3,fc4,fc5,fc6,fc7,fc8,fc9,fc10,fc11⟩,_⟩:=(HF.out.kw2 (HC.out.block _ HF.out.lt)).facts;clear hbt)
   | (go_simp;go_at_call 49;(with_reducible refine (params_any _ (hid (HI1.out.1.stay HC.out)) HN1.out HN2.out P HP).mono ?_);rintro e1 wt ⟨rfl,hbt⟩;replace HC:=hid (below_ch HC.out hbt);obtain ⟨fl,⟨fc0,fc1,fc2,fc3,fc4,fc5,fc6,fc7,fc8,fc9,fc10,fc11⟩,_⟩:=(HF.out.kw2 (HC.out.block _ HF.out.lt)).facts;clear hbt)
   | (go_simp;go_at_call 20;(with_reducible refine (line_at B b _ _ 7 bs tabs [tFunc,nm,[40],P,[41,32],Y,[32,123]] rfl T1 HL1.out _ HCS1 _ (hid ((HW1.out.stay HC.out).alloc _)) (heap_alloc_new _ _) hln1 (by (have:=HC.out.size;simp;omega)) (by decide)).mono ?_);rintro e9 w9 ⟨rfl,hw9,hk9⟩))
  all_goals (go_wp2_with fail;go_meet)
  all_goals exact ⟨hw9,(KW.below hB1 HC.out).trans ((KW.alloc (.refl _ _ _) (by (have:=HC.out.size;omega)) _).trans hk9)⟩
 case rest =>
  obtain ⟨hw1,hk1⟩:=hcut
  have HW2:=hid hw1
  have HK2:=hid hk1
  have HF2 : Hid (FBlk wc W.heap.size a (bstr nm) (.slice zp yp cp) tr sc (.slice zb yb cb) ret.k ret.op ret.n (bstr ret.nm) (.slice zk yk ck) ret.a):=hid (hk1.keep HW1.out HF.out (by decide))
  have HI2 : Hid (IsSts (fun g => 0 ≤ g) wc bd (.slice zb yb cb)):=hid (HI1.out.2.1.keptT (hk1.tree HW1.out))
  have HE2 : Hid (IsExP (fun g => 0 ≤ g) wc ret (.slice zk yk ck)):=hid (HI1.out.2.2.keptT (hk1.tree HW1.out))
  have HLB2:=hid (HLB1.out.b hk1.1)
  have hB2 : B ≤ wc.heap.size:=Nat.le_trans hB1 hk1.size
  clear fl fc0 fc1 fc2 fc3 fc4 fc5 fc6 fc7 fc8 fc9 fc10 fc11 HC hw1 hk1
  obtain ⟨fl,⟨fc0,fc1,fc2,fc3,fc4,fc5,fc6,fc7,fc8,fc9,fc10,fc11⟩,_⟩:=HF2.out.facts
  go_upto_region 3 with (go_at_call 50;(with_reducible refine (within_any HG T2 HT2 hg2 HG1 HW2 HLB2 hB2 HI2 (by omega) hln2).mono ?_);rintro e2 w2 ⟨rfl,hw2,hk2⟩)
  obtain ⟨c2,f2⟩:=hw2.facts
  have hbl2:=hw2.lt
  clear fl fc0 fc1 fc2 fc3 fc4 fc5 fc6 fc7 fc8 fc9 fc10 fc11
  go_upto_region 4 with (fail)
  refine name_world ?_
  intro W3 hW3
  obtain ⟨hs1,hs2⟩:=hw2.set2 (((tabs + 1 : Nat) : Int))
  have HW3 : Hid (Wr B b (Lib.byteCells (bs ++ T1 ++ T2)) ((tabs + 1 : Nat) : Int) W3):=hid (by (rw [hW3];exact hs1))
  have HK3 : Hid (KW B b wc W3):=hid (hk2.trans (by (rw [hW3];exact hs2)))
  clear hW3 hs1 hs2 c2 f2 hw2 hk2 hbl2
  have HF3 : Hid (FBlk W3 W.heap.size a (bstr nm) (.slice zp yp cp) tr sc (.slice zb yb cb) ret.k ret.op ret.n (bstr ret.nm) (.slice zk yk ck) ret.a):=hid (HK3.out.keep HW2.out HF2.out (by decide))
  have hE3 : IsExP (fun g => 0 ≤ g) W3 ret (.slice zk yk ck):=HE2.out.keptT (HK3.out.tree HW2.out)
  have HLB3:=hid (HLB2.out.b HK3.out.1)
  have hB3 : B ≤ W3.heap.size:=Nat.le_trans hB2 HK3.out.size
  have HSH : Hid (Calls Tryd.prog 51 #[.agg #[.int .i64 ret.k,.int .i64 ret.op,.int .i64 ret.n,.string (bstr ret.nm),.slice zk yk ck,.int .i64 ret.a]] W3 fun e w' => e = .returned (.string (bstr R)) ∧ Below W3.heap.size W3 w'):=hid (by
   have h:=shows_any ret (Nat.lt_of_lt_of_le H3.out.1 (by decide)) (hid H3.out.2.1) zk ck W3 (hid (by (rw [HYK.out];exact hE3.toEx fun _ _ => Nat.zero_le _))) (hid HLB3.out.laid) R (hid HR.out.symm) (hid (by (rw [← HR.out];exact Nat.le_trans H3.out.2.2.1 (by decide))))
   rwa [HYK.out] at h)
  clear hE3
  obtain ⟨fl,⟨fc0,fc1,fc2,fc3,fc4,fc5,fc6,fc7,fc8,fc9,fc10,fc11⟩,_⟩:=HF3.out.facts
  go_upto_region 5 with (first
   | (go_at_call 51;(with_reducible refine (HSH.out).mono ?_);rintro e4 w4 ⟨rfl,hb4⟩)
   | (go_at_call 20;(with_reducible refine (line_at B b _ _ 3 (bs ++ T1 ++ T2) (tabs + 1) [tRet,R,[59]] rfl T3 HL3.out _ HCS3 _ (hid ((HW3.out.stay hb4).alloc _)) (heap_alloc_new _ _) hln3 (by (have:=hb4.size;simp;omega)) (by decide)).mono ?_);rintro e5 w5 ⟨rfl,hw5,hk5⟩))
  have HK5 : Hid (KW B b W3 w5):=hid ((KW.below hB3 hb4).trans ((KW.alloc (.refl _ _ _) (Nat.le_trans hB3 hb4.size) _).trans hk5))
  obtain ⟨O,hO⟩ : ∃ O : Int,O = ((tabs + 1 : Nat) : Int):=⟨_,rfl⟩
  have HW5 : Hid (Wr B b (Lib.byteCells (bs ++ T1 ++ T2 ++ T3)) O w5):=hid (hO ▸ hw5)
  have HO:=hid hO
  clear hO hw5 hk5 hb4 fl fc0 fc1 fc2 fc3 fc4 fc5 fc6 fc7 fc8 fc9 fc10 fc11
  obtain ⟨c2,f2⟩:=HW5.out.facts
  have hbl5:=HW5.out.lt
  go_upto_region 6 with (fail)
  refine name_world ?_
  intro W6 hW6
  have hwd : wrap64 (O - 1) = (tabs : Int):=by (rw [HO.out];unfold wrap64;omega)
  obtain ⟨hs1,hs2⟩:=HW5.out.set2 (wrap64 (O - 1))
  rw [← hW6] at hs1 hs2
  rw [hwd] at hs1
  have HW6:=hid hs1
  have HK6:=hid (HK5.out.trans hs2)
  have hB6 : B ≤ W6.heap.size:=Nat.le_trans hB3 HK6.out.size
  clear hW6 hs1 hs2 hwd c2 f2 hbl5
  go_wp2_with (go_at_call 20;(with_reducible refine (line_at B b _ _ 1 (bs ++ T1 ++ T2 ++ T3) tabs [[125]] rfl T4 HT4.out _ HCS4 _ (hid (HW6.out.alloc _)) (heap_alloc_new _ _) hln4 (by (simp;omega)) (by decide)).mono ?_);rintro e7 w7 ⟨rfl,hw7,hk7⟩)
  go_end0
  refine ⟨rfl,?_,HK1.out.trans (HK2.out.trans (HK3.out.trans (HK6.out.trans ((KW.alloc (.refl _ _ _) hB6 _).trans hk7))))⟩
  have e : bs ++ (T1 ++ (T2 ++ (T3 ++ T4))) = bs ++ T1 ++ T2 ++ T3 ++ T4:=by simp
  rw [e]
  exact hw7
theorem fn_owes (f : Fn) (hg : (∀ s ∈ f.bd,GoodS s) ∧ cntS f.bd ≤ 16385 ∧ GoodE f.ret ∧ f.nm.length ≤ 100000) (hn : NameB f.nm ∧ f.ps.length ≤ 6 ∧ ∀ q ∈ f.ps,NameB q.nm) : GFn fnT f:=by
 intro B b fv bs W hw hL hB hI hlen
 exact fn_any f 0 (by decide) hg.1 hg.2.1 hg.2.2.1 hn.2.1 hn.2.2 _ _ _ _ (hid rfl) (hid rfl) (hid rfl) (hid rfl) B b fv bs W hw hL hB hI (by simpa [fnT] using hlen)
def RSh (x : Ex) : Prop:=∀ (p : Option Addr) (c : Nat) (w : World),IsEx 0 w x (.slice p x.ks.length c) → x.txt.length ≤ 1000000 →
 Calls Tryd.prog 53 #[.agg #[.int .i64 x.k,.int .i64 x.op,.int .i64 x.n,.string (bstr x.nm),.slice p x.ks.length c,.int .i64 x.a]] w fun e w' => e = .returned (.string (bstr (x.txt))) ∧ Below w.heap.size w w'
theorem RSh.use {x : Ex} (h : RSh x) {p : Option Addr} {c y : Nat} {w : World} (T : List UInt8) (hy : Hid (x.ks.length = y)) (hi : Hid (IsEx 0 w x (.slice p y c))) (hT : Hid (x.txt = T)) (hl : T.length ≤ 1000000) :
 Calls Tryd.prog 53 #[.agg #[.int .i64 x.k,.int .i64 x.op,.int .i64 x.n,.string (bstr x.nm),.slice p y c,.int .i64 x.a]] w fun e w' => e = .returned (.string (bstr (T))) ∧ Below w.heap.size w w':=by
 obtain rfl:=hy.out
 obtain rfl:=hT.out
 exact h p c w hi.out hl
theorem rsh_num (n : Int) (a : Nat) (h0 : 0 ≤ n) (h1 : n ≤ 9223372036854775807) : RSh (.mk 0 0 n [] [] a):=by
 intro p c w _ _
 rw [txt_num]
 show Calls Tryd.prog 53 #[.agg #[.int .i64 0,.int .i64 0,.int .i64 n,.string (bstr []),.slice p 0 c,.int .i64 a]] w fun e w' => e = .returned (.string (bstr (Lib.itoa n))) ∧ Below w.heap.size w w'
 have hd : dig n = bstr (Lib.itoa n):=rfl
 rw [← hd]
 clear hd
 have HD:=hid (rdigits_any n)
 have g0 : -9223372036854775808 ≤ n:=by omega
 go_enter Tryd.func53,Tryd.ntmps53
 go_wp2_with (go_at_call 52;(with_reducible refine (HD.out _ g0 h1).mono ?_);rintro e w1 ⟨rfl,rfl⟩)
 go_ret
 exact ⟨rfl,by (refine Fr.below ?_;(with_reducible repeat first | exact Fr.refl _ _ | refine Fr.alloc ?_ _ | refine Fr.drewN ?_ _ | refine Fr.drew ?_ | (refine Fr.set ?_ ?_ _ _;rotate_left;first | exact .inl rfl | (right;simp;done) | (right;simp;omega) | (right;omega)) | refine Fr.step ?_ (by assumption) | refine Fr.stepB ?_ (by assumption)))⟩
theorem rsh_tru (a : Nat) : RSh (.mk 1 0 1 [] [] a):=by
 intro p c w _ _
 rw [txt_truth]
 show Calls Tryd.prog 53 #[.agg #[.int .i64 1,.int .i64 0,.int .i64 1,.string (bstr []),.slice p 0 c,.int .i64 a]] w fun e w' => e = .returned (.string (bstr (truB))) ∧ Below w.heap.size w w'
 go_enter Tryd.func53,Tryd.ntmps53
 go_wp2
 go_ret
 exact ⟨rfl,by (refine Fr.below ?_;(with_reducible repeat first | exact Fr.refl _ _ | refine Fr.alloc ?_ _ | refine Fr.drewN ?_ _ | refine Fr.drew ?_ | (refine Fr.set ?_ ?_ _ _;rotate_left;first | exact .inl rfl | (right;simp;done) | (right;simp;omega) | (right;omega)) | refine Fr.step ?_ (by assumption) | refine Fr.stepB ?_ (by assumption)))⟩
theorem rsh_fls (a : Nat) : RSh (.mk 1 0 0 [] [] a):=by
 intro p c w _ _
 rw [txt_truth]
 show Calls Tryd.prog 53 #[.agg #[.int .i64 1,.int .i64 0,.int .i64 0,.string (bstr []),.slice p 0 c,.int .i64 a]] w fun e w' => e = .returned (.string (bstr (flsB))) ∧ Below w.heap.size w w'
 go_enter Tryd.func53,Tryd.ntmps53
 go_wp2
 go_ret
 exact ⟨rfl,by (refine Fr.below ?_;(with_reducible repeat first | exact Fr.refl _ _ | refine Fr.alloc ?_ _ | refine Fr.drewN ?_ _ | refine Fr.drew ?_ | (refine Fr.set ?_ ?_ _ _;rotate_left;first | exact .inl rfl | (right;simp;done) | (right;simp;omega) | (right;omega)) | refine Fr.step ?_ (by assumption) | refine Fr.stepB ?_ (by assumption)))⟩
theorem rsh_var (nm : List UInt8) (a : Nat) : RSh (.mk 2 0 0 nm [] a):=by
 intro p c w _ _
 rw [txt_var]
 show Calls Tryd.prog 53 #[.agg #[.int .i64 2,.int .i64 0,.int .i64 0,.string (bstr nm),.slice p 0 c,.int .i64 a]] w fun e w' => e = .returned (.string (bstr (nm))) ∧ Below w.heap.size w w'
 go_enter Tryd.func53,Tryd.ntmps53
 go_wp2
 go_ret
 exact ⟨rfl,by (refine Fr.below ?_;(with_reducible repeat first | exact Fr.refl _ _ | refine Fr.alloc ?_ _ | refine Fr.drewN ?_ _ | refine Fr.drew ?_ | (refine Fr.set ?_ ?_ _ _;rotate_left;first | exact .inl rfl | (right;simp;done) | (right;simp;omega) | (right;omega)) | refine Fr.step ?_ (by assumption) | refine Fr.stepB ?_ (by assumption)))⟩
theorem rrank_e (k op n : Int) (nm : ByteArray) (p : Option Addr) (y c : Nat) (a : Int) (w : World) : Calls Tryd.prog 86 #[.agg #[.int .i64 k,.int .i64 op,.int .i64 n,.string nm,.slice p y c,.int .i64 a]] w fun e w' => e = .returned (.int .i64 (if k = 6 then rnkZ op else 99)) ∧ Below w.heap.size w w':=by
 have HB:=below_of_alloc w (.cells #[.int .i64 k,.int .i64 op,.int .i64 n,.string nm,.slice p y c,.int .i64 a] 71)
 have B0:=Blk.new (X:=w) rfl (.int .i64 k) (.int .i64 op) (.int .i64 n) (.string nm) (.slice p y c) (.int .i64 a)
 obtain ⟨bl,c0,c1,_⟩:=B0.facts
 have HBB:=hid HB
 have HR:=hid (rrank_any op)
 clear B0 HB
 by_cases hk : k = 6
 · have hb : (k == 6) = true:=by simpa using hk
   rw [if_pos hk]
   clear hk
   go_enter Tryd.func86,Tryd.ntmps86
   go_wp2_with (go_at_call 68;(with_reducible refine (HR.out _).mono ?_);rintro e w1 ⟨rfl,hb1⟩)
   go_ret
   exact ⟨rfl,below_ch HBB.out hb1⟩
 · have hb : (k == 6) = false:=by simpa using hk
   rw [if_neg hk]
   clear hk
   go_enter Tryd.func86,Tryd.ntmps86
   go_wp2
   go_ret
   exact ⟨rfl,HBB.out⟩
theorem txtAt_R (e : Ex) (least : Int) (h99 : least ≤ 99) : e.txtAt least = if (if e.k = 6 then rnkZ e.op else 99) < least then 40 :: (e.txt ++ [41]) else e.txt:=by
 by_cases hk : e.k = 6
 · rw [if_pos hk]
   by_cases h : rnkZ e.op < least
   · rw [if_pos h,txtAt_brk hk h]
   · rw [if_neg h,txtAt_low (by omega)]
 · rw [if_neg hk,if_neg (by omega),txtAt_not hk]
theorem txtAt_99 (e : Ex) : e.txtAt 99 = e.txtAt 11:=by
 rw [txtAt_R e 99 (by decide),txtAt_R e 11 (by decide)]
 by_cases hk : e.k = 6
 · have:=(rnkZ_le e.op).2
   rw [if_pos hk,if_pos (by omega),if_pos (by omega)]
 · rw [if_neg hk,if_neg (by decide),if_neg (by decide)]
theorem rbound_any {e : Ex} (HE : Hid (RSh e)) (least : Int) (h99 : least ≤ 99) {p : Option Addr} {c y : Nat} {w : World} (T : List UInt8) (hy : Hid (e.ks.length = y)) (hi : Hid (IsEx 0 w e (.slice p y c))) (hT : Hid (e.txtAt least = T)) (hl : T.length ≤ 1000000) :
 Calls Tryd.prog 67 #[.agg #[.int .i64 e.k,.int .i64 e.op,.int .i64 e.n,.string (bstr e.nm),.slice p y c,.int .i64 e.a],.int .i64 least] w fun e w' => e = .returned (.string (bstr (T))) ∧ Below w.heap.size w w':=by
 have HB:=below_of_alloc w (.cells #[.int .i64 e.k,.int .i64 e.op,.int .i64 e.n,.string (bstr e.nm),.slice p y c,.int .i64 e.a] 71)
 have B0:=Blk.new (X:=w) rfl (.int .i64 e.k) (.int .i64 e.op) (.int .i64 e.n) (.string (bstr e.nm)) (.slice p y c) (.int .i64 e.a)
 have HBB:=hid HB
 have HBL:=hid B0
 obtain ⟨S,hS⟩ : ∃ S,e.txt = S:=⟨_,rfl⟩
 have HS:=hid hS
 obtain ⟨R,hR⟩ : ∃ R,(if e.k = 6 then rnkZ e.op else 99) = R:=⟨_,rfl⟩
 have hTR:=txtAt_R e least h99
 rw [hT.out,hS,hR] at hTR
 have hSl : S.length ≤ 1000000:=by
  by_cases hlt : R < least
  · rw [if_pos hlt] at hTR
    have:=congrArg List.length hTR
    simp only [List.length_cons,List.length_append,List.length_nil] at this
    omega
  · rw [if_neg hlt] at hTR
    rw [← hTR]
    exact hl
 have HX : Hid (∀ X,Below w.heap.size w X → Calls Tryd.prog 53 #[.agg #[.int .i64 e.k,.int .i64 e.op,.int .i64 e.n,.string (bstr e.nm),.slice p y c,.int .i64 e.a]] X fun e w' => e = .returned (.string (bstr S)) ∧ Below X.heap.size X w'):=hid fun X hX => HE.out.use S hy (hid (hi.out.stay hX)) HS hSl
 have HRK:=hid (rrank_e e.k e.op e.n (bstr e.nm) p y c e.a)
 have HR:=hid hR
 obtain ⟨bl,c0,c1,c2,c3,c4,c5,_⟩:=B0.facts
 clear B0 HB hS hR
 by_cases hlt : R < least
 · rw [if_pos hlt] at hTR
   have hTT:=hid hTR
   have hsl : (bstr S).size ≤ 1000000:=by (have:=congrArg List.length hTR;simp only [List.length_cons,List.length_append,List.length_nil] at this;show S.length ≤ _;omega)
   have e1 : (⟨#[40]⟩ : ByteArray).size = 1:=rfl
   have e2 : (⟨#[41]⟩ : ByteArray).size = 1:=rfl
   have hc1 : ¬ 9223372036854775807 < (⟨#[40]⟩ : ByteArray).size + (bstr S).size:=by omega
   have hc2 : ¬ 9223372036854775807 < 1 + (bstr S).size:=by omega
   have hc3 : ¬ 9223372036854775807 < ((⟨#[40]⟩ : ByteArray) ++ bstr S).size + 1:=by (rw [ByteArray.size_append];omega)
   have hc4 : ¬ 9223372036854775807 < 1 + (bstr S).size + 1:=by omega
   clear hTR e1 e2
   go_enter Tryd.func67,Tryd.ntmps67
   go_wp2_with (first
    | (go_at_call 86;(with_reducible refine (HRK.out _).mono ?_);rintro e1 w1 ⟨rfl,hb1⟩;rw [HR.out];obtain ⟨bl,c0,c1,c2,c3,c4,c5,_⟩:=(HBL.out.stay hb1).facts)
    | (go_at_call 53;(with_reducible refine (HX.out _ (below_ch HBB.out hb1)).mono ?_);rintro e2 w2 ⟨rfl,hb2⟩))
   go_ret
   refine ⟨?_,below_ch HBB.out (below_ch hb1 hb2)⟩
   rw [hTT.out,show (⟨#[40]⟩ : ByteArray) = bstr [40] from rfl,show (⟨#[41]⟩ : ByteArray) = bstr [41] from rfl,bstr_cat,bstr_cat]
   rfl
 · rw [if_neg hlt] at hTR
   subst hTR
   go_enter Tryd.func67,Tryd.ntmps67
   go_wp2_with (first
    | (go_at_call 86;(with_reducible refine (HRK.out _).mono ?_);rintro e1 w1 ⟨rfl,hb1⟩;rw [HR.out];obtain ⟨bl,c0,c1,c2,c3,c4,c5,_⟩:=(HBL.out.stay hb1).facts)
    | (go_at_call 53;(with_reducible refine (HX.out _ (below_ch HBB.out hb1)).mono ?_);rintro e2 w2 ⟨rfl,hb2⟩))
   go_ret
   exact ⟨rfl,below_ch HBB.out (below_ch hb1 hb2)⟩
theorem rsh_neg (e : Ex) (a : Nat) (HE : RSh e) : RSh (.mk 4 0 0 [] [e] a):=by
 intro p c w hx hl
 rw [txt_neg,← txtAt_99] at hl ⊢
 obtain ⟨g,cap,u,hv,_,hgl,hxe,k0,k1,k2,k3,k4,k5⟩:=hx.kid (i:=0) (x:=e) rfl
 cases hv
 obtain ⟨pe,ce,rfl⟩:=hxe.form
 obtain ⟨y,hy⟩ : ∃ y,e.ks.length = y:=⟨_,rfl⟩
 rw [hy] at k4 hxe
 simp only [Nat.zero_mul,Nat.zero_add] at k0 k1 k2 k3 k4 k5
 have HY:=hid hy
 have HXE:=hid hxe
 obtain ⟨T,hT⟩ : ∃ T,e.txtAt 99 = T:=⟨_,rfl⟩
 rw [hT] at hl ⊢
 have HT:=hid hT
 have hl2 : T.length ≤ 1000000:=by (simp only [List.length_cons] at hl;omega)
 have hs2 : (bstr T).size ≤ 1000000:=hl2
 show Calls Tryd.prog 53 #[.agg #[.int .i64 4,.int .i64 0,.int .i64 0,.string (bstr []),.slice (some ⟨g,0,none⟩) 1 c,.int .i64 a]] w fun e w' => e = .returned (.string (bstr (45 :: T))) ∧ Below w.heap.size w w'
 have HB:=below_of_alloc w (.cells #[.int .i64 4,.int .i64 0,.int .i64 0,.string (bstr []),.slice (some ⟨g,0,none⟩) 1 c,.int .i64 a] 71)
 have B0:=Blk.new (X:=w) rfl (.int .i64 4) (.int .i64 0) (.int .i64 0) (.string (bstr [])) (.slice (some ⟨g,0,none⟩) 1 c) (.int .i64 a)
 have HBB:=hid HB
 have HH:=hid HE
 have hz:=HB.size
 have d0:=(HB.cell (p:=⟨g,0,none⟩) hgl).trans k0
 have d1:=(HB.cell (p:=⟨g,1,none⟩) hgl).trans k1
 have d2:=(HB.cell (p:=⟨g,2,none⟩) hgl).trans k2
 have d3:=(HB.cell (p:=⟨g,3,none⟩) hgl).trans k3
 have d4:=(HB.cell (p:=⟨g,4,none⟩) hgl).trans k4
 have d5:=(HB.cell (p:=⟨g,5,none⟩) hgl).trans k5
 obtain ⟨bl,c0,c1,c2,c3,c4,c5,_⟩:=B0.facts
 have hc1 : ¬ 9223372036854775807 < (⟨#[45]⟩ : ByteArray).size + (bstr T).size:=by (have : (⟨#[45]⟩ : ByteArray).size = 1:=rfl;omega)
 have hc2 : ¬ 9223372036854775807 < 1 + (bstr T).size:=by omega
 clear B0 HB hx hT hy hxe k0 k1 k2 k3 k4 k5 HE hl
 go_enter Tryd.func53,Tryd.ntmps53
 go_wp2_with (go_at_call 67;(with_reducible refine (rbound_any HH 99 (by decide) T HY (hid (HXE.out.stay HBB.out)) HT hl2).mono ?_);rintro e1 w1 ⟨rfl,hb1⟩)
 go_ret
 refine ⟨?_,below_ch HBB.out hb1⟩
 rw [show (⟨#[45]⟩ : ByteArray) = bstr [45] from rfl,bstr_cat]
 rfl
theorem rsh_not (e : Ex) (a : Nat) (HE : RSh e) : RSh (.mk 5 0 0 [] [e] a):=by
 intro p c w hx hl
 rw [txt_not,← txtAt_99] at hl ⊢
 obtain ⟨g,cap,u,hv,_,hgl,hxe,k0,k1,k2,k3,k4,k5⟩:=hx.kid (i:=0) (x:=e) rfl
 cases hv
 obtain ⟨pe,ce,rfl⟩:=hxe.form
 obtain ⟨y,hy⟩ : ∃ y,e.ks.length = y:=⟨_,rfl⟩
 rw [hy] at k4 hxe
 simp only [Nat.zero_mul,Nat.zero_add] at k0 k1 k2 k3 k4 k5
 have HY:=hid hy
 have HXE:=hid hxe
 obtain ⟨T,hT⟩ : ∃ T,e.txtAt 99 = T:=⟨_,rfl⟩
 rw [hT] at hl ⊢
 have HT:=hid hT
 have hl2 : T.length ≤ 1000000:=by (simp only [List.length_cons] at hl;omega)
 have hs2 : (bstr T).size ≤ 1000000:=hl2
 show Calls Tryd.prog 53 #[.agg #[.int .i64 5,.int .i64 0,.int .i64 0,.string (bstr []),.slice (some ⟨g,0,none⟩) 1 c,.int .i64 a]] w fun e w' => e = .returned (.string (bstr (33 :: T))) ∧ Below w.heap.size w w'
 have HB:=below_of_alloc w (.cells #[.int .i64 5,.int .i64 0,.int .i64 0,.string (bstr []),.slice (some ⟨g,0,none⟩) 1 c,.int .i64 a] 71)
 have B0:=Blk.new (X:=w) rfl (.int .i64 5) (.int .i64 0) (.int .i64 0) (.string (bstr [])) (.slice (some ⟨g,0,none⟩) 1 c) (.int .i64 a)
 have HBB:=hid HB
 have HH:=hid HE
 have hz:=HB.size
 have d0:=(HB.cell (p:=⟨g,0,none⟩) hgl).trans k0
 have d1:=(HB.cell (p:=⟨g,1,none⟩) hgl).trans k1
 have d2:=(HB.cell (p:=⟨g,2,none⟩) hgl).trans k2
 have d3:=(HB.cell (p:=⟨g,3,none⟩) hgl).trans k3
 have d4:=(HB.cell (p:=⟨g,4,none⟩) hgl).trans k4
 have d5:=(HB.cell (p:=⟨g,5,none⟩) hgl).trans k5
 obtain ⟨bl,c0,c1,c2,c3,c4,c5,_⟩:=B0.facts
 have hc1 : ¬ 9223372036854775807 < (⟨#[33]⟩ : ByteArray).size + (bstr T).size:=by (have : (⟨#[33]⟩ : ByteArray).size = 1:=rfl;omega)
 have hc2 : ¬ 9223372036854775807 < 1 + (bstr T).size:=by omega
 clear B0 HB hx hT hy hxe k0 k1 k2 k3 k4 k5 HE hl
 go_enter Tryd.func53,Tryd.ntmps53
 go_wp2_with (go_at_call 67;(with_reducible refine (rbound_any HH 99 (by decide) T HY (hid (HXE.out.stay HBB.out)) HT hl2).mono ?_);rintro e1 w1 ⟨rfl,hb1⟩)
 go_ret
 refine ⟨?_,below_ch HBB.out hb1⟩
 rw [show (⟨#[33]⟩ : ByteArray) = bstr [33] from rfl,bstr_cat]
 rfl
theorem rsh_elem (nm : List UInt8) (e : Ex) (a : Nat) (HE : RSh e) : RSh (.mk 3 0 0 nm [e] a):=by
 intro p c w hx hl
 rw [txt_elem] at hl ⊢
 obtain ⟨g,cap,u,hv,_,hgl,hxe,k0,k1,k2,k3,k4,k5⟩:=hx.kid (i:=0) (x:=e) rfl
 cases hv
 obtain ⟨pe,ce,rfl⟩:=hxe.form
 obtain ⟨y,hy⟩ : ∃ y,e.ks.length = y:=⟨_,rfl⟩
 rw [hy] at k4 hxe
 simp only [Nat.zero_mul,Nat.zero_add] at k0 k1 k2 k3 k4 k5
 have HY:=hid hy
 have HXE:=hid hxe
 obtain ⟨T,hT⟩ : ∃ T,e.txt = T:=⟨_,rfl⟩
 rw [hT] at hl ⊢
 have HT:=hid hT
 have hl2 : T.length ≤ 1000000 ∧ nm.length ≤ 1000000:=by (simp only [List.length_cons,List.length_append,List.length_nil] at hl;omega)
 have hs2 : (bstr T).size ≤ 1000000:=hl2.1
 have hs3 : (bstr nm).size ≤ 1000000:=hl2.2
 show Calls Tryd.prog 53 #[.agg #[.int .i64 3,.int .i64 0,.int .i64 0,.string (bstr nm),.slice (some ⟨g,0,none⟩) 1 c,.int .i64 a]] w fun e w' => e = .returned (.string (bstr (nm ++ 91 :: (T ++ [93])))) ∧ Below w.heap.size w w'
 have HB:=below_of_alloc w (.cells #[.int .i64 3,.int .i64 0,.int .i64 0,.string (bstr nm),.slice (some ⟨g,0,none⟩) 1 c,.int .i64 a] 71)
 have B0:=Blk.new (X:=w) rfl (.int .i64 3) (.int .i64 0) (.int .i64 0) (.string (bstr nm)) (.slice (some ⟨g,0,none⟩) 1 c) (.int .i64 a)
 have HH:=hid HE
 have HSH : Hid (∀ X,Below w.heap.size w X → Calls Tryd.prog 53 #[.agg #[.int .i64 e.k,.int .i64 e.op,.int .i64 e.n,.string (bstr e.nm),.slice pe y ce,.int .i64 e.a]] X fun e w' => e = .returned (.string (bstr T)) ∧ Below X.heap.size X w'):=hid fun X hX => HH.out.use T HY (hid (HXE.out.stay hX)) HT hl2.1
 obtain ⟨bl,c0,c1,c2,c3,c4,c5,_⟩:=B0.facts
 have HFIN : Hid (bstr nm ++ (⟨#[91]⟩ : ByteArray) ++ bstr T ++ (⟨#[93]⟩ : ByteArray) = bstr (nm ++ 91 :: (T ++ [93]))):=hid (by
  rw [show (⟨#[91]⟩ : ByteArray) = bstr [91] from rfl,show (⟨#[93]⟩ : ByteArray) = bstr [93] from rfl,bstr_cat,bstr_cat,bstr_cat]
  simp)
 have hc1 : ¬ 9223372036854775807 < (bstr nm).size + 1:=by omega
 have hc2 : ¬ 9223372036854775807 < (bstr nm ++ (⟨#[91]⟩ : ByteArray)).size + (bstr T).size:=by (rw [ByteArray.size_append];have : (⟨#[91]⟩ : ByteArray).size = 1:=rfl;omega)
 have hc3 : ¬ 9223372036854775807 < (bstr nm).size + 1 + (bstr T).size:=by omega
 have hc4 : ¬ 9223372036854775807 < (bstr nm ++ (⟨#[91]⟩ : ByteArray) ++ bstr T).size + 1:=by (rw [ByteArray.size_append,ByteArray.size_append];have : (⟨#[91]⟩ : ByteArray).size = 1:=rfl;omega)
 have hc5 : ¬ 9223372036854775807 < (bstr nm).size + 1 + (bstr T).size + 1:=by omega
 have HKC : Hid (∀ X,Below w.heap.size w X → X.cell? ⟨g,0,none⟩ = some (.int .i64 e.k) ∧ X.cell? ⟨g,1,none⟩ = some (.int .i64 e.op) ∧ X.cell? ⟨g,2,none⟩ = some (.int .i64 e.n) ∧ X.cell? ⟨g,3,none⟩ = some (.string (bstr e.nm)) ∧ X.cell? ⟨g,4,none⟩ = some (.slice pe y ce) ∧ X.cell? ⟨g,5,none⟩ = some (.int .i64 e.a)):=hid fun X hX => ⟨(hX.cell (p:=⟨g,0,none⟩) hgl).trans k0,(hX.cell (p:=⟨g,1,none⟩) hgl).trans k1,(hX.cell (p:=⟨g,2,none⟩) hgl).trans k2,(hX.cell (p:=⟨g,3,none⟩) hgl).trans k3,(hX.cell (p:=⟨g,4,none⟩) hgl).trans k4,(hX.cell (p:=⟨g,5,none⟩) hgl).trans k5⟩
 clear hx hT hy hxe k0 k1 k2 k3 k4 k5 HE hl
 go_enter Tryd.func53,Tryd.ntmps53
 go_upto_region 11 with (fail)
 refine name_world ?_
 intro W1 hW1
 rw [← hW1] at HB B0
 clear hW1 bl c0 c1 c2 c3 c4 c5
 have HBB:=hid HB
 have HBL:=hid B0
 have HC : Hid (Below W1.heap.size W1 W1.drew):=hid ((Below.refl _ _).drew)
 have hgl1 : g < W1.heap.size:=Nat.lt_of_lt_of_le hgl HB.size
 clear HB B0
 obtain ⟨bl,c0,c1,c2,c3,c4,c5,_⟩:=(HBL.out.stay HC.out).facts
 obtain ⟨d0,d1,d2,d3,d4,d5⟩:=HKC.out _ (below_ch HBB.out HC.out)
 go_region_law (go_simp;go_at_call 53;(with_reducible refine (HSH.out _ (below_ch HBB.out HC.out)).mono ?_);rintro e1 wt ⟨rfl,hbt⟩;replace HC:=hid (below_ch HC.out hbt);obtain ⟨bl,c0,c1,c2,c3,c4,c5,_⟩:=(HBL.out.stay HC.out).facts;clear hbt)
 all_goals
  go_wp2
  go_ret
  refine ⟨?_,below_ch HBB.out HC.out⟩
  rw [← HFIN.out]
  first | rfl | (simp;done)
theorem wrap_small (n : Nat) (h : n < 1000000) : IntKind.i64.wrap (n : Int) = (n : Int):=by
 have e : (n : Int) % 18446744073709551616 = n:=Int.emod_eq_of_lt (by omega) (by omega)
 have e2 : ((2 : Int) ^ 64) = 18446744073709551616:=by decide
 simp only [IntKind.wrap,IntKind.bits,IntKind.signed,e2,e]
 rw [if_neg]
 simp
 omega
def dstT (k : Nat) : Nat:=if k = 20 then 2 else 55 + k
theorem dstT_inj {i k : Nat} (h : dstT i = dstT k) (hi : i < 21) (hk : k < 21) : i = k:=by
 unfold dstT at h
 split at h <;> split at h <;> omega
theorem put21 {vs : List (Option Value)} {t0 : Array Value} {listed : Array Bool} {a : Act} (h : Ins 21 99 dstT vs t0 listed a) (k d : Nat) (v : Value) (hk : k < 21) (hd : dstT k = d) (hv : vs[k]? = some (some v)) : Ins 21 99 dstT vs t0 (listed.setIfInBounds k true) (a.put (some d) v):=by
 subst hd
 exact h.put hk (by unfold dstT;split <;> omega) (fun i hi e => dstT_inj e hi hk) (fun u hu => by rw [hv] at hu;cases hu;rfl)
theorem none21 : ∀ k,k < 21 → (Array.replicate 21 false).getD k false = false:=by decide
theorem run_indexAddr {P : Program} {o : Oper} {w : World} {ev : Operand → Value} {t : TypeId} {x ix : Operand} {u i v : Value} (ho : o.op = .indexAddr t x ix) (h : ev x = u) (hi : ev ix = i) (hv : (Instr.indexAt t u i).run P w = .ok v w) : (execOp ev o).run P w = .ok (.value v) w:=by
 subst h hi
 unfold execOp
 rw [ho]
 simp [hv,Result.andThen]
theorem rsh_two (j : Nat) (hj : j < 19) (l r : Ex) (a : Nat) (HL : RSh l) (HR : RSh r) : RSh (.mk 6 j 0 [] [l,r] a):=by
 intro p c w hx hl
 rw [txt_two] at hl ⊢
 obtain ⟨o,ho⟩ : ∃ o : Int,(j : Int) = o:=⟨_,rfl⟩
 obtain ⟨g,cap,u,hv,_,hgl,hxl,k0,k1,k2,k3,k4,k5⟩:=hx.kid (i:=0) (x:=l) rfl
 cases hv
 obtain ⟨_,_,u2,hv,_,_,hxr,m0,m1,m2,m3,m4,m5⟩:=hx.kid (i:=1) (x:=r) rfl
 cases hv
 obtain ⟨pl,cl,rfl⟩:=hxl.form
 obtain ⟨pr,cr,rfl⟩:=hxr.form
 obtain ⟨yl,hyl⟩ : ∃ y,l.ks.length = y:=⟨_,rfl⟩
 obtain ⟨yr,hyr⟩ : ∃ y,r.ks.length = y:=⟨_,rfl⟩
 rw [hyl] at k4 hxl
 rw [hyr] at m4 hxr
 simp only [Nat.zero_mul,Nat.zero_add] at k0 k1 k2 k3 k4 k5
 simp only [Nat.one_mul,Nat.reduceAdd] at m0 m1 m2 m3 m4 m5
 have HYL:=hid hyl
 have HYR:=hid hyr
 have HXL:=hid hxl
 have HXR:=hid hxr
 rw [ho] at hl ⊢
 have hK0:=(rnkZ_le o).1
 have hK1:=(rnkZ_le o).2
 obtain ⟨K,hK⟩ : ∃ K : Int,rnkZ o = K:=⟨_,rfl⟩
 have HK:=hid hK
 rw [hK] at hl hK0 hK1 ⊢
 obtain ⟨TL,hTL⟩ : ∃ T,l.txtAt K = T:=⟨_,rfl⟩
 obtain ⟨TR,hTR⟩ : ∃ T,r.txtAt (K + 1) = T:=⟨_,rfl⟩
 rw [hTL,hTR] at hl ⊢
 have HTL:=hid hTL
 have HTR:=hid hTR
 have hl2 : TL.length ≤ 1000000 ∧ TR.length ≤ 1000000:=by (simp only [List.length_append] at hl;omega)
 have hs1 : (bstr TL).size ≤ 1000000:=hl2.1
 have hs2 : (bstr TR).size ≤ 1000000:=hl2.2
 obtain ⟨SG,hSG⟩ : ∃ S,sgnZ o = S:=⟨_,rfl⟩
 have hs3 : SG.size ≤ 2:=by (rw [← hSG];exact sgn_short o)
 have HSG:=hid hSG
 have HFIN : Hid (bstr TL ++ (⟨#[32]⟩ : ByteArray) ++ SG ++ (⟨#[32]⟩ : ByteArray) ++ bstr TR = bstr (TL ++ (opT o ++ TR))):=hid (by
  have e : SG = bstr (sgnZ o).data.toList:=by (rw [hSG];exact (bstr_back SG).symm)
  rw [e,show (⟨#[32]⟩ : ByteArray) = bstr [32] from rfl,bstr_cat,bstr_cat,bstr_cat,bstr_cat]
  simp [opT])
 have e1 : (⟨#[32]⟩ : ByteArray).size = 1:=rfl
 have hb1 : (bstr TL ++ (⟨#[32]⟩ : ByteArray)).size ≤ 1000001:=by (rw [ByteArray.size_append];omega)
 have hb2 : (bstr TL ++ (⟨#[32]⟩ : ByteArray) ++ SG).size ≤ 1000003:=by (rw [ByteArray.size_append];omega)
 have hb3 : (bstr TL ++ (⟨#[32]⟩ : ByteArray) ++ SG ++ (⟨#[32]⟩ : ByteArray)).size ≤ 1000004:=by (rw [ByteArray.size_append];omega)
 have hc1 : (bstr TL).size + (⟨#[32]⟩ : ByteArray).size ≤ 9223372036854775807:=by omega
 have hc2 : (bstr TL ++ (⟨#[32]⟩ : ByteArray)).size + SG.size ≤ 9223372036854775807:=by omega
 have hc3 : (bstr TL ++ (⟨#[32]⟩ : ByteArray) ++ SG).size + (⟨#[32]⟩ : ByteArray).size ≤ 9223372036854775807:=by omega
 have hc4 : (bstr TL ++ (⟨#[32]⟩ : ByteArray) ++ SG ++ (⟨#[32]⟩ : ByteArray)).size + (bstr TR).size ≤ 9223372036854775807:=by omega
 have hd1 : (bstr TL).size + 1 ≤ 9223372036854775807:=by omega
 have hd2 : (bstr TL).size + 1 + SG.size ≤ 9223372036854775807:=by omega
 have hd3 : (bstr TL).size + 1 + SG.size + 1 ≤ 9223372036854775807:=by omega
 have hd4 : (bstr TL).size + 1 + SG.size + 1 + (bstr TR).size ≤ 9223372036854775807:=by omega
 have HCC:=hid (And.intro hc1 (And.intro hc2 (And.intro hc3 hc4)))
 have HDD:=hid (And.intro hd1 (And.intro hd2 (And.intro hd3 hd4)))
 show Calls Tryd.prog 53 #[.agg #[.int .i64 6,.int .i64 o,.int .i64 0,.string (bstr []),.slice (some ⟨g,0,none⟩) 2 c,.int .i64 a]] w fun e w' => e = .returned (.string (bstr (TL ++ (opT o ++ TR)))) ∧ Below w.heap.size w w'
 clear ho
 have HB:=below_of_alloc w (.cells #[.int .i64 6,.int .i64 o,.int .i64 0,.string (bstr []),.slice (some ⟨g,0,none⟩) 2 c,.int .i64 a] 71)
 have B0:=Blk.new (X:=w) rfl (.int .i64 6) (.int .i64 o) (.int .i64 0) (.string (bstr [])) (.slice (some ⟨g,0,none⟩) 2 c) (.int .i64 a)
 have HKL : Hid (∀ X,Below w.heap.size w X → X.cell? ⟨g,0,none⟩ = some (.int .i64 l.k) ∧ X.cell? ⟨g,1,none⟩ = some (.int .i64 l.op) ∧ X.cell? ⟨g,2,none⟩ = some (.int .i64 l.n) ∧ X.cell? ⟨g,3,none⟩ = some (.string (bstr l.nm)) ∧ X.cell? ⟨g,4,none⟩ = some (.slice pl yl cl) ∧ X.cell? ⟨g,5,none⟩ = some (.int .i64 l.a)):=hid fun X hX => ⟨(hX.cell (p:=⟨g,0,none⟩) hgl).trans k0,(hX.cell (p:=⟨g,1,none⟩) hgl).trans k1,(hX.cell (p:=⟨g,2,none⟩) hgl).trans k2,(hX.cell (p:=⟨g,3,none⟩) hgl).trans k3,(hX.cell (p:=⟨g,4,none⟩) hgl).trans k4,(hX.cell (p:=⟨g,5,none⟩) hgl).trans k5⟩
 have HKR : Hid (∀ X,Below w.heap.size w X → X.cell? ⟨g,6,none⟩ = some (.int .i64 r.k) ∧ X.cell? ⟨g,7,none⟩ = some (.int .i64 r.op) ∧ X.cell? ⟨g,8,none⟩ = some (.int .i64 r.n) ∧ X.cell? ⟨g,9,none⟩ = some (.string (bstr r.nm)) ∧ X.cell? ⟨g,10,none⟩ = some (.slice pr yr cr) ∧ X.cell? ⟨g,11,none⟩ = some (.int .i64 r.a)):=hid fun X hX => ⟨(hX.cell (p:=⟨g,6,none⟩) hgl).trans m0,(hX.cell (p:=⟨g,7,none⟩) hgl).trans m1,(hX.cell (p:=⟨g,8,none⟩) hgl).trans m2,(hX.cell (p:=⟨g,9,none⟩) hgl).trans m3,(hX.cell (p:=⟨g,10,none⟩) hgl).trans m4,(hX.cell (p:=⟨g,11,none⟩) hgl).trans m5⟩
 have HLL:=hid HL
 have HRR:=hid HR
 have HRK:=hid (rrank_any o)
 obtain ⟨bl,c0,c1,c2,c3,c4,c5,_⟩:=B0.facts
 clear hx hl hyl hyr hxl hxr k0 k1 k2 k3 k4 k5 m0 m1 m2 m3 m4 m5 hTL hTR hK HL HR hSG e1 hc1 hc2 hc3 hc4 hd1 hd2 hd3 hd4 hb1 hb2 hb3
 clear hj
 go_enter Tryd.func53,Tryd.ntmps53
 go_upto_region 18 with (go_at_call 68;(with_reducible refine (HRK.out _).mono ?_);rintro e1 w1 ⟨rfl,hb1⟩;rw [HK.out])
 refine name_world ?_
 intro W1 hW1
 have HW : Hid (Below w.heap.size w W1):=hid (by (rw [hW1];exact below_ch HB hb1))
 have HBL : Hid (Blk W1 w.heap.size (.int .i64 6) (.int .i64 o) (.int .i64 0) (.string (bstr [])) (.slice (some ⟨g,0,none⟩) 2 c) (.int .i64 a)):=hid (by (rw [hW1];exact B0.stay hb1))
 clear hW1 HB B0 hb1 bl c0 c1 c2 c3 c4 c5
 refine name_act ?_
 intro a0 ha0
 have p1 : a0.tmps.getD 1 undef = .pointer (some ⟨w.heap.size,0,none⟩):=by (rw [ha0];rfl)
 have p3 : a0.tmps.getD 3 undef = .int .i64 K:=by (rw [ha0];rfl)
 have q1 : a0.tmps.size = 99:=by (rw [ha0];rfl)
 have q2 : a0.defers = []:=by (rw [ha0])
 clear ha0
 obtain ⟨VS,hVS⟩ : ∃ VS : List (Option Value),VS = [some (.pointer (some ⟨w.heap.size,4,none⟩)),some (.slice (some ⟨g,0,none⟩) 2 c),some (.pointer (some ⟨g,0,none⟩)),some (.agg #[.int .i64 l.k,.int .i64 l.op,.int .i64 l.n,.string (bstr l.nm),.slice pl yl cl,.int .i64 l.a]),some (.int .i64 K),some (.string (bstr TL)),some (.string (bstr TL ++ (⟨#[32]⟩ : ByteArray))),some (.pointer (some ⟨w.heap.size,1,none⟩)),some (.int .i64 o),some (.string SG),some (.string (bstr TL ++ (⟨#[32]⟩ : ByteArray) ++ SG)),some (.string (bstr TL ++ (⟨#[32]⟩ : ByteArray) ++ SG ++ (⟨#[32]⟩ : ByteArray))),some (.pointer (some ⟨w.heap.size,4,none⟩)),some (.slice (some ⟨g,0,none⟩) 2 c),some (.pointer (some ⟨g,6,none⟩)),some (.agg #[.int .i64 r.k,.int .i64 r.op,.int .i64 r.n,.string (bstr r.nm),.slice pr yr cr,.int .i64 r.a]),some (.int .i64 K),some (.int .i64 (K + 1)),some (.string (bstr TR)),some (.string (bstr TL ++ (⟨#[32]⟩ : ByteArray) ++ SG ++ (⟨#[32]⟩ : ByteArray) ++ bstr TR)),some (.string (bstr TL ++ (⟨#[32]⟩ : ByteArray) ++ SG ++ (⟨#[32]⟩ : ByteArray) ++ bstr TR))]:=⟨_,rfl⟩
 refine wp_region_any (by kernel_rfl) ?_
 refine wpAny_inv (fun listed a X => Ins 21 99 dstT VS a0.tmps listed a ∧ Below W1.heap.size W1 X) ?step ?fin _ _ _ _ ⟨⟨rfl,q1,q2,fun d _ => rfl,fun k v hk _ hl => absurd ((none21 k hk).symm.trans hl) (by simp)⟩,(Below.refl _ _).drew⟩ (by rfl) (by decide)
 case fin =>
  intro listed a X ⟨h1,h2⟩ hr
  have hl:=all_came (by rw [h1.size];rfl) hr (by decide +kernel) 20 (by decide)
  have h4 : a.tmps.getD 2 undef = .string (bstr (TL ++ (opT o ++ TR))):=(h1.new 20 _ (by decide) (by rw [hVS];rfl) hl).trans (by rw [HFIN.out])
  have h5:=h1.defs
  have Z:=hid (below_ch HW.out h2)
  clear hr
  obtain ⟨tm,df⟩:=a
  simp only at h4 h5
  subst h5
  have h6 : tm[2]?.getD undef = .string (bstr (TL ++ (opT o ++ TR))):=by (rw [← Array.getD_eq_getD_getElem?];exact h4)
  clear h1 h2 hl h4 hVS p1 p3 q1 q2
  go_wp2
  go_ret
  exact ⟨by first | rfl | (simp [h6];done),Z.out⟩
 case step =>
  intro listed a X k ⟨h1,h2⟩ hk
  have hlt : k < 21:=List.mem_range.1 (List.mem_filter.1 hk).1
  have hk2:=(List.mem_filter.1 hk).2
  have o1 : a.eval (.tmp 1) = .pointer (some ⟨w.heap.size,0,none⟩):=(h1.old 1 (by decide)).trans p1
  have o3 : a.eval (.tmp 3) = .int .i64 K:=(h1.old 3 (by decide)).trans p3
  obtain ⟨bl,c0,c1,c2,c3,c4,c5,_⟩:=(HBL.out.stay h2).facts
  have hcase : k = 0 ∨ k = 1 ∨ k = 2 ∨ k = 3 ∨ k = 4 ∨ k = 5 ∨ k = 6 ∨ k = 7 ∨ k = 8 ∨ k = 9 ∨ k = 10 ∨ k = 11 ∨ k = 12 ∨ k = 13 ∨ k = 14 ∨ k = 15 ∨ k = 16 ∨ k = 17 ∨ k = 18 ∨ k = 19 ∨ k = 20:=by omega
  rcases hcase with rfl | rfl | rfl | rfl | rfl | rfl | rfl | rfl | rfl | rfl | rfl | rfl | rfl | rfl | rfl | rfl | rfl | rfl | rfl | rfl | rfl
  · refine wpOp_of rfl rfl ?_
    exact wp_val (v:=.pointer (some ⟨w.heap.size,4,none⟩)) (run_fieldAddr rfl o1 (by go_simp)) ⟨put21 h1 0 55 _ (by decide) rfl (by rw [hVS];rfl),h2⟩
  · have hd0 : listed.getD 0 false = true:=by simp [Region.binds] at hk2;simp only [Array.getD_eq_getD_getElem?];simp [hk2]
    have e0 : a.eval (.tmp 55) = .pointer (some ⟨w.heap.size,4,none⟩):=h1.new 0 _ (by decide) (by rw [hVS];rfl) hd0
    refine wpOp_of rfl rfl ?_
    exact wp_val (v:=.slice (some ⟨g,0,none⟩) 2 c) (run_load rfl e0 (by go_simp)) ⟨put21 h1 1 56 _ (by decide) rfl (by rw [hVS];rfl),h2⟩
  · have hd1 : listed.getD 1 false = true:=by simp [Region.binds] at hk2;simp only [Array.getD_eq_getD_getElem?];simp [hk2]
    have e1 : a.eval (.tmp 56) = .slice (some ⟨g,0,none⟩) 2 c:=h1.new 1 _ (by decide) (by rw [hVS];rfl) hd1
    refine wpOp_of rfl rfl ?_
    exact wp_val (v:=.pointer (some ⟨g,0,none⟩)) (run_indexAddr rfl e1 rfl (by go_simp)) ⟨put21 h1 2 57 _ (by decide) rfl (by rw [hVS];rfl),h2⟩
  · have hd2 : listed.getD 2 false = true:=by simp [Region.binds] at hk2;simp only [Array.getD_eq_getD_getElem?];simp [hk2]
    have e2 : a.eval (.tmp 57) = .pointer (some ⟨g,0,none⟩):=h1.new 2 _ (by decide) (by rw [hVS];rfl) hd2
    refine wpOp_of rfl rfl ?_
    obtain ⟨d0,d1,d2,d3,d4,d5⟩:=HKL.out X (below_ch HW.out h2)
    exact wp_val (v:=.agg #[.int .i64 l.k,.int .i64 l.op,.int .i64 l.n,.string (bstr l.nm),.slice pl yl cl,.int .i64 l.a]) (run_load rfl e2 (by go_simp)) ⟨put21 h1 3 58 _ (by decide) rfl (by rw [hVS];rfl),h2⟩
  · refine wpOp_of rfl rfl ?_
    exact wp_val (v:=.int .i64 K) (run_move (by first | exact .inl rfl | exact .inr rfl) o3) ⟨put21 h1 4 59 _ (by decide) rfl (by rw [hVS];rfl),h2⟩
  · have hd3 : listed.getD 3 false = true:=by simp [Region.binds] at hk2;simp only [Array.getD_eq_getD_getElem?];simp [hk2]
    have e3 : a.eval (.tmp 58) = .agg #[.int .i64 l.k,.int .i64 l.op,.int .i64 l.n,.string (bstr l.nm),.slice pl yl cl,.int .i64 l.a]:=h1.new 3 _ (by decide) (by rw [hVS];rfl) hd3
    have hd4 : listed.getD 4 false = true:=by simp [Region.binds] at hk2;simp only [Array.getD_eq_getD_getElem?];simp [hk2]
    have e4 : a.eval (.tmp 59) = .int .i64 K:=h1.new 4 _ (by decide) (by rw [hVS];rfl) hd4
    refine wpOp_of rfl rfl ?_
    refine wp_enter (f:=67) (args:=#[a.eval (.tmp 58),a.eval (.tmp 59)]) ((Go.Conc.run_call_body rfl Tryd.func67 (by kernel_rfl) (by kernel_rfl)).trans (by simp)) ?_
    rw [e3,e4]
    refine (rbound_any HLL K (by omega) TL HYL (hid (HXL.out.stay (below_ch HW.out h2))) HTL hl2.1).mono ?_
    rintro e w' ⟨rfl,hb⟩
    exact ⟨.string (bstr TL),rfl,put21 h1 5 60 _ (by decide) rfl (by rw [hVS];rfl),below_ch h2 hb⟩
  · have hd5 : listed.getD 5 false = true:=by simp [Region.binds] at hk2;simp only [Array.getD_eq_getD_getElem?];simp [hk2]
    have e5 : a.eval (.tmp 60) = .string (bstr TL):=h1.new 5 _ (by decide) (by rw [hVS];rfl) hd5
    refine wpOp_of rfl rfl ?_
    have hc:=HCC.out.1
    have hc9:=Nat.not_lt.2 hc
    have hd:=HDD.out.1
    have hd9:=Nat.not_lt.2 hd
    exact wp_val (v:=.string (bstr TL ++ (⟨#[32]⟩ : ByteArray))) (run_bin rfl e5 rfl (by go_simp)) ⟨put21 h1 6 61 _ (by decide) rfl (by rw [hVS];rfl),h2⟩
  · refine wpOp_of rfl rfl ?_
    exact wp_val (v:=.pointer (some ⟨w.heap.size,1,none⟩)) (run_fieldAddr rfl o1 (by go_simp)) ⟨put21 h1 7 62 _ (by decide) rfl (by rw [hVS];rfl),h2⟩
  · have hd7 : listed.getD 7 false = true:=by simp [Region.binds] at hk2;simp only [Array.getD_eq_getD_getElem?];simp [hk2]
    have e7 : a.eval (.tmp 62) = .pointer (some ⟨w.heap.size,1,none⟩):=h1.new 7 _ (by decide) (by rw [hVS];rfl) hd7
    refine wpOp_of rfl rfl ?_
    exact wp_val (v:=.int .i64 o) (run_load rfl e7 (by go_simp)) ⟨put21 h1 8 63 _ (by decide) rfl (by rw [hVS];rfl),h2⟩
  · have hd8 : listed.getD 8 false = true:=by simp [Region.binds] at hk2;simp only [Array.getD_eq_getD_getElem?];simp [hk2]
    have e8 : a.eval (.tmp 63) = .int .i64 o:=h1.new 8 _ (by decide) (by rw [hVS];rfl) hd8
    refine wpOp_of rfl rfl ?_
    refine wp_enter (f:=69) (args:=#[a.eval (.tmp 63)]) ((Go.Conc.run_call_body rfl Tryd.func69 (by kernel_rfl) (by kernel_rfl)).trans (by simp)) ?_
    rw [e8]
    refine (rsign_any o X).mono ?_
    rintro e w' ⟨rfl,hb⟩
    exact ⟨.string SG,by rw [HSG.out],put21 h1 9 64 _ (by decide) rfl (by rw [hVS];rfl),below_ch h2 hb⟩
  · have hd6 : listed.getD 6 false = true:=by simp [Region.binds] at hk2;simp only [Array.getD_eq_getD_getElem?];simp [hk2]
    have e6 : a.eval (.tmp 61) = .string (bstr TL ++ (⟨#[32]⟩ : ByteArray)):=h1.new 6 _ (by decide) (by rw [hVS];rfl) hd6
    have hd9 : listed.getD 9 false = true:=by simp [Region.binds] at hk2;simp only [Array.getD_eq_getD_getElem?];simp [hk2]
    have e9 : a.eval (.tmp 64) = .string SG:=h1.new 9 _ (by decide) (by rw [hVS];rfl) hd9
    refine wpOp_of rfl rfl ?_
    have hc:=HCC.out.2.1
    have hc9:=Nat.not_lt.2 hc
    have hd:=HDD.out.2.1
    have hd9:=Nat.not_lt.2 hd
    exact wp_val (v:=.string (bstr TL ++ (⟨#[32]⟩ : ByteArray) ++ SG)) (run_bin rfl e6 e9 (by go_simp)) ⟨put21 h1 10 65 _ (by decide) rfl (by rw [hVS];rfl),h2⟩
  · have hd10 : listed.getD 10 false = true:=by simp [Region.binds] at hk2;simp only [Array.getD_eq_getD_getElem?];simp [hk2]
    have e10 : a.eval (.tmp 65) = .string (bstr TL ++ (⟨#[32]⟩ : ByteArray) ++ SG):=h1.new 10 _ (by decide) (by rw [hVS];rfl) hd10
    refine wpOp_of rfl rfl ?_
    have hc:=HCC.out.2.2.1
    have hc9:=Nat.not_lt.2 hc
    have hd:=HDD.out.2.2.1
    have hd9:=Nat.not_lt.2 hd
    exact wp_val (v:=.string (bstr TL ++ (⟨#[32]⟩ : ByteArray) ++ SG ++ (⟨#[32]⟩ : ByteArray))) (run_bin rfl e10 rfl (by go_simp)) ⟨put21 h1 11 66 _ (by decide) rfl (by rw [hVS];rfl),h2⟩
  · refine wpOp_of rfl rfl ?_
    exact wp_val (v:=.pointer (some ⟨w.heap.size,4,none⟩)) (run_fieldAddr rfl o1 (by go_simp)) ⟨put21 h1 12 67 _ (by decide) rfl (by rw [hVS];rfl),h2⟩
  · have hd12 : listed.getD 12 false = true:=by simp [Region.binds] at hk2;simp only [Array.getD_eq_getD_getElem?];simp [hk2]
    have e12 : a.eval (.tmp 67) = .pointer (some ⟨w.heap.size,4,none⟩):=h1.new 12 _ (by decide) (by rw [hVS];rfl) hd12
    refine wpOp_of rfl rfl ?_
    exact wp_val (v:=.slice (some ⟨g,0,none⟩) 2 c) (run_load rfl e12 (by go_simp)) ⟨put21 h1 13 68 _ (by decide) rfl (by rw [hVS];rfl),h2⟩
  · have hd13 : listed.getD 13 false = true:=by simp [Region.binds] at hk2;simp only [Array.getD_eq_getD_getElem?];simp [hk2]
    have e13 : a.eval (.tmp 68) = .slice (some ⟨g,0,none⟩) 2 c:=h1.new 13 _ (by decide) (by rw [hVS];rfl) hd13
    refine wpOp_of rfl rfl ?_
    exact wp_val (v:=.pointer (some ⟨g,6,none⟩)) (run_indexAddr rfl e13 rfl (by go_simp)) ⟨put21 h1 14 69 _ (by decide) rfl (by rw [hVS];rfl),h2⟩
  · have hd14 : listed.getD 14 false = true:=by simp [Region.binds] at hk2;simp only [Array.getD_eq_getD_getElem?];simp [hk2]
    have e14 : a.eval (.tmp 69) = .pointer (some ⟨g,6,none⟩):=h1.new 14 _ (by decide) (by rw [hVS];rfl) hd14
    refine wpOp_of rfl rfl ?_
    obtain ⟨d0,d1,d2,d3,d4,d5⟩:=HKR.out X (below_ch HW.out h2)
    exact wp_val (v:=.agg #[.int .i64 r.k,.int .i64 r.op,.int .i64 r.n,.string (bstr r.nm),.slice pr yr cr,.int .i64 r.a]) (run_load rfl e14 (by go_simp)) ⟨put21 h1 15 70 _ (by decide) rfl (by rw [hVS];rfl),h2⟩
  · refine wpOp_of rfl rfl ?_
    exact wp_val (v:=.int .i64 K) (run_move (by first | exact .inl rfl | exact .inr rfl) o3) ⟨put21 h1 16 71 _ (by decide) rfl (by rw [hVS];rfl),h2⟩
  · have hd16 : listed.getD 16 false = true:=by simp [Region.binds] at hk2;simp only [Array.getD_eq_getD_getElem?];simp [hk2]
    have e16 : a.eval (.tmp 71) = .int .i64 K:=h1.new 16 _ (by decide) (by rw [hVS];rfl) hd16
    refine wpOp_of rfl rfl ?_
    have hw9 : IntKind.i64.wrap (K + 1) = K + 1:=(by (obtain ⟨m,rfl⟩:=Int.eq_ofNat_of_zero_le hK0;exact wrap_small (m + 1) (by omega)))
    exact wp_val (v:=.int .i64 (K + 1)) (run_bin rfl e16 rfl (by go_simp)) ⟨put21 h1 17 72 _ (by decide) rfl (by rw [hVS];rfl),h2⟩
  · have hd15 : listed.getD 15 false = true:=by simp [Region.binds] at hk2;simp only [Array.getD_eq_getD_getElem?];simp [hk2]
    have e15 : a.eval (.tmp 70) = .agg #[.int .i64 r.k,.int .i64 r.op,.int .i64 r.n,.string (bstr r.nm),.slice pr yr cr,.int .i64 r.a]:=h1.new 15 _ (by decide) (by rw [hVS];rfl) hd15
    have hd17 : listed.getD 17 false = true:=by simp [Region.binds] at hk2;simp only [Array.getD_eq_getD_getElem?];simp [hk2]
    have e17 : a.eval (.tmp 72) = .int .i64 (K + 1):=h1.new 17 _ (by decide) (by rw [hVS];rfl) hd17
    refine wpOp_of rfl rfl ?_
    refine wp_enter (f:=67) (args:=#[a.eval (.tmp 70),a.eval (.tmp 72)]) ((Go.Conc.run_call_body rfl Tryd.func67 (by kernel_rfl) (by kernel_rfl)).trans (by simp)) ?_
    rw [e15,e17]
    refine (rbound_any HRR (K + 1) (by omega) TR HYR (hid (HXR.out.stay (below_ch HW.out h2))) HTR hl2.2).mono ?_
    rintro e w' ⟨rfl,hb⟩
    exact ⟨.string (bstr TR),rfl,put21 h1 18 73 _ (by decide) rfl (by rw [hVS];rfl),below_ch h2 hb⟩
  · have hd11 : listed.getD 11 false = true:=by simp [Region.binds] at hk2;simp only [Array.getD_eq_getD_getElem?];simp [hk2]
    have e11 : a.eval (.tmp 66) = .string (bstr TL ++ (⟨#[32]⟩ : ByteArray) ++ SG ++ (⟨#[32]⟩ : ByteArray)):=h1.new 11 _ (by decide) (by rw [hVS];rfl) hd11
    have hd18 : listed.getD 18 false = true:=by simp [Region.binds] at hk2;simp only [Array.getD_eq_getD_getElem?];simp [hk2]
    have e18 : a.eval (.tmp 73) = .string (bstr TR):=h1.new 18 _ (by decide) (by rw [hVS];rfl) hd18
    refine wpOp_of rfl rfl ?_
    have hc:=HCC.out.2.2.2
    have hc9:=Nat.not_lt.2 hc
    have hd:=HDD.out.2.2.2
    have hd9:=Nat.not_lt.2 hd
    exact wp_val (v:=.string (bstr TL ++ (⟨#[32]⟩ : ByteArray) ++ SG ++ (⟨#[32]⟩ : ByteArray) ++ bstr TR)) (run_bin rfl e11 e18 (by go_simp)) ⟨put21 h1 19 74 _ (by decide) rfl (by rw [hVS];rfl),h2⟩
  · have hd19 : listed.getD 19 false = true:=by simp [Region.binds] at hk2;simp only [Array.getD_eq_getD_getElem?];simp [hk2]
    have e19 : a.eval (.tmp 74) = .string (bstr TL ++ (⟨#[32]⟩ : ByteArray) ++ SG ++ (⟨#[32]⟩ : ByteArray) ++ bstr TR):=h1.new 19 _ (by decide) (by rw [hVS];rfl) hd19
    refine wpOp_of rfl rfl ?_
    exact wp_val (v:=.string (bstr TL ++ (⟨#[32]⟩ : ByteArray) ++ SG ++ (⟨#[32]⟩ : ByteArray) ++ bstr TR)) (run_move (by first | exact .inl rfl | exact .inr rfl) e19) ⟨put21 h1 20 2 _ (by decide) rfl (by rw [hVS];rfl),h2⟩
def rowX : List Ex → List UInt8
 | [] => []
 | x :: r => x.txt ++ r.flatMap fun y => 44 :: 32 :: y.txt
theorem rowX_eq (es : List Ex) : rowK (Ex.kds es) = rowX es:=by
 rw [kds_map]
 cases es with
 | nil => rfl
 | cons x r => simp only [List.map_cons,rowK,rowX,List.flatMap_map]
theorem rowX_succ (l : List Ex) (k : Nat) (x : Ex) (h : l[k]? = some x) : rowX (l.take (k + 1)) = rowX (l.take k) ++ ((if k = 0 then [] else [44,32]) ++ x.txt):=by
 cases l with
 | nil => simp at h
 | cons y r =>
  cases k with
  | zero =>
   simp at h
   subst h
   simp [rowX]
  | succ k =>
   have h2 : r[k]? = some x:=by simpa using h
   simp only [List.take_succ_cons,rowX,Nat.succ_ne_zero,if_false]
   rw [show (r.take (k + 1)) = r.take k ++ [x] by (rw [List.take_add_one,h2];rfl),List.flatMap_append]
   simp
theorem rowX_le (l : List Ex) (k : Nat) : (rowX (l.take k)).length ≤ (rowX l).length:=by
 cases l with
 | nil => simp [rowX]
 | cons y r =>
  cases k with
  | zero => simp [rowX]
  | succ k =>
   simp only [List.take_succ_cons,rowX,List.length_append]
   have h:=congrArg List.length (congrArg (List.flatMap fun y : Ex => 44 :: 32 :: y.txt) (List.take_append_drop k r))
   rw [List.flatMap_append,List.length_append] at h
   omega
theorem rsh_call (nm : List UInt8) (es : List Ex) (a : Nat) (HE : ∀ e ∈ es,RSh e) (hn9 : es.length ≤ 1000000) : RSh (.mk 7 0 0 nm es a):=by
 intro p c w hx hl
 rw [txt_call,rowX_eq] at hl ⊢
 obtain ⟨n,hn⟩ : ∃ n,es.length = n:=⟨_,rfl⟩
 have HN:=hid hn
 rw [hn] at hn9
 have hx2 : IsEx 0 w (.mk 7 0 0 nm es a) (.slice p n c):=by (rw [← hn];exact hx)
 have HX:=hid hx2
 have HEE:=hid HE
 obtain ⟨R,hR⟩ : ∃ R,rowX es = R:=⟨_,rfl⟩
 rw [hR] at hl ⊢
 have HR:=hid hR
 have hl2 : nm.length + R.length ≤ 1000000:=by (simp only [List.length_append,List.length_cons,List.length_nil] at hl;omega)
 show Calls Tryd.prog 53 #[.agg #[.int .i64 7,.int .i64 0,.int .i64 0,.string (bstr nm),.slice p es.length c,.int .i64 a]] w fun e w' => e = .returned (.string (bstr (nm ++ 40 :: (R ++ [41])))) ∧ Below w.heap.size w w'
 rw [hn]
 have HB:=below_of_alloc w (.cells #[.int .i64 7,.int .i64 0,.int .i64 0,.string (bstr nm),.slice p n c,.int .i64 a] 71)
 have B0:=Blk.new (X:=w) rfl (.int .i64 7) (.int .i64 0) (.int .i64 0) (.string (bstr nm)) (.slice p n c) (.int .i64 a)
 have HBB:=hid HB
 have HBL:=hid B0
 have hz:=HB.size
 have hs0 : (bstr nm).size ≤ 1000000:=(by (show nm.length ≤ _;omega))
 have hc0 : ¬ 9223372036854775807 < (bstr nm).size + 1:=by omega
 have hf0 : bstr nm ++ (⟨#[40]⟩ : ByteArray) = bstr (nm ++ 40 :: rowX (es.take 0)):=by
  rw [show (⟨#[40]⟩ : ByteArray) = bstr [40] from rfl,bstr_cat]
  simp [rowX]
 have HF0:=hid hf0
 obtain ⟨bl,c0,c1,c2,c3,c4,c5,_⟩:=B0.facts
 clear B0 HB hx hx2 HE hn hR hf0 hl
 go_enter Tryd.func53,Tryd.ntmps53
 go_wp2
 rw [HF0.out]
 go_loopw [4,5] (fun sv iv wr => ∃ k : Nat,sv = .string (bstr (nm ++ 40 :: rowX (es.take k))) ∧ iv = .int .i64 k ∧ k ≤ n ∧ Below (w.alloc (.cells #[.int .i64 7,.int .i64 0,.int .i64 0,.string (bstr nm),.slice p n c,.int .i64 a] 71)).heap.size (w.alloc (.cells #[.int .i64 7,.int .i64 0,.int .i64 0,.string (bstr nm),.slice p n c,.int .i64 a] 71)) wr) (fun _ iv _ => n - (intOf iv).toNat)
 case atStart => exact ⟨0,rfl,rfl,Nat.zero_le _,Below.refl _ _⟩
 case round =>
  obtain ⟨k,rfl,rfl,hk,hbr⟩:=hrel
  have HBR:=hid hbr
  have HW:=hid (below_ch HBB.out hbr)
  obtain ⟨bl,c0,c1,c2,c3,c4,c5,_⟩:=(HBL.out.stay hbr).facts
  have hle:=rowX_le es k
  rw [HR.out] at hle
  obtain ⟨S,hS⟩ : ∃ S,nm ++ 40 :: rowX (es.take k) = S:=⟨_,rfl⟩
  have hsl : (bstr S).size ≤ 1000001:=by
   rw [← hS]
   show (nm ++ 40 :: rowX (es.take k)).length ≤ _
   simp only [List.length_append,List.length_cons]
   omega
  rw [hS]
  have HS:=hid hS
  clear hS hbr
  by_cases hkn : k < n
  · have hlt : (k : Int) < (n : Int):=by omega
    obtain ⟨e,he⟩ : ∃ e,es[k]? = some e:=⟨_,List.getElem?_eq_getElem (by (have:=HN.out;omega))⟩
    obtain ⟨g,cap,u,hv,_,hgl,hxe,k0,k1,k2,k3,k4,k5⟩:=HX.out.kid (i:=k) (x:=e) he
    have hln : (Ex.mk 7 0 0 nm es a).ks.length = n:=HN.out
    rw [hln] at hv
    cases hv
    obtain ⟨pe,ce,rfl⟩:=hxe.form
    obtain ⟨y,hy⟩ : ∃ y,e.ks.length = y:=⟨_,rfl⟩
    rw [hy] at k4 hxe
    have HY:=hid hy
    have hsu:=rowX_succ es k e he
    have hle2:=rowX_le es (k + 1)
    rw [hsu,HR.out] at hle2
    obtain ⟨T,hT⟩ : ∃ T,e.txt = T:=⟨_,rfl⟩
    have HT:=hid hT
    rw [hT] at hsu hle2
    have HSU:=hid hsu
    have hTl : T.length ≤ 1000000:=by (simp only [List.length_append] at hle2;omega)
    have hst : (bstr T).size ≤ 1000000:=hTl
    have HSH : Hid (∀ X,Below w.heap.size w X → Calls Tryd.prog 53 #[.agg #[.int .i64 e.k,.int .i64 e.op,.int .i64 e.n,.string (bstr e.nm),.slice pe y ce,.int .i64 e.a]] X fun e w' => e = .returned (.string (bstr T)) ∧ Below X.heap.size X w'):=hid fun X hX => (HEE.out e (List.mem_of_getElem? he)).use T HY (hid (hxe.stay hX)) HT hTl
    have HKC : Hid (∀ X,Below w.heap.size w X → X.cell? ⟨g,k * 6,none⟩ = some (.int .i64 e.k) ∧ X.cell? ⟨g,k * 6 + 1,none⟩ = some (.int .i64 e.op) ∧ X.cell? ⟨g,k * 6 + 2,none⟩ = some (.int .i64 e.n) ∧ X.cell? ⟨g,k * 6 + 3,none⟩ = some (.string (bstr e.nm)) ∧ X.cell? ⟨g,k * 6 + 4,none⟩ = some (.slice pe y ce) ∧ X.cell? ⟨g,k * 6 + 5,none⟩ = some (.int .i64 e.a)):=hid fun X hX => ⟨(hX.cell (p:=⟨g,k * 6,none⟩) hgl).trans k0,(hX.cell (p:=⟨g,k * 6 + 1,none⟩) hgl).trans k1,(hX.cell (p:=⟨g,k * 6 + 2,none⟩) hgl).trans k2,(hX.cell (p:=⟨g,k * 6 + 3,none⟩) hgl).trans k3,(hX.cell (p:=⟨g,k * 6 + 4,none⟩) hgl).trans k4,(hX.cell (p:=⟨g,k * 6 + 5,none⟩) hgl).trans k5⟩
    obtain ⟨d0,d1,d2,d3,d4,d5⟩:=HKC.out _ HW.out
    have hkr : 0 ≤ (k : Int) ∧ (k : Int) < (n : Int):=by omega
    have hgx : g < wr.heap.size:=Nat.lt_of_lt_of_le hgl HW.out.size
    clear hy hxe k0 k1 k2 k3 k4 k5 hT hsu he hle hle2
    by_cases hk0 : k = 0
    · subst hk0
      have hg0 : ¬ (0 : Int) < ((0 : Nat) : Int):=by omega
      have hc1 : ¬ 9223372036854775807 < (bstr S).size + (bstr T).size:=by omega
      go_wp2_with (go_at_call 53;(with_reducible refine (HSH.out _ HW.out).mono ?_);rintro e1 w9 ⟨rfl,hb9⟩)
      go_roundw
      case rel =>
       refine ⟨_,_,_,_,_,_,_,_,_,_,_,_,_,_,_,_,_,_,_,_,_,?_,rfl⟩
       refine ⟨1,?_,by go_num,by omega,below_ch HBR.out hb9⟩
       have h:=HSU.out
       rw [bstr_cat,← HS.out,h]
       simp
      case measure =>
       simp [intOf]
       omega
    · have hg0 : (0 : Int) < (k : Int):=by omega
      have e2 : (⟨#[44,32]⟩ : ByteArray).size = 2:=rfl
      have hc1 : ¬ 9223372036854775807 < (bstr S).size + 2:=by omega
      have hc2 : ¬ 9223372036854775807 < (bstr S ++ (⟨#[44,32]⟩ : ByteArray)).size + (bstr T).size:=by (rw [ByteArray.size_append];omega)
      have hc3 : ¬ 9223372036854775807 < (bstr S).size + 2 + (bstr T).size:=by omega
      clear e2
      go_wp2_with (go_at_call 53;(with_reducible refine (HSH.out _ HW.out).mono ?_);rintro e1 w9 ⟨rfl,hb9⟩)
      go_roundw
      case rel =>
       refine ⟨_,_,_,_,_,_,_,_,_,_,_,_,_,_,_,_,_,_,_,_,_,?_,rfl⟩
       refine ⟨k + 1,?_,by go_num,by omega,below_ch HBR.out hb9⟩
       have h:=HSU.out
       rw [if_neg hk0] at h
       rw [show (⟨#[44,32]⟩ : ByteArray) = bstr [44,32] from rfl,bstr_cat,bstr_cat,← HS.out,h]
       simp
      case measure =>
       simp [intOf]
       omega
  · have hlt : ¬ (k : Int) < (n : Int):=by omega
    obtain rfl : n = k:=by omega
    have hc1 : ¬ 9223372036854775807 < (bstr S).size + 1:=by omega
    have et : es.take n = es:=by (rw [← HN.out];exact List.take_length)
    have HET:=hid et
    clear et
    go_wp2
    go_ret
    refine ⟨?_,HW.out⟩
    rw [show (⟨#[41]⟩ : ByteArray) = bstr [41] from rfl,bstr_cat,← HS.out,HET.out,HR.out]
    simp
theorem mem_cnt (es : List Ex) : es.length ≤ Ex.cntL es:=by
 induction es with
 | nil => exact Nat.zero_le _
 | cons x r ih =>
  have:=cnt_pos x
  simp only [List.length_cons,Ex.cntL]
  omega
theorem rshow_fit {o : Nat} {r : Int} {x : Ex} (h : Fit o r x) : x.cnt < 1000000 → RSh x:=by
 induction h with
 | num h1 h2 => exact fun _ => rsh_num _ _ h1 h2
 | tru => exact fun _ => rsh_tru _
 | fls => exact fun _ => rsh_fls _
 | var h => exact fun _ => rsh_var _ _
 | elem h1 h2 _ ih => exact fun hc => rsh_elem _ _ _ (ih (by (simp only [Ex.cnt,Ex.cntL] at hc;omega)))
 | neg h2 _ ih => exact fun hc => rsh_neg _ _ (ih (by (simp only [Ex.cnt,Ex.cntL] at hc;omega)))
 | not h2 _ ih => exact fun hc => rsh_not _ _ (ih (by (simp only [Ex.cnt,Ex.cntL] at hc;omega)))
 | two h1 h2 h3 _ _ ih1 ih2 => exact fun hc => rsh_two _ h1 _ _ _ (ih1 (by (simp only [Ex.cnt,Ex.cntL] at hc;omega))) (ih2 (by (simp only [Ex.cnt,Ex.cntL] at hc;omega)))
 | brk h1 h2 h3 _ ih => exact ih
 | call h1 h2 _ ih => exact fun hc => rsh_call _ _ _ (fun e he => ih e he (by (simp only [Ex.cnt] at hc;have:=cntL_mem he;omega))) (by (simp only [Ex.cnt] at hc;have:=mem_cnt (by assumption);omega))
theorem rshow_any {x : Ex} (h : GoodE x) {p : Option Addr} {c y : Nat} {w : World} (T : List UInt8) (hy : Hid (x.ks.length = y)) (hi : Hid (IsEx 0 w x (.slice p y c))) (hT : Hid (x.txt = T)) :
 Calls Tryd.prog 53 #[.agg #[.int .i64 x.k,.int .i64 x.op,.int .i64 x.n,.string (bstr x.nm),.slice p y c,.int .i64 x.a]] w fun e w' => e = .returned (.string (bstr T)) ∧ Below w.heap.size w w' :=
 (rshow_fit h.2.2.2 h.1).use T hy hi hT (by (rw [← hT.out];exact h.2.2.1))
end Go.Proofs.YtkhbbapocamlmaaDoor
