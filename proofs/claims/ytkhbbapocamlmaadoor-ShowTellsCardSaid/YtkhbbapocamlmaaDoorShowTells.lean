/- ShowTells comes out true for every text and every byte: no condition but what the card itself says of the listed variables. -/
import Derived.Test.YtkhbbapocamlmaaDoorQ11
import Derived.Test.YtkhbbapocamlmaaDoorQ10
import Derived.Test.YtkhbbapocamlmaaDoorTie
import Derived.Test.YtkhbbapocamlmaaDoorCards
import Derived.SevenTiedAt
import Derived.Carry
set_option linter.unusedSimpArgs false
set_option linter.unusedVariables false
set_option maxRecDepth 100000
set_option maxHeartbeats 8000000
open Go.Lib (hid)
namespace Go.Proofs.YtkhbbapocamlmaaDoor
namespace ShowTells
open Go Go.ChangeShapes Go.WideShapes Go.ChangeAt Go.WideMaps Go.WideElems Go.RowKit Go.Sort
open Go.ChangeMaps (open_string shut_string)
theorem walk0 (s : ByteArray) (q : Nat) (hq : q < 256) (n : Nat) (hn : n = q % 9) (W : World) (L : Hid (Laid W)) : Calls Tryd.prog 3 #[.string s,.int .u8 q] W fun e w' => e = .returned (.bool true) ∧ Below W.heap.size W w':=by
 go_enter Tryd.func3,Tryd.ntmps3
 by_cases hs2 : 4000 < s.size
 · go_wp2_with (go_at_call 7;(with_reducible refine (awake_any _ L).mono ?_);rintro e w1 ⟨rfl,hb1⟩;have hz1:=hb1.size)
   go_ret
   exact ⟨rfl,by (refine Fr.below ?_;(with_reducible repeat first | exact Fr.refl _ _ | refine Fr.alloc ?_ _ | refine Fr.drewN ?_ _ | refine Fr.drew ?_ | (refine Fr.set ?_ ?_ _ _;rotate_left;first | exact .inl rfl | (right;simp;done) | (right;simp;omega) | (right;omega)) | refine Fr.step ?_ (by assumption) | refine Fr.stepB ?_ (by assumption)))⟩
 go_upto_region 7 with (first
  | (go_at_call 7;(with_reducible refine (awake_any _ L).mono ?_);rintro e w1 ⟨rfl,hb1⟩;have hz1:=hb1.size)
  | (go_at_call 8;(with_reducible refine (r4_parse_all s _).mono ?_);rintro e w2 ⟨hb2,z0,n0,c0,z1,n1,c1,z2,n2,c2,z3,n3,c3,c,a,rfl,hP⟩;have hz2:=hb2.size;have HP:=hid hP;clear hP))
 by_cases hc1 : ¬ c = 0
 · have hcb : (c != 0) = true:=by simpa using hc1
   go_wp2
   go_ret
   exact ⟨rfl,by (refine Fr.below ?_;(with_reducible repeat first | exact Fr.refl _ _ | refine Fr.alloc ?_ _ | refine Fr.drewN ?_ _ | refine Fr.drew ?_ | (refine Fr.set ?_ ?_ _ _;rotate_left;first | exact .inl rfl | (right;simp;done) | (right;simp;omega) | (right;omega)) | refine Fr.step ?_ (by assumption) | refine Fr.stepB ?_ (by assumption)))⟩
 have hc0:=Decidable.not_not.1 hc1
 clear hc1
 subst hc0
 rcases HP.out with hbad | ⟨_,_,p,rf,rt,hG,hNi,R0⟩
 · exact absurd rfl hbad
 obtain ⟨_,_,e⟩:=own_form R0.g
 cases e
 obtain ⟨_,_,e⟩:=own_form R0.l
 cases e
 obtain ⟨_,_,e⟩:=own_form R0.f
 cases e
 obtain ⟨_,_,e⟩:=own_form R0.t
 cases e
 obtain ⟨W2,hW2⟩ : ∃ W2,W2 = w2.alloc (.cells #[.slice z0 p.gs.length c0,.slice z1 p.ls.length c1,.slice z2 p.fs.length c2,.slice z3 p.ths.length c3] 28):=⟨_,rfl⟩
 have hAp:=below_of_alloc w2 (.cells #[.slice z0 p.gs.length c0,.slice z1 p.ls.length c1,.slice z2 p.fs.length c2,.slice z3 p.ths.length c3] 28)
 rw [← hW2] at hAp
 have hpb : PgBlk W2 w2.heap.size (.slice z0 p.gs.length c0) (.slice z1 p.ls.length c1) (.slice z2 p.fs.length c2) (.slice z3 p.ths.length c3):=(by (rw [hW2];exact PgBlk.new rfl))
 have hpl : w2.heap.size < W2.heap.size:=(hpb.facts).1
 have hR:=R0.stay hAp
 have hWX : Below W.heap.size W W2:=below_ch (below_ch hb1 hb2) hAp
 rw [← hW2]
 obtain ⟨ng,hng⟩ : ∃ n,p.gs.length = n:=⟨_,rfl⟩
 obtain ⟨nl,hnl⟩ : ∃ n,p.ls.length = n:=⟨_,rfl⟩
 obtain ⟨nf,hnf⟩ : ∃ n,p.fs.length = n:=⟨_,rfl⟩
 obtain ⟨nt,hnt⟩ : ∃ n,p.ths.length = n:=⟨_,rfl⟩
 have hbn : ng ≤ 32 ∧ nt ≤ 4:=by (have:=hNi.ng;have:=hNi.nt;omega)
 rw [hng,hnl,hnf,hnt] at hpb ⊢
 have HR : Hid (PRows w1.heap.size W2 p (.slice z0 ng c0) (.slice z1 nl c1) (.slice z2 nf c2) (.slice z3 nt c3) rf rt):=hid (by (rw [← hng,← hnl,← hnf,← hnt];exact hR))
 have HPB:=hid hpb
 have HWX:=hid hWX
 have HNG:=hid hng
 have HNT:=hid hnt
 have HLX:=hid (L.out.below hWX)
 have HG:=hid (And.intro hG hNi)
 obtain ⟨T,hT⟩ : ∃ T,progT fnT p = T:=⟨_,rfl⟩
 have HP1 : Hid (∀ X,Below W2.heap.size W2 X → Calls Tryd.prog 9 #[.agg #[.slice z0 ng c0,.slice z1 nl c1,.slice z2 nf c2,.slice z3 nt c3]] X fun e w' => e = .returned (.string (bstr T)) ∧ Below X.heap.size X w'):=hid fun X hX => prog_say (HR.out.stay hX) (HLX.out.below hX) (say_of hG hNi) (few_of hNi) T hT
 have HP2 : Hid (∀ X,Below W2.heap.size W2 X → Calls Tryd.prog 10 #[.agg #[.slice z0 ng c0,.slice z1 nl c1,.slice z2 nf c2,.slice z3 nt c3]] X fun e w' => e = .returned (.string (bstr T)) ∧ Below X.heap.size X w'):=hid fun X hX => rprog_any (HR.out.stay hX) hG hNi T hT
 have hm9 : IntKind.i64.wrap (((q : Nat) : Int).tmod 9) = ((n : Nat) : Int):=by (rw [hn];exact wrap_small (q % 9) (by omega))
 have HM9:=hid hm9
 have hn9 : n ≤ 1000:=by omega
 clear hW2 hAp hpb hR hWX R0 hG hNi HP hb1 hb2 hz1 hz2 hT hng hnl hnf hnt hm9 hn
 go_upto_region 9 with (fail)
 go_cut [29] from 25 (fun b X => b = .bool false ∧ Below W2.heap.size W2 X)
 case first =>
  have HC : Hid (Below W2.heap.size W2 W2.drew):=hid ((Below.refl _ _).drew)
  obtain ⟨pl,⟨pc0,pc1,pc2,pc3⟩,_⟩:=(HPB.out.of (HC.out.block _ hpl)).facts
  go_region_law (first
   | (go_simp;go_at_call 9;(with_reducible refine (HP1.out _ HC.out).mono ?_);rintro e1 wt ⟨rfl,hbt⟩;replace HC:=hid (below_ch HC.out hbt);obtain ⟨pl,⟨pc0,pc1,pc2,pc3⟩,_⟩:=(HPB.out.of (HC.out.block _ hpl)).facts;clear hbt)
   | (go_simp;go_at_call 10;(with_reducible refine (HP2.out _ HC.out).mono ?_);rintro e1 wt ⟨rfl,hbt⟩;replace HC:=hid (below_ch HC.out hbt);obtain ⟨pl,⟨pc0,pc1,pc2,pc3⟩,_⟩:=(HPB.out.of (HC.out.block _ hpl)).facts;clear hbt))
  all_goals (go_wp2_with fail;go_meet)
  all_goals exact ⟨by first | rfl | simp,HC.out⟩
 obtain ⟨rfl,hbc⟩:=hcut
 have HB0:=hid hbc
 clear hbc
 go_wp2
 go_loopw [9] (fun iv wr => ∃ k : Nat,iv = .int .i64 k ∧ k ≤ nt ∧ Below W2.heap.size W2 wr) (fun iv _ => nt - (intOf iv).toNat)
 case atStart => exact ⟨0,rfl,Nat.zero_le _,HB0.out⟩
 case round =>
  obtain ⟨k,rfl,hk,hbr⟩:=hrel
  have HBR:=hid hbr
  obtain ⟨pl,⟨pc0,pc1,pc2,pc3⟩,_⟩:=(HPB.out.of (hbr.block _ hpl)).facts
  by_cases hkl : k < nt
  · have hRt:=HR.out.t
    rw [HNT.out] at hRt
    obtain ⟨g,cg,hv,hgl,hcell⟩:=own_some hRt (by omega)
    cases hv
    obtain ⟨⟨x,tv⟩,hqq⟩ : ∃ q,rt[k]? = some q:=⟨_,List.getElem?_eq_getElem (by (have e:=congrArg List.length HR.out.et;rw [List.length_map,HNT.out] at e;omega))⟩
    have hx : p.ths[k]? = some x:=by (rw [← HR.out.et,List.getElem?_map,hqq];rfl)
    obtain ⟨gx1,gx2⟩:=HG.out.1.th x (List.mem_of_getElem? hx)
    have hI : IsSts (fun g => 0 ≤ g) W2 x tv:=(HR.out.xt _ (List.mem_of_getElem? hqq)).lo (Nat.zero_le _)
    obtain ⟨tz,tk,e0⟩:=hI.form
    obtain ⟨ty,hy0⟩ : ∃ y,x.length = y:=⟨_,rfl⟩
    rw [hy0] at e0
    subst e0
    have hgw : g < wr.heap.size:=Nat.lt_of_lt_of_le hgl hbr.size
    have HK : Hid (∀ X,Below wr.heap.size wr X → X.cell? ⟨g,k,none⟩ = some (.slice tz ty tk)):=hid fun X hX => (hX.cell (p:=⟨g,k,none⟩) hgw).trans ((HBR.out.cell (p:=⟨g,k,none⟩) hgl).trans (hcell k (.slice tz ty tk) (by simp [thRow,hqq])))
    obtain ⟨A,hA⟩ : ∃ A,stsT x n = A:=⟨_,rfl⟩
    have hAl:=sts_short gx1 gx2 hn9
    rw [hA] at hAl
    have HS1 : Hid (∀ X,Below W2.heap.size W2 X → Calls Tryd.prog 11 #[.slice tz ty tk,.int .i64 (IntKind.i64.wrap (((q : Nat) : Int).tmod 9))] X fun e w' => e = .returned (.string (bstr A)) ∧ Below X.heap.size X w'):=hid fun X hX => (by (rw [HM9.out];exact stmtsT_any x n X _ A hA gx1 (HLX.out.below hX) (hI.kept fun g hg hl => ⟨hX.block g hl,hg⟩) (by omega) (by omega)))
    have HS2 : Hid (∀ X,Below W2.heap.size W2 X → Calls Tryd.prog 12 #[.slice tz ty tk,.int .i64 (IntKind.i64.wrap (((q : Nat) : Int).tmod 9))] X fun e w' => e = .returned (.string (bstr A)) ∧ Below X.heap.size X w'):=hid fun X hX => (by (rw [HM9.out];exact rsts9_any A (hid hA) gx1 (hI.kept fun g hg hl => ⟨hX.block g hl,hg⟩) gx2 hn9))
    have hlt : (k : Int) < (nt : Int):=by omega
    have hkr : 0 ≤ (k : Int) ∧ (k : Int) < (nt : Int):=by omega
    have hq9 : ((q : Nat) : Int) < 256:=by omega
    clear hRt hcell hqq hx gx1 gx2 hI hy0 hA
    go_upto_region 14 with (fail)
    clear pl pc0 pc1 pc2 pc3
    have HC : Hid (Below wr.heap.size wr wr.drew):=hid ((Below.refl _ _).drew)
    obtain ⟨pl,⟨pc0,pc1,pc2,pc3⟩,_⟩:=(HPB.out.of ((below_ch HBR.out HC.out).block _ hpl)).facts
    have d0:=HK.out _ HC.out
    go_region_law (first
     | (go_simp;go_at_call 11;(with_reducible refine (HS1.out _ (below_ch HBR.out HC.out)).mono ?_);rintro e1 wt ⟨rfl,hbt⟩;replace HC:=hid (below_ch HC.out hbt);obtain ⟨pl,⟨pc0,pc1,pc2,pc3⟩,_⟩:=(HPB.out.of ((below_ch HBR.out HC.out).block _ hpl)).facts;have d0:=HK.out _ HC.out;clear hbt)
     | (go_simp;go_at_call 12;(with_reducible refine (HS2.out _ (below_ch HBR.out HC.out)).mono ?_);rintro e1 wt ⟨rfl,hbt⟩;replace HC:=hid (below_ch HC.out hbt);obtain ⟨pl,⟨pc0,pc1,pc2,pc3⟩,_⟩:=(HPB.out.of ((below_ch HBR.out HC.out).block _ hpl)).facts;have d0:=HK.out _ HC.out;clear hbt))
    all_goals
     go_wp2
     go_roundw
     case rel =>
      first
       | exact ⟨k + 1,by go_num,Nat.succ_le_of_lt hkl,below_ch HBR.out HC.out⟩
       | (refine ⟨_,_,_,_,_,_,_,_,_,_,_,_,_,_,_,_,_,_,_,_,_,_,_,_,_,_,_,?_,rfl⟩;exact ⟨k + 1,by go_num,Nat.succ_le_of_lt hkl,below_ch HBR.out HC.out⟩)
     case measure =>
      simp [intOf]
      omega
  · have hlt : ¬ (k : Int) < (nt : Int):=by omega
    clear hbr
    go_wp2
    go_loopw [10] (fun iv wr => ∃ j : Nat,iv = .int .i64 j ∧ j ≤ ng ∧ Below W2.heap.size W2 wr) (fun iv _ => ng - (intOf iv).toNat)
    case atStart => exact ⟨0,rfl,Nat.zero_le _,HBR.out⟩
    case round =>
     obtain ⟨j,rfl,hj,hbr⟩:=hrel
     have HBR2:=hid hbr
     clear pl pc0 pc1 pc2 pc3
     obtain ⟨pl,⟨pc0,pc1,pc2,pc3⟩,_⟩:=(HPB.out.of (hbr.block _ hpl)).facts
     by_cases hjl : j < ng
     · have hRg:=HR.out.g
       rw [HNG.out] at hRg
       obtain ⟨g,cg,hv,hgl,hcell⟩:=own_some hRg (by omega)
       cases hv
       obtain ⟨x,hx⟩ : ∃ x,p.gs[j]? = some x:=⟨_,List.getElem?_eq_getElem (by (have:=HNG.out;omega))⟩
       have hgw : g < wr.heap.size:=Nat.lt_of_lt_of_le hgl hbr.size
       have HK : Hid (∀ X,Below wr.heap.size wr X → X.cell? ⟨g,j * 6 + 2,none⟩ = some (.bool x.tr) ∧ X.cell? ⟨g,j * 6 + 3,none⟩ = some (.bool x.sc)):=hid fun X hX => ⟨(hX.cell (p:=⟨g,j * 6 + 2,none⟩) hgw).trans ((HBR2.out.cell (p:=⟨g,j * 6 + 2,none⟩) hgl).trans (hcell _ _ (plain_at (f:=glCells) (n:=6) (fun _ => rfl) p.gs j x 2 _ hx rfl))),(hX.cell (p:=⟨g,j * 6 + 3,none⟩) hgw).trans ((HBR2.out.cell (p:=⟨g,j * 6 + 3,none⟩) hgl).trans (hcell _ _ (plain_at (f:=glCells) (n:=6) (fun _ => rfl) p.gs j x 3 _ hx rfl)))⟩
       have hltj : (j : Int) < (ng : Int):=by omega
       have hjr : 0 ≤ (j : Int) ∧ (j : Int) < (ng : Int):=by omega
       clear hRg hcell hx
       go_upto_region 19 with (fail)
       clear pl pc0 pc1 pc2 pc3
       have HC : Hid (Below wr.heap.size wr wr.drew):=hid ((Below.refl _ _).drew)
       obtain ⟨pl,⟨pc0,pc1,pc2,pc3⟩,_⟩:=(HPB.out.of ((below_ch HBR2.out HC.out).block _ hpl)).facts
       obtain ⟨d0,d1⟩:=HK.out _ HC.out
       go_region_law (first
        | (go_simp;go_at_call 13;(with_reducible refine (type_any _ _ _).mono ?_);rintro e1 wt ⟨rfl,hbt⟩;replace HC:=hid (below_ch HC.out hbt);obtain ⟨pl,⟨pc0,pc1,pc2,pc3⟩,_⟩:=(HPB.out.of ((below_ch HBR2.out HC.out).block _ hpl)).facts;obtain ⟨d0,d1⟩:=HK.out _ HC.out;clear hbt)
        | (go_simp;go_at_call 14;(with_reducible refine (rtype_any _ _ _).mono ?_);rintro e1 wt ⟨rfl,hbt⟩;replace HC:=hid (below_ch HC.out hbt);obtain ⟨pl,⟨pc0,pc1,pc2,pc3⟩,_⟩:=(HPB.out.of ((below_ch HBR2.out HC.out).block _ hpl)).facts;obtain ⟨d0,d1⟩:=HK.out _ HC.out;clear hbt))
       all_goals
        go_wp2
        go_roundw
        case rel =>
         first
          | exact ⟨j + 1,by go_num,Nat.succ_le_of_lt hjl,below_ch HBR2.out HC.out⟩
          | (refine ⟨_,_,_,_,_,_,_,_,_,_,_,_,_,_,_,_,_,_,_,_,_,_,_,?_,rfl⟩;exact ⟨j + 1,by go_num,Nat.succ_le_of_lt hjl,below_ch HBR2.out HC.out⟩)
        case measure =>
         simp [intOf]
         omega
     · have hltj : ¬ (j : Int) < (ng : Int):=by omega
       clear hbr
       go_wp2
       go_ret
       exact ⟨by first | rfl | simp,below_ch HWX.out HBR2.out⟩
theorem walk (s : ByteArray) (hs : s.size ≤ maxLen) (q : Int) (wq : (Lit.int .u8 q).wf = true) (W : World) (L0 : Laid W) : Calls Tryd.prog 3 #[.string s,.int .u8 q] W fun e w' => e = .returned (.bool true) ∧ Below W.heap.size W w':=by
 have hb : 0 ≤ q ∧ q ≤ 255:=by (simp [Lit.wf,IntKind.min,IntKind.max,IntKind.bits,IntKind.signed] at wq;omega)
 obtain ⟨n,rfl⟩:=Int.eq_ofNat_of_zero_le hb.1
 exact walk0 s n (by omega) (n % 9) rfl W (hid L0)
theorem lifted (os : Os) (started : os.Started) (H : Type) (enc : TypeId × Value → H) :
 ReturnsInHanded {} Tryd.checked os 3 .any (fun w args => (Rows.showTellsSpec.pre enc Tryd.prog Tryd.f3 [] false w args ∧ laidMetH Tryd.prog laidL w) ∧ sizedMet enc Tryd.prog Tryd.f3 (OpenSpec.ofChange Rows.showTellsSpec) false w args)
  (Rows.showTellsSpec.post enc Tryd.prog Tryd.f3 false true false false):=by
 refine returnsInHanded_of_change_and (C:=Tryd.checked) (X:=fun w _ => laidMetH Tryd.prog laidL w) (fun _ _ _ hh h => h.of_heap hh) own started (by kernel_rfl) Tryd.func3
  (ChangeSpec.witness_shaped (enc:=enc) (C:=Tryd.checked) (os:=os) (X:=fun w _ => laidMetH Tryd.prog laidL w) false (World.doorLaid Tryd.prog 400 os) #[.string ByteArray.empty,.int .u8 0] 8 rfl (World.shaped_of_RefB (by kernel_rfl) (by kernel_rfl)) (by kernel_rfl) (by kernel_rfl) (by kernel_rfl) (door_met os _)) ?_
 intro W base args ds gs before hval0 hW _ _ hL _
 have hval : ∀ (j : Nat) t v,Tryd.f3.params[j]? = some t → args[j]? = some v → Value.okWide Tryd.prog W .any base t v:=hval0
 have hW':=hW
 obtain ⟨p,q,hA0,hV,rfl,hfz,hnd⟩:=hW
 have hA : DataW.TrodAll enc Tryd.prog W 0 (fun _ => true) true Tryd.f3.params.toList args.toList ds p:=hA0
 rw [Tryd.params3] at hA hval
 obtain ⟨v0,v1,d0,d1,p0,p1,rfl,rfl,rfl,h0,h1⟩:=trodAll_two hA
 obtain ⟨rfl,rfl⟩:=trodVars_none hV
 obtain ⟨s,rfl,rfl,rfl,wx0⟩:=open_string Tryd.underlying9 (hval 0 9 _ rfl rfl) h0
 obtain ⟨q,rfl,rfl,rfl,wx1⟩:=open_int Tryd.underlying5 (hval 1 5 _ rfl rfl) h1
 have hLaid:=of_laid hL
 clear hA0 hval0
 simp only [List.append_nil] at hW'
 refine (walk s wx0 q wx1 W hLaid).mono fun e W' ⟨he,hb⟩ => ?_
 subst he
 exact ⟨_,rfl,_,_,_,[],[],[],hW',trodAll_mk1 (shut_bool Tryd.underlying4 _),trodAll_mk2 (shut_string Tryd.underlying9 wx0) (shut_int Tryd.underlying5 wx1),rfl,hb.frame _,fun h => by cases h⟩
theorem said : Rows.ShowTellsSaid :=
 OpenClaim.holds_of_wide 3 Tryd.f3 rfl rfl rfl rfl rfl rfl rfl ⟨rfl,rfl,rfl,rfl,rfl⟩ rfl rfl rfl rfl rfl (by kernel_rfl) Tryd.func3 (by kernel_rfl)
  (of_decide_eq_true (by kernel_rfl)) (by unfold Func.isWrapper;first | (rw [if_pos (by decide +kernel)];kernel_rfl) | (rw [if_neg (by decide +kernel)];exact ⟨rfl,rfl⟩))
  (fun os started H enc _ => lifted os started H enc)
end ShowTells
theorem showTells_card_holds : Rows.ShowTellsCardSaid :=
 Claim7.holds_tied_plain_at .later [] _ true _ false
  ShowTells.said (fun _ h => by cases h) (by kernel_rfl) (fun _ h => by cases h) showTells_row_tie rfl ⟨rfl,rfl⟩ (by kernel_rfl) rfl
  (fun f fn hf hfn => by
    obtain rfl : f = 3:=Option.some.inj ((show Tryd.prog.funcNamed "paling/palinglaw05.ShowTells" = some 3 by kernel_rfl).symm.trans hf) |>.symm
    obtain rfl : fn = Tryd.f3:=(Option.some.inj (Tryd.func3.symm.trans hfn)).symm
    exact ⟨by kernel_rfl,fun j t ht => by
     rw [Tryd.params3] at ht
     have hm : t ∈ [9,5]:=by simpa using Array.mem_of_getElem? ht
     have hall : ([9,5].all fun u => !Tryd.prog.wantsStandIn u) = true:=by kernel_rfl
     exact (show Tryd.prog.wantsStandIn t = false by simpa using List.all_eq_true.1 hall t hm)⟩)
  (by kernel_rfl)
#print axioms showTells_card_holds
end Go.Proofs.YtkhbbapocamlmaaDoor
