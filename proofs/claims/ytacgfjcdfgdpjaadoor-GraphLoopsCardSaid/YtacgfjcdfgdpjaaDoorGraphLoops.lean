/- Of any code, wherever it lies in memory, the statement answers true: what is above what, the loops, and in how many each place is, are the document's; the listed variable ins.kinds reads as the program's text lays it. -/
import Derived.Test.YtacgfjcdfgdpjaaDoorGwall
import Derived.Test.YtacgfjcdfgdpjaaDoorGld
import Derived.Test.YtacgfjcdfgdpjaaDoorOpn
import Derived.Test.YtacgfjcdfgdpjaaDoorTie
import Derived.Test.YtacgfjcdfgdpjaaDoorCards
import Derived.SevenTiedAt
import Derived.Carry
namespace Go.Proofs.YtacgfjcdfgdpjaaDoor
set_option linter.unusedSimpArgs false
set_option linter.unusedVariables false
namespace GraphLoops
open Go Go.ChangeShapes Go.WideShapes Go.ChangeAt Go.WideMaps Go.WideElems Go.RowKit Go.Sort
open Go.ChangeMaps (open_string shut_string)
open Gm
set_option maxRecDepth 100000 in
set_option maxHeartbeats 8000000 in
theorem walk {W : World} (c : List Ic) (p : Option Addr) (n cap : Nat) (hl : c.length = n) (hc0 : CodeAt W p c) (W0 : World) (L : Kinds W0) (e : W0 = W := by rfl) : Calls Tryd.prog 4 #[.slice p n cap] W fun e w' => e = .returned (.bool true) ∧ Below W.heap.size W w' := by
  subst e
  subst hl
  have hc := Lib.hid hc0
  have T := Lib.hid L
  clear hc0 L
  by_cases h40 : c.length ≤ 40
  · have hn : c.length ≤ 1000000 := by omega
    have h40' : ¬ (40 : Int) < (c.length : Int) := by omega
    have hphn : (phs c).length ≤ 1000000 := Nat.le_trans (php_len c c.length) hn
    have hdl : ((List.range c.length).map (dpt c)).length ≤ 1000000 := by rw [List.length_map, List.length_range]; exact hn
    go_enter Tryd.func4, Tryd.ntmps4
    go_upto_region 8 with (first
      | (go_at_call 7; ((with_reducible refine (awake_any T).mono ?_); rintro e1 w1 ⟨rfl, hb1⟩; have C1 := Lib.hid (hc.out.stay hb1); have T1 := Lib.hid (T.out.below hb1); have B1 := Lib.hid hb1; clear hb1))
      | (go_at_call 14; ((with_reducible refine (domin_c hn C1 T1).mono ?_); rintro e2 w2 ⟨v4, rfl, h2, hb2⟩; have H4 := Lib.hid h2; have C2 := Lib.hid (C1.out.stay hb2); have T2 := Lib.hid (T1.out.below hb2); have B2 := Lib.hid (below_ch B1.out hb2); clear h2 hb2))
      | (go_at_call 15; ((with_reducible refine (rdomin_c C2 hn).mono ?_); rintro e3 w3 ⟨v5, rfl, h3, hb3⟩; have H5 := Lib.hid h3; have H4' := Lib.hid (H4.out.br hb3); have C3 := Lib.hid (C2.out.stay hb3); have T3 := Lib.hid (T2.out.below hb3); have B3 := Lib.hid (below_ch B2.out hb3); clear h3 hb3)))
    obtain ⟨q4, cq4, S4, rfl, r4, t4⟩ := H4'.out
    obtain ⟨q5, cq5, S5, rfl, r5, t5⟩ := H5.out
    have R4 := Lib.hid (And.intro r4 t4)
    have R5 := Lib.hid (And.intro r5 t5)
    clear r4 t4 r5 t5
    have hne : ((c.length : Int) != (c.length : Int)) = false := by simp
    go_wp2
    go_loopw [6] (fun a wr => ∃ i : Nat, a = .int .i64 i ∧ i ≤ c.length ∧ Hid (Below w3.heap.size w3 wr)) (fun a _ => c.length - (intOf a).toNat)
    case atStart => exact ⟨0, rfl, Nat.zero_le _, Lib.hid (Below.refl _ _)⟩
    case round =>
      obtain ⟨wo, rfl⟩ : ∃ wo : World, wo = wr := ⟨_, rfl⟩
      obtain ⟨i, rfl, hi, HB⟩ := hrel
      by_cases hin : i < c.length
      · obtain ⟨a4, o4, rfl, -, i4⟩ := (R4.out.1.stay HB.out) i hin
        obtain ⟨a5, o5, rfl, -, i5⟩ := (R5.out.1.stay HB.out) i hin
        have hA := (R4.out.2 i hin).stay HB.out
        have hB := (R5.out.2 i hin).stay HB.out
        obtain ⟨qa, ca, ga, ea, -, -⟩ := hA
        obtain ⟨qb, cb, gb, eb, -, -⟩ := hB
        have HA : Hid (BR wo.drew (.slice qa c.length ca) c.length fun j => Dmp c j i) := Lib.hid (ea ▸ ((R4.out.2 i hin).stay HB.out).stay (below_drew (Below.refl _ _)))
        have HB2 : Hid (BR wo.drew (.slice qb c.length cb) c.length fun j => Dmp c j i) := Lib.hid (eb ▸ ((R5.out.2 i hin).stay HB.out).stay (below_drew (Below.refl _ _)))
        have HBw : Hid (Below w3.heap.size w3 wo.drew) := Lib.hid (below_drew HB.out)
        rw [ea] at i4
        rw [eb] at i5
        clear ea eb
        go_upto_region 13 with (fail)
        go_still_tail 8, (by kernel_rfl)
        obtain ⟨W2, hW2⟩ : ∃ W2, wo.drew = W2 := ⟨_, rfl⟩
        change wpList _ _ _ _ _ wo.drew
        rw [hW2] at HA HB2 HBw ⊢
        clear hW2
        go_wp2_with (go_at_call 8; ((with_reducible refine (bools_same HA HB2 hn).mono ?_); rintro e4 w4 ⟨rfl, hb4⟩; have H4b := Lib.hid hb4; clear hb4))
        go_roundw
        case rel => exact ⟨i + 1, by go_num, by omega, Lib.hid (HBw.out.trans (H4b.out.mono HBw.out.size))⟩
        case measure => (simp [intOf]; try omega)
      · obtain rfl : i = c.length := by omega
        have CQ : Hid (CodeAt wo p c) := Lib.hid (C3.out.stay HB.out)
        have TQ : Hid (Kinds wo) := Lib.hid (T3.out.below HB.out)
        have BQ : Hid (Below W0.heap.size W0 wo) := Lib.hid (B3.out.trans (HB.out.mono B3.out.size))
        go_wp2_with (first
          | (go_at_call 16; ((with_reducible refine (loops_c hn CQ TQ).mono ?_); rintro e5 w5 ⟨v6, rfl, h5, hb5⟩; have H6 := Lib.hid h5; have C5 := Lib.hid (CQ.out.stay hb5); have T5 := Lib.hid (TQ.out.below hb5); have B5 := Lib.hid hb5; clear h5 hb5))
          | (go_at_call 17; ((with_reducible refine (rloops_c C5 hn).mono ?_); rintro e6 w6 ⟨v7, rfl, h6, hb6⟩; have H7 := Lib.hid h6; have H6' := Lib.hid (H6.out.nr hb6); have C6 := Lib.hid (C5.out.stay hb6); have T6 := Lib.hid (T5.out.below hb6); have B6 := Lib.hid (below_ch B5.out hb6); clear h6 hb6))
          | (go_at_call 11; ((with_reducible refine (rows_same H6' H7 hphn).mono ?_); rintro e7 w7 ⟨rfl, hb7⟩; have C7 := Lib.hid (C6.out.stay hb7); have T7 := Lib.hid (T6.out.below hb7); have B7 := Lib.hid (below_ch B6.out hb7); clear hb7))
          | (go_at_call 19; ((with_reducible refine (depth_c hn C7 T7).mono ?_); rintro e8 w8 ⟨v8, rfl, h8, hb8⟩; have H8 := Lib.hid h8; have C8 := Lib.hid (C7.out.stay hb8); have T8 := Lib.hid (T7.out.below hb8); have B8 := Lib.hid (below_ch B7.out hb8); clear h8 hb8))
          | (go_at_call 20; ((with_reducible refine (rdepth_c C8 hn).mono ?_); rintro e9 w9 ⟨v9, rfl, h9, hb9⟩; have H9 := Lib.hid h9; have H8' := Lib.hid (H8.out.stay hb9); have C9 := Lib.hid (C8.out.stay hb9); have T9 := Lib.hid (T8.out.below hb9); have B9 := Lib.hid (below_ch B8.out hb9); clear h9 hb9))
          | (go_at_call 18; ((with_reducible refine (ints_same H8' H9 hdl).mono ?_); rintro e10 w10 ⟨rfl, hb10⟩; have C10 := Lib.hid (C9.out.stay hb10); have T10 := Lib.hid (T9.out.below hb10); have B10 := Lib.hid (below_ch B9.out hb10); clear hb10)))
        go_ret
        exact ⟨rfl, BQ.out.trans (B10.out.mono BQ.out.size)⟩
  · have h41 : (40 : Int) < (c.length : Int) := by omega
    go_enter Tryd.func4, Tryd.ntmps4
    go_wp2_with (first
    | (go_at_call 7; ((with_reducible refine (awake_any T).mono ?_); rintro e1 w1 ⟨rfl, hb1⟩; have C1 := Lib.hid (hc.out.stay hb1); have T1 := Lib.hid (T.out.below hb1); have B1 := Lib.hid hb1; clear hb1)))
    go_ret
    exact ⟨rfl, B1.out⟩

theorem out_laid : laidOutB Tryd.prog = true := by kernel_rfl
set_option maxRecDepth 100000 in
theorem lifted (os : Os) (started : os.Started) (H : Type) (enc : TypeId × Value → H) :
    ReturnsInHanded {} Tryd.checked os 4 .any (fun w args => (Rows.graphLoopsSpec.pre enc Tryd.prog Tryd.f4 [] false w args ∧ laidMetH Tryd.prog laidL w) ∧ sizedMet enc Tryd.prog Tryd.f4 (OpenSpec.ofChange Rows.graphLoopsSpec) false w args)
      (Rows.graphLoopsSpec.post enc Tryd.prog Tryd.f4 false true false false) := by
  refine returnsInHanded_of_change_and (C := Tryd.checked) (X := fun w _ => laidMetH Tryd.prog laidL w) (fun _ _ _ hh h => h.of_heap hh) own started (by kernel_rfl) Tryd.func4
    (ChangeSpec.witness_shaped (enc := enc) (C := Tryd.checked) (os := os) (X := fun w _ => laidMetH Tryd.prog laidL w) false (World.doorLaid Tryd.prog 400 os) #[.slice none 0 0] 8 rfl (World.shaped_of_RefB (by kernel_rfl) (by kernel_rfl)) (by kernel_rfl) (by kernel_rfl) (by kernel_rfl) (door_met os _)) ?_
  intro W base args ds gs before hval0 hW _ _ hL _
  have hval : ∀ (j : Nat) t v, Tryd.f4.params[j]? = some t → args[j]? = some v → Value.okWide Tryd.prog W .any base t v := hval0
  have hW' := hW
  obtain ⟨p, q, hA0, hV, rfl, hfz, hnd⟩ := hW
  have hA : DataW.TrodAll enc Tryd.prog W 0 (fun _ => true) true Tryd.f4.params.toList args.toList ds p := hA0
  rw [Tryd.params4] at hA hval
  obtain ⟨v0, vs0, d0, ds0, p0, q0, hargs, rfl, rfl, h0, r0⟩ := trodAll_cons hA
  obtain ⟨rfl, rfl, rfl⟩ := trodAll_nil r0
  obtain rfl : args = #[v0] := by cases args; simp_all
  obtain ⟨rfl, rfl⟩ := trodVars_none hV
  obtain ⟨a0, n0, c0, rfl⟩ := okWide_slice Tryd.underlying22 (hval 0 22 v0 rfl rfl)
  obtain ⟨l0, hl0, hc0⟩ := open_code h0
  have hlt0 : ∀ x ∈ p0, x.block < W.heap.size := fun x hx => by simpa using hW'.lt x (by simp [hx])
  have hLaid := of_laid hL
  clear hA0 hval0
  simp only [List.append_nil] at hW'
  refine (walk l0 a0 n0 c0 hl0 hc0 W hLaid).mono fun e W' ⟨he, hb⟩ => ?_
  subst he
  exact ⟨_, rfl, _, _, _, [], _, [], hW', trodAll_mk1 (shut_bool Tryd.underlying4 _), (trodAll_cons_mk (Below.trod out_laid (by kernel_rfl) (of_decide_eq_true (by kernel_rfl)) h0 hb hlt0) trodAll_mk0), rfl, hb.frame _, fun h => by cases h⟩

theorem said : Rows.GraphLoopsSaid :=
  OpenClaim.holds_of_wide 4 Tryd.f4 rfl rfl rfl rfl rfl rfl rfl ⟨rfl, rfl, rfl, rfl, rfl⟩ rfl rfl rfl rfl rfl (by kernel_rfl) Tryd.func4 (by kernel_rfl)
    (of_decide_eq_true (by kernel_rfl)) (by unfold Func.isWrapper; first | (rw [if_pos (by decide +kernel)]; kernel_rfl) | (rw [if_neg (by decide +kernel)]; exact ⟨rfl, rfl⟩))
    (fun os started H enc _ => lifted os started H enc)
end GraphLoops

theorem graphLoops_card_holds : Rows.GraphLoopsCardSaid :=
  Claim7.holds_tied_plain_at .later [] _ true _ false
    GraphLoops.said (fun _ h => by cases h) (by kernel_rfl) (fun _ h => by cases h) graphLoops_row_tie rfl ⟨rfl, rfl⟩ (by kernel_rfl) rfl
    (fun f fn hf hfn => by
      obtain rfl : f = 4 := Option.some.inj ((show Tryd.prog.funcNamed "paling/palinglaw14.GraphLoops" = some 4 by kernel_rfl).symm.trans hf) |>.symm
      obtain rfl : fn = Tryd.f4 := (Option.some.inj (Tryd.func4.symm.trans hfn)).symm
      exact ⟨by kernel_rfl, fun j t ht => by
        rw [Tryd.params4] at ht
        have hm : t ∈ [22] := by simpa using Array.mem_of_getElem? ht
        have hall : ([22].all fun u => !Tryd.prog.wantsStandIn u) = true := by kernel_rfl
        exact (show Tryd.prog.wantsStandIn t = false by simpa using List.all_eq_true.1 hall t hm)⟩)
    (by kernel_rfl)
#print axioms graphLoops_card_holds
end Go.Proofs.YtacgfjcdfgdpjaaDoor
