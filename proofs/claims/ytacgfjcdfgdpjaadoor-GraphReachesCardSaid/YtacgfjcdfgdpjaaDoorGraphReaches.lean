/- Of any code, wherever it lies in memory, the statement answers true: which instructions can be come to, and from where, are the document's; the listed variable ins.kinds reads as the program's text lays it. -/
import Derived.Test.YtacgfjcdfgdpjaaDoorGsm
import Derived.Test.YtacgfjcdfgdpjaaDoorGld
import Derived.Test.YtacgfjcdfgdpjaaDoorOpn
import Derived.Test.YtacgfjcdfgdpjaaDoorTie
import Derived.Test.YtacgfjcdfgdpjaaDoorCards
import Derived.SevenTiedAt
import Derived.Carry
namespace Go.Proofs.YtacgfjcdfgdpjaaDoor
set_option linter.unusedSimpArgs false
set_option linter.unusedVariables false
namespace GraphReaches
open Go Go.ChangeShapes Go.WideShapes Go.ChangeAt Go.WideMaps Go.WideElems Go.RowKit Go.Sort
open Go.ChangeMaps (open_string shut_string)
open Gm
set_option maxRecDepth 100000 in
set_option maxHeartbeats 8000000 in
theorem walk {W : World} (c : List Ic) (p : Option Addr) (n cap : Nat) (hl : c.length = n) (hc0 : CodeAt W p c) (W0 : World) (L : Kinds W0) (e : W0 = W := by rfl) : Calls Tryd.prog 3 #[.slice p n cap] W fun e w' => e = .returned (.bool true) ∧ Below W.heap.size W w' := by
  subst e
  subst hl
  have hc := Lib.hid hc0
  have T := Lib.hid L
  clear hc0 L
  by_cases h60 : c.length ≤ 60
  · have hn : c.length ≤ 1000000 := by omega
    go_enter Tryd.func3, Tryd.ntmps3
    go_wp2_with (first
    | (go_at_call 7; ((with_reducible refine (awake_any T).mono ?_); rintro e1 w1 ⟨rfl, hb1⟩; have C1 := Lib.hid (hc.out.stay hb1); have T1 := Lib.hid (T.out.below hb1); have B1 := Lib.hid hb1; clear hb1))
    | (go_at_call 9; ((with_reducible refine (reach_c hn C1 T1).mono ?_); rintro e2 w2 ⟨v2, rfl, h2, hb2⟩; have H2 := Lib.hid h2; have C2 := Lib.hid (C1.out.stay hb2); have T2 := Lib.hid (T1.out.below hb2); have B2 := Lib.hid (below_ch B1.out hb2); clear h2 hb2))
    | (go_at_call 10; ((with_reducible refine (rreach_c C2 hn).mono ?_); rintro e3 w3 ⟨v3, rfl, h3, hb3⟩; have H3 := Lib.hid h3; have H2' := Lib.hid (H2.out.stay hb3); have C3 := Lib.hid (C2.out.stay hb3); have T3 := Lib.hid (T2.out.below hb3); have B3 := Lib.hid (below_ch B2.out hb3); clear h3 hb3))
    | (go_at_call 8; ((with_reducible refine (bools_same H2' H3 hn).mono ?_); rintro e4 w4 ⟨rfl, hb4⟩; have C4 := Lib.hid (C3.out.stay hb4); have T4 := Lib.hid (T3.out.below hb4); have B4 := Lib.hid (below_ch B3.out hb4); clear hb4))
    | (go_at_call 12; ((with_reducible refine (preds_c hn C4 T4).mono ?_); rintro e5 w5 ⟨v5, rfl, h5, hb5⟩; have H5 := Lib.hid h5; have C5 := Lib.hid (C4.out.stay hb5); have T5 := Lib.hid (T4.out.below hb5); have B5 := Lib.hid (below_ch B4.out hb5); clear h5 hb5))
    | (go_at_call 13; ((with_reducible refine (rpreds_c C5 hn).mono ?_); rintro e6 w6 ⟨v6, rfl, h6, hb6⟩; have H6 := Lib.hid h6; have H5' := Lib.hid (H5.out.nr hb6); have C6 := Lib.hid (C5.out.stay hb6); have T6 := Lib.hid (T5.out.below hb6); have B6 := Lib.hid (below_ch B5.out hb6); clear h6 hb6))
    | (go_at_call 11; ((with_reducible refine (rows_same H5' H6 hn).mono ?_); rintro e7 w7 ⟨rfl, hb7⟩; have C7 := Lib.hid (C6.out.stay hb7); have T7 := Lib.hid (T6.out.below hb7); have B7 := Lib.hid (below_ch B6.out hb7); clear hb7)))
    go_ret
    exact ⟨rfl, B7.out⟩
  · have h61 : (60 : Int) < (c.length : Int) := by omega
    go_enter Tryd.func3, Tryd.ntmps3
    go_wp2_with (first
    | (go_at_call 7; ((with_reducible refine (awake_any T).mono ?_); rintro e1 w1 ⟨rfl, hb1⟩; have C1 := Lib.hid (hc.out.stay hb1); have T1 := Lib.hid (T.out.below hb1); have B1 := Lib.hid hb1; clear hb1)))
    go_ret
    exact ⟨rfl, B1.out⟩

theorem out_laid : laidOutB Tryd.prog = true := by kernel_rfl
set_option maxRecDepth 100000 in
theorem lifted (os : Os) (started : os.Started) (H : Type) (enc : TypeId × Value → H) :
    ReturnsInHanded {} Tryd.checked os 3 .any (fun w args => (Rows.graphReachesSpec.pre enc Tryd.prog Tryd.f3 [] false w args ∧ laidMetH Tryd.prog laidL w) ∧ sizedMet enc Tryd.prog Tryd.f3 (OpenSpec.ofChange Rows.graphReachesSpec) false w args)
      (Rows.graphReachesSpec.post enc Tryd.prog Tryd.f3 false true false false) := by
  refine returnsInHanded_of_change_and (C := Tryd.checked) (X := fun w _ => laidMetH Tryd.prog laidL w) (fun _ _ _ hh h => h.of_heap hh) own started (by kernel_rfl) Tryd.func3
    (ChangeSpec.witness_shaped (enc := enc) (C := Tryd.checked) (os := os) (X := fun w _ => laidMetH Tryd.prog laidL w) false (World.doorLaid Tryd.prog 400 os) #[.slice none 0 0] 8 rfl (World.shaped_of_RefB (by kernel_rfl) (by kernel_rfl)) (by kernel_rfl) (by kernel_rfl) (by kernel_rfl) (door_met os _)) ?_
  intro W base args ds gs before hval0 hW _ _ hL _
  have hval : ∀ (j : Nat) t v, Tryd.f3.params[j]? = some t → args[j]? = some v → Value.okWide Tryd.prog W .any base t v := hval0
  have hW' := hW
  obtain ⟨p, q, hA0, hV, rfl, hfz, hnd⟩ := hW
  have hA : DataW.TrodAll enc Tryd.prog W 0 (fun _ => true) true Tryd.f3.params.toList args.toList ds p := hA0
  rw [Tryd.params3] at hA hval
  obtain ⟨v0, vs0, d0, ds0, p0, q0, hargs, rfl, rfl, h0, r0⟩ := trodAll_cons hA
  obtain ⟨rfl, rfl, rfl⟩ := trodAll_nil r0
  obtain rfl : args = #[v0] := by cases args; simp_all
  obtain ⟨rfl, rfl⟩ := trodVars_none hV
  obtain ⟨a0, n0, c0, rfl⟩ := okWide_slice Tryd.underlying22 (hval 0 22 v0 rfl rfl)
  obtain ⟨l0, hl0, hc0⟩ := open_code h0
  have hlt0 : ∀ x ∈ p0, x.block < W.heap.size := fun x hx => by simpa using hW'.lt x (by simp [hx])
  have hLaid := of_laid hL
  clear hA0 hval0
  simp only [List.append_nil] at hW'
  refine (walk l0 a0 n0 c0 hl0 hc0 W hLaid).mono fun e W' ⟨he, hb⟩ => ?_
  subst he
  exact ⟨_, rfl, _, _, _, [], _, [], hW', trodAll_mk1 (shut_bool Tryd.underlying4 _), (trodAll_cons_mk (Below.trod out_laid (by kernel_rfl) (of_decide_eq_true (by kernel_rfl)) h0 hb hlt0) trodAll_mk0), rfl, hb.frame _, fun h => by cases h⟩

theorem said : Rows.GraphReachesSaid :=
  OpenClaim.holds_of_wide 3 Tryd.f3 rfl rfl rfl rfl rfl rfl rfl ⟨rfl, rfl, rfl, rfl, rfl⟩ rfl rfl rfl rfl rfl (by kernel_rfl) Tryd.func3 (by kernel_rfl)
    (of_decide_eq_true (by kernel_rfl)) (by unfold Func.isWrapper; first | (rw [if_pos (by decide +kernel)]; kernel_rfl) | (rw [if_neg (by decide +kernel)]; exact ⟨rfl, rfl⟩))
    (fun os started H enc _ => lifted os started H enc)
end GraphReaches

theorem graphReaches_card_holds : Rows.GraphReachesCardSaid :=
  Claim7.holds_tied_plain_at .later [] _ true _ false
    GraphReaches.said (fun _ h => by cases h) (by kernel_rfl) (fun _ h => by cases h) graphReaches_row_tie rfl ⟨rfl, rfl⟩ (by kernel_rfl) rfl
    (fun f fn hf hfn => by
      obtain rfl : f = 3 := Option.some.inj ((show Tryd.prog.funcNamed "paling/palinglaw14.GraphReaches" = some 3 by kernel_rfl).symm.trans hf) |>.symm
      obtain rfl : fn = Tryd.f3 := (Option.some.inj (Tryd.func3.symm.trans hfn)).symm
      exact ⟨by kernel_rfl, fun j t ht => by
        rw [Tryd.params3] at ht
        have hm : t ∈ [22] := by simpa using Array.mem_of_getElem? ht
        have hall : ([22].all fun u => !Tryd.prog.wantsStandIn u) = true := by kernel_rfl
        exact (show Tryd.prog.wantsStandIn t = false by simpa using List.all_eq_true.1 hall t hm)⟩)
    (by kernel_rfl)
#print axioms graphReaches_card_holds
end Go.Proofs.YtacgfjcdfgdpjaaDoor
