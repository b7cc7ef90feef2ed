/- CalcEvals comes out true for every operator and every two numbers: no condition but what the card itself says of the listed variables. -/
import Derived.Test.YtibbmacoofgmoaaDoorReval
import Derived.Test.YtibbmacoofgmoaaDoorLaid
import Derived.Test.YtibbmacoofgmoaaDoorTie
import Derived.Test.YtibbmacoofgmoaaDoorCards
import Derived.SevenTiedAt
import Derived.Carry
namespace Go.Proofs.YtibbmacoofgmoaaDoor
namespace CalcEvals
open Go Go.ChangeShapes Go.WideShapes Go.ChangeAt Go.WideMaps Go.WideElems Go.RowKit Go.Sort
open Go.ChangeMaps (open_string shut_string)


def RvC (o a b r : Int) : Prop := ∀ w : World, Calls Tryd.prog 12 #[.int .i64 o, .int .i64 a, .int .i64 b] w fun e w' => e = .returned (.int .i64 r) ∧ w = w'

set_option maxHeartbeats 1000000 in
theorem core (o a b r : Int) (c1 : EvC o a b r) (c2 : RvC o a b r) (ct : Hid (∀ i : Int, -1 ≤ i → i < 20 → ∃ v : Int, EvC i a b v ∧ RvC i a b v)) (W : World) (L : Hid (Laid W)) : Calls Tryd.prog 3 #[.int .i64 o, .int .i64 a, .int .i64 b] W fun e w' => e = .returned (.bool true) ∧ Below W.heap.size W w' := by
  go_enter Tryd.func3, Tryd.ntmps3
  go_wp2_with (first
    | (go_at_call 10; refine (awake_any _ L).mono ?_; rintro e' w1 ⟨rfl, hb1⟩; have hB := hb1; clear hb1))
  go_loopw [8] (fun i wr => ∃ k : Int, -1 ≤ k ∧ k ≤ 20 ∧ i = .int .i64 k ∧ Below W.heap.size W wr) (fun i _ => (20 - intOf i).toNat)
  case atStart => exact ⟨-1, by omega, by omega, rfl, hB⟩
  case round =>
    obtain ⟨k, hk0, hk, rfl, hBk⟩ := hrel
    clear hB
    have hB := hBk
    clear hBk
    by_cases hlt : k < 20
    · obtain ⟨v, cv, cr⟩ := ct.out k hk0 hlt
      go_wp2_with (first
        | (go_at_call 11; with_reducible refine (cv.out _).mono ?_; rintro e' w1 ⟨rfl, hb1⟩; replace hB := hB.trans (hb1.mono hB.size); clear hb1)
        | (go_at_call 12; refine (cr _).mono ?_; rintro e' w1 ⟨rfl, rfl⟩))
      go_roundw
      case rel => exact ⟨k + 1, by omega, by omega, rfl, hB⟩
      case measure => simp [intOf]; omega
    · go_wp2_with (first
        | (go_at_call 11; with_reducible refine (c1.out _).mono ?_; rintro e' w1 ⟨rfl, hb1⟩; replace hB := hB.trans (hb1.mono hB.size); clear hb1)
        | (go_at_call 12; refine (c2 _).mono ?_; rintro e' w1 ⟨rfl, rfl⟩))
      go_ret
      exact ⟨rfl, hB⟩

theorem walk (o : Int) (wo : (Lit.int .i64 o).wf = true) (a : Int) (wa : (Lit.int .i64 a).wf = true) (b : Int) (_wb : (Lit.int .i64 b).wf = true) (W : World) (L : Laid W) : Calls Tryd.prog 3 #[.int .i64 o, .int .i64 a, .int .i64 b] W fun e w' => e = .returned (.bool true) ∧ Below W.heap.size W w' := by
  obtain ⟨a0, a1⟩ := bd_of wa
  exact core o a b _ (EvC.mk rfl wo) (fun w => reval_any o a b a0 a1 w) (Lib.hid fun i h0 h1 => ⟨_, EvC.mk rfl (wf_of (by omega) (by omega)), fun w => reval_any i a b a0 a1 w⟩) W (Lib.hid L)

set_option maxRecDepth 100000 in
theorem lifted (os : Os) (started : os.Started) (H : Type) (enc : TypeId × Value → H) :
    ReturnsInHanded {} Tryd.checked os 3 .any (fun w args => (Rows.calcEvalsSpec.pre enc Tryd.prog Tryd.f3 [] false w args ∧ laidMetH Tryd.prog laidL w) ∧ sizedMet enc Tryd.prog Tryd.f3 (OpenSpec.ofChange Rows.calcEvalsSpec) false w args)
      (Rows.calcEvalsSpec.post enc Tryd.prog Tryd.f3 false true false false) := by
  refine returnsInHanded_of_change_and (C := Tryd.checked) (X := fun w _ => laidMetH Tryd.prog laidL w) (fun _ _ _ hh h => h.of_heap hh) own started (by kernel_rfl) Tryd.func3
    (ChangeSpec.witness_shaped (enc := enc) (C := Tryd.checked) (os := os) (X := fun w _ => laidMetH Tryd.prog laidL w) false (World.doorLaid Tryd.prog 400 os) #[.int .i64 0, .int .i64 0, .int .i64 0] 8 rfl (World.shaped_of_RefB (by kernel_rfl) (by kernel_rfl)) (by kernel_rfl) (by kernel_rfl) (by kernel_rfl) (door_met os _)) ?_
  intro W base args ds gs before hval0 hW _ _ hL _
  have hval : ∀ (j : Nat) t v, Tryd.f3.params[j]? = some t → args[j]? = some v → Value.okWide Tryd.prog W .any base t v := hval0
  have hW' := hW
  obtain ⟨p, q, hA0, hV, rfl, hfz, hnd⟩ := hW
  have hA : DataW.TrodAll enc Tryd.prog W 0 (fun _ => true) true Tryd.f3.params.toList args.toList ds p := hA0
  rw [Tryd.params3] at hA hval
  obtain ⟨v0, v1, v2, d0, d1, d2, p0, p1, p2, rfl, rfl, rfl, h0, h1, h2⟩ := trodAll_three hA
  obtain ⟨rfl, rfl⟩ := trodVars_none hV
  obtain ⟨o, rfl, rfl, rfl, wx0⟩ := open_int Tryd.underlying3 (hval 0 3 _ rfl rfl) h0
  obtain ⟨a, rfl, rfl, rfl, wx1⟩ := open_int Tryd.underlying2 (hval 1 2 _ rfl rfl) h1
  obtain ⟨b, rfl, rfl, rfl, wx2⟩ := open_int Tryd.underlying2 (hval 2 2 _ rfl rfl) h2
  have hLaid := of_laid hL
  clear hA0 hval0
  simp only [List.append_nil] at hW'
  refine (walk o wx0 a wx1 b wx2 W hLaid).mono fun e W' ⟨he, hb⟩ => ?_
  subst he
  exact ⟨_, rfl, _, _, _, [], [], [], hW', trodAll_mk1 (shut_bool Tryd.underlying4 _), trodAll_mk3 (shut_int Tryd.underlying3 wx0) (shut_int Tryd.underlying2 wx1) (shut_int Tryd.underlying2 wx2), rfl, hb.frame _, fun h => by cases h⟩

theorem said : Rows.CalcEvalsSaid :=
  OpenClaim.holds_of_wide 3 Tryd.f3 rfl rfl rfl rfl rfl rfl rfl ⟨rfl, rfl, rfl, rfl, rfl⟩ rfl rfl rfl rfl rfl (by kernel_rfl) Tryd.func3 (by kernel_rfl)
    (of_decide_eq_true (by kernel_rfl)) (by unfold Func.isWrapper; first | (rw [if_pos (by decide +kernel)]; kernel_rfl) | (rw [if_neg (by decide +kernel)]; exact ⟨rfl, rfl⟩))
    (fun os started H enc _ => lifted os started H enc)
end CalcEvals

theorem calcEvals_card_holds : Rows.CalcEvalsCardSaid :=
  Claim7.holds_tied_plain_at .later [] _ true _ true
    CalcEvals.said (fun _ h => by cases h) (by kernel_rfl) (fun _ h => by cases h) calcEvals_row_tie rfl ⟨rfl, rfl⟩ (by kernel_rfl) rfl
    (fun f fn hf hfn => by
      obtain rfl : f = 3 := Option.some.inj ((show Tryd.prog.funcNamed "paling/palinglaw01.CalcEvals" = some 3 by kernel_rfl).symm.trans hf) |>.symm
      obtain rfl : fn = Tryd.f3 := (Option.some.inj (Tryd.func3.symm.trans hfn)).symm
      exact ⟨by kernel_rfl, fun j t ht => by
        rw [Tryd.params3] at ht
        have hm : t ∈ [3, 2, 2] := by simpa using Array.mem_of_getElem? ht
        have hall : ([3, 2, 2].all fun u => !Tryd.prog.wantsStandIn u) = true := by kernel_rfl
        exact (show Tryd.prog.wantsStandIn t = false by simpa using List.all_eq_true.1 hall t hm)⟩)
    (by kernel_rfl)
#print axioms calcEvals_card_holds
end Go.Proofs.YtibbmacoofgmoaaDoor
