/- CalcSigns comes out true for every number and text: no condition but what the card itself says of the listed variables. -/
import Derived.Test.YtibbmacoofgmoaaDoorAwake
import Derived.Test.YtibbmacoofgmoaaDoorRsign
import Derived.Test.YtibbmacoofgmoaaDoorLaid
import Derived.Test.YtibbmacoofgmoaaDoorTie
import Derived.Test.YtibbmacoofgmoaaDoorCards
import Derived.SevenTiedAt
import Derived.Carry
namespace Go.Proofs.YtibbmacoofgmoaaDoor
namespace CalcSigns
open Go Go.ChangeShapes Go.WideShapes Go.ChangeAt Go.WideMaps Go.WideElems Go.RowKit Go.Sort
open Go.ChangeMaps (open_string shut_string)


def QS (o : Int) (s : ByteArray) : Prop := ∀ w : World, Laid w → Calls Tryd.prog 13 #[.int .i64 o] w fun e w' => e = .returned (.string s) ∧ w = w'
def QR (o r : Int) : Prop := ∀ w : World, Laid w → Calls Tryd.prog 17 #[.int .i64 o] w fun e w' => e = .returned (.int .i64 r) ∧ w = w'
def QO (s : ByteArray) (o : Int) : Prop := ∀ w : World, Laid w → Calls Tryd.prog 15 #[.string s] w fun e w' => e = .returned (.int .i64 o) ∧ w = w'
def QT (o : Int) (t : Bool) : Prop := ∀ w : World, Calls Tryd.prog 19 #[.int .i64 o] w fun e w' => e = .returned (.bool t) ∧ w = w'
def RS (o : Int) (s : ByteArray) : Prop := ∀ w : World, Calls Tryd.prog 14 #[.int .i64 o] w fun e w' => e = .returned (.string s) ∧ Below w.heap.size w w'
def RR (o r : Int) : Prop := ∀ w : World, Calls Tryd.prog 18 #[.int .i64 o] w fun e w' => e = .returned (.int .i64 r) ∧ Below w.heap.size w w'
def RO (s : ByteArray) (o : Int) : Prop := ∀ w : World, Calls Tryd.prog 16 #[.string s] w fun e w' => e = .returned (.int .i64 o) ∧ Below w.heap.size w w'

set_option maxHeartbeats 1000000 in
theorem core_yes (o r q : Int) (s g : ByteArray) (hl : s.size ≤ 20) (h0 : decide (10 ≤ o) = true) (h1 : decide (o ≤ 18) = true) (c1 : QS o g) (c2 : RS o g) (c3 : QO s q) (c4 : RO s q) (c5 : QR o r) (c6 : RR o r) (c7 : QT o true) (W : World) (L : Hid (Laid W)) : Calls Tryd.prog 4 #[.int .i64 o, .string s] W fun e w' => e = .returned (.bool true) ∧ Below W.heap.size W w' := by
  go_enter Tryd.func4, Tryd.ntmps4
  go_wp2_with (first
    | (go_at_call 10; refine (awake_any _ L).mono ?_; rintro e' w1 ⟨rfl, hb1⟩; have hB := hb1; clear hb1)
    | (go_at_call 13; refine (c1 _ (L.out.below hB)).mono ?_; rintro e' w1 ⟨rfl, rfl⟩)
    | (go_at_call 14; refine (c2 _).mono ?_; rintro e' w1 ⟨rfl, hb1⟩; replace hB := hB.trans (hb1.mono hB.size); clear hb1)
    | (go_at_call 15; refine (c3 _ (L.out.below hB)).mono ?_; rintro e' w1 ⟨rfl, rfl⟩)
    | (go_at_call 16; refine (c4 _).mono ?_; rintro e' w1 ⟨rfl, hb1⟩; replace hB := hB.trans (hb1.mono hB.size); clear hb1)
    | (go_at_call 17; refine (c5 _ (L.out.below hB)).mono ?_; rintro e' w1 ⟨rfl, rfl⟩)
    | (go_at_call 18; refine (c6 _).mono ?_; rintro e' w1 ⟨rfl, hb1⟩; replace hB := hB.trans (hb1.mono hB.size); clear hb1)
    | (go_at_call 19; refine (c7 _).mono ?_; rintro e' w1 ⟨rfl, rfl⟩))
  go_ret
  exact ⟨rfl, hB⟩

set_option maxHeartbeats 1000000 in
theorem core_low (o r q : Int) (s g : ByteArray) (hl : s.size ≤ 20) (h0 : decide (10 ≤ o) = false) (c1 : QS o g) (c2 : RS o g) (c3 : QO s q) (c4 : RO s q) (c5 : QR o r) (c6 : RR o r) (c7 : QT o false) (W : World) (L : Hid (Laid W)) : Calls Tryd.prog 4 #[.int .i64 o, .string s] W fun e w' => e = .returned (.bool true) ∧ Below W.heap.size W w' := by
  go_enter Tryd.func4, Tryd.ntmps4
  go_wp2_with (first
    | (go_at_call 10; refine (awake_any _ L).mono ?_; rintro e' w1 ⟨rfl, hb1⟩; have hB := hb1; clear hb1)
    | (go_at_call 13; refine (c1 _ (L.out.below hB)).mono ?_; rintro e' w1 ⟨rfl, rfl⟩)
    | (go_at_call 14; refine (c2 _).mono ?_; rintro e' w1 ⟨rfl, hb1⟩; replace hB := hB.trans (hb1.mono hB.size); clear hb1)
    | (go_at_call 15; refine (c3 _ (L.out.below hB)).mono ?_; rintro e' w1 ⟨rfl, rfl⟩)
    | (go_at_call 16; refine (c4 _).mono ?_; rintro e' w1 ⟨rfl, hb1⟩; replace hB := hB.trans (hb1.mono hB.size); clear hb1)
    | (go_at_call 17; refine (c5 _ (L.out.below hB)).mono ?_; rintro e' w1 ⟨rfl, rfl⟩)
    | (go_at_call 18; refine (c6 _).mono ?_; rintro e' w1 ⟨rfl, hb1⟩; replace hB := hB.trans (hb1.mono hB.size); clear hb1)
    | (go_at_call 19; refine (c7 _).mono ?_; rintro e' w1 ⟨rfl, rfl⟩))
  go_ret
  exact ⟨rfl, hB⟩

set_option maxHeartbeats 1000000 in
theorem core_high (o r q : Int) (s g : ByteArray) (hl : s.size ≤ 20) (h0 : decide (10 ≤ o) = true) (h1 : decide (o ≤ 18) = false) (c1 : QS o g) (c2 : RS o g) (c3 : QO s q) (c4 : RO s q) (c5 : QR o r) (c6 : RR o r) (c7 : QT o false) (W : World) (L : Hid (Laid W)) : Calls Tryd.prog 4 #[.int .i64 o, .string s] W fun e w' => e = .returned (.bool true) ∧ Below W.heap.size W w' := by
  go_enter Tryd.func4, Tryd.ntmps4
  go_wp2_with (first
    | (go_at_call 10; refine (awake_any _ L).mono ?_; rintro e' w1 ⟨rfl, hb1⟩; have hB := hb1; clear hb1)
    | (go_at_call 13; refine (c1 _ (L.out.below hB)).mono ?_; rintro e' w1 ⟨rfl, rfl⟩)
    | (go_at_call 14; refine (c2 _).mono ?_; rintro e' w1 ⟨rfl, hb1⟩; replace hB := hB.trans (hb1.mono hB.size); clear hb1)
    | (go_at_call 15; refine (c3 _ (L.out.below hB)).mono ?_; rintro e' w1 ⟨rfl, rfl⟩)
    | (go_at_call 16; refine (c4 _).mono ?_; rintro e' w1 ⟨rfl, hb1⟩; replace hB := hB.trans (hb1.mono hB.size); clear hb1)
    | (go_at_call 17; refine (c5 _ (L.out.below hB)).mono ?_; rintro e' w1 ⟨rfl, rfl⟩)
    | (go_at_call 18; refine (c6 _).mono ?_; rintro e' w1 ⟨rfl, hb1⟩; replace hB := hB.trans (hb1.mono hB.size); clear hb1)
    | (go_at_call 19; refine (c7 _).mono ?_; rintro e' w1 ⟨rfl, rfl⟩))
  go_ret
  exact ⟨rfl, hB⟩

theorem core_long (o : Int) (s : ByteArray) (hl : 20 < s.size) (hm : s.size ≤ 9223372036854775807) (W : World) (L : Hid (Laid W)) : Calls Tryd.prog 4 #[.int .i64 o, .string s] W fun e w' => e = .returned (.bool true) ∧ Below W.heap.size W w' := by
  go_enter Tryd.func4, Tryd.ntmps4
  go_wp2_with (first
    | (go_at_call 10; refine (awake_any _ L).mono ?_; rintro e' w1 ⟨rfl, hb1⟩; have hB := hb1; clear hb1))
  go_ret
  exact ⟨rfl, hB⟩

theorem walk (o : Int) (wo : (Lit.int .i64 o).wf = true) (s : ByteArray) (ws : s.size ≤ maxLen) (W : World) (L : Laid W) : Calls Tryd.prog 4 #[.int .i64 o, .string s] W fun e w' => e = .returned (.bool true) ∧ Below W.heap.size W w' := by
  unfold maxLen at ws
  by_cases hl : 20 < s.size
  · exact core_long o s hl (by omega) W (Lib.hid L)
  · have c1 : QS o _ := fun w hw => sign_any o w hw.tab
    have c2 : RS o _ := rsign_any o
    have c3 : QO s _ := fun w hw => op_any s w hw.tab
    have c4 : RO s _ := rop_any s
    have c5 : QR o _ := fun w hw => rank_any o w hw.tab
    have c6 : RR o _ := rrank_any o
    by_cases h0 : 10 ≤ o
    · by_cases h1 : o ≤ 18
      · exact core_yes o _ _ s _ (by omega) (decide_eq_true h0) (decide_eq_true h1) c1 c2 c3 c4 c5 c6 (fun w => truth_yes o w h0 h1) W (Lib.hid L)
      · exact core_high o _ _ s _ (by omega) (decide_eq_true h0) (decide_eq_false h1) c1 c2 c3 c4 c5 c6 (fun w => truth_no o w (by omega)) W (Lib.hid L)
    · exact core_low o _ _ s _ (by omega) (decide_eq_false h0) c1 c2 c3 c4 c5 c6 (fun w => truth_no o w (by omega)) W (Lib.hid L)

set_option maxRecDepth 100000 in
theorem lifted (os : Os) (started : os.Started) (H : Type) (enc : TypeId × Value → H) :
    ReturnsInHanded {} Tryd.checked os 4 .any (fun w args => (Rows.calcSignsSpec.pre enc Tryd.prog Tryd.f4 [] false w args ∧ laidMetH Tryd.prog laidL w) ∧ sizedMet enc Tryd.prog Tryd.f4 (OpenSpec.ofChange Rows.calcSignsSpec) false w args)
      (Rows.calcSignsSpec.post enc Tryd.prog Tryd.f4 false true false false) := by
  refine returnsInHanded_of_change_and (C := Tryd.checked) (X := fun w _ => laidMetH Tryd.prog laidL w) (fun _ _ _ hh h => h.of_heap hh) own started (by kernel_rfl) Tryd.func4
    (ChangeSpec.witness_shaped (enc := enc) (C := Tryd.checked) (os := os) (X := fun w _ => laidMetH Tryd.prog laidL w) false (World.doorLaid Tryd.prog 400 os) #[.int .i64 0, .string ByteArray.empty] 8 rfl (World.shaped_of_RefB (by kernel_rfl) (by kernel_rfl)) (by kernel_rfl) (by kernel_rfl) (by kernel_rfl) (door_met os _)) ?_
  intro W base args ds gs before hval0 hW _ _ hL _
  have hval : ∀ (j : Nat) t v, Tryd.f4.params[j]? = some t → args[j]? = some v → Value.okWide Tryd.prog W .any base t v := hval0
  have hW' := hW
  obtain ⟨p, q, hA0, hV, rfl, hfz, hnd⟩ := hW
  have hA : DataW.TrodAll enc Tryd.prog W 0 (fun _ => true) true Tryd.f4.params.toList args.toList ds p := hA0
  rw [Tryd.params4] at hA hval
  obtain ⟨v0, v1, d0, d1, p0, p1, rfl, rfl, rfl, h0, h1⟩ := trodAll_two hA
  obtain ⟨rfl, rfl⟩ := trodVars_none hV
  obtain ⟨o, rfl, rfl, rfl, wx0⟩ := open_int Tryd.underlying3 (hval 0 3 _ rfl rfl) h0
  obtain ⟨s, rfl, rfl, rfl, wx1⟩ := open_string Tryd.underlying9 (hval 1 9 _ rfl rfl) h1
  have hLaid := of_laid hL
  clear hA0 hval0
  simp only [List.append_nil] at hW'
  refine (walk o wx0 s wx1 W hLaid).mono fun e W' ⟨he, hb⟩ => ?_
  subst he
  exact ⟨_, rfl, _, _, _, [], [], [], hW', trodAll_mk1 (shut_bool Tryd.underlying4 _), trodAll_mk2 (shut_int Tryd.underlying3 wx0) (shut_string Tryd.underlying9 wx1), rfl, hb.frame _, fun h => by cases h⟩

theorem said : Rows.CalcSignsSaid :=
  OpenClaim.holds_of_wide 4 Tryd.f4 rfl rfl rfl rfl rfl rfl rfl ⟨rfl, rfl, rfl, rfl, rfl⟩ rfl rfl rfl rfl rfl (by kernel_rfl) Tryd.func4 (by kernel_rfl)
    (of_decide_eq_true (by kernel_rfl)) (by unfold Func.isWrapper; first | (rw [if_pos (by decide +kernel)]; kernel_rfl) | (rw [if_neg (by decide +kernel)]; exact ⟨rfl, rfl⟩))
    (fun os started H enc _ => lifted os started H enc)
end CalcSigns

theorem calcSigns_card_holds : Rows.CalcSignsCardSaid :=
  Claim7.holds_tied_plain_at .later [] _ true _ true
    CalcSigns.said (fun _ h => by cases h) (by kernel_rfl) (fun _ h => by cases h) calcSigns_row_tie rfl ⟨rfl, rfl⟩ (by kernel_rfl) rfl
    (fun f fn hf hfn => by
      obtain rfl : f = 4 := Option.some.inj ((show Tryd.prog.funcNamed "paling/palinglaw01.CalcSigns" = some 4 by kernel_rfl).symm.trans hf) |>.symm
      obtain rfl : fn = Tryd.f4 := (Option.some.inj (Tryd.func4.symm.trans hfn)).symm
      exact ⟨by kernel_rfl, fun j t ht => by
        rw [Tryd.params4] at ht
        have hm : t ∈ [3, 9] := by simpa using Array.mem_of_getElem? ht
        have hall : ([3, 9].all fun u => !Tryd.prog.wantsStandIn u) = true := by kernel_rfl
        exact (show Tryd.prog.wantsStandIn t = false by simpa using List.all_eq_true.1 hall t hm)⟩)
    (by kernel_rfl)
#print axioms calcSigns_card_holds
end Go.Proofs.YtibbmacoofgmoaaDoor
