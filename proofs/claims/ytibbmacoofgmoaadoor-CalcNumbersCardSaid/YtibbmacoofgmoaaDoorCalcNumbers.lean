/- CalcNumbers comes out true for every number and text: no condition but what the card itself says of the listed variables. -/
import Derived.Test.YtibbmacoofgmoaaDoorCall
import Derived.Test.YtibbmacoofgmoaaDoorRnum
import Derived.Test.YtibbmacoofgmoaaDoorLaid
import Derived.Test.YtibbmacoofgmoaaDoorTie
import Derived.Test.YtibbmacoofgmoaaDoorCards
import Derived.SevenTiedAt
import Derived.Carry
namespace Go.Proofs.YtibbmacoofgmoaaDoor
namespace CalcNumbers
open Go Go.ChangeShapes Go.WideShapes Go.ChangeAt Go.WideMaps Go.WideElems Go.RowKit Go.Sort
open Go.ChangeMaps (open_string shut_string)


def QD (n : Int) (d : ByteArray) : Prop := ∀ w : World, Laid w → Calls Tryd.prog 22 #[.int .i64 n] w fun e w' => e = .returned (.string d) ∧ Below w.heap.size w w'
def QN (d : ByteArray) (n : Int) (t : Bool) : Prop := ∀ w : World, Laid w → Calls Tryd.prog 20 #[.string d] w fun e w' => e = .returned (.tuple #[.int .i64 n, .bool t]) ∧ Below w.heap.size w w'
def RD (n : Int) (d : ByteArray) : Prop := ∀ w : World, Calls Tryd.prog 23 #[.int .i64 n] w fun e w' => e = .returned (.string d) ∧ w = w'
def RN (d : ByteArray) (n : Int) (t : Bool) : Prop := ∀ w : World, Calls Tryd.prog 21 #[.string d] w fun e w' => e = .returned (.tuple #[.int .i64 n, .bool t]) ∧ w = w'

set_option maxHeartbeats 1000000 in
theorem core_yes (n a : Int) (s d : ByteArray) (hl : s.size ≤ 60) (c1 : QN s a true) (c2 : RN s a true) (c3 : QD n d) (c4 : RD n d) (W : World) (L : Hid (Laid W)) : Calls Tryd.prog 5 #[.int .i64 n, .string s] W fun e w' => e = .returned (.bool true) ∧ Below W.heap.size W w' := by
  go_enter Tryd.func5, Tryd.ntmps5
  go_wp2_with (first
    | (go_at_call 10; refine (awake_any _ L).mono ?_; rintro e' w1 ⟨rfl, hb1⟩; have hB := hb1; clear hb1)
    | (go_at_call 20; refine (c1 _ (L.out.below hB)).mono ?_; rintro e' w1 ⟨rfl, hb1⟩; replace hB := hB.trans (hb1.mono hB.size); clear hb1)
    | (go_at_call 21; refine (c2 _).mono ?_; rintro e' w1 ⟨rfl, rfl⟩)
    | (go_at_call 22; refine (c3 _ (L.out.below hB)).mono ?_; rintro e' w1 ⟨rfl, hb1⟩; replace hB := hB.trans (hb1.mono hB.size); clear hb1)
    | (go_at_call 23; refine (c4 _).mono ?_; rintro e' w1 ⟨rfl, rfl⟩))
  go_ret
  exact ⟨rfl, hB⟩

set_option maxHeartbeats 1000000 in
theorem core_no (n a : Int) (s d : ByteArray) (hl : s.size ≤ 60) (c1 : QN s 0 false) (c2 : RN s a false) (c3 : QD n d) (c4 : RD n d) (W : World) (L : Hid (Laid W)) : Calls Tryd.prog 5 #[.int .i64 n, .string s] W fun e w' => e = .returned (.bool true) ∧ Below W.heap.size W w' := by
  go_enter Tryd.func5, Tryd.ntmps5
  go_wp2_with (first
    | (go_at_call 10; refine (awake_any _ L).mono ?_; rintro e' w1 ⟨rfl, hb1⟩; have hB := hb1; clear hb1)
    | (go_at_call 20; refine (c1 _ (L.out.below hB)).mono ?_; rintro e' w1 ⟨rfl, hb1⟩; replace hB := hB.trans (hb1.mono hB.size); clear hb1)
    | (go_at_call 21; refine (c2 _).mono ?_; rintro e' w1 ⟨rfl, rfl⟩)
    | (go_at_call 22; refine (c3 _ (L.out.below hB)).mono ?_; rintro e' w1 ⟨rfl, hb1⟩; replace hB := hB.trans (hb1.mono hB.size); clear hb1)
    | (go_at_call 23; refine (c4 _).mono ?_; rintro e' w1 ⟨rfl, rfl⟩))
  go_ret
  exact ⟨rfl, hB⟩

theorem core_long (n : Int) (s : ByteArray) (hl : 60 < s.size) (hm : s.size ≤ 9223372036854775807) (W : World) (L : Hid (Laid W)) : Calls Tryd.prog 5 #[.int .i64 n, .string s] W fun e w' => e = .returned (.bool true) ∧ Below W.heap.size W w' := by
  go_enter Tryd.func5, Tryd.ntmps5
  go_wp2_with (first
    | (go_at_call 10; refine (awake_any _ L).mono ?_; rintro e' w1 ⟨rfl, hb1⟩; have hB := hb1; clear hb1))
  go_ret
  exact ⟨rfl, hB⟩

theorem walk (n : Int) (wn : (Lit.int .i64 n).wf = true) (s : ByteArray) (ws : s.size ≤ maxLen) (W : World) (L : Laid W) : Calls Tryd.prog 5 #[.int .i64 n, .string s] W fun e w' => e = .returned (.bool true) ∧ Below W.heap.size W w' := by
  obtain ⟨n0, n1⟩ := bd_of wn
  unfold maxLen at ws
  by_cases hl : 60 < s.size
  · exact core_long n s hl (by omega) W (Lib.hid L)
  · have c3 : QD n (dig n) := fun w hw => digits_any n w (Lib.hid hw) n0 n1
    have c4 : RD n (dig n) := fun w => rdigits_any n w n0 n1
    have c1 := fun (w : World) (hw : Laid w) => number_any s w hw
    have c2 := fun (w : World) => rnumber_any s w (by omega)
    rcases same_num s with ⟨v, e1, e2⟩ | ⟨v, e1, e2⟩
    · rw [e1] at c1
      rw [e2] at c2
      exact core_yes n v s _ (by omega) c1 c2 c3 c4 W (Lib.hid L)
    · rw [e1] at c1
      rw [e2] at c2
      exact core_no n v s _ (by omega) c1 c2 c3 c4 W (Lib.hid L)

set_option maxRecDepth 100000 in
theorem lifted (os : Os) (started : os.Started) (H : Type) (enc : TypeId × Value → H) :
    ReturnsInHanded {} Tryd.checked os 5 .any (fun w args => (Rows.calcNumbersSpec.pre enc Tryd.prog Tryd.f5 [] false w args ∧ laidMetH Tryd.prog laidL w) ∧ sizedMet enc Tryd.prog Tryd.f5 (OpenSpec.ofChange Rows.calcNumbersSpec) false w args)
      (Rows.calcNumbersSpec.post enc Tryd.prog Tryd.f5 false true false false) := by
  refine returnsInHanded_of_change_and (C := Tryd.checked) (X := fun w _ => laidMetH Tryd.prog laidL w) (fun _ _ _ hh h => h.of_heap hh) own started (by kernel_rfl) Tryd.func5
    (ChangeSpec.witness_shaped (enc := enc) (C := Tryd.checked) (os := os) (X := fun w _ => laidMetH Tryd.prog laidL w) false (World.doorLaid Tryd.prog 400 os) #[.int .i64 0, .string ByteArray.empty] 8 rfl (World.shaped_of_RefB (by kernel_rfl) (by kernel_rfl)) (by kernel_rfl) (by kernel_rfl) (by kernel_rfl) (door_met os _)) ?_
  intro W base args ds gs before hval0 hW _ _ hL _
  have hval : ∀ (j : Nat) t v, Tryd.f5.params[j]? = some t → args[j]? = some v → Value.okWide Tryd.prog W .any base t v := hval0
  have hW' := hW
  obtain ⟨p, q, hA0, hV, rfl, hfz, hnd⟩ := hW
  have hA : DataW.TrodAll enc Tryd.prog W 0 (fun _ => true) true Tryd.f5.params.toList args.toList ds p := hA0
  rw [Tryd.params5] at hA hval
  obtain ⟨v0, v1, d0, d1, p0, p1, rfl, rfl, rfl, h0, h1⟩ := trodAll_two hA
  obtain ⟨rfl, rfl⟩ := trodVars_none hV
  obtain ⟨n, rfl, rfl, rfl, wx0⟩ := open_int Tryd.underlying2 (hval 0 2 _ rfl rfl) h0
  obtain ⟨s, rfl, rfl, rfl, wx1⟩ := open_string Tryd.underlying9 (hval 1 9 _ rfl rfl) h1
  have hLaid := of_laid hL
  clear hA0 hval0
  simp only [List.append_nil] at hW'
  refine (walk n wx0 s wx1 W hLaid).mono fun e W' ⟨he, hb⟩ => ?_
  subst he
  exact ⟨_, rfl, _, _, _, [], [], [], hW', trodAll_mk1 (shut_bool Tryd.underlying4 _), trodAll_mk2 (shut_int Tryd.underlying2 wx0) (shut_string Tryd.underlying9 wx1), rfl, hb.frame _, fun h => by cases h⟩

theorem said : Rows.CalcNumbersSaid :=
  OpenClaim.holds_of_wide 5 Tryd.f5 rfl rfl rfl rfl rfl rfl rfl ⟨rfl, rfl, rfl, rfl, rfl⟩ rfl rfl rfl rfl rfl (by kernel_rfl) Tryd.func5 (by kernel_rfl)
    (of_decide_eq_true (by kernel_rfl)) (by unfold Func.isWrapper; first | (rw [if_pos (by decide +kernel)]; kernel_rfl) | (rw [if_neg (by decide +kernel)]; exact ⟨rfl, rfl⟩))
    (fun os started H enc _ => lifted os started H enc)
end CalcNumbers

theorem calcNumbers_card_holds : Rows.CalcNumbersCardSaid :=
  Claim7.holds_tied_plain_at .later [] _ true _ true
    CalcNumbers.said (fun _ h => by cases h) (by kernel_rfl) (fun _ h => by cases h) calcNumbers_row_tie rfl ⟨rfl, rfl⟩ (by kernel_rfl) rfl
    (fun f fn hf hfn => by
      obtain rfl : f = 5 := Option.some.inj ((show Tryd.prog.funcNamed "paling/palinglaw01.CalcNumbers" = some 5 by kernel_rfl).symm.trans hf) |>.symm
      obtain rfl : fn = Tryd.f5 := (Option.some.inj (Tryd.func5.symm.trans hfn)).symm
      exact ⟨by kernel_rfl, fun j t ht => by
        rw [Tryd.params5] at ht
        have hm : t ∈ [2, 9] := by simpa using Array.mem_of_getElem? ht
        have hall : ([2, 9].all fun u => !Tryd.prog.wantsStandIn u) = true := by kernel_rfl
        exact (show Tryd.prog.wantsStandIn t = false by simpa using List.all_eq_true.1 hall t hm)⟩)
    (by kernel_rfl)
#print axioms calcNumbers_card_holds
end Go.Proofs.YtibbmacoofgmoaaDoor
