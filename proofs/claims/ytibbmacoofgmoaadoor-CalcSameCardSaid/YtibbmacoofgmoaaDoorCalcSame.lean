/- CalcSame comes out true for every operator and number: no condition but what the card itself says of the listed variables. -/
import Derived.Test.YtibbmacoofgmoaaDoorMath
import Derived.Test.YtibbmacoofgmoaaDoorBack
import Derived.Test.YtibbmacoofgmoaaDoorLaid
import Derived.Test.YtibbmacoofgmoaaDoorTie
import Derived.Test.YtibbmacoofgmoaaDoorCards
import Derived.SevenTiedAt
import Derived.Carry
namespace Go.Proofs.YtibbmacoofgmoaaDoor
namespace CalcSame
open Go Go.ChangeShapes Go.WideShapes Go.ChangeAt Go.WideMaps Go.WideElems Go.RowKit Go.Sort
open Go.ChangeMaps (open_string shut_string)


def QS (o : Int) (s : ByteArray) : Prop := ∀ w : World, Laid w → Calls Tryd.prog 13 #[.int .i64 o] w fun e w' => e = .returned (.string s) ∧ w = w'
def QR (o r : Int) : Prop := ∀ w : World, Laid w → Calls Tryd.prog 17 #[.int .i64 o] w fun e w' => e = .returned (.int .i64 r) ∧ w = w'
def QO (s : ByteArray) (o : Int) : Prop := ∀ w : World, Laid w → Calls Tryd.prog 15 #[.string s] w fun e w' => e = .returned (.int .i64 o) ∧ w = w'
def QD (n : Int) (d : ByteArray) : Prop := ∀ w : World, Laid w → Calls Tryd.prog 22 #[.int .i64 n] w fun e w' => e = .returned (.string d) ∧ Below w.heap.size w w'
def QN (d : ByteArray) (n : Int) (t : Bool) : Prop := ∀ w : World, Laid w → Calls Tryd.prog 20 #[.string d] w fun e w' => e = .returned (.tuple #[.int .i64 n, .bool t]) ∧ Below w.heap.size w w'

set_option maxHeartbeats 1000000 in
theorem core_named_pos (o n : Int) (d s : ByteArray) (r : Int) (hs : s.toList.isEmpty = false) (hr : (r == 0) = false) (hn : 0 ≤ n) (cs : QS o s) (cr : QR o r) (co : QO s o) (cd : QD n d) (cn : QN d n true) (W : World) (L : Hid (Laid W)) : Calls Tryd.prog 7 #[.int .i64 o, .int .i64 n] W fun e w' => e = .returned (.bool true) ∧ Below W.heap.size W w' := by
  go_enter Tryd.func7, Tryd.ntmps7
  go_wp2_with (first
    | (go_at_call 10; refine (awake_any _ L).mono ?_; rintro e' w1 ⟨rfl, hb1⟩; have hB := hb1; clear hb1)
    | (go_at_call 13; refine (cs _ (L.out.below hB)).mono ?_; rintro e' w1 ⟨rfl, rfl⟩)
    | (go_at_call 17; refine (cr _ (L.out.below hB)).mono ?_; rintro e' w1 ⟨rfl, rfl⟩)
    | (go_at_call 15; refine (co _ (L.out.below hB)).mono ?_; rintro e' w1 ⟨rfl, rfl⟩)
    | (go_at_call 22; refine (cd _ (L.out.below hB)).mono ?_; rintro e' w1 ⟨rfl, hb1⟩; replace hB := hB.trans (hb1.mono hB.size); clear hb1)
    | (go_at_call 20; refine (cn _ (L.out.below hB)).mono ?_; rintro e' w1 ⟨rfl, hb1⟩; replace hB := hB.trans (hb1.mono hB.size); clear hb1))
  go_ret
  exact ⟨rfl, hB⟩

set_option maxHeartbeats 1000000 in
theorem core_unnamed_pos (o n : Int) (d : ByteArray) (hn : 0 ≤ n) (cs : QS o ⟨#[]⟩) (cr : QR o 0) (cd : QD n d) (cn : QN d n true) (W : World) (L : Hid (Laid W)) : Calls Tryd.prog 7 #[.int .i64 o, .int .i64 n] W fun e w' => e = .returned (.bool true) ∧ Below W.heap.size W w' := by
  go_enter Tryd.func7, Tryd.ntmps7
  go_wp2_with (first
    | (go_at_call 10; refine (awake_any _ L).mono ?_; rintro e' w1 ⟨rfl, hb1⟩; have hB := hb1; clear hb1)
    | (go_at_call 13; refine (cs _ (L.out.below hB)).mono ?_; rintro e' w1 ⟨rfl, rfl⟩)
    | (go_at_call 17; refine (cr _ (L.out.below hB)).mono ?_; rintro e' w1 ⟨rfl, rfl⟩)
    | (go_at_call 22; refine (cd _ (L.out.below hB)).mono ?_; rintro e' w1 ⟨rfl, hb1⟩; replace hB := hB.trans (hb1.mono hB.size); clear hb1)
    | (go_at_call 20; refine (cn _ (L.out.below hB)).mono ?_; rintro e' w1 ⟨rfl, hb1⟩; replace hB := hB.trans (hb1.mono hB.size); clear hb1))
  go_ret
  exact ⟨rfl, hB⟩

set_option maxHeartbeats 1000000 in
theorem core_named_neg (o n : Int) (d s : ByteArray) (r : Int) (hs : s.toList.isEmpty = false) (hr : (r == 0) = false) (hn : decide (0 ≤ n) = false) (cs : QS o s) (cr : QR o r) (co : QO s o) (cd : QD n d) (cn : QN d 0 false) (W : World) (L : Hid (Laid W)) : Calls Tryd.prog 7 #[.int .i64 o, .int .i64 n] W fun e w' => e = .returned (.bool true) ∧ Below W.heap.size W w' := by
  go_enter Tryd.func7, Tryd.ntmps7
  go_wp2_with (first
    | (go_at_call 10; refine (awake_any _ L).mono ?_; rintro e' w1 ⟨rfl, hb1⟩; have hB := hb1; clear hb1)
    | (go_at_call 13; refine (cs _ (L.out.below hB)).mono ?_; rintro e' w1 ⟨rfl, rfl⟩)
    | (go_at_call 17; refine (cr _ (L.out.below hB)).mono ?_; rintro e' w1 ⟨rfl, rfl⟩)
    | (go_at_call 15; refine (co _ (L.out.below hB)).mono ?_; rintro e' w1 ⟨rfl, rfl⟩)
    | (go_at_call 22; refine (cd _ (L.out.below hB)).mono ?_; rintro e' w1 ⟨rfl, hb1⟩; replace hB := hB.trans (hb1.mono hB.size); clear hb1)
    | (go_at_call 20; refine (cn _ (L.out.below hB)).mono ?_; rintro e' w1 ⟨rfl, hb1⟩; replace hB := hB.trans (hb1.mono hB.size); clear hb1))
  go_ret
  exact ⟨rfl, hB⟩

set_option maxHeartbeats 1000000 in
theorem core_unnamed_neg (o n : Int) (d : ByteArray) (hn : decide (0 ≤ n) = false) (cs : QS o ⟨#[]⟩) (cr : QR o 0) (cd : QD n d) (cn : QN d 0 false) (W : World) (L : Hid (Laid W)) : Calls Tryd.prog 7 #[.int .i64 o, .int .i64 n] W fun e w' => e = .returned (.bool true) ∧ Below W.heap.size W w' := by
  go_enter Tryd.func7, Tryd.ntmps7
  go_wp2_with (first
    | (go_at_call 10; refine (awake_any _ L).mono ?_; rintro e' w1 ⟨rfl, hb1⟩; have hB := hb1; clear hb1)
    | (go_at_call 13; refine (cs _ (L.out.below hB)).mono ?_; rintro e' w1 ⟨rfl, rfl⟩)
    | (go_at_call 17; refine (cr _ (L.out.below hB)).mono ?_; rintro e' w1 ⟨rfl, rfl⟩)
    | (go_at_call 22; refine (cd _ (L.out.below hB)).mono ?_; rintro e' w1 ⟨rfl, hb1⟩; replace hB := hB.trans (hb1.mono hB.size); clear hb1)
    | (go_at_call 20; refine (cn _ (L.out.below hB)).mono ?_; rintro e' w1 ⟨rfl, hb1⟩; replace hB := hB.trans (hb1.mono hB.size); clear hb1))
  go_ret
  exact ⟨rfl, hB⟩

theorem sgn_op : ∀ k, k < 19 → k ≠ 16 → (sgn k).toList.isEmpty = false ∧ (rnk k == 0) = false ∧ opM (sgn k) = (k : Int) := by
  intro k hk h16
  have h : k = 0 ∨ k = 1 ∨ k = 2 ∨ k = 3 ∨ k = 4 ∨ k = 5 ∨ k = 6 ∨ k = 7 ∨ k = 8 ∨ k = 9 ∨ k = 10 ∨ k = 11 ∨ k = 12 ∨ k = 13 ∨ k = 14 ∨ k = 15 ∨ k = 16 ∨ k = 17 ∨ k = 18 := by omega
  rcases h with rfl | rfl | rfl | rfl | rfl | rfl | rfl | rfl | rfl | rfl | rfl | rfl | rfl | rfl | rfl | rfl | rfl | rfl | rfl
  all_goals first
    | exact absurd rfl h16
    | (simp only [sgn, sgnL, rnk, rnkL, opM, opGo, ByteArray.toList_eq]; decide)

theorem walk (o : Int) (wo : (Lit.int .i64 o).wf = true) (n : Int) (wn : (Lit.int .i64 n).wf = true) (W : World) (L : Laid W) : Calls Tryd.prog 7 #[.int .i64 o, .int .i64 n] W fun e w' => e = .returned (.bool true) ∧ Below W.heap.size W w' := by
  obtain ⟨n0, n1⟩ := bd_of wn
  have cd : QD n (dig n) := fun (w : World) (hw : Laid w) => digits_any n w (Lib.hid hw) n0 n1
  have cs := fun (w : World) (hw : Laid w) => sign_any o w hw.tab
  have cr := fun (w : World) (hw : Laid w) => rank_any o w hw.tab
  have cn := fun (w : World) (hw : Laid w) => number_any (dig n) w hw
  by_cases h : (0 ≤ o ∧ o ≤ 18) ∧ o ≠ 16
  · obtain ⟨⟨h0, h1⟩, h16⟩ := h
    obtain ⟨k, rfl⟩ := Int.eq_ofNat_of_zero_le h0
    obtain ⟨k1, k2, k3⟩ := sgn_op k (by omega) (by omega)
    have e1 : sgnZ (k : Int) = sgn k := by unfold sgnZ; rw [if_pos ⟨h0, h1⟩]; rfl
    have e2 : rnkZ (k : Int) = rnk k := by unfold rnkZ; rw [if_pos ⟨h0, h1⟩]; rfl
    rw [e1] at cs
    rw [e2] at cr
    have co := fun (w : World) (hw : Laid w) => op_any (sgn k) w hw.tab
    rw [k3] at co
    by_cases hn : 0 ≤ n
    · rw [num_dig hn n1] at cn
      exact core_named_pos _ n _ _ _ k1 k2 hn cs cr co cd cn W (Lib.hid L)
    · rw [num_neg (by omega)] at cn
      exact core_named_neg _ n _ _ _ k1 k2 (decide_eq_false hn) cs cr co cd cn W (Lib.hid L)
  · have e12 : sgnZ o = ⟨#[]⟩ ∧ rnkZ o = 0 := by
      by_cases h16 : o = 16
      · subst h16
        exact ⟨rfl, rfl⟩
      · have hno : ¬ (0 ≤ o ∧ o ≤ 18) := fun hh => h ⟨hh, h16⟩
        exact ⟨if_neg hno, if_neg hno⟩
    rw [e12.1] at cs
    rw [e12.2] at cr
    by_cases hn : 0 ≤ n
    · rw [num_dig hn n1] at cn
      exact core_unnamed_pos o n _ hn cs cr cd cn W (Lib.hid L)
    · rw [num_neg (by omega)] at cn
      exact core_unnamed_neg o n _ (decide_eq_false hn) cs cr cd cn W (Lib.hid L)

set_option maxRecDepth 100000 in
theorem lifted (os : Os) (started : os.Started) (H : Type) (enc : TypeId × Value → H) :
    ReturnsInHanded {} Tryd.checked os 7 .any (fun w args => (Rows.calcSameSpec.pre enc Tryd.prog Tryd.f7 [] false w args ∧ laidMetH Tryd.prog laidL w) ∧ sizedMet enc Tryd.prog Tryd.f7 (OpenSpec.ofChange Rows.calcSameSpec) false w args)
      (Rows.calcSameSpec.post enc Tryd.prog Tryd.f7 false true false false) := by
  refine returnsInHanded_of_change_and (C := Tryd.checked) (X := fun w _ => laidMetH Tryd.prog laidL w) (fun _ _ _ hh h => h.of_heap hh) own started (by kernel_rfl) Tryd.func7
    (ChangeSpec.witness_shaped (enc := enc) (C := Tryd.checked) (os := os) (X := fun w _ => laidMetH Tryd.prog laidL w) false (World.doorLaid Tryd.prog 400 os) #[.int .i64 0, .int .i64 0] 8 rfl (World.shaped_of_RefB (by kernel_rfl) (by kernel_rfl)) (by kernel_rfl) (by kernel_rfl) (by kernel_rfl) (door_met os _)) ?_
  intro W base args ds gs before hval0 hW _ _ hL _
  have hval : ∀ (j : Nat) t v, Tryd.f7.params[j]? = some t → args[j]? = some v → Value.okWide Tryd.prog W .any base t v := hval0
  have hW' := hW
  obtain ⟨p, q, hA0, hV, rfl, hfz, hnd⟩ := hW
  have hA : DataW.TrodAll enc Tryd.prog W 0 (fun _ => true) true Tryd.f7.params.toList args.toList ds p := hA0
  rw [Tryd.params7] at hA hval
  obtain ⟨v0, v1, d0, d1, p0, p1, rfl, rfl, rfl, h0, h1⟩ := trodAll_two hA
  obtain ⟨rfl, rfl⟩ := trodVars_none hV
  obtain ⟨o, rfl, rfl, rfl, wx0⟩ := open_int Tryd.underlying3 (hval 0 3 _ rfl rfl) h0
  obtain ⟨n, rfl, rfl, rfl, wx1⟩ := open_int Tryd.underlying2 (hval 1 2 _ rfl rfl) h1
  have hLaid := of_laid hL
  clear hA0 hval0
  simp only [List.append_nil] at hW'
  refine (walk o wx0 n wx1 W hLaid).mono fun e W' ⟨he, hb⟩ => ?_
  subst he
  exact ⟨_, rfl, _, _, _, [], [], [], hW', trodAll_mk1 (shut_bool Tryd.underlying4 _), trodAll_mk2 (shut_int Tryd.underlying3 wx0) (shut_int Tryd.underlying2 wx1), rfl, hb.frame _, fun h => by cases h⟩

theorem said : Rows.CalcSameSaid :=
  OpenClaim.holds_of_wide 7 Tryd.f7 rfl rfl rfl rfl rfl rfl rfl ⟨rfl, rfl, rfl, rfl, rfl⟩ rfl rfl rfl rfl rfl (by kernel_rfl) Tryd.func7 (by kernel_rfl)
    (of_decide_eq_true (by kernel_rfl)) (by unfold Func.isWrapper; first | (rw [if_pos (by decide +kernel)]; kernel_rfl) | (rw [if_neg (by decide +kernel)]; exact ⟨rfl, rfl⟩))
    (fun os started H enc _ => lifted os started H enc)
end CalcSame

theorem calcSame_card_holds : Rows.CalcSameCardSaid :=
  Claim7.holds_tied_plain_at .later [] _ true _ true
    CalcSame.said (fun _ h => by cases h) (by kernel_rfl) (fun _ h => by cases h) calcSame_row_tie rfl ⟨rfl, rfl⟩ (by kernel_rfl) rfl
    (fun f fn hf hfn => by
      obtain rfl : f = 7 := Option.some.inj ((show Tryd.prog.funcNamed "paling/palinglaw01.CalcSame" = some 7 by kernel_rfl).symm.trans hf) |>.symm
      obtain rfl : fn = Tryd.f7 := (Option.some.inj (Tryd.func7.symm.trans hfn)).symm
      exact ⟨by kernel_rfl, fun j t ht => by
        rw [Tryd.params7] at ht
        have hm : t ∈ [3, 2] := by simpa using Array.mem_of_getElem? ht
        have hall : ([3, 2].all fun u => !Tryd.prog.wantsStandIn u) = true := by kernel_rfl
        exact (show Tryd.prog.wantsStandIn t = false by simpa using List.all_eq_true.1 hall t hm)⟩)
    (by kernel_rfl)
#print axioms calcSame_card_holds
end Go.Proofs.YtibbmacoofgmoaaDoor
