/- CalcShifts comes out true for every two numbers: no condition but what the card itself says of the listed variables. -/
import Derived.Test.YtibbmacoofgmoaaDoorMath
import Derived.Test.YtibbmacoofgmoaaDoorLaid
import Derived.Test.YtibbmacoofgmoaaDoorTie
import Derived.Test.YtibbmacoofgmoaaDoorCards
import Derived.SevenTiedAt
import Derived.Carry
namespace Go.Proofs.YtibbmacoofgmoaaDoor
namespace CalcShifts
open Go Go.ChangeShapes Go.WideShapes Go.ChangeAt Go.WideMaps Go.WideElems Go.RowKit Go.Sort
open Go.ChangeMaps (open_string shut_string)


set_option maxHeartbeats 1000000 in
theorem core_63 (a b l r : Int) (hn : bits BinOp.and IntKind.i64 b 63 = 63) (c1 : EvC 8 a 63 l) (c2 : EvC 9 a 63 r) (c3 : EvC 8 a b l) (c4 : EvC 9 a b r) (W : World) (L : Hid (Laid W)) : Calls Tryd.prog 8 #[.int .i64 a, .int .i64 b] W fun e w' => e = .returned (.bool true) ∧ Below W.heap.size W w' := by
  go_enter Tryd.func8, Tryd.ntmps8
  go_wp2_with (first
    | (go_at_call 10; refine (awake_any _ L).mono ?_; rintro e' w1 ⟨rfl, hb1⟩; have hB := hb1; clear hb1)
    | (go_at_call 11; with_reducible refine (c1.out _).mono ?_; rintro e' w1 ⟨rfl, hb1⟩; replace hB := hB.trans (hb1.mono hB.size); clear hb1)
    | (go_at_call 11; with_reducible refine (c2.out _).mono ?_; rintro e' w1 ⟨rfl, hb1⟩; replace hB := hB.trans (hb1.mono hB.size); clear hb1)
    | (go_at_call 11; with_reducible refine (c3.out _).mono ?_; rintro e' w1 ⟨rfl, hb1⟩; replace hB := hB.trans (hb1.mono hB.size); clear hb1)
    | (go_at_call 11; with_reducible refine (c4.out _).mono ?_; rintro e' w1 ⟨rfl, hb1⟩; replace hB := hB.trans (hb1.mono hB.size); clear hb1))
  go_ret
  exact ⟨rfl, hB⟩

set_option maxHeartbeats 1000000 in
theorem core_up (a b n l r d half : Int) (hn : bits BinOp.and IntKind.i64 b 63 = n) (c1 : EvC 8 a n l) (c2 : EvC 9 a n r) (c3 : EvC 8 a b l) (c4 : EvC 9 a b r) (c5 : EvC 9 a (n + 1) half) (c6 : EvC 8 a (n + 1) d) (c7 : EvC 0 l l d) (n0 : 0 ≤ n) (n1 : n < 63) (r0 : -9223372036854775808 ≤ r) (r1 : r ≤ 9223372036854775807) (k0 : 2 * half ≤ r) (k1 : r - 2 * half < 2) (ha : 0 ≤ a) (hr : 0 ≤ r) (W : World) (L : Hid (Laid W)) : Calls Tryd.prog 8 #[.int .i64 a, .int .i64 b] W fun e w' => e = .returned (.bool true) ∧ Below W.heap.size W w' := by
  go_enter Tryd.func8, Tryd.ntmps8
  go_wp2_with (first
    | (go_at_call 10; refine (awake_any _ L).mono ?_; rintro e' w1 ⟨rfl, hb1⟩; have hB := hb1; clear hb1)
    | (go_at_call 11; with_reducible refine (c1.out _).mono ?_; rintro e' w1 ⟨rfl, hb1⟩; replace hB := hB.trans (hb1.mono hB.size); clear hb1)
    | (go_at_call 11; with_reducible refine (c2.out _).mono ?_; rintro e' w1 ⟨rfl, hb1⟩; replace hB := hB.trans (hb1.mono hB.size); clear hb1)
    | (go_at_call 11; with_reducible refine (c3.out _).mono ?_; rintro e' w1 ⟨rfl, hb1⟩; replace hB := hB.trans (hb1.mono hB.size); clear hb1)
    | (go_at_call 11; with_reducible refine (c4.out _).mono ?_; rintro e' w1 ⟨rfl, hb1⟩; replace hB := hB.trans (hb1.mono hB.size); clear hb1)
    | (go_at_call 11; with_reducible refine (c5.out _).mono ?_; rintro e' w1 ⟨rfl, hb1⟩; replace hB := hB.trans (hb1.mono hB.size); clear hb1)
    | (go_at_call 11; with_reducible refine (c6.out _).mono ?_; rintro e' w1 ⟨rfl, hb1⟩; replace hB := hB.trans (hb1.mono hB.size); clear hb1)
    | (go_at_call 11; with_reducible refine (c7.out _).mono ?_; rintro e' w1 ⟨rfl, hb1⟩; replace hB := hB.trans (hb1.mono hB.size); clear hb1))
  go_ret
  exact ⟨rfl, hB⟩

set_option maxHeartbeats 1000000 in
theorem core_down (a b n l r d half : Int) (hn : bits BinOp.and IntKind.i64 b 63 = n) (c1 : EvC 8 a n l) (c2 : EvC 9 a n r) (c3 : EvC 8 a b l) (c4 : EvC 9 a b r) (c5 : EvC 9 a (n + 1) half) (c6 : EvC 8 a (n + 1) d) (c7 : EvC 0 l l d) (n0 : 0 ≤ n) (n1 : n < 63) (r0 : -9223372036854775808 ≤ r) (r1 : r ≤ 9223372036854775807) (k0 : 2 * half ≤ r) (k1 : r - 2 * half < 2) (ha : a < 0) (hr : r < 0) (W : World) (L : Hid (Laid W)) : Calls Tryd.prog 8 #[.int .i64 a, .int .i64 b] W fun e w' => e = .returned (.bool true) ∧ Below W.heap.size W w' := by
  go_enter Tryd.func8, Tryd.ntmps8
  go_wp2_with (first
    | (go_at_call 10; refine (awake_any _ L).mono ?_; rintro e' w1 ⟨rfl, hb1⟩; have hB := hb1; clear hb1)
    | (go_at_call 11; with_reducible refine (c1.out _).mono ?_; rintro e' w1 ⟨rfl, hb1⟩; replace hB := hB.trans (hb1.mono hB.size); clear hb1)
    | (go_at_call 11; with_reducible refine (c2.out _).mono ?_; rintro e' w1 ⟨rfl, hb1⟩; replace hB := hB.trans (hb1.mono hB.size); clear hb1)
    | (go_at_call 11; with_reducible refine (c3.out _).mono ?_; rintro e' w1 ⟨rfl, hb1⟩; replace hB := hB.trans (hb1.mono hB.size); clear hb1)
    | (go_at_call 11; with_reducible refine (c4.out _).mono ?_; rintro e' w1 ⟨rfl, hb1⟩; replace hB := hB.trans (hb1.mono hB.size); clear hb1)
    | (go_at_call 11; with_reducible refine (c5.out _).mono ?_; rintro e' w1 ⟨rfl, hb1⟩; replace hB := hB.trans (hb1.mono hB.size); clear hb1)
    | (go_at_call 11; with_reducible refine (c6.out _).mono ?_; rintro e' w1 ⟨rfl, hb1⟩; replace hB := hB.trans (hb1.mono hB.size); clear hb1)
    | (go_at_call 11; with_reducible refine (c7.out _).mono ?_; rintro e' w1 ⟨rfl, hb1⟩; replace hB := hB.trans (hb1.mono hB.size); clear hb1))
  go_ret
  exact ⟨congrArg (fun t => Ending.returned (Value.bool t)) (show (decide (0 ≤ a) == decide (0 ≤ r)) = true by rw [decide_eq_false (by omega), decide_eq_false (by omega)]; rfl), hB⟩

theorem ev8 (a b : Int) : ev 8 a b = wrap64 (a * 2 ^ (b % 64).toNat) := rfl
theorem ev9 (a b : Int) : ev 9 a b = a / 2 ^ (b % 64).toNat := rfl
theorem pow_pos (k : Nat) : (0 : Int) < 2 ^ k := Int.pow_pos (by decide)

theorem walk (a : Int) (wa : (Lit.int .i64 a).wf = true) (b : Int) (wb : (Lit.int .i64 b).wf = true) (W : World) (L : Laid W) : Calls Tryd.prog 8 #[.int .i64 a, .int .i64 b] W fun e w' => e = .returned (.bool true) ∧ Below W.heap.size W w' := by
  obtain ⟨a0, a1⟩ := bd_of wa
  have hn : bits BinOp.and IntKind.i64 b 63 = b % 64 := i64_and63 b
  have e1 : b % 64 % 64 = b % 64 := by omega
  have c1 : EvC 8 a (b % 64) (ev 8 a b) := EvC.mk (by rw [ev8, ev8, e1]) (by decide)
  have c2 : EvC 9 a (b % 64) (ev 9 a b) := EvC.mk (by rw [ev9, ev9, e1]) (by decide)
  have c3 : EvC 8 a b _ := EvC.mk rfl (by decide)
  have c4 : EvC 9 a b _ := EvC.mk rfl (by decide)
  by_cases h63 : b % 64 = 63
  · rw [h63] at hn c1 c2
    exact core_63 a b _ _ hn c1 c2 c3 c4 W (Lib.hid L)
  · have n0 : 0 ≤ b % 64 := by omega
    have n1 : b % 64 < 63 := by omega
    have e2 : (b % 64 + 1) % 64 = b % 64 + 1 := by omega
    have e3 : (b % 64 + 1).toNat = (b % 64).toNat + 1 := by omega
    have c5 : EvC 9 a (b % 64 + 1) _ := EvC.mk rfl (by decide)
    have c6 : EvC 8 a (b % 64 + 1) _ := EvC.mk rfl (by decide)
    have c7 : EvC 0 (ev 8 a b) (ev 8 a b) (ev 8 a (b % 64 + 1)) := EvC.mk (by
      show wrap64 (ev 8 a b + ev 8 a b) = _
      rw [ev8, ev8, e2, e3, Int.pow_succ, ← Int.mul_assoc]
      generalize a * 2 ^ (b % 64).toNat = t
      unfold wrap64
      omega) (by decide)
    have hhalf : ev 9 a (b % 64 + 1) = ev 9 a b / 2 := by
      rw [ev9, ev9, e2, e3, Int.pow_succ]
      exact (Int.ediv_ediv_of_nonneg (Int.le_of_lt (pow_pos _))).symm
    have hp := pow_pos (b % 64).toNat
    have hr : ev 9 a b = a / 2 ^ (b % 64).toNat := ev9 a b
    by_cases ha : 0 ≤ a
    · have r0 : 0 ≤ ev 9 a b := by rw [hr]; exact Int.ediv_nonneg ha (Int.le_of_lt hp)
      have r1 : ev 9 a b ≤ a := by rw [hr]; exact Int.ediv_le_self _ ha
      exact core_up a b _ _ _ _ _ hn c1 c2 c3 c4 c5 c6 c7 n0 n1 (by omega) (by omega) (by rw [hhalf]; omega) (by rw [hhalf]; omega) ha r0 W (Lib.hid L)
    · have r1 : ev 9 a b < 0 := by rw [hr]; exact Int.ediv_neg_of_neg_of_pos (by omega) hp
      have r0 : a ≤ ev 9 a b := by
        rw [hr]
        apply Int.le_ediv_of_mul_le hp
        have := Int.mul_le_mul_of_nonpos_left (show a ≤ 0 by omega) (show (1 : Int) ≤ 2 ^ (b % 64).toNat by omega)
        omega
      exact core_down a b _ _ _ _ _ hn c1 c2 c3 c4 c5 c6 c7 n0 n1 (by omega) (by omega) (by rw [hhalf]; omega) (by rw [hhalf]; omega) (by omega) r1 W (Lib.hid L)

set_option maxRecDepth 100000 in
theorem lifted (os : Os) (started : os.Started) (H : Type) (enc : TypeId × Value → H) :
    ReturnsInHanded {} Tryd.checked os 8 .any (fun w args => (Rows.calcShiftsSpec.pre enc Tryd.prog Tryd.f8 [] false w args ∧ laidMetH Tryd.prog laidL w) ∧ sizedMet enc Tryd.prog Tryd.f8 (OpenSpec.ofChange Rows.calcShiftsSpec) false w args)
      (Rows.calcShiftsSpec.post enc Tryd.prog Tryd.f8 false true false false) := by
  refine returnsInHanded_of_change_and (C := Tryd.checked) (X := fun w _ => laidMetH Tryd.prog laidL w) (fun _ _ _ hh h => h.of_heap hh) own started (by kernel_rfl) Tryd.func8
    (ChangeSpec.witness_shaped (enc := enc) (C := Tryd.checked) (os := os) (X := fun w _ => laidMetH Tryd.prog laidL w) false (World.doorLaid Tryd.prog 400 os) #[.int .i64 0, .int .i64 0] 8 rfl (World.shaped_of_RefB (by kernel_rfl) (by kernel_rfl)) (by kernel_rfl) (by kernel_rfl) (by kernel_rfl) (door_met os _)) ?_
  intro W base args ds gs before hval0 hW _ _ hL _
  have hval : ∀ (j : Nat) t v, Tryd.f8.params[j]? = some t → args[j]? = some v → Value.okWide Tryd.prog W .any base t v := hval0
  have hW' := hW
  obtain ⟨p, q, hA0, hV, rfl, hfz, hnd⟩ := hW
  have hA : DataW.TrodAll enc Tryd.prog W 0 (fun _ => true) true Tryd.f8.params.toList args.toList ds p := hA0
  rw [Tryd.params8] at hA hval
  obtain ⟨v0, v1, d0, d1, p0, p1, rfl, rfl, rfl, h0, h1⟩ := trodAll_two hA
  obtain ⟨rfl, rfl⟩ := trodVars_none hV
  obtain ⟨a, rfl, rfl, rfl, wx0⟩ := open_int Tryd.underlying2 (hval 0 2 _ rfl rfl) h0
  obtain ⟨b, rfl, rfl, rfl, wx1⟩ := open_int Tryd.underlying2 (hval 1 2 _ rfl rfl) h1
  have hLaid := of_laid hL
  clear hA0 hval0
  simp only [List.append_nil] at hW'
  refine (walk a wx0 b wx1 W hLaid).mono fun e W' ⟨he, hb⟩ => ?_
  subst he
  exact ⟨_, rfl, _, _, _, [], [], [], hW', trodAll_mk1 (shut_bool Tryd.underlying4 _), trodAll_mk2 (shut_int Tryd.underlying2 wx0) (shut_int Tryd.underlying2 wx1), rfl, hb.frame _, fun h => by cases h⟩

theorem said : Rows.CalcShiftsSaid :=
  OpenClaim.holds_of_wide 8 Tryd.f8 rfl rfl rfl rfl rfl rfl rfl ⟨rfl, rfl, rfl, rfl, rfl⟩ rfl rfl rfl rfl rfl (by kernel_rfl) Tryd.func8 (by kernel_rfl)
    (of_decide_eq_true (by kernel_rfl)) (by unfold Func.isWrapper; first | (rw [if_pos (by decide +kernel)]; kernel_rfl) | (rw [if_neg (by decide +kernel)]; exact ⟨rfl, rfl⟩))
    (fun os started H enc _ => lifted os started H enc)
end CalcShifts

theorem calcShifts_card_holds : Rows.CalcShiftsCardSaid :=
  Claim7.holds_tied_plain_at .later [] _ true _ true
    CalcShifts.said (fun _ h => by cases h) (by kernel_rfl) (fun _ h => by cases h) calcShifts_row_tie rfl ⟨rfl, rfl⟩ (by kernel_rfl) rfl
    (fun f fn hf hfn => by
      obtain rfl : f = 8 := Option.some.inj ((show Tryd.prog.funcNamed "paling/palinglaw01.CalcShifts" = some 8 by kernel_rfl).symm.trans hf) |>.symm
      obtain rfl : fn = Tryd.f8 := (Option.some.inj (Tryd.func8.symm.trans hfn)).symm
      exact ⟨by kernel_rfl, fun j t ht => by
        rw [Tryd.params8] at ht
        have hm : t ∈ [2, 2] := by simpa using Array.mem_of_getElem? ht
        have hall : ([2, 2].all fun u => !Tryd.prog.wantsStandIn u) = true := by kernel_rfl
        exact (show Tryd.prog.wantsStandIn t = false by simpa using List.all_eq_true.1 hall t hm)⟩)
    (by kernel_rfl)
#print axioms calcShifts_card_holds
end Go.Proofs.YtibbmacoofgmoaaDoor
