/- CalcOrder comes out true for every two numbers: no condition but what the card itself says of the listed variables. -/
import Derived.Test.YtibbmacoofgmoaaDoorMath
import Derived.Test.YtibbmacoofgmoaaDoorLaid
import Derived.Test.YtibbmacoofgmoaaDoorTie
import Derived.Test.YtibbmacoofgmoaaDoorCards
import Derived.SevenTiedAt
import Derived.Carry
namespace Go.Proofs.YtibbmacoofgmoaaDoor
namespace CalcOrder
open Go Go.ChangeShapes Go.WideShapes Go.ChangeAt Go.WideMaps Go.WideElems Go.RowKit Go.Sort
open Go.ChangeMaps (open_string shut_string)


set_option maxHeartbeats 1000000 in
theorem core_same (a b l e : Int) (c1 : EvC 12 a b l) (c2 : EvC 16 a b l) (c3 : EvC 14 b a l) (c4 : EvC 15 a b (1 - l)) (c5 : EvC 13 b a (1 - l)) (c6 : EvC 11 a b (1 - e)) (c7 : EvC 10 a b e) (l0 : 0 ≤ l) (l1 : l ≤ 1) (e0 : 0 ≤ e) (e1 : e ≤ 1) (hs : (decide (a < 0) == decide (b < 0)) = true) (W : World) (L : Hid (Laid W)) : Calls Tryd.prog 9 #[.int .i64 a, .int .i64 b] W fun e w' => e = .returned (.bool true) ∧ Below W.heap.size W w' := by
  go_enter Tryd.func9, Tryd.ntmps9
  go_wp2_with (first
    | (go_at_call 10; refine (awake_any _ L).mono ?_; rintro e' w1 ⟨rfl, hb1⟩; have hB := hb1; clear hb1)
    | (go_at_call 11; with_reducible refine (c1.out _).mono ?_; rintro e' w1 ⟨rfl, hb1⟩; replace hB := hB.trans (hb1.mono hB.size); clear hb1)
    | (go_at_call 11; with_reducible refine (c2.out _).mono ?_; rintro e' w1 ⟨rfl, hb1⟩; replace hB := hB.trans (hb1.mono hB.size); clear hb1)
    | (go_at_call 11; with_reducible refine (c3.out _).mono ?_; rintro e' w1 ⟨rfl, hb1⟩; replace hB := hB.trans (hb1.mono hB.size); clear hb1)
    | (go_at_call 11; with_reducible refine (c4.out _).mono ?_; rintro e' w1 ⟨rfl, hb1⟩; replace hB := hB.trans (hb1.mono hB.size); clear hb1)
    | (go_at_call 11; with_reducible refine (c5.out _).mono ?_; rintro e' w1 ⟨rfl, hb1⟩; replace hB := hB.trans (hb1.mono hB.size); clear hb1)
    | (go_at_call 11; with_reducible refine (c6.out _).mono ?_; rintro e' w1 ⟨rfl, hb1⟩; replace hB := hB.trans (hb1.mono hB.size); clear hb1)
    | (go_at_call 11; with_reducible refine (c7.out _).mono ?_; rintro e' w1 ⟨rfl, hb1⟩; replace hB := hB.trans (hb1.mono hB.size); clear hb1))
  go_ret
  exact ⟨rfl, hB⟩

set_option maxHeartbeats 1000000 in
theorem core_diff (a b l e x y : Int) (c1 : EvC 12 a b l) (c2 : EvC 16 a b (1 - l)) (c3 : EvC 14 b a l) (c4 : EvC 15 a b (1 - l)) (c5 : EvC 13 b a (1 - l)) (c6 : EvC 11 a b (1 - e)) (c7 : EvC 10 a b e) (l0 : 0 ≤ l) (l1 : l ≤ 1) (e0 : 0 ≤ e) (e1 : e ≤ 1) (c8 : EvC 17 a b x) (c9 : EvC 17 b a x) (c10 : EvC 18 a 0 y) (c11 : EvC 11 a 0 y) (hs : (decide (a < 0) == decide (b < 0)) = false) (W : World) (L : Hid (Laid W)) : Calls Tryd.prog 9 #[.int .i64 a, .int .i64 b] W fun e w' => e = .returned (.bool true) ∧ Below W.heap.size W w' := by
  go_enter Tryd.func9, Tryd.ntmps9
  go_wp2_with (first
    | (go_at_call 10; refine (awake_any _ L).mono ?_; rintro e' w1 ⟨rfl, hb1⟩; have hB := hb1; clear hb1)
    | (go_at_call 11; with_reducible refine (c1.out _).mono ?_; rintro e' w1 ⟨rfl, hb1⟩; replace hB := hB.trans (hb1.mono hB.size); clear hb1)
    | (go_at_call 11; with_reducible refine (c2.out _).mono ?_; rintro e' w1 ⟨rfl, hb1⟩; replace hB := hB.trans (hb1.mono hB.size); clear hb1)
    | (go_at_call 11; with_reducible refine (c3.out _).mono ?_; rintro e' w1 ⟨rfl, hb1⟩; replace hB := hB.trans (hb1.mono hB.size); clear hb1)
    | (go_at_call 11; with_reducible refine (c4.out _).mono ?_; rintro e' w1 ⟨rfl, hb1⟩; replace hB := hB.trans (hb1.mono hB.size); clear hb1)
    | (go_at_call 11; with_reducible refine (c5.out _).mono ?_; rintro e' w1 ⟨rfl, hb1⟩; replace hB := hB.trans (hb1.mono hB.size); clear hb1)
    | (go_at_call 11; with_reducible refine (c6.out _).mono ?_; rintro e' w1 ⟨rfl, hb1⟩; replace hB := hB.trans (hb1.mono hB.size); clear hb1)
    | (go_at_call 11; with_reducible refine (c7.out _).mono ?_; rintro e' w1 ⟨rfl, hb1⟩; replace hB := hB.trans (hb1.mono hB.size); clear hb1)
    | (go_at_call 11; with_reducible refine (c8.out _).mono ?_; rintro e' w1 ⟨rfl, hb1⟩; replace hB := hB.trans (hb1.mono hB.size); clear hb1)
    | (go_at_call 11; with_reducible refine (c9.out _).mono ?_; rintro e' w1 ⟨rfl, hb1⟩; replace hB := hB.trans (hb1.mono hB.size); clear hb1)
    | (go_at_call 11; with_reducible refine (c10.out _).mono ?_; rintro e' w1 ⟨rfl, hb1⟩; replace hB := hB.trans (hb1.mono hB.size); clear hb1)
    | (go_at_call 11; with_reducible refine (c11.out _).mono ?_; rintro e' w1 ⟨rfl, hb1⟩; replace hB := hB.trans (hb1.mono hB.size); clear hb1))
  go_ret
  exact ⟨rfl, hB⟩

theorem ev10 (a b : Int) : ev 10 a b = tr (a == b) := rfl
theorem ev11 (a b : Int) : ev 11 a b = tr (a != b) := rfl
theorem ev12 (a b : Int) : ev 12 a b = tr (decide (a < b)) := rfl
theorem ev13 (a b : Int) : ev 13 a b = tr (decide (a ≤ b)) := rfl
theorem ev14 (a b : Int) : ev 14 a b = tr (decide (b < a)) := rfl
theorem ev15 (a b : Int) : ev 15 a b = tr (decide (b ≤ a)) := rfl
theorem ev17 (a b : Int) : ev 17 a b = tr (a != 0 && b != 0) := rfl
theorem ev18 (a b : Int) : ev 18 a b = tr (a != 0 || b != 0) := rfl
theorem ev16 (a b : Int) : ev 16 a b = tr (decide (IntKind.u64.wrap a < IntKind.u64.wrap b)) := rfl
theorem same {a b : Int} (a0 : -9223372036854775808 ≤ a) (a1 : a ≤ 9223372036854775807) (b0 : -9223372036854775808 ≤ b) (b1 : b ≤ 9223372036854775807) (h : a < 0 ↔ b < 0) : ev 16 a b = ev 12 a b := by
  have e1 : (a % 18446744073709551616 < b % 18446744073709551616) ↔ a < b := by omega
  rw [ev16, ev12, IntKind.wrap_u64, IntKind.wrap_u64, decide_eq_decide.2 e1]
theorem diff {a b : Int} (a0 : -9223372036854775808 ≤ a) (a1 : a ≤ 9223372036854775807) (b0 : -9223372036854775808 ≤ b) (b1 : b ≤ 9223372036854775807) (h : ¬ (a < 0 ↔ b < 0)) : ev 16 a b = 1 - ev 12 a b := by
  have e1 : (a % 18446744073709551616 < b % 18446744073709551616) ↔ ¬ a < b := by omega
  rw [ev16, ev12, IntKind.wrap_u64, IntKind.wrap_u64]
  by_cases h2 : a < b
  · have h3 : ¬ a % 18446744073709551616 < b % 18446744073709551616 := fun h => e1.1 h h2
    rw [decide_eq_false h3, decide_eq_true h2]
    rfl
  · rw [decide_eq_true (e1.2 h2), decide_eq_false h2]
    rfl
theorem not_lt {a b : Int} : tr (decide (b ≤ a)) = 1 - tr (decide (a < b)) := by
  by_cases h : a < b
  · have h2 : ¬ b ≤ a := by omega
    simp [h, h2, tr]
  · have h2 : b ≤ a := by omega
    simp [h, h2, tr]
theorem not_eq {a b : Int} : tr (a != b) = 1 - tr (a == b) := by
  show tr (!(a == b)) = _
  cases (a == b) <;> simp [tr]
theorem both_comm (a b : Int) : tr (b != 0 && a != 0) = tr (a != 0 && b != 0) := by rw [Bool.and_comm]
theorem any_zero (a : Int) : tr (a != 0 || (0 : Int) != 0) = tr (a != 0) := by simp

theorem walk (a : Int) (wa : (Lit.int .i64 a).wf = true) (b : Int) (wb : (Lit.int .i64 b).wf = true) (W : World) (L : Laid W) : Calls Tryd.prog 9 #[.int .i64 a, .int .i64 b] W fun e w' => e = .returned (.bool true) ∧ Below W.heap.size W w' := by
  obtain ⟨a0, a1⟩ := bd_of wa
  obtain ⟨b0, b1⟩ := bd_of wb
  have c1 : EvC 12 a b _ := EvC.mk rfl (by decide)
  have c3 : EvC 14 b a (ev 12 a b) := EvC.mk (by rw [ev14, ev12]) (by decide)
  have c4 : EvC 15 a b (1 - ev 12 a b) := EvC.mk (by rw [ev15, ev12]; exact not_lt) (by decide)
  have c5 : EvC 13 b a (1 - ev 12 a b) := EvC.mk (by rw [ev13, ev12]; exact not_lt) (by decide)
  have c6 : EvC 11 a b (1 - ev 10 a b) := EvC.mk (by rw [ev11, ev10]; exact not_eq) (by decide)
  have c7 : EvC 10 a b _ := EvC.mk rfl (by decide)
  have lb : 0 ≤ ev 12 a b ∧ ev 12 a b ≤ 1 := by rw [ev12]; exact tr_bd _
  have eb : 0 ≤ ev 10 a b ∧ ev 10 a b ≤ 1 := by rw [ev10]; exact tr_bd _
  by_cases h : a < 0 ↔ b < 0
  · have hs : (decide (a < 0) == decide (b < 0)) = true := by rw [decide_eq_decide.2 h]; exact beq_self_eq_true _
    exact core_same a b _ _ c1 (EvC.mk (same a0 a1 b0 b1 h) (by decide)) c3 c4 c5 c6 c7 lb.1 lb.2 eb.1 eb.2 hs W (Lib.hid L)
  · have hs : (decide (a < 0) == decide (b < 0)) = false := by
      by_cases h1 : a < 0 <;> by_cases h2 : b < 0 <;> simp [h1, h2] at h ⊢
    have c8 : EvC 17 a b _ := EvC.mk rfl (by decide)
    have c9 : EvC 17 b a (ev 17 a b) := EvC.mk (by rw [ev17, ev17]; exact both_comm a b) (by decide)
    have c11 : EvC 11 a 0 _ := EvC.mk rfl (by decide)
    have c10 : EvC 18 a 0 (ev 11 a 0) := EvC.mk (by rw [ev18, ev11]; exact any_zero a) (by decide)
    exact core_diff a b _ _ _ _ c1 (EvC.mk (diff a0 a1 b0 b1 h) (by decide)) c3 c4 c5 c6 c7 lb.1 lb.2 eb.1 eb.2 c8 c9 c10 c11 hs W (Lib.hid L)

set_option maxRecDepth 100000 in
theorem lifted (os : Os) (started : os.Started) (H : Type) (enc : TypeId × Value → H) :
    ReturnsInHanded {} Tryd.checked os 9 .any (fun w args => (Rows.calcOrderSpec.pre enc Tryd.prog Tryd.f9 [] false w args ∧ laidMetH Tryd.prog laidL w) ∧ sizedMet enc Tryd.prog Tryd.f9 (OpenSpec.ofChange Rows.calcOrderSpec) false w args)
      (Rows.calcOrderSpec.post enc Tryd.prog Tryd.f9 false true false false) := by
  refine returnsInHanded_of_change_and (C := Tryd.checked) (X := fun w _ => laidMetH Tryd.prog laidL w) (fun _ _ _ hh h => h.of_heap hh) own started (by kernel_rfl) Tryd.func9
    (ChangeSpec.witness_shaped (enc := enc) (C := Tryd.checked) (os := os) (X := fun w _ => laidMetH Tryd.prog laidL w) false (World.doorLaid Tryd.prog 400 os) #[.int .i64 0, .int .i64 0] 8 rfl (World.shaped_of_RefB (by kernel_rfl) (by kernel_rfl)) (by kernel_rfl) (by kernel_rfl) (by kernel_rfl) (door_met os _)) ?_
  intro W base args ds gs before hval0 hW _ _ hL _
  have hval : ∀ (j : Nat) t v, Tryd.f9.params[j]? = some t → args[j]? = some v → Value.okWide Tryd.prog W .any base t v := hval0
  have hW' := hW
  obtain ⟨p, q, hA0, hV, rfl, hfz, hnd⟩ := hW
  have hA : DataW.TrodAll enc Tryd.prog W 0 (fun _ => true) true Tryd.f9.params.toList args.toList ds p := hA0
  rw [Tryd.params9] at hA hval
  obtain ⟨v0, v1, d0, d1, p0, p1, rfl, rfl, rfl, h0, h1⟩ := trodAll_two hA
  obtain ⟨rfl, rfl⟩ := trodVars_none hV
  obtain ⟨a, rfl, rfl, rfl, wx0⟩ := open_int Tryd.underlying2 (hval 0 2 _ rfl rfl) h0
  obtain ⟨b, rfl, rfl, rfl, wx1⟩ := open_int Tryd.underlying2 (hval 1 2 _ rfl rfl) h1
  have hLaid := of_laid hL
  clear hA0 hval0
  simp only [List.append_nil] at hW'
  refine (walk a wx0 b wx1 W hLaid).mono fun e W' ⟨he, hb⟩ => ?_
  subst he
  exact ⟨_, rfl, _, _, _, [], [], [], hW', trodAll_mk1 (shut_bool Tryd.underlying4 _), trodAll_mk2 (shut_int Tryd.underlying2 wx0) (shut_int Tryd.underlying2 wx1), rfl, hb.frame _, fun h => by cases h⟩

theorem said : Rows.CalcOrderSaid :=
  OpenClaim.holds_of_wide 9 Tryd.f9 rfl rfl rfl rfl rfl rfl rfl ⟨rfl, rfl, rfl, rfl, rfl⟩ rfl rfl rfl rfl rfl (by kernel_rfl) Tryd.func9 (by kernel_rfl)
    (of_decide_eq_true (by kernel_rfl)) (by unfold Func.isWrapper; first | (rw [if_pos (by decide +kernel)]; kernel_rfl) | (rw [if_neg (by decide +kernel)]; exact ⟨rfl, rfl⟩))
    (fun os started H enc _ => lifted os started H enc)
end CalcOrder

theorem calcOrder_card_holds : Rows.CalcOrderCardSaid :=
  Claim7.holds_tied_plain_at .later [] _ true _ true
    CalcOrder.said (fun _ h => by cases h) (by kernel_rfl) (fun _ h => by cases h) calcOrder_row_tie rfl ⟨rfl, rfl⟩ (by kernel_rfl) rfl
    (fun f fn hf hfn => by
      obtain rfl : f = 9 := Option.some.inj ((show Tryd.prog.funcNamed "paling/palinglaw01.CalcOrder" = some 9 by kernel_rfl).symm.trans hf) |>.symm
      obtain rfl : fn = Tryd.f9 := (Option.some.inj (Tryd.func9.symm.trans hfn)).symm
      exact ⟨by kernel_rfl, fun j t ht => by
        rw [Tryd.params9] at ht
        have hm : t ∈ [2, 2] := by simpa using Array.mem_of_getElem? ht
        have hall : ([2, 2].all fun u => !Tryd.prog.wantsStandIn u) = true := by kernel_rfl
        exact (show Tryd.prog.wantsStandIn t = false by simpa using List.all_eq_true.1 hall t hm)⟩)
    (by kernel_rfl)
#print axioms calcOrder_card_holds
end Go.Proofs.YtibbmacoofgmoaaDoor
