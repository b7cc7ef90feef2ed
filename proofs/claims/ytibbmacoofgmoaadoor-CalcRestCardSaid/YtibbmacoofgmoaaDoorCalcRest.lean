/- CalcRest comes out true for every two numbers: no condition but what the card itself says of the listed variables. -/
import Derived.Test.YtibbmacoofgmoaaDoorMath
import Derived.Test.YtibbmacoofgmoaaDoorLaid
import Derived.Test.YtibbmacoofgmoaaDoorTie
import Derived.Test.YtibbmacoofgmoaaDoorCards
import Derived.SevenTiedAt
import Derived.Carry
namespace Go.Proofs.YtibbmacoofgmoaaDoor
namespace CalcRest
open Go Go.ChangeShapes Go.WideShapes Go.ChangeAt Go.WideMaps Go.WideElems Go.RowKit Go.Sort
open Go.ChangeMaps (open_string shut_string)


set_option maxHeartbeats 1000000 in
theorem core_pos (a b q r m s x n o l e g : Int) (W : World) (L : Hid (Laid W)) (hb0 : 0 < b) (hb2 : b ≤ 9223372036854775807) (hr1 : -b < r) (hr2 : r < b)
    (c1 : EvC 3 a b q) (c2 : EvC 4 a b r) (c3 : EvC 2 q b m) (c4 : EvC 0 m r a) (c5 : EvC 12 a b l) (c6 : EvC 10 a b e) (c7 : EvC 14 a b g)
    (c8 : EvC 0 a b s) (c9 : EvC 1 s b a) (c10 : EvC 7 a b x) (c11 : EvC 7 x b a) (c12 : EvC 5 a b n) (c13 : EvC 6 a b o) (c14 : EvC 0 n o s)
    (ct : Hid (∀ i : Int, 10 ≤ i → i < 19 → ∃ v : Int, (v = 0 ∨ v = 1) ∧ EvC i a b v))
    (l0 : 0 ≤ l) (l1 : l ≤ 1) (e0 : 0 ≤ e) (e1 : e ≤ 1) (g0 : 0 ≤ g) (g1 : g ≤ 1) (hone : Hid (l + e + g = 1)) :
    Calls Tryd.prog 6 #[.int .i64 a, .int .i64 b] W fun e w' => e = .returned (.bool true) ∧ Below W.heap.size W w' := by
  go_enter Tryd.func6, Tryd.ntmps6
  go_wp2_with (first
    | (go_at_call 10; refine (awake_any _ L).mono ?_; rintro e' w1 ⟨rfl, hb1⟩; have hB := hb1; clear hb1)
    | (go_at_call 11; with_reducible refine (c1.out _).mono ?_; rintro e' w1 ⟨rfl, hb1⟩; replace hB := hB.trans (hb1.mono hB.size); clear hb1)
    | (go_at_call 11; with_reducible refine (c2.out _).mono ?_; rintro e' w1 ⟨rfl, hb1⟩; replace hB := hB.trans (hb1.mono hB.size); clear hb1)
    | (go_at_call 11; with_reducible refine (c3.out _).mono ?_; rintro e' w1 ⟨rfl, hb1⟩; replace hB := hB.trans (hb1.mono hB.size); clear hb1)
    | (go_at_call 11; with_reducible refine (c4.out _).mono ?_; rintro e' w1 ⟨rfl, hb1⟩; replace hB := hB.trans (hb1.mono hB.size); clear hb1))
  go_loopw [8] (fun i wr => ∃ k : Nat, 10 ≤ k ∧ k ≤ 19 ∧ i = .int .i64 k ∧ Below W.heap.size W wr) (fun i _ => 19 - (intOf i).toNat)
  case atStart => exact ⟨10, by omega, by omega, rfl, hB⟩
  case round =>
    obtain ⟨k, hk0, hk, rfl, hBk⟩ := hrel
    clear hB
    by_cases hlt : k < 19
    · obtain ⟨v, hv, cv⟩ := ct.out k (by omega) (by omega)
      have hB := hBk
      clear hBk
      rcases hv with rfl | rfl
      all_goals
        go_wp2_with (go_at_call 11; with_reducible refine (cv.out _).mono ?_; rintro e' w1 ⟨rfl, hb1⟩; replace hB := hB.trans (hb1.mono hB.size); clear hb1)
        go_roundw
        case rel => exact ⟨k + 1, by omega, by omega, by go_num, hB⟩
        case measure => simp [intOf]; omega
    · have hB := hBk
      clear hBk
      have hone2 : (l + e + g == 1) = true := by rw [hone.out]; rfl
      go_wp2_with (first
    | (go_at_call 11; with_reducible refine (c5.out _).mono ?_; rintro e' w1 ⟨rfl, hb1⟩; replace hB := hB.trans (hb1.mono hB.size); clear hb1)
    | (go_at_call 11; with_reducible refine (c6.out _).mono ?_; rintro e' w1 ⟨rfl, hb1⟩; replace hB := hB.trans (hb1.mono hB.size); clear hb1)
    | (go_at_call 11; with_reducible refine (c7.out _).mono ?_; rintro e' w1 ⟨rfl, hb1⟩; replace hB := hB.trans (hb1.mono hB.size); clear hb1)
    | (go_at_call 11; with_reducible refine (c8.out _).mono ?_; rintro e' w1 ⟨rfl, hb1⟩; replace hB := hB.trans (hb1.mono hB.size); clear hb1)
    | (go_at_call 11; with_reducible refine (c9.out _).mono ?_; rintro e' w1 ⟨rfl, hb1⟩; replace hB := hB.trans (hb1.mono hB.size); clear hb1)
    | (go_at_call 11; with_reducible refine (c10.out _).mono ?_; rintro e' w1 ⟨rfl, hb1⟩; replace hB := hB.trans (hb1.mono hB.size); clear hb1)
    | (go_at_call 11; with_reducible refine (c11.out _).mono ?_; rintro e' w1 ⟨rfl, hb1⟩; replace hB := hB.trans (hb1.mono hB.size); clear hb1)
    | (go_at_call 11; with_reducible refine (c12.out _).mono ?_; rintro e' w1 ⟨rfl, hb1⟩; replace hB := hB.trans (hb1.mono hB.size); clear hb1)
    | (go_at_call 11; with_reducible refine (c13.out _).mono ?_; rintro e' w1 ⟨rfl, hb1⟩; replace hB := hB.trans (hb1.mono hB.size); clear hb1)
    | (go_at_call 11; with_reducible refine (c14.out _).mono ?_; rintro e' w1 ⟨rfl, hb1⟩; replace hB := hB.trans (hb1.mono hB.size); clear hb1))
      go_ret
      exact ⟨rfl, hB⟩

set_option maxHeartbeats 1000000 in
theorem core_neg (a b q r m s x n o l e g : Int) (W : World) (L : Hid (Laid W)) (hb0 : b ≤ 0)
    (c1 : EvC 3 a b q) (c2 : EvC 4 a b r) (c3 : EvC 2 q b m) (c4 : EvC 0 m r a) (c5 : EvC 12 a b l) (c6 : EvC 10 a b e) (c7 : EvC 14 a b g)
    (c8 : EvC 0 a b s) (c9 : EvC 1 s b a) (c10 : EvC 7 a b x) (c11 : EvC 7 x b a) (c12 : EvC 5 a b n) (c13 : EvC 6 a b o) (c14 : EvC 0 n o s)
    (ct : Hid (∀ i : Int, 10 ≤ i → i < 19 → ∃ v : Int, (v = 0 ∨ v = 1) ∧ EvC i a b v))
    (l0 : 0 ≤ l) (l1 : l ≤ 1) (e0 : 0 ≤ e) (e1 : e ≤ 1) (g0 : 0 ≤ g) (g1 : g ≤ 1) (hone : Hid (l + e + g = 1)) :
    Calls Tryd.prog 6 #[.int .i64 a, .int .i64 b] W fun e w' => e = .returned (.bool true) ∧ Below W.heap.size W w' := by
  go_enter Tryd.func6, Tryd.ntmps6
  go_wp2_with (first
    | (go_at_call 10; refine (awake_any _ L).mono ?_; rintro e' w1 ⟨rfl, hb1⟩; have hB := hb1; clear hb1)
    | (go_at_call 11; with_reducible refine (c1.out _).mono ?_; rintro e' w1 ⟨rfl, hb1⟩; replace hB := hB.trans (hb1.mono hB.size); clear hb1)
    | (go_at_call 11; with_reducible refine (c2.out _).mono ?_; rintro e' w1 ⟨rfl, hb1⟩; replace hB := hB.trans (hb1.mono hB.size); clear hb1)
    | (go_at_call 11; with_reducible refine (c3.out _).mono ?_; rintro e' w1 ⟨rfl, hb1⟩; replace hB := hB.trans (hb1.mono hB.size); clear hb1)
    | (go_at_call 11; with_reducible refine (c4.out _).mono ?_; rintro e' w1 ⟨rfl, hb1⟩; replace hB := hB.trans (hb1.mono hB.size); clear hb1))
  go_loopw [8] (fun i wr => ∃ k : Nat, 10 ≤ k ∧ k ≤ 19 ∧ i = .int .i64 k ∧ Below W.heap.size W wr) (fun i _ => 19 - (intOf i).toNat)
  case atStart => exact ⟨10, by omega, by omega, rfl, hB⟩
  case round =>
    obtain ⟨k, hk0, hk, rfl, hBk⟩ := hrel
    clear hB
    by_cases hlt : k < 19
    · obtain ⟨v, hv, cv⟩ := ct.out k (by omega) (by omega)
      have hB := hBk
      clear hBk
      rcases hv with rfl | rfl
      all_goals
        go_wp2_with (go_at_call 11; with_reducible refine (cv.out _).mono ?_; rintro e' w1 ⟨rfl, hb1⟩; replace hB := hB.trans (hb1.mono hB.size); clear hb1)
        go_roundw
        case rel => exact ⟨k + 1, by omega, by omega, by go_num, hB⟩
        case measure => simp [intOf]; omega
    · have hB := hBk
      clear hBk
      have hone2 : (l + e + g == 1) = true := by rw [hone.out]; rfl
      go_wp2_with (first
    | (go_at_call 11; with_reducible refine (c5.out _).mono ?_; rintro e' w1 ⟨rfl, hb1⟩; replace hB := hB.trans (hb1.mono hB.size); clear hb1)
    | (go_at_call 11; with_reducible refine (c6.out _).mono ?_; rintro e' w1 ⟨rfl, hb1⟩; replace hB := hB.trans (hb1.mono hB.size); clear hb1)
    | (go_at_call 11; with_reducible refine (c7.out _).mono ?_; rintro e' w1 ⟨rfl, hb1⟩; replace hB := hB.trans (hb1.mono hB.size); clear hb1)
    | (go_at_call 11; with_reducible refine (c8.out _).mono ?_; rintro e' w1 ⟨rfl, hb1⟩; replace hB := hB.trans (hb1.mono hB.size); clear hb1)
    | (go_at_call 11; with_reducible refine (c9.out _).mono ?_; rintro e' w1 ⟨rfl, hb1⟩; replace hB := hB.trans (hb1.mono hB.size); clear hb1)
    | (go_at_call 11; with_reducible refine (c10.out _).mono ?_; rintro e' w1 ⟨rfl, hb1⟩; replace hB := hB.trans (hb1.mono hB.size); clear hb1)
    | (go_at_call 11; with_reducible refine (c11.out _).mono ?_; rintro e' w1 ⟨rfl, hb1⟩; replace hB := hB.trans (hb1.mono hB.size); clear hb1)
    | (go_at_call 11; with_reducible refine (c12.out _).mono ?_; rintro e' w1 ⟨rfl, hb1⟩; replace hB := hB.trans (hb1.mono hB.size); clear hb1)
    | (go_at_call 11; with_reducible refine (c13.out _).mono ?_; rintro e' w1 ⟨rfl, hb1⟩; replace hB := hB.trans (hb1.mono hB.size); clear hb1)
    | (go_at_call 11; with_reducible refine (c14.out _).mono ?_; rintro e' w1 ⟨rfl, hb1⟩; replace hB := hB.trans (hb1.mono hB.size); clear hb1))
      go_ret
      exact ⟨rfl, hB⟩

theorem walk (a : Int) (wa : (Lit.int .i64 a).wf = true) (b : Int) (wb : (Lit.int .i64 b).wf = true) (W : World) (L : Laid W) : Calls Tryd.prog 6 #[.int .i64 a, .int .i64 b] W fun e w' => e = .returned (.bool true) ∧ Below W.heap.size W w' := by
  obtain ⟨a0, a1⟩ := bd_of wa
  obtain ⟨b0, b1⟩ := bd_of wb
  have c1 : EvC 3 a b _ := EvC.mk rfl (by decide)
  have c2 : EvC 4 a b _ := EvC.mk rfl (by decide)
  have c3 : EvC 2 (ev 3 a b) b _ := EvC.mk rfl (by decide)
  have c4 : EvC 0 (ev 2 (ev 3 a b) b) (ev 4 a b) a := EvC.mk (div_back a0 a1 b) (by decide)
  have c5 : EvC 12 a b _ := EvC.mk rfl (by decide)
  have c6 : EvC 10 a b _ := EvC.mk rfl (by decide)
  have c7 : EvC 14 a b _ := EvC.mk rfl (by decide)
  have c8 : EvC 0 a b _ := EvC.mk rfl (by decide)
  have c9 : EvC 1 (ev 0 a b) b a := EvC.mk (show wrap64 (wrap64 (a + b) - b) = a by unfold wrap64; omega) (by decide)
  have c10 : EvC 7 a b _ := EvC.mk rfl (by decide)
  have c11 : EvC 7 (ev 7 a b) b a := EvC.mk (xor_xor a0 a1 b) (by decide)
  have c12 : EvC 5 a b _ := EvC.mk rfl (by decide)
  have c13 : EvC 6 a b _ := EvC.mk rfl (by decide)
  have c14 : EvC 0 (ev 5 a b) (ev 6 a b) (ev 0 a b) := EvC.mk (and_or a b) (by decide)
  have ct := Lib.hid (ev_truth · a b)
  by_cases hb : 0 < b
  · have hr := rest_bd a0 a1 hb b1
    exact core_pos a b _ _ _ _ _ _ _ _ _ _ W (Lib.hid L) hb b1 hr.1 hr.2 c1 c2 c3 c4 c5 c6 c7 c8 c9 c10 c11 c12 c13 c14 ct (tr_bd _).1 (tr_bd _).2 (tr_bd _).1 (tr_bd _).2 (tr_bd _).1 (tr_bd _).2 (Lib.hid (one_order a b))
  · exact core_neg a b _ _ _ _ _ _ _ _ _ _ W (Lib.hid L) (by omega) c1 c2 c3 c4 c5 c6 c7 c8 c9 c10 c11 c12 c13 c14 ct (tr_bd _).1 (tr_bd _).2 (tr_bd _).1 (tr_bd _).2 (tr_bd _).1 (tr_bd _).2 (Lib.hid (one_order a b))

set_option maxRecDepth 100000 in
theorem lifted (os : Os) (started : os.Started) (H : Type) (enc : TypeId × Value → H) :
    ReturnsInHanded {} Tryd.checked os 6 .any (fun w args => (Rows.calcRestSpec.pre enc Tryd.prog Tryd.f6 [] false w args ∧ laidMetH Tryd.prog laidL w) ∧ sizedMet enc Tryd.prog Tryd.f6 (OpenSpec.ofChange Rows.calcRestSpec) false w args)
      (Rows.calcRestSpec.post enc Tryd.prog Tryd.f6 false true false false) := by
  refine returnsInHanded_of_change_and (C := Tryd.checked) (X := fun w _ => laidMetH Tryd.prog laidL w) (fun _ _ _ hh h => h.of_heap hh) own started (by kernel_rfl) Tryd.func6
    (ChangeSpec.witness_shaped (enc := enc) (C := Tryd.checked) (os := os) (X := fun w _ => laidMetH Tryd.prog laidL w) false (World.doorLaid Tryd.prog 400 os) #[.int .i64 0, .int .i64 0] 8 rfl (World.shaped_of_RefB (by kernel_rfl) (by kernel_rfl)) (by kernel_rfl) (by kernel_rfl) (by kernel_rfl) (door_met os _)) ?_
  intro W base args ds gs before hval0 hW _ _ hL _
  have hval : ∀ (j : Nat) t v, Tryd.f6.params[j]? = some t → args[j]? = some v → Value.okWide Tryd.prog W .any base t v := hval0
  have hW' := hW
  obtain ⟨p, q, hA0, hV, rfl, hfz, hnd⟩ := hW
  have hA : DataW.TrodAll enc Tryd.prog W 0 (fun _ => true) true Tryd.f6.params.toList args.toList ds p := hA0
  rw [Tryd.params6] at hA hval
  obtain ⟨v0, v1, d0, d1, p0, p1, rfl, rfl, rfl, h0, h1⟩ := trodAll_two hA
  obtain ⟨rfl, rfl⟩ := trodVars_none hV
  obtain ⟨a, rfl, rfl, rfl, wx0⟩ := open_int Tryd.underlying2 (hval 0 2 _ rfl rfl) h0
  obtain ⟨b, rfl, rfl, rfl, wx1⟩ := open_int Tryd.underlying2 (hval 1 2 _ rfl rfl) h1
  have hLaid := of_laid hL
  clear hA0 hval0
  simp only [List.append_nil] at hW'
  refine (walk a wx0 b wx1 W hLaid).mono fun e W' ⟨he, hb⟩ => ?_
  subst he
  exact ⟨_, rfl, _, _, _, [], [], [], hW', trodAll_mk1 (shut_bool Tryd.underlying4 _), trodAll_mk2 (shut_int Tryd.underlying2 wx0) (shut_int Tryd.underlying2 wx1), rfl, hb.frame _, fun h => by cases h⟩

theorem said : Rows.CalcRestSaid :=
  OpenClaim.holds_of_wide 6 Tryd.f6 rfl rfl rfl rfl rfl rfl rfl ⟨rfl, rfl, rfl, rfl, rfl⟩ rfl rfl rfl rfl rfl (by kernel_rfl) Tryd.func6 (by kernel_rfl)
    (of_decide_eq_true (by kernel_rfl)) (by unfold Func.isWrapper; first | (rw [if_pos (by decide +kernel)]; kernel_rfl) | (rw [if_neg (by decide +kernel)]; exact ⟨rfl, rfl⟩))
    (fun os started H enc _ => lifted os started H enc)
end CalcRest

theorem calcRest_card_holds : Rows.CalcRestCardSaid :=
  Claim7.holds_tied_plain_at .later [] _ true _ true
    CalcRest.said (fun _ h => by cases h) (by kernel_rfl) (fun _ h => by cases h) calcRest_row_tie rfl ⟨rfl, rfl⟩ (by kernel_rfl) rfl
    (fun f fn hf hfn => by
      obtain rfl : f = 6 := Option.some.inj ((show Tryd.prog.funcNamed "paling/palinglaw01.CalcRest" = some 6 by kernel_rfl).symm.trans hf) |>.symm
      obtain rfl : fn = Tryd.f6 := (Option.some.inj (Tryd.func6.symm.trans hfn)).symm
      exact ⟨by kernel_rfl, fun j t ht => by
        rw [Tryd.params6] at ht
        have hm : t ∈ [2, 2] := by simpa using Array.mem_of_getElem? ht
        have hall : ([2, 2].all fun u => !Tryd.prog.wantsStandIn u) = true := by kernel_rfl
        exact (show Tryd.prog.wantsStandIn t = false by simpa using List.all_eq_true.1 hall t hm)⟩)
    (by kernel_rfl)
#print axioms calcRest_card_holds
end Go.Proofs.YtibbmacoofgmoaaDoor
