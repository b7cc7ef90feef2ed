/- The document's own Eval, of any operator and any two numbers. -/
import Derived.Test.YtibbmacoofgmoaaDoorCall
namespace Go.Proofs.YtibbmacoofgmoaaDoor
open Go Go.RowKit

theorem rone_t (w : World) : Calls Tryd.prog 30 #[.bool true] w fun e w' => e = .returned (.int .i64 1) ∧ w = w' := by
  go_enter Tryd.func30, Tryd.ntmps30
  go_wp2
  go_ret
  exact ⟨rfl, rfl⟩
theorem rone_f (w : World) : Calls Tryd.prog 30 #[.bool false] w fun e w' => e = .returned (.int .i64 0) ∧ w = w' := by
  go_enter Tryd.func30, Tryd.ntmps30
  go_wp2
  go_ret
  exact ⟨rfl, rfl⟩
theorem rone_any (t : Bool) (w : World) : Calls Tryd.prog 30 #[.bool t] w fun e w' => e = .returned (.int .i64 (tr t)) ∧ w = w' := by
  cases t
  · exact rone_f w
  · exact rone_t w

theorem rdiv_zero (a : Int) (w : World) : Calls Tryd.prog 28 #[.int .i64 a, .int .i64 0] w fun e w' => e = .returned (.int .i64 0) ∧ w = w' := by
  go_enter Tryd.func28, Tryd.ntmps28
  go_wp2
  go_ret
  exact ⟨rfl, rfl⟩
theorem rdiv_neg (a : Int) (w : World) : Calls Tryd.prog 28 #[.int .i64 a, .int .i64 (-1)] w fun e w' => e = .returned (.int .i64 (wrap64 (-a))) ∧ w = w' := by
  go_enter Tryd.func28, Tryd.ntmps28
  go_wp2
  go_ret
  exact ⟨rfl, rfl⟩
theorem rdiv_some (a b : Int) (w : World) (h0 : (b == 0) = false) (h1 : (b == -1) = false) (k0 : ¬ b = 0) : Calls Tryd.prog 28 #[.int .i64 a, .int .i64 b] w fun e w' => e = .returned (.int .i64 (wrap64 (a.tdiv b))) ∧ w = w' := by
  go_enter Tryd.func28, Tryd.ntmps28
  go_wp2
  go_ret
  exact ⟨rfl, rfl⟩
theorem rdiv_any (a b : Int) (w : World) : Calls Tryd.prog 28 #[.int .i64 a, .int .i64 b] w fun e w' => e = .returned (.int .i64 (qt a b)) ∧ w = w' := by
  by_cases h : b = 0
  · subst h
    exact rdiv_zero a w
  · have e1 : qt a b = wrap64 (a.tdiv b) := if_neg h
    rw [e1]
    by_cases h1 : b = -1
    · subst h1
      have e2 : a.tdiv (-1) = -a := by rw [Int.tdiv_neg, Int.tdiv_one]
      rw [e2]
      exact rdiv_neg a w
    · exact rdiv_some a b w (by simp [h]) (by simp [h1]) h

theorem places_eq (b : Int) : wrap64 ((IntKind.u64.wrap b).tmod 64) = b % 64 := by
  rw [IntKind.wrap_u64, Int.tmod_eq_emod_of_nonneg (by omega)]
  unfold wrap64
  omega

theorem pow2_succ (k : Nat) : (2 : Int) ^ (k + 1) = 2 ^ k * 2 := Int.pow_succ ..
theorem pow2_pos (k : Nat) : (0 : Int) < 2 ^ k := Int.pow_pos (by decide)
theorem shl_step (a : Int) (k : Nat) : wrap64 (wrap64 (a * 2 ^ k) * 2) = wrap64 (a * 2 ^ (k + 1)) := by
  rw [pow2_succ, ← Int.mul_assoc]
  generalize a * 2 ^ k = t
  unfold wrap64
  omega
theorem shr_step (a : Int) (k : Nat) : a / 2 ^ k / 2 = a / 2 ^ (k + 1) := by
  rw [pow2_succ]
  exact Int.ediv_ediv_of_nonneg (Int.le_of_lt (pow2_pos k))
theorem tdiv2_neg {x : Int} (h : x < 0) : x.tdiv 2 = -((-x) / 2) := by
  have h1 := Int.neg_tdiv (-x) 2
  have h2 : (-x).tdiv 2 = (-x) / 2 := Int.tdiv_eq_ediv_of_nonneg (by omega)
  rw [Int.neg_neg, h2] at h1
  exact h1
theorem tmod2_neg {x : Int} (h : x < 0) : x.tmod 2 = -((-x) % 2) := by
  have h1 := Int.neg_tmod (-x) 2
  have h2 : (-x).tmod 2 = (-x) % 2 := Int.tmod_eq_emod_of_nonneg (by omega)
  rw [Int.neg_neg, h2] at h1
  exact h1

theorem rshl_any (a b n : Int) (w : World) (wa : wrap64 a = a) (n0 : 0 ≤ n) (n1 : n ≤ 63) (hn : wrap64 ((IntKind.u64.wrap b).tmod 64) = n) : Calls Tryd.prog 29 #[.int .i64 a, .int .i64 b, .bool true] w fun e w' => e = .returned (.int .i64 (wrap64 (a * 2 ^ n.toNat))) ∧ w = w' := by
  have WA := Lib.hid wa
  clear wa
  go_enter Tryd.func29, Tryd.ntmps29
  go_wp2
  rw [hn]
  clear hn
  go_loop [0, 8] (fun x i => ∃ (k : Nat) (y : Int), (k : Int) ≤ n ∧ i = .int .i64 k ∧ x = .int .i64 y ∧ y = wrap64 (a * 2 ^ k)) (fun _ i => n.toNat - (intOf i).toNat)
  case atStart => exact ⟨0, a, by omega, rfl, rfl, by rw [Int.pow_zero, Int.mul_one]; exact WA.out.symm⟩
  case round =>
    obtain ⟨k, y, hk, rfl, rfl, hy⟩ := hrel
    have HY := Lib.hid hy
    clear hy
    by_cases hlt : (k : Int) < n
    · go_wp2
      go_round
      case rel => exact ⟨k + 1, _, by omega, by go_num, rfl, by rw [HY.out, shl_step]⟩
      case measure => simp [intOf]; omega
    · go_wp2
      go_ret
      have e : k = n.toNat := by omega
      exact ⟨ret_int (by rw [HY.out, e]), rfl⟩

theorem rshr_any (a b n : Int) (w : World) (a0 : -9223372036854775808 ≤ a) (a1 : a ≤ 9223372036854775807) (n0 : 0 ≤ n) (n1 : n ≤ 63) (hn : wrap64 ((IntKind.u64.wrap b).tmod 64) = n) : Calls Tryd.prog 29 #[.int .i64 a, .int .i64 b, .bool false] w fun e w' => e = .returned (.int .i64 (a / 2 ^ n.toNat)) ∧ w = w' := by
  go_enter Tryd.func29, Tryd.ntmps29
  go_wp2
  rw [hn]
  clear hn
  go_loop [0, 8] (fun x i => ∃ (k : Nat) (y : Int), (k : Int) ≤ n ∧ i = .int .i64 k ∧ x = .int .i64 y ∧ y = a / 2 ^ k ∧ -9223372036854775808 ≤ y ∧ y ≤ 9223372036854775807) (fun _ i => n.toNat - (intOf i).toNat)
  case atStart => exact ⟨0, a, by omega, rfl, rfl, by rw [Int.pow_zero, Int.ediv_one], a0, a1⟩
  case round =>
    obtain ⟨k, y, hk, rfl, rfl, hy, y0, y1⟩ := hrel
    have HY := Lib.hid hy
    clear hy
    by_cases hlt : (k : Int) < n
    · by_cases hp : 0 ≤ y
      · go_wp2
        go_round
        case rel => exact ⟨k + 1, y / 2, by omega, by go_num, by first | rfl | go_num, by rw [HY.out, shr_step], by omega, by omega⟩
        case measure => simp [intOf]; omega
      · have hneg : y < 0 := by omega
        have ht := tdiv2_neg hneg
        have hm := tmod2_neg hneg
        have HT := Lib.hid ht
        by_cases ho : (y.tmod 2 != 0) = true
        · have HO := Lib.hid (show y % 2 = 1 by simp [hm] at ho; omega)
          clear ht hm
          go_wp2
          go_round
          case rel => exact ⟨k + 1, y / 2, by omega, by go_num, congrArg (Value.int .i64) (by have := HT.out; have := HO.out; first | omega | (unfold wrap64; omega)), by rw [HY.out, shr_step], by omega, by omega⟩
          case measure => simp [intOf]; omega
        · have ho2 : (y.tmod 2 != 0) = false := by simpa using ho
          have HO := Lib.hid (show y % 2 = 0 by simp [hm] at ho; omega)
          clear ht hm ho
          go_wp2
          go_round
          case rel => exact ⟨k + 1, y / 2, by omega, by go_num, congrArg (Value.int .i64) (by have := HT.out; have := HO.out; first | omega | (unfold wrap64; omega)), by rw [HY.out, shr_step], by omega, by omega⟩
          case measure => simp [intOf]; omega
    · go_wp2
      go_ret
      have e : k = n.toNat := by omega
      exact ⟨ret_int (by rw [HY.out, e]), rfl⟩

theorem reval_0 (a b : Int) (w : World) : Calls Tryd.prog 12 #[.int .i64 0, .int .i64 a, .int .i64 b] w fun e w' => e = .returned (.int .i64 (wrap64 (a + b))) ∧ w = w' := by
  go_enter Tryd.func12, Tryd.ntmps12
  go_wp2
  go_ret
  exact ⟨rfl, rfl⟩
theorem reval_1 (a b : Int) (w : World) : Calls Tryd.prog 12 #[.int .i64 1, .int .i64 a, .int .i64 b] w fun e w' => e = .returned (.int .i64 (wrap64 (a - b))) ∧ w = w' := by
  go_enter Tryd.func12, Tryd.ntmps12
  go_wp2
  go_ret
  exact ⟨rfl, rfl⟩
theorem reval_2 (a b : Int) (w : World) : Calls Tryd.prog 12 #[.int .i64 2, .int .i64 a, .int .i64 b] w fun e w' => e = .returned (.int .i64 (wrap64 (a * b))) ∧ w = w' := by
  go_enter Tryd.func12, Tryd.ntmps12
  go_wp2
  go_ret
  exact ⟨rfl, rfl⟩
theorem reval_3 (a b : Int) (w : World) : Calls Tryd.prog 12 #[.int .i64 3, .int .i64 a, .int .i64 b] w fun e w' => e = .returned (.int .i64 (qt a b)) ∧ w = w' := by
  go_enter Tryd.func12, Tryd.ntmps12
  go_wp2_with (go_at_call 28; refine (rdiv_any _ _ _).mono ?_; rintro e w' ⟨rfl, rfl⟩)
  go_ret
  exact ⟨rfl, rfl⟩
theorem reval_4 (a b : Int) (w : World) : Calls Tryd.prog 12 #[.int .i64 4, .int .i64 a, .int .i64 b] w fun e w' => e = .returned (.int .i64 (wrap64 (a - wrap64 (b * qt a b)))) ∧ w = w' := by
  go_enter Tryd.func12, Tryd.ntmps12
  go_wp2_with (go_at_call 28; refine (rdiv_any _ _ _).mono ?_; rintro e w' ⟨rfl, rfl⟩)
  go_ret
  exact ⟨rfl, rfl⟩
theorem reval_5 (a b : Int) (w : World) : Calls Tryd.prog 12 #[.int .i64 5, .int .i64 a, .int .i64 b] w fun e w' => e = .returned (.int .i64 (bits .and .i64 a b)) ∧ w = w' := by
  go_enter Tryd.func12, Tryd.ntmps12
  go_wp2
  go_ret
  exact ⟨rfl, rfl⟩
theorem reval_6 (a b : Int) (w : World) : Calls Tryd.prog 12 #[.int .i64 6, .int .i64 a, .int .i64 b] w fun e w' => e = .returned (.int .i64 (bits .or .i64 a b)) ∧ w = w' := by
  go_enter Tryd.func12, Tryd.ntmps12
  go_wp2
  go_ret
  exact ⟨rfl, rfl⟩
theorem reval_7 (a b : Int) (w : World) : Calls Tryd.prog 12 #[.int .i64 7, .int .i64 a, .int .i64 b] w fun e w' => e = .returned (.int .i64 (bits .xor .i64 a b)) ∧ w = w' := by
  go_enter Tryd.func12, Tryd.ntmps12
  go_wp2
  go_ret
  exact ⟨rfl, rfl⟩
theorem reval_8 (a b : Int) (a0 : -9223372036854775808 ≤ a) (a1 : a ≤ 9223372036854775807) (w : World) : Calls Tryd.prog 12 #[.int .i64 8, .int .i64 a, .int .i64 b] w fun e w' => e = .returned (.int .i64 (wrap64 (a * 2 ^ (b % 64).toNat))) ∧ w = w' := by
  go_enter Tryd.func12, Tryd.ntmps12
  go_wp2_with (go_at_call 29; refine (rshl_any a b (b % 64) _ (wrap_id a0 a1) (by omega) (by omega) (places_eq b)).mono ?_; rintro e w' ⟨rfl, rfl⟩)
  go_ret
  exact ⟨rfl, rfl⟩
theorem reval_9 (a b : Int) (a0 : -9223372036854775808 ≤ a) (a1 : a ≤ 9223372036854775807) (w : World) : Calls Tryd.prog 12 #[.int .i64 9, .int .i64 a, .int .i64 b] w fun e w' => e = .returned (.int .i64 (a / 2 ^ (b % 64).toNat)) ∧ w = w' := by
  go_enter Tryd.func12, Tryd.ntmps12
  go_wp2_with (go_at_call 29; refine (rshr_any a b (b % 64) _ a0 a1 (by omega) (by omega) (places_eq b)).mono ?_; rintro e w' ⟨rfl, rfl⟩)
  go_ret
  exact ⟨rfl, rfl⟩
theorem reval_10 (a b : Int) (w : World) : Calls Tryd.prog 12 #[.int .i64 10, .int .i64 a, .int .i64 b] w fun e w' => e = .returned (.int .i64 (tr (a == b))) ∧ w = w' := by
  go_enter Tryd.func12, Tryd.ntmps12
  go_wp2_with (go_at_call 30; refine (rone_any _ _).mono ?_; rintro e w' ⟨rfl, rfl⟩)
  go_ret
  exact ⟨rfl, rfl⟩
theorem reval_11 (a b : Int) (w : World) : Calls Tryd.prog 12 #[.int .i64 11, .int .i64 a, .int .i64 b] w fun e w' => e = .returned (.int .i64 (tr (a != b))) ∧ w = w' := by
  go_enter Tryd.func12, Tryd.ntmps12
  go_wp2_with (go_at_call 30; refine (rone_any _ _).mono ?_; rintro e w' ⟨rfl, rfl⟩)
  go_ret
  exact ⟨rfl, rfl⟩
theorem reval_12 (a b : Int) (w : World) : Calls Tryd.prog 12 #[.int .i64 12, .int .i64 a, .int .i64 b] w fun e w' => e = .returned (.int .i64 (tr (decide (a < b)))) ∧ w = w' := by
  go_enter Tryd.func12, Tryd.ntmps12
  go_wp2_with (go_at_call 30; refine (rone_any _ _).mono ?_; rintro e w' ⟨rfl, rfl⟩)
  go_ret
  exact ⟨rfl, rfl⟩
theorem reval_13 (a b : Int) (w : World) : Calls Tryd.prog 12 #[.int .i64 13, .int .i64 a, .int .i64 b] w fun e w' => e = .returned (.int .i64 (tr (decide (a ≤ b)))) ∧ w = w' := by
  go_enter Tryd.func12, Tryd.ntmps12
  go_wp2_with (go_at_call 30; refine (rone_any _ _).mono ?_; rintro e w' ⟨rfl, rfl⟩)
  go_ret
  exact ⟨rfl, rfl⟩
theorem reval_14 (a b : Int) (w : World) : Calls Tryd.prog 12 #[.int .i64 14, .int .i64 a, .int .i64 b] w fun e w' => e = .returned (.int .i64 (tr (decide (b < a)))) ∧ w = w' := by
  go_enter Tryd.func12, Tryd.ntmps12
  go_wp2_with (go_at_call 30; refine (rone_any _ _).mono ?_; rintro e w' ⟨rfl, rfl⟩)
  go_ret
  exact ⟨rfl, rfl⟩
theorem reval_15 (a b : Int) (w : World) : Calls Tryd.prog 12 #[.int .i64 15, .int .i64 a, .int .i64 b] w fun e w' => e = .returned (.int .i64 (tr (decide (b ≤ a)))) ∧ w = w' := by
  go_enter Tryd.func12, Tryd.ntmps12
  go_wp2_with (go_at_call 30; refine (rone_any _ _).mono ?_; rintro e w' ⟨rfl, rfl⟩)
  go_ret
  exact ⟨rfl, rfl⟩
theorem reval_16 (a b : Int) (w : World) : Calls Tryd.prog 12 #[.int .i64 16, .int .i64 a, .int .i64 b] w fun e w' => e = .returned (.int .i64 (tr (decide (IntKind.u64.wrap a < IntKind.u64.wrap b)))) ∧ w = w' := by
  go_enter Tryd.func12, Tryd.ntmps12
  go_wp2_with (go_at_call 30; refine (rone_any _ _).mono ?_; rintro e w' ⟨rfl, rfl⟩)
  go_ret
  exact ⟨rfl, rfl⟩
theorem reval_17 (a b : Int) (w : World) : Calls Tryd.prog 12 #[.int .i64 17, .int .i64 a, .int .i64 b] w fun e w' => e = .returned (.int .i64 (tr (a != 0 && b != 0))) ∧ w = w' := by
  go_enter Tryd.func12, Tryd.ntmps12
  go_wp2_with (go_at_call 30; refine (rone_any _ _).mono ?_; rintro e w' ⟨rfl, rfl⟩)
  all_goals go_ret
  all_goals refine ⟨?_, rfl⟩
  all_goals apply ret_int
  all_goals first | rfl | simp_all [tr]
theorem reval_18 (a b : Int) (w : World) : Calls Tryd.prog 12 #[.int .i64 18, .int .i64 a, .int .i64 b] w fun e w' => e = .returned (.int .i64 (tr (a != 0 || b != 0))) ∧ w = w' := by
  go_enter Tryd.func12, Tryd.ntmps12
  go_wp2_with (go_at_call 30; refine (rone_any _ _).mono ?_; rintro e w' ⟨rfl, rfl⟩)
  all_goals go_ret
  all_goals refine ⟨?_, rfl⟩
  all_goals apply ret_int
  all_goals first | rfl | simp_all [tr]
theorem reval_none (o a b : Int) (h0 : (o == 0) = false) (h1 : (o == 1) = false) (h2 : (o == 2) = false) (h3 : (o == 3) = false) (h4 : (o == 4) = false) (h5 : (o == 5) = false) (h6 : (o == 6) = false) (h7 : (o == 7) = false) (h8 : (o == 8) = false) (h9 : (o == 9) = false) (h10 : (o == 10) = false) (h11 : (o == 11) = false) (h12 : (o == 12) = false) (h13 : (o == 13) = false) (h14 : (o == 14) = false) (h15 : (o == 15) = false) (h16 : (o == 16) = false) (h17 : (o == 17) = false) (h18 : (o == 18) = false) (w : World) : Calls Tryd.prog 12 #[.int .i64 o, .int .i64 a, .int .i64 b] w fun e w' => e = .returned (.int .i64 0) ∧ w = w' := by
  go_enter Tryd.func12, Tryd.ntmps12
  go_wp2
  go_ret
  exact ⟨rfl, rfl⟩

/-- The document's Eval, of any operator. -/
theorem reval_any (o a b : Int) (a0 : -9223372036854775808 ≤ a) (a1 : a ≤ 9223372036854775807) (w : World) : Calls Tryd.prog 12 #[.int .i64 o, .int .i64 a, .int .i64 b] w fun e w' => e = .returned (.int .i64 (ev o a b)) ∧ w = w' := by
  by_cases h0 : o = 0
  · subst h0
    exact reval_0 a b w
  by_cases h1 : o = 1
  · subst h1
    exact reval_1 a b w
  by_cases h2 : o = 2
  · subst h2
    exact reval_2 a b w
  by_cases h3 : o = 3
  · subst h3
    exact reval_3 a b w
  by_cases h4 : o = 4
  · subst h4
    exact reval_4 a b w
  by_cases h5 : o = 5
  · subst h5
    exact reval_5 a b w
  by_cases h6 : o = 6
  · subst h6
    exact reval_6 a b w
  by_cases h7 : o = 7
  · subst h7
    exact reval_7 a b w
  by_cases h8 : o = 8
  · subst h8
    exact reval_8 a b a0 a1 w
  by_cases h9 : o = 9
  · subst h9
    exact reval_9 a b a0 a1 w
  by_cases h10 : o = 10
  · subst h10
    exact reval_10 a b w
  by_cases h11 : o = 11
  · subst h11
    exact reval_11 a b w
  by_cases h12 : o = 12
  · subst h12
    exact reval_12 a b w
  by_cases h13 : o = 13
  · subst h13
    exact reval_13 a b w
  by_cases h14 : o = 14
  · subst h14
    exact reval_14 a b w
  by_cases h15 : o = 15
  · subst h15
    exact reval_15 a b w
  by_cases h16 : o = 16
  · subst h16
    exact reval_16 a b w
  by_cases h17 : o = 17
  · subst h17
    exact reval_17 a b w
  by_cases h18 : o = 18
  · subst h18
    exact reval_18 a b w
  have hz : ev o a b = 0 := by simp [ev, h0, h1, h2, h3, h4, h5, h6, h7, h8, h9, h10, h11, h12, h13, h14, h15, h16, h17, h18]
  rw [hz]
  exact reval_none o a b (by simp [h0]) (by simp [h1]) (by simp [h2]) (by simp [h3]) (by simp [h4]) (by simp [h5]) (by simp [h6]) (by simp [h7]) (by simp [h8]) (by simp [h9]) (by simp [h10]) (by simp [h11]) (by simp [h12]) (by simp [h13]) (by simp [h14]) (by simp [h15]) (by simp [h16]) (by simp [h17]) (by simp [h18]) w
end Go.Proofs.YtibbmacoofgmoaaDoor
