/- The line of a place, and the byte in it: lex.Line, and the document's Line. -/
import Derived.Test.YtkmmohhafmnheaaDoorRead
import Derived.LoopTactic
namespace Go.Proofs.YtkmmohhafmnheaaDoor
open Go Go.RowKit

/-- The line of place k, and the byte in it. -/
def lineK (s : ByteArray) (k : Nat) : Int := ((s.data.toList.take k).count 10 : Nat) + 1
def colK (s : ByteArray) (k : Nat) : Int := k - Lib.lastIdx s 10 k

theorem wrap_in {a : Int} (h0 : -9223372036854775808 ≤ a) (h1 : a ≤ 9223372036854775807) : wrap64 a = a := by unfold wrap64; omega
theorem byte_at (s : ByteArray) (k : Nat) (hk : k < s.size) : s.data[k]! = s[k]'hk := by
  rw [getElem!_pos s.data k hk]
  rfl
theorem last_cut (s : ByteArray) (c : Int) (m : Nat) (hm : m ≤ s.size) : ∀ k, k ≤ m → Lib.lastIdx (s.extract 0 m) c k = Lib.lastIdx s c k
  | 0, _ => rfl
  | k + 1, h => by
    have h1 : k < (s.extract 0 m).size := by rw [upto_size s m hm]; omega
    have h2 : k < s.size := by omega
    have e : (s.extract 0 m).data[k]! = s.data[k]! := by
      rw [byte_at _ k h1, byte_at s k h2]
      have e1 := at_list (s.extract 0 m) k h1
      rw [Lib.extract_data, Nat.sub_zero, List.drop_zero, List.getElem?_take_of_lt (by omega), at_list s k h2] at e1
      exact (Option.some.inj e1).symm
    show (if (((s.extract 0 m).data[k]!).toNat : Int) = c then (k : Int) else _) = if ((s.data[k]!).toNat : Int) = c then (k : Int) else _
    rw [e, last_cut s c m hm k (by omega)]
theorem last_bd (s : ByteArray) (c : Int) (k : Nat) : -1 ≤ Lib.lastIdx s c k ∧ Lib.lastIdx s c k < k := by
  rcases Lib.lastIdx_spec s c k with ⟨h, _⟩ | ⟨i, h1, h2, _⟩
  · omega
  · omega
theorem col_zero (s : ByteArray) : lineK s 0 = 1 ∧ colK s 0 = 1 := ⟨rfl, rfl⟩
theorem count_step (s : ByteArray) (k : Nat) (hk : k < s.size) : (s.data.toList.take (k + 1)).count 10 = (s.data.toList.take k).count 10 + if (s[k]'hk) = 10 then 1 else 0 := by
  rw [List.take_add_one, at_list s k hk, List.count_append]
  congr 1
  show List.count 10 [s[k]] = _
  rw [List.count_singleton]
  by_cases h : s[k] = 10
  · rw [if_pos h, if_pos (by rw [h]; rfl)]
  · rw [if_neg h, if_neg (by simpa using h)]
theorem step_nl (s : ByteArray) (k : Nat) (hk : k < s.size) (h : (s[k]'hk) = 10) : lineK s (k + 1) = lineK s k + 1 ∧ colK s (k + 1) = 1 := by
  unfold lineK colK
  rw [count_step s k hk, if_pos h, Lib.lastIdx_hit s 10 k (by rw [byte_at s k hk, h]; rfl)]
  omega
theorem step_on (s : ByteArray) (k : Nat) (hk : k < s.size) (h : (s[k]'hk) ≠ 10) : lineK s (k + 1) = lineK s k ∧ colK s (k + 1) = colK s k + 1 := by
  unfold lineK colK
  rw [count_step s k hk, if_neg h, Lib.lastIdx_miss s 10 k (by rw [byte_at s k hk]; intro h2; exact h (UInt8.toNat_inj.1 (by show _ = 10; omega)))]
  omega
theorem line_bd (s : ByteArray) (k : Nat) : 1 ≤ lineK s k ∧ lineK s k ≤ k + 1 ∧ 1 ≤ colK s k ∧ colK s k ≤ k + 1 := by
  have h1 := last_bd s 10 k
  have h2 : (s.data.toList.take k).count 10 ≤ k := Nat.le_trans List.count_le_length (by rw [List.length_take]; omega)
  unfold lineK colK
  omega

theorem line_eq (s : ByteArray) (k m : Nat) (hm : min k s.size = m) (hs : s.size ≤ 1000000) :
    wrap64 (↑(Lib.countByte (List.take (min (k : Int) s.size).toNat s.data.toList) 10) + 1) = lineK s m ∧ wrap64 (↑(min (min (k : Int) s.size).toNat s.size) - Lib.lastIndexByte (s.extract 0 (min (k : Int) s.size).toNat) 10) = colK s m := by
  have e : (min (k : Int) s.size).toNat = m := by omega
  have hms : m ≤ s.size := by omega
  have e2 : min m s.size = m := by omega
  have e3 : Lib.lastIndexByte (s.extract 0 m) 10 = Lib.lastIdx s 10 m := by
    unfold Lib.lastIndexByte
    rw [upto_size s m hms]
    exact last_cut s 10 m hms m (Nat.le_refl _)
  have hb := line_bd s m
  have hl : (↑(Lib.countByte (List.take m s.data.toList) 10) + 1 : Int) = lineK s m := rfl
  have hc : ((m : Int) - Lib.lastIdx s 10 m) = colK s m := rfl
  rw [e, e2, e3, hl, hc]
  exact ⟨wrap_in (by omega) (by omega), wrap_in (by omega) (by omega)⟩

theorem ret_two {a b c d : Int} (h : a = c) (h2 : b = d) : Ending.returned (.tuple #[.int .i64 a, .int .i64 b]) = .returned (.tuple #[.int .i64 c, .int .i64 d]) := by rw [h, h2]

theorem line_any (s : ByteArray) (k m : Nat) (w : World) (hm : Hid (min k s.size = m)) (hs : s.size ≤ 1000000) : Calls Tryd.prog 13 #[.string s, .int .i64 k] w fun e w' => e = .returned (.tuple #[.int .i64 (lineK s m), .int .i64 (colK s m)]) ∧ w = w' := by
  have HE := Lib.hid (line_eq s k m hm.out hs)
  go_enter Tryd.func13, Tryd.ntmps13
  go_wp2_with (first
    | (go_at_call 25; refine (Tryd.strings_Count_one _ _ _).mono ?_; rintro e' w1 ⟨rfl, rfl⟩)
    | (go_at_call 26; refine (Tryd.strings_LastIndexByte _ _ (by rw [upto_size s _ (by omega)]; omega) _).mono ?_; rintro e' w1 ⟨rfl, rfl⟩))
  go_ret2
  exact ⟨ret_two HE.out.1 HE.out.2, rfl⟩

set_option maxRecDepth 100000 in
theorem rline_any (s : ByteArray) (k m : Nat) (w : World) (hm : min k s.size = m) (hs : s.size ≤ 1000000) (hk : k ≤ 9223372036854775807) : Calls Tryd.prog 14 #[.string s, .int .i64 k] w fun e w' => e = .returned (.tuple #[.int .i64 (lineK s m), .int .i64 (colK s m)]) ∧ w = w' := by
  have hms : m ≤ s.size ∧ m ≤ k := by omega
  have hmo : k ≤ m ∨ s.size ≤ m := by omega
  obtain ⟨h1, h2⟩ := hms
  clear hm
  go_enter Tryd.func14, Tryd.ntmps14
  go_wp2
  go_loop [6, 7, 8] (fun l c i => ∃ (j : Nat) (a b : Int), i = .int .i64 j ∧ l = .int .i64 a ∧ c = .int .i64 b ∧ j ≤ m ∧ 1 ≤ a ∧ a ≤ j + 1 ∧ 1 ≤ b ∧ b ≤ j + 1 ∧ Hid (a = lineK s j ∧ b = colK s j)) (fun _ _ i => m - (intOf i).toNat)
  case atStart => exact ⟨0, 1, 1, rfl, rfl, rfl, Nat.zero_le _, by omega, by omega, by omega, by omega, Lib.hid ⟨rfl, rfl⟩⟩
  case round =>
    obtain ⟨j, a, b, rfl, rfl, rfl, hj, ha0, ha1, hb0, hb1, HE⟩ := hrel
    by_cases hlt : j < m
    · have hjs : j < s.size := by omega
      have hjk : j < k := by omega
      by_cases hc : (s[j]'hjs) = 10
      · have hb : (((s[j]'hjs).toNat : Int) == 10) = true := by rw [hc]; rfl
        have hst := step_nl s j hjs hc
        have HE2 : Hid (a + 1 = lineK s (j + 1) ∧ (1 : Int) = colK s (j + 1)) := Lib.hid ⟨by rw [hst.1, HE.out.1], hst.2.symm⟩
        clear hc hst
        go_wp2
        go_round
        case rel => exact ⟨j + 1, a + 1, 1, by go_num, rfl, rfl, by omega, by omega, by omega, by omega, by omega, HE2⟩
        case measure => simp [intOf]; omega
      · have hb : (((s[j]'hjs).toNat : Int) == 10) = false := by
          rw [beq_eq_false_iff_ne]
          intro h
          exact hc (UInt8.toNat_inj.1 (by show _ = 10; omega))
        have hst := step_on s j hjs hc
        have HE2 : Hid (a = lineK s (j + 1) ∧ b + 1 = colK s (j + 1)) := Lib.hid ⟨by rw [hst.1, HE.out.1], by rw [hst.2, HE.out.2]⟩
        clear hc hst
        go_wp2
        go_round
        case rel => exact ⟨j + 1, a, b + 1, by go_num, rfl, rfl, by omega, by omega, by omega, by omega, by omega, HE2⟩
        case measure => simp [intOf]; omega
    · obtain rfl : j = m := by omega
      rcases hmo with h | h
      · by_cases hjs : j < s.size
        · go_wp2
          go_ret2
          exact ⟨ret_two HE.out.1 HE.out.2, rfl⟩
        · go_wp2
          go_ret2
          exact ⟨ret_two HE.out.1 HE.out.2, rfl⟩
      · go_wp2
        go_ret2
        exact ⟨ret_two HE.out.1 HE.out.2, rfl⟩
end Go.Proofs.YtkmmohhafmnheaaDoor
