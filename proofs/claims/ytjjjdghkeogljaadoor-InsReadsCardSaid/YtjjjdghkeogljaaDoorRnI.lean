/- Plain facts of texts of digits; the document's own Digits of any number. -/
import Derived.Test.YtjjjdghkeogljaaDoorNumI
import Derived.Lib.ItoaNum
import Derived.Lib.AtoiAllCases
import Derived.WalkLawsBesides
import Derived.WalkSpells
namespace Go.Proofs.YtjjjdghkeogljaaDoor
set_option linter.unusedSimpArgs false
set_option linter.unusedVariables false
open Go Go.RowKit Go.WideShapes

theorem dec_small {u : Nat} (h : u < 10) : Lib.decDigits u = [UInt8.ofNat (48 + u)] := Lib.decDigits_one h
theorem dec_step {u : Nat} (h : ¬ u < 10) : Lib.decDigits u = Lib.decDigits (u / 10) ++ [UInt8.ofNat (48 + u % 10)] := by rw [Lib.decDigits, dif_neg h]

theorem byte_of {d : Nat} (h : d < 10) : (UInt8.ofNat (48 + d)).toNat = 48 + d := by
  rw [UInt8.toNat_ofNat']
  omega

theorem dec_head (u : Nat) : ∃ c r, Lib.decDigits u = c :: r ∧ 48 ≤ c.toNat ∧ c.toNat ≤ 57 := by
  induction u using Nat.strongRecOn with
  | _ u ih =>
    by_cases h : u < 10
    · exact ⟨_, [], dec_small h, by rw [byte_of h]; omega, by rw [byte_of h]; omega⟩
    · obtain ⟨c, r, e, h1, h2⟩ := ih (u / 10) (by omega)
      exact ⟨c, r ++ [UInt8.ofNat (48 + u % 10)], by rw [dec_step h, e]; rfl, h1, h2⟩

theorem dec_len (k : Nat) : ∀ u, u < 10 ^ (k + 1) → (Lib.decDigits u).length ≤ k + 1 := by
  induction k with
  | zero =>
    intro u hu
    rw [dec_small (by simpa using hu)]
    simp
  | succ k ih =>
    intro u hu
    by_cases h : u < 10
    · rw [dec_small h]
      simp
    · rw [dec_step h, List.length_append]
      have e : (10 : Nat) ^ (k + 1 + 1) = 10 ^ (k + 1) * 10 := Nat.pow_succ ..
      have := ih (u / 10) (by omega)
      simp
      omega

theorem dig_nat (u : Nat) : dig (u : Int) = ⟨(Lib.decDigits u).toArray⟩ := by
  unfold dig Lib.itoa
  rw [if_neg (by omega)]
  rfl
theorem dig_neg {n : Int} (h : n < 0) : dig n = ⟨(45 :: Lib.decDigits n.natAbs).toArray⟩ := by
  unfold dig Lib.itoa
  rw [if_pos h]

def tens : ByteArray := ⟨#[48, 49, 50, 51, 52, 53, 54, 55, 56, 57]⟩
theorem tens_at {d : Nat} (h : d < 10) : (tens.extract d (d + 1)).data.toList = [UInt8.ofNat (48 + d)] := by
  have hd : d = 0 ∨ d = 1 ∨ d = 2 ∨ d = 3 ∨ d = 4 ∨ d = 5 ∨ d = 6 ∨ d = 7 ∨ d = 8 ∨ d = 9 := by omega
  rcases hd with rfl | rfl | rfl | rfl | rfl | rfl | rfl | rfl | rfl | rfl <;> rfl
theorem cat_list (a b : ByteArray) : (a ++ b).data.toList = a.data.toList ++ b.data.toList := by
  rw [ByteArray.data_append, Array.toList_append]
theorem size_list (a : ByteArray) : a.size = a.data.toList.length := rfl

/-- What was shown of N so far stands in t, u is still to be shown. -/
def Shown (N u : Nat) (t : ByteArray) : Prop := Lib.decDigits N = Lib.decDigits u ++ t.data.toList

theorem Shown.size {N u : Nat} {t : ByteArray} (h : Shown N u t) (hN : N ≤ 9223372036854775808) : t.size ≤ 19 := by
  have h1 := congrArg List.length h
  have h2 := dec_len 18 N (by omega)
  rw [List.length_append, ← size_list] at h1
  omega
theorem Shown.step {N u : Nat} {t : ByteArray} (h : Shown N u t) (hu : ¬ u < 10) : Shown N (u / 10) (tens.extract (u % 10) (u % 10 + 1) ++ t) := by
  unfold Shown at h ⊢
  rw [h, dec_step hu, cat_list, tens_at (Nat.mod_lt _ (by decide)), List.append_assoc]
theorem Shown.last {N u : Nat} {t : ByteArray} (h : Shown N u t) (hu : u < 10) : (tens.extract (u % 10) (u % 10 + 1) ++ t).data.toList = Lib.decDigits N := by
  unfold Shown at h
  rw [h, dec_small hu, cat_list, tens_at (Nat.mod_lt _ (by decide)), Nat.mod_eq_of_lt hu]

set_option maxRecDepth 100000 in
theorem rdig_pos (n : Nat) (w : World) (hn : (n : Int) ≤ 9223372036854775807) : Calls Tryd.prog 30 #[.int .i64 n] w fun e w' => e = .returned (.string (dig n)) ∧ w = w' := by
  go_enter Tryd.func30, Tryd.ntmps30
  go_wp2
  go_loop [0, 3] (fun x s => ∃ (u : Nat) (t : ByteArray), x = .int .i64 u ∧ s = .string t ∧ (u : Int) ≤ 9223372036854775807 ∧ Shown n u t) (fun x _ => (intOf x).toNat)
  case atStart => exact ⟨n, ⟨#[]⟩, rfl, rfl, hn, by unfold Shown; exact (List.append_nil _).symm⟩
  case round =>
    obtain ⟨u, t, rfl, rfl, hu, hsh⟩ := hrel
    have hts := hsh.size (by omega)
    by_cases hz : u < 10
    · have h0 : ((u : Int) / 10 == 0) = true := by simp; omega
      go_wp2
      go_ret
      refine ⟨congrArg (fun s => Ending.returned (Value.string s)) (bytes_inj ?_), rfl⟩
      rw [dig_nat]
      exact hsh.last hz
    · have h0 : ((u : Int) / 10 == 0) = false := by simp; omega
      go_wp2
      go_round
      case rel => exact ⟨u / 10, _, by go_num, rfl, by omega, hsh.step hz⟩
      case measure => simp [intOf]; omega

theorem neg_parts {u : Nat} : (-(u : Int)).tmod 10 = -((u % 10 : Nat) : Int) ∧ (-(u : Int)).tdiv 10 = -((u / 10 : Nat) : Int) := by
  have h1 := Int.neg_tmod (u : Int) 10
  have h2 := Int.neg_tdiv (u : Int) 10
  have h3 : (u : Int).tmod 10 = (u : Int) % 10 := Int.tmod_eq_emod_of_nonneg (by omega)
  have h4 : (u : Int).tdiv 10 = (u : Int) / 10 := Int.tdiv_eq_ediv_of_nonneg (by omega)
  rw [h3] at h1
  rw [h4] at h2
  exact ⟨h1, h2⟩

set_option maxRecDepth 100000 in
theorem rdig_neg (n : Int) (N : Nat) (hN : Hid (n = -(N : Int))) (w : World) (hn : n < 0) (hb : -9223372036854775808 ≤ n) : Calls Tryd.prog 30 #[.int .i64 n] w fun e w' => e = .returned (.string (dig n)) ∧ w = w' := by
  go_enter Tryd.func30, Tryd.ntmps30
  go_wp2
  go_loop [0, 3] (fun x s => ∃ (v : Int) (u : Nat) (t : ByteArray), x = .int .i64 v ∧ s = .string t ∧ v < 0 ∧ -9223372036854775808 ≤ v ∧ Hid (v = -(u : Int)) ∧ Shown N u t) (fun x _ => (-(intOf x)).toNat)
  case atStart => exact ⟨n, N, ⟨#[]⟩, rfl, rfl, hn, hb, hN, by unfold Shown; exact (List.append_nil _).symm⟩
  case round =>
    obtain ⟨v, u, t, rfl, rfl, hv, hv2, HV, hsh⟩ := hrel
    have hts := hsh.size (by have := hN.out; omega)
    have hp := @neg_parts u
    rw [← HV.out] at hp
    have HP := Lib.hid hp
    clear hp
    have hm0 : -9 ≤ v.tmod 10 := by have := HP.out.1; omega
    by_cases hz : u < 10
    · have h0 : (v.tdiv 10 == 0) = true := by have := HP.out.2; simp; omega
      have hm1 : v.tmod 10 < 0 := by have := HP.out.1; have := HV.out; omega
      go_wp2
      go_ret
      refine ⟨congrArg (fun s => Ending.returned (Value.string s)) (bytes_inj ?_), rfl⟩
      rw [dig_neg hn, cat_list]
      have e1 : (-v.tmod 10).toNat = u % 10 := by have := HP.out.1; omega
      have e2 : (-v.tmod 10 + 1).toNat = u % 10 + 1 := by have := HP.out.1; omega
      have e3 : n.natAbs = N := by have := hN.out; omega
      rw [e1, e2, e3]
      show [45] ++ (tens.extract (u % 10) (u % 10 + 1) ++ t).data.toList = _
      rw [hsh.last hz]
      rfl
    · have h0 : (v.tdiv 10 == 0) = false := by have := HP.out.2; simp; omega
      by_cases hr : u % 10 = 0
      · have hm1 : v.tmod 10 = 0 := by have := HP.out.1; omega
        have HR := Lib.hid hr
        clear hr
        go_wp2
        go_round
        case rel =>
          refine ⟨v.tdiv 10, u / 10, _, rfl, rfl, by have := HP.out.2; omega, by have := HP.out.2; have := HV.out; omega, Lib.hid HP.out.2, ?_⟩
          have h1 := hsh.step hz
          rw [HR.out] at h1
          exact h1
        case measure => have := HP.out.2; have := HV.out; simp [intOf]; omega
      · have hm1 : v.tmod 10 < 0 := by have := HP.out.1; omega
        have HR := Lib.hid hr
        clear hr
        go_wp2
        go_round
        case rel =>
          refine ⟨v.tdiv 10, u / 10, _, rfl, rfl, by have := HP.out.2; omega, by have := HP.out.2; have := HV.out; omega, Lib.hid HP.out.2, ?_⟩
          have h1 := hsh.step hz
          have e1 : (-v.tmod 10).toNat = u % 10 := by have := HP.out.1; omega
          have e2 : (-v.tmod 10 + 1).toNat = u % 10 + 1 := by have := HP.out.1; omega
          rw [e1, e2]
          exact h1
        case measure => have := HP.out.2; have := HV.out; simp [intOf]; omega

/-- The document's Digits, of any number. -/
theorem rdigits_any (n : Int) (w : World) (h0 : -9223372036854775808 ≤ n) (h1 : n ≤ 9223372036854775807) : Calls Tryd.prog 30 #[.int .i64 n] w fun e w' => e = .returned (.string (dig n)) ∧ w = w' := by
  by_cases h : n < 0
  · exact rdig_neg n n.natAbs (Lib.hid (by omega)) w h h0
  · obtain ⟨u, rfl⟩ := Int.eq_ofNat_of_zero_le (show 0 ≤ n by omega)
    exact rdig_pos u w h1

end Go.Proofs.YtjjjdghkeogljaaDoor
