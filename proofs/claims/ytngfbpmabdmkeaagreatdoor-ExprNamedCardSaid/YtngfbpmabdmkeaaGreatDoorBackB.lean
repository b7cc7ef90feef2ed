/- A number's digits are read as that number: plain facts of texts of digits. -/
import Derived.Test.YtngfbpmabdmkeaaGreatDoorNumB
import Derived.Lib.ItoaNum
import Derived.Lib.AtoiAllCases
namespace Go.Proofs.YtngfbpmabdmkeaaGreatDoor
open Go Go.RowKit

theorem dec_small {u : Nat} (h : u < 10) : Lib.decDigits u = [UInt8.ofNat (48 + u)] := Lib.decDigits_one h
theorem dec_step {u : Nat} (h : ¬ u < 10) : Lib.decDigits u = Lib.decDigits (u / 10) ++ [UInt8.ofNat (48 + u % 10)] := by rw [Lib.decDigits, dif_neg h]

theorem byte_of {d : Nat} (h : d < 10) : (UInt8.ofNat (48 + d)).toNat = 48 + d := by
  rw [UInt8.toNat_ofNat']
  omega

theorem parse_dec (u : Nat) : ∀ r, u < 9223372036854775808 → Lib.parseUint10 0 (Lib.decDigits u ++ r) = Lib.parseUint10 u r := by
  induction u using Nat.strongRecOn with
  | _ u ih =>
    intro r hu
    by_cases h : u < 10
    · rw [dec_small h]
      simp only [List.singleton_append, Lib.parseUint10, byte_of h]
      rw [if_pos (by omega), if_neg (by omega), if_neg (by omega)]
      congr 1
      omega
    · rw [dec_step h, List.append_assoc, ih (u / 10) (by omega) _ (by omega)]
      have hd : u % 10 < 10 := Nat.mod_lt _ (by decide)
      simp only [List.singleton_append, Lib.parseUint10, byte_of hd]
      rw [if_pos (by omega), if_neg (by omega), if_neg (by omega)]
      congr 1
      omega

theorem dec_head (u : Nat) : ∃ c r, Lib.decDigits u = c :: r ∧ 48 ≤ c.toNat ∧ c.toNat ≤ 57 := by
  induction u using Nat.strongRecOn with
  | _ u ih =>
    by_cases h : u < 10
    · exact ⟨_, [], dec_small h, by rw [byte_of h]; omega, by rw [byte_of h]; omega⟩
    · obtain ⟨c, r, e, h1, h2⟩ := ih (u / 10) (by omega)
      exact ⟨c, r ++ [UInt8.ofNat (48 + u % 10)], by rw [dec_step h, e]; rfl, h1, h2⟩

theorem dec_len (k : Nat) : ∀ u, u < 10 ^ (k + 1) → (Lib.decDigits u).length ≤ k + 1 := by
  induction k with
  | zero =>
    intro u hu
    rw [dec_small (by simpa using hu)]
    simp
  | succ k ih =>
    intro u hu
    by_cases h : u < 10
    · rw [dec_small h]
      simp
    · rw [dec_step h, List.length_append]
      have e : (10 : Nat) ^ (k + 1 + 1) = 10 ^ (k + 1) * 10 := Nat.pow_succ ..
      have := ih (u / 10) (by omega)
      simp
      omega

theorem dig_nat (u : Nat) : dig (u : Int) = ⟨(Lib.decDigits u).toArray⟩ := by
  unfold dig Lib.itoa
  rw [if_neg (by omega)]
  rfl
theorem dig_neg {n : Int} (h : n < 0) : dig n = ⟨(45 :: Lib.decDigits n.natAbs).toArray⟩ := by
  unfold dig Lib.itoa
  rw [if_pos h]

/-- Digits of a number that is not below 0 are read as that number. -/
theorem num_dig {n : Int} (h0 : 0 ≤ n) (h1 : n ≤ 9223372036854775807) : numM (dig n) = (n, true) := by
  obtain ⟨u, rfl⟩ := Int.eq_ofNat_of_zero_le h0
  have hu : u < 9223372036854775808 := by omega
  have hl := dec_len 18 u (by omega)
  obtain ⟨c, r, e, k1, k2⟩ := dec_head u
  have hp : Lib.parseIntB 64 (dig (u : Int)).data.toList = .ok (u : Int) := by
    rw [Lib.parseIntB_64, dig_nat]
    show Lib.atoiAll (Lib.decDigits u) = _
    have h2 := parse_dec u [] hu
    rw [List.append_nil] at h2
    rw [e, Lib.atoiAll_plain c r (by omega) (by omega), ← e]
    unfold Lib.parseMag
    rw [if_neg (by rw [e]; simp), h2]
    simp only [Lib.parseUint10, Lib.signless]
    rw [if_neg (by omega)]
  unfold numM
  rw [if_neg (by rw [dig_nat]; show ¬ 19 < (Lib.decDigits u).toArray.size; simp; omega), hp]
  simp only
  rw [if_neg (by omega), if_pos (by simp)]

/-- Digits of a number below 0 are none of a number. -/
theorem num_neg {n : Int} (h0 : n < 0) : numM (dig n) = (0, false) := by
  unfold numM
  by_cases hl : 19 < (dig n).size
  · rw [if_pos hl]
  · rw [if_neg hl]
    rcases hp : Lib.parseIntB 64 (dig n).data.toList with v | _ | _
    · have hv : v ≤ 0 := by
        rw [Lib.parseIntB_64, dig_neg h0] at hp
        have hp2 : Lib.atoiAll (45 :: Lib.decDigits n.natAbs) = .ok v := hp
        rw [Lib.atoiAll_minus] at hp2
        rcases hm : Lib.parseMag (Lib.decDigits n.natAbs) with u | _ | _
        · rw [hm] at hp2
          simp only [Lib.signed] at hp2
          by_cases hu : 9223372036854775808 < u
          · rw [if_pos hu] at hp2
            cases hp2
          · rw [if_neg hu] at hp2
            cases hp2
            omega
        · rw [hm] at hp2
          cases hp2
        · rw [hm] at hp2
          cases hp2
      simp only
      by_cases hv2 : v < 0
      · rw [if_pos hv2]
      · have : v = 0 := by omega
        subst this
        have hd0 : dig 0 = ⟨#[48]⟩ := by simp [dig, Lib.itoa, Lib.decDigits]
        rw [if_neg hv2, hd0, dig_neg h0, ByteArray.toList_eq, ByteArray.toList_eq]
        rw [if_neg (by simp)]
    · rfl
    · rfl
end Go.Proofs.YtngfbpmabdmkeaaGreatDoor
