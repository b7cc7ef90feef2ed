/- Plain facts of numbers of 64 bits: quotient and rest, bits, shifts, orders. -/
import Derived.Test.YtibbmacoofgmoaaDoorCall
namespace Go.Proofs.YtibbmacoofgmoaaDoor
open Go Go.RowKit

theorem and_add_or (a : Nat) : ∀ b : Nat, (a &&& b) + (a ||| b) = a + b := by
  induction a using Nat.strongRecOn with
  | _ a ih =>
    intro b
    by_cases h : a = 0
    · simp [h]
    · have h1 := ih (a / 2) (by omega) (b / 2)
      have e1 : (a &&& b) / 2 = a / 2 &&& b / 2 := Nat.and_div_two
      have e2 : (a ||| b) / 2 = a / 2 ||| b / 2 := Nat.or_div_two
      have m1 : (a &&& b) % 2 = 1 ↔ a % 2 = 1 ∧ b % 2 = 1 := Nat.and_mod_two_eq_one
      have m2 : (a ||| b) % 2 = 1 ↔ a % 2 = 1 ∨ b % 2 = 1 := Nat.or_mod_two_eq_one
      omega

theorem wrap_toNat (x : BitVec 64) : IntKind.i64.wrap (x.toNat : Int) = x.toInt := by
  rw [IntKind.wrap_i64, BitVec.toInt_eq_toNat_bmod]
  have := x.isLt
  simp only [Int.bmod]
  omega
theorem toInt_of {a : Int} (h0 : -9223372036854775808 ≤ a) (h1 : a ≤ 9223372036854775807) : (BitVec.ofInt 64 a).toInt = a := by
  rw [BitVec.toInt_ofInt]
  simp only [Int.bmod]
  omega
theorem bits_and (a b : Int) : bits .and .i64 a b = (BitVec.ofInt 64 a &&& BitVec.ofInt 64 b).toInt := wrap_toNat _
theorem bits_or (a b : Int) : bits .or .i64 a b = (BitVec.ofInt 64 a ||| BitVec.ofInt 64 b).toInt := wrap_toNat _
theorem bits_xor (a b : Int) : bits .xor .i64 a b = (BitVec.ofInt 64 a ^^^ BitVec.ofInt 64 b).toInt := wrap_toNat _

theorem xor_xor {a : Int} (h0 : -9223372036854775808 ≤ a) (h1 : a ≤ 9223372036854775807) (b : Int) : bits .xor .i64 (bits .xor .i64 a b) b = a := by
  rw [bits_xor, bits_xor, BitVec.ofInt_toInt, BitVec.xor_assoc, BitVec.xor_self, BitVec.xor_zero, toInt_of h0 h1]

theorem and_or (a b : Int) : wrap64 (bits .and .i64 a b + bits .or .i64 a b) = wrap64 (a + b) := by
  have key : ∀ x y : BitVec 64, wrap64 ((x &&& y).toInt + (x ||| y).toInt) = wrap64 (x.toInt + y.toInt) := by
    intro x y
    have h := and_add_or x.toNat y.toNat
    rw [← BitVec.toNat_and, ← BitVec.toNat_or] at h
    have w : ∀ z : BitVec 64, (z.toInt : Int) % 18446744073709551616 = (z.toNat : Int) := by
      intro z
      have := z.isLt
      rw [BitVec.toInt_eq_toNat_bmod]
      simp only [Int.bmod]
      omega
    have w1 := w (x &&& y)
    have w2 := w (x ||| y)
    have w3 := w x
    have w4 := w y
    unfold wrap64
    omega
  have e : ∀ z : Int, ((BitVec.ofInt 64 z).toInt) % 18446744073709551616 = z % 18446744073709551616 := by
    intro z
    rw [BitVec.toInt_ofInt]
    simp only [Int.bmod]
    omega
  rw [bits_and, bits_or, key]
  have e1 := e a
  have e2 := e b
  unfold wrap64
  omega

/-- What is divided comes back. -/
theorem div_back {a : Int} (h0 : -9223372036854775808 ≤ a) (h1 : a ≤ 9223372036854775807) (b : Int) :
    wrap64 (wrap64 (qt a b * b) + wrap64 (a - wrap64 (b * qt a b))) = a := by
  rw [Int.mul_comm b (qt a b)]
  generalize qt a b * b = t
  unfold wrap64
  omega

theorem tdiv_bd {a b : Int} (h0 : -9223372036854775808 ≤ a) (h1 : a ≤ 9223372036854775807) (hb : 0 < b) : -9223372036854775808 ≤ a.tdiv b ∧ a.tdiv b ≤ 9223372036854775807 := by
  by_cases ha : 0 ≤ a
  · have k1 := Int.tdiv_nonneg ha (Int.le_of_lt hb)
    have k2 : a.tdiv b ≤ a := by
      rw [Int.tdiv_eq_ediv_of_nonneg ha]
      exact Int.ediv_le_self _ ha
    omega
  · have e : a = -(-a) := by omega
    have k1 := Int.tdiv_nonneg (show 0 ≤ -a by omega) (Int.le_of_lt hb)
    have k2 : (-a).tdiv b ≤ -a := by
      rw [Int.tdiv_eq_ediv_of_nonneg (by omega)]
      exact Int.ediv_le_self _ (by omega)
    have k3 : (-a).tdiv b = -(a.tdiv b) := Int.neg_tdiv _ _
    omega

/-- The rest is nearer to 0 than what divides. -/
theorem rest_bd {a b : Int} (h0 : -9223372036854775808 ≤ a) (h1 : a ≤ 9223372036854775807) (hb : 0 < b) (hb1 : b ≤ 9223372036854775807) :
    -b < wrap64 (a - wrap64 (b * qt a b)) ∧ wrap64 (a - wrap64 (b * qt a b)) < b := by
  have hq : qt a b = wrap64 (a.tdiv b) := if_neg (by omega)
  have hr := tdiv_bd h0 h1 hb
  rw [hq, wrap_id hr.1 hr.2, wrap_sub_r]
  have e : a - b * a.tdiv b = a.tmod b := by
    have := Int.mul_tdiv_add_tmod a b
    omega
  have k1 : a.tmod b < b := Int.tmod_lt_of_pos a hb
  have k2 : -b < a.tmod b := by
    have := Int.tmod_lt_of_pos (-a) hb
    rw [Int.neg_tmod] at this
    omega
  rw [e, wrap_id (by omega) (by omega)]
  omega

theorem one_order (a b : Int) : tr (decide (a < b)) + tr (a == b) + tr (decide (b < a)) = 1 := by
  rcases Int.lt_trichotomy a b with h | h | h
  · have h1 : (a == b) = false := by simp; omega
    have h2 : ¬ b < a := by omega
    simp [h, h1, h2, tr]
  · subst h
    simp [tr]
  · have h1 : (a == b) = false := by simp; omega
    have h2 : ¬ a < b := by omega
    simp [h, h1, h2, tr]
theorem tr_bd (t : Bool) : 0 ≤ tr t ∧ tr t ≤ 1 := by cases t <;> simp [tr]

/-- A truth's operator comes to 0 or 1. -/
theorem ev_truth (i a b : Int) (h : 10 ≤ i) (h' : i < 19) : ∃ v : Int, (v = 0 ∨ v = 1) ∧ EvC i a b v := by
  have hi : i = 10 ∨ i = 11 ∨ i = 12 ∨ i = 13 ∨ i = 14 ∨ i = 15 ∨ i = 16 ∨ i = 17 ∨ i = 18 := by omega
  rcases hi with rfl | rfl | rfl | rfl | rfl | rfl | rfl | rfl | rfl <;> exact ⟨_, tr_01 _, EvC.mk rfl (by decide)⟩
end Go.Proofs.YtibbmacoofgmoaaDoor
