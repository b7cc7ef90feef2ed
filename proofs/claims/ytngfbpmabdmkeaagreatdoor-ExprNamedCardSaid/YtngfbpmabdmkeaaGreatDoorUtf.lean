/- How a range over a string goes on: past a byte, and past such alone as no ASCII byte is; it comes to each place that words begin at. -/
import Derived.Test.YtngfbpmabdmkeaaGreatDoorRune
import Derived.Laws.RangeAny
namespace Go.Proofs.YtngfbpmabdmkeaaGreatDoor
open Go Go.RowKit

theorem get_off (s : ByteArray) (i : Nat) (h : i < s.size) : s.get! i = s[i]'h := by
  simp [ByteArray.get!, getElem!_pos, h]
  rfl

/-- What a rune's other bytes are. -/
theorem decode_cont (s : ByteArray) (p j : Nat) (_ : p < s.size) (h1 : p < j) (h2 : j < p + (Utf8.decode s p).2) : ∃ h : j < s.size, 128 ≤ (s[j]'h).toNat := by
  have key : ∀ k, (decide (p + k < s.size) && (s.get! (p + k)).toNat / 64 == 2) = true → j = p + k → ∃ h : j < s.size, 128 ≤ (s[j]'h).toNat := by
    rintro k hk rfl
    simp only [Bool.and_eq_true, decide_eq_true_eq, beq_iff_eq] at hk
    refine ⟨hk.1, ?_⟩
    rw [← get_off s _ hk.1]
    omega
  simp only [Utf8.decode] at h2
  repeat' split at h2
  all_goals first
    | omega
    | (rename_i h4 h5; simp only [Bool.and_eq_true] at h4; exact key 1 (by simpa using h4.2) (by omega))
    | (rename_i h4 h5
       simp only [Bool.and_eq_true] at h4
       rcases (show j = p + 1 ∨ j = p + 2 by omega) with h | h
       · exact key 1 (by simpa using h4.1.2) h
       · exact key 2 (by simpa using h4.2) h)
    | (rename_i h4 h5
       simp only [Bool.and_eq_true] at h4
       rcases (show j = p + 1 ∨ j = p + 2 ∨ j = p + 3 by omega) with h | h | h
       · exact key 1 (by simpa using h4.1.1.2) h
       · exact key 2 (by simpa using h4.1.2) h
       · exact key 3 (by simpa using h4.2) h)

theorem decode_rn (s : ByteArray) (p : Nat) (hp : p < s.size) : Rn (Utf8.decode s p).1 (s[p]'hp) := by
  by_cases ha : (s[p]'hp).toNat < 128
  · rw [decode_ascii s p hp ha]
    exact Or.inl ⟨ha, rfl⟩
  · have := decode_high s p hp (by omega)
    exact Or.inr ⟨by omega, by omega⟩
theorem decode_pos (s : ByteArray) (p : Nat) (hp : p < s.size) : 1 ≤ (Utf8.decode s p).2 := by
  by_cases ha : (s[p]'hp).toNat < 128
  · rw [decode_ascii s p hp ha]
    exact Nat.le_refl _
  · exact (decode_high s p hp (by omega)).2
theorem decode_one (s : ByteArray) (p : Nat) (hp : p < s.size) (ha : (s[p]'hp).toNat < 128) : (Utf8.decode s p).2 = 1 := by rw [decode_ascii s p hp ha]

/-- A rune ends at q, or ahead of it, if q is a text's end, or no later byte of a rune stands there. -/
theorem decode_stop (s : ByteArray) (p q : Nat) (hp : p < s.size) (hq : p < q) (ha : ∀ h : q < s.size, (s[q]'h).toNat < 128) : p + (Utf8.decode s p).2 ≤ q := by
  by_cases h : p + (Utf8.decode s p).2 ≤ q
  · exact h
  · exfalso
    obtain ⟨h1, h2⟩ := decode_cont s p q hp hq (by omega)
    have := ha h1
    omega

/-- A range over a text that stands at p comes to q. -/
inductive Comes (s : ByteArray) : Nat → Nat → Prop
  | here (q : Nat) : Comes s q q
  | on (p q : Nat) : p < q → Comes s (p + (Utf8.decode s p).2) q → Comes s p q

theorem Comes.le {s : ByteArray} {p q : Nat} (h : Comes s p q) : p ≤ q := by
  cases h with
  | here => exact Nat.le_refl _
  | on _ _ h => exact Nat.le_of_lt h
theorem Comes.step {s : ByteArray} {p q : Nat} (h : Comes s p q) (hpq : p < q) : Comes s (p + (Utf8.decode s p).2) q := by
  cases h with
  | here => exact absurd hpq (by omega)
  | on _ _ _ h => exact h
/-- Past ASCII bytes. -/
theorem Comes.ascii (s : ByteArray) (q : Nat) (hq : q ≤ s.size) : ∀ (d p : Nat), p + d = q → (∀ i (h : i < s.size), p ≤ i → i < q → (s[i]'h).toNat < 128) → Comes s p q
  | 0, p, h, _ => by
    obtain rfl : p = q := by omega
    exact .here _
  | d + 1, p, h, ha => by
    refine .on p q (by omega) ?_
    rw [decode_one s p (by omega) (ha p (by omega) (Nat.le_refl _) (by omega))]
    exact Comes.ascii s q hq d (p + 1) (by omega) fun i h h1 h2 => ha i h (by omega) h2
/-- To an ASCII byte, or the end. -/
theorem Comes.stop (s : ByteArray) (q : Nat) (hq : q ≤ s.size) (ha : ∀ h : q < s.size, (s[q]'h).toNat < 128) : ∀ (d p : Nat), q ≤ p + d → p ≤ q → Comes s p q
  | 0, p, h, h2 => by
    obtain rfl : p = q := by omega
    exact .here _
  | d + 1, p, h, h2 => by
    by_cases hpq : p = q
    · subst hpq
      exact .here _
    · have hp : p < s.size := by omega
      have := decode_pos s p hp
      exact .on p q (by omega) (Comes.stop s q hq ha d _ (by omega) (decode_stop s p q hp (by omega) ha))
end Go.Proofs.YtngfbpmabdmkeaaGreatDoor
