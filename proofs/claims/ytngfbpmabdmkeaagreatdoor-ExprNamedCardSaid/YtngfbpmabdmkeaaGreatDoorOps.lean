/- Signs, ranks and operators, as plain mathematics. -/
import Derived.Laws.Strings
namespace Go.Proofs.YtngfbpmabdmkeaaGreatDoor
open Go

def sgnL : List ByteArray := [⟨#[43]⟩, ⟨#[45]⟩, ⟨#[42]⟩, ⟨#[47]⟩, ⟨#[37]⟩, ⟨#[38]⟩, ⟨#[124]⟩, ⟨#[94]⟩, ⟨#[60, 60]⟩, ⟨#[62, 62]⟩, ⟨#[61, 61]⟩, ⟨#[33, 61]⟩, ⟨#[60]⟩, ⟨#[60, 61]⟩, ⟨#[62]⟩, ⟨#[62, 61]⟩, ⟨#[]⟩, ⟨#[38, 38]⟩, ⟨#[124, 124]⟩]
def sgn (n : Nat) : ByteArray := sgnL.getD n ByteArray.empty
def rnkL : List Int := [9, 9, 10, 10, 10, 5, 3, 4, 8, 8, 6, 6, 7, 7, 7, 7, 0, 2, 1]
def rnk (n : Nat) : Int := rnkL.getD n 0
/-- The sign of any number. -/
def sgnZ (o : Int) : ByteArray := if 0 ≤ o ∧ o ≤ 18 then sgn o.toNat else ⟨#[]⟩
def rnkZ (o : Int) : Int := if 0 ≤ o ∧ o ≤ 18 then rnk o.toNat else 0
/-- The first of so many operators, from k on, whose sign is s. -/
def opGo (s : ByteArray) : Nat → Nat → Int
  | 0, _ => -1
  | f + 1, k => if (sgn k).toList == s.toList then k else opGo s f (k + 1)
def opM (s : ByteArray) : Int := if s.toList.isEmpty then -1 else opGo s 19 0


def keyL : List (List UInt8) := [[112, 117, 98, 108, 105, 99], [115, 101, 99, 114, 101, 116], [105, 110, 116], [98, 111, 111, 108], [98, 121], [108, 111, 99, 107], [102, 117, 110, 99], [114, 101, 116, 117, 114, 110], [116, 104, 114, 101, 97, 100], [118, 97, 114], [105, 102], [101, 108, 115, 101], [119, 104, 105, 108, 101], [111, 117, 116], [116, 114, 117, 101], [102, 97, 108, 115, 101]]
/-- Does a text mean something of its own? -/
def keyB (l : List UInt8) : Bool := keyL.any fun k => k == l

/-- The same over lists of bytes. -/
def sgB (k : Nat) : List UInt8 := (sgn k).data.toList
def opB (t : List UInt8) : Int := opM ⟨t.toArray⟩
theorem opGo_lt (s : ByteArray) : ∀ f k, opGo s f k = -1 ∨ ∃ j, k ≤ j ∧ j < k + f ∧ opGo s f k = (j : Int) ∧ (sgn j).toList = s.toList
  | 0, k => .inl rfl
  | f + 1, k => by
    by_cases h : ((sgn k).toList == s.toList) = true
    · refine .inr ⟨k, Nat.le_refl _, by omega, ?_, by simpa using h⟩
      rw [opGo, if_pos h]
    · rw [opGo, if_neg h]
      rcases opGo_lt s f (k + 1) with h1 | ⟨j, h1, h2, h3, h4⟩
      · exact .inl h1
      · exact .inr ⟨j, by omega, by omega, h3, h4⟩
/-- An operator's sign is what it was found by. -/
theorem opB_some {t : List UInt8} (h : 0 ≤ opB t) : ∃ j : Nat, j < 19 ∧ opB t = (j : Int) ∧ sgB j = t := by
  unfold opB opM at h ⊢
  split at h
  · omega
  · rename_i hn
    rw [if_neg hn]
    rcases opGo_lt ⟨t.toArray⟩ 19 0 with h1 | ⟨j, h1, h2, h3, h4⟩
    · omega
    · refine ⟨j, by omega, h3, ?_⟩
      rw [ByteArray.toList_eq, ByteArray.toList_eq] at h4
      unfold sgB
      rw [h4]
theorem opB_of : ∀ j : Nat, j < 19 → j ≠ 16 → opB (sgB j) = (j : Int)
  | 0, _, _ => by simp [opB, opM, opGo, sgB, sgn, sgnL, ByteArray.toList_eq]
  | 1, _, _ => by simp [opB, opM, opGo, sgB, sgn, sgnL, ByteArray.toList_eq]
  | 2, _, _ => by simp [opB, opM, opGo, sgB, sgn, sgnL, ByteArray.toList_eq]
  | 3, _, _ => by simp [opB, opM, opGo, sgB, sgn, sgnL, ByteArray.toList_eq]
  | 4, _, _ => by simp [opB, opM, opGo, sgB, sgn, sgnL, ByteArray.toList_eq]
  | 5, _, _ => by simp [opB, opM, opGo, sgB, sgn, sgnL, ByteArray.toList_eq]
  | 6, _, _ => by simp [opB, opM, opGo, sgB, sgn, sgnL, ByteArray.toList_eq]
  | 7, _, _ => by simp [opB, opM, opGo, sgB, sgn, sgnL, ByteArray.toList_eq]
  | 8, _, _ => by simp [opB, opM, opGo, sgB, sgn, sgnL, ByteArray.toList_eq]
  | 9, _, _ => by simp [opB, opM, opGo, sgB, sgn, sgnL, ByteArray.toList_eq]
  | 10, _, _ => by simp [opB, opM, opGo, sgB, sgn, sgnL, ByteArray.toList_eq]
  | 11, _, _ => by simp [opB, opM, opGo, sgB, sgn, sgnL, ByteArray.toList_eq]
  | 12, _, _ => by simp [opB, opM, opGo, sgB, sgn, sgnL, ByteArray.toList_eq]
  | 13, _, _ => by simp [opB, opM, opGo, sgB, sgn, sgnL, ByteArray.toList_eq]
  | 14, _, _ => by simp [opB, opM, opGo, sgB, sgn, sgnL, ByteArray.toList_eq]
  | 15, _, _ => by simp [opB, opM, opGo, sgB, sgn, sgnL, ByteArray.toList_eq]
  | 16, _, h => absurd rfl h
  | 17, _, _ => by simp [opB, opM, opGo, sgB, sgn, sgnL, ByteArray.toList_eq]
  | 18, _, _ => by simp [opB, opM, opGo, sgB, sgn, sgnL, ByteArray.toList_eq]
  | k + 19, h, _ => absurd h (by omega)
theorem rnkZ_in {o : Int} (h : 1 ≤ rnkZ o) : 0 ≤ o ∧ o ≤ 18 ∧ o ≠ 16 := by
  unfold rnkZ at h
  split at h
  · rename_i hh
    refine ⟨hh.1, hh.2, fun e => ?_⟩
    subst e
    exact absurd h (by decide)
  · omega
theorem rnkZ_le (o : Int) : 0 ≤ rnkZ o ∧ rnkZ o ≤ 10 := by
  unfold rnkZ
  split
  · rename_i hh
    obtain ⟨n, rfl⟩ := Int.eq_ofNat_of_zero_le hh.1
    have hn : n ≤ 18 := by omega
    show 0 ≤ rnk n ∧ rnk n ≤ 10
    have : ∀ n : Nat, n ≤ 18 → 0 ≤ rnk n ∧ rnk n ≤ 10 := by decide
    exact this n hn
  · omega
/-- What a word with a rank is. -/
theorem op_rank {t : List UInt8} (h : 1 ≤ rnkZ (opB t)) : ∃ j : Nat, j < 19 ∧ j ≠ 16 ∧ opB t = (j : Int) ∧ sgB j = t := by
  have h1 := rnkZ_in h
  obtain ⟨j, h2, h3, h4⟩ := opB_some h1.1
  exact ⟨j, h2, by have := h1.2.2; omega, h3, h4⟩
end Go.Proofs.YtngfbpmabdmkeaaGreatDoor
