/- lex's small functions on one rune: blank, letter, digit; the document's Letter and Digit of a byte. -/
import Derived.Test.YtngfbpmabdmkeaaGreatDoorProg
import Derived.Test.YtngfbpmabdmkeaaGreatDoorTok
import Derived.WalkKit
import Derived.Lib.Hide
import Derived.WalkLawsBesides
import Derived.WalkSpells
namespace Go.Proofs.YtngfbpmabdmkeaaGreatDoor
open Go Go.RowKit

def blankR (r : Int) : Bool := decide (r = 32 ∨ r = 9 ∨ r = 10 ∨ r = 13)
def letterR (r : Int) : Bool := decide ((65 ≤ r ∧ r ≤ 90) ∨ (97 ≤ r ∧ r ≤ 122) ∨ r = 95)
def digitR (r : Int) : Bool := decide (48 ≤ r ∧ r ≤ 57)

theorem ret_bool {a b : Bool} (h : a = b) : Ending.returned (.bool a) = .returned (.bool b) := by rw [h]

theorem blank_any (r : Int) (w : World) : Calls Tryz.prog 82 #[.int .i32 r] w fun e w' => e = .returned (.bool (blankR r)) ∧ w = w' := by
  go_enter Tryz.func82, Tryz.ntmps82
  go_wp2
  all_goals
    go_ret
    exact ⟨ret_bool (by rw [Bool.eq_iff_iff]; simp [blankR] <;> omega), rfl⟩

theorem letter_any (r : Int) (w : World) : Calls Tryz.prog 85 #[.int .i32 r] w fun e w' => e = .returned (.bool (letterR r)) ∧ w = w' := by
  go_enter Tryz.func85, Tryz.ntmps85
  go_wp2
  all_goals
    go_ret
    exact ⟨ret_bool (by rw [Bool.eq_iff_iff]; simp [letterR] <;> omega), rfl⟩

theorem digit_any (r : Int) (w : World) : Calls Tryz.prog 88 #[.int .i32 r] w fun e w' => e = .returned (.bool (digitR r)) ∧ w = w' := by
  go_enter Tryz.func88, Tryz.ntmps88
  go_wp2
  all_goals
    go_ret
    exact ⟨ret_bool (by rw [Bool.eq_iff_iff]; simp [digitR] <;> omega), rfl⟩

theorem rletter_any (r : Int) (w : World) : Calls Tryz.prog 31 #[.int .u8 r] w fun e w' => e = .returned (.bool (letterR r)) ∧ w = w' := by
  go_enter Tryz.func31, Tryz.ntmps31
  go_wp2
  all_goals
    go_ret
    exact ⟨ret_bool (by rw [Bool.eq_iff_iff]; simp [letterR] <;> omega), rfl⟩

theorem rdigit_any (r : Int) (w : World) : Calls Tryz.prog 32 #[.int .u8 r] w fun e w' => e = .returned (.bool (digitR r)) ∧ w = w' := by
  go_enter Tryz.func32, Tryz.ntmps32
  go_wp2
  all_goals
    go_ret
    exact ⟨ret_bool (by rw [Bool.eq_iff_iff]; simp [digitR] <;> omega), rfl⟩

/-- A rune stands for a byte: it is the byte, or both are past ASCII. -/
def Rn (r : Int) (c : UInt8) : Prop := (c.toNat < 128 ∧ r = c.toNat) ∨ (128 ≤ c.toNat ∧ 128 ≤ r)
theorem Rn.self {c : UInt8} (h : c.toNat < 128) : Rn c.toNat c := Or.inl ⟨h, rfl⟩
theorem Rn.blank {r : Int} {c : UInt8} (h : Rn r c) : blankR r = isBlank c := by
  have e : isBlank c = decide (c.toNat = 32 ∨ c.toNat = 9 ∨ c.toNat = 10 ∨ c.toNat = 13) := by
    rw [Bool.eq_iff_iff]
    simp [isBlank, ← UInt8.toNat_inj]
    omega
  rw [e, Bool.eq_iff_iff]
  simp only [blankR, decide_eq_true_eq]
  rcases h with ⟨h1, rfl⟩ | ⟨h1, h2⟩ <;> omega
theorem Rn.letter {r : Int} {c : UInt8} (h : Rn r c) : letterR r = isLetter c := by
  rw [Bool.eq_iff_iff]
  simp only [letterR, isLetter, decide_eq_true_eq, Bool.or_eq_true, Bool.and_eq_true]
  rcases h with ⟨h1, rfl⟩ | ⟨h1, h2⟩ <;> omega
theorem Rn.digit {r : Int} {c : UInt8} (h : Rn r c) : digitR r = isDigit c := by
  rw [Bool.eq_iff_iff]
  simp only [digitR, isDigit, decide_eq_true_eq, Bool.and_eq_true]
  rcases h with ⟨h1, rfl⟩ | ⟨h1, h2⟩ <;> omega
theorem letterR_byte (c : UInt8) : letterR c.toNat = isLetter c := by
  rw [Bool.eq_iff_iff]
  simp only [letterR, isLetter, decide_eq_true_eq, Bool.or_eq_true, Bool.and_eq_true]
  omega
theorem digitR_byte (c : UInt8) : digitR c.toNat = isDigit c := by
  rw [Bool.eq_iff_iff]
  simp only [digitR, isDigit, decide_eq_true_eq, Bool.and_eq_true]
  omega
theorem Rn.nl {r : Int} {c : UInt8} (h : Rn r c) : (r == 10) = (c == 10) := by
  rw [Bool.eq_iff_iff]
  simp only [beq_iff_eq, ← UInt8.toNat_inj]
  rcases h with ⟨h1, rfl⟩ | ⟨h1, h2⟩
  · show (c.toNat : Int) = 10 ↔ c.toNat = 10
    omega
  · show r = 10 ↔ c.toNat = 10
    omega
end Go.Proofs.YtngfbpmabdmkeaaGreatDoor
