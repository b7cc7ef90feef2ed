/- calc.Sign of any number, as the program gives it. -/
import Derived.Test.YtjjjdghkeogljaaDoorProg
import Derived.WalkKit
import Derived.Lib.Hide
import Derived.WalkLawsBesides
import Derived.WalkSpells
namespace Go.Proofs.YtjjjdghkeogljaaDoor
set_option linter.unusedSimpArgs false
set_option linter.unusedVariables false
open Go Go.RowKit

def sgnL : List ByteArray := [⟨#[43]⟩, ⟨#[45]⟩, ⟨#[42]⟩, ⟨#[47]⟩, ⟨#[37]⟩, ⟨#[38]⟩, ⟨#[124]⟩, ⟨#[94]⟩, ⟨#[60, 60]⟩, ⟨#[62, 62]⟩, ⟨#[61, 61]⟩, ⟨#[33, 61]⟩, ⟨#[60]⟩, ⟨#[60, 61]⟩, ⟨#[62]⟩, ⟨#[62, 61]⟩, ⟨#[]⟩, ⟨#[38, 38]⟩, ⟨#[124, 124]⟩]
def sgn (n : Nat) : ByteArray := sgnL.getD n ByteArray.empty
def rnkL : List Int := [9, 9, 10, 10, 10, 5, 3, 4, 8, 8, 6, 6, 7, 7, 7, 7, 0, 2, 1]
def rnk (n : Nat) : Int := rnkL.getD n 0
/-- The sign of any number. -/
def sgnZ (o : Int) : ByteArray := if 0 ≤ o ∧ o ≤ 18 then sgn o.toNat else ⟨#[]⟩
def rnkZ (o : Int) : Int := if 0 ≤ o ∧ o ≤ 18 then rnk o.toNat else 0
/-- The first of so many operators, from k on, whose sign is s. -/
theorem ret_str {a b : ByteArray} (h : a = b) : Ending.returned (.string a) = .returned (.string b) := by rw [h]
theorem ret_i {a b : Int} (h : a = b) : Ending.returned (.int .i64 a) = .returned (.int .i64 b) := by rw [h]

/-- The table of signs lies as the program's text lays it. -/
structure Table (w : World) : Prop where
  size : 1 < w.heap.size
  sign : ∀ n, n < 19 → w.cell? ⟨1, n * 2, none⟩ = some (.string (sgn n))
  rank : ∀ n, n < 19 → w.cell? ⟨1, n * 2 + 1, none⟩ = some (.int .i64 (rnk n))

theorem Table.below {w w' : World} (T : Table w) (hb : Below w.heap.size w w') : Table w' where
  size := Nat.lt_of_lt_of_le T.size hb.size
  sign n hn := (hb.cell (p := ⟨1, n * 2, none⟩) T.size).trans (T.sign n hn)
  rank n hn := (hb.cell (p := ⟨1, n * 2 + 1, none⟩) T.size).trans (T.rank n hn)

theorem known_t (n : Int) (w : World) (h0 : 0 ≤ n) (h : n ≤ 18) : Calls Tryd.prog 59 #[.int .i64 n] w fun e w' => e = .returned (.bool true) ∧ w = w' := by
  have hd : decide (n ≤ 18) = true := by simpa using h
  go_enter Tryd.func59, Tryd.ntmps59
  go_wp2
  go_ret
  exact ⟨rfl, rfl⟩

theorem known_f (n : Int) (w : World) (h : n < 0 ∨ 18 < n) : Calls Tryd.prog 59 #[.int .i64 n] w fun e w' => e = .returned (.bool false) ∧ w = w' := by
  rcases h with h | h
  · have hd : decide (0 ≤ n) = false := by simp; omega
    go_enter Tryd.func59, Tryd.ntmps59
    go_wp2
    go_ret
    exact ⟨rfl, rfl⟩
  · have hd : decide (n ≤ 18) = false := by simp; omega
    have hd0 : decide (0 ≤ n) = true := by simp; omega
    go_enter Tryd.func59, Tryd.ntmps59
    go_wp2
    go_ret
    exact ⟨rfl, rfl⟩

theorem sign_in (n : Nat) (s : ByteArray) (w : World) (hn : n < 19) (hc : w.cell? ⟨1, n * 2, none⟩ = some (.string s)) : Calls Tryd.prog 54 #[.int .i64 n] w fun e w' => e = .returned (.string s) ∧ w = w' := by
  go_enter Tryd.func54, Tryd.ntmps54
  go_wp2_with (go_at_call 59; refine (known_t _ _ (by omega) (by omega)).mono ?_; rintro e w' ⟨rfl, rfl⟩)
  go_ret
  exact ⟨rfl, rfl⟩

theorem sign_out (n : Int) (w : World) (h : n < 0 ∨ 18 < n) : Calls Tryd.prog 54 #[.int .i64 n] w fun e w' => e = .returned (.string ⟨#[]⟩) ∧ w = w' := by
  have H := Lib.hid h
  clear h
  go_enter Tryd.func54, Tryd.ntmps54
  go_wp2_with (go_at_call 59; refine (known_f _ _ H.out).mono ?_; rintro e w' ⟨rfl, rfl⟩)
  go_ret
  exact ⟨rfl, rfl⟩

/-- calc.Sign, of any number. -/
theorem sign_any (n : Int) (w : World) (T : Table w) : Calls Tryd.prog 54 #[.int .i64 n] w fun e w' => e = .returned (.string (sgnZ n)) ∧ w = w' := by
  by_cases h : 0 ≤ n ∧ n ≤ 18
  · obtain ⟨m, rfl⟩ := Int.eq_ofNat_of_zero_le h.1
    have e1 : sgnZ (m : Int) = sgn m := by unfold sgnZ; rw [if_pos h]; rfl
    rw [e1]
    exact sign_in m _ w (by omega) (T.sign m (by omega))
  · have e1 : sgnZ n = ⟨#[]⟩ := if_neg h
    rw [e1]
    exact sign_out n w (by omega)
/- The table of kinds: a name, four parts, and two marks for each of fourteen. -/
def nmL : List ByteArray := [⟨#[115, 101, 116]⟩, ⟨#[109, 111, 118, 101]⟩, ⟨#[99, 97, 108, 99]⟩, ⟨#[112, 105, 99, 107]⟩, ⟨#[108, 111, 97, 100]⟩, ⟨#[115, 116, 111, 114, 101]⟩, ⟨#[106, 117, 109, 112]⟩, ⟨#[122, 101, 114, 111]⟩, ⟨#[102, 101, 110, 99, 101]⟩, ⟨#[116, 97, 107, 101]⟩, ⟨#[103, 105, 118, 101]⟩, ⟨#[111, 117, 116]⟩, ⟨#[116, 114, 97, 112]⟩, ⟨#[104, 97, 108, 116]⟩]
def nam (k : Nat) : ByteArray := nmL.getD k ByteArray.empty
def partsL : List (List Int) := [[1, 6, 0, 0], [1, 2, 0, 0], [1, 2, 5, 4], [1, 2, 4, 0], [1, 7, 3, 0], [7, 4, 3, 0], [10, 0, 0, 0], [2, 10, 0, 0], [0, 0, 0, 0], [8, 0, 0, 0], [8, 0, 0, 0], [2, 0, 0, 0], [9, 0, 0, 0], [0, 0, 0, 0]]
def prt (k j : Nat) : Int := (partsL.getD k []).getD j 0
def kps (k : Nat) : Bool := k == 3
def ens (k : Nat) : Bool := k == 6 || k == 12 || k == 13

/-- It lies as the program's text lays it. -/
structure Kinds (w : World) : Prop where
  size : 0 < w.heap.size
  name : ∀ k, k < 14 → w.cell? ⟨0, k * 7, none⟩ = some (.string (nam k))
  part : ∀ k j, k < 14 → j < 4 → w.cell? ⟨0, k * 7 + 1 + j, none⟩ = some (.int .i64 (prt k j))
  keep : ∀ k, k < 14 → w.cell? ⟨0, k * 7 + 5, none⟩ = some (.bool (kps k))
  ends : ∀ k, k < 14 → w.cell? ⟨0, k * 7 + 6, none⟩ = some (.bool (ens k))

theorem Kinds.below {w w' : World} (T : Kinds w) (hb : Below w.heap.size w w') : Kinds w' where
  size := Nat.lt_of_lt_of_le T.size hb.size
  name k hk := (hb.cell (p := ⟨0, k * 7, none⟩) T.size).trans (T.name k hk)
  part k j hk hj := (hb.cell (p := ⟨0, k * 7 + 1 + j, none⟩) T.size).trans (T.part k j hk hj)
  keep k hk := (hb.cell (p := ⟨0, k * 7 + 5, none⟩) T.size).trans (T.keep k hk)
  ends k hk := (hb.cell (p := ⟨0, k * 7 + 6, none⟩) T.size).trans (T.ends k hk)

end Go.Proofs.YtjjjdghkeogljaaDoor