/- Whether a part may be what it is, and an instruction without a part: ins.fits and ins.without, each part. -/
import Derived.Test.YtjjjdghkeogljaaDoorIblk
namespace Go.Proofs.YtjjjdghkeogljaaDoor
set_option linter.unusedSimpArgs false
set_option linter.unusedVariables false
open Go Go.RowKit

theorem below2 (w : World) (o p : Obj) : Below w.heap.size w ((w.alloc o).alloc p) := ((Below.refl _ _).alloc (Nat.le_refl _) _).alloc (by simp) _
theorem below1 (w : World) (o : Obj) : Below w.heap.size w (w.alloc o) := (Below.refl _ _).alloc (Nat.le_refl _) _

/-- Whether what stands in a part's field may. -/
def fitsB (x : Ic) (p regs locks many : Int) : Bool :=
  if p = 1 then decide (0 ≤ x.d) && decide (x.d < regs)
  else if p = 2 then decide (0 ≤ x.a) && decide (x.a < regs)
  else if p = 3 then (x.a == -1) || (decide (0 ≤ x.a) && decide (x.a < regs))
  else if p = 4 then decide (0 ≤ x.b) && decide (x.b < regs)
  else if p = 5 then decide (0 ≤ x.o) && decide (x.o ≤ 18)
  else if p = 7 then decide (0 ≤ x.n) && decide (x.n ≤ 65535)
  else if p = 8 then decide (0 ≤ x.n) && decide (x.n < locks)
  else if p = 9 then (x.n == 1) || (x.n == 2)
  else if p = 10 then decide (0 ≤ x.t) && decide (x.t < many)
  else true
/-- An instruction with 0 in a part's field. -/
def outP (x : Ic) (p : Int) : Ic :=
  if p = 1 then { x with d := 0 } else if p = 2 then { x with a := 0 } else if p = 3 then { x with a := 0 } else if p = 4 then { x with b := 0 } else if p = 5 then { x with o := 0 }
  else if p = 6 then { x with n := 0 } else if p = 7 then { x with n := 0 } else if p = 8 then { x with n := 0 } else if p = 9 then { x with n := 0 } else if p = 10 then { x with t := 0 } else x
theorem fits_0 (k o d a b n t : Int) (regs locks many : Int) (w : World) : Calls Tryd.prog 45 #[.agg #[.int .i64 k, .int .i64 o, .int .i64 d, .int .i64 a, .int .i64 b, .int .i64 n, .int .i64 t], .int .i64 0, .agg #[.int .i64 regs, .int .i64 locks], .int .i64 many] w fun e w' => e = .returned (.bool (true)) ∧ Below w.heap.size w w' := by
  go_enter Tryd.func45, Tryd.ntmps45
  go_wp2
  go_ret
  exact ⟨rfl, below2 _ _ _⟩
theorem fits_1 (k o d a b n t : Int) (regs locks many : Int) (w : World) : Calls Tryd.prog 45 #[.agg #[.int .i64 k, .int .i64 o, .int .i64 d, .int .i64 a, .int .i64 b, .int .i64 n, .int .i64 t], .int .i64 1, .agg #[.int .i64 regs, .int .i64 locks], .int .i64 many] w fun e w' => e = .returned (.bool (decide (0 ≤ d) && decide (d < regs))) ∧ Below w.heap.size w w' := by
  cases h0 : decide (0 ≤ d)
  · simp only [Bool.false_and]
    go_enter Tryd.func45, Tryd.ntmps45
    go_wp2
    go_ret
    exact ⟨rfl, below2 _ _ _⟩
  · cases h1 : decide (d < regs)
    · simp only [Bool.and_false]
      go_enter Tryd.func45, Tryd.ntmps45
      go_wp2
      go_ret
      exact ⟨rfl, below2 _ _ _⟩
    · simp only [Bool.and_true]
      go_enter Tryd.func45, Tryd.ntmps45
      go_wp2
      go_ret
      exact ⟨rfl, below2 _ _ _⟩
theorem fits_2 (k o d a b n t : Int) (regs locks many : Int) (w : World) : Calls Tryd.prog 45 #[.agg #[.int .i64 k, .int .i64 o, .int .i64 d, .int .i64 a, .int .i64 b, .int .i64 n, .int .i64 t], .int .i64 2, .agg #[.int .i64 regs, .int .i64 locks], .int .i64 many] w fun e w' => e = .returned (.bool (decide (0 ≤ a) && decide (a < regs))) ∧ Below w.heap.size w w' := by
  cases h0 : decide (0 ≤ a)
  · simp only [Bool.false_and]
    go_enter Tryd.func45, Tryd.ntmps45
    go_wp2
    go_ret
    exact ⟨rfl, below2 _ _ _⟩
  · cases h1 : decide (a < regs)
    · simp only [Bool.and_false]
      go_enter Tryd.func45, Tryd.ntmps45
      go_wp2
      go_ret
      exact ⟨rfl, below2 _ _ _⟩
    · simp only [Bool.and_true]
      go_enter Tryd.func45, Tryd.ntmps45
      go_wp2
      go_ret
      exact ⟨rfl, below2 _ _ _⟩
theorem fits_3 (k o d a b n t : Int) (regs locks many : Int) (w : World) : Calls Tryd.prog 45 #[.agg #[.int .i64 k, .int .i64 o, .int .i64 d, .int .i64 a, .int .i64 b, .int .i64 n, .int .i64 t], .int .i64 3, .agg #[.int .i64 regs, .int .i64 locks], .int .i64 many] w fun e w' => e = .returned (.bool ((a == -1) || (decide (0 ≤ a) && decide (a < regs)))) ∧ Below w.heap.size w w' := by
  cases hq : (a == -1)
  · simp only [Bool.false_or]
    cases h0 : decide (0 ≤ a)
    · simp only [Bool.false_and]
      go_enter Tryd.func45, Tryd.ntmps45
      go_wp2
      go_ret
      exact ⟨rfl, below2 _ _ _⟩
    · cases h1 : decide (a < regs)
      · simp only [Bool.and_false]
        go_enter Tryd.func45, Tryd.ntmps45
        go_wp2
        go_ret
        exact ⟨rfl, below2 _ _ _⟩
      · simp only [Bool.and_true]
        go_enter Tryd.func45, Tryd.ntmps45
        go_wp2
        go_ret
        exact ⟨rfl, below2 _ _ _⟩
  · simp only [Bool.true_or]
    go_enter Tryd.func45, Tryd.ntmps45
    go_wp2
    go_ret
    exact ⟨rfl, below2 _ _ _⟩
theorem fits_4 (k o d a b n t : Int) (regs locks many : Int) (w : World) : Calls Tryd.prog 45 #[.agg #[.int .i64 k, .int .i64 o, .int .i64 d, .int .i64 a, .int .i64 b, .int .i64 n, .int .i64 t], .int .i64 4, .agg #[.int .i64 regs, .int .i64 locks], .int .i64 many] w fun e w' => e = .returned (.bool (decide (0 ≤ b) && decide (b < regs))) ∧ Below w.heap.size w w' := by
  cases h0 : decide (0 ≤ b)
  · simp only [Bool.false_and]
    go_enter Tryd.func45, Tryd.ntmps45
    go_wp2
    go_ret
    exact ⟨rfl, below2 _ _ _⟩
  · cases h1 : decide (b < regs)
    · simp only [Bool.and_false]
      go_enter Tryd.func45, Tryd.ntmps45
      go_wp2
      go_ret
      exact ⟨rfl, below2 _ _ _⟩
    · simp only [Bool.and_true]
      go_enter Tryd.func45, Tryd.ntmps45
      go_wp2
      go_ret
      exact ⟨rfl, below2 _ _ _⟩
theorem fits_5 (k o d a b n t : Int) (regs locks many : Int) (w : World) : Calls Tryd.prog 45 #[.agg #[.int .i64 k, .int .i64 o, .int .i64 d, .int .i64 a, .int .i64 b, .int .i64 n, .int .i64 t], .int .i64 5, .agg #[.int .i64 regs, .int .i64 locks], .int .i64 many] w fun e w' => e = .returned (.bool (decide (0 ≤ o) && decide (o ≤ 18))) ∧ Below w.heap.size w w' := by
  cases h0 : decide (0 ≤ o)
  · simp only [Bool.false_and]
    go_enter Tryd.func45, Tryd.ntmps45
    go_wp2
    go_ret
    exact ⟨rfl, below2 _ _ _⟩
  · cases h1 : decide (o ≤ 18)
    · simp only [Bool.and_false]
      go_enter Tryd.func45, Tryd.ntmps45
      go_wp2
      go_ret
      exact ⟨rfl, below2 _ _ _⟩
    · simp only [Bool.and_true]
      go_enter Tryd.func45, Tryd.ntmps45
      go_wp2
      go_ret
      exact ⟨rfl, below2 _ _ _⟩
theorem fits_6 (k o d a b n t : Int) (regs locks many : Int) (w : World) : Calls Tryd.prog 45 #[.agg #[.int .i64 k, .int .i64 o, .int .i64 d, .int .i64 a, .int .i64 b, .int .i64 n, .int .i64 t], .int .i64 6, .agg #[.int .i64 regs, .int .i64 locks], .int .i64 many] w fun e w' => e = .returned (.bool (true)) ∧ Below w.heap.size w w' := by
  go_enter Tryd.func45, Tryd.ntmps45
  go_wp2
  go_ret
  exact ⟨rfl, below2 _ _ _⟩
theorem fits_7 (k o d a b n t : Int) (regs locks many : Int) (w : World) : Calls Tryd.prog 45 #[.agg #[.int .i64 k, .int .i64 o, .int .i64 d, .int .i64 a, .int .i64 b, .int .i64 n, .int .i64 t], .int .i64 7, .agg #[.int .i64 regs, .int .i64 locks], .int .i64 many] w fun e w' => e = .returned (.bool (decide (0 ≤ n) && decide (n ≤ 65535))) ∧ Below w.heap.size w w' := by
  cases h0 : decide (0 ≤ n)
  · simp only [Bool.false_and]
    go_enter Tryd.func45, Tryd.ntmps45
    go_wp2
    go_ret
    exact ⟨rfl, below2 _ _ _⟩
  · cases h1 : decide (n ≤ 65535)
    · simp only [Bool.and_false]
      go_enter Tryd.func45, Tryd.ntmps45
      go_wp2
      go_ret
      exact ⟨rfl, below2 _ _ _⟩
    · simp only [Bool.and_true]
      go_enter Tryd.func45, Tryd.ntmps45
      go_wp2
      go_ret
      exact ⟨rfl, below2 _ _ _⟩
theorem fits_8 (k o d a b n t : Int) (regs locks many : Int) (w : World) : Calls Tryd.prog 45 #[.agg #[.int .i64 k, .int .i64 o, .int .i64 d, .int .i64 a, .int .i64 b, .int .i64 n, .int .i64 t], .int .i64 8, .agg #[.int .i64 regs, .int .i64 locks], .int .i64 many] w fun e w' => e = .returned (.bool (decide (0 ≤ n) && decide (n < locks))) ∧ Below w.heap.size w w' := by
  cases h0 : decide (0 ≤ n)
  · simp only [Bool.false_and]
    go_enter Tryd.func45, Tryd.ntmps45
    go_wp2
    go_ret
    exact ⟨rfl, below2 _ _ _⟩
  · cases h1 : decide (n < locks)
    · simp only [Bool.and_false]
      go_enter Tryd.func45, Tryd.ntmps45
      go_wp2
      go_ret
      exact ⟨rfl, below2 _ _ _⟩
    · simp only [Bool.and_true]
      go_enter Tryd.func45, Tryd.ntmps45
      go_wp2
      go_ret
      exact ⟨rfl, below2 _ _ _⟩
theorem fits_9 (k o d a b n t : Int) (regs locks many : Int) (w : World) : Calls Tryd.prog 45 #[.agg #[.int .i64 k, .int .i64 o, .int .i64 d, .int .i64 a, .int .i64 b, .int .i64 n, .int .i64 t], .int .i64 9, .agg #[.int .i64 regs, .int .i64 locks], .int .i64 many] w fun e w' => e = .returned (.bool ((n == 1) || (n == 2))) ∧ Below w.heap.size w w' := by
  cases hq : (n == 1)
  · simp only [Bool.false_or]
    cases h0 : (n == 2)
    · go_enter Tryd.func45, Tryd.ntmps45
      go_wp2
      go_ret
      exact ⟨rfl, below2 _ _ _⟩
    · go_enter Tryd.func45, Tryd.ntmps45
      go_wp2
      go_ret
      exact ⟨rfl, below2 _ _ _⟩
  · simp only [Bool.true_or]
    go_enter Tryd.func45, Tryd.ntmps45
    go_wp2
    go_ret
    exact ⟨rfl, below2 _ _ _⟩
theorem fits_10 (k o d a b n t : Int) (regs locks many : Int) (w : World) : Calls Tryd.prog 45 #[.agg #[.int .i64 k, .int .i64 o, .int .i64 d, .int .i64 a, .int .i64 b, .int .i64 n, .int .i64 t], .int .i64 10, .agg #[.int .i64 regs, .int .i64 locks], .int .i64 many] w fun e w' => e = .returned (.bool (decide (0 ≤ t) && decide (t < many))) ∧ Below w.heap.size w w' := by
  cases h0 : decide (0 ≤ t)
  · simp only [Bool.false_and]
    go_enter Tryd.func45, Tryd.ntmps45
    go_wp2
    go_ret
    exact ⟨rfl, below2 _ _ _⟩
  · cases h1 : decide (t < many)
    · simp only [Bool.and_false]
      go_enter Tryd.func45, Tryd.ntmps45
      go_wp2
      go_ret
      exact ⟨rfl, below2 _ _ _⟩
    · simp only [Bool.and_true]
      go_enter Tryd.func45, Tryd.ntmps45
      go_wp2
      go_ret
      exact ⟨rfl, below2 _ _ _⟩

theorem part_cases {p : Int} (h0 : 0 ≤ p) (h1 : p ≤ 10) : p = 0 ∨ p = 1 ∨ p = 2 ∨ p = 3 ∨ p = 4 ∨ p = 5 ∨ p = 6 ∨ p = 7 ∨ p = 8 ∨ p = 9 ∨ p = 10 := by omega
theorem fits_any (x : Ic) (p regs locks many : Int) (w : World) (h0 : 0 ≤ p) (h1 : p ≤ 10) : Calls Tryd.prog 45 #[.agg #[.int .i64 x.k, .int .i64 x.o, .int .i64 x.d, .int .i64 x.a, .int .i64 x.b, .int .i64 x.n, .int .i64 x.t], .int .i64 p, .agg #[.int .i64 regs, .int .i64 locks], .int .i64 many] w fun e w' => e = .returned (.bool (fitsB x p regs locks many)) ∧ Below w.heap.size w w' := by
  rcases part_cases h0 h1 with rfl | rfl | rfl | rfl | rfl | rfl | rfl | rfl | rfl | rfl | rfl
  · exact fits_0 _ _ _ _ _ _ _ _ _ _ _
  · exact fits_1 _ _ _ _ _ _ _ _ _ _ _
  · exact fits_2 _ _ _ _ _ _ _ _ _ _ _
  · exact fits_3 _ _ _ _ _ _ _ _ _ _ _
  · exact fits_4 _ _ _ _ _ _ _ _ _ _ _
  · exact fits_5 _ _ _ _ _ _ _ _ _ _ _
  · exact fits_6 _ _ _ _ _ _ _ _ _ _ _
  · exact fits_7 _ _ _ _ _ _ _ _ _ _ _
  · exact fits_8 _ _ _ _ _ _ _ _ _ _ _
  · exact fits_9 _ _ _ _ _ _ _ _ _ _ _
  · exact fits_10 _ _ _ _ _ _ _ _ _ _ _
theorem out_0 (k o d a b n t : Int) (w : World) : Calls Tryd.prog 46 #[.agg #[.int .i64 k, .int .i64 o, .int .i64 d, .int .i64 a, .int .i64 b, .int .i64 n, .int .i64 t], .int .i64 0] w fun e w' => e = .returned (.agg #[.int .i64 k, .int .i64 o, .int .i64 d, .int .i64 a, .int .i64 b, .int .i64 n, .int .i64 t]) ∧ Below w.heap.size w w' := by
  go_enter Tryd.func46, Tryd.ntmps46
  go_wp2
  exact bodyPost_ret (v := .agg #[.int .i64 k, .int .i64 o, .int .i64 d, .int .i64 a, .int .i64 b, .int .i64 n, .int .i64 t]) (by simp [results, Tryd.results46, go_sem]) rfl ⟨rfl, below2 _ _ _⟩
theorem out_1 (k o d a b n t : Int) (w : World) : Calls Tryd.prog 46 #[.agg #[.int .i64 k, .int .i64 o, .int .i64 d, .int .i64 a, .int .i64 b, .int .i64 n, .int .i64 t], .int .i64 1] w fun e w' => e = .returned (.agg #[.int .i64 k, .int .i64 o, .int .i64 0, .int .i64 a, .int .i64 b, .int .i64 n, .int .i64 t]) ∧ Below w.heap.size w w' := by
  go_enter Tryd.func46, Tryd.ntmps46
  go_wp2
  exact bodyPost_ret (v := .agg #[.int .i64 k, .int .i64 o, .int .i64 0, .int .i64 a, .int .i64 b, .int .i64 n, .int .i64 t]) (by simp [results, Tryd.results46, go_sem]) rfl ⟨rfl, below2 _ _ _⟩
theorem out_2 (k o d a b n t : Int) (w : World) : Calls Tryd.prog 46 #[.agg #[.int .i64 k, .int .i64 o, .int .i64 d, .int .i64 a, .int .i64 b, .int .i64 n, .int .i64 t], .int .i64 2] w fun e w' => e = .returned (.agg #[.int .i64 k, .int .i64 o, .int .i64 d, .int .i64 0, .int .i64 b, .int .i64 n, .int .i64 t]) ∧ Below w.heap.size w w' := by
  go_enter Tryd.func46, Tryd.ntmps46
  go_wp2
  exact bodyPost_ret (v := .agg #[.int .i64 k, .int .i64 o, .int .i64 d, .int .i64 0, .int .i64 b, .int .i64 n, .int .i64 t]) (by simp [results, Tryd.results46, go_sem]) rfl ⟨rfl, below2 _ _ _⟩
theorem out_3 (k o d a b n t : Int) (w : World) : Calls Tryd.prog 46 #[.agg #[.int .i64 k, .int .i64 o, .int .i64 d, .int .i64 a, .int .i64 b, .int .i64 n, .int .i64 t], .int .i64 3] w fun e w' => e = .returned (.agg #[.int .i64 k, .int .i64 o, .int .i64 d, .int .i64 0, .int .i64 b, .int .i64 n, .int .i64 t]) ∧ Below w.heap.size w w' := by
  go_enter Tryd.func46, Tryd.ntmps46
  go_wp2
  exact bodyPost_ret (v := .agg #[.int .i64 k, .int .i64 o, .int .i64 d, .int .i64 0, .int .i64 b, .int .i64 n, .int .i64 t]) (by simp [results, Tryd.results46, go_sem]) rfl ⟨rfl, below2 _ _ _⟩
theorem out_4 (k o d a b n t : Int) (w : World) : Calls Tryd.prog 46 #[.agg #[.int .i64 k, .int .i64 o, .int .i64 d, .int .i64 a, .int .i64 b, .int .i64 n, .int .i64 t], .int .i64 4] w fun e w' => e = .returned (.agg #[.int .i64 k, .int .i64 o, .int .i64 d, .int .i64 a, .int .i64 0, .int .i64 n, .int .i64 t]) ∧ Below w.heap.size w w' := by
  go_enter Tryd.func46, Tryd.ntmps46
  go_wp2
  exact bodyPost_ret (v := .agg #[.int .i64 k, .int .i64 o, .int .i64 d, .int .i64 a, .int .i64 0, .int .i64 n, .int .i64 t]) (by simp [results, Tryd.results46, go_sem]) rfl ⟨rfl, below2 _ _ _⟩
theorem out_5 (k o d a b n t : Int) (w : World) : Calls Tryd.prog 46 #[.agg #[.int .i64 k, .int .i64 o, .int .i64 d, .int .i64 a, .int .i64 b, .int .i64 n, .int .i64 t], .int .i64 5] w fun e w' => e = .returned (.agg #[.int .i64 k, .int .i64 0, .int .i64 d, .int .i64 a, .int .i64 b, .int .i64 n, .int .i64 t]) ∧ Below w.heap.size w w' := by
  go_enter Tryd.func46, Tryd.ntmps46
  go_wp2
  exact bodyPost_ret (v := .agg #[.int .i64 k, .int .i64 0, .int .i64 d, .int .i64 a, .int .i64 b, .int .i64 n, .int .i64 t]) (by simp [results, Tryd.results46, go_sem]) rfl ⟨rfl, below2 _ _ _⟩
theorem out_6 (k o d a b n t : Int) (w : World) : Calls Tryd.prog 46 #[.agg #[.int .i64 k, .int .i64 o, .int .i64 d, .int .i64 a, .int .i64 b, .int .i64 n, .int .i64 t], .int .i64 6] w fun e w' => e = .returned (.agg #[.int .i64 k, .int .i64 o, .int .i64 d, .int .i64 a, .int .i64 b, .int .i64 0, .int .i64 t]) ∧ Below w.heap.size w w' := by
  go_enter Tryd.func46, Tryd.ntmps46
  go_wp2
  exact bodyPost_ret (v := .agg #[.int .i64 k, .int .i64 o, .int .i64 d, .int .i64 a, .int .i64 b, .int .i64 0, .int .i64 t]) (by simp [results, Tryd.results46, go_sem]) rfl ⟨rfl, below2 _ _ _⟩
theorem out_7 (k o d a b n t : Int) (w : World) : Calls Tryd.prog 46 #[.agg #[.int .i64 k, .int .i64 o, .int .i64 d, .int .i64 a, .int .i64 b, .int .i64 n, .int .i64 t], .int .i64 7] w fun e w' => e = .returned (.agg #[.int .i64 k, .int .i64 o, .int .i64 d, .int .i64 a, .int .i64 b, .int .i64 0, .int .i64 t]) ∧ Below w.heap.size w w' := by
  go_enter Tryd.func46, Tryd.ntmps46
  go_wp2
  exact bodyPost_ret (v := .agg #[.int .i64 k, .int .i64 o, .int .i64 d, .int .i64 a, .int .i64 b, .int .i64 0, .int .i64 t]) (by simp [results, Tryd.results46, go_sem]) rfl ⟨rfl, below2 _ _ _⟩
theorem out_8 (k o d a b n t : Int) (w : World) : Calls Tryd.prog 46 #[.agg #[.int .i64 k, .int .i64 o, .int .i64 d, .int .i64 a, .int .i64 b, .int .i64 n, .int .i64 t], .int .i64 8] w fun e w' => e = .returned (.agg #[.int .i64 k, .int .i64 o, .int .i64 d, .int .i64 a, .int .i64 b, .int .i64 0, .int .i64 t]) ∧ Below w.heap.size w w' := by
  go_enter Tryd.func46, Tryd.ntmps46
  go_wp2
  exact bodyPost_ret (v := .agg #[.int .i64 k, .int .i64 o, .int .i64 d, .int .i64 a, .int .i64 b, .int .i64 0, .int .i64 t]) (by simp [results, Tryd.results46, go_sem]) rfl ⟨rfl, below2 _ _ _⟩
theorem out_9 (k o d a b n t : Int) (w : World) : Calls Tryd.prog 46 #[.agg #[.int .i64 k, .int .i64 o, .int .i64 d, .int .i64 a, .int .i64 b, .int .i64 n, .int .i64 t], .int .i64 9] w fun e w' => e = .returned (.agg #[.int .i64 k, .int .i64 o, .int .i64 d, .int .i64 a, .int .i64 b, .int .i64 0, .int .i64 t]) ∧ Below w.heap.size w w' := by
  go_enter Tryd.func46, Tryd.ntmps46
  go_wp2
  exact bodyPost_ret (v := .agg #[.int .i64 k, .int .i64 o, .int .i64 d, .int .i64 a, .int .i64 b, .int .i64 0, .int .i64 t]) (by simp [results, Tryd.results46, go_sem]) rfl ⟨rfl, below2 _ _ _⟩
theorem out_10 (k o d a b n t : Int) (w : World) : Calls Tryd.prog 46 #[.agg #[.int .i64 k, .int .i64 o, .int .i64 d, .int .i64 a, .int .i64 b, .int .i64 n, .int .i64 t], .int .i64 10] w fun e w' => e = .returned (.agg #[.int .i64 k, .int .i64 o, .int .i64 d, .int .i64 a, .int .i64 b, .int .i64 n, .int .i64 0]) ∧ Below w.heap.size w w' := by
  go_enter Tryd.func46, Tryd.ntmps46
  go_wp2
  exact bodyPost_ret (v := .agg #[.int .i64 k, .int .i64 o, .int .i64 d, .int .i64 a, .int .i64 b, .int .i64 n, .int .i64 0]) (by simp [results, Tryd.results46, go_sem]) rfl ⟨rfl, below2 _ _ _⟩
theorem out_any (x : Ic) (p : Int) (w : World) (h0 : 0 ≤ p) (h1 : p ≤ 10) : Calls Tryd.prog 46 #[.agg #[.int .i64 x.k, .int .i64 x.o, .int .i64 x.d, .int .i64 x.a, .int .i64 x.b, .int .i64 x.n, .int .i64 x.t], .int .i64 p] w fun e w' => e = .returned (.agg #[.int .i64 (outP x p).k, .int .i64 (outP x p).o, .int .i64 (outP x p).d, .int .i64 (outP x p).a, .int .i64 (outP x p).b, .int .i64 (outP x p).n, .int .i64 (outP x p).t]) ∧ Below w.heap.size w w' := by
  rcases part_cases h0 h1 with rfl | rfl | rfl | rfl | rfl | rfl | rfl | rfl | rfl | rfl | rfl
  · exact out_0 _ _ _ _ _ _ _ _
  · exact out_1 _ _ _ _ _ _ _ _
  · exact out_2 _ _ _ _ _ _ _ _
  · exact out_3 _ _ _ _ _ _ _ _
  · exact out_4 _ _ _ _ _ _ _ _
  · exact out_5 _ _ _ _ _ _ _ _
  · exact out_6 _ _ _ _ _ _ _ _
  · exact out_7 _ _ _ _ _ _ _ _
  · exact out_8 _ _ _ _ _ _ _ _
  · exact out_9 _ _ _ _ _ _ _ _
  · exact out_10 _ _ _ _ _ _ _ _
end Go.Proofs.YtjjjdghkeogljaaDoor
