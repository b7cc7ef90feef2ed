/- Which kinds there are, and whether a kind has a part: ins.known, ins.has. -/
import Derived.Test.YtacgfjcdfgdpjaaDoorProg
import Derived.WalkKit
import Derived.Lib.Hide
import Derived.WalkLawsBesides
import Derived.WalkSpells
import Derived.LoopTactic
namespace Go.Proofs.YtacgfjcdfgdpjaaDoor
set_option linter.unusedSimpArgs false
set_option linter.unusedVariables false
open Go Go.RowKit

theorem ret_str {a b : ByteArray} (h : a = b) : Ending.returned (.string a) = .returned (.string b) := by rw [h]
theorem ret_i {a b : Int} (h : a = b) : Ending.returned (.int .i64 a) = .returned (.int .i64 b) := by rw [h]
def nmL : List ByteArray := [⟨#[115, 101, 116]⟩, ⟨#[109, 111, 118, 101]⟩, ⟨#[99, 97, 108, 99]⟩, ⟨#[112, 105, 99, 107]⟩, ⟨#[108, 111, 97, 100]⟩, ⟨#[115, 116, 111, 114, 101]⟩, ⟨#[106, 117, 109, 112]⟩, ⟨#[122, 101, 114, 111]⟩, ⟨#[102, 101, 110, 99, 101]⟩, ⟨#[116, 97, 107, 101]⟩, ⟨#[103, 105, 118, 101]⟩, ⟨#[111, 117, 116]⟩, ⟨#[116, 114, 97, 112]⟩, ⟨#[104, 97, 108, 116]⟩]
def nam (k : Nat) : ByteArray := nmL.getD k ByteArray.empty
def partsL : List (List Int) := [[1, 6, 0, 0], [1, 2, 0, 0], [1, 2, 5, 4], [1, 2, 4, 0], [1, 7, 3, 0], [7, 4, 3, 0], [10, 0, 0, 0], [2, 10, 0, 0], [0, 0, 0, 0], [8, 0, 0, 0], [8, 0, 0, 0], [2, 0, 0, 0], [9, 0, 0, 0], [0, 0, 0, 0]]
def prt (k j : Nat) : Int := (partsL.getD k []).getD j 0
def kps (k : Nat) : Bool := k == 3
def ens (k : Nat) : Bool := k == 6 || k == 12 || k == 13

/-- It lies as the program's text lays it. -/
structure Kinds (w : World) : Prop where
  size : 0 < w.heap.size
  name : ∀ k, k < 14 → w.cell? ⟨0, k * 7, none⟩ = some (.string (nam k))
  part : ∀ k j, k < 14 → j < 4 → w.cell? ⟨0, k * 7 + 1 + j, none⟩ = some (.int .i64 (prt k j))
  keep : ∀ k, k < 14 → w.cell? ⟨0, k * 7 + 5, none⟩ = some (.bool (kps k))
  ends : ∀ k, k < 14 → w.cell? ⟨0, k * 7 + 6, none⟩ = some (.bool (ens k))

theorem Kinds.below {w w' : World} (T : Kinds w) (hb : Below w.heap.size w w') : Kinds w' where
  size := Nat.lt_of_lt_of_le T.size hb.size
  name k hk := (hb.cell (p := ⟨0, k * 7, none⟩) T.size).trans (T.name k hk)
  part k j hk hj := (hb.cell (p := ⟨0, k * 7 + 1 + j, none⟩) T.size).trans (T.part k j hk hj)
  keep k hk := (hb.cell (p := ⟨0, k * 7 + 5, none⟩) T.size).trans (T.keep k hk)
  ends k hk := (hb.cell (p := ⟨0, k * 7 + 6, none⟩) T.size).trans (T.ends k hk)



theorem ret_bool {a b : Bool} (h : a = b) : Ending.returned (.bool a) = .returned (.bool b) := by rw [h]
theorem kn_t (n : Int) (w : World) (h0 : 0 ≤ n) (h : n ≤ 13) : Calls Tryd.prog 66 #[.int .i64 n] w fun e w' => e = .returned (.bool true) ∧ w = w' := by
  have hd : decide (n ≤ 13) = true := by simpa using h
  go_enter Tryd.func66, Tryd.ntmps66
  go_wp2
  go_ret
  exact ⟨rfl, rfl⟩
theorem kn_f (n : Int) (w : World) (h : n < 0 ∨ 13 < n) : Calls Tryd.prog 66 #[.int .i64 n] w fun e w' => e = .returned (.bool false) ∧ w = w' := by
  rcases h with h | h
  · have hd : decide (0 ≤ n) = false := by simp; omega
    go_enter Tryd.func66, Tryd.ntmps66
    go_wp2
    go_ret
    exact ⟨rfl, rfl⟩
  · have hd : decide (n ≤ 13) = false := by simp; omega
    have hd0 : decide (0 ≤ n) = true := by simp; omega
    go_enter Tryd.func66, Tryd.ntmps66
    go_wp2
    go_ret
    exact ⟨rfl, rfl⟩

/-- A part of four, at a place. -/
theorem idx4_0 (a b c d : Int) (w : World) : (Instr.index 98 (.agg #[.int .i64 a, .int .i64 b, .int .i64 c, .int .i64 d]) (.int .i64 0)).run Tryd.prog w = .ok (.int .i64 a) w := by kernel_rfl
theorem idx4_1 (a b c d : Int) (w : World) : (Instr.index 98 (.agg #[.int .i64 a, .int .i64 b, .int .i64 c, .int .i64 d]) (.int .i64 1)).run Tryd.prog w = .ok (.int .i64 b) w := by kernel_rfl
theorem idx4_2 (a b c d : Int) (w : World) : (Instr.index 98 (.agg #[.int .i64 a, .int .i64 b, .int .i64 c, .int .i64 d]) (.int .i64 2)).run Tryd.prog w = .ok (.int .i64 c) w := by kernel_rfl
theorem idx4_3 (a b c d : Int) (w : World) : (Instr.index 98 (.agg #[.int .i64 a, .int .i64 b, .int .i64 c, .int .i64 d]) (.int .i64 3)).run Tryd.prog w = .ok (.int .i64 d) w := by kernel_rfl
theorem idx4 (p : Nat → Int) (j : Nat) (h : j < 4) (w : World) : (Instr.index 98 (.agg #[.int .i64 (p 0), .int .i64 (p 1), .int .i64 (p 2), .int .i64 (p 3)]) (.int .i64 (j : Int))).run Tryd.prog w = .ok (.int .i64 (p j)) w := by
  have e : j = 0 ∨ j = 1 ∨ j = 2 ∨ j = 3 := by omega
  rcases e with rfl | rfl | rfl | rfl
  · exact idx4_0 _ _ _ _ w
  · exact idx4_1 _ _ _ _ w
  · exact idx4_2 _ _ _ _ w
  · exact idx4_3 _ _ _ _ w

def hasB (k : Nat) (p : Int) : Bool := (List.range 4).any fun i => prt k i == p
theorem hasB_hit {k j : Nat} {p : Int} (hj : j < 4) (h : prt k j = p) : hasB k p = true := List.any_eq_true.2 ⟨j, List.mem_range.2 hj, by simpa using h⟩
theorem hasB_miss {k : Nat} {p : Int} (h : ∀ i, i < 4 → prt k i ≠ p) : hasB k p = false := by
  unfold hasB
  rw [List.any_eq_false]
  intro i hi
  simpa using h i (List.mem_range.1 hi)

theorem has_any (k : Nat) (p : Int) (w : World) (hk : k < 14) (T : Hid (Kinds w)) : Calls Tryd.prog 67 #[.int .i64 k, .int .i64 p] w fun e w' => e = .returned (.bool (hasB k p)) ∧ w = w' := by
  have c0 := T.out.part k 0 hk (by omega)
  have c1 := T.out.part k 1 hk (by omega)
  have c2 := T.out.part k 2 hk (by omega)
  have c3 := T.out.part k 3 hk (by omega)
  have hk0 : (0 : Int) ≤ k := by omega
  have hk1 : (k : Int) < 14 := by omega
  go_enter Tryd.func67, Tryd.ntmps67
  go_wp2
  go_loop [11] (fun i => ∃ j : Nat, i = .int .i64 j ∧ j ≤ 4 ∧ Hid (∀ i, i < j → prt k i ≠ p)) (fun i => 4 - (intOf i).toNat)
  case atStart => exact ⟨0, rfl, by omega, Lib.hid (fun i h => absurd h (by omega))⟩
  case round =>
    obtain ⟨j, rfl, hj, HN⟩ := hrel
    clear c0 c1 c2 c3
    by_cases hlt : j < 4
    · have hi := idx4 (prt k) j hlt
      obtain ⟨v, hv⟩ : ∃ v, prt k j = v := ⟨_, rfl⟩
      rw [hv] at hi
      have HV := Lib.hid hv
      clear hv
      by_cases hq : v = p
      · have hb : (v == p) = true := by simpa using hq
        have HR := Lib.hid (hasB_hit hlt (HV.out.trans hq))
        clear hq
        go_wp2
        go_ret
        exact ⟨ret_bool HR.out.symm, rfl⟩
      · have hb : (v == p) = false := by simpa using hq
        have HN2 : Hid (∀ i, i < j + 1 → prt k i ≠ p) := Lib.hid (fun i hi => by
          by_cases e : i = j
          · subst e
            rw [HV.out]
            exact hq
          · exact HN.out i (by omega))
        clear hq
        go_wp2
        go_round
        case rel => exact ⟨j + 1, by go_num, by omega, HN2⟩
        case measure => simp [intOf]; omega
    · obtain rfl : j = 4 := by omega
      have HR := Lib.hid (hasB_miss HN.out)
      go_wp2
      go_ret
      exact ⟨ret_bool HR.out.symm, rfl⟩
end Go.Proofs.YtacgfjcdfgdpjaaDoor
