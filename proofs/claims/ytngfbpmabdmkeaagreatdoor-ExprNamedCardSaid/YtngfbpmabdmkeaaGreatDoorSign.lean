/- Sign, Op and Rank of any operator, or any text, as the program and the document's answers give them. -/
import Derived.Test.YtngfbpmabdmkeaaGreatDoorProg
import Derived.Test.YtngfbpmabdmkeaaGreatDoorOps
import Derived.WalkKit
import Derived.Lib.Hide
import Derived.WalkLawsBesides
import Derived.WalkSpells
namespace Go.Proofs.YtngfbpmabdmkeaaGreatDoor
open Go Go.RowKit

theorem ret_str {a b : ByteArray} (h : a = b) : Ending.returned (.string a) = .returned (.string b) := by rw [h]
theorem ret_i {a b : Int} (h : a = b) : Ending.returned (.int .i64 a) = .returned (.int .i64 b) := by rw [h]

/-- The table of signs lies as the program's text lays it. -/
structure Table (w : World) : Prop where
  size : 0 < w.heap.size
  sign : ∀ n, n < 19 → w.cell? ⟨0, n * 2, none⟩ = some (.string (sgn n))
  rank : ∀ n, n < 19 → w.cell? ⟨0, n * 2 + 1, none⟩ = some (.int .i64 (rnk n))

theorem Table.below {w w' : World} (T : Table w) (hb : Below w.heap.size w w') : Table w' where
  size := Nat.lt_of_lt_of_le T.size hb.size
  sign n hn := (hb.cell (p := ⟨0, n * 2, none⟩) T.size).trans (T.sign n hn)
  rank n hn := (hb.cell (p := ⟨0, n * 2 + 1, none⟩) T.size).trans (T.rank n hn)

theorem known_t (n : Int) (w : World) (h0 : 0 ≤ n) (h : n ≤ 18) : Calls Tryz.prog 137 #[.int .i64 n] w fun e w' => e = .returned (.bool true) ∧ w = w' := by
  have hd : decide (n ≤ 18) = true := by simpa using h
  go_enter Tryz.func137, Tryz.ntmps137
  go_wp2
  go_ret
  exact ⟨rfl, rfl⟩

theorem known_f (n : Int) (w : World) (h : n < 0 ∨ 18 < n) : Calls Tryz.prog 137 #[.int .i64 n] w fun e w' => e = .returned (.bool false) ∧ w = w' := by
  rcases h with h | h
  · have hd : decide (0 ≤ n) = false := by simp; omega
    go_enter Tryz.func137, Tryz.ntmps137
    go_wp2
    go_ret
    exact ⟨rfl, rfl⟩
  · have hd : decide (n ≤ 18) = false := by simp; omega
    have hd0 : decide (0 ≤ n) = true := by simp; omega
    go_enter Tryz.func137, Tryz.ntmps137
    go_wp2
    go_ret
    exact ⟨rfl, rfl⟩

theorem sign_in (n : Nat) (s : ByteArray) (w : World) (hn : n < 19) (hc : w.cell? ⟨0, n * 2, none⟩ = some (.string s)) : Calls Tryz.prog 126 #[.int .i64 n] w fun e w' => e = .returned (.string s) ∧ w = w' := by
  go_enter Tryz.func126, Tryz.ntmps126
  go_wp2_with (go_at_call 137; refine (known_t _ _ (by omega) (by omega)).mono ?_; rintro e w' ⟨rfl, rfl⟩)
  go_ret
  exact ⟨rfl, rfl⟩

theorem sign_out (n : Int) (w : World) (h : n < 0 ∨ 18 < n) : Calls Tryz.prog 126 #[.int .i64 n] w fun e w' => e = .returned (.string ⟨#[]⟩) ∧ w = w' := by
  have H := Lib.hid h
  clear h
  go_enter Tryz.func126, Tryz.ntmps126
  go_wp2_with (go_at_call 137; refine (known_f _ _ H.out).mono ?_; rintro e w' ⟨rfl, rfl⟩)
  go_ret
  exact ⟨rfl, rfl⟩

/-- calc.Sign, of any number. -/
theorem sign_any (n : Int) (w : World) (T : Table w) : Calls Tryz.prog 126 #[.int .i64 n] w fun e w' => e = .returned (.string (sgnZ n)) ∧ w = w' := by
  by_cases h : 0 ≤ n ∧ n ≤ 18
  · obtain ⟨m, rfl⟩ := Int.eq_ofNat_of_zero_le h.1
    have e1 : sgnZ (m : Int) = sgn m := by unfold sgnZ; rw [if_pos h]; rfl
    rw [e1]
    exact sign_in m _ w (by omega) (T.sign m (by omega))
  · have e1 : sgnZ n = ⟨#[]⟩ := if_neg h
    rw [e1]
    exact sign_out n w (by omega)

theorem rank_in (n : Nat) (s : Int) (w : World) (hn : n < 19) (hc : w.cell? ⟨0, n * 2 + 1, none⟩ = some (.int .i64 s)) : Calls Tryz.prog 106 #[.int .i64 n] w fun e w' => e = .returned (.int .i64 s) ∧ w = w' := by
  go_enter Tryz.func106, Tryz.ntmps106
  go_wp2_with (go_at_call 137; refine (known_t _ _ (by omega) (by omega)).mono ?_; rintro e w' ⟨rfl, rfl⟩)
  go_ret
  exact ⟨rfl, rfl⟩

theorem rank_out (n : Int) (w : World) (h : n < 0 ∨ 18 < n) : Calls Tryz.prog 106 #[.int .i64 n] w fun e w' => e = .returned (.int .i64 0) ∧ w = w' := by
  have H := Lib.hid h
  clear h
  go_enter Tryz.func106, Tryz.ntmps106
  go_wp2_with (go_at_call 137; refine (known_f _ _ H.out).mono ?_; rintro e w' ⟨rfl, rfl⟩)
  go_ret
  exact ⟨rfl, rfl⟩

/-- calc.Rank, of any number. -/
theorem rank_any (n : Int) (w : World) (T : Table w) : Calls Tryz.prog 106 #[.int .i64 n] w fun e w' => e = .returned (.int .i64 (rnkZ n)) ∧ w = w' := by
  by_cases h : 0 ≤ n ∧ n ≤ 18
  · obtain ⟨m, rfl⟩ := Int.eq_ofNat_of_zero_le h.1
    have e1 : rnkZ (m : Int) = rnk m := by unfold rnkZ; rw [if_pos h]; rfl
    rw [e1]
    exact rank_in m _ w (by omega) (T.rank m (by omega))
  · have e1 : rnkZ n = 0 := if_neg h
    rw [e1]
    exact rank_out n w (by omega)

theorem op_none (s : ByteArray) (w : World) (hs : s.toList.isEmpty = true) : Calls Tryz.prog 136 #[.string s] w fun e w' => e = .returned (.int .i64 (-1)) ∧ w = w' := by
  go_enter Tryz.func136, Tryz.ntmps136
  go_wp2
  go_ret
  exact ⟨rfl, rfl⟩

theorem opGo_hit (s : ByteArray) (k : Nat) (hk : k < 19) (h : ((sgn k).toList == s.toList) = true) : opGo s (19 - k) k = k := by
  have e : 19 - k = (19 - (k + 1)) + 1 := by omega
  rw [e, opGo, if_pos h]
theorem opGo_miss (s : ByteArray) (k : Nat) (hk : k < 19) (h : ((sgn k).toList == s.toList) = false) : opGo s (19 - k) k = opGo s (19 - (k + 1)) (k + 1) := by
  have e : 19 - k = (19 - (k + 1)) + 1 := by omega
  rw [e, opGo, if_neg (by simp [h])]
theorem opGo_end (s : ByteArray) (k : Nat) (hk : ¬ k < 19) : opGo s (19 - k) k = -1 := by
  have e : 19 - k = 0 := by omega
  rw [e, opGo]

theorem op_some (s : ByteArray) (w : World) (hs : s.toList.isEmpty = false) (T : Hid (Table w)) : Calls Tryz.prog 136 #[.string s] w fun e w' => e = .returned (.int .i64 (opGo s 19 0)) ∧ w = w' := by
  go_enter Tryz.func136, Tryz.ntmps136
  go_wp2
  go_loop [3, 6] (fun _ i => ∃ k : Nat, k ≤ 19 ∧ i = .int .i64 k ∧ opGo s (19 - k) k = opGo s 19 0) (fun _ i => 19 - (intOf i).toNat)
  case atStart => exact ⟨0, by omega, rfl, rfl⟩
  case round =>
    obtain ⟨k, hk, rfl, hgo⟩ := hrel
    have HG := Lib.hid hgo
    clear hgo
    by_cases hlt : k < 19
    · obtain ⟨sg, hsg⟩ : ∃ sg, sg = sgn k := ⟨_, rfl⟩
      have hcx := T.out.sign k hlt
      rw [← hsg] at hcx
      have HS := Lib.hid hsg
      clear hsg
      by_cases ht : (sg.toList == s.toList) = true
      · go_wp2
        go_ret
        exact ⟨ret_i (by rw [← HG.out, opGo_hit s k hlt (by rw [← HS.out]; exact ht)]), rfl⟩
      · have hf : (sg.toList == s.toList) = false := by simpa using ht
        clear ht
        go_wp2
        go_round
        case rel => exact ⟨k + 1, by omega, by go_num, by rw [← opGo_miss s k hlt (by rw [← HS.out]; exact hf)]; exact HG.out⟩
        case measure => simp [intOf]; omega
    · go_wp2
      go_ret
      exact ⟨ret_i (by rw [← HG.out, opGo_end s k hlt]), rfl⟩

/-- calc.Op, of any text. -/
theorem op_any (s : ByteArray) (w : World) (T : Table w) : Calls Tryz.prog 136 #[.string s] w fun e w' => e = .returned (.int .i64 (opM s)) ∧ w = w' := by
  cases h : s.toList.isEmpty
  · have e1 : opM s = opGo s 19 0 := by unfold opM; rw [h]; rfl
    rw [e1]
    exact op_some s w h (Lib.hid T)
  · have e1 : opM s = -1 := by unfold opM; rw [h]; rfl
    rw [e1]
    exact op_none s w h

end Go.Proofs.YtngfbpmabdmkeaaGreatDoor
