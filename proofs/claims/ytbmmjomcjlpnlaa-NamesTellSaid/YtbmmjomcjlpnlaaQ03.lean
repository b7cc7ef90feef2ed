/- Joined texts: Rsign: lemmas for the law; each says its own conditions. -/
import Derived.Test.YtbmmjomcjlpnlaaQ01
set_option linter.unusedSimpArgs false
set_option linter.unusedVariables false
set_option maxRecDepth 100000
set_option maxHeartbeats 8000000
open Go.Lib (hid)
namespace Go.Proofs.Ytbmmjomcjlpnlaa
open Go Go.RowKit
theorem rsign_0 (w : World) : Calls Try.prog 80 #[.int .i64 0] w fun e w' => e = .returned (.string ⟨#[43]⟩) ∧ Below w.heap.size w w':=by
 go_enter Try.func80,Try.ntmps80
 go_wp2
 go_ret
 exact ⟨rfl,(Below.refl _ _).alloc (Nat.le_refl _) _⟩
theorem rsign_1 (w : World) : Calls Try.prog 80 #[.int .i64 1] w fun e w' => e = .returned (.string ⟨#[45]⟩) ∧ Below w.heap.size w w':=by
 go_enter Try.func80,Try.ntmps80
 go_wp2
 go_ret
 exact ⟨rfl,(Below.refl _ _).alloc (Nat.le_refl _) _⟩
theorem rsign_2 (w : World) : Calls Try.prog 80 #[.int .i64 2] w fun e w' => e = .returned (.string ⟨#[42]⟩) ∧ Below w.heap.size w w':=by
 go_enter Try.func80,Try.ntmps80
 go_wp2
 go_ret
 exact ⟨rfl,(Below.refl _ _).alloc (Nat.le_refl _) _⟩
theorem rsign_3 (w : World) : Calls Try.prog 80 #[.int .i64 3] w fun e w' => e = .returned (.string ⟨#[47]⟩) ∧ Below w.heap.size w w':=by
 go_enter Try.func80,Try.ntmps80
 go_wp2
 go_ret
 exact ⟨rfl,(Below.refl _ _).alloc (Nat.le_refl _) _⟩
theorem rsign_4 (w : World) : Calls Try.prog 80 #[.int .i64 4] w fun e w' => e = .returned (.string ⟨#[37]⟩) ∧ Below w.heap.size w w':=by
 go_enter Try.func80,Try.ntmps80
 go_wp2
 go_ret
 exact ⟨rfl,(Below.refl _ _).alloc (Nat.le_refl _) _⟩
theorem rsign_5 (w : World) : Calls Try.prog 80 #[.int .i64 5] w fun e w' => e = .returned (.string ⟨#[38]⟩) ∧ Below w.heap.size w w':=by
 go_enter Try.func80,Try.ntmps80
 go_wp2
 go_ret
 exact ⟨rfl,(Below.refl _ _).alloc (Nat.le_refl _) _⟩
theorem rsign_6 (w : World) : Calls Try.prog 80 #[.int .i64 6] w fun e w' => e = .returned (.string ⟨#[124]⟩) ∧ Below w.heap.size w w':=by
 go_enter Try.func80,Try.ntmps80
 go_wp2
 go_ret
 exact ⟨rfl,(Below.refl _ _).alloc (Nat.le_refl _) _⟩
theorem rsign_7 (w : World) : Calls Try.prog 80 #[.int .i64 7] w fun e w' => e = .returned (.string ⟨#[94]⟩) ∧ Below w.heap.size w w':=by
 go_enter Try.func80,Try.ntmps80
 go_wp2
 go_ret
 exact ⟨rfl,(Below.refl _ _).alloc (Nat.le_refl _) _⟩
theorem rsign_8 (w : World) : Calls Try.prog 80 #[.int .i64 8] w fun e w' => e = .returned (.string ⟨#[60,60]⟩) ∧ Below w.heap.size w w':=by
 go_enter Try.func80,Try.ntmps80
 go_wp2
 go_ret
 exact ⟨rfl,(Below.refl _ _).alloc (Nat.le_refl _) _⟩
theorem rsign_9 (w : World) : Calls Try.prog 80 #[.int .i64 9] w fun e w' => e = .returned (.string ⟨#[62,62]⟩) ∧ Below w.heap.size w w':=by
 go_enter Try.func80,Try.ntmps80
 go_wp2
 go_ret
 exact ⟨rfl,(Below.refl _ _).alloc (Nat.le_refl _) _⟩
theorem rsign_10 (w : World) : Calls Try.prog 80 #[.int .i64 10] w fun e w' => e = .returned (.string ⟨#[61,61]⟩) ∧ Below w.heap.size w w':=by
 go_enter Try.func80,Try.ntmps80
 go_wp2
 go_ret
 exact ⟨rfl,(Below.refl _ _).alloc (Nat.le_refl _) _⟩
theorem rsign_11 (w : World) : Calls Try.prog 80 #[.int .i64 11] w fun e w' => e = .returned (.string ⟨#[33,61]⟩) ∧ Below w.heap.size w w':=by
 go_enter Try.func80,Try.ntmps80
 go_wp2
 go_ret
 exact ⟨rfl,(Below.refl _ _).alloc (Nat.le_refl _) _⟩
theorem rsign_12 (w : World) : Calls Try.prog 80 #[.int .i64 12] w fun e w' => e = .returned (.string ⟨#[60]⟩) ∧ Below w.heap.size w w':=by
 go_enter Try.func80,Try.ntmps80
 go_wp2
 go_ret
 exact ⟨rfl,(Below.refl _ _).alloc (Nat.le_refl _) _⟩
theorem rsign_13 (w : World) : Calls Try.prog 80 #[.int .i64 13] w fun e w' => e = .returned (.string ⟨#[60,61]⟩) ∧ Below w.heap.size w w':=by
 go_enter Try.func80,Try.ntmps80
 go_wp2
 go_ret
 exact ⟨rfl,(Below.refl _ _).alloc (Nat.le_refl _) _⟩
theorem rsign_14 (w : World) : Calls Try.prog 80 #[.int .i64 14] w fun e w' => e = .returned (.string ⟨#[62]⟩) ∧ Below w.heap.size w w':=by
 go_enter Try.func80,Try.ntmps80
 go_wp2
 go_ret
 exact ⟨rfl,(Below.refl _ _).alloc (Nat.le_refl _) _⟩
theorem rsign_15 (w : World) : Calls Try.prog 80 #[.int .i64 15] w fun e w' => e = .returned (.string ⟨#[62,61]⟩) ∧ Below w.heap.size w w':=by
 go_enter Try.func80,Try.ntmps80
 go_wp2
 go_ret
 exact ⟨rfl,(Below.refl _ _).alloc (Nat.le_refl _) _⟩
theorem rsign_16 (w : World) : Calls Try.prog 80 #[.int .i64 16] w fun e w' => e = .returned (.string ⟨#[]⟩) ∧ Below w.heap.size w w':=by
 go_enter Try.func80,Try.ntmps80
 go_wp2
 go_ret
 exact ⟨rfl,(Below.refl _ _).alloc (Nat.le_refl _) _⟩
theorem rsign_17 (w : World) : Calls Try.prog 80 #[.int .i64 17] w fun e w' => e = .returned (.string ⟨#[38,38]⟩) ∧ Below w.heap.size w w':=by
 go_enter Try.func80,Try.ntmps80
 go_wp2
 go_ret
 exact ⟨rfl,(Below.refl _ _).alloc (Nat.le_refl _) _⟩
theorem rsign_18 (w : World) : Calls Try.prog 80 #[.int .i64 18] w fun e w' => e = .returned (.string ⟨#[124,124]⟩) ∧ Below w.heap.size w w':=by
 go_enter Try.func80,Try.ntmps80
 go_wp2
 go_ret
 exact ⟨rfl,(Below.refl _ _).alloc (Nat.le_refl _) _⟩
theorem rsign_in (n : Nat) (w : World) (hn : n < 19) : Calls Try.prog 80 #[.int .i64 n] w fun e w' => e = .returned (.string (sgn n)) ∧ Below w.heap.size w w':=by
 have h : n = 0 ∨ n = 1 ∨ n = 2 ∨ n = 3 ∨ n = 4 ∨ n = 5 ∨ n = 6 ∨ n = 7 ∨ n = 8 ∨ n = 9 ∨ n = 10 ∨ n = 11 ∨ n = 12 ∨ n = 13 ∨ n = 14 ∨ n = 15 ∨ n = 16 ∨ n = 17 ∨ n = 18:=by omega
 rcases h with rfl | rfl | rfl | rfl | rfl | rfl | rfl | rfl | rfl | rfl | rfl | rfl | rfl | rfl | rfl | rfl | rfl | rfl | rfl
 · exact rsign_0 w
 · exact rsign_1 w
 · exact rsign_2 w
 · exact rsign_3 w
 · exact rsign_4 w
 · exact rsign_5 w
 · exact rsign_6 w
 · exact rsign_7 w
 · exact rsign_8 w
 · exact rsign_9 w
 · exact rsign_10 w
 · exact rsign_11 w
 · exact rsign_12 w
 · exact rsign_13 w
 · exact rsign_14 w
 · exact rsign_15 w
 · exact rsign_16 w
 · exact rsign_17 w
 · exact rsign_18 w
theorem rrank_0 (w : World) : Calls Try.prog 77 #[.int .i64 0] w fun e w' => e = .returned (.int .i64 9) ∧ Below w.heap.size w w':=by
 go_enter Try.func77,Try.ntmps77
 go_wp2
 go_ret
 exact ⟨rfl,(Below.refl _ _).alloc (Nat.le_refl _) _⟩
theorem rrank_1 (w : World) : Calls Try.prog 77 #[.int .i64 1] w fun e w' => e = .returned (.int .i64 9) ∧ Below w.heap.size w w':=by
 go_enter Try.func77,Try.ntmps77
 go_wp2
 go_ret
 exact ⟨rfl,(Below.refl _ _).alloc (Nat.le_refl _) _⟩
theorem rrank_2 (w : World) : Calls Try.prog 77 #[.int .i64 2] w fun e w' => e = .returned (.int .i64 10) ∧ Below w.heap.size w w':=by
 go_enter Try.func77,Try.ntmps77
 go_wp2
 go_ret
 exact ⟨rfl,(Below.refl _ _).alloc (Nat.le_refl _) _⟩
theorem rrank_3 (w : World) : Calls Try.prog 77 #[.int .i64 3] w fun e w' => e = .returned (.int .i64 10) ∧ Below w.heap.size w w':=by
 go_enter Try.func77,Try.ntmps77
 go_wp2
 go_ret
 exact ⟨rfl,(Below.refl _ _).alloc (Nat.le_refl _) _⟩
theorem rrank_4 (w : World) : Calls Try.prog 77 #[.int .i64 4] w fun e w' => e = .returned (.int .i64 10) ∧ Below w.heap.size w w':=by
 go_enter Try.func77,Try.ntmps77
 go_wp2
 go_ret
 exact ⟨rfl,(Below.refl _ _).alloc (Nat.le_refl _) _⟩
theorem rrank_5 (w : World) : Calls Try.prog 77 #[.int .i64 5] w fun e w' => e = .returned (.int .i64 5) ∧ Below w.heap.size w w':=by
 go_enter Try.func77,Try.ntmps77
 go_wp2
 go_ret
 exact ⟨rfl,(Below.refl _ _).alloc (Nat.le_refl _) _⟩
theorem rrank_6 (w : World) : Calls Try.prog 77 #[.int .i64 6] w fun e w' => e = .returned (.int .i64 3) ∧ Below w.heap.size w w':=by
 go_enter Try.func77,Try.ntmps77
 go_wp2
 go_ret
 exact ⟨rfl,(Below.refl _ _).alloc (Nat.le_refl _) _⟩
theorem rrank_7 (w : World) : Calls Try.prog 77 #[.int .i64 7] w fun e w' => e = .returned (.int .i64 4) ∧ Below w.heap.size w w':=by
 go_enter Try.func77,Try.ntmps77
 go_wp2
 go_ret
 exact ⟨rfl,(Below.refl _ _).alloc (Nat.le_refl _) _⟩
theorem rrank_8 (w : World) : Calls Try.prog 77 #[.int .i64 8] w fun e w' => e = .returned (.int .i64 8) ∧ Below w.heap.size w w':=by
 go_enter Try.func77,Try.ntmps77
 go_wp2
 go_ret
 exact ⟨rfl,(Below.refl _ _).alloc (Nat.le_refl _) _⟩
theorem rrank_9 (w : World) : Calls Try.prog 77 #[.int .i64 9] w fun e w' => e = .returned (.int .i64 8) ∧ Below w.heap.size w w':=by
 go_enter Try.func77,Try.ntmps77
 go_wp2
 go_ret
 exact ⟨rfl,(Below.refl _ _).alloc (Nat.le_refl _) _⟩
theorem rrank_10 (w : World) : Calls Try.prog 77 #[.int .i64 10] w fun e w' => e = .returned (.int .i64 6) ∧ Below w.heap.size w w':=by
 go_enter Try.func77,Try.ntmps77
 go_wp2
 go_ret
 exact ⟨rfl,(Below.refl _ _).alloc (Nat.le_refl _) _⟩
theorem rrank_11 (w : World) : Calls Try.prog 77 #[.int .i64 11] w fun e w' => e = .returned (.int .i64 6) ∧ Below w.heap.size w w':=by
 go_enter Try.func77,Try.ntmps77
 go_wp2
 go_ret
 exact ⟨rfl,(Below.refl _ _).alloc (Nat.le_refl _) _⟩
theorem rrank_12 (w : World) : Calls Try.prog 77 #[.int .i64 12] w fun e w' => e = .returned (.int .i64 7) ∧ Below w.heap.size w w':=by
 go_enter Try.func77,Try.ntmps77
 go_wp2
 go_ret
 exact ⟨rfl,(Below.refl _ _).alloc (Nat.le_refl _) _⟩
theorem rrank_13 (w : World) : Calls Try.prog 77 #[.int .i64 13] w fun e w' => e = .returned (.int .i64 7) ∧ Below w.heap.size w w':=by
 go_enter Try.func77,Try.ntmps77
 go_wp2
 go_ret
 exact ⟨rfl,(Below.refl _ _).alloc (Nat.le_refl _) _⟩
theorem rrank_14 (w : World) : Calls Try.prog 77 #[.int .i64 14] w fun e w' => e = .returned (.int .i64 7) ∧ Below w.heap.size w w':=by
 go_enter Try.func77,Try.ntmps77
 go_wp2
 go_ret
 exact ⟨rfl,(Below.refl _ _).alloc (Nat.le_refl _) _⟩
theorem rrank_15 (w : World) : Calls Try.prog 77 #[.int .i64 15] w fun e w' => e = .returned (.int .i64 7) ∧ Below w.heap.size w w':=by
 go_enter Try.func77,Try.ntmps77
 go_wp2
 go_ret
 exact ⟨rfl,(Below.refl _ _).alloc (Nat.le_refl _) _⟩
theorem rrank_16 (w : World) : Calls Try.prog 77 #[.int .i64 16] w fun e w' => e = .returned (.int .i64 0) ∧ Below w.heap.size w w':=by
 go_enter Try.func77,Try.ntmps77
 go_wp2
 go_ret
 exact ⟨rfl,(Below.refl _ _).alloc (Nat.le_refl _) _⟩
theorem rrank_17 (w : World) : Calls Try.prog 77 #[.int .i64 17] w fun e w' => e = .returned (.int .i64 2) ∧ Below w.heap.size w w':=by
 go_enter Try.func77,Try.ntmps77
 go_wp2
 go_ret
 exact ⟨rfl,(Below.refl _ _).alloc (Nat.le_refl _) _⟩
theorem rrank_18 (w : World) : Calls Try.prog 77 #[.int .i64 18] w fun e w' => e = .returned (.int .i64 1) ∧ Below w.heap.size w w':=by
 go_enter Try.func77,Try.ntmps77
 go_wp2
 go_ret
 exact ⟨rfl,(Below.refl _ _).alloc (Nat.le_refl _) _⟩
theorem rrank_out (n : Int) (w : World) (h : n < 0 ∨ 18 < n) : Calls Try.prog 77 #[.int .i64 n] w fun e w' => e = .returned (.int .i64 0) ∧ Below w.heap.size w w':=by
 rcases h with h | h
 · have hd : decide (n < 0) = true:=by simpa using h
   go_enter Try.func77,Try.ntmps77
   go_wp2
   go_ret
   exact ⟨rfl,(Below.refl _ _).alloc (Nat.le_refl _) _⟩
 · have hd : decide (n < 0) = false:=by simp;omega
   have hd2 : decide (19 ≤ n) = true:=by simp;omega
   go_enter Try.func77,Try.ntmps77
   go_wp2
   go_ret
   exact ⟨rfl,(Below.refl _ _).alloc (Nat.le_refl _) _⟩
theorem rrank_in (n : Nat) (w : World) (hn : n < 19) : Calls Try.prog 77 #[.int .i64 n] w fun e w' => e = .returned (.int .i64 (rnk n)) ∧ Below w.heap.size w w':=by
 have h : n = 0 ∨ n = 1 ∨ n = 2 ∨ n = 3 ∨ n = 4 ∨ n = 5 ∨ n = 6 ∨ n = 7 ∨ n = 8 ∨ n = 9 ∨ n = 10 ∨ n = 11 ∨ n = 12 ∨ n = 13 ∨ n = 14 ∨ n = 15 ∨ n = 16 ∨ n = 17 ∨ n = 18:=by omega
 rcases h with rfl | rfl | rfl | rfl | rfl | rfl | rfl | rfl | rfl | rfl | rfl | rfl | rfl | rfl | rfl | rfl | rfl | rfl | rfl
 · exact rrank_0 w
 · exact rrank_1 w
 · exact rrank_2 w
 · exact rrank_3 w
 · exact rrank_4 w
 · exact rrank_5 w
 · exact rrank_6 w
 · exact rrank_7 w
 · exact rrank_8 w
 · exact rrank_9 w
 · exact rrank_10 w
 · exact rrank_11 w
 · exact rrank_12 w
 · exact rrank_13 w
 · exact rrank_14 w
 · exact rrank_15 w
 · exact rrank_16 w
 · exact rrank_17 w
 · exact rrank_18 w
theorem rrank_any (n : Int) (w : World) : Calls Try.prog 77 #[.int .i64 n] w fun e w' => e = .returned (.int .i64 (rnkZ n)) ∧ Below w.heap.size w w':=by
 by_cases h : 0 ≤ n ∧ n ≤ 18
 · obtain ⟨m,rfl⟩:=Int.eq_ofNat_of_zero_le h.1
   have e1 : rnkZ (m : Int) = rnk m:=by unfold rnkZ;rw [if_pos h];rfl
   rw [e1]
   exact rrank_in m w (by omega)
 · have e1 : rnkZ n = 0:=if_neg h
   rw [e1]
   exact rrank_out n w (by omega)
theorem rop_none (s : ByteArray) (w : World) (hs : s.toList.isEmpty = true) : Calls Try.prog 76 #[.string s] w fun e w' => e = .returned (.int .i64 (-1)) ∧ w = w':=by
 have hs2 : (!s.toList.isEmpty) = false:=by simp [hs]
 go_enter Try.func76,Try.ntmps76
 go_wp2
 go_loop [3] (fun i => ∃ k : Nat,k ≤ 19 ∧ i = .int .i64 k) (fun i => 19 - (intOf i).toNat)
 case atStart => exact ⟨0,by omega,rfl⟩
 case round =>
  obtain ⟨k,hk,rfl⟩:=hrel
  by_cases hlt : k < 19
  · go_wp2
    go_round
    case rel => exact ⟨k + 1,by omega,by go_num⟩
    case measure => simp [intOf];omega
  · go_wp2
    go_ret
    exact ⟨rfl,rfl⟩
theorem rop_some (s : ByteArray) (w : World) (hs : s.toList.isEmpty = false) : Calls Try.prog 76 #[.string s] w fun e w' => e = .returned (.int .i64 (opGo s 19 0)) ∧ Below w.heap.size w w':=by
 have hs2 : (!s.toList.isEmpty) = true:=by simp [hs]
 go_enter Try.func76,Try.ntmps76
 go_wp2
 go_loopw [3] (fun i wr => ∃ k : Nat,k ≤ 19 ∧ i = .int .i64 k ∧ opGo s (19 - k) k = opGo s 19 0 ∧ Below w.heap.size w wr) (fun i _ => 19 - (intOf i).toNat)
 case atStart => exact ⟨0,by omega,rfl,rfl,Below.refl _ _⟩
 case round =>
  obtain ⟨k,hk,rfl,hgo,hB⟩:=hrel
  have HG:=hid hgo
  clear hgo
  by_cases hlt : k < 19
  · obtain ⟨sg,hsg⟩ : ∃ sg,sg = sgn k:=⟨_,rfl⟩
    have HS:=hid hsg
    have hcall : ∀ W : World,Calls Try.prog 80 #[.int .i64 k] W fun e w' => e = .returned (.string sg) ∧ Below W.heap.size W w':=by rw [hsg];exact fun W => rsign_in k W hlt
    have HC:=hid hcall
    clear hsg hcall
    by_cases ht : (sg.toList == s.toList) = true
    · go_wp2_with (go_at_call 80;refine (HC.out _).mono ?_;rintro e w1 ⟨rfl,hb1⟩;have hB1:=hB.trans (hb1.mono hB.size);clear hb1)
      go_ret
      exact ⟨ret_i (by rw [← HG.out,opGo_hit s k hlt (by rw [← HS.out];exact ht)]),hB1⟩
    · have hf : (sg.toList == s.toList) = false:=by simpa using ht
      clear ht
      go_wp2_with (go_at_call 80;refine (HC.out _).mono ?_;rintro e w1 ⟨rfl,hb1⟩;have hB1:=hB.trans (hb1.mono hB.size);clear hb1)
      go_roundw
      case rel => exact ⟨k + 1,by omega,by go_num,by rw [← opGo_miss s k hlt (by rw [← HS.out];exact hf)];exact HG.out,hB1⟩
      case measure => simp [intOf];omega
  · go_wp2
    go_ret
    exact ⟨ret_i (by rw [← HG.out,opGo_end s k hlt]),hB⟩
theorem rop_any (s : ByteArray) (w : World) : Calls Try.prog 76 #[.string s] w fun e w' => e = .returned (.int .i64 (opM s)) ∧ Below w.heap.size w w':=by
 cases h : s.toList.isEmpty
 · have e1 : opM s = opGo s 19 0:=by unfold opM;rw [h];rfl
   rw [e1]
   exact rop_some s w h
 · have e1 : opM s = -1:=by unfold opM;rw [h];rfl
   rw [e1]
   exact (rop_none s w h).mono fun e w' ⟨he,hw⟩ => ⟨he,hw ▸ Below.refl _ _⟩
end Go.Proofs.Ytbmmjomcjlpnlaa
