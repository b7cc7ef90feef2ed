/- The document's In and sign: whether a text has a byte, and the longest sign that it begins with. -/
import Derived.Test.YtngfbpmabdmkeaaGreatDoorWords
import Derived.Test.YtngfbpmabdmkeaaGreatDoorRnumB
import Derived.Deep.QuietTactic
import Derived.BigQuiet
namespace Go.Proofs.YtngfbpmabdmkeaaGreatDoor
open Go Go.RowKit

/-- Has a text a byte? -/
def hasB (l : List UInt8) (c : UInt8) : Bool := l.contains c

theorem in_any (s : ByteArray) (c : UInt8) (w : World) (hm : s.size ≤ 9223372036854775807) : Calls Tryz.prog 30 #[.string s, .int .u8 c.toNat] w fun e w' => e = .returned (.bool (hasB s.data.toList c)) ∧ w = w' := by
  go_enter Tryz.func30, Tryz.ntmps30
  go_wp2
  go_loop [5] (fun i => ∃ k : Nat, i = .int .i64 k ∧ k ≤ s.size ∧ Hid (∀ j (h : j < s.size), j < k → (s[j]'h) ≠ c)) (fun i => s.size - (intOf i).toNat)
  case atStart => exact ⟨0, rfl, Nat.zero_le _, Lib.hid (fun j _ h => absurd h (by omega))⟩
  case round =>
    obtain ⟨k, rfl, hk, HN⟩ := hrel
    by_cases hlt : k < s.size
    · by_cases hc : (s[k]'hlt) = c
      · have hb : (((s[k]'hlt).toNat : Int) == (c.toNat : Int)) = true := by rw [hc]; simp
        have HR : Hid (hasB s.data.toList c = true) := Lib.hid (by unfold hasB; rw [List.contains_iff_mem]; exact List.mem_of_getElem? (i := k) (by rw [at_list s k hlt, hc]))
        clear hc
        go_wp2
        go_ret
        exact ⟨ret_bool (by rw [HR.out]), rfl⟩
      · have hb : (((s[k]'hlt).toNat : Int) == (c.toNat : Int)) = false := by
          rw [beq_eq_false_iff_ne]
          intro h
          exact hc (UInt8.toNat_inj.1 (by omega))
        have HN2 : Hid (∀ j (h : j < s.size), j < k + 1 → (s[j]'h) ≠ c) := Lib.hid (fun j h hj => by
          by_cases e : j = k
          · subst e
            exact hc
          · exact HN.out j h (by omega))
        clear hc
        go_wp2
        go_round
        case rel => exact ⟨k + 1, by go_num, by omega, HN2⟩
        case measure => simp [intOf]; omega
    · have HR : Hid (hasB s.data.toList c = false) := Lib.hid (by
        unfold hasB
        rw [Bool.eq_false_iff]
        intro h
        rw [List.contains_iff_mem] at h
        obtain ⟨j, hj, e⟩ := List.getElem_of_mem h
        have hj2 : j < s.size := hj
        exact HN.out j hj2 (by omega) e)
      go_wp2
      go_ret
      exact ⟨ret_bool (by rw [HR.out]), rfl⟩

def pairB (k : Nat) : ByteArray := ⟨(pairL.getD k []).toArray⟩
def pairsC : Array Value := #[.string ⟨#[38, 38]⟩, .string ⟨#[124, 124]⟩, .string ⟨#[61, 61]⟩, .string ⟨#[33, 61]⟩, .string ⟨#[60, 61]⟩, .string ⟨#[62, 61]⟩, .string ⟨#[60, 60]⟩, .string ⟨#[62, 62]⟩]
theorem pairs_at (k : Nat) (h : k < 8) : pairsC[k]? = some (.string (pairB k)) := by
  match k, h with
  | 0, _ => rfl
  | 1, _ => rfl
  | 2, _ => rfl
  | 3, _ => rfl
  | 4, _ => rfl
  | 5, _ => rfl
  | 6, _ => rfl
  | 7, _ => rfl

theorem in_is {s : ByteArray} {c : UInt8} {b : Bool} (h : hasB s.data.toList c = b) (hm : s.size ≤ 9223372036854775807) (w : World) : Calls Tryz.prog 30 #[.string s, .int .u8 c.toNat] w fun e w' => e = .returned (.bool b) ∧ w = w' := h ▸ in_any s c w hm

def Unlike (s : ByteArray) (k : Nat) : Prop := ∀ j, j < k → ((s.extract 0 2).toList == (pairB j).toList) = false
theorem Unlike.get {s : ByteArray} {k : Nat} (h : Unlike s k) (j : Nat) (hj : j < k) : ((s.extract 0 2).toList == pairL.getD j []) = false := by
  have e := h j hj
  rw [show (pairB j).toList = pairL.getD j [] from ByteArray.toList_eq _] at e
  exact e
theorem Unlike.step {s : ByteArray} {k : Nat} (h : Unlike s k) (h2 : ((s.extract 0 2).toList == (pairB k).toList) = false) : Unlike s (k + 1) := by
  intro j hj
  by_cases e : j = k
  · subst e
    exact h2
  · exact h j (by omega)

theorem pairs_in (k : Nat) (h : k < 8) : pairL.contains (pairB k).toList = true := by
  rw [ByteArray.toList_eq]
  match k, h with
  | 0, _ => rfl
  | 1, _ => rfl
  | 2, _ => rfl
  | 3, _ => rfl
  | 4, _ => rfl
  | 5, _ => rfl
  | 6, _ => rfl
  | 7, _ => rfl
theorem ext_zero (s : ByteArray) : s.extract 0 0 = ⟨#[]⟩ := by rw [Lib.extract_eq]; rfl

set_option maxRecDepth 100000 in
theorem rsign_long (s : ByteArray) (w : World) (h2 : 1 < s.size) (hm : s.size ≤ 9223372036854775807) : Calls Tryz.prog 34 #[.string s] w fun e w' => e = .returned (.string (s.extract 0 (sgnLen s.data.toList))) ∧ Below w.heap.size w w' := by
  go_enter Tryz.func34, Tryz.ntmps34
  go_wp2
  go_loopw [4] (fun i wr => ∃ k n : Nat, i = .int .i64 k ∧ k ≤ 8 ∧ wr = (w.alloc (.cells pairsC 9)).drewN n ∧ Hid (Unlike s k)) (fun i _ => 8 - (intOf i).toNat)
  case atStart => exact ⟨0, 0, rfl, by omega, rfl, Lib.hid (fun j h => absurd h (by omega))⟩
  case round =>
    obtain ⟨k, n, rfl, hk, rfl, HU⟩ := hrel
    by_cases hlt : k < 8
    · obtain ⟨P, hP⟩ : ∃ P, P = pairB k := ⟨_, rfl⟩
      have hcell : (w.alloc (.cells pairsC 9)).cell? ⟨w.heap.size, k, none⟩ = some (.string P) := by
        rw [hP, ← pairs_at k hlt]
        exact cell_of_row _ _ k pairsC 9 (0, 0) (heap_alloc_new w _)
      have HP := Lib.hid hP
      clear hP
      cases he : ((s.extract 0 2).toList == P.toList)
      · have hz1 : (1 : Int) < s.size := by omega
        have hk2 : (k : Int) < 8 := by omega
        have hk0 : (0 : Int) ≤ k := by omega
        go_wp2
        go_quiet (fail)
        go_wp2
        go_roundw
        case rel => exact ⟨k + 1, _, by go_num, by omega, rfl, Lib.hid (HU.out.step (by rw [← HP.out]; exact he))⟩
        case measure => simp [intOf]; omega
      · have HR := Lib.hid (sgn_pair s h2 P.toList (by rw [HP.out]; exact pairs_in k hlt) he)
        have HE := Lib.hid (eq_of_lists he)
        have hz1 : (1 : Int) < s.size := by omega
        have hk2 : (k : Int) < 8 := by omega
        have hk0 : (0 : Int) ≤ k := by omega
        go_wp2
        go_quiet (fail)
        go_wp2
        go_ret
        exact ⟨ret_str (by rw [HR.out, HE.out]), below_drewN ((Below.refl _ _).alloc (Nat.le_refl _) _) _⟩
    · obtain rfl : k = 8 := by omega
      have HS := Lib.hid (sgn_single s h2 (HU.out.get 0 (by omega)) (HU.out.get 1 (by omega)) (HU.out.get 2 (by omega)) (HU.out.get 3 (by omega)) (HU.out.get 4 (by omega)) (HU.out.get 5 (by omega)) (HU.out.get 6 (by omega)) (HU.out.get 7 (by omega)))
      cases hc : hasB oneL (s[0]'(by omega))
      · have HC := Lib.hid hc
        have HR : Hid (sgnLen s.data.toList = 0) := Lib.hid (by rw [HS.out, if_neg (by unfold hasB at hc; rw [hc]; decide)])
        clear hc
        go_wp2_with (go_at_call 30; refine (in_is (s := ⟨#[43, 45, 42, 47, 37, 38, 124, 94, 60, 62, 33, 61, 40, 41, 91, 93, 123, 125, 59, 44]⟩) HC.out (by decide) _).mono ?_; rintro e' w' ⟨rfl, rfl⟩)
        go_ret
        exact ⟨ret_str (by rw [HR.out]; exact (ext_zero s).symm), below_drewN ((Below.refl _ _).alloc (Nat.le_refl _) _) _⟩
      · have HC := Lib.hid hc
        have HR : Hid (sgnLen s.data.toList = 1) := Lib.hid (by rw [HS.out, if_pos (by unfold hasB at hc; exact hc)])
        clear hc
        go_wp2_with (go_at_call 30; refine (in_is (s := ⟨#[43, 45, 42, 47, 37, 38, 124, 94, 60, 62, 33, 61, 40, 41, 91, 93, 123, 125, 59, 44]⟩) HC.out (by decide) _).mono ?_; rintro e' w' ⟨rfl, rfl⟩)
        go_ret
        exact ⟨ret_str (by rw [HR.out]), below_drewN ((Below.refl _ _).alloc (Nat.le_refl _) _) _⟩

set_option maxRecDepth 100000 in
theorem rsign_short (s : ByteArray) (w : World) (h2 : s.size = 1) : Calls Tryz.prog 34 #[.string s] w fun e w' => e = .returned (.string (s.extract 0 (sgnLen s.data.toList))) ∧ Below w.heap.size w w' := by
  have H2 := Lib.hid h2
  have hs1 : ¬ (1 : Int) < s.size := by omega
  have hs0 : 0 < s.size := by omega
  clear h2
  go_enter Tryz.func34, Tryz.ntmps34
  go_wp2
  go_loopw [4] (fun i wr => ∃ k n : Nat, i = .int .i64 k ∧ k ≤ 8 ∧ wr = (w.alloc (.cells pairsC 9)).drewN n) (fun i _ => 8 - (intOf i).toNat)
  case atStart => exact ⟨0, 0, rfl, by omega, rfl⟩
  case round =>
    obtain ⟨k, n, rfl, hk, rfl⟩ := hrel
    by_cases hlt : k < 8
    · have hg : decide ((1 : Int) < s.size) = false := by simpa using hs1
      go_wp2
      go_quiet (fail)
      go_wp2
      go_roundw
      case rel => exact ⟨k + 1, _, by go_num, by omega, rfl⟩
      case measure => simp [intOf]; omega
    · obtain rfl : k = 8 := by omega
      have HS := Lib.hid (sgn_one s H2.out)
      cases hc : hasB oneL (s[0]'(by omega))
      · have HC := Lib.hid hc
        have HR : Hid (sgnLen s.data.toList = 0) := Lib.hid (by rw [HS.out, if_neg (by unfold hasB at hc; rw [hc]; decide)])
        clear hc
        go_wp2_with (go_at_call 30; refine (in_is (s := ⟨#[43, 45, 42, 47, 37, 38, 124, 94, 60, 62, 33, 61, 40, 41, 91, 93, 123, 125, 59, 44]⟩) HC.out (by decide) _).mono ?_; rintro e' w' ⟨rfl, rfl⟩)
        go_ret
        exact ⟨ret_str (by rw [HR.out]; exact (ext_zero s).symm), below_drewN ((Below.refl _ _).alloc (Nat.le_refl _) _) _⟩
      · have HC := Lib.hid hc
        have HR : Hid (sgnLen s.data.toList = 1) := Lib.hid (by rw [HS.out, if_pos (by unfold hasB at hc; exact hc)])
        clear hc
        go_wp2_with (go_at_call 30; refine (in_is (s := ⟨#[43, 45, 42, 47, 37, 38, 124, 94, 60, 62, 33, 61, 40, 41, 91, 93, 123, 125, 59, 44]⟩) HC.out (by decide) _).mono ?_; rintro e' w' ⟨rfl, rfl⟩)
        go_ret
        exact ⟨ret_str (by rw [HR.out]), below_drewN ((Below.refl _ _).alloc (Nat.le_refl _) _) _⟩

theorem rsign_any (s : ByteArray) (w : World) (h0 : 0 < s.size) (hm : s.size ≤ 9223372036854775807) : Calls Tryz.prog 34 #[.string s] w fun e w' => e = .returned (.string (s.extract 0 (sgnLen s.data.toList))) ∧ Below w.heap.size w w' := by
  by_cases h : 1 < s.size
  · exact rsign_long s w h hm
  · exact rsign_short s w (by omega)
end Go.Proofs.YtngfbpmabdmkeaaGreatDoor
