/- lex.signSpan: how many bytes the longest sign has with which a text begins. -/
import Derived.Test.YtngfbpmabdmkeaaGreatDoorSpan
import Derived.Lib.IndexAny
namespace Go.Proofs.YtngfbpmabdmkeaaGreatDoor
open Go Go.RowKit

theorem two_of (s : ByteArray) (h2 : 1 < s.size) : ∃ a b r, s.data.toList = a :: b :: r ∧ (s.extract 0 2).toList = [a, b] ∧ s[0]'(by omega) = a := by
  have h : s.data.toList.length = s.size := rfl
  match hl : s.data.toList, h with
  | [], h => simp at h; omega
  | [a], h => simp at h; omega
  | a :: b :: r, h =>
    refine ⟨a, b, r, rfl, ?_, ?_⟩
    · rw [Lib.extract_toList, hl]; rfl
    · have := at_list s 0 (by omega)
      rw [hl] at this
      simpa using this.symm
theorem one_of (s : ByteArray) (h2 : s.size = 1) : ∃ a, s.data.toList = [a] ∧ s[0]'(by omega) = a := by
  have h : s.data.toList.length = s.size := rfl
  match hl : s.data.toList, h with
  | [], h => simp at h; omega
  | [a], h =>
    refine ⟨a, rfl, ?_⟩
    have := at_list s 0 (by omega)
    rw [hl] at this
    simpa using this.symm
  | a :: b :: r, h => simp at h; omega
theorem sgn_pair (s : ByteArray) (h2 : 1 < s.size) (p : List UInt8) (hp : pairL.contains p = true) (h : ((s.extract 0 2).toList == p) = true) : sgnLen s.data.toList = 2 := by
  obtain ⟨a, b, r, e1, e2, _⟩ := two_of s h2
  rw [e2, beq_iff_eq] at h
  subst h
  rw [e1]
  simp only [sgnLen, hp, if_true]
theorem sgn_single (s : ByteArray) (h2 : 1 < s.size) (g0 : ((s.extract 0 2).toList == [38, 38]) = false) (g1 : ((s.extract 0 2).toList == [124, 124]) = false) (g2 : ((s.extract 0 2).toList == [61, 61]) = false) (g3 : ((s.extract 0 2).toList == [33, 61]) = false) (g4 : ((s.extract 0 2).toList == [60, 61]) = false) (g5 : ((s.extract 0 2).toList == [62, 61]) = false) (g6 : ((s.extract 0 2).toList == [60, 60]) = false) (g7 : ((s.extract 0 2).toList == [62, 62]) = false) : sgnLen s.data.toList = if oneL.contains (s[0]'(by omega)) = true then 1 else 0 := by
  obtain ⟨a, b, r, e1, e2, e3⟩ := two_of s h2
  rw [e2] at g0 g1 g2 g3 g4 g5 g6 g7
  have hp : pairL.contains [a, b] = false := by
    simp only [pairL, List.contains_cons, List.contains_nil, g0, g1, g2, g3, g4, g5, g6, g7]
    rfl
  rw [e1, e3]
  simp only [sgnLen, hp, if_false, Bool.false_eq_true]
theorem sgn_one (s : ByteArray) (h2 : s.size = 1) : sgnLen s.data.toList = if oneL.contains (s[0]'(by omega)) = true then 1 else 0 := by
  obtain ⟨a, e1, e3⟩ := one_of s h2
  rw [e1, e3]
  rfl
theorem one_yes {c : UInt8} (h : 0 ≤ Lib.indexByte [43, 45, 42, 47, 37, 38, 124, 94, 60, 62, 33, 61, 40, 41, 91, 93, 123, 125, 59, 44] c) : oneL.contains c = true := by
  rw [Lib.contains_iff_indexByte]
  exact decide_eq_true h
theorem one_no {c : UInt8} (h : Lib.indexByte [43, 45, 42, 47, 37, 38, 124, 94, 60, 62, 33, 61, 40, 41, 91, 93, 123, 125, 59, 44] c < 0) : oneL.contains c = false := by
  rw [Lib.contains_iff_indexByte]
  exact decide_eq_false (by unfold oneL; omega)

theorem sgnspan_any (s : ByteArray) (w : World) (h1 : 0 < s.size) (hm : s.size ≤ 9223372036854775807) : Calls Tryz.prog 91 #[.string s] w fun e w' => e = .returned (.int .i64 (sgnLen s.data.toList)) ∧ w = w' := by
  by_cases h2 : 1 < s.size
  · have hz : (1 < (s.size : Int)) := by omega
    cases g0 : ((s.extract 0 2).toList == [38, 38])
    rotate_left
    · have HR := Lib.hid (sgn_pair s h2 [38, 38] (by decide) g0)
      go_enter Tryz.func91, Tryz.ntmps91
      go_wp2
      go_ret
      exact ⟨ret_i (by rw [HR.out]; rfl), rfl⟩
    cases g1 : ((s.extract 0 2).toList == [124, 124])
    rotate_left
    · have HR := Lib.hid (sgn_pair s h2 [124, 124] (by decide) g1)
      go_enter Tryz.func91, Tryz.ntmps91
      go_wp2
      go_ret
      exact ⟨ret_i (by rw [HR.out]; rfl), rfl⟩
    cases g2 : ((s.extract 0 2).toList == [61, 61])
    rotate_left
    · have HR := Lib.hid (sgn_pair s h2 [61, 61] (by decide) g2)
      go_enter Tryz.func91, Tryz.ntmps91
      go_wp2
      go_ret
      exact ⟨ret_i (by rw [HR.out]; rfl), rfl⟩
    cases g3 : ((s.extract 0 2).toList == [33, 61])
    rotate_left
    · have HR := Lib.hid (sgn_pair s h2 [33, 61] (by decide) g3)
      go_enter Tryz.func91, Tryz.ntmps91
      go_wp2
      go_ret
      exact ⟨ret_i (by rw [HR.out]; rfl), rfl⟩
    cases g4 : ((s.extract 0 2).toList == [60, 61])
    rotate_left
    · have HR := Lib.hid (sgn_pair s h2 [60, 61] (by decide) g4)
      go_enter Tryz.func91, Tryz.ntmps91
      go_wp2
      go_ret
      exact ⟨ret_i (by rw [HR.out]; rfl), rfl⟩
    cases g5 : ((s.extract 0 2).toList == [62, 61])
    rotate_left
    · have HR := Lib.hid (sgn_pair s h2 [62, 61] (by decide) g5)
      go_enter Tryz.func91, Tryz.ntmps91
      go_wp2
      go_ret
      exact ⟨ret_i (by rw [HR.out]; rfl), rfl⟩
    cases g6 : ((s.extract 0 2).toList == [60, 60])
    rotate_left
    · have HR := Lib.hid (sgn_pair s h2 [60, 60] (by decide) g6)
      go_enter Tryz.func91, Tryz.ntmps91
      go_wp2
      go_ret
      exact ⟨ret_i (by rw [HR.out]; rfl), rfl⟩
    cases g7 : ((s.extract 0 2).toList == [62, 62])
    rotate_left
    · have HR := Lib.hid (sgn_pair s h2 [62, 62] (by decide) g7)
      go_enter Tryz.func91, Tryz.ntmps91
      go_wp2
      go_ret
      exact ⟨ret_i (by rw [HR.out]; rfl), rfl⟩
    have HR := Lib.hid (sgn_single s h2 g0 g1 g2 g3 g4 g5 g6 g7)
    go_enter Tryz.func91, Tryz.ntmps91
    go_wp2_with (go_at_call 129; refine (Tryz.strings_IndexByte _ _ _).mono ?_; rintro e w' ⟨rfl, rfl⟩)
    · have hi : 0 ≤ Lib.indexByte [43, 45, 42, 47, 37, 38, 124, 94, 60, 62, 33, 61, 40, 41, 91, 93, 123, 125, 59, 44] s[0] := by assumption
      go_ret
      exact ⟨ret_i (by rw [HR.out, if_pos (one_yes hi)]; rfl), rfl⟩
    · have hi : Lib.indexByte [43, 45, 42, 47, 37, 38, 124, 94, 60, 62, 33, 61, 40, 41, 91, 93, 123, 125, 59, 44] s[0] < 0 := by assumption
      go_ret
      exact ⟨ret_i (by rw [HR.out, one_no hi]; rfl), rfl⟩
  · have HR := Lib.hid (sgn_one s (by omega))
    have hz : ¬ (1 < (s.size : Int)) := by omega
    go_enter Tryz.func91, Tryz.ntmps91
    go_wp2_with (go_at_call 129; refine (Tryz.strings_IndexByte _ _ _).mono ?_; rintro e w' ⟨rfl, rfl⟩)
    · have hi : 0 ≤ Lib.indexByte [43, 45, 42, 47, 37, 38, 124, 94, 60, 62, 33, 61, 40, 41, 91, 93, 123, 125, 59, 44] s[0] := by assumption
      go_ret
      exact ⟨ret_i (by rw [HR.out, if_pos (one_yes hi)]; rfl), rfl⟩
    · have hi : Lib.indexByte [43, 45, 42, 47, 37, 38, 124, 94, 60, 62, 33, 61, 40, 41, 91, 93, 123, 125, 59, 44] s[0] < 0 := by assumption
      go_ret
      exact ⟨ret_i (by rw [HR.out, one_no hi]; rfl), rfl⟩
end Go.Proofs.YtngfbpmabdmkeaaGreatDoor
