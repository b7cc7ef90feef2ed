/- Of a code that may be: where its instructions may go, what they read and write, and that it may be with more registers and locks. -/
import Derived.Test.YtjjjdghkeogljaaDoorRcm
namespace Go.Proofs.YtjjjdghkeogljaaDoor
set_option linter.unusedSimpArgs false
set_option linter.unusedVariables false
open Go Go.RowKit

theorem right_one (x : Ic) (size regs locks : Int) (hs : 0 < size) : rightB x regs locks size = true ↔ (0 ≤ x.k ∧ x.k ≤ 13) ∧ OneP x size regs locks (fld x.k.toNat) (x.k == 4 || x.k == 5) := by
  by_cases hk : 0 ≤ x.k ∧ x.k ≤ 13
  · have key : OneP x size regs locks (fld x.k.toNat) (x.k == 4 || x.k == 5) ↔ rightB x regs locks size = true := by
      have e : x.k = 0 ∨ x.k = 1 ∨ x.k = 2 ∨ x.k = 3 ∨ x.k = 4 ∨ x.k = 5 ∨ x.k = 6 ∨ x.k = 7 ∨ x.k = 8 ∨ x.k = 9 ∨ x.k = 10 ∨ x.k = 11 ∨ x.k = 12 ∨ x.k = 13 := by omega
      rcases e with e | e | e | e | e | e | e | e | e | e | e | e | e | e
      · rw [e]
        exact one_eq0 x size regs locks hs e
      · rw [e]
        exact one_eq1 x size regs locks hs e
      · rw [e]
        exact one_eq2 x size regs locks hs e
      · rw [e]
        exact one_eq3 x size regs locks hs e
      · rw [e]
        exact one_eq4 x size regs locks hs e
      · rw [e]
        exact one_eq5 x size regs locks hs e
      · rw [e]
        exact one_eq6 x size regs locks hs e
      · rw [e]
        exact one_eq7 x size regs locks hs e
      · rw [e]
        exact one_eq8 x size regs locks hs e
      · rw [e]
        exact one_eq9 x size regs locks hs e
      · rw [e]
        exact one_eq10 x size regs locks hs e
      · rw [e]
        exact one_eq11 x size regs locks hs e
      · rw [e]
        exact one_eq12 x size regs locks hs e
      · rw [e]
        exact one_eq13 x size regs locks hs e
    rw [← key]
    exact ⟨fun h => ⟨hk, h⟩, fun h => h.2⟩
  · have e : rightB x regs locks size = false := if_neg hk
    rw [e]
    exact ⟨(fun h => by cases h), fun h => absurd h.1 hk⟩
theorem regB_mono {n r : Int} {own nn : Bool} (h : regB n r own nn = true) : regB n (r + 1) own nn = true := by
  unfold regB at h ⊢
  cases own
  · exact h
  · cases nn
    · simp at h ⊢
      omega
    · simp at h ⊢
      omega
theorem numK_mono {k n l : Int} (h : numK k n l = true) : numK k n (l + 3) = true := by
  unfold numK at h ⊢
  split
  · rename_i hk
    rw [if_pos hk] at h
    exact h
  · rename_i hk
    rw [if_neg hk] at h
    split
    · rename_i hk2
      rw [if_pos hk2] at h
      simp at h ⊢
      omega
    · rename_i hk2
      rw [if_neg hk2] at h
      exact h
theorem right_more {x : Ic} {size regs locks : Int} (hs : 0 < size) (h : rightB x regs locks size = true) : rightB x (regs + 1) (locks + 3) size = true := by
  rw [right_one x _ _ _ hs] at h ⊢
  obtain ⟨hk, h1, h2, h3, h4, h5, h6, h7, h8, h9, h10⟩ := h
  exact ⟨hk, regB_mono h1, regB_mono h2, regB_mono h3, h4, h5, h6, h7, h8, numK_mono h9, h10⟩
theorem check_parts {c : List Ic} {regs locks : Int} (h : checkB c regs locks = true) : 1 ≤ c.length ∧ c.length ≤ 4096 ∧ (∀ x ∈ c, rightB x regs locks c.length = true) ∧ lastE c = true := by
  unfold checkB at h
  split at h
  · cases h
  · rename_i hl
    split at h
    · rename_i ha
      exact ⟨by omega, by omega, fun x hx => List.all_eq_true.1 ha x hx, h⟩
    · cases h
theorem check_more {c : List Ic} {regs locks : Int} (h : checkB c regs locks = true) : checkB c (regs + 1) (locks + 3) = true := by
  obtain ⟨h1, h2, h3, h4⟩ := check_parts h
  unfold checkB
  rw [if_neg (by omega), if_pos (List.all_eq_true.2 fun x hx => right_more (by omega) (h3 x hx))]
  exact h4
theorem def_lt {x : Ic} {size regs locks : Int} (hs : 0 < size) (hr : 0 ≤ regs) (h : rightB x regs locks size = true) : defM x < regs := by
  rw [right_one x _ _ _ hs] at h
  obtain ⟨hk, h1, _⟩ := h
  unfold defM
  rw [if_pos hk]
  have e : ∀ k, k < 14 → hasB k 1 = hasC (fld k) 68 := by decide
  rw [e _ (by omega)]
  cases hq : hasC (fld x.k.toNat) 68
  · simp
    omega
  · rw [hq] at h1
    simp [regB] at h1
    simp
    omega
theorem uses_lt {x : Ic} {size regs locks : Int} (hs : 0 < size) (h : rightB x regs locks size = true) {y : Int} (hy : y ∈ usesM x) : 0 ≤ y ∧ y < regs := by
  rw [right_one x _ _ _ hs] at h
  obtain ⟨hk, h1, h2, h3, _⟩ := h
  have e : usesM x = pos (srt [if kps x.k.toNat then x.d else -1, aTo x x.k.toNat 4, bTo x x.k.toNat 4]) := if_pos hk
  rw [e] at hy
  unfold pos at hy
  rw [List.mem_filter, mem_srt] at hy
  obtain ⟨hm, h0⟩ := hy
  have h0' : 0 ≤ y := by simpa using h0
  refine ⟨h0', ?_⟩
  have eD : ∀ k, k < 14 → kps k = true → hasC (fld k) 68 = true := by decide
  have eA : ∀ k, k < 14 → hasC (fld k) 65 = (List.range 4).any (fun i => prt k i == 2 || prt k i == 3) := by decide
  have eB : ∀ k, k < 14 → hasC (fld k) 66 = (List.range 4).any (fun i => prt k i == 4) := by decide
  rw [eA _ (by omega)] at h2
  rw [eB _ (by omega)] at h3
  unfold aTo bTo at hm
  simp only [List.mem_cons, List.not_mem_nil, or_false] at hm
  rcases hm with hm | hm | hm
  · split at hm
    · rename_i hp
      rw [eD _ (by omega) hp] at h1
      simp [regB] at h1
      omega
    · omega
  · split at hm
    · rename_i hp
      rw [hp] at h2
      simp [regB] at h2
      omega
    · omega
  · split at hm
    · rename_i hp
      rw [hp] at h3
      simp [regB] at h3
      omega
    · omega
theorem next_lt {x : Ic} {size regs locks : Int} (hs : 0 < size) (h : rightB x regs locks size = true) {i : Int} (h0 : 0 ≤ i) (hl : i + 1 < size ∨ (i + 1 = size ∧ ens x.k.toNat = true)) {y : Int} (hy : y ∈ nextM x i) : 0 ≤ y ∧ y < size := by
  rw [right_one x _ _ _ hs] at h
  obtain ⟨hk, h1, h2, h3, h4, h5, h6, h7, h8, h9, h10, h11⟩ := h
  unfold nextM at hy
  rw [if_pos hk] at hy
  have e10 : ∀ k, k < 14 → hasB k 10 = true → ens k = true ∨ k = 7 := by decide
  split at hy
  · rename_i hb
    split at hy
    · rw [mem_srt] at hy
      simp at hy
      omega
    · rename_i he
      rw [mem_srt] at hy
      simp at hy
      rcases hl with hl | ⟨_, hl⟩
      · omega
      · exact absurd hl he
  · split at hy
    · simp at hy
    · rename_i he
      rw [mem_srt] at hy
      simp at hy
      rcases hl with hl | ⟨_, hl⟩
      · omega
      · exact absurd hl he
theorem show_some {x : Ic} (hk : 0 ≤ x.k ∧ x.k ≤ 13) : (showM x).toList.isEmpty = false := by
  have e : showM x = shwB x x.k.toNat 4 := if_pos hk
  have hn : ∀ k, k < 14 → (nam k).data.toList.isEmpty = false := by decide
  have h : ∀ j, (shwB x x.k.toNat j).data.toList.isEmpty = false := by
    intro j
    induction j with
    | zero => exact hn _ (by omega)
    | succ j ih =>
      cases ht : (toldB x (prt x.k.toNat j)).toList.isEmpty
      · rw [shw_add rfl ht]
        simp
      · rw [shw_skip ht]
        exact ih
  rw [e, ByteArray.toList_eq]
  exact h 4
theorem last_ends {c : List Ic} {i : Nat} {x : Ic} (h : lastE c = true) (hi : i + 1 = c.length) (hx : c[i]? = some x) : ens x.k.toNat = true := by
  unfold lastE at h
  rw [List.getLast?_eq_getElem?, ← hi, Nat.add_sub_cancel, hx] at h
  exact h
end Go.Proofs.YtjjjdghkeogljaaDoor
