/- A new reader. -/
import Derived.Test.YtngfbpmabdmkeaaGreatDoorNewR
namespace Go.Proofs.YtngfbpmabdmkeaaGreatDoor
open Go Go.RowKit

set_option linter.unusedSimpArgs false in
set_option maxRecDepth 100000 in
set_option maxHeartbeats 4000000 in
theorem newReader_any (g n cap : Nat) (i : Int) (w : World) :
    Calls Tryz.prog 54 #[.slice (some ⟨g, 0, none⟩) n cap, .int .i64 i] w fun e w' => e = .returned (.pointer (some ⟨w.heap.size, 0, none⟩)) ∧ Below w.heap.size w w' ∧
      RdAt w' w.heap.size (.slice (some ⟨g, 0, none⟩) n cap) (.map (some (w.heap.size + 2))) i 0 0 0 ∧ BegMap w' (w.heap.size + 2) (w.heap.size + 1) ∧ w'.heap[w.heap.size + 1]? = some (.cells #[.pointer (some ⟨w.heap.size, 0, none⟩)] 118 (0, 0)) := by
  go_enter Tryz.func54, Tryz.ntmps54
  go_wp2
  refine name_world ?_
  intro W0 hW0
  have hB0 : Below w.heap.size w W0 := by rw [hW0]; exact ((Below.refl _ _).alloc (Nat.le_refl _) _).alloc (by simp) _
  have hR0 : RdAt W0 w.heap.size (.slice (some ⟨g, 0, none⟩) n cap) (.map none) i 0 0 0 := by rw [hW0]; exact (Below.heap_alloc _ _ _ (by simp)).trans (heap_new w _)
  have hX0 : W0.heap[w.heap.size + 1]? = some (.cells #[.pointer (some ⟨w.heap.size, 0, none⟩)] 118 (0, 0)) := by rw [hW0]; exact heap_alloc2_new w _ _
  have hS0 : W0.heap.size = w.heap.size + 2 := by rw [hW0]; simp
  clear hW0
  have hmap := @run_makeMap Tryz.prog
  refine wp_region_any (by kernel_rfl) ?_
  refine wpAny_inv (fun listed a X => listed.size = 27 ∧ Dep listed ∧ InSlots w.heap.size (w.heap.size + 1) (w.heap.size + 2) listed a ∧ InWorld w.heap.size (w.heap.size + 1) (w.heap.size + 2) (.slice (some ⟨g, 0, none⟩) n cap) (.map none) i W0 listed X) ?step ?fin _ _ _ _ ?start (by rfl) (by decide)
  case start =>
    refine ⟨by rfl, ?_, ⟨rfl, rfl, rfl, ?_⟩, (Fr.refl _ _).drew, hS0, ?_, ?_⟩
    · intro j hj hl
      exfalso
      have : ∀ j, j < 7 → (Array.replicate 27 false).getD (4 + 3 * j) false = false := by decide
      have h2 := this j hj
      rw [show (Array.replicate 27 false).getD (4 + 3 * j) false = true from hl] at h2
      cases h2
    · intro k hk d _ hl
      exfalso
      have : ∀ k, k < 27 → (Array.replicate 27 false).getD k false = false := by decide
      have h2 := this k hk
      rw [show (Array.replicate 27 false).getD k false = true from hl] at h2
      cases h2
    · exact hR0
    · exact hS0
  case fin =>
    intro listed a X ⟨h1, _, h2, h3⟩ hr
    have hT : ∀ j, j < 27 → listed[j]? = some (listed.getD j false) := by
      intro j hj
      have hj2 : j < listed.size := by omega
      rw [Array.getD_eq_getD_getElem?, Array.getElem?_eq_getElem hj2]
      rfl
    have all : ∀ k, k < 27 → listed[k]? = some true := by
      have key : ∀ k, k < 27 → (∀ j, j < k → listed[j]? = some true) → listed[k]? = some true := by
        intro k hk hD
        rw [hT k hk]
        cases hb : listed.getD k false with
        | true => rfl
        | false =>
          exfalso
          have hf := hT k hk
          rw [hb] at hf
          have hr2 := hr
          unfold Region.ready at hr2
          rw [List.filter_eq_nil_iff] at hr2
          have this := hr2 k (List.mem_range.2 (show k < _ from hk))
          have hcase : k = 0 ∨ k = 1 ∨ k = 2 ∨ k = 3 ∨ k = 4 ∨ k = 5 ∨ k = 6 ∨ k = 7 ∨ k = 8 ∨ k = 9 ∨ k = 10 ∨ k = 11 ∨ k = 12 ∨ k = 13 ∨ k = 14 ∨ k = 15 ∨ k = 16 ∨ k = 17 ∨ k = 18 ∨ k = 19 ∨ k = 20 ∨ k = 21 ∨ k = 22 ∨ k = 23 ∨ k = 24 ∨ k = 25 ∨ k = 26 := by omega
          rcases hcase with rfl | rfl | rfl | rfl | rfl | rfl | rfl | rfl | rfl | rfl | rfl | rfl | rfl | rfl | rfl | rfl | rfl | rfl | rfl | rfl | rfl | rfl | rfl | rfl | rfl | rfl | rfl
          · simp [Region.binds, hf] at this
          · simp [Region.binds, hf, hD 0 (by decide)] at this
          · simp [Region.binds, hf, hD 0 (by decide), hD 1 (by decide)] at this
          · simp [Region.binds, hf, hD 0 (by decide), hD 1 (by decide), hD 2 (by decide)] at this
          · simp [Region.binds, hf, hD 0 (by decide), hD 1 (by decide), hD 2 (by decide), hD 3 (by decide)] at this
          · simp [Region.binds, hf, hD 0 (by decide), hD 1 (by decide), hD 2 (by decide), hD 3 (by decide), hD 4 (by decide)] at this
          · simp [Region.binds, hf, hD 0 (by decide), hD 1 (by decide), hD 2 (by decide), hD 3 (by decide), hD 4 (by decide), hD 5 (by decide)] at this
          · simp [Region.binds, hf, hD 0 (by decide), hD 1 (by decide), hD 2 (by decide), hD 3 (by decide), hD 4 (by decide), hD 5 (by decide), hD 6 (by decide)] at this
          · simp [Region.binds, hf, hD 0 (by decide), hD 1 (by decide), hD 2 (by decide), hD 3 (by decide), hD 4 (by decide), hD 5 (by decide), hD 6 (by decide), hD 7 (by decide)] at this
          · simp [Region.binds, hf, hD 0 (by decide), hD 1 (by decide), hD 2 (by decide), hD 3 (by decide), hD 4 (by decide), hD 5 (by decide), hD 6 (by decide), hD 7 (by decide), hD 8 (by decide)] at this
          · simp [Region.binds, hf, hD 0 (by decide), hD 1 (by decide), hD 2 (by decide), hD 3 (by decide), hD 4 (by decide), hD 5 (by decide), hD 6 (by decide), hD 7 (by decide), hD 8 (by decide), hD 9 (by decide)] at this
          · simp [Region.binds, hf, hD 0 (by decide), hD 1 (by decide), hD 2 (by decide), hD 3 (by decide), hD 4 (by decide), hD 5 (by decide), hD 6 (by decide), hD 7 (by decide), hD 8 (by decide), hD 9 (by decide), hD 10 (by decide)] at this
          · simp [Region.binds, hf, hD 0 (by decide), hD 1 (by decide), hD 2 (by decide), hD 3 (by decide), hD 4 (by decide), hD 5 (by decide), hD 6 (by decide), hD 7 (by decide), hD 8 (by decide), hD 9 (by decide), hD 10 (by decide), hD 11 (by decide)] at this
          · simp [Region.binds, hf, hD 0 (by decide), hD 1 (by decide), hD 2 (by decide), hD 3 (by decide), hD 4 (by decide), hD 5 (by decide), hD 6 (by decide), hD 7 (by decide), hD 8 (by decide), hD 9 (by decide), hD 10 (by decide), hD 11 (by decide), hD 12 (by decide)] at this
          · simp [Region.binds, hf, hD 0 (by decide), hD 1 (by decide), hD 2 (by decide), hD 3 (by decide), hD 4 (by decide), hD 5 (by decide), hD 6 (by decide), hD 7 (by decide), hD 8 (by decide), hD 9 (by decide), hD 10 (by decide), hD 11 (by decide), hD 12 (by decide), hD 13 (by decide)] at this
          · simp [Region.binds, hf, hD 0 (by decide), hD 1 (by decide), hD 2 (by decide), hD 3 (by decide), hD 4 (by decide), hD 5 (by decide), hD 6 (by decide), hD 7 (by decide), hD 8 (by decide), hD 9 (by decide), hD 10 (by decide), hD 11 (by decide), hD 12 (by decide), hD 13 (by decide), hD 14 (by decide)] at this
          · simp [Region.binds, hf, hD 0 (by decide), hD 1 (by decide), hD 2 (by decide), hD 3 (by decide), hD 4 (by decide), hD 5 (by decide), hD 6 (by decide), hD 7 (by decide), hD 8 (by decide), hD 9 (by decide), hD 10 (by decide), hD 11 (by decide), hD 12 (by decide), hD 13 (by decide), hD 14 (by decide), hD 15 (by decide)] at this
          · simp [Region.binds, hf, hD 0 (by decide), hD 1 (by decide), hD 2 (by decide), hD 3 (by decide), hD 4 (by decide), hD 5 (by decide), hD 6 (by decide), hD 7 (by decide), hD 8 (by decide), hD 9 (by decide), hD 10 (by decide), hD 11 (by decide), hD 12 (by decide), hD 13 (by decide), hD 14 (by decide), hD 15 (by decide), hD 16 (by decide)] at this
          · simp [Region.binds, hf, hD 0 (by decide), hD 1 (by decide), hD 2 (by decide), hD 3 (by decide), hD 4 (by decide), hD 5 (by decide), hD 6 (by decide), hD 7 (by decide), hD 8 (by decide), hD 9 (by decide), hD 10 (by decide), hD 11 (by decide), hD 12 (by decide), hD 13 (by decide), hD 14 (by decide), hD 15 (by decide), hD 16 (by decide), hD 17 (by decide)] at this
          · simp [Region.binds, hf, hD 0 (by decide), hD 1 (by decide), hD 2 (by decide), hD 3 (by decide), hD 4 (by decide), hD 5 (by decide), hD 6 (by decide), hD 7 (by decide), hD 8 (by decide), hD 9 (by decide), hD 10 (by decide), hD 11 (by decide), hD 12 (by decide), hD 13 (by decide), hD 14 (by decide), hD 15 (by decide), hD 16 (by decide), hD 17 (by decide), hD 18 (by decide)] at this
          · simp [Region.binds, hf, hD 0 (by decide), hD 1 (by decide), hD 2 (by decide), hD 3 (by decide), hD 4 (by decide), hD 5 (by decide), hD 6 (by decide), hD 7 (by decide), hD 8 (by decide), hD 9 (by decide), hD 10 (by decide), hD 11 (by decide), hD 12 (by decide), hD 13 (by decide), hD 14 (by decide), hD 15 (by decide), hD 16 (by decide), hD 17 (by decide), hD 18 (by decide), hD 19 (by decide)] at this
          · simp [Region.binds, hf, hD 0 (by decide), hD 1 (by decide), hD 2 (by decide), hD 3 (by decide), hD 4 (by decide), hD 5 (by decide), hD 6 (by decide), hD 7 (by decide), hD 8 (by decide), hD 9 (by decide), hD 10 (by decide), hD 11 (by decide), hD 12 (by decide), hD 13 (by decide), hD 14 (by decide), hD 15 (by decide), hD 16 (by decide), hD 17 (by decide), hD 18 (by decide), hD 19 (by decide), hD 20 (by decide)] at this
          · simp [Region.binds, hf, hD 0 (by decide), hD 1 (by decide), hD 2 (by decide), hD 3 (by decide), hD 4 (by decide), hD 5 (by decide), hD 6 (by decide), hD 7 (by decide), hD 8 (by decide), hD 9 (by decide), hD 10 (by decide), hD 11 (by decide), hD 12 (by decide), hD 13 (by decide), hD 14 (by decide), hD 15 (by decide), hD 16 (by decide), hD 17 (by decide), hD 18 (by decide), hD 19 (by decide), hD 20 (by decide), hD 21 (by decide)] at this
          · simp [Region.binds, hf, hD 0 (by decide), hD 1 (by decide), hD 2 (by decide), hD 3 (by decide), hD 4 (by decide), hD 5 (by decide), hD 6 (by decide), hD 7 (by decide), hD 8 (by decide), hD 9 (by decide), hD 10 (by decide), hD 11 (by decide), hD 12 (by decide), hD 13 (by decide), hD 14 (by decide), hD 15 (by decide), hD 16 (by decide), hD 17 (by decide), hD 18 (by decide), hD 19 (by decide), hD 20 (by decide), hD 21 (by decide), hD 22 (by decide)] at this
          · simp [Region.binds, hf, hD 0 (by decide), hD 1 (by decide), hD 2 (by decide), hD 3 (by decide), hD 4 (by decide), hD 5 (by decide), hD 6 (by decide), hD 7 (by decide), hD 8 (by decide), hD 9 (by decide), hD 10 (by decide), hD 11 (by decide), hD 12 (by decide), hD 13 (by decide), hD 14 (by decide), hD 15 (by decide), hD 16 (by decide), hD 17 (by decide), hD 18 (by decide), hD 19 (by decide), hD 20 (by decide), hD 21 (by decide), hD 22 (by decide), hD 23 (by decide)] at this
          · simp [Region.binds, hf, hD 0 (by decide), hD 1 (by decide), hD 2 (by decide), hD 3 (by decide), hD 4 (by decide), hD 5 (by decide), hD 6 (by decide), hD 7 (by decide), hD 8 (by decide), hD 9 (by decide), hD 10 (by decide), hD 11 (by decide), hD 12 (by decide), hD 13 (by decide), hD 14 (by decide), hD 15 (by decide), hD 16 (by decide), hD 17 (by decide), hD 18 (by decide), hD 19 (by decide), hD 20 (by decide), hD 21 (by decide), hD 22 (by decide), hD 23 (by decide), hD 24 (by decide)] at this
          · simp [Region.binds, hf, hD 0 (by decide), hD 1 (by decide), hD 2 (by decide), hD 3 (by decide), hD 4 (by decide), hD 5 (by decide), hD 6 (by decide), hD 7 (by decide), hD 8 (by decide), hD 9 (by decide), hD 10 (by decide), hD 11 (by decide), hD 12 (by decide), hD 13 (by decide), hD 14 (by decide), hD 15 (by decide), hD 16 (by decide), hD 17 (by decide), hD 18 (by decide), hD 19 (by decide), hD 20 (by decide), hD 21 (by decide), hD 22 (by decide), hD 23 (by decide), hD 24 (by decide), hD 25 (by decide)] at this
      intro k
      induction k using Nat.strongRecOn with
      | _ k ih => exact fun hk => key k hk fun j hj => ih j hj (by omega)
    have l1 : listed.getD 1 false = true := by rw [Array.getD_eq_getD_getElem?, all 1 (by decide)]; rfl
    have l26 : listed.getD 26 false = true := by rw [Array.getD_eq_getD_getElem?, all 26 (by decide)]; rfl
    obtain ⟨z1, z2, z3, z4⟩ := h3
    rw [if_pos l26] at z3
    rw [if_pos l1] at z4
    obtain ⟨z5, es, clock, z6, z7⟩ := z4
    have zb : BegMap X (w.heap.size + 2) (w.heap.size + 1) := ⟨es, clock, z6, fun e he => by
        obtain ⟨j, q1, _, q3⟩ := z7.1 e he
        exact ⟨j, q1, trivial, q3⟩, fun j q1 _ => z7.2 j q1 (by show listed.getD (4 + 3 * j) false = true; rw [Array.getD_eq_getD_getElem?, all _ (by omega)]; rfl)⟩
    have zx : X.heap[w.heap.size + 1]? = some (.cells #[.pointer (some ⟨w.heap.size, 0, none⟩)] 118 (0, 0)) := (z1.block (by omega) (by simp)).trans hX0
    have hbc : X.cell? ⟨w.heap.size + 1, 0, none⟩ = some (.pointer (some ⟨w.heap.size, 0, none⟩)) := by rw [cell_of_row _ _ _ _ _ _ zx]; rfl
    have zB : Below w.heap.size w X := hB0.trans ((z1.belowAt (Nat.le_refl _) (by omega)))
    obtain ⟨d1, d2, d3, d4⟩ := h2
    obtain ⟨tm, df⟩ := a
    simp only at d1 d2 d3
    subst d1
    have d3 : tm[5]?.getD undef = .pointer (some ⟨w.heap.size + 1, 0, none⟩) := by simpa using d3
    have Z := Lib.hid (And.intro zB (And.intro z3 (And.intro zb zx)))
    clear z1 z2 z3 z5 z6 z7 zb zx zB hr h1 hT all l1 l26 d4
    go_wp2
    go_ret
    exact ⟨by simp [Array.getD_eq_getD_getElem?, Array.getElem?_setIfInBounds, d2], Z.out⟩
  case step =>
    intro listed a X k ⟨h1, hdp, h2, h3⟩ hk
    have hlt : k < 27 := List.mem_range.1 (List.mem_filter.1 hk).1
    have hk2 := (List.mem_filter.1 hk).2
    have he5 : a.tmps[5]?.getD undef = .pointer (some ⟨w.heap.size + 1, 0, none⟩) := by have := h2.2.2.1; simpa using this
    have hsz : (listed.setIfInBounds k true).size = 27 := by simpa using h1
    have hcase : k = 0 ∨ k = 1 ∨ k = 2 ∨ k = 3 ∨ k = 4 ∨ k = 5 ∨ k = 6 ∨ k = 7 ∨ k = 8 ∨ k = 9 ∨ k = 10 ∨ k = 11 ∨ k = 12 ∨ k = 13 ∨ k = 14 ∨ k = 15 ∨ k = 16 ∨ k = 17 ∨ k = 18 ∨ k = 19 ∨ k = 20 ∨ k = 21 ∨ k = 22 ∨ k = 23 ∨ k = 24 ∨ k = 25 ∨ k = 26 := by omega
    rcases hcase with rfl | rfl | rfl | rfl | rfl | rfl | rfl | rfl | rfl | rfl | rfl | rfl | rfl | rfl | rfl | rfl | rfl | rfl | rfl | rfl | rfl | rfl | rfl | rfl | rfl | rfl | rfl
    · refine wpOp_of rfl rfl ?_
      have hbc : X.cell? ⟨w.heap.size + 1, 0, none⟩ = some (.pointer (some ⟨w.heap.size, 0, none⟩)) := by rw [cell_of_row _ _ _ _ _ _ ((h3.1.block (by omega) (by simp)).trans hX0)]; rfl
      unfold Oper.wp
      simp only [execOp]
      (try go_simp)
      exact ⟨hdp.set (by intro j hj e; omega), h2.put (by decide) rfl, h3.keep (by decide) (by decide) (by intro j hj; omega)⟩
    · refine wpOp_of rfl rfl ?_
      have hl1 : listed.getD 1 false = false := unlisted (by simpa [Region.binds] using hk2)
      obtain ⟨hM, hXs⟩ := h3.made h1 hl1 (hdp.no hl1)
      unfold Oper.wp
      simp only [execOp]
      (try go_simp)
      exact ⟨hdp.set (by intro j hj e; omega), h2.put (by decide) rfl⟩
    · refine wpOp_of rfl rfl ?_
      unfold Oper.wp
      simp only [execOp]
      (try go_simp)
      exact ⟨hdp.set (by intro j hj e; omega), h2.put (by decide) rfl, h3.keep (by decide) (by decide) (by intro j hj; omega)⟩
    · refine wpOp_of rfl rfl ?_
      unfold Oper.wp
      simp only [execOp]
      (try go_simp)
      exact ⟨hdp.set (by intro j hj e; omega), h2.put (by decide) rfl, h3.keep (by decide) (by decide) (by intro j hj; omega)⟩
    · refine wpOp_of rfl rfl ?_
      have hd1 : listed.getD 1 false = true := by simp [Region.binds] at hk2; simp only [Array.getD_eq_getD_getElem?]; simp [hk2]
      have hd2 : listed.getD 2 false = true := by simp [Region.binds] at hk2; simp only [Array.getD_eq_getD_getElem?]; simp [hk2]
      have hd3 : listed.getD 3 false = true := by simp [Region.binds] at hk2; simp only [Array.getD_eq_getD_getElem?]; simp [hk2]
      have hlk : listed.getD 4 false = false := unlisted (by simp [Region.binds] at hk2; exact hk2.1)
      have e1 : a.eval (.tmp 11) = .map (some (w.heap.size + 2)) := h2.at (i := 1) (by decide) rfl hd1
      have e2 : a.eval (.tmp 12) = bkey 0 := h2.at (i := 2) (by decide) rfl hd2
      have e3 : a.eval (.tmp 13) = bval (w.heap.size + 1) 0 := h2.at (i := 3) (by decide) rfl hd3
      obtain ⟨X2, hrun, hI⟩ := h3.put h1 (by omega) hd1 (j := 0) (by decide) hlk
      unfold Oper.wp
      simp [execOp, e1, e2, e3, hrun, Result.andThen]
      exact ⟨h1, hdp.set (fun _ _ _ => hd1), h2.none rfl (by decide) _, hI⟩
    · refine wpOp_of rfl rfl ?_
      unfold Oper.wp
      simp only [execOp]
      (try go_simp)
      exact ⟨hdp.set (by intro j hj e; omega), h2.put (by decide) rfl, h3.keep (by decide) (by decide) (by intro j hj; omega)⟩
    · refine wpOp_of rfl rfl ?_
      unfold Oper.wp
      simp only [execOp]
      (try go_simp)
      exact ⟨hdp.set (by intro j hj e; omega), h2.put (by decide) rfl, h3.keep (by decide) (by decide) (by intro j hj; omega)⟩
    · refine wpOp_of rfl rfl ?_
      have hd1 : listed.getD 1 false = true := by simp [Region.binds] at hk2; simp only [Array.getD_eq_getD_getElem?]; simp [hk2]
      have hd5 : listed.getD 5 false = true := by simp [Region.binds] at hk2; simp only [Array.getD_eq_getD_getElem?]; simp [hk2]
      have hd6 : listed.getD 6 false = true := by simp [Region.binds] at hk2; simp only [Array.getD_eq_getD_getElem?]; simp [hk2]
      have hlk : listed.getD 7 false = false := unlisted (by simp [Region.binds] at hk2; exact hk2.1)
      have e1 : a.eval (.tmp 11) = .map (some (w.heap.size + 2)) := h2.at (i := 1) (by decide) rfl hd1
      have e2 : a.eval (.tmp 14) = bkey 1 := h2.at (i := 5) (by decide) rfl hd5
      have e3 : a.eval (.tmp 15) = bval (w.heap.size + 1) 1 := h2.at (i := 6) (by decide) rfl hd6
      obtain ⟨X2, hrun, hI⟩ := h3.put h1 (by omega) hd1 (j := 1) (by decide) hlk
      unfold Oper.wp
      simp [execOp, e1, e2, e3, hrun, Result.andThen]
      exact ⟨h1, hdp.set (fun _ _ _ => hd1), h2.none rfl (by decide) _, hI⟩
    · refine wpOp_of rfl rfl ?_
      unfold Oper.wp
      simp only [execOp]
      (try go_simp)
      exact ⟨hdp.set (by intro j hj e; omega), h2.put (by decide) rfl, h3.keep (by decide) (by decide) (by intro j hj; omega)⟩
    · refine wpOp_of rfl rfl ?_
      unfold Oper.wp
      simp only [execOp]
      (try go_simp)
      exact ⟨hdp.set (by intro j hj e; omega), h2.put (by decide) rfl, h3.keep (by decide) (by decide) (by intro j hj; omega)⟩
    · refine wpOp_of rfl rfl ?_
      have hd1 : listed.getD 1 false = true := by simp [Region.binds] at hk2; simp only [Array.getD_eq_getD_getElem?]; simp [hk2]
      have hd8 : listed.getD 8 false = true := by simp [Region.binds] at hk2; simp only [Array.getD_eq_getD_getElem?]; simp [hk2]
      have hd9 : listed.getD 9 false = true := by simp [Region.binds] at hk2; simp only [Array.getD_eq_getD_getElem?]; simp [hk2]
      have hlk : listed.getD 10 false = false := unlisted (by simp [Region.binds] at hk2; exact hk2.1)
      have e1 : a.eval (.tmp 11) = .map (some (w.heap.size + 2)) := h2.at (i := 1) (by decide) rfl hd1
      have e2 : a.eval (.tmp 16) = bkey 2 := h2.at (i := 8) (by decide) rfl hd8
      have e3 : a.eval (.tmp 17) = bval (w.heap.size + 1) 2 := h2.at (i := 9) (by decide) rfl hd9
      obtain ⟨X2, hrun, hI⟩ := h3.put h1 (by omega) hd1 (j := 2) (by decide) hlk
      unfold Oper.wp
      simp [execOp, e1, e2, e3, hrun, Result.andThen]
      exact ⟨h1, hdp.set (fun _ _ _ => hd1), h2.none rfl (by decide) _, hI⟩
    · refine wpOp_of rfl rfl ?_
      unfold Oper.wp
      simp only [execOp]
      (try go_simp)
      exact ⟨hdp.set (by intro j hj e; omega), h2.put (by decide) rfl, h3.keep (by decide) (by decide) (by intro j hj; omega)⟩
    · refine wpOp_of rfl rfl ?_
      unfold Oper.wp
      simp only [execOp]
      (try go_simp)
      exact ⟨hdp.set (by intro j hj e; omega), h2.put (by decide) rfl, h3.keep (by decide) (by decide) (by intro j hj; omega)⟩
    · refine wpOp_of rfl rfl ?_
      have hd1 : listed.getD 1 false = true := by simp [Region.binds] at hk2; simp only [Array.getD_eq_getD_getElem?]; simp [hk2]
      have hd11 : listed.getD 11 false = true := by simp [Region.binds] at hk2; simp only [Array.getD_eq_getD_getElem?]; simp [hk2]
      have hd12 : listed.getD 12 false = true := by simp [Region.binds] at hk2; simp only [Array.getD_eq_getD_getElem?]; simp [hk2]
      have hlk : listed.getD 13 false = false := unlisted (by simp [Region.binds] at hk2; exact hk2.1)
      have e1 : a.eval (.tmp 11) = .map (some (w.heap.size + 2)) := h2.at (i := 1) (by decide) rfl hd1
      have e2 : a.eval (.tmp 18) = bkey 3 := h2.at (i := 11) (by decide) rfl hd11
      have e3 : a.eval (.tmp 19) = bval (w.heap.size + 1) 3 := h2.at (i := 12) (by decide) rfl hd12
      obtain ⟨X2, hrun, hI⟩ := h3.put h1 (by omega) hd1 (j := 3) (by decide) hlk
      unfold Oper.wp
      simp [execOp, e1, e2, e3, hrun, Result.andThen]
      exact ⟨h1, hdp.set (fun _ _ _ => hd1), h2.none rfl (by decide) _, hI⟩
    · refine wpOp_of rfl rfl ?_
      unfold Oper.wp
      simp only [execOp]
      (try go_simp)
      exact ⟨hdp.set (by intro j hj e; omega), h2.put (by decide) rfl, h3.keep (by decide) (by decide) (by intro j hj; omega)⟩
    · refine wpOp_of rfl rfl ?_
      unfold Oper.wp
      simp only [execOp]
      (try go_simp)
      exact ⟨hdp.set (by intro j hj e; omega), h2.put (by decide) rfl, h3.keep (by decide) (by decide) (by intro j hj; omega)⟩
    · refine wpOp_of rfl rfl ?_
      have hd1 : listed.getD 1 false = true := by simp [Region.binds] at hk2; simp only [Array.getD_eq_getD_getElem?]; simp [hk2]
      have hd14 : listed.getD 14 false = true := by simp [Region.binds] at hk2; simp only [Array.getD_eq_getD_getElem?]; simp [hk2]
      have hd15 : listed.getD 15 false = true := by simp [Region.binds] at hk2; simp only [Array.getD_eq_getD_getElem?]; simp [hk2]
      have hlk : listed.getD 16 false = false := unlisted (by simp [Region.binds] at hk2; exact hk2.1)
      have e1 : a.eval (.tmp 11) = .map (some (w.heap.size + 2)) := h2.at (i := 1) (by decide) rfl hd1
      have e2 : a.eval (.tmp 20) = bkey 4 := h2.at (i := 14) (by decide) rfl hd14
      have e3 : a.eval (.tmp 21) = bval (w.heap.size + 1) 4 := h2.at (i := 15) (by decide) rfl hd15
      obtain ⟨X2, hrun, hI⟩ := h3.put h1 (by omega) hd1 (j := 4) (by decide) hlk
      unfold Oper.wp
      simp [execOp, e1, e2, e3, hrun, Result.andThen]
      exact ⟨h1, hdp.set (fun _ _ _ => hd1), h2.none rfl (by decide) _, hI⟩
    · refine wpOp_of rfl rfl ?_
      unfold Oper.wp
      simp only [execOp]
      (try go_simp)
      exact ⟨hdp.set (by intro j hj e; omega), h2.put (by decide) rfl, h3.keep (by decide) (by decide) (by intro j hj; omega)⟩
    · refine wpOp_of rfl rfl ?_
      unfold Oper.wp
      simp only [execOp]
      (try go_simp)
      exact ⟨hdp.set (by intro j hj e; omega), h2.put (by decide) rfl, h3.keep (by decide) (by decide) (by intro j hj; omega)⟩
    · refine wpOp_of rfl rfl ?_
      have hd1 : listed.getD 1 false = true := by simp [Region.binds] at hk2; simp only [Array.getD_eq_getD_getElem?]; simp [hk2]
      have hd17 : listed.getD 17 false = true := by simp [Region.binds] at hk2; simp only [Array.getD_eq_getD_getElem?]; simp [hk2]
      have hd18 : listed.getD 18 false = true := by simp [Region.binds] at hk2; simp only [Array.getD_eq_getD_getElem?]; simp [hk2]
      have hlk : listed.getD 19 false = false := unlisted (by simp [Region.binds] at hk2; exact hk2.1)
      have e1 : a.eval (.tmp 11) = .map (some (w.heap.size + 2)) := h2.at (i := 1) (by decide) rfl hd1
      have e2 : a.eval (.tmp 22) = bkey 5 := h2.at (i := 17) (by decide) rfl hd17
      have e3 : a.eval (.tmp 23) = bval (w.heap.size + 1) 5 := h2.at (i := 18) (by decide) rfl hd18
      obtain ⟨X2, hrun, hI⟩ := h3.put h1 (by omega) hd1 (j := 5) (by decide) hlk
      unfold Oper.wp
      simp [execOp, e1, e2, e3, hrun, Result.andThen]
      exact ⟨h1, hdp.set (fun _ _ _ => hd1), h2.none rfl (by decide) _, hI⟩
    · refine wpOp_of rfl rfl ?_
      unfold Oper.wp
      simp only [execOp]
      (try go_simp)
      exact ⟨hdp.set (by intro j hj e; omega), h2.put (by decide) rfl, h3.keep (by decide) (by decide) (by intro j hj; omega)⟩
    · refine wpOp_of rfl rfl ?_
      unfold Oper.wp
      simp only [execOp]
      (try go_simp)
      exact ⟨hdp.set (by intro j hj e; omega), h2.put (by decide) rfl, h3.keep (by decide) (by decide) (by intro j hj; omega)⟩
    · refine wpOp_of rfl rfl ?_
      have hd1 : listed.getD 1 false = true := by simp [Region.binds] at hk2; simp only [Array.getD_eq_getD_getElem?]; simp [hk2]
      have hd20 : listed.getD 20 false = true := by simp [Region.binds] at hk2; simp only [Array.getD_eq_getD_getElem?]; simp [hk2]
      have hd21 : listed.getD 21 false = true := by simp [Region.binds] at hk2; simp only [Array.getD_eq_getD_getElem?]; simp [hk2]
      have hlk : listed.getD 22 false = false := unlisted (by simp [Region.binds] at hk2; exact hk2.1)
      have e1 : a.eval (.tmp 11) = .map (some (w.heap.size + 2)) := h2.at (i := 1) (by decide) rfl hd1
      have e2 : a.eval (.tmp 24) = bkey 6 := h2.at (i := 20) (by decide) rfl hd20
      have e3 : a.eval (.tmp 25) = bval (w.heap.size + 1) 6 := h2.at (i := 21) (by decide) rfl hd21
      obtain ⟨X2, hrun, hI⟩ := h3.put h1 (by omega) hd1 (j := 6) (by decide) hlk
      unfold Oper.wp
      simp [execOp, e1, e2, e3, hrun, Result.andThen]
      exact ⟨h1, hdp.set (fun _ _ _ => hd1), h2.none rfl (by decide) _, hI⟩
    · refine wpOp_of rfl rfl ?_
      have hd1 : listed.getD 1 false = true := by simp [Region.binds] at hk2; simp only [Array.getD_eq_getD_getElem?]; simp [hk2]
      have e1 : a.tmps[11]?.getD undef = .map (some (w.heap.size + 2)) := by rw [← Array.getD_eq_getD_getElem?]; exact h2.at (i := 1) (by decide) rfl hd1
      unfold Oper.wp
      simp only [execOp]
      (try go_simp)
      exact ⟨hdp.set (by intro j hj e; omega), h2.put (by decide) rfl, h3.keep (by decide) (by decide) (by intro j hj; omega)⟩
    · refine wpOp_of rfl rfl ?_
      have hd0 : listed.getD 0 false = true := by simp [Region.binds] at hk2; simp only [Array.getD_eq_getD_getElem?]; simp [hk2]
      have e1 : a.tmps[10]?.getD undef = .pointer (some ⟨w.heap.size, 0, none⟩) := by rw [← Array.getD_eq_getD_getElem?]; exact h2.at (i := 0) (by decide) rfl hd0
      unfold Oper.wp
      simp only [execOp]
      (try go_simp)
      exact ⟨hdp.set (by intro j hj e; omega), h2.put (by decide) rfl, h3.keep (by decide) (by decide) (by intro j hj; omega)⟩
    · refine wpOp_of rfl rfl ?_
      have hd24 : listed.getD 24 false = true := by simp [Region.binds] at hk2; simp only [Array.getD_eq_getD_getElem?]; simp [hk2]
      have e1 : a.tmps[27]?.getD undef = .pointer (some ⟨w.heap.size, 0, none⟩) := by rw [← Array.getD_eq_getD_getElem?]; exact h2.at (i := 24) (by decide) rfl hd24
      unfold Oper.wp
      simp only [execOp]
      (try go_simp)
      exact ⟨hdp.set (by intro j hj e; omega), h2.put (by decide) rfl, h3.keep (by decide) (by decide) (by intro j hj; omega)⟩
    · refine wpOp_of rfl rfl ?_
      have hd25 : listed.getD 25 false = true := by simp [Region.binds] at hk2; simp only [Array.getD_eq_getD_getElem?]; simp [hk2]
      have hd23 : listed.getD 23 false = true := by simp [Region.binds] at hk2; simp only [Array.getD_eq_getD_getElem?]; simp [hk2]
      have e1 : a.tmps[28]?.getD undef = .pointer (some ⟨w.heap.size, 3, none⟩) := by rw [← Array.getD_eq_getD_getElem?]; exact h2.at (i := 25) (by decide) rfl hd25
      have e2 : a.tmps[26]?.getD undef = .map (some (w.heap.size + 2)) := by rw [← Array.getD_eq_getD_getElem?]; exact h2.at (i := 23) (by decide) rfl hd23
      obtain ⟨q0, q1, q2, q3, q4, q5⟩ := h3.2.2.1.cells
      have hfz := h3.2.2.1.frozen 3
      unfold Oper.wp
      simp only [execOp]
      (try go_simp)
      exact ⟨hdp.set (by intro j hj e; omega), h2.none rfl (by decide) undef, h3.stored h1 (by omega)⟩
end Go.Proofs.YtngfbpmabdmkeaaGreatDoor
