/- Rows of numbers that rise, plainly: one more put in its place; no program. -/
namespace Go.Proofs.YtacgfjcdfgdpjaaDoor
set_option linter.unusedSimpArgs false
set_option linter.unusedVariables false

/-- One more number in its place, if it isn't there. -/
def insG : List Int → Int → List Int
  | [], n => [n]
  | x :: r, n => if x < n then x :: insG r n else if x = n then x :: r else n :: x :: r
/-- Numbers, rising, each once. -/
def srt (l : List Int) : List Int := l.foldl insG []
abbrev Up (l : List Int) : Prop := l.Pairwise (· < ·)

theorem mem_insG {l : List Int} {n x : Int} : x ∈ insG l n ↔ x = n ∨ x ∈ l := by
  induction l with
  | nil => simp [insG]
  | cons y r ih =>
    unfold insG
    by_cases h : y < n
    · rw [if_pos h]
      simp only [List.mem_cons, ih]
      constructor
      · rintro (h | h | h)
        · exact .inr (.inl h)
        · exact .inl h
        · exact .inr (.inr h)
      · rintro (h | h | h)
        · exact .inr (.inl h)
        · exact .inl h
        · exact .inr (.inr h)
    · rw [if_neg h]
      by_cases e : y = n
      · rw [if_pos e]
        simp only [List.mem_cons]
        constructor
        · rintro (h | h)
          · exact .inr (.inl h)
          · exact .inr (.inr h)
        · rintro (h | h | h)
          · exact .inl (h.trans e.symm)
          · exact .inl h
          · exact .inr h
      · rw [if_neg e]
        simp only [List.mem_cons]
theorem up_insG {l : List Int} {n : Int} (h : Up l) : Up (insG l n) := by
  induction l with
  | nil => exact List.pairwise_singleton _ _
  | cons y r ih =>
    have h1 := List.pairwise_cons.1 h
    unfold insG
    by_cases hlt : y < n
    · rw [if_pos hlt]
      refine List.pairwise_cons.2 ⟨fun z hz => ?_, ih h1.2⟩
      rcases mem_insG.1 hz with rfl | hz
      · exact hlt
      · exact h1.1 z hz
    · rw [if_neg hlt]
      by_cases e : y = n
      · rw [if_pos e]
        exact h
      · rw [if_neg e]
        refine List.pairwise_cons.2 ⟨fun z hz => ?_, h⟩
        rcases List.mem_cons.1 hz with rfl | hz
        · omega
        · have := h1.1 z hz
          omega
theorem insG_len (l : List Int) (n : Int) : (insG l n).length ≤ l.length + 1 := by
  induction l with
  | nil => exact Nat.le_refl _
  | cons y r ih =>
    unfold insG
    split
    · simp only [List.length_cons]
      omega
    · split
      · simp
      · simp
theorem fold_facts (l a : List Int) (h : Up a) : Up (l.foldl insG a) ∧ (l.foldl insG a).length ≤ a.length + l.length ∧ ∀ x, x ∈ l.foldl insG a ↔ x ∈ l ∨ x ∈ a := by
  induction l generalizing a with
  | nil => exact ⟨h, by simp, fun x => by simp⟩
  | cons y r ih =>
    obtain ⟨h1, h2, h3⟩ := ih (insG a y) (up_insG h)
    have h4 := insG_len a y
    refine ⟨h1, by simp only [List.foldl_cons, List.length_cons]; omega, fun x => ?_⟩
    simp only [List.foldl_cons, List.mem_cons]
    rw [h3 x, mem_insG]
    constructor
    · rintro (h | h | h)
      · exact .inl (.inr h)
      · exact .inl (.inl h)
      · exact .inr h
    · rintro ((h | h) | h)
      · exact .inr (.inl h)
      · exact .inl h
      · exact .inr (.inr h)
theorem up_srt (l : List Int) : Up (srt l) := (fold_facts l [] List.Pairwise.nil).1
theorem mem_srt {l : List Int} {x : Int} : x ∈ srt l ↔ x ∈ l := by
  have := (fold_facts l [] List.Pairwise.nil).2.2 x
  simpa [srt] using this
theorem srt_len (l : List Int) : (srt l).length ≤ l.length := by
  have := (fold_facts l [] List.Pairwise.nil).2.1
  simpa [srt] using this
theorem srt_take (l : List Int) (k : Nat) (x : Int) (h : l[k]? = some x) : srt (l.take (k + 1)) = insG (srt (l.take k)) x := by
  unfold srt
  rw [List.take_add_one, h]
  simp [List.foldl_append]

/-- Two rows that rise and hold the same are the same. -/
theorem up_ext : ∀ {l m : List Int}, Up l → Up m → (∀ x, x ∈ l ↔ x ∈ m) → l = m
  | [], [], _, _, _ => rfl
  | [], y :: m, _, _, h => absurd ((h y).2 (List.mem_cons_self ..)) (by simp)
  | x :: l, [], _, _, h => absurd ((h x).1 (List.mem_cons_self ..)) (by simp)
  | x :: l, y :: m, hl, hm, h => by
    have h1 := List.pairwise_cons.1 hl
    have h2 := List.pairwise_cons.1 hm
    have e : x = y := by
      rcases List.mem_cons.1 ((h x).1 (List.mem_cons_self ..)) with e | e
      · exact e
      · rcases List.mem_cons.1 ((h y).2 (List.mem_cons_self ..)) with e2 | e2
        · exact e2.symm
        · have a := h2.1 x e
          have b := h1.1 y e2
          omega
    subst e
    rw [up_ext h1.2 h2.2 (fun z => ?_)]
    constructor
    · intro hz
      rcases List.mem_cons.1 ((h z).1 (List.mem_cons_of_mem _ hz)) with e | e
      · have := h1.1 z hz
        omega
      · exact e
    · intro hz
      rcases List.mem_cons.1 ((h z).2 (List.mem_cons_of_mem _ hz)) with e | e
      · have := h2.1 z hz
        omega
      · exact e
theorem up_filter {l : List Int} (p : Int → Bool) (h : Up l) : Up (l.filter p) := List.Pairwise.sublist List.filter_sublist h
theorem up_le {l : List Int} (h : Up l) : l.Pairwise (· ≤ ·) := h.imp (fun h => by omega)

/-- How it stands with what a search by halves tells: where it is, and whether it is there. -/
theorem count_ge {l : List Int} {n : Int} (h : ∀ x ∈ l, n ≤ x) : l.countP (· < n) = 0 := by
  rw [List.countP_eq_zero]
  intro x hx
  have := h x hx
  simp
  omega
theorem insG_at {l : List Int} {n : Int} (h : Up l) : insG l n = if l.contains n then l else l.take (l.countP (· < n)) ++ n :: l.drop (l.countP (· < n)) := by
  induction l with
  | nil => rfl
  | cons y r ih =>
    have h1 := List.pairwise_cons.1 h
    unfold insG
    by_cases hlt : y < n
    · rw [if_pos hlt, ih h1.2, List.countP_cons_of_pos (by simpa using hlt)]
      have e : (y :: r).contains n = r.contains n := by
        rw [Bool.eq_iff_iff, List.contains_iff_mem, List.contains_iff_mem, List.mem_cons]
        constructor
        · rintro (rfl | h)
          · omega
          · exact h
        · exact .inr
      rw [e]
      split
      · rfl
      · rw [List.take_succ_cons, List.drop_succ_cons, List.cons_append]
    · rw [if_neg hlt]
      have hc : (y :: r).countP (· < n) = 0 := count_ge (fun x hx => by
        rcases List.mem_cons.1 hx with rfl | hx
        · omega
        · have := h1.1 x hx
          omega)
      by_cases e : y = n
      · rw [if_pos e, if_pos (by rw [List.contains_iff_mem, e]; exact List.mem_cons_self ..)]
      · rw [if_neg e, hc, if_neg]
        · rfl
        · rw [List.contains_iff_mem]
          intro hm
          rcases List.mem_cons.1 hm with rfl | hm
          · exact e rfl
          · have := h1.1 n hm
            omega

/-- The document's way: one after the other, with the new one ahead of the first that isn't below it. -/
def addS (n : Int) (s : List Int × Bool) (x : Int) : List Int × Bool :=
  let b := decide (n ≤ x) && !s.2
  (if x = n then (if b then s.1 ++ [n] else s.1) else (if b then s.1 ++ [n] else s.1) ++ [x], s.2 || b)
def addF (n : Int) (l : List Int) : List Int × Bool := l.foldl (addS n) ([], false)
def addR (l : List Int) (n : Int) : List Int := if n < 0 then l else if (addF n l).2 then (addF n l).1 else (addF n l).1 ++ [n]
theorem addF_take (n : Int) (l : List Int) (k : Nat) (x : Int) (h : l[k]? = some x) : addF n (l.take (k + 1)) = addS n (addF n (l.take k)) x := by
  unfold addF
  rw [List.take_add_one, h]
  simp [List.foldl_append]
theorem addS_yes (n : Int) (l a : List Int) (h : ∀ x ∈ l, n < x) : l.foldl (addS n) (a, true) = (a ++ l, true) := by
  induction l generalizing a with
  | nil => simp
  | cons y r ih =>
    have hy := h y (List.mem_cons_self ..)
    rw [List.foldl_cons]
    have e : addS n (a, true) y = (a ++ [y], true) := by
      unfold addS
      simp
      omega
    rw [e, ih _ (fun x hx => h x (List.mem_cons_of_mem _ hx))]
    simp
theorem addS_no (n : Int) (l a : List Int) (h : Up l) : (let s := l.foldl (addS n) (a, false); if s.2 then s.1 else s.1 ++ [n]) = a ++ insG l n := by
  induction l generalizing a with
  | nil => rfl
  | cons y r ih =>
    have h1 := List.pairwise_cons.1 h
    rw [List.foldl_cons]
    unfold insG
    by_cases hlt : y < n
    · have e : addS n (a, false) y = (a ++ [y], false) := by
        unfold addS
        have : ¬ n ≤ y := by omega
        have h2 : ¬ y = n := by omega
        simp [this, h2]
      rw [e, if_pos hlt, ih _ h1.2]
      simp
    · rw [if_neg hlt]
      by_cases hy : y = n
      · have e : addS n (a, false) y = (a ++ [n], true) := by
          unfold addS
          have : n ≤ y := by omega
          simp [this, hy]
        rw [e, if_pos hy, addS_yes n r _ (fun x hx => by have := h1.1 x hx; omega)]
        simp [hy]
      · have e : addS n (a, false) y = (a ++ [n, y], true) := by
          unfold addS
          have : n ≤ y := by omega
          simp [this, hy]
        rw [e, if_neg hy, addS_yes n r _ (fun x hx => by have := h1.1 x hx; omega)]
        simp
theorem addR_eq {l : List Int} {n : Int} (h : Up l) : addR l n = if n < 0 then l else insG l n := by
  unfold addR
  by_cases hn : n < 0
  · rw [if_pos hn, if_pos hn]
  · rw [if_neg hn, if_neg hn]
    have := addS_no n l [] h
    rw [List.nil_append] at this
    exact this
theorem up_addR {l : List Int} {n : Int} (h : Up l) : Up (addR l n) := by
  rw [addR_eq h]
  split
  · exact h
  · exact up_insG h
theorem mem_addR {l : List Int} {n x : Int} (h : Up l) : x ∈ addR l n ↔ (0 ≤ n ∧ x = n) ∨ x ∈ l := by
  rw [addR_eq h]
  split
  · rename_i hn
    constructor
    · exact .inr
    · rintro (⟨h1, _⟩ | h)
      · omega
      · exact h
  · rename_i hn
    rw [mem_insG]
    constructor
    · rintro (h | h)
      · exact .inl ⟨by omega, h⟩
      · exact .inr h
    · rintro (⟨_, h⟩ | h)
      · exact .inl h
      · exact .inr h
end Go.Proofs.YtacgfjcdfgdpjaaDoor
