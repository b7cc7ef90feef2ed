/- Words by their number: where each stands, and what the words joined so far are. -/
import Derived.Test.YtngfbpmabdmkeaaGreatDoorTokJoin
namespace Go.Proofs.YtngfbpmabdmkeaaGreatDoor

theorem Placed.get {S : List UInt8} : ∀ (W : List Wd) (lo k : Nat) (x : Wd), Placed S lo W → W[k]? = some x →
    lo ≤ x.a ∧ x.a + x.t.length ≤ S.length ∧ (S.drop x.a).take x.t.length = x.t ∧ (x.k = 3 ↔ k + 1 = W.length)
  | [], _, _, _, h, _ => absurd h (by simp [Placed])
  | [w], lo, 0, x, h, hx => by
    simp at hx
    subst hx
    obtain ⟨h1, h2, h3, h4⟩ := h
    rw [h2]
    exact ⟨h3, by simpa using h4, rfl, by simp [h1]⟩
  | [w], lo, k + 1, x, _, hx => by simp at hx
  | w :: v :: r, lo, 0, x, h, hx => by
    simp at hx
    subst hx
    obtain ⟨h1, h2, h3, h4, h5, h6⟩ := h
    exact ⟨h2, h3, h4, by simp [h1]⟩
  | w :: v :: r, lo, k + 1, x, h, hx => by
    obtain ⟨h1, h2, h3, h4, h5, h6⟩ := h
    obtain ⟨e1, e2, e3, e4⟩ := Placed.get (v :: r) _ k x h6 (by simpa using hx)
    refine ⟨by omega, e2, e3, ?_⟩
    rw [e4]
    simp

theorem Placed.next {S : List UInt8} : ∀ (W : List Wd) (lo k : Nat) (y x : Wd), Placed S lo W → W[k]? = some y → W[k + 1]? = some x → y.a + y.t.length ≤ x.a
  | [], _, _, _, _, h, _, _ => absurd h (by simp [Placed])
  | [w], _, k, _, x, _, _, hx => by simp at hx
  | w :: v :: r, lo, 0, y, x, h, hy, hx => by
    simp at hy
    subst hy
    obtain ⟨h1, h2, h3, h4, h5, h6⟩ := h
    exact (Placed.get (v :: r) _ 0 x h6 (by simpa using hx)).1
  | w :: v :: r, lo, k + 1, y, x, h, hy, hx => by
    obtain ⟨h1, h2, h3, h4, h5, h6⟩ := h
    exact Placed.next (v :: r) _ k y x h6 (by simpa using hy) (by simpa using hx)

theorem joinT_append (x : UInt8) : ∀ A B : List Wd, joinT x (A ++ B) = joinT x A ++ joinT x B
  | [], B => rfl
  | w :: A, B => by rw [List.cons_append, joinT, joinT, joinT_append x A B]; simp
theorem joinT_take {x : UInt8} {W : List Wd} {k : Nat} {w : Wd} (h : W[k]? = some w) : joinT x (W.take (k + 1)) = joinT x (W.take k) ++ (w.t ++ [x]) := by
  rw [List.take_add_one, h, joinT_append]
  rfl
theorem joinT_le (x : UInt8) (W : List Wd) (k : Nat) : (joinT x (W.take k)).length ≤ (joinT x W).length := by
  have := congrArg List.length (joinT_append x (W.take k) (W.drop k))
  rw [List.take_append_drop, List.length_append] at this
  omega

/-- An error stands inside its text. -/
theorem Sc.bad_lt {num : List UInt8 → Option Int} {l : List UInt8} {a : Nat} {W : List Wd} {r : Option (Int × Nat)} (h : Sc num l a W r) : ∀ e p, r = some (e, p) → a ≤ p ∧ p < a + l.length := by
  induction h with
  | done a => intro e p h; cases h
  | bad l a e hl ht =>
    intro e p h
    cases h
    have : 0 < l.length := List.length_pos_iff.2 hl
    omega
  | gap l a n ws r hl ht hs ih =>
    intro e p h
    obtain ⟨h1, h2⟩ := tok_gap hl ht
    have := ih e p h
    rw [List.length_drop] at this
    omega
  | word l a n k v ws r hl ht hs ih =>
    intro e p h
    obtain ⟨h1, h2⟩ := tok_word hl ht
    have := ih e p h
    rw [List.length_drop] at this
    omega
theorem Sc.bad_code {num : List UInt8 → Option Int} {l : List UInt8} {a : Nat} {W : List Wd} {r : Option (Int × Nat)} (h : Sc num l a W r) : ∀ e p, r = some (e, p) → e = 2 ∨ e = 10 := by
  induction h with
  | done a => intro e p h; cases h
  | bad l a e hl ht =>
    intro e p h
    cases h
    cases l with
    | nil => simp [tok] at ht
    | cons c r =>
      simp only [tok] at ht
      repeat' split at ht
      all_goals first
        | cases ht; done
        | (injection ht with h1; omega)
  | gap l a n ws r hl ht hs ih => exact ih
  | word l a n k v ws r hl ht hs ih => exact ih

theorem Sc.few {num : List UInt8 → Option Int} {l : List UInt8} {a : Nat} {X : List Wd} {r : Option (Int × Nat)} (h : Sc num l a X r) (hr : r = none) : X.length ≤ l.length + 1 := by
  induction h with
  | done a => exact Nat.le_refl _
  | bad l a e hl ht => cases hr
  | gap l a n ws r hl ht hs ih =>
    have := ih hr
    rw [List.length_drop] at this
    omega
  | word l a n k v ws r hl ht hs ih =>
    have h1 := tok_word hl ht
    have := ih hr
    rw [List.length_drop] at this
    rw [List.length_cons]
    omega

theorem Sc.some_words {num : List UInt8 → Option Int} {l : List UInt8} {a : Nat} {W : List Wd} {r : Option (Int × Nat)} (h : Sc num l a W r) (hr : r = none) : 0 < W.length := by
  induction h with
  | done a => exact Nat.one_pos
  | bad l a e hl ht => cases hr
  | gap l a n ws r hl ht hs ih => exact ih hr
  | word l a n k v ws r hl ht hs ih => exact Nat.succ_pos _

end Go.Proofs.YtngfbpmabdmkeaaGreatDoor
