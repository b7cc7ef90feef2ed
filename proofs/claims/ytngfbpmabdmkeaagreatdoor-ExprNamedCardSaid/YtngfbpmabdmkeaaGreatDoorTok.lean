/- Words of a text, as plain mathematics on lists of bytes: what a word is, what a text's words are, and what becomes of them where texts are joined. -/
namespace Go.Proofs.YtngfbpmabdmkeaaGreatDoor

def isBlank (c : UInt8) : Bool := c == 32 || c == 9 || c == 10 || c == 13
def isLetter (c : UInt8) : Bool := (decide (65 ≤ c.toNat) && decide (c.toNat ≤ 90)) || (decide (97 ≤ c.toNat) && decide (c.toNat ≤ 122)) || decide (c.toNat = 95)
def isDigit (c : UInt8) : Bool := decide (48 ≤ c.toNat) && decide (c.toNat ≤ 57)
def isPart (c : UInt8) : Bool := isLetter c || isDigit c
def pairL : List (List UInt8) := [[38, 38], [124, 124], [61, 61], [33, 61], [60, 61], [62, 61], [60, 60], [62, 62]]
def oneL : List UInt8 := [43, 45, 42, 47, 37, 38, 124, 94, 60, 62, 33, 61, 40, 41, 91, 93, 123, 125, 59, 44]

/-- How many bytes all letters and digits have with which a text begins. -/
def spanL (l : List UInt8) : Nat := (l.takeWhile isPart).length
/-- How many bytes there are up to the next newline, or the end. -/
def noteL (l : List UInt8) : Nat := (l.takeWhile (· != 10)).length
/-- How many bytes the longest sign has with which a text begins; 0: there is none. -/
def sgnLen : List UInt8 → Nat
  | [] => 0
  | [a] => if oneL.contains a then 1 else 0
  | a :: b :: _ => if pairL.contains [a, b] then 2 else if oneL.contains a then 1 else 0

inductive Tok where
  | gap (n : Nat)
  | word (k : Int) (n : Nat) (v : Int)
  | bad (e : Int)

/-- What a text begins with. -/
def tok (num : List UInt8 → Option Int) : List UInt8 → Tok
  | [] => .gap 0
  | c :: r =>
    if isBlank c = true then .gap 1
    else if c = 47 ∧ r.head? = some 47 then .gap (noteL (c :: r))
    else if isLetter c = true then (if 24 < spanL (c :: r) then .bad 2 else .word 0 (spanL (c :: r)) 0)
    else if isDigit c = true then (match num ((c :: r).take (spanL (c :: r))) with | some v => .word 1 (spanL (c :: r)) v | none => .bad 10)
    else if sgnLen (c :: r) = 0 then .bad 10
    else .word 2 (sgnLen (c :: r)) 0

/-- A word: its kind, its text, its number, where it begins. -/
structure Wd where
  k : Int
  t : List UInt8
  n : Int
  a : Nat

/-- 'Sc num l a ws r': the text l, which begins at place a, has the words ws, and the error r, if there is one. -/
inductive Sc (num : List UInt8 → Option Int) : List UInt8 → Nat → List Wd → Option (Int × Nat) → Prop
  | done (a : Nat) : Sc num [] a [⟨3, [], 0, a⟩] none
  | bad (l : List UInt8) (a : Nat) (e : Int) : l ≠ [] → tok num l = .bad e → Sc num l a [] (some (e, a))
  | gap (l : List UInt8) (a n : Nat) (ws : List Wd) (r : Option (Int × Nat)) : l ≠ [] → tok num l = .gap n → Sc num (l.drop n) (a + n) ws r → Sc num l a ws r
  | word (l : List UInt8) (a n : Nat) (k v : Int) (ws : List Wd) (r : Option (Int × Nat)) : l ≠ [] → tok num l = .word k n v → Sc num (l.drop n) (a + n) ws r → Sc num l a (⟨k, l.take n, v, a⟩ :: ws) r

theorem span_le (l : List UInt8) : spanL l ≤ l.length := by
  unfold spanL
  exact List.Sublist.length_le (List.takeWhile_sublist _)
theorem note_le (l : List UInt8) : noteL l ≤ l.length := by
  unfold noteL
  exact List.Sublist.length_le (List.takeWhile_sublist _)
theorem span_pos {c : UInt8} {r : List UInt8} (h : isPart c = true) : 1 ≤ spanL (c :: r) := by
  unfold spanL
  rw [List.takeWhile_cons, if_pos h]
  simp
theorem sgn_le (l : List UInt8) : sgnLen l ≤ l.length := by
  match l with
  | [] => simp [sgnLen]
  | [a] => simp only [sgnLen]; split <;> simp
  | a :: b :: r => simp only [sgnLen]; split <;> (try split) <;> simp <;> omega

section
variable {num : List UInt8 → Option Int} {l : List UInt8}

/-- What is read is never empty, and never more than there is. -/
theorem tok_gap {n : Nat} (hl : l ≠ []) (h : tok num l = .gap n) : 1 ≤ n ∧ n ≤ l.length := by
  obtain ⟨c, r, rfl⟩ := List.exists_cons_of_ne_nil hl
  simp only [tok] at h
  split at h
  · injection h with h; subst h; simp
  · split at h
    · rename_i h2
      injection h with h
      subst h
      refine ⟨?_, note_le _⟩
      unfold noteL
      rw [List.takeWhile_cons, if_pos (by rw [h2.1]; decide)]
      simp
    · split at h
      · split at h <;> cases h
      · split at h
        · split at h <;> cases h
        · split at h <;> cases h

theorem tok_word {n : Nat} {k v : Int} (hl : l ≠ []) (h : tok num l = .word k n v) : 1 ≤ n ∧ n ≤ l.length := by
  obtain ⟨c, r, rfl⟩ := List.exists_cons_of_ne_nil hl
  simp only [tok] at h
  split at h
  · cases h
  · split at h
    · cases h
    · split at h
      · rename_i h3
        split at h
        · cases h
        · injection h with h1 h2 h3'
          subst h2
          exact ⟨span_pos (by simp [isPart, h3]), span_le _⟩
      · split at h
        · rename_i h4
          split at h
          · injection h with h1 h2 h3'
            subst h2
            exact ⟨span_pos (by simp [isPart, h4]), span_le _⟩
          · cases h
        · split at h
          · cases h
          · rename_i h5
            injection h with h1 h2 h3'
            subst h2
            exact ⟨by omega, sgn_le _⟩

theorem Sc.total (num : List UInt8 → Option Int) : ∀ (m : Nat) (l : List UInt8) (a : Nat), l.length ≤ m → ∃ ws r, Sc num l a ws r := by
  intro m
  induction m with
  | zero =>
    intro l a h
    have : l = [] := List.eq_nil_of_length_eq_zero (by omega)
    subst this
    exact ⟨_, _, .done a⟩
  | succ m ih =>
    intro l a h
    by_cases hl : l = []
    · subst hl
      exact ⟨_, _, .done a⟩
    · cases ht : tok num l with
      | gap n =>
        obtain ⟨h1, h2⟩ := tok_gap hl ht
        obtain ⟨ws, r, hs⟩ := ih (l.drop n) (a + n) (by rw [List.length_drop]; omega)
        exact ⟨ws, r, .gap l a n ws r hl ht hs⟩
      | word k n v =>
        obtain ⟨h1, h2⟩ := tok_word hl ht
        obtain ⟨ws, r, hs⟩ := ih (l.drop n) (a + n) (by rw [List.length_drop]; omega)
        exact ⟨_, r, .word l a n k v ws r hl ht hs⟩
      | bad e => exact ⟨_, _, .bad l a e hl ht⟩

theorem Sc.nil_inv {a : Nat} {ws : List Wd} {r : Option (Int × Nat)} (h : Sc num [] a ws r) : ws = [⟨3, [], 0, a⟩] ∧ r = none := by
  cases h with
  | done => exact ⟨rfl, rfl⟩
  | bad _ _ _ h => exact absurd rfl h
  | gap _ _ _ _ _ h => exact absurd rfl h
  | word _ _ _ _ _ _ _ h => exact absurd rfl h
theorem Sc.gap_inv {a n : Nat} {ws : List Wd} {r : Option (Int × Nat)} (h : Sc num l a ws r) (hl : l ≠ []) (ht : tok num l = .gap n) : Sc num (l.drop n) (a + n) ws r := by
  cases h with
  | done => exact absurd rfl hl
  | bad _ _ _ _ h2 => rw [ht] at h2; cases h2
  | gap _ _ _ _ _ _ h2 h3 => rw [ht] at h2; cases h2; exact h3
  | word _ _ _ _ _ _ _ _ h2 => rw [ht] at h2; cases h2
theorem Sc.word_inv {a n : Nat} {k v : Int} {ws : List Wd} {r : Option (Int × Nat)} (h : Sc num l a ws r) (hl : l ≠ []) (ht : tok num l = .word k n v) : ∃ ws', ws = ⟨k, l.take n, v, a⟩ :: ws' ∧ Sc num (l.drop n) (a + n) ws' r := by
  cases h with
  | done => exact absurd rfl hl
  | bad _ _ _ _ h2 => rw [ht] at h2; cases h2
  | gap _ _ _ _ _ _ h2 h3 => rw [ht] at h2; cases h2
  | word _ _ _ _ _ _ _ _ h2 h3 => rw [ht] at h2; cases h2; exact ⟨_, rfl, h3⟩
theorem Sc.bad_inv {a : Nat} {e : Int} {ws : List Wd} {r : Option (Int × Nat)} (h : Sc num l a ws r) (hl : l ≠ []) (ht : tok num l = .bad e) : ws = [] ∧ r = some (e, a) := by
  cases h with
  | done => exact absurd rfl hl
  | bad _ _ _ _ h2 => rw [ht] at h2; cases h2; exact ⟨rfl, rfl⟩
  | gap _ _ _ _ _ _ h2 h3 => rw [ht] at h2; cases h2
  | word _ _ _ _ _ _ _ _ h2 => rw [ht] at h2; cases h2
end
end Go.Proofs.YtngfbpmabdmkeaaGreatDoor
