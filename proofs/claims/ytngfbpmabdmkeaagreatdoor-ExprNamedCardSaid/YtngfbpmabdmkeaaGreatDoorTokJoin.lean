/- What becomes of a text's words where texts are joined: with a note between, and where the words themselves are joined with spaces or newlines. -/
import Derived.Test.YtngfbpmabdmkeaaGreatDoorTok
namespace Go.Proofs.YtngfbpmabdmkeaaGreatDoor

theorem takeWhile_stop {α : Type} (p : α → Bool) (x : α) (hx : p x = false) (tl : List α) : ∀ l : List α, (l ++ x :: tl).takeWhile p = l.takeWhile p
  | [] => by simp [List.takeWhile_cons, hx]
  | c :: r => by
    rw [List.cons_append, List.takeWhile_cons, List.takeWhile_cons, takeWhile_stop p x hx tl r]
theorem takeWhile_twice {α : Type} (p : α → Bool) : ∀ l : List α, (l.takeWhile p).takeWhile p = l.takeWhile p
  | [] => rfl
  | c :: r => by
    rw [List.takeWhile_cons]
    split
    · rename_i h
      rw [List.takeWhile_cons, if_pos h, takeWhile_twice p r]
    · rfl
theorem take_takeWhile {α : Type} (p : α → Bool) : ∀ l : List α, l.take (l.takeWhile p).length = l.takeWhile p
  | [] => rfl
  | c :: r => by
    rw [List.takeWhile_cons]
    split
    · simp [take_takeWhile p r]
    · simp

theorem takeWhile_all {α : Type} (p : α → Bool) : ∀ l : List α, (∀ c ∈ l, p c = true) → l.takeWhile p = l
  | [], _ => rfl
  | c :: r, h => by
    rw [List.takeWhile_cons, if_pos (h c (by simp)), takeWhile_all p r (fun d hd => h d (by simp [hd]))]

/-- A sign that ends a word, and is a blank. -/
def Sep (x : UInt8) : Prop := x = 32 ∨ x = 10
theorem Sep.part {x : UInt8} (h : Sep x) : isPart x = false := by rcases h with rfl | rfl <;> decide
theorem Sep.blank {x : UInt8} (h : Sep x) : isBlank x = true := by rcases h with rfl | rfl <;> decide
theorem Sep.slash {x : UInt8} (h : Sep x) : x ≠ 47 := by rcases h with rfl | rfl <;> decide
theorem Sep.pair {x : UInt8} (h : Sep x) (a : UInt8) : pairL.contains [a, x] = false := by rcases h with rfl | rfl <;> simp [pairL]

section
variable {num : List UInt8 → Option Int} {l : List UInt8}

theorem sgn_stop {x : UInt8} (hx : Sep x) (tl : List UInt8) : ∀ l : List UInt8, l ≠ [] → sgnLen (l ++ x :: tl) = sgnLen l
  | [], h => absurd rfl h
  | [a], _ => by simp only [List.cons_append, List.nil_append, sgnLen, hx.pair]; rfl
  | a :: b :: r, _ => rfl

/-- A newline behind a text doesn't change what it begins with. -/
theorem tok_stop {tl : List UInt8} (hl : l ≠ []) : tok num (l ++ 10 :: tl) = tok num l := by
  have hx : Sep 10 := Or.inr rfl
  have e1 : spanL (l ++ 10 :: tl) = spanL l := by unfold spanL; rw [takeWhile_stop isPart 10 hx.part]
  have e2 : noteL (l ++ 10 :: tl) = noteL l := by unfold noteL; rw [takeWhile_stop _ 10 (by decide)]
  have e3 := sgn_stop hx tl l hl
  have e4 : (l ++ 10 :: tl).take (spanL l) = l.take (spanL l) := List.take_append_of_le_length (span_le l)
  obtain ⟨c, r, rfl⟩ := List.exists_cons_of_ne_nil hl
  have e5 : ((r ++ 10 :: tl).head? = some 47) = (r.head? = some 47) := by
    cases r with
    | nil => simp
    | cons d r => simp
  rw [List.cons_append] at e1 e2 e3 e4 ⊢
  simp only [tok, e1, e2, e3, e4, e5]

theorem drop_app {n : Nat} {tl : List UInt8} (h : n ≤ l.length) : (l ++ tl).drop n = l.drop n ++ tl := List.drop_append_of_le_length h
theorem take_app {n : Nat} {tl : List UInt8} (h : n ≤ l.length) : (l ++ tl).take n = l.take n := List.take_append_of_le_length h

theorem Sc.join {a : Nat} {ws : List Wd} {r : Option (Int × Nat)} (h : Sc num l a ws r) (hr : r = none) :
    ∃ ws0, ws = ws0 ++ [⟨3, [], 0, a + l.length⟩] ∧ ∀ tl ws2 r2, Sc num (10 :: tl) (a + l.length) ws2 r2 → Sc num (l ++ 10 :: tl) a (ws0 ++ ws2) r2 := by
  induction h with
  | done a => exact ⟨[], rfl, fun tl ws2 r2 h => h⟩
  | bad l a e hl ht => cases hr
  | gap l a n ws r hl ht hs ih =>
    obtain ⟨h1, h2⟩ := tok_gap hl ht
    obtain ⟨ws0, e1, h3⟩ := ih hr
    have e2 : a + n + (l.drop n).length = a + l.length := by rw [List.length_drop]; omega
    rw [e2] at e1 h3
    refine ⟨ws0, e1, fun tl ws2 r2 h => ?_⟩
    refine .gap _ a n _ _ (by simp) ((tok_stop hl).trans ht) ?_
    rw [drop_app h2]
    exact h3 tl ws2 r2 h
  | word l a n k v ws r hl ht hs ih =>
    obtain ⟨h1, h2⟩ := tok_word hl ht
    obtain ⟨ws0, e1, h3⟩ := ih hr
    have e2 : a + n + (l.drop n).length = a + l.length := by rw [List.length_drop]; omega
    rw [e2] at e1 h3
    refine ⟨⟨k, l.take n, v, a⟩ :: ws0, by rw [e1]; rfl, fun tl ws2 r2 h => ?_⟩
    have := Sc.word (num := num) (l ++ 10 :: tl) a n k v (ws0 ++ ws2) r2 (by simp) ((tok_stop hl).trans ht) (by rw [drop_app h2]; exact h3 tl ws2 r2 h)
    rw [take_app h2] at this
    exact this

theorem Sc.joinBad {a : Nat} {ws : List Wd} {r : Option (Int × Nat)} (h : Sc num l a ws r) (hr : r ≠ none) (tl : List UInt8) : Sc num (l ++ 10 :: tl) a ws r := by
  induction h with
  | done a => exact absurd rfl hr
  | bad l a e hl ht => exact .bad _ a e (by simp) ((tok_stop hl).trans ht)
  | gap l a n ws r hl ht hs ih =>
    obtain ⟨h1, h2⟩ := tok_gap hl ht
    refine .gap _ a n _ _ (by simp) ((tok_stop hl).trans ht) ?_
    rw [drop_app h2]
    exact ih hr
  | word l a n k v ws r hl ht hs ih =>
    obtain ⟨h1, h2⟩ := tok_word hl ht
    have := Sc.word (num := num) (l ++ 10 :: tl) a n k v ws r (by simp) ((tok_stop hl).trans ht) (by rw [drop_app h2]; exact ih hr)
    rw [take_app h2] at this
    exact this

/-- A text's words, wherever it begins. -/
theorem Sc.shift {a : Nat} {ws : List Wd} {r : Option (Int × Nat)} (h : Sc num l a ws r) (d : Nat) : Sc num l (a + d) (ws.map fun w => ⟨w.k, w.t, w.n, w.a + d⟩) (r.map fun x => (x.1, x.2 + d)) := by
  induction h with
  | done a => exact .done _
  | bad l a e hl ht => exact .bad _ _ e hl ht
  | gap l a n ws r hl ht hs ih =>
    refine .gap _ _ n _ _ hl ht ?_
    rw [show a + d + n = a + n + d by omega]
    exact ih
  | word l a n k v ws r hl ht hs ih =>
    refine .word _ _ n k v _ _ hl ht ?_
    rw [show a + d + n = a + n + d by omega]
    exact ih

theorem tok_nl (num : List UInt8 → Option Int) (tl : List UInt8) : tok num (10 :: tl) = .gap 1 := by simp [tok, isBlank]
theorem tok_sep {x : UInt8} (h : Sep x) (num : List UInt8 → Option Int) (tl : List UInt8) : tok num (x :: tl) = .gap 1 := by simp [tok, h.blank]
theorem tok_note (num : List UInt8 → Option Int) (nt tl : List UInt8) (h : ∀ c ∈ nt, c ≠ 10) : tok num (47 :: 47 :: (nt ++ 10 :: tl)) = .gap (2 + nt.length) := by
  have e : noteL (47 :: 47 :: (nt ++ 10 :: tl)) = 2 + nt.length := by
    have e0 : nt.takeWhile (fun c : UInt8 => c != 10) = nt := takeWhile_all _ _ (fun c hc => by simpa using h c hc)
    unfold noteL
    rw [List.takeWhile_cons, if_pos (by decide), List.takeWhile_cons, if_pos (by decide), takeWhile_stop _ 10 (by decide), e0]
    simp
    omega
  simp only [tok]
  rw [if_neg (by decide), if_pos (by simp), e]

/-- A note between two texts. -/
theorem Sc.note {b : Nat} {ws : List Wd} {r : Option (Int × Nat)} {t nt : List UInt8} (hn : ∀ c ∈ nt, c ≠ 10) (h : Sc num t (b + (nt.length + 4)) ws r) : Sc num (10 :: 47 :: 47 :: (nt ++ 10 :: t)) b ws r := by
  refine .gap _ b 1 _ _ (by simp) (tok_nl num _) ?_
  show Sc num (47 :: 47 :: (nt ++ 10 :: t)) (b + 1) ws r
  refine .gap _ (b + 1) (2 + nt.length) _ _ (by simp) (tok_note num nt t hn) ?_
  have e : (47 :: 47 :: (nt ++ 10 :: t)).drop (2 + nt.length) = 10 :: t := by
    rw [Nat.add_comm, List.drop_succ_cons, List.drop_succ_cons, List.drop_left]
  rw [e]
  refine .gap _ _ 1 _ _ (by simp) (tok_nl num _) ?_
  rw [show b + 1 + (2 + nt.length) + 1 = b + (nt.length + 4) by omega]
  exact h

/-- A word, and a blank behind it: the same word. -/
theorem tok_again {n : Nat} {k v : Int} {x : UInt8} (hx : Sep x) (hl : l ≠ []) (h : tok num l = .word k n v) (tl : List UInt8) : tok num (l.take n ++ x :: tl) = .word k n v := by
  obtain ⟨c, r, rfl⟩ := List.exists_cons_of_ne_nil hl
  obtain ⟨h1, h2⟩ := tok_word hl h
  obtain ⟨m, rfl⟩ : ∃ m, n = m + 1 := ⟨n - 1, by omega⟩
  have hspan : spanL (c :: r) = m + 1 → spanL ((c :: r).take (m + 1) ++ x :: tl) = m + 1 := by
    intro hs
    unfold spanL at hs ⊢
    rw [takeWhile_stop isPart x hx.part, ← hs, take_takeWhile, takeWhile_twice]
  have htk : spanL (c :: r) = m + 1 → ((c :: r).take (m + 1) ++ x :: tl).take (m + 1) = (c :: r).take (m + 1) := by
    intro hs
    have : ((c :: r).take (m + 1)).length = m + 1 := by rw [List.length_take]; omega
    rw [List.take_append_of_le_length (by omega), List.take_of_length_le (by omega)]
  rw [List.take_succ_cons, List.cons_append] at hspan htk ⊢
  simp only [tok] at h ⊢
  split at h
  · cases h
  rename_i hb
  rw [if_neg hb]
  split at h
  · cases h
  rename_i hnote
  split at h
  · rename_i hlet
    have hc : c ≠ 47 := by
      rintro rfl
      exact absurd hlet (by decide)
    rw [if_neg (fun hh => hc hh.1), if_pos hlet]
    split at h
    · cases h
    · rename_i hlen
      injection h with e1 e2 e3
      rw [hspan e2, if_neg (by omega)]
      subst e1
      subst e3
      rfl
  · rename_i hlet
    split at h
    · rename_i hdig
      have hc : c ≠ 47 := by
        rintro rfl
        exact absurd hdig (by decide)
      rw [if_neg (fun hh => hc hh.1), if_neg hlet, if_pos hdig]
      split at h
      · rename_i v' hv
        injection h with e1 e2 e3
        rw [e2, List.take_succ_cons] at hv
        rw [hspan e2, htk e2, hv]
        simp [e1, e3]
      · cases h
    · rename_i hdig
      split at h
      · cases h
      · rename_i hz
        injection h with e1 e2 e3
        have key : sgnLen (c :: (r.take m ++ x :: tl)) = m + 1 ∧ (c = 47 → (r.take m ++ x :: tl).head? ≠ some 47) := by
          match r, e2 with
          | [], e2 =>
            simp only [sgnLen] at e2
            split at e2
            · rename_i hc
              obtain rfl : m = 0 := by omega
              refine ⟨?_, fun _ => ?_⟩
              · simp only [List.take_zero, List.nil_append, sgnLen, hx.pair, hc]
                rfl
              · simpa using hx.slash
            · omega
          | b :: r, e2 =>
            simp only [sgnLen] at e2
            split at e2
            · rename_i hp
              obtain rfl : m = 1 := by omega
              refine ⟨?_, fun hc => ?_⟩
              · simp only [List.take_succ_cons, List.take_zero, List.cons_append, List.nil_append, sgnLen, hp]
                rfl
              · subst hc
                simp [pairL] at hp
            · split at e2
              · rename_i hc
                obtain rfl : m = 0 := by omega
                refine ⟨?_, fun _ => ?_⟩
                · simp only [List.take_zero, List.nil_append, sgnLen, hx.pair, hc]
                  rfl
                · simpa using hx.slash
              · omega
        rw [if_neg (fun hh => key.2 hh.1 hh.2), if_neg hlet, if_neg hdig, key.1, if_neg (by omega), e1, e3]

/-- What a word is, wherever it stands. -/
def Wd.key (w : Wd) : Int × List UInt8 × Int := (w.k, w.t, w.n)
/-- Words, each with a blank behind it. -/
def joinT (x : UInt8) : List Wd → List UInt8
  | [] => []
  | w :: r => w.t ++ x :: joinT x r

/-- Words joined with blanks are the same words again. -/
theorem Sc.again {a : Nat} {ws : List Wd} {r : Option (Int × Nat)} (h : Sc num l a ws r) (hr : r = none) {x : UInt8} (hx : Sep x) : ∀ b, ∃ ws', Sc num (joinT x ws) b ws' none ∧ ws'.map Wd.key = ws.map Wd.key := by
  induction h with
  | done a =>
    intro b
    exact ⟨[⟨3, [], 0, b + 1⟩], .gap _ b 1 _ _ (by simp [joinT]) (tok_sep hx num _) (.done _), rfl⟩
  | bad l a e hl ht => cases hr
  | gap l a n ws r hl ht hs ih => exact ih hr
  | word l a n k v ws r hl ht hs ih =>
    intro b
    obtain ⟨h1, h2⟩ := tok_word hl ht
    obtain ⟨ws', h3, h4⟩ := ih hr (b + n + 1)
    have hlen : (l.take n).length = n := by rw [List.length_take]; omega
    refine ⟨⟨k, l.take n, v, b⟩ :: ws', ?_, by rw [List.map_cons, List.map_cons, h4]; rfl⟩
    have hw := Sc.word (num := num) (l.take n ++ x :: joinT x ws) b n k v ws' none (by simp) (tok_again hx hl ht _) (by
      rw [List.drop_left' hlen]
      exact .gap _ _ 1 _ _ (by simp) (tok_sep hx num _) h3)
    rw [List.take_left' hlen] at hw
    exact hw

/-- Words stand in a text where they tell, one behind the other; the last one alone is the end. -/
def Placed (S : List UInt8) : Nat → List Wd → Prop
  | _, [] => False
  | lo, [w] => w.k = 3 ∧ w.t = [] ∧ lo ≤ w.a ∧ w.a ≤ S.length
  | lo, w :: r => w.k ≠ 3 ∧ lo ≤ w.a ∧ w.a + w.t.length ≤ S.length ∧ (S.drop w.a).take w.t.length = w.t ∧ 1 ≤ w.t.length ∧ Placed S (w.a + w.t.length) r

theorem Placed.lower {S : List UInt8} {lo lo' : Nat} {ws : List Wd} (h : Placed S lo ws) (hl : lo' ≤ lo) : Placed S lo' ws := by
  match ws, h with
  | [w], h => exact ⟨h.1, h.2.1, by have := h.2.2.1; omega, h.2.2.2⟩
  | w :: v :: r, h => exact ⟨h.1, by have := h.2.1; omega, h.2.2⟩

theorem tok_kind {n : Nat} {k v : Int} (h : tok num l = .word k n v) : k ≠ 3 := by
  cases l with
  | nil => simp [tok] at h
  | cons c r =>
    simp only [tok] at h
    repeat' split at h
    all_goals first
      | cases h; done
      | (injection h with h1; omega)

theorem Sc.placed {a : Nat} {ws : List Wd} {r : Option (Int × Nat)} (h : Sc num l a ws r) (hr : r = none) : ∀ S : List UInt8, S.drop a = l → a ≤ S.length → Placed S a ws := by
  induction h with
  | done a =>
    intro S _ hS2
    exact ⟨rfl, rfl, Nat.le_refl _, hS2⟩
  | bad l a e hl ht => cases hr
  | gap l a n ws r hl ht hs ih =>
    intro S hS hS2
    obtain ⟨h1, h2⟩ := tok_gap hl ht
    have hlen : l.length = S.length - a := by rw [← hS, List.length_drop]
    refine (ih hr S (by rw [← hS, List.drop_drop]) (by omega)).lower (by omega)
  | word l a n k v ws r hl ht hs ih =>
    intro S hS hS2
    obtain ⟨h1, h2⟩ := tok_word hl ht
    have hlen : l.length = S.length - a := by rw [← hS, List.length_drop]
    have hp := ih hr S (by rw [← hS, List.drop_drop]) (by omega)
    have ht2 : (l.take n).length = n := by rw [List.length_take]; omega
    match ws, hp with
    | w :: ws, hp =>
      refine ⟨tok_kind ht, Nat.le_refl _, ?_, ?_, ?_, ?_⟩
      · show a + (l.take n).length ≤ _
        omega
      · show (S.drop a).take (l.take n).length = l.take n
        rw [ht2, hS]
      · show 1 ≤ (l.take n).length
        omega
      · show Placed S (a + (l.take n).length) _
        rw [ht2]
        exact hp

theorem Placed.long {S : List UInt8} {x : UInt8} : ∀ (ws : List Wd) (lo : Nat), Placed S lo ws → (joinT x ws).length ≤ 2 * (S.length - lo) + 1
  | [], _, h => absurd h (by simp [Placed])
  | [w], lo, h => by simp [joinT, h.2.1]
  | w :: v :: r, lo, h => by
    obtain ⟨_, h2, h3, _, h5, h6⟩ := h
    have := Placed.long (x := x) (v :: r) _ h6
    rw [joinT, List.length_append, List.length_cons]
    omega
end
end Go.Proofs.YtngfbpmabdmkeaaGreatDoor
