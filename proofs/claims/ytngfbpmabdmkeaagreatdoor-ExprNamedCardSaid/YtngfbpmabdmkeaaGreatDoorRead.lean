/- One word: lex.gap, name, number, sign and read. -/
import Derived.Test.YtngfbpmabdmkeaaGreatDoorSgn
namespace Go.Proofs.YtngfbpmabdmkeaaGreatDoor
open Go Go.RowKit

/-- A word as a value. -/
abbrev wordV (k : Int) (t : ByteArray) (n a : Int) : Value := .agg #[.int .i64 k, .string t, .int .i64 n, .int .i64 a]

theorem name_ok (s : ByteArray) (w : World) (h : s.size ≤ 24) : Calls Tryz.prog 86 #[.string s] w fun e w' => e = .returned (.tuple #[wordV 0 s 0 0, .int .i64 0]) ∧ Below w.heap.size w w' := by
  go_enter Tryz.func86, Tryz.ntmps86
  go_wp2
  exact bodyPost_ret (v := .tuple #[wordV 0 s 0 0, .int .i64 0]) (by simp [results, Tryz.results86, go_sem]) rfl ⟨rfl, (Below.refl _ _).alloc (Nat.le_refl _) _⟩
theorem name_long (s : ByteArray) (w : World) (h : 24 < s.size) (hm : s.size ≤ 9223372036854775807) : Calls Tryz.prog 86 #[.string s] w fun e w' => e = .returned (.tuple #[wordV 0 ⟨#[]⟩ 0 0, .int .i64 2]) ∧ Below w.heap.size w w' := by
  go_enter Tryz.func86, Tryz.ntmps86
  go_wp2
  exact bodyPost_ret (v := .tuple #[wordV 0 ⟨#[]⟩ 0 0, .int .i64 2]) (by simp [results, Tryz.results86, go_sem]) rfl ⟨rfl, (Below.refl _ _).alloc (Nat.le_refl _) _⟩
theorem bcell {W w1 : World} (hb : Below W.heap.size W w1) : (∀ b o, b < W.heap.size → w1.cell? ⟨b, o, none⟩ = W.cell? ⟨b, o, none⟩) ∧ (∀ b o, b < W.heap.size → w1.frozen? ⟨b, o, none⟩ = W.frozen? ⟨b, o, none⟩) :=
  ⟨fun b o h => hb.cell (p := ⟨b, o, none⟩) h, fun b o h => hb.frozen (p := ⟨b, o, none⟩) h⟩

theorem below_four {B b : Nat} {w w1 : World} (h : Below B w w1) (hb : B ≤ b) (x0 x1 x2 x3 : Value) : Below B w ((((w1.setCell ⟨b, 0, none⟩ x0).setCell ⟨b, 1, none⟩ x1).setCell ⟨b, 2, none⟩ x2).setCell ⟨b, 3, none⟩ x3) :=
  (((h.setCell (p := ⟨b, 0, none⟩) hb x0).setCell (p := ⟨b, 1, none⟩) hb x1).setCell (p := ⟨b, 2, none⟩) hb x2).setCell (p := ⟨b, 3, none⟩) hb x3
theorem below_after {w w1 : World} {o : Obj} (h : Below (w.alloc o).heap.size (w.alloc o) w1) : Below w.heap.size w w1 := ((Below.refl _ _).alloc (Nat.le_refl _) _).trans (h.mono (by simp))

theorem calcnum_is {s : ByteArray} {v : Int} {b : Bool} (h : numM s = (v, b)) (w : World) (L : Laid w) : Calls Tryz.prog 128 #[.string s] w fun e w' => e = .returned (.tuple #[.int .i64 v, .bool b]) ∧ Below w.heap.size w w' := by
  have := number_any s w L
  rw [h] at this
  exact this

theorem number_bad (s : ByteArray) (v : Int) (w : World) (L : Hid (Laid w)) (h : Hid (numM s = (v, false))) : Calls Tryz.prog 89 #[.string s] w fun e w' => e = .returned (.tuple #[wordV 0 ⟨#[]⟩ 0 0, .int .i64 10]) ∧ Below w.heap.size w w' := by
  go_enter Tryz.func89, Tryz.ntmps89
  go_wp2_with (go_at_call 128; refine (calcnum_is h.out _ (L.out.below ((Below.refl _ _).alloc (Nat.le_refl _) _))).mono ?_; rintro e w1 ⟨rfl, hb1⟩; obtain ⟨hc, hf⟩ := bcell hb1; have hz : w.heap.size < w1.heap.size := by have := hb1.size; simp at this; omega)
  exact bodyPost_ret (v := .tuple #[wordV 0 ⟨#[]⟩ 0 0, .int .i64 10]) (by simp [results, Tryz.results89, go_sem, hc]) rfl ⟨rfl, below_four (below_after hb1) (Nat.le_refl _) _ _ _ _⟩
theorem number_ok (s : ByteArray) (v : Int) (w : World) (L : Hid (Laid w)) (h : Hid (numM s = (v, true))) : Calls Tryz.prog 89 #[.string s] w fun e w' => e = .returned (.tuple #[wordV 1 s v 0, .int .i64 0]) ∧ Below w.heap.size w w' := by
  go_enter Tryz.func89, Tryz.ntmps89
  go_wp2_with (go_at_call 128; refine (calcnum_is h.out _ (L.out.below ((Below.refl _ _).alloc (Nat.le_refl _) _))).mono ?_; rintro e w1 ⟨rfl, hb1⟩; obtain ⟨hc, hf⟩ := bcell hb1; have hz : w.heap.size < w1.heap.size := by have := hb1.size; simp at this; omega)
  exact bodyPost_ret (v := .tuple #[wordV 1 s v 0, .int .i64 0]) (by simp [results, Tryz.results89, go_sem, hc]) rfl ⟨rfl, below_four (below_after hb1) (Nat.le_refl _) _ _ _ _⟩

theorem sign_ok (s : ByteArray) (w : World) (h : s.toList.isEmpty = false) : Calls Tryz.prog 90 #[.string s] w fun e w' => e = .returned (.tuple #[wordV 2 s 0 0, .int .i64 0]) ∧ Below w.heap.size w w' := by
  go_enter Tryz.func90, Tryz.ntmps90
  go_wp2
  exact bodyPost_ret (v := .tuple #[wordV 2 s 0 0, .int .i64 0]) (by simp [results, Tryz.results90, go_sem]) rfl ⟨rfl, (Below.refl _ _).alloc (Nat.le_refl _) _⟩
theorem sign_bad (s : ByteArray) (w : World) (h : s.toList.isEmpty = true) : Calls Tryz.prog 90 #[.string s] w fun e w' => e = .returned (.tuple #[wordV 0 ⟨#[]⟩ 0 0, .int .i64 10]) ∧ Below w.heap.size w w' := by
  go_enter Tryz.func90, Tryz.ntmps90
  go_wp2
  exact bodyPost_ret (v := .tuple #[wordV 0 ⟨#[]⟩ 0 0, .int .i64 10]) (by simp [results, Tryz.results90, go_sem]) rfl ⟨rfl, (Below.refl _ _).alloc (Nat.le_refl _) _⟩
theorem span_is {s : ByteArray} {n : Nat} (h : spanL s.data.toList = n) (w : World) : Calls Tryz.prog 87 #[.string s] w fun e w' => e = .returned (.int .i64 n) ∧ Below w.heap.size w w' := h ▸ span_any s w
theorem sspan_is {s : ByteArray} {n : Nat} (h : sgnLen s.data.toList = n) (w : World) (h1 : 0 < s.size) (hm : s.size ≤ 9223372036854775807) : Calls Tryz.prog 91 #[.string s] w fun e w' => e = .returned (.int .i64 n) ∧ w = w' := h ▸ sgnspan_any s w h1 hm
theorem upto_size (s : ByteArray) (n : Nat) (h : n ≤ s.size) : (s.extract 0 n).size = n := by rw [ByteArray.size_extract]; omega

set_option maxRecDepth 100000 in
theorem read_name (s : ByteArray) (r : Int) (n : Nat) (w : World) (hm : s.size ≤ 9223372036854775807) (hn : n ≤ s.size) (HL : Hid (letterR r = true)) (HN : Hid (spanL s.data.toList = n)) (h24 : n ≤ 24) : Calls Tryz.prog 53 #[.int .i32 r, .string s] w fun e w' => e = .returned (.tuple #[wordV 0 (s.extract 0 n) 0 0, .int .i64 0]) ∧ Below w.heap.size w w' := by
  have hB : Below w.heap.size w w := Below.refl _ _
  go_enter Tryz.func53, Tryz.ntmps53
  go_wp2_with (first
    | (go_at_call 85; with_reducible refine (letter_is HL.out _).mono ?_; rintro e' w1 ⟨rfl, rfl⟩)
    | (go_at_call 87; with_reducible refine (span_is HN.out _).mono ?_; rintro e' w1 ⟨rfl, hb1⟩; have hB0 := below_after hb1; obtain ⟨hc, hf⟩ := bcell hb1; have hz : w.heap.size < w1.heap.size := by have := hb1.size; simp at this; omega)
    | (go_at_call 86; with_reducible refine (name_ok _ _ (by rw [upto_size s n hn]; exact h24)).mono ?_; rintro e' w2 ⟨rfl, hb2⟩; have hB1 := hB0.trans (hb2.mono hB0.size); obtain ⟨hc2, hf2⟩ := bcell hb2; have hz2 : w.heap.size < w2.heap.size := by have := hb2.size; omega))
  exact bodyPost_ret (v := .tuple #[wordV 0 (s.extract 0 n) 0 0, .int .i64 0]) (by simp [results, Tryz.results53, go_sem, hc, hc2, hz]) rfl ⟨rfl, below_four hB1 (Nat.le_refl _) _ _ _ _⟩

set_option maxRecDepth 100000 in
theorem read_long (s : ByteArray) (r : Int) (n : Nat) (w : World) (hm : s.size ≤ 9223372036854775807) (hn : n ≤ s.size) (HL : Hid (letterR r = true)) (HN : Hid (spanL s.data.toList = n)) (h24 : 24 < n) : Calls Tryz.prog 53 #[.int .i32 r, .string s] w fun e w' => e = .returned (.tuple #[wordV 0 ⟨#[]⟩ 0 0, .int .i64 2]) ∧ Below w.heap.size w w' := by
  have hB : Below w.heap.size w w := Below.refl _ _
  go_enter Tryz.func53, Tryz.ntmps53
  go_wp2_with (first
    | (go_at_call 85; with_reducible refine (letter_is HL.out _).mono ?_; rintro e' w1 ⟨rfl, rfl⟩)
    | (go_at_call 87; with_reducible refine (span_is HN.out _).mono ?_; rintro e' w1 ⟨rfl, hb1⟩; have hB0 := below_after hb1; obtain ⟨hc, hf⟩ := bcell hb1; have hz : w.heap.size < w1.heap.size := by have := hb1.size; simp at this; omega)
    | (go_at_call 86; with_reducible refine (name_long _ _ (by rw [upto_size s n hn]; exact h24) (by rw [upto_size s n hn]; omega)).mono ?_; rintro e' w2 ⟨rfl, hb2⟩; have hB1 := hB0.trans (hb2.mono hB0.size); obtain ⟨hc2, hf2⟩ := bcell hb2; have hz2 : w.heap.size < w2.heap.size := by have := hb2.size; omega))
  exact bodyPost_ret (v := .tuple #[wordV 0 ⟨#[]⟩ 0 0, .int .i64 2]) (by simp [results, Tryz.results53, go_sem, hc, hc2, hz]) rfl ⟨rfl, below_four hB1 (Nat.le_refl _) _ _ _ _⟩

set_option maxRecDepth 100000 in
theorem read_number (s : ByteArray) (r : Int) (n : Nat) (w : World) (hm : s.size ≤ 9223372036854775807) (hn : n ≤ s.size) (HL : Hid (letterR r = false)) (HD : Hid (digitR r = true)) (HN : Hid (spanL s.data.toList = n)) (v : Int) (L : Hid (Laid w)) (HV : Hid (numM (s.extract 0 n) = (v, true))) : Calls Tryz.prog 53 #[.int .i32 r, .string s] w fun e w' => e = .returned (.tuple #[wordV 1 (s.extract 0 n) v 0, .int .i64 0]) ∧ Below w.heap.size w w' := by
  have hB : Below w.heap.size w w := Below.refl _ _
  go_enter Tryz.func53, Tryz.ntmps53
  go_wp2_with (first
    | (go_at_call 85; with_reducible refine (letter_is HL.out _).mono ?_; rintro e' w1 ⟨rfl, rfl⟩)
    | (go_at_call 88; with_reducible refine (digit_is HD.out _).mono ?_; rintro e' w1 ⟨rfl, rfl⟩)
    | (go_at_call 87; with_reducible refine (span_is HN.out _).mono ?_; rintro e' w1 ⟨rfl, hb1⟩; have hB0 := below_after hb1; obtain ⟨hc, hf⟩ := bcell hb1; have hz : w.heap.size < w1.heap.size := by have := hb1.size; simp at this; omega)
    | (go_at_call 89; with_reducible refine (number_ok _ _ _ (Lib.hid (L.out.below hB0)) HV).mono ?_; rintro e' w2 ⟨rfl, hb2⟩; have hB1 := hB0.trans (hb2.mono hB0.size); obtain ⟨hc2, hf2⟩ := bcell hb2; have hz2 : w.heap.size < w2.heap.size := by have := hb2.size; omega))
  exact bodyPost_ret (v := .tuple #[wordV 1 (s.extract 0 n) v 0, .int .i64 0]) (by simp [results, Tryz.results53, go_sem, hc, hc2, hz]) rfl ⟨rfl, below_four hB1 (Nat.le_refl _) _ _ _ _⟩

set_option maxRecDepth 100000 in
theorem read_nonum (s : ByteArray) (r : Int) (n : Nat) (w : World) (hm : s.size ≤ 9223372036854775807) (hn : n ≤ s.size) (HL : Hid (letterR r = false)) (HD : Hid (digitR r = true)) (HN : Hid (spanL s.data.toList = n)) (v : Int) (L : Hid (Laid w)) (HV : Hid (numM (s.extract 0 n) = (v, false))) : Calls Tryz.prog 53 #[.int .i32 r, .string s] w fun e w' => e = .returned (.tuple #[wordV 0 ⟨#[]⟩ 0 0, .int .i64 10]) ∧ Below w.heap.size w w' := by
  have hB : Below w.heap.size w w := Below.refl _ _
  go_enter Tryz.func53, Tryz.ntmps53
  go_wp2_with (first
    | (go_at_call 85; with_reducible refine (letter_is HL.out _).mono ?_; rintro e' w1 ⟨rfl, rfl⟩)
    | (go_at_call 88; with_reducible refine (digit_is HD.out _).mono ?_; rintro e' w1 ⟨rfl, rfl⟩)
    | (go_at_call 87; with_reducible refine (span_is HN.out _).mono ?_; rintro e' w1 ⟨rfl, hb1⟩; have hB0 := below_after hb1; obtain ⟨hc, hf⟩ := bcell hb1; have hz : w.heap.size < w1.heap.size := by have := hb1.size; simp at this; omega)
    | (go_at_call 89; with_reducible refine (number_bad _ _ _ (Lib.hid (L.out.below hB0)) HV).mono ?_; rintro e' w2 ⟨rfl, hb2⟩; have hB1 := hB0.trans (hb2.mono hB0.size); obtain ⟨hc2, hf2⟩ := bcell hb2; have hz2 : w.heap.size < w2.heap.size := by have := hb2.size; omega))
  exact bodyPost_ret (v := .tuple #[wordV 0 ⟨#[]⟩ 0 0, .int .i64 10]) (by simp [results, Tryz.results53, go_sem, hc, hc2, hz]) rfl ⟨rfl, below_four hB1 (Nat.le_refl _) _ _ _ _⟩

set_option maxRecDepth 100000 in
theorem read_sign (s : ByteArray) (r : Int) (n : Nat) (w : World) (hm : s.size ≤ 9223372036854775807) (hn : n ≤ s.size) (h1 : 0 < s.size) (HL : Hid (letterR r = false)) (HD : Hid (digitR r = false)) (HN : Hid (sgnLen s.data.toList = n)) (HE : Hid ((s.extract 0 n).toList.isEmpty = false)) : Calls Tryz.prog 53 #[.int .i32 r, .string s] w fun e w' => e = .returned (.tuple #[wordV 2 (s.extract 0 n) 0 0, .int .i64 0]) ∧ Below w.heap.size w w' := by
  have hB : Below w.heap.size w w := Below.refl _ _
  go_enter Tryz.func53, Tryz.ntmps53
  go_wp2_with (first
    | (go_at_call 85; with_reducible refine (letter_is HL.out _).mono ?_; rintro e' w1 ⟨rfl, rfl⟩)
    | (go_at_call 88; with_reducible refine (digit_is HD.out _).mono ?_; rintro e' w1 ⟨rfl, rfl⟩)
    | (go_at_call 91; with_reducible refine (sspan_is HN.out _ h1 hm).mono ?_; rintro e' w1 ⟨rfl, rfl⟩)
    | (go_at_call 90; with_reducible refine (sign_ok _ _ HE.out).mono ?_; rintro e' w2 ⟨rfl, hb2⟩; have hB1 := below_after hb2; obtain ⟨hc2, hf2⟩ := bcell hb2; have hz2 : w.heap.size < w2.heap.size := by have := hb2.size; simp at this; omega))
  exact bodyPost_ret (v := .tuple #[wordV 2 (s.extract 0 n) 0 0, .int .i64 0]) (by simp [results, Tryz.results53, go_sem, hc2]) rfl ⟨rfl, below_four hB1 (Nat.le_refl _) _ _ _ _⟩

set_option maxRecDepth 100000 in
theorem read_nosign (s : ByteArray) (r : Int) (n : Nat) (w : World) (hm : s.size ≤ 9223372036854775807) (hn : n ≤ s.size) (h1 : 0 < s.size) (HL : Hid (letterR r = false)) (HD : Hid (digitR r = false)) (HN : Hid (sgnLen s.data.toList = n)) (HE : Hid ((s.extract 0 n).toList.isEmpty = true)) : Calls Tryz.prog 53 #[.int .i32 r, .string s] w fun e w' => e = .returned (.tuple #[wordV 0 ⟨#[]⟩ 0 0, .int .i64 10]) ∧ Below w.heap.size w w' := by
  have hB : Below w.heap.size w w := Below.refl _ _
  go_enter Tryz.func53, Tryz.ntmps53
  go_wp2_with (first
    | (go_at_call 85; with_reducible refine (letter_is HL.out _).mono ?_; rintro e' w1 ⟨rfl, rfl⟩)
    | (go_at_call 88; with_reducible refine (digit_is HD.out _).mono ?_; rintro e' w1 ⟨rfl, rfl⟩)
    | (go_at_call 91; with_reducible refine (sspan_is HN.out _ h1 hm).mono ?_; rintro e' w1 ⟨rfl, rfl⟩)
    | (go_at_call 90; with_reducible refine (sign_bad _ _ HE.out).mono ?_; rintro e' w2 ⟨rfl, hb2⟩; have hB1 := below_after hb2; obtain ⟨hc2, hf2⟩ := bcell hb2; have hz2 : w.heap.size < w2.heap.size := by have := hb2.size; simp at this; omega))
  exact bodyPost_ret (v := .tuple #[wordV 0 ⟨#[]⟩ 0 0, .int .i64 10]) (by simp [results, Tryz.results53, go_sem, hc2]) rfl ⟨rfl, below_four hB1 (Nat.le_refl _) _ _ _ _⟩

/-- calc.Number of a text, as plain mathematics. -/
def numO (l : List UInt8) : Option Int := match numM ⟨l.toArray⟩ with | (v, true) => some v | (_, false) => none
theorem numO_some {l : List UInt8} {v : Int} (h : numO l = some v) : numM ⟨l.toArray⟩ = (v, true) := by
  unfold numO at h
  split at h
  · rename_i e
    cases h
    exact e
  · cases h
theorem numO_none {l : List UInt8} (h : numO l = none) : ∃ v, numM ⟨l.toArray⟩ = (v, false) := by
  unfold numO at h
  split at h
  · cases h
  · rename_i e
    exact ⟨_, e⟩

/-- A text that begins with c. -/
theorem head_of {s : ByteArray} (h : 0 < s.size) : ∃ r, s.data.toList = (s[0]'h) :: r := by
  have h0 := at_list s 0 h
  cases hl : s.data.toList with
  | nil => rw [hl] at h0; cases h0
  | cons c r =>
    rw [hl] at h0
    simp at h0
    exact ⟨r, by rw [h0]⟩
theorem take_ext (s : ByteArray) (n : Nat) : s.extract 0 n = ⟨(s.data.toList.take n).toArray⟩ := by rw [Lib.extract_eq]; rfl

theorem read_word (s : ByteArray) (r : Int) (n : Nat) (k v : Int) (w : World) (L : Laid w) (h0 : 0 < s.size) (hm : s.size ≤ 9223372036854775807) (hr : Rn r (s[0]'h0)) (ht : tok numO s.data.toList = .word k n v) :
    Calls Tryz.prog 53 #[.int .i32 r, .string s] w fun e w' => e = .returned (.tuple #[wordV k (s.extract 0 n) v 0, .int .i64 0]) ∧ Below w.heap.size w w' := by
  obtain ⟨q, hq⟩ := head_of h0
  have hn := (tok_word (by rw [hq]; simp) ht)
  have hn2 : n ≤ s.size := hn.2
  have hl := hr.letter
  have hd := hr.digit
  have hsp : ∀ m, spanL s.data.toList = m ↔ spanL (s[0] :: q) = m := fun m => by rw [hq]
  rw [hq] at ht
  simp only [tok] at ht
  split at ht
  · cases ht
  split at ht
  · cases ht
  split at ht
  · rename_i h3
    split at ht
    · cases ht
    · rename_i h24
      injection ht with e1 e2 e3
      subst e1
      subst e3
      exact read_name s r n w hm hn2 (Lib.hid (hl.trans h3)) (Lib.hid ((hsp n).2 e2)) (by omega)
  · rename_i h3
    split at ht
    · rename_i h4
      split at ht
      · rename_i v' hv
        injection ht with e1 e2 e3
        subst e1
        subst e3
        refine read_number s r n w hm hn2 (Lib.hid (hl.trans (by simpa using h3))) (Lib.hid (hd.trans h4)) (Lib.hid ((hsp n).2 e2)) _ (Lib.hid L) (Lib.hid ?_)
        rw [take_ext, hq, ← e2]
        exact numO_some hv
      · cases ht
    · rename_i h4
      split at ht
      · cases ht
      · rename_i h5
        injection ht with e1 e2 e3
        subst e1
        subst e3
        refine read_sign s r n w hm hn2 h0 (Lib.hid (hl.trans (by simpa using h3))) (Lib.hid (hd.trans (by simpa using h4))) (Lib.hid (by rw [hq]; exact e2)) (Lib.hid ?_)
        obtain ⟨m, rfl⟩ : ∃ m, n = m + 1 := ⟨n - 1, by omega⟩
        rw [ByteArray.toList_eq, Lib.extract_data, hq]
        rfl

theorem read_bad (s : ByteArray) (r : Int) (e0 : Int) (w : World) (L : Laid w) (h0 : 0 < s.size) (hm : s.size ≤ 9223372036854775807) (hr : Rn r (s[0]'h0)) (ht : tok numO s.data.toList = .bad e0) :
    Calls Tryz.prog 53 #[.int .i32 r, .string s] w fun e w' => e = .returned (.tuple #[wordV 0 ⟨#[]⟩ 0 0, .int .i64 e0]) ∧ Below w.heap.size w w' := by
  obtain ⟨q, hq⟩ := head_of h0
  have hl := hr.letter
  have hd := hr.digit
  have hle : spanL (s[0] :: q) ≤ s.size := by rw [← hq]; exact span_le _
  rw [hq] at ht
  simp only [tok] at ht
  split at ht
  · cases ht
  split at ht
  · cases ht
  split at ht
  · rename_i h3
    split at ht
    · rename_i h24
      injection ht with e1
      subst e1
      exact read_long s r _ w hm hle (Lib.hid (hl.trans h3)) (Lib.hid (by rw [hq])) h24
    · cases ht
  · rename_i h3
    split at ht
    · rename_i h4
      split at ht
      · cases ht
      · rename_i hv
        injection ht with e1
        subst e1
        obtain ⟨v, hv⟩ := numO_none hv
        refine read_nonum s r _ w hm hle (Lib.hid (hl.trans (by simpa using h3))) (Lib.hid (hd.trans h4)) (Lib.hid (by rw [hq])) v (Lib.hid L) (Lib.hid ?_)
        rw [take_ext, hq]
        exact hv
    · rename_i h4
      split at ht
      · rename_i h5
        injection ht with e1
        subst e1
        exact read_nosign s r 0 w hm (Nat.zero_le _) h0 (Lib.hid (hl.trans (by simpa using h3))) (Lib.hid (hd.trans (by simpa using h4))) (Lib.hid (by rw [hq]; exact h5)) (Lib.hid (by rw [ByteArray.toList_eq, Lib.extract_data]; rfl))
      · cases ht

/-- How much of a text is a blank or a note with which it begins. -/
def gapN (l : List UInt8) : Nat := if isBlank (l.headD 0) = true then 1 else if l.head? = some 47 ∧ l.tail.head? = some 47 then noteL l else 0
theorem gap_of_tok {l : List UInt8} {n : Nat} (hl : l ≠ []) (h : tok numO l = .gap n) : gapN l = n := by
  obtain ⟨c, r, rfl⟩ := List.exists_cons_of_ne_nil hl
  simp only [tok] at h
  unfold gapN
  simp only [List.headD_cons, List.head?_cons, List.tail_cons, Option.some.injEq]
  split at h
  · rename_i h1
    injection h with h
    rw [if_pos h1, h]
  · rename_i h1
    rw [if_neg h1]
    split at h
    · rename_i h2
      injection h with h
      rw [if_pos h2, h]
    · split at h
      · split at h <;> cases h
      · split at h
        · split at h <;> cases h
        · split at h <;> cases h
theorem nogap_of_tok {l : List UInt8} (hl : l ≠ []) (h : ∀ n, tok numO l ≠ .gap n) : gapN l = 0 := by
  obtain ⟨c, r, rfl⟩ := List.exists_cons_of_ne_nil hl
  simp only [tok] at h
  unfold gapN
  simp only [List.headD_cons, List.head?_cons, List.tail_cons, Option.some.injEq]
  split at h
  · exact absurd rfl (h _)
  · rename_i h1
    rw [if_neg h1]
    split at h
    · exact absurd rfl (h _)
    · rename_i h2
      rw [if_neg h2]

theorem pre_two (l : List UInt8) : Lib.hasPrefix l [47, 47] = decide (l.head? = some 47 ∧ l.tail.head? = some 47) := by
  match l with
  | [] => rfl
  | [a] => simp [Lib.hasPrefix, List.isPrefixOf]
  | a :: b :: r =>
    rw [Bool.eq_iff_iff]
    simp only [Lib.hasPrefix, List.isPrefixOf, Bool.and_true, Bool.and_eq_true, beq_iff_eq, List.head?_cons, List.tail_cons, Option.some.injEq, decide_eq_true_eq]
    exact ⟨fun ⟨h1, h2⟩ => ⟨h1.symm, h2.symm⟩, fun ⟨h1, h2⟩ => ⟨h1.symm, h2.symm⟩⟩
theorem prefix_is {s : ByteArray} {b : Bool} (h : Lib.hasPrefix s.data.toList [47, 47] = b) (w : World) : Calls Tryz.prog 83 #[.string s, .string ⟨#[47, 47]⟩] w fun e w' => e = .returned (.bool b) ∧ w = w' :=
  (Tryz.strings_HasPrefix s ⟨#[47, 47]⟩ w).mono fun e w' ⟨h1, h2⟩ => ⟨by rw [h1, ← h], h2.symm⟩
theorem note_is {s : ByteArray} {n : Nat} (h : noteL s.data.toList = n) (w : World) : Calls Tryz.prog 84 #[.string s] w fun e w' => e = .returned (.int .i64 n) ∧ Below w.heap.size w w' := h ▸ note_any s w

theorem gap_any (s : ByteArray) (r : Int) (n : Nat) (w : World) (h0 : 0 < s.size) (hr : Rn r (s[0]'h0)) (hg : gapN s.data.toList = n) :
    Calls Tryz.prog 52 #[.int .i32 r, .string s] w fun e w' => e = .returned (.int .i64 n) ∧ Below w.heap.size w w' := by
  obtain ⟨q, hq⟩ := head_of h0
  have hb := hr.blank
  have hp := pre_two s.data.toList
  rw [hq] at hg hp
  unfold gapN at hg
  simp only [List.headD_cons, List.head?_cons, List.tail_cons, Option.some.injEq] at hg hp
  rw [← hq] at hg hp
  split at hg
  · rename_i h1
    subst hg
    have HB := Lib.hid (hb.trans h1)
    clear hb hp hq hr h1
    go_enter Tryz.func52, Tryz.ntmps52
    go_wp2_with (go_at_call 82; with_reducible refine (blank_is HB.out _).mono ?_; rintro e' w1 ⟨rfl, rfl⟩)
    go_ret
    exact ⟨rfl, Below.refl _ _⟩
  · rename_i h1
    have HB := Lib.hid (hb.trans (by simpa using h1))
    split at hg
    · rename_i h2
      have HP := Lib.hid (hp.trans (decide_eq_true h2))
      have HG := Lib.hid hg
      clear hb hp hq hr h1 h2 hg
      go_enter Tryz.func52, Tryz.ntmps52
      go_wp2_with (first
        | (go_at_call 82; with_reducible refine (blank_is HB.out _).mono ?_; rintro e' w1 ⟨rfl, rfl⟩)
        | (go_at_call 83; refine (prefix_is HP.out _).mono ?_; rintro e' w1 ⟨rfl, rfl⟩)
        | (go_at_call 84; with_reducible refine (note_is HG.out _).mono ?_; rintro e' w1 ⟨rfl, hb1⟩))
      go_ret
      exact ⟨rfl, hb1⟩
    · rename_i h2
      subst hg
      have HP := Lib.hid (hp.trans (decide_eq_false h2))
      clear hb hp hq hr h1 h2
      go_enter Tryz.func52, Tryz.ntmps52
      go_wp2_with (first
        | (go_at_call 82; with_reducible refine (blank_is HB.out _).mono ?_; rintro e' w1 ⟨rfl, rfl⟩)
        | (go_at_call 83; refine (prefix_is HP.out _).mono ?_; rintro e' w1 ⟨rfl, rfl⟩))
      go_ret
      exact ⟨rfl, Below.refl _ _⟩
end Go.Proofs.YtngfbpmabdmkeaaGreatDoor
