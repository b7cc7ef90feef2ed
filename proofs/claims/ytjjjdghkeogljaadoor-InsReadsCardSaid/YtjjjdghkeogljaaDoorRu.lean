/- The document's own Uses, Def and Next of any instruction; that they are the program's. -/
import Derived.Test.YtjjjdghkeogljaaDoorRef
namespace Go.Proofs.YtjjjdghkeogljaaDoor
set_option linter.unusedSimpArgs false
set_option linter.unusedVariables false
open Go Go.RowKit

theorem addR_len (l : List Int) (n : Int) : (addR l n).length ≤ 2 * l.length + 1 := by
  have h : (addF n l).1.length ≤ 0 + 2 * l.length := addF_len n l ([], false)
  unfold addR
  split
  · omega
  · split
    · omega
    · rw [List.length_append]
      simp
      omega
theorem Rw.new (B : Nat) (w : World) (l : List Int) (cs : Array Value) (n : Nat) (hn : n = l.length) (hm : n ≤ 100) (hB : B ≤ w.heap.size) (hc : cs.toList = l.map (Value.int .i64)) : Rw B (w.alloc (.cells cs 3)) (.slice (some ⟨w.heap.size, 0, none⟩) n n) l := by
  subst hn
  have hs : cs.size = l.length := by rw [← Array.length_toList, hc, List.length_map]
  refine ⟨by simp, .inr ⟨w.heap.size, l.length, cs, rfl, hB, heap_alloc_new w _, Nat.le_refl _, by unfold maxLen; omega, by omega, ?_⟩⟩
  rw [hc, Nat.mul_one]
  exact List.take_of_length_le (by simp)
theorem fld_size (k : Int) : (fldZ k).size ≤ 4 := by
  unfold fldZ
  split
  · rename_i h
    have : ∀ k, k < 14 → (fld k).size ≤ 4 := by decide
    exact this _ (by omega)
  · exact Nat.zero_le _
theorem rw_len1 {B : Nat} {w : World} {v : Value} {n : Int} (_h : Rw B w v (addR [] n)) : (addR [] n).length ≤ 1 := addR_len [] n
theorem rw_len2 {B : Nat} {w : World} {v : Value} {l : List Int} {n : Int} (_h : Rw B w v (addR l n)) (hl : l.length ≤ 1) : (addR l n).length ≤ 3 := Nat.le_trans (addR_len l n) (by omega)
def addIf (b : Bool) (l : List Int) (n : Int) : List Int := if b then addR l n else l
def rusesL (b3 bA bB : Bool) (x : Ic) : List Int := addIf bB (addIf bA (addIf b3 [] x.d) x.a) x.b
set_option maxRecDepth 100000 in
set_option maxHeartbeats 4000000 in
theorem ruses_any (x : Ic) (w : World) (b3 bA bB : Bool) (h3 : (x.k == 3) = b3) (hA : hasC (fldZ x.k) 65 = bA) (hB : hasC (fldZ x.k) 66 = bB) : Calls Tryd.prog 10 #[.agg #[.int .i64 x.k, .int .i64 x.o, .int .i64 x.d, .int .i64 x.a, .int .i64 x.b, .int .i64 x.n, .int .i64 x.t]] w (RowP w (rusesL b3 bA bB x)) := by
  have hfs := fld_size x.k
  have hq : ∀ W, Calls Tryd.prog 25 #[.int .i64 x.k] W fun e w' => e = .returned (.string (fldZ x.k)) ∧ Below W.heap.size W w' := fun W => rfields_any x.k W
  obtain ⟨f, hf⟩ : ∃ f, fldZ x.k = f := ⟨_, rfl⟩
  rw [hf] at hA hB hfs hq
  have HQ := Lib.hid hq
  have HA := Lib.hid hA
  have HB := Lib.hid hB
  have HF := Lib.hid hfs
  clear hA hB hfs hq hf
  cases b3 <;> cases bA <;> cases bB
  all_goals
    go_enter Tryd.func10, Tryd.ntmps10
    go_wp2_with (first
      | (go_at_call 25; (with_reducible refine (HQ.out _).mono ?_); rintro e1 w1 ⟨rfl, hb1⟩; have HB1 := Lib.hid (below_ch (below1 _ _) hb1); have HX1 := Lib.hid ((Ib.new rfl _ _ _ _ _ _ _).stay hb1); have hz1 : w.heap.size ≤ w1.heap.size := HB1.out.size; obtain ⟨bx1, y0, y1, y2, y3, y4, y5, y6, -⟩ := HX1.out.facts; clear hb1)
      | (go_at_call 27; (refine (rhas_is 65 HA.out (by decide) (by have := HF.out; omega) _).mono ?_); rintro e2 w2 ⟨rfl, rfl⟩)
      | (go_at_call 27; (refine (rhas_is 66 HB.out (by decide) (by have := HF.out; omega) _).mono ?_); rintro e2 w2 ⟨rfl, rfl⟩)
      | (go_at_call 26; refine (radd_any _ HR2.out (by have h1 := HL2.out; omega) (by omega)).mono ?_; rintro e5 w5 ⟨v3, rfl, hr5, hb5⟩; have HR3 := Lib.hid hr5; have HB5 := Lib.hid (below_ch HB4.out hb5); clear hr5 hb5)
      | (go_at_call 26; refine (radd_any _ HR1.out (by have h1 := HL1.out; omega) (by omega)).mono ?_; rintro e4 w4 ⟨v2, rfl, hr4, hb4⟩; have HR2 := Lib.hid hr4; have HB4 := Lib.hid (below_ch HB3.out hb4); have HX4 := Lib.hid (HX3.out.stay hb4); have hz4 : w.heap.size ≤ w4.heap.size := HB4.out.size; have HL2 := Lib.hid (rw_len2 hr4 HL1.out); obtain ⟨bx4, a0, a1, a2, a3, a4, a5, a6, -⟩ := HX4.out.facts; clear hr4 hb4)
      | (go_at_call 26; refine (radd_any _ (Rw.nil w.heap.size _) (by simp) (by omega)).mono ?_; rintro e3 w3 ⟨v1, rfl, hr3, hb3⟩; have HR1 := Lib.hid hr3; have HB3 := Lib.hid (below_ch HB1.out hb3); have HX3 := Lib.hid (HX1.out.stay hb3); have hz3 : w.heap.size ≤ w3.heap.size := HB3.out.size; have HL1 := Lib.hid (rw_len1 hr3); obtain ⟨bx3, u0, u1, u2, u3, u4, u5, u6, -⟩ := HX3.out.facts; clear hr3 hb3))
    go_ret
    first
      | exact ⟨_, rfl, HR3.out, HB5.out⟩
      | exact ⟨_, rfl, HR2.out, HB4.out⟩
      | exact ⟨_, rfl, HR1.out, HB3.out⟩
      | exact rowp_nil HB1.out
/-- What is in A, B, D of a kind. -/
theorem uses_eq (x : Ic) : rusesL (x.k == 3) (hasC (fldZ x.k) 65) (hasC (fldZ x.k) 66) x = usesM x := by
  have hu : Up (rusesL (x.k == 3) (hasC (fldZ x.k) 65) (hasC (fldZ x.k) 66) x) := by
    have h1 : ∀ b l n, Up l → Up (addIf b l n) := fun b l n h => by
      unfold addIf
      split
      · exact up_addR h
      · exact h
    exact h1 _ _ _ (h1 _ _ _ (h1 _ _ _ List.Pairwise.nil))
  have hm : ∀ b l n y, Up l → (y ∈ addIf b l n ↔ (b = true ∧ 0 ≤ n ∧ y = n) ∨ y ∈ l) := fun b l n y h => by
    unfold addIf
    cases b
    · simp
    · simp [mem_addR h]
  have hup : ∀ b l n, Up l → Up (addIf b l n) := fun b l n h => by
    unfold addIf
    split
    · exact up_addR h
    · exact h
  have hmem : ∀ y, y ∈ rusesL (x.k == 3) (hasC (fldZ x.k) 65) (hasC (fldZ x.k) 66) x ↔ (hasC (fldZ x.k) 66 = true ∧ 0 ≤ x.b ∧ y = x.b) ∨ (hasC (fldZ x.k) 65 = true ∧ 0 ≤ x.a ∧ y = x.a) ∨ ((x.k == 3) = true ∧ 0 ≤ x.d ∧ y = x.d) := fun y => by
    unfold rusesL
    rw [hm _ _ _ _ (hup _ _ _ (hup _ _ _ List.Pairwise.nil)), hm _ _ _ _ (hup _ _ _ List.Pairwise.nil), hm _ _ _ _ List.Pairwise.nil]
    simp
  by_cases hk : 0 ≤ x.k ∧ x.k ≤ 13
  · have e : usesM x = pos (srt [if kps x.k.toNat then x.d else -1, aTo x x.k.toNat 4, bTo x x.k.toNat 4]) := if_pos hk
    rw [e]
    refine up_ext hu (up_filter _ (up_srt _)) (fun y => ?_)
    rw [hmem]
    unfold pos
    rw [List.mem_filter, mem_srt]
    have ef : fldZ x.k = fld x.k.toNat := if_pos hk
    have e3 : (x.k == 3) = kps x.k.toNat := by
      unfold kps
      rw [Bool.eq_iff_iff]
      simp
      omega
    have eA : ∀ k, k < 14 → hasC (fld k) 65 = (List.range 4).any (fun i => prt k i == 2 || prt k i == 3) := by decide
    have eB : ∀ k, k < 14 → hasC (fld k) 66 = (List.range 4).any (fun i => prt k i == 4) := by decide
    rw [ef, e3, eA _ (by omega), eB _ (by omega)]
    unfold aTo bTo
    simp only [List.mem_cons, List.not_mem_nil, or_false]
    generalize kps x.k.toNat = p
    generalize (List.range 4).any (fun i => prt x.k.toNat i == 2 || prt x.k.toNat i == 3) = q
    generalize (List.range 4).any (fun i => prt x.k.toNat i == 4) = r
    cases p <;> cases q <;> cases r <;> simp <;> omega
  · have e : usesM x = [] := if_neg hk
    rw [e]
    refine up_ext hu List.Pairwise.nil (fun y => ?_)
    rw [hmem]
    have ef : fldZ x.k = ⟨#[]⟩ := if_neg hk
    rw [ef]
    have h3 : ¬ x.k = 3 := by omega
    simp [hasC, h3]
theorem ruses_is (x : Ic) (w : World) : Calls Tryd.prog 10 #[.agg #[.int .i64 x.k, .int .i64 x.o, .int .i64 x.d, .int .i64 x.a, .int .i64 x.b, .int .i64 x.n, .int .i64 x.t]] w (RowP w (usesM x)) := uses_eq x ▸ ruses_any x w _ _ _ rfl rfl rfl

theorem rdef_any (x : Ic) (w : World) : Calls Tryd.prog 12 #[.agg #[.int .i64 x.k, .int .i64 x.o, .int .i64 x.d, .int .i64 x.a, .int .i64 x.b, .int .i64 x.n, .int .i64 x.t]] w fun e w' => e = .returned (.int .i64 (defM x)) ∧ Below w.heap.size w w' := by
  have hfs := fld_size x.k
  have hq : ∀ W, Calls Tryd.prog 25 #[.int .i64 x.k] W fun e w' => e = .returned (.string (fldZ x.k)) ∧ Below W.heap.size W w' := fun W => rfields_any x.k W
  have hd : defM x = if hasC (fldZ x.k) 68 then x.d else -1 := by
    unfold defM fldZ
    by_cases hk : 0 ≤ x.k ∧ x.k ≤ 13
    · rw [if_pos hk, if_pos hk]
      have : ∀ k, k < 14 → hasB k 1 = hasC (fld k) 68 := by decide
      rw [this _ (by omega)]
    · rw [if_neg hk, if_neg hk]
      rfl
  rw [hd]
  obtain ⟨f, hf⟩ : ∃ f, fldZ x.k = f := ⟨_, rfl⟩
  rw [hf] at hfs hq ⊢
  have HQ := Lib.hid hq
  have HF := Lib.hid hfs
  clear hfs hq hf hd
  cases hb : hasC f 68
  all_goals
    have HA := Lib.hid hb
    clear hb
    go_enter Tryd.func12, Tryd.ntmps12
    go_wp2_with (first
      | (go_at_call 25; (with_reducible refine (HQ.out _).mono ?_); rintro e1 w1 ⟨rfl, hb1⟩; have HB1 := Lib.hid (below_ch (below1 _ _) hb1); have HX1 := Lib.hid ((Ib.new rfl _ _ _ _ _ _ _).stay hb1); obtain ⟨bx1, y0, y1, y2, y3, y4, y5, y6, -⟩ := HX1.out.facts; clear hb1)
      | (go_at_call 27; (refine (rhas_is 68 HA.out (by decide) (by have := HF.out; omega) _).mono ?_); rintro e2 w2 ⟨rfl, rfl⟩))
    go_ret
    exact ⟨rfl, HB1.out⟩
end Go.Proofs.YtjjjdghkeogljaaDoor
