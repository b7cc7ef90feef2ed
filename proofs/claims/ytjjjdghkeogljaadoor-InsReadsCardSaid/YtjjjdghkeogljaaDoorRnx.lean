/- The document's own Next of any instruction at any place. -/
import Derived.Test.YtjjjdghkeogljaaDoorRu
namespace Go.Proofs.YtjjjdghkeogljaaDoor
set_option linter.unusedSimpArgs false
set_option linter.unusedVariables false
open Go Go.RowKit

theorem srt2 (a b : Int) : srt [a, b] = if a < b then [a, b] else if a = b then [a] else [b, a] := by
  show insG (insG [] a) b = _
  unfold insG
  rfl
theorem srt1 (a : Int) : srt [a] = [a] := rfl
/-- The kinds that matter here: 0 none, 1 a way alone, 2 a branch, 3 an end, 4 any other. -/
theorem next_of (x : Ic) (p : Int) : nextM x p = if 0 ≤ x.k ∧ x.k ≤ 13 ∧ x.k ≠ 12 ∧ x.k ≠ 13 then (if x.k = 6 then [x.t] else if x.k = 7 then (if x.t < p + 1 then [x.t, p + 1] else if p + 1 < x.t then [p + 1, x.t] else [p + 1]) else [p + 1]) else [] := by
  unfold nextM
  by_cases hk : 0 ≤ x.k ∧ x.k ≤ 13
  · rw [if_pos hk]
    obtain ⟨m, hm⟩ := Int.eq_ofNat_of_zero_le hk.1
    have e : x.k.toNat = m := by omega
    rw [e]
    have h10 : ∀ m, m < 14 → hasB m 10 = (m == 6 || m == 7) := by decide
    have hen : ∀ m, m < 14 → ens m = (m == 6 || m == 12 || m == 13) := by decide
    rw [h10 m (by omega), hen m (by omega)]
    by_cases h6 : m = 6
    · have h6' : x.k = 6 := by omega
      rw [h6]
      simp [h6', srt1]
    by_cases h7 : m = 7
    · have h7' : x.k = 7 := by omega
      rw [h7]
      simp only [h7', srt2]
      by_cases a : x.t < p + 1
      · have c : ¬ p + 1 < x.t := by omega
        have d : ¬ p + 1 = x.t := by omega
        simp [a, c, d]
      · by_cases b : p + 1 < x.t
        · simp [a, b]
        · have d : p + 1 = x.t := by omega
          simp [d]
    by_cases h12 : m = 12
    · have h12' : x.k = 12 := by omega
      rw [h12]
      simp [h12']
    by_cases h13 : m = 13
    · have h13' : x.k = 13 := by omega
      rw [h13]
      simp [h13']
    have k6 : ¬ x.k = 6 := by omega
    have k7 : ¬ x.k = 7 := by omega
    have k12 : ¬ x.k = 12 := by omega
    have k13 : ¬ x.k = 13 := by omega
    simp [h6, h7, h12, h13, k6, k7, k12, k13, hk.1, hk.2, srt1]
  · rw [if_neg hk, if_neg (by omega)]
set_option maxRecDepth 100000 in
set_option maxHeartbeats 1000000 in
theorem rnext_un (x : Ic) (p : Int) (w : World) (hp0 : 0 ≤ p) (hp1 : p ≤ 1099511627776) (h : ¬ (0 ≤ x.k ∧ x.k ≤ 13)) : Calls Tryd.prog 14 #[.agg #[.int .i64 x.k, .int .i64 x.o, .int .i64 x.d, .int .i64 x.a, .int .i64 x.b, .int .i64 x.n, .int .i64 x.t], .int .i64 p] w (RowP w ([])) := by
  have hq : ∀ W, Calls Tryd.prog 25 #[.int .i64 x.k] W fun e w' => e = .returned (.string (fldZ x.k)) ∧ Below W.heap.size W w' := fun W => rfields_any x.k W
  obtain ⟨f, hf⟩ : ∃ f, fldZ x.k = f := ⟨_, rfl⟩
  rw [hf] at hq
  have HQ := Lib.hid hq
  have he : f.toList.isEmpty = true := by
    rw [← hf]
    unfold fldZ
    rw [if_neg h, ByteArray.toList_eq]
    rfl
  clear h
  clear hq hf
  go_enter Tryd.func14, Tryd.ntmps14
  go_wp2_with (go_at_call 25; (with_reducible refine (HQ.out _).mono ?_); rintro e1 w1 ⟨rfl, hb1⟩; have HB1 := Lib.hid (below_ch (below1 _ _) hb1); have HX1 := Lib.hid ((Ib.new rfl _ _ _ _ _ _ _).stay hb1); have hz1 : w.heap.size ≤ w1.heap.size := HB1.out.size; obtain ⟨bx1, y0, y1, y2, y3, y4, y5, y6, -⟩ := HX1.out.facts; clear hb1)
  go_ret
  exact rowp_nil HB1.out
set_option maxRecDepth 100000 in
set_option maxHeartbeats 1000000 in
theorem rnext_12 (x : Ic) (p : Int) (w : World) (hp0 : 0 ≤ p) (hp1 : p ≤ 1099511627776) (h : x.k = 12) : Calls Tryd.prog 14 #[.agg #[.int .i64 x.k, .int .i64 x.o, .int .i64 x.d, .int .i64 x.a, .int .i64 x.b, .int .i64 x.n, .int .i64 x.t], .int .i64 p] w (RowP w ([])) := by
  have hq : ∀ W, Calls Tryd.prog 25 #[.int .i64 x.k] W fun e w' => e = .returned (.string (fldZ x.k)) ∧ Below W.heap.size W w' := fun W => rfields_any x.k W
  obtain ⟨f, hf⟩ : ∃ f, fldZ x.k = f := ⟨_, rfl⟩
  rw [hf] at hq
  have HQ := Lib.hid hq
  have he : f.toList.isEmpty = false := by
    rw [← hf]
    unfold fldZ
    rw [if_pos ⟨by omega, by omega⟩, ByteArray.toList_eq]
    have : ∀ k, k < 14 → (fld k).data.toList.isEmpty = false := by decide
    exact this _ (by omega)
  have q12 : (x.k == 12) = true := by simp; omega
  clear h
  clear hq hf
  go_enter Tryd.func14, Tryd.ntmps14
  go_wp2_with (go_at_call 25; (with_reducible refine (HQ.out _).mono ?_); rintro e1 w1 ⟨rfl, hb1⟩; have HB1 := Lib.hid (below_ch (below1 _ _) hb1); have HX1 := Lib.hid ((Ib.new rfl _ _ _ _ _ _ _).stay hb1); have hz1 : w.heap.size ≤ w1.heap.size := HB1.out.size; obtain ⟨bx1, y0, y1, y2, y3, y4, y5, y6, -⟩ := HX1.out.facts; clear hb1)
  go_ret
  exact rowp_nil HB1.out
set_option maxRecDepth 100000 in
set_option maxHeartbeats 1000000 in
theorem rnext_13 (x : Ic) (p : Int) (w : World) (hp0 : 0 ≤ p) (hp1 : p ≤ 1099511627776) (h : x.k = 13) : Calls Tryd.prog 14 #[.agg #[.int .i64 x.k, .int .i64 x.o, .int .i64 x.d, .int .i64 x.a, .int .i64 x.b, .int .i64 x.n, .int .i64 x.t], .int .i64 p] w (RowP w ([])) := by
  have hq : ∀ W, Calls Tryd.prog 25 #[.int .i64 x.k] W fun e w' => e = .returned (.string (fldZ x.k)) ∧ Below W.heap.size W w' := fun W => rfields_any x.k W
  obtain ⟨f, hf⟩ : ∃ f, fldZ x.k = f := ⟨_, rfl⟩
  rw [hf] at hq
  have HQ := Lib.hid hq
  have he : f.toList.isEmpty = false := by
    rw [← hf]
    unfold fldZ
    rw [if_pos ⟨by omega, by omega⟩, ByteArray.toList_eq]
    have : ∀ k, k < 14 → (fld k).data.toList.isEmpty = false := by decide
    exact this _ (by omega)
  have q12 : (x.k == 12) = false := by simp; omega
  have q13 : (x.k == 13) = true := by simp; omega
  clear h
  clear hq hf
  go_enter Tryd.func14, Tryd.ntmps14
  go_wp2_with (go_at_call 25; (with_reducible refine (HQ.out _).mono ?_); rintro e1 w1 ⟨rfl, hb1⟩; have HB1 := Lib.hid (below_ch (below1 _ _) hb1); have HX1 := Lib.hid ((Ib.new rfl _ _ _ _ _ _ _).stay hb1); have hz1 : w.heap.size ≤ w1.heap.size := HB1.out.size; obtain ⟨bx1, y0, y1, y2, y3, y4, y5, y6, -⟩ := HX1.out.facts; clear hb1)
  go_ret
  exact rowp_nil HB1.out
set_option maxRecDepth 100000 in
set_option maxHeartbeats 1000000 in
theorem rnext_6 (x : Ic) (p : Int) (w : World) (hp0 : 0 ≤ p) (hp1 : p ≤ 1099511627776) (h : x.k = 6) : Calls Tryd.prog 14 #[.agg #[.int .i64 x.k, .int .i64 x.o, .int .i64 x.d, .int .i64 x.a, .int .i64 x.b, .int .i64 x.n, .int .i64 x.t], .int .i64 p] w (RowP w ([x.t])) := by
  have hq : ∀ W, Calls Tryd.prog 25 #[.int .i64 x.k] W fun e w' => e = .returned (.string (fldZ x.k)) ∧ Below W.heap.size W w' := fun W => rfields_any x.k W
  obtain ⟨f, hf⟩ : ∃ f, fldZ x.k = f := ⟨_, rfl⟩
  rw [hf] at hq
  have HQ := Lib.hid hq
  have he : f.toList.isEmpty = false := by
    rw [← hf]
    unfold fldZ
    rw [if_pos ⟨by omega, by omega⟩, ByteArray.toList_eq]
    have : ∀ k, k < 14 → (fld k).data.toList.isEmpty = false := by decide
    exact this _ (by omega)
  have q12 : (x.k == 12) = false := by simp; omega
  have q13 : (x.k == 13) = false := by simp; omega
  have q6 : (x.k == 6) = true := by simp; omega
  clear h
  clear hq hf
  go_enter Tryd.func14, Tryd.ntmps14
  go_wp2_with (go_at_call 25; (with_reducible refine (HQ.out _).mono ?_); rintro e1 w1 ⟨rfl, hb1⟩; have HB1 := Lib.hid (below_ch (below1 _ _) hb1); have HX1 := Lib.hid ((Ib.new rfl _ _ _ _ _ _ _).stay hb1); have hz1 : w.heap.size ≤ w1.heap.size := HB1.out.size; obtain ⟨bx1, y0, y1, y2, y3, y4, y5, y6, -⟩ := HX1.out.facts; clear hb1)
  go_ret
  exact ⟨_, rfl, Rw.new _ _ _ _ _ rfl (by simp) hz1 rfl, HB1.out.alloc hz1 _⟩
set_option maxRecDepth 100000 in
set_option maxHeartbeats 1000000 in
theorem rnext_7a (x : Ic) (p : Int) (w : World) (hp0 : 0 ≤ p) (hp1 : p ≤ 1099511627776) (h : x.k = 7) (ha : decide (x.t < p + 1) = true) : Calls Tryd.prog 14 #[.agg #[.int .i64 x.k, .int .i64 x.o, .int .i64 x.d, .int .i64 x.a, .int .i64 x.b, .int .i64 x.n, .int .i64 x.t], .int .i64 p] w (RowP w ([x.t, p + 1])) := by
  have hq : ∀ W, Calls Tryd.prog 25 #[.int .i64 x.k] W fun e w' => e = .returned (.string (fldZ x.k)) ∧ Below W.heap.size W w' := fun W => rfields_any x.k W
  obtain ⟨f, hf⟩ : ∃ f, fldZ x.k = f := ⟨_, rfl⟩
  rw [hf] at hq
  have HQ := Lib.hid hq
  have he : f.toList.isEmpty = false := by
    rw [← hf]
    unfold fldZ
    rw [if_pos ⟨by omega, by omega⟩, ByteArray.toList_eq]
    have : ∀ k, k < 14 → (fld k).data.toList.isEmpty = false := by decide
    exact this _ (by omega)
  have q12 : (x.k == 12) = false := by simp; omega
  have q13 : (x.k == 13) = false := by simp; omega
  have q6 : (x.k == 6) = false := by simp; omega
  have q7 : (x.k == 7) = true := by simp; omega
  clear h
  clear hq hf
  go_enter Tryd.func14, Tryd.ntmps14
  go_wp2_with (go_at_call 25; (with_reducible refine (HQ.out _).mono ?_); rintro e1 w1 ⟨rfl, hb1⟩; have HB1 := Lib.hid (below_ch (below1 _ _) hb1); have HX1 := Lib.hid ((Ib.new rfl _ _ _ _ _ _ _).stay hb1); have hz1 : w.heap.size ≤ w1.heap.size := HB1.out.size; obtain ⟨bx1, y0, y1, y2, y3, y4, y5, y6, -⟩ := HX1.out.facts; clear hb1)
  go_ret
  exact ⟨_, rfl, Rw.new _ _ _ _ _ rfl (by simp) hz1 rfl, HB1.out.alloc hz1 _⟩
set_option maxRecDepth 100000 in
set_option maxHeartbeats 1000000 in
theorem rnext_7b (x : Ic) (p : Int) (w : World) (hp0 : 0 ≤ p) (hp1 : p ≤ 1099511627776) (h : x.k = 7) (ha : decide (x.t < p + 1) = false) (hb : decide (p + 1 < x.t) = true) : Calls Tryd.prog 14 #[.agg #[.int .i64 x.k, .int .i64 x.o, .int .i64 x.d, .int .i64 x.a, .int .i64 x.b, .int .i64 x.n, .int .i64 x.t], .int .i64 p] w (RowP w ([p + 1, x.t])) := by
  have hq : ∀ W, Calls Tryd.prog 25 #[.int .i64 x.k] W fun e w' => e = .returned (.string (fldZ x.k)) ∧ Below W.heap.size W w' := fun W => rfields_any x.k W
  obtain ⟨f, hf⟩ : ∃ f, fldZ x.k = f := ⟨_, rfl⟩
  rw [hf] at hq
  have HQ := Lib.hid hq
  have he : f.toList.isEmpty = false := by
    rw [← hf]
    unfold fldZ
    rw [if_pos ⟨by omega, by omega⟩, ByteArray.toList_eq]
    have : ∀ k, k < 14 → (fld k).data.toList.isEmpty = false := by decide
    exact this _ (by omega)
  have q12 : (x.k == 12) = false := by simp; omega
  have q13 : (x.k == 13) = false := by simp; omega
  have q6 : (x.k == 6) = false := by simp; omega
  have q7 : (x.k == 7) = true := by simp; omega
  clear h
  clear hq hf
  go_enter Tryd.func14, Tryd.ntmps14
  go_wp2_with (go_at_call 25; (with_reducible refine (HQ.out _).mono ?_); rintro e1 w1 ⟨rfl, hb1⟩; have HB1 := Lib.hid (below_ch (below1 _ _) hb1); have HX1 := Lib.hid ((Ib.new rfl _ _ _ _ _ _ _).stay hb1); have hz1 : w.heap.size ≤ w1.heap.size := HB1.out.size; obtain ⟨bx1, y0, y1, y2, y3, y4, y5, y6, -⟩ := HX1.out.facts; clear hb1)
  go_ret
  exact ⟨_, rfl, Rw.new _ _ _ _ _ rfl (by simp) hz1 rfl, HB1.out.alloc hz1 _⟩
set_option maxRecDepth 100000 in
set_option maxHeartbeats 1000000 in
theorem rnext_7c (x : Ic) (p : Int) (w : World) (hp0 : 0 ≤ p) (hp1 : p ≤ 1099511627776) (h : x.k = 7) (ha : decide (x.t < p + 1) = false) (hb : decide (p + 1 < x.t) = false) : Calls Tryd.prog 14 #[.agg #[.int .i64 x.k, .int .i64 x.o, .int .i64 x.d, .int .i64 x.a, .int .i64 x.b, .int .i64 x.n, .int .i64 x.t], .int .i64 p] w (RowP w ([p + 1])) := by
  have hq : ∀ W, Calls Tryd.prog 25 #[.int .i64 x.k] W fun e w' => e = .returned (.string (fldZ x.k)) ∧ Below W.heap.size W w' := fun W => rfields_any x.k W
  obtain ⟨f, hf⟩ : ∃ f, fldZ x.k = f := ⟨_, rfl⟩
  rw [hf] at hq
  have HQ := Lib.hid hq
  have he : f.toList.isEmpty = false := by
    rw [← hf]
    unfold fldZ
    rw [if_pos ⟨by omega, by omega⟩, ByteArray.toList_eq]
    have : ∀ k, k < 14 → (fld k).data.toList.isEmpty = false := by decide
    exact this _ (by omega)
  have q12 : (x.k == 12) = false := by simp; omega
  have q13 : (x.k == 13) = false := by simp; omega
  have q6 : (x.k == 6) = false := by simp; omega
  have q7 : (x.k == 7) = true := by simp; omega
  clear h
  clear hq hf
  go_enter Tryd.func14, Tryd.ntmps14
  go_wp2_with (go_at_call 25; (with_reducible refine (HQ.out _).mono ?_); rintro e1 w1 ⟨rfl, hb1⟩; have HB1 := Lib.hid (below_ch (below1 _ _) hb1); have HX1 := Lib.hid ((Ib.new rfl _ _ _ _ _ _ _).stay hb1); have hz1 : w.heap.size ≤ w1.heap.size := HB1.out.size; obtain ⟨bx1, y0, y1, y2, y3, y4, y5, y6, -⟩ := HX1.out.facts; clear hb1)
  go_ret
  exact ⟨_, rfl, Rw.new _ _ _ _ _ rfl (by simp) hz1 rfl, HB1.out.alloc hz1 _⟩
set_option maxRecDepth 100000 in
set_option maxHeartbeats 1000000 in
theorem rnext_on (x : Ic) (p : Int) (w : World) (hp0 : 0 ≤ p) (hp1 : p ≤ 1099511627776) (h : 0 ≤ x.k ∧ x.k ≤ 13 ∧ x.k ≠ 12 ∧ x.k ≠ 13) (h6 : x.k ≠ 6) (h7 : x.k ≠ 7) : Calls Tryd.prog 14 #[.agg #[.int .i64 x.k, .int .i64 x.o, .int .i64 x.d, .int .i64 x.a, .int .i64 x.b, .int .i64 x.n, .int .i64 x.t], .int .i64 p] w (RowP w ([p + 1])) := by
  have hq : ∀ W, Calls Tryd.prog 25 #[.int .i64 x.k] W fun e w' => e = .returned (.string (fldZ x.k)) ∧ Below W.heap.size W w' := fun W => rfields_any x.k W
  obtain ⟨f, hf⟩ : ∃ f, fldZ x.k = f := ⟨_, rfl⟩
  rw [hf] at hq
  have HQ := Lib.hid hq
  have he : f.toList.isEmpty = false := by
    rw [← hf]
    unfold fldZ
    rw [if_pos ⟨by omega, by omega⟩, ByteArray.toList_eq]
    have : ∀ k, k < 14 → (fld k).data.toList.isEmpty = false := by decide
    exact this _ (by omega)
  have q12 : (x.k == 12) = false := by simp; omega
  have q13 : (x.k == 13) = false := by simp; omega
  have q6 : (x.k == 6) = false := by simp; omega
  have q7 : (x.k == 7) = false := by simp; omega
  clear h h6 h7
  clear hq hf
  go_enter Tryd.func14, Tryd.ntmps14
  go_wp2_with (go_at_call 25; (with_reducible refine (HQ.out _).mono ?_); rintro e1 w1 ⟨rfl, hb1⟩; have HB1 := Lib.hid (below_ch (below1 _ _) hb1); have HX1 := Lib.hid ((Ib.new rfl _ _ _ _ _ _ _).stay hb1); have hz1 : w.heap.size ≤ w1.heap.size := HB1.out.size; obtain ⟨bx1, y0, y1, y2, y3, y4, y5, y6, -⟩ := HX1.out.facts; clear hb1)
  go_ret
  exact ⟨_, rfl, Rw.new _ _ _ _ _ rfl (by simp) hz1 rfl, HB1.out.alloc hz1 _⟩
/-- The document's Next, of any instruction at any place. -/
theorem rnext_any (x : Ic) (p : Int) (w : World) (hp0 : 0 ≤ p) (hp1 : p ≤ 1099511627776) : Calls Tryd.prog 14 #[.agg #[.int .i64 x.k, .int .i64 x.o, .int .i64 x.d, .int .i64 x.a, .int .i64 x.b, .int .i64 x.n, .int .i64 x.t], .int .i64 p] w (RowP w (nextM x p)) := by
  rw [next_of]
  by_cases hk : 0 ≤ x.k ∧ x.k ≤ 13 ∧ x.k ≠ 12 ∧ x.k ≠ 13
  · rw [if_pos hk]
    by_cases h6 : x.k = 6
    · rw [if_pos h6]
      exact rnext_6 x p w hp0 hp1 h6
    · rw [if_neg h6]
      by_cases h7 : x.k = 7
      · rw [if_pos h7]
        by_cases ha : x.t < p + 1
        · rw [if_pos ha]
          exact rnext_7a x p w hp0 hp1 h7 (by simpa using ha)
        · rw [if_neg ha]
          by_cases hb : p + 1 < x.t
          · rw [if_pos hb]
            exact rnext_7b x p w hp0 hp1 h7 (by simpa using ha) (by simpa using hb)
          · rw [if_neg hb]
            exact rnext_7c x p w hp0 hp1 h7 (by simpa using ha) (by simpa using hb)
      · rw [if_neg h7]
        exact rnext_on x p w hp0 hp1 hk h6 h7
  · rw [if_neg hk]
    by_cases h12 : x.k = 12
    · exact rnext_12 x p w hp0 hp1 h12
    · by_cases h13 : x.k = 13
      · exact rnext_13 x p w hp0 hp1 h13
      · exact rnext_un x p w hp0 hp1 (by omega)
end Go.Proofs.YtjjjdghkeogljaaDoor
