/- The document's own Next of any instruction at any place. -/
import Derived.Test.YtacgfjcdfgdpjaaDoorGnx
namespace Go.Proofs.YtacgfjcdfgdpjaaDoor
set_option linter.unusedSimpArgs false
set_option linter.unusedVariables false
open Go Go.RowKit

open Go Go.RowKit

def fldL : List ByteArray := [⟨#[68, 78]⟩, ⟨#[68, 65]⟩, ⟨#[68, 79, 65, 66]⟩, ⟨#[68, 65, 66]⟩, ⟨#[68, 65, 78]⟩, ⟨#[65, 66, 78]⟩, ⟨#[84]⟩, ⟨#[65, 84]⟩, ⟨#[46]⟩, ⟨#[78]⟩, ⟨#[78]⟩, ⟨#[65]⟩, ⟨#[78]⟩, ⟨#[46]⟩]
def fld (k : Nat) : ByteArray := fldL.getD k ByteArray.empty
def fldZ (k : Int) : ByteArray := if 0 ≤ k ∧ k ≤ 13 then fld k.toNat else ⟨#[]⟩
def rfields_c : Array Value := #[.string ⟨#[68, 78]⟩, .string ⟨#[68, 65]⟩, .string ⟨#[68, 79, 65, 66]⟩, .string ⟨#[68, 65, 66]⟩, .string ⟨#[68, 65, 78]⟩, .string ⟨#[65, 66, 78]⟩, .string ⟨#[84]⟩, .string ⟨#[65, 84]⟩, .string ⟨#[46]⟩, .string ⟨#[78]⟩, .string ⟨#[78]⟩, .string ⟨#[65]⟩, .string ⟨#[78]⟩, .string ⟨#[46]⟩]
theorem rfields_at (k : Nat) (h : k < 14) : rfields_c[k]? = some (.string (fld k)) := by
  match k, h with
  | 0, _ => rfl
  | 1, _ => rfl
  | 2, _ => rfl
  | 3, _ => rfl
  | 4, _ => rfl
  | 5, _ => rfl
  | 6, _ => rfl
  | 7, _ => rfl
  | 8, _ => rfl
  | 9, _ => rfl
  | 10, _ => rfl
  | 11, _ => rfl
  | 12, _ => rfl
  | 13, _ => rfl
  | k + 14, h => exact absurd h (by omega)
set_option maxRecDepth 100000 in
theorem rfields_in (k : Int) (f : ByteArray) (w : World) (h0 : 0 ≤ k) (h1 : k ≤ 13) (hf : fld k.toNat = f) : Calls Tryd.prog 51 #[.int .i64 k] w fun e w' => e = .returned (.string f) ∧ Below w.heap.size w w' := by
  have hc : (w.alloc (.cells #[.string ⟨#[68, 78]⟩, .string ⟨#[68, 65]⟩, .string ⟨#[68, 79, 65, 66]⟩, .string ⟨#[68, 65, 66]⟩, .string ⟨#[68, 65, 78]⟩, .string ⟨#[65, 66, 78]⟩, .string ⟨#[84]⟩, .string ⟨#[65, 84]⟩, .string ⟨#[46]⟩, .string ⟨#[78]⟩, .string ⟨#[78]⟩, .string ⟨#[65]⟩, .string ⟨#[78]⟩, .string ⟨#[46]⟩] 9)).cell? ⟨w.heap.size, k.toNat, none⟩ = some (.string f) := by
    rw [← hf, ← rfields_at k.toNat (by omega)]
    exact cell_of_row _ _ k.toNat rfields_c 9 (0, 0) (heap_alloc_new w _)
  have hk : k < 14 := by omega
  clear hf
  go_enter Tryd.func51, Tryd.ntmps51
  go_wp2
  go_ret
  exact ⟨rfl, below1 _ _⟩
theorem rfields_lo (k : Int) (w : World) (h : k < 0) : Calls Tryd.prog 51 #[.int .i64 k] w fun e w' => e = .returned (.string ⟨#[]⟩) ∧ Below w.heap.size w w' := by
  have hd : decide (k < 0) = true := by simpa using h
  go_enter Tryd.func51, Tryd.ntmps51
  go_wp2
  go_ret
  exact ⟨rfl, below1 _ _⟩
theorem rfields_hi (k : Int) (w : World) (h : 13 < k) : Calls Tryd.prog 51 #[.int .i64 k] w fun e w' => e = .returned (.string ⟨#[]⟩) ∧ Below w.heap.size w w' := by
  have hd : decide (k < 0) = false := by simp; omega
  have hd2 : decide (14 ≤ k) = true := by simp; omega
  go_enter Tryd.func51, Tryd.ntmps51
  go_wp2
  go_ret
  exact ⟨rfl, below1 _ _⟩
theorem rfields_any (k : Int) (w : World) : Calls Tryd.prog 51 #[.int .i64 k] w fun e w' => e = .returned (.string (fldZ k)) ∧ Below w.heap.size w w' := by
  unfold fldZ
  by_cases h : 0 ≤ k ∧ k ≤ 13
  · rw [if_pos h]
    exact rfields_in k _ w h.1 h.2 rfl
  · rw [if_neg h]
    by_cases h0 : k < 0
    · exact rfields_lo k w h0
    · exact rfields_hi k w (by omega)
theorem Rw.new (B : Nat) (w : World) (l : List Int) (cs : Array Value) (n : Nat) (hn : n = l.length) (hm : n ≤ 100) (hB : B ≤ w.heap.size) (hc : cs.toList = l.map (Value.int .i64)) : Rw B (w.alloc (.cells cs 3)) (.slice (some ⟨w.heap.size, 0, none⟩) n n) l := by
  subst hn
  have hs : cs.size = l.length := by rw [← Array.length_toList, hc, List.length_map]
  refine ⟨by simp, .inr ⟨w.heap.size, l.length, cs, rfl, hB, heap_alloc_new w _, Nat.le_refl _, by unfold maxLen; omega, by omega, ?_⟩⟩
  rw [hc, Nat.mul_one]
  exact List.take_of_length_le (by simp)

theorem srt2 (a b : Int) : srt [a, b] = if a < b then [a, b] else if a = b then [a] else [b, a] := by
  show insG (insG [] a) b = _
  unfold insG
  rfl
theorem srt1 (a : Int) : srt [a] = [a] := rfl
/-- The kinds that matter here: 0 none, 1 a way alone, 2 a branch, 3 an end, 4 any other. -/
theorem next_of (x : Ic) (p : Int) : nextM x p = if 0 ≤ x.k ∧ x.k ≤ 13 ∧ x.k ≠ 12 ∧ x.k ≠ 13 then (if x.k = 6 then [x.t] else if x.k = 7 then (if x.t < p + 1 then [x.t, p + 1] else if p + 1 < x.t then [p + 1, x.t] else [p + 1]) else [p + 1]) else [] := by
  unfold nextM
  by_cases hk : 0 ≤ x.k ∧ x.k ≤ 13
  · rw [if_pos hk]
    obtain ⟨m, hm⟩ := Int.eq_ofNat_of_zero_le hk.1
    have e : x.k.toNat = m := by omega
    rw [e]
    have h10 : ∀ m, m < 14 → hasB m 10 = (m == 6 || m == 7) := by decide
    have hen : ∀ m, m < 14 → ens m = (m == 6 || m == 12 || m == 13) := by decide
    rw [h10 m (by omega), hen m (by omega)]
    by_cases h6 : m = 6
    · have h6' : x.k = 6 := by omega
      rw [h6]
      simp [h6', srt1]
    by_cases h7 : m = 7
    · have h7' : x.k = 7 := by omega
      rw [h7]
      simp only [h7', srt2]
      by_cases a : x.t < p + 1
      · have c : ¬ p + 1 < x.t := by omega
        have d : ¬ p + 1 = x.t := by omega
        simp [a, c, d]
      · by_cases b : p + 1 < x.t
        · simp [a, b]
        · have d : p + 1 = x.t := by omega
          simp [d]
    by_cases h12 : m = 12
    · have h12' : x.k = 12 := by omega
      rw [h12]
      simp [h12']
    by_cases h13 : m = 13
    · have h13' : x.k = 13 := by omega
      rw [h13]
      simp [h13']
    have k6 : ¬ x.k = 6 := by omega
    have k7 : ¬ x.k = 7 := by omega
    have k12 : ¬ x.k = 12 := by omega
    have k13 : ¬ x.k = 13 := by omega
    simp [h6, h7, h12, h13, k6, k7, k12, k13, hk.1, hk.2, srt1]
  · rw [if_neg hk, if_neg (by omega)]
set_option maxRecDepth 100000 in
set_option maxHeartbeats 1000000 in
theorem rnext_un (x : Ic) (p : Int) (w : World) (hp0 : 0 ≤ p) (hp1 : p ≤ 1099511627776) (h : ¬ (0 ≤ x.k ∧ x.k ≤ 13)) : Calls Tryd.prog 40 #[.agg #[.int .i64 x.k, .int .i64 x.o, .int .i64 x.d, .int .i64 x.a, .int .i64 x.b, .int .i64 x.n, .int .i64 x.t], .int .i64 p] w (RowP w ([])) := by
  have hq : ∀ W, Calls Tryd.prog 51 #[.int .i64 x.k] W fun e w' => e = .returned (.string (fldZ x.k)) ∧ Below W.heap.size W w' := fun W => rfields_any x.k W
  obtain ⟨f, hf⟩ : ∃ f, fldZ x.k = f := ⟨_, rfl⟩
  rw [hf] at hq
  have HQ := Lib.hid hq
  have he : f.toList.isEmpty = true := by
    rw [← hf]
    unfold fldZ
    rw [if_neg h, ByteArray.toList_eq]
    rfl
  clear h
  clear hq hf
  go_enter Tryd.func40, Tryd.ntmps40
  go_wp2_with (go_at_call 51; (with_reducible refine (HQ.out _).mono ?_); rintro e1 w1 ⟨rfl, hb1⟩; have HB1 := Lib.hid (below_ch (below1 _ _) hb1); have HX1 := Lib.hid ((Ib.new rfl _ _ _ _ _ _ _).stay hb1); have hz1 : w.heap.size ≤ w1.heap.size := HB1.out.size; obtain ⟨bx1, y0, y1, y2, y3, y4, y5, y6, -⟩ := HX1.out.facts; clear hb1)
  go_ret
  exact rowp_nil HB1.out
set_option maxRecDepth 100000 in
set_option maxHeartbeats 1000000 in
theorem rnext_12 (x : Ic) (p : Int) (w : World) (hp0 : 0 ≤ p) (hp1 : p ≤ 1099511627776) (h : x.k = 12) : Calls Tryd.prog 40 #[.agg #[.int .i64 x.k, .int .i64 x.o, .int .i64 x.d, .int .i64 x.a, .int .i64 x.b, .int .i64 x.n, .int .i64 x.t], .int .i64 p] w (RowP w ([])) := by
  have hq : ∀ W, Calls Tryd.prog 51 #[.int .i64 x.k] W fun e w' => e = .returned (.string (fldZ x.k)) ∧ Below W.heap.size W w' := fun W => rfields_any x.k W
  obtain ⟨f, hf⟩ : ∃ f, fldZ x.k = f := ⟨_, rfl⟩
  rw [hf] at hq
  have HQ := Lib.hid hq
  have he : f.toList.isEmpty = false := by
    rw [← hf]
    unfold fldZ
    rw [if_pos ⟨by omega, by omega⟩, ByteArray.toList_eq]
    have : ∀ k, k < 14 → (fld k).data.toList.isEmpty = false := by decide
    exact this _ (by omega)
  have q12 : (x.k == 12) = true := by simp; omega
  clear h
  clear hq hf
  go_enter Tryd.func40, Tryd.ntmps40
  go_wp2_with (go_at_call 51; (with_reducible refine (HQ.out _).mono ?_); rintro e1 w1 ⟨rfl, hb1⟩; have HB1 := Lib.hid (below_ch (below1 _ _) hb1); have HX1 := Lib.hid ((Ib.new rfl _ _ _ _ _ _ _).stay hb1); have hz1 : w.heap.size ≤ w1.heap.size := HB1.out.size; obtain ⟨bx1, y0, y1, y2, y3, y4, y5, y6, -⟩ := HX1.out.facts; clear hb1)
  go_ret
  exact rowp_nil HB1.out
set_option maxRecDepth 100000 in
set_option maxHeartbeats 1000000 in
theorem rnext_13 (x : Ic) (p : Int) (w : World) (hp0 : 0 ≤ p) (hp1 : p ≤ 1099511627776) (h : x.k = 13) : Calls Tryd.prog 40 #[.agg #[.int .i64 x.k, .int .i64 x.o, .int .i64 x.d, .int .i64 x.a, .int .i64 x.b, .int .i64 x.n, .int .i64 x.t], .int .i64 p] w (RowP w ([])) := by
  have hq : ∀ W, Calls Tryd.prog 51 #[.int .i64 x.k] W fun e w' => e = .returned (.string (fldZ x.k)) ∧ Below W.heap.size W w' := fun W => rfields_any x.k W
  obtain ⟨f, hf⟩ : ∃ f, fldZ x.k = f := ⟨_, rfl⟩
  rw [hf] at hq
  have HQ := Lib.hid hq
  have he : f.toList.isEmpty = false := by
    rw [← hf]
    unfold fldZ
    rw [if_pos ⟨by omega, by omega⟩, ByteArray.toList_eq]
    have : ∀ k, k < 14 → (fld k).data.toList.isEmpty = false := by decide
    exact this _ (by omega)
  have q12 : (x.k == 12) = false := by simp; omega
  have q13 : (x.k == 13) = true := by simp; omega
  clear h
  clear hq hf
  go_enter Tryd.func40, Tryd.ntmps40
  go_wp2_with (go_at_call 51; (with_reducible refine (HQ.out _).mono ?_); rintro e1 w1 ⟨rfl, hb1⟩; have HB1 := Lib.hid (below_ch (below1 _ _) hb1); have HX1 := Lib.hid ((Ib.new rfl _ _ _ _ _ _ _).stay hb1); have hz1 : w.heap.size ≤ w1.heap.size := HB1.out.size; obtain ⟨bx1, y0, y1, y2, y3, y4, y5, y6, -⟩ := HX1.out.facts; clear hb1)
  go_ret
  exact rowp_nil HB1.out
set_option maxRecDepth 100000 in
set_option maxHeartbeats 1000000 in
theorem rnext_6 (x : Ic) (p : Int) (w : World) (hp0 : 0 ≤ p) (hp1 : p ≤ 1099511627776) (h : x.k = 6) : Calls Tryd.prog 40 #[.agg #[.int .i64 x.k, .int .i64 x.o, .int .i64 x.d, .int .i64 x.a, .int .i64 x.b, .int .i64 x.n, .int .i64 x.t], .int .i64 p] w (RowP w ([x.t])) := by
  have hq : ∀ W, Calls Tryd.prog 51 #[.int .i64 x.k] W fun e w' => e = .returned (.string (fldZ x.k)) ∧ Below W.heap.size W w' := fun W => rfields_any x.k W
  obtain ⟨f, hf⟩ : ∃ f, fldZ x.k = f := ⟨_, rfl⟩
  rw [hf] at hq
  have HQ := Lib.hid hq
  have he : f.toList.isEmpty = false := by
    rw [← hf]
    unfold fldZ
    rw [if_pos ⟨by omega, by omega⟩, ByteArray.toList_eq]
    have : ∀ k, k < 14 → (fld k).data.toList.isEmpty = false := by decide
    exact this _ (by omega)
  have q12 : (x.k == 12) = false := by simp; omega
  have q13 : (x.k == 13) = false := by simp; omega
  have q6 : (x.k == 6) = true := by simp; omega
  clear h
  clear hq hf
  go_enter Tryd.func40, Tryd.ntmps40
  go_wp2_with (go_at_call 51; (with_reducible refine (HQ.out _).mono ?_); rintro e1 w1 ⟨rfl, hb1⟩; have HB1 := Lib.hid (below_ch (below1 _ _) hb1); have HX1 := Lib.hid ((Ib.new rfl _ _ _ _ _ _ _).stay hb1); have hz1 : w.heap.size ≤ w1.heap.size := HB1.out.size; obtain ⟨bx1, y0, y1, y2, y3, y4, y5, y6, -⟩ := HX1.out.facts; clear hb1)
  go_ret
  exact ⟨_, rfl, Rw.new _ _ _ _ _ rfl (by simp) hz1 rfl, HB1.out.alloc hz1 _⟩
set_option maxRecDepth 100000 in
set_option maxHeartbeats 1000000 in
theorem rnext_7a (x : Ic) (p : Int) (w : World) (hp0 : 0 ≤ p) (hp1 : p ≤ 1099511627776) (h : x.k = 7) (ha : decide (x.t < p + 1) = true) : Calls Tryd.prog 40 #[.agg #[.int .i64 x.k, .int .i64 x.o, .int .i64 x.d, .int .i64 x.a, .int .i64 x.b, .int .i64 x.n, .int .i64 x.t], .int .i64 p] w (RowP w ([x.t, p + 1])) := by
  have hq : ∀ W, Calls Tryd.prog 51 #[.int .i64 x.k] W fun e w' => e = .returned (.string (fldZ x.k)) ∧ Below W.heap.size W w' := fun W => rfields_any x.k W
  obtain ⟨f, hf⟩ : ∃ f, fldZ x.k = f := ⟨_, rfl⟩
  rw [hf] at hq
  have HQ := Lib.hid hq
  have he : f.toList.isEmpty = false := by
    rw [← hf]
    unfold fldZ
    rw [if_pos ⟨by omega, by omega⟩, ByteArray.toList_eq]
    have : ∀ k, k < 14 → (fld k).data.toList.isEmpty = false := by decide
    exact this _ (by omega)
  have q12 : (x.k == 12) = false := by simp; omega
  have q13 : (x.k == 13) = false := by simp; omega
  have q6 : (x.k == 6) = false := by simp; omega
  have q7 : (x.k == 7) = true := by simp; omega
  clear h
  clear hq hf
  go_enter Tryd.func40, Tryd.ntmps40
  go_wp2_with (go_at_call 51; (with_reducible refine (HQ.out _).mono ?_); rintro e1 w1 ⟨rfl, hb1⟩; have HB1 := Lib.hid (below_ch (below1 _ _) hb1); have HX1 := Lib.hid ((Ib.new rfl _ _ _ _ _ _ _).stay hb1); have hz1 : w.heap.size ≤ w1.heap.size := HB1.out.size; obtain ⟨bx1, y0, y1, y2, y3, y4, y5, y6, -⟩ := HX1.out.facts; clear hb1)
  go_ret
  exact ⟨_, rfl, Rw.new _ _ _ _ _ rfl (by simp) hz1 rfl, HB1.out.alloc hz1 _⟩
set_option maxRecDepth 100000 in
set_option maxHeartbeats 1000000 in
theorem rnext_7b (x : Ic) (p : Int) (w : World) (hp0 : 0 ≤ p) (hp1 : p ≤ 1099511627776) (h : x.k = 7) (ha : decide (x.t < p + 1) = false) (hb : decide (p + 1 < x.t) = true) : Calls Tryd.prog 40 #[.agg #[.int .i64 x.k, .int .i64 x.o, .int .i64 x.d, .int .i64 x.a, .int .i64 x.b, .int .i64 x.n, .int .i64 x.t], .int .i64 p] w (RowP w ([p + 1, x.t])) := by
  have hq : ∀ W, Calls Tryd.prog 51 #[.int .i64 x.k] W fun e w' => e = .returned (.string (fldZ x.k)) ∧ Below W.heap.size W w' := fun W => rfields_any x.k W
  obtain ⟨f, hf⟩ : ∃ f, fldZ x.k = f := ⟨_, rfl⟩
  rw [hf] at hq
  have HQ := Lib.hid hq
  have he : f.toList.isEmpty = false := by
    rw [← hf]
    unfold fldZ
    rw [if_pos ⟨by omega, by omega⟩, ByteArray.toList_eq]
    have : ∀ k, k < 14 → (fld k).data.toList.isEmpty = false := by decide
    exact this _ (by omega)
  have q12 : (x.k == 12) = false := by simp; omega
  have q13 : (x.k == 13) = false := by simp; omega
  have q6 : (x.k == 6) = false := by simp; omega
  have q7 : (x.k == 7) = true := by simp; omega
  clear h
  clear hq hf
  go_enter Tryd.func40, Tryd.ntmps40
  go_wp2_with (go_at_call 51; (with_reducible refine (HQ.out _).mono ?_); rintro e1 w1 ⟨rfl, hb1⟩; have HB1 := Lib.hid (below_ch (below1 _ _) hb1); have HX1 := Lib.hid ((Ib.new rfl _ _ _ _ _ _ _).stay hb1); have hz1 : w.heap.size ≤ w1.heap.size := HB1.out.size; obtain ⟨bx1, y0, y1, y2, y3, y4, y5, y6, -⟩ := HX1.out.facts; clear hb1)
  go_ret
  exact ⟨_, rfl, Rw.new _ _ _ _ _ rfl (by simp) hz1 rfl, HB1.out.alloc hz1 _⟩
set_option maxRecDepth 100000 in
set_option maxHeartbeats 1000000 in
theorem rnext_7c (x : Ic) (p : Int) (w : World) (hp0 : 0 ≤ p) (hp1 : p ≤ 1099511627776) (h : x.k = 7) (ha : decide (x.t < p + 1) = false) (hb : decide (p + 1 < x.t) = false) : Calls Tryd.prog 40 #[.agg #[.int .i64 x.k, .int .i64 x.o, .int .i64 x.d, .int .i64 x.a, .int .i64 x.b, .int .i64 x.n, .int .i64 x.t], .int .i64 p] w (RowP w ([p + 1])) := by
  have hq : ∀ W, Calls Tryd.prog 51 #[.int .i64 x.k] W fun e w' => e = .returned (.string (fldZ x.k)) ∧ Below W.heap.size W w' := fun W => rfields_any x.k W
  obtain ⟨f, hf⟩ : ∃ f, fldZ x.k = f := ⟨_, rfl⟩
  rw [hf] at hq
  have HQ := Lib.hid hq
  have he : f.toList.isEmpty = false := by
    rw [← hf]
    unfold fldZ
    rw [if_pos ⟨by omega, by omega⟩, ByteArray.toList_eq]
    have : ∀ k, k < 14 → (fld k).data.toList.isEmpty = false := by decide
    exact this _ (by omega)
  have q12 : (x.k == 12) = false := by simp; omega
  have q13 : (x.k == 13) = false := by simp; omega
  have q6 : (x.k == 6) = false := by simp; omega
  have q7 : (x.k == 7) = true := by simp; omega
  clear h
  clear hq hf
  go_enter Tryd.func40, Tryd.ntmps40
  go_wp2_with (go_at_call 51; (with_reducible refine (HQ.out _).mono ?_); rintro e1 w1 ⟨rfl, hb1⟩; have HB1 := Lib.hid (below_ch (below1 _ _) hb1); have HX1 := Lib.hid ((Ib.new rfl _ _ _ _ _ _ _).stay hb1); have hz1 : w.heap.size ≤ w1.heap.size := HB1.out.size; obtain ⟨bx1, y0, y1, y2, y3, y4, y5, y6, -⟩ := HX1.out.facts; clear hb1)
  go_ret
  exact ⟨_, rfl, Rw.new _ _ _ _ _ rfl (by simp) hz1 rfl, HB1.out.alloc hz1 _⟩
set_option maxRecDepth 100000 in
set_option maxHeartbeats 1000000 in
theorem rnext_on (x : Ic) (p : Int) (w : World) (hp0 : 0 ≤ p) (hp1 : p ≤ 1099511627776) (h : 0 ≤ x.k ∧ x.k ≤ 13 ∧ x.k ≠ 12 ∧ x.k ≠ 13) (h6 : x.k ≠ 6) (h7 : x.k ≠ 7) : Calls Tryd.prog 40 #[.agg #[.int .i64 x.k, .int .i64 x.o, .int .i64 x.d, .int .i64 x.a, .int .i64 x.b, .int .i64 x.n, .int .i64 x.t], .int .i64 p] w (RowP w ([p + 1])) := by
  have hq : ∀ W, Calls Tryd.prog 51 #[.int .i64 x.k] W fun e w' => e = .returned (.string (fldZ x.k)) ∧ Below W.heap.size W w' := fun W => rfields_any x.k W
  obtain ⟨f, hf⟩ : ∃ f, fldZ x.k = f := ⟨_, rfl⟩
  rw [hf] at hq
  have HQ := Lib.hid hq
  have he : f.toList.isEmpty = false := by
    rw [← hf]
    unfold fldZ
    rw [if_pos ⟨by omega, by omega⟩, ByteArray.toList_eq]
    have : ∀ k, k < 14 → (fld k).data.toList.isEmpty = false := by decide
    exact this _ (by omega)
  have q12 : (x.k == 12) = false := by simp; omega
  have q13 : (x.k == 13) = false := by simp; omega
  have q6 : (x.k == 6) = false := by simp; omega
  have q7 : (x.k == 7) = false := by simp; omega
  clear h h6 h7
  clear hq hf
  go_enter Tryd.func40, Tryd.ntmps40
  go_wp2_with (go_at_call 51; (with_reducible refine (HQ.out _).mono ?_); rintro e1 w1 ⟨rfl, hb1⟩; have HB1 := Lib.hid (below_ch (below1 _ _) hb1); have HX1 := Lib.hid ((Ib.new rfl _ _ _ _ _ _ _).stay hb1); have hz1 : w.heap.size ≤ w1.heap.size := HB1.out.size; obtain ⟨bx1, y0, y1, y2, y3, y4, y5, y6, -⟩ := HX1.out.facts; clear hb1)
  go_ret
  exact ⟨_, rfl, Rw.new _ _ _ _ _ rfl (by simp) hz1 rfl, HB1.out.alloc hz1 _⟩
/-- The document's Next, of any instruction at any place. -/
theorem rnext_any (x : Ic) (p : Int) (w : World) (hp0 : 0 ≤ p) (hp1 : p ≤ 1099511627776) : Calls Tryd.prog 40 #[.agg #[.int .i64 x.k, .int .i64 x.o, .int .i64 x.d, .int .i64 x.a, .int .i64 x.b, .int .i64 x.n, .int .i64 x.t], .int .i64 p] w (RowP w (nextM x p)) := by
  rw [next_of]
  by_cases hk : 0 ≤ x.k ∧ x.k ≤ 13 ∧ x.k ≠ 12 ∧ x.k ≠ 13
  · rw [if_pos hk]
    by_cases h6 : x.k = 6
    · rw [if_pos h6]
      exact rnext_6 x p w hp0 hp1 h6
    · rw [if_neg h6]
      by_cases h7 : x.k = 7
      · rw [if_pos h7]
        by_cases ha : x.t < p + 1
        · rw [if_pos ha]
          exact rnext_7a x p w hp0 hp1 h7 (by simpa using ha)
        · rw [if_neg ha]
          by_cases hb : p + 1 < x.t
          · rw [if_pos hb]
            exact rnext_7b x p w hp0 hp1 h7 (by simpa using ha) (by simpa using hb)
          · rw [if_neg hb]
            exact rnext_7c x p w hp0 hp1 h7 (by simpa using ha) (by simpa using hb)
      · rw [if_neg h7]
        exact rnext_on x p w hp0 hp1 hk h6 h7
  · rw [if_neg hk]
    by_cases h12 : x.k = 12
    · exact rnext_12 x p w hp0 hp1 h12
    · by_cases h13 : x.k = 13
      · exact rnext_13 x p w hp0 hp1 h13
      · exact rnext_un x p w hp0 hp1 (by omega)
end Go.Proofs.YtacgfjcdfgdpjaaDoor
