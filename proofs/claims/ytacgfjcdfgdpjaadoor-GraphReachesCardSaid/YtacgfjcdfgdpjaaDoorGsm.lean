/- Two answers of one meaning are the same. -/
import Derived.Test.YtacgfjcdfgdpjaaDoorGwp
namespace Go.Proofs.YtacgfjcdfgdpjaaDoor
set_option linter.unusedSimpArgs false
set_option linter.unusedVariables false
open Go Go.RowKit Gm

theorem bools_same {W : World} {v u : Value} {n : Nat} {T : Nat → Prop} (h : Hid (BR W v n T)) (k : Hid (BR W u n T)) (hn : n ≤ 1000000) : Calls Tryd.prog 8 #[v, u] W fun e w' => e = .returned (.bool true) ∧ Below W.heap.size W w' := by
  obtain ⟨q, cq, g, rfl, h1, h2⟩ := h.out
  obtain ⟨q', cq', g', rfl, k1, k2⟩ := k.out
  refine (bools_any (Lib.hid h1) (Lib.hid k1) hn).mono ?_
  rintro e w' ⟨b, rfl, hb, hbl⟩
  exact ⟨by rw [hb.2 ⟨rfl, fun i hi => Bool.eq_iff_iff.2 ((h2 i hi).trans (k2 i hi).symm)⟩], hbl⟩
theorem ints_same {W : World} {v u : Value} {l : List Nat} (h : Hid (RowIn W v l)) (k : Hid (RowIn W u l)) (hn : l.length ≤ 1000000) : Calls Tryd.prog 18 #[v, u] W fun e w' => e = .returned (.bool true) ∧ Below W.heap.size W w' := by
  obtain ⟨q, cq, rfl, h1⟩ := h.out
  obtain ⟨q', cq', rfl, k1⟩ := k.out
  refine (ints_any (Lib.hid h1) (Lib.hid k1) hn).mono ?_
  rintro e w' ⟨b, rfl, hb, hbl⟩
  exact ⟨by rw [hb.2 rfl], hbl⟩
theorem rows_same {W : World} {v u : Value} {m : Nat} {T : Nat → Nat → Prop} (h : Hid (Rows2 W v m fun X i u => NR X u (T i))) (k : Hid (Rows2 W u m fun X i u => NR X u (T i))) (hm : m ≤ 1000000) : Calls Tryd.prog 11 #[v, u] W fun e w' => e = .returned (.bool true) ∧ Below W.heap.size W w' := by
  obtain ⟨q, cq, S, rfl, h1, h2⟩ := h.out
  obtain ⟨q', cq', S', rfl, k1, k2⟩ := k.out
  have hA : ∀ i, ∃ l, i < m → RowIn W (S i) l ∧ l.length ≤ 1000000 ∧ l.Pairwise (fun x y => x < y) ∧ ∀ t, t ∈ l ↔ T i t := fun i => by
    by_cases hi : i < m
    · obtain ⟨l, hl⟩ := h2 i hi
      exact ⟨l, fun _ => hl⟩
    · exact ⟨[], fun h => absurd h hi⟩
  have hB : ∀ i, ∃ l, i < m → RowIn W (S' i) l ∧ l.length ≤ 1000000 ∧ l.Pairwise (fun x y => x < y) ∧ ∀ t, t ∈ l ↔ T i t := fun i => by
    by_cases hi : i < m
    · obtain ⟨l, hl⟩ := k2 i hi
      exact ⟨l, fun _ => hl⟩
    · exact ⟨[], fun h => absurd h hi⟩
  obtain ⟨A, hA⟩ := Classical.axiomOfChoice hA
  obtain ⟨B, hB⟩ := Classical.axiomOfChoice hB
  refine (rowsS_any (A := A) (B := B) (Lib.hid h1) (Lib.hid k1) (Lib.hid fun i hi => ⟨(hA i hi).1, (hA i hi).2.1⟩) (Lib.hid fun i hi => (hB i hi).1) hm).mono ?_
  rintro e w' ⟨b, rfl, hb, hbl⟩
  exact ⟨by rw [hb.2 ⟨rfl, fun i hi => up_same (hA i hi).2.2.1 (hB i hi).2.2.1 fun t => ((hA i hi).2.2.2 t).trans ((hB i hi).2.2.2 t).symm⟩], hbl⟩
theorem Rows2.nr {W X : World} {v : Value} {m : Nat} {T : Nat → Nat → Prop} (h : Rows2 W v m fun X i u => NR X u (T i)) (hb : Below W.heap.size W X) : Rows2 X v m fun X i u => NR X u (T i) := h.stay hb fun _ _ k => k.stay hb
theorem Rows2.br {W X : World} {v : Value} {m n : Nat} {T : Nat → Nat → Prop} (h : Rows2 W v m fun X i u => BR X u n (T i)) (hb : Below W.heap.size W X) : Rows2 X v m fun X i u => BR X u n (T i) := h.stay hb fun _ _ k => k.stay hb
end Go.Proofs.YtacgfjcdfgdpjaaDoor
