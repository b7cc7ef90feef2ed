/- Lemmas for the laws of live (Rcm Rcd Flw Gld Opn): each says its own conditions. -/
import Derived.Test.YtgdhgipofaaogaaDoorJ07
import Derived.Deep.QuietTactic
import Derived.BigQuiet
import Derived.Test.YtgdhgipofaaogaaDoorJ01
import Derived.Test.YtgdhgipofaaogaaDoorRows
import Derived.ProofKit
import Derived.LaidMore
import Derived.OpenShut
import Derived.Stop.Joined
import Derived.Stop.LaidErr
import Derived.LaidLaws
import Derived.Lib.SmallJoins
import Derived.Deep.Strs
import Derived.SizedLaws
set_option linter.unusedSimpArgs false
set_option linter.unusedVariables false
namespace Go.Proofs.YtgdhgipofaaogaaDoor
open Go Go.RowKit
theorem one_eq0 (x : Ic) (size regs locks : Int) (hs : 0 < size) (hk : x.k = 0) : OneK x size regs locks ⟨#[68, 78]⟩ false ↔ rightB x regs locks size = true := by
  obtain ⟨k, o, d, a, b, n, t⟩ := x
  simp only at hk
  subst hk
  have r4 : List.range 4 = [0, 1, 2, 3] := rfl
  have p0 : prt 0 0 = 1 := rfl
  have p1 : prt 0 1 = 6 := rfl
  have p2 : prt 0 2 = 0 := rfl
  have p3 : prt 0 3 = 0 := rfl
  have hD : hasC ⟨#[68, 78]⟩ 68 = true := by decide
  have hA : hasC ⟨#[68, 78]⟩ 65 = false := by decide
  have hB : hasC ⟨#[68, 78]⟩ 66 = false := by decide
  have hO : hasC ⟨#[68, 78]⟩ 79 = false := by decide
  have hN : hasC ⟨#[68, 78]⟩ 78 = true := by decide
  have hT : hasC ⟨#[68, 78]⟩ 84 = false := by decide
  have ht : (0 : Int).toNat = 0 := rfl
  unfold OneK rightB fitTo outTo bareB
  simp [r4, ht, p0, p1, p2, p3, hD, hA, hB, hO, hN, hT, regB, numK, fitsB, outP]
  omega
theorem one_eq1 (x : Ic) (size regs locks : Int) (hs : 0 < size) (hk : x.k = 1) : OneK x size regs locks ⟨#[68, 65]⟩ false ↔ rightB x regs locks size = true := by
  obtain ⟨k, o, d, a, b, n, t⟩ := x
  simp only at hk
  subst hk
  have r4 : List.range 4 = [0, 1, 2, 3] := rfl
  have p0 : prt 1 0 = 1 := rfl
  have p1 : prt 1 1 = 2 := rfl
  have p2 : prt 1 2 = 0 := rfl
  have p3 : prt 1 3 = 0 := rfl
  have hD : hasC ⟨#[68, 65]⟩ 68 = true := by decide
  have hA : hasC ⟨#[68, 65]⟩ 65 = true := by decide
  have hB : hasC ⟨#[68, 65]⟩ 66 = false := by decide
  have hO : hasC ⟨#[68, 65]⟩ 79 = false := by decide
  have hN : hasC ⟨#[68, 65]⟩ 78 = false := by decide
  have hT : hasC ⟨#[68, 65]⟩ 84 = false := by decide
  have ht : (1 : Int).toNat = 1 := rfl
  unfold OneK rightB fitTo outTo bareB
  simp [r4, ht, p0, p1, p2, p3, hD, hA, hB, hO, hN, hT, regB, numK, fitsB, outP]
  omega
theorem one_eq2 (x : Ic) (size regs locks : Int) (hs : 0 < size) (hk : x.k = 2) : OneK x size regs locks ⟨#[68, 79, 65, 66]⟩ false ↔ rightB x regs locks size = true := by
  obtain ⟨k, o, d, a, b, n, t⟩ := x
  simp only at hk
  subst hk
  have r4 : List.range 4 = [0, 1, 2, 3] := rfl
  have p0 : prt 2 0 = 1 := rfl
  have p1 : prt 2 1 = 2 := rfl
  have p2 : prt 2 2 = 5 := rfl
  have p3 : prt 2 3 = 4 := rfl
  have hD : hasC ⟨#[68, 79, 65, 66]⟩ 68 = true := by decide
  have hA : hasC ⟨#[68, 79, 65, 66]⟩ 65 = true := by decide
  have hB : hasC ⟨#[68, 79, 65, 66]⟩ 66 = true := by decide
  have hO : hasC ⟨#[68, 79, 65, 66]⟩ 79 = true := by decide
  have hN : hasC ⟨#[68, 79, 65, 66]⟩ 78 = false := by decide
  have hT : hasC ⟨#[68, 79, 65, 66]⟩ 84 = false := by decide
  have ht : (2 : Int).toNat = 2 := rfl
  unfold OneK rightB fitTo outTo bareB
  simp [r4, ht, p0, p1, p2, p3, hD, hA, hB, hO, hN, hT, regB, numK, fitsB, outP]
  omega
theorem one_eq3 (x : Ic) (size regs locks : Int) (hs : 0 < size) (hk : x.k = 3) : OneK x size regs locks ⟨#[68, 65, 66]⟩ false ↔ rightB x regs locks size = true := by
  obtain ⟨k, o, d, a, b, n, t⟩ := x
  simp only at hk
  subst hk
  have r4 : List.range 4 = [0, 1, 2, 3] := rfl
  have p0 : prt 3 0 = 1 := rfl
  have p1 : prt 3 1 = 2 := rfl
  have p2 : prt 3 2 = 4 := rfl
  have p3 : prt 3 3 = 0 := rfl
  have hD : hasC ⟨#[68, 65, 66]⟩ 68 = true := by decide
  have hA : hasC ⟨#[68, 65, 66]⟩ 65 = true := by decide
  have hB : hasC ⟨#[68, 65, 66]⟩ 66 = true := by decide
  have hO : hasC ⟨#[68, 65, 66]⟩ 79 = false := by decide
  have hN : hasC ⟨#[68, 65, 66]⟩ 78 = false := by decide
  have hT : hasC ⟨#[68, 65, 66]⟩ 84 = false := by decide
  have ht : (3 : Int).toNat = 3 := rfl
  unfold OneK rightB fitTo outTo bareB
  simp [r4, ht, p0, p1, p2, p3, hD, hA, hB, hO, hN, hT, regB, numK, fitsB, outP]
  omega
theorem one_eq4 (x : Ic) (size regs locks : Int) (hs : 0 < size) (hk : x.k = 4) : OneK x size regs locks ⟨#[68, 65, 78]⟩ true ↔ rightB x regs locks size = true := by
  obtain ⟨k, o, d, a, b, n, t⟩ := x
  simp only at hk
  subst hk
  have r4 : List.range 4 = [0, 1, 2, 3] := rfl
  have p0 : prt 4 0 = 1 := rfl
  have p1 : prt 4 1 = 7 := rfl
  have p2 : prt 4 2 = 3 := rfl
  have p3 : prt 4 3 = 0 := rfl
  have hD : hasC ⟨#[68, 65, 78]⟩ 68 = true := by decide
  have hA : hasC ⟨#[68, 65, 78]⟩ 65 = true := by decide
  have hB : hasC ⟨#[68, 65, 78]⟩ 66 = false := by decide
  have hO : hasC ⟨#[68, 65, 78]⟩ 79 = false := by decide
  have hN : hasC ⟨#[68, 65, 78]⟩ 78 = true := by decide
  have hT : hasC ⟨#[68, 65, 78]⟩ 84 = false := by decide
  have ht : (4 : Int).toNat = 4 := rfl
  unfold OneK rightB fitTo outTo bareB
  simp [r4, ht, p0, p1, p2, p3, hD, hA, hB, hO, hN, hT, regB, numK, fitsB, outP]
  omega
theorem one_eq5 (x : Ic) (size regs locks : Int) (hs : 0 < size) (hk : x.k = 5) : OneK x size regs locks ⟨#[65, 66, 78]⟩ true ↔ rightB x regs locks size = true := by
  obtain ⟨k, o, d, a, b, n, t⟩ := x
  simp only at hk
  subst hk
  have r4 : List.range 4 = [0, 1, 2, 3] := rfl
  have p0 : prt 5 0 = 7 := rfl
  have p1 : prt 5 1 = 4 := rfl
  have p2 : prt 5 2 = 3 := rfl
  have p3 : prt 5 3 = 0 := rfl
  have hD : hasC ⟨#[65, 66, 78]⟩ 68 = false := by decide
  have hA : hasC ⟨#[65, 66, 78]⟩ 65 = true := by decide
  have hB : hasC ⟨#[65, 66, 78]⟩ 66 = true := by decide
  have hO : hasC ⟨#[65, 66, 78]⟩ 79 = false := by decide
  have hN : hasC ⟨#[65, 66, 78]⟩ 78 = true := by decide
  have hT : hasC ⟨#[65, 66, 78]⟩ 84 = false := by decide
  have ht : (5 : Int).toNat = 5 := rfl
  unfold OneK rightB fitTo outTo bareB
  simp [r4, ht, p0, p1, p2, p3, hD, hA, hB, hO, hN, hT, regB, numK, fitsB, outP]
  omega
theorem one_eq6 (x : Ic) (size regs locks : Int) (hs : 0 < size) (hk : x.k = 6) : OneK x size regs locks ⟨#[84]⟩ false ↔ rightB x regs locks size = true := by
  obtain ⟨k, o, d, a, b, n, t⟩ := x
  simp only at hk
  subst hk
  have r4 : List.range 4 = [0, 1, 2, 3] := rfl
  have p0 : prt 6 0 = 10 := rfl
  have p1 : prt 6 1 = 0 := rfl
  have p2 : prt 6 2 = 0 := rfl
  have p3 : prt 6 3 = 0 := rfl
  have hD : hasC ⟨#[84]⟩ 68 = false := by decide
  have hA : hasC ⟨#[84]⟩ 65 = false := by decide
  have hB : hasC ⟨#[84]⟩ 66 = false := by decide
  have hO : hasC ⟨#[84]⟩ 79 = false := by decide
  have hN : hasC ⟨#[84]⟩ 78 = false := by decide
  have hT : hasC ⟨#[84]⟩ 84 = true := by decide
  have ht : (6 : Int).toNat = 6 := rfl
  unfold OneK rightB fitTo outTo bareB
  simp [r4, ht, p0, p1, p2, p3, hD, hA, hB, hO, hN, hT, regB, numK, fitsB, outP]
  omega
theorem one_eq7 (x : Ic) (size regs locks : Int) (hs : 0 < size) (hk : x.k = 7) : OneK x size regs locks ⟨#[65, 84]⟩ false ↔ rightB x regs locks size = true := by
  obtain ⟨k, o, d, a, b, n, t⟩ := x
  simp only at hk
  subst hk
  have r4 : List.range 4 = [0, 1, 2, 3] := rfl
  have p0 : prt 7 0 = 2 := rfl
  have p1 : prt 7 1 = 10 := rfl
  have p2 : prt 7 2 = 0 := rfl
  have p3 : prt 7 3 = 0 := rfl
  have hD : hasC ⟨#[65, 84]⟩ 68 = false := by decide
  have hA : hasC ⟨#[65, 84]⟩ 65 = true := by decide
  have hB : hasC ⟨#[65, 84]⟩ 66 = false := by decide
  have hO : hasC ⟨#[65, 84]⟩ 79 = false := by decide
  have hN : hasC ⟨#[65, 84]⟩ 78 = false := by decide
  have hT : hasC ⟨#[65, 84]⟩ 84 = true := by decide
  have ht : (7 : Int).toNat = 7 := rfl
  unfold OneK rightB fitTo outTo bareB
  simp [r4, ht, p0, p1, p2, p3, hD, hA, hB, hO, hN, hT, regB, numK, fitsB, outP]
  omega
theorem one_eq8 (x : Ic) (size regs locks : Int) (hs : 0 < size) (hk : x.k = 8) : OneK x size regs locks ⟨#[46]⟩ false ↔ rightB x regs locks size = true := by
  obtain ⟨k, o, d, a, b, n, t⟩ := x
  simp only at hk
  subst hk
  have r4 : List.range 4 = [0, 1, 2, 3] := rfl
  have p0 : prt 8 0 = 0 := rfl
  have p1 : prt 8 1 = 0 := rfl
  have p2 : prt 8 2 = 0 := rfl
  have p3 : prt 8 3 = 0 := rfl
  have hD : hasC ⟨#[46]⟩ 68 = false := by decide
  have hA : hasC ⟨#[46]⟩ 65 = false := by decide
  have hB : hasC ⟨#[46]⟩ 66 = false := by decide
  have hO : hasC ⟨#[46]⟩ 79 = false := by decide
  have hN : hasC ⟨#[46]⟩ 78 = false := by decide
  have hT : hasC ⟨#[46]⟩ 84 = false := by decide
  have ht : (8 : Int).toNat = 8 := rfl
  unfold OneK rightB fitTo outTo bareB
  simp [r4, ht, p0, p1, p2, p3, hD, hA, hB, hO, hN, hT, regB, numK, fitsB, outP]
  omega
theorem one_eq9 (x : Ic) (size regs locks : Int) (hs : 0 < size) (hk : x.k = 9) : OneK x size regs locks ⟨#[78]⟩ false ↔ rightB x regs locks size = true := by
  obtain ⟨k, o, d, a, b, n, t⟩ := x
  simp only at hk
  subst hk
  have r4 : List.range 4 = [0, 1, 2, 3] := rfl
  have p0 : prt 9 0 = 8 := rfl
  have p1 : prt 9 1 = 0 := rfl
  have p2 : prt 9 2 = 0 := rfl
  have p3 : prt 9 3 = 0 := rfl
  have hD : hasC ⟨#[78]⟩ 68 = false := by decide
  have hA : hasC ⟨#[78]⟩ 65 = false := by decide
  have hB : hasC ⟨#[78]⟩ 66 = false := by decide
  have hO : hasC ⟨#[78]⟩ 79 = false := by decide
  have hN : hasC ⟨#[78]⟩ 78 = true := by decide
  have hT : hasC ⟨#[78]⟩ 84 = false := by decide
  have ht : (9 : Int).toNat = 9 := rfl
  unfold OneK rightB fitTo outTo bareB
  simp [r4, ht, p0, p1, p2, p3, hD, hA, hB, hO, hN, hT, regB, numK, fitsB, outP]
  omega
theorem one_eq10 (x : Ic) (size regs locks : Int) (hs : 0 < size) (hk : x.k = 10) : OneK x size regs locks ⟨#[78]⟩ false ↔ rightB x regs locks size = true := by
  obtain ⟨k, o, d, a, b, n, t⟩ := x
  simp only at hk
  subst hk
  have r4 : List.range 4 = [0, 1, 2, 3] := rfl
  have p0 : prt 10 0 = 8 := rfl
  have p1 : prt 10 1 = 0 := rfl
  have p2 : prt 10 2 = 0 := rfl
  have p3 : prt 10 3 = 0 := rfl
  have hD : hasC ⟨#[78]⟩ 68 = false := by decide
  have hA : hasC ⟨#[78]⟩ 65 = false := by decide
  have hB : hasC ⟨#[78]⟩ 66 = false := by decide
  have hO : hasC ⟨#[78]⟩ 79 = false := by decide
  have hN : hasC ⟨#[78]⟩ 78 = true := by decide
  have hT : hasC ⟨#[78]⟩ 84 = false := by decide
  have ht : (10 : Int).toNat = 10 := rfl
  unfold OneK rightB fitTo outTo bareB
  simp [r4, ht, p0, p1, p2, p3, hD, hA, hB, hO, hN, hT, regB, numK, fitsB, outP]
  omega
theorem one_eq11 (x : Ic) (size regs locks : Int) (hs : 0 < size) (hk : x.k = 11) : OneK x size regs locks ⟨#[65]⟩ false ↔ rightB x regs locks size = true := by
  obtain ⟨k, o, d, a, b, n, t⟩ := x
  simp only at hk
  subst hk
  have r4 : List.range 4 = [0, 1, 2, 3] := rfl
  have p0 : prt 11 0 = 2 := rfl
  have p1 : prt 11 1 = 0 := rfl
  have p2 : prt 11 2 = 0 := rfl
  have p3 : prt 11 3 = 0 := rfl
  have hD : hasC ⟨#[65]⟩ 68 = false := by decide
  have hA : hasC ⟨#[65]⟩ 65 = true := by decide
  have hB : hasC ⟨#[65]⟩ 66 = false := by decide
  have hO : hasC ⟨#[65]⟩ 79 = false := by decide
  have hN : hasC ⟨#[65]⟩ 78 = false := by decide
  have hT : hasC ⟨#[65]⟩ 84 = false := by decide
  have ht : (11 : Int).toNat = 11 := rfl
  unfold OneK rightB fitTo outTo bareB
  simp [r4, ht, p0, p1, p2, p3, hD, hA, hB, hO, hN, hT, regB, numK, fitsB, outP]
  omega
theorem one_eq12 (x : Ic) (size regs locks : Int) (hs : 0 < size) (hk : x.k = 12) : OneK x size regs locks ⟨#[78]⟩ false ↔ rightB x regs locks size = true := by
  obtain ⟨k, o, d, a, b, n, t⟩ := x
  simp only at hk
  subst hk
  have r4 : List.range 4 = [0, 1, 2, 3] := rfl
  have p0 : prt 12 0 = 9 := rfl
  have p1 : prt 12 1 = 0 := rfl
  have p2 : prt 12 2 = 0 := rfl
  have p3 : prt 12 3 = 0 := rfl
  have hD : hasC ⟨#[78]⟩ 68 = false := by decide
  have hA : hasC ⟨#[78]⟩ 65 = false := by decide
  have hB : hasC ⟨#[78]⟩ 66 = false := by decide
  have hO : hasC ⟨#[78]⟩ 79 = false := by decide
  have hN : hasC ⟨#[78]⟩ 78 = true := by decide
  have hT : hasC ⟨#[78]⟩ 84 = false := by decide
  have ht : (12 : Int).toNat = 12 := rfl
  unfold OneK rightB fitTo outTo bareB
  simp [r4, ht, p0, p1, p2, p3, hD, hA, hB, hO, hN, hT, regB, numK, fitsB, outP]
  omega
theorem one_eq13 (x : Ic) (size regs locks : Int) (hs : 0 < size) (hk : x.k = 13) : OneK x size regs locks ⟨#[46]⟩ false ↔ rightB x regs locks size = true := by
  obtain ⟨k, o, d, a, b, n, t⟩ := x
  simp only at hk
  subst hk
  have r4 : List.range 4 = [0, 1, 2, 3] := rfl
  have p0 : prt 13 0 = 0 := rfl
  have p1 : prt 13 1 = 0 := rfl
  have p2 : prt 13 2 = 0 := rfl
  have p3 : prt 13 3 = 0 := rfl
  have hD : hasC ⟨#[46]⟩ 68 = false := by decide
  have hA : hasC ⟨#[46]⟩ 65 = false := by decide
  have hB : hasC ⟨#[46]⟩ 66 = false := by decide
  have hO : hasC ⟨#[46]⟩ 79 = false := by decide
  have hN : hasC ⟨#[46]⟩ 78 = false := by decide
  have hT : hasC ⟨#[46]⟩ 84 = false := by decide
  have ht : (13 : Int).toNat = 13 := rfl
  unfold OneK rightB fitTo outTo bareB
  simp [r4, ht, p0, p1, p2, p3, hD, hA, hB, hO, hN, hT, regB, numK, fitsB, outP]
  omega
end Go.Proofs.YtgdhgipofaaogaaDoor
namespace Go.Proofs.YtgdhgipofaaogaaDoor
open Go Go.RowKit Go.WideShapes
theorem rone_ck (x : Ic) (size regs locks : Int) (hs : 0 < size) (w : World) : Calls Tryd.prog 18 #[.agg #[.int .i64 x.k, .int .i64 x.o, .int .i64 x.d, .int .i64 x.a, .int .i64 x.b, .int .i64 x.n, .int .i64 x.t], .int .i64 size, .int .i64 regs, .int .i64 locks] w fun e w' => e = .returned (.bool (rightB x regs locks size)) ∧ Below w.heap.size w w' := by
  by_cases hk : 0 ≤ x.k ∧ x.k ≤ 13
  · refine (one_kn x size regs locks w hk _ _ rfl rfl).mono ?_
    rintro e w' ⟨b, rfl, hb, hw⟩
    refine ⟨?_, hw⟩
    have hz : fldZ x.k = fld x.k.toNat := if_pos hk
    have key : OneK x size regs locks (fldZ x.k) (x.k == 4 || x.k == 5) ↔ rightB x regs locks size = true := by
      have e : x.k = 0 ∨ x.k = 1 ∨ x.k = 2 ∨ x.k = 3 ∨ x.k = 4 ∨ x.k = 5 ∨ x.k = 6 ∨ x.k = 7 ∨ x.k = 8 ∨ x.k = 9 ∨ x.k = 10 ∨ x.k = 11 ∨ x.k = 12 ∨ x.k = 13 := by omega
      rcases e with e | e | e | e | e | e | e | e | e | e | e | e | e | e
      · rw [hz, e]
        exact one_eq0 x size regs locks hs e
      · rw [hz, e]
        exact one_eq1 x size regs locks hs e
      · rw [hz, e]
        exact one_eq2 x size regs locks hs e
      · rw [hz, e]
        exact one_eq3 x size regs locks hs e
      · rw [hz, e]
        exact one_eq4 x size regs locks hs e
      · rw [hz, e]
        exact one_eq5 x size regs locks hs e
      · rw [hz, e]
        exact one_eq6 x size regs locks hs e
      · rw [hz, e]
        exact one_eq7 x size regs locks hs e
      · rw [hz, e]
        exact one_eq8 x size regs locks hs e
      · rw [hz, e]
        exact one_eq9 x size regs locks hs e
      · rw [hz, e]
        exact one_eq10 x size regs locks hs e
      · rw [hz, e]
        exact one_eq11 x size regs locks hs e
      · rw [hz, e]
        exact one_eq12 x size regs locks hs e
      · rw [hz, e]
        exact one_eq13 x size regs locks hs e
    rw [key] at hb
    cases b <;> cases h : rightB x regs locks size
    · rfl
    · exact absurd (hb.2 h) (by decide)
    · exact absurd (hb.1 rfl) (by rw [h]; decide)
    · rfl
  · have e : rightB x regs locks size = false := if_neg hk
    rw [e]
    exact one_un x size regs locks w hk
theorem rone_is {x : Ic} {size regs locks : Int} {b : Bool} (h : rightB x regs locks size = b) (hs : 0 < size) (w : World) : Calls Tryd.prog 18 #[.agg #[.int .i64 x.k, .int .i64 x.o, .int .i64 x.d, .int .i64 x.a, .int .i64 x.b, .int .i64 x.n, .int .i64 x.t], .int .i64 size, .int .i64 regs, .int .i64 locks] w fun e w' => e = .returned (.bool b) ∧ Below w.heap.size w w' := h ▸ rone_ck x size regs locks hs w
theorem right_kind {x : Ic} {regs locks many : Int} (h : rightB x regs locks many = true) : 0 ≤ x.k ∧ x.k ≤ 13 := by
  unfold rightB at h
  split at h
  · assumption
  · cases h

def lastE (c : List Ic) : Bool := match c.getLast? with
  | some x => ens x.k.toNat
  | none => false
/-- Whether a code may be. -/
def checkB (c : List Ic) (regs locks : Int) : Bool := if c.length < 1 ∨ 4096 < c.length then false else if c.all (fun x => rightB x regs locks c.length) then lastE c else false
theorem rchk_short (c : List Ic) (p : Option Addr) (cap : Nat) (regs locks : Int) (w : World) (h : c.length = 0) : Calls Tryd.prog 8 #[.slice p c.length cap, .int .i64 regs, .int .i64 locks] w fun e w' => e = .returned (.bool false) ∧ Below w.heap.size w w' := by
  rw [h]
  go_enter Tryd.func8, Tryd.ntmps8
  go_wp2
  go_ret
  exact ⟨rfl, Below.refl _ _⟩
theorem rchk_long (c : List Ic) (p : Option Addr) (cap : Nat) (regs locks : Int) (w : World) (h : 4096 < c.length) : Calls Tryd.prog 8 #[.slice p c.length cap, .int .i64 regs, .int .i64 locks] w fun e w' => e = .returned (.bool false) ∧ Below w.heap.size w w' := by
  have h1 : decide ((c.length : Int) < 1) = false := by simp; omega
  have h2 : decide (4096 < (c.length : Int)) = true := by simp; omega
  go_enter Tryd.func8, Tryd.ntmps8
  go_wp2
  go_ret
  exact ⟨rfl, Below.refl _ _⟩
theorem last_kind {k : Int} (h0 : 0 ≤ k) (h1 : k ≤ 13) : ens k.toNat = (k == 6 || k == 12 || k == 13) := by
  obtain ⟨m, rfl⟩ := Int.eq_ofNat_of_zero_le h0
  have : ∀ m, m < 14 → ens m = (((m : Int) == 6) || ((m : Int) == 12) || ((m : Int) == 13)) := by decide
  exact this m (by omega)
set_option maxRecDepth 100000 in
set_option maxHeartbeats 4000000 in
theorem rchk_mid (m : Nat) (c : List Ic) (hm : c.length = m + 1) (p : Option Addr) (cap : Nat) (regs locks : Int) (w : World) (hl : m + 1 ≤ 4096) (hc : Hid (CodeAt w p c)) (r : Bool) (hr : Hid ((if c.all (fun x => rightB x regs locks c.length) then lastE c else false) = r)) : Calls Tryd.prog 8 #[.slice p (m + 1) cap, .int .i64 regs, .int .i64 locks] w fun e w' => e = .returned (.bool r) ∧ Below w.heap.size w w' := by
  have HM := Lib.hid hm
  clear hm
  have h1 : decide ((m : Int) + 1 < 1) = false := by simp; omega
  have h2 : decide (4096 < (m : Int) + 1) = false := by simp; omega
  go_enter Tryd.func8, Tryd.ntmps8
  go_wp2
  go_loopw [7] (fun i wr => ∃ k : Nat, i = .int .i64 k ∧ k ≤ m + 1 ∧ Hid (∀ j x, j < k → c[j]? = some x → rightB x regs locks c.length = true) ∧ Hid (Below w.heap.size w wr)) (fun i _ => m + 1 - (intOf i).toNat)
  case atStart => exact ⟨0, rfl, Nat.zero_le _, Lib.hid (fun j x h => absurd h (by omega)), Lib.hid (Below.refl _ _)⟩
  case round =>
    obtain ⟨k, rfl, hk, HN, HB⟩ := hrel
    by_cases hlt : k < m + 1
    · obtain ⟨x, hx⟩ : ∃ x, c[k]? = some x := ⟨_, List.getElem?_eq_getElem (by rw [HM.out]; exact hlt)⟩
      obtain ⟨g, o, rfl, hg, hat, hok⟩ := hc.out k x hx
      obtain ⟨y0, y1, y2, y3, y4, y5, y6⟩ := hat.stay hg HB.out
      have HX := Lib.hid hx
      have hwz : w.heap.size ≤ wr.heap.size := HB.out.size
      have hgw : g < wr.heap.size := by omega
      have hk2 : (k : Int) < (m : Int) + 1 := by omega
      have hk3 : (0 : Int) ≤ k := by omega
      have HQ : Hid (((m + 1 : Nat) : Int) = (c.length : Int)) := Lib.hid (by rw [HM.out])
      clear hx hat hok
      cases hq : rightB x regs locks ((m : Int) + 1)
      · have HR : Hid (r = false) := Lib.hid (by
          rw [← hr.out, if_neg]
          intro h
          have := List.all_eq_true.1 h x (List.mem_of_getElem? HX.out)
          rw [HM.out] at this
          rw [show (((m + 1 : Nat) : Int)) = (m : Int) + 1 by omega, hq] at this
          cases this)
        have HF := Lib.hid hq
        clear hq
        go_wp2_with (go_at_call 18; (with_reducible refine (rone_is HF.out (by omega) _).mono ?_); rintro e1 w1 ⟨rfl, hb1⟩; have HB1 := Lib.hid hb1; clear hb1)
        go_ret
        exact ⟨ret_bool HR.out.symm, below_ch HB.out HB1.out⟩
      · have HN2 : Hid (∀ j x, j < k + 1 → c[j]? = some x → rightB x regs locks c.length = true) := Lib.hid (fun j z hj hz => by
          by_cases e : j = k
          · subst e
            rw [HX.out] at hz
            cases hz
            rw [← HQ.out, show (((m + 1 : Nat) : Int)) = (m : Int) + 1 by omega]
            exact hq
          · exact HN.out j z (by omega) hz)
        have HF := Lib.hid hq
        clear hq
        go_wp2_with (go_at_call 18; (with_reducible refine (rone_is HF.out (by omega) _).mono ?_); rintro e1 w1 ⟨rfl, hb1⟩; have HB1 := Lib.hid hb1; clear hb1)
        go_roundw
        case rel => exact ⟨k + 1, by go_num, by omega, HN2, Lib.hid (below_ch HB.out HB1.out)⟩
        case measure => simp [intOf]; omega
    · obtain rfl : k = m + 1 := by omega
      obtain ⟨x, hx⟩ : ∃ x, c[m]? = some x := ⟨_, List.getElem?_eq_getElem (by rw [HM.out]; omega)⟩
      obtain ⟨g, o, rfl, hg, hat, hok⟩ := hc.out m x hx
      obtain ⟨y0, y1, y2, y3, y4, y5, y6⟩ := hat.stay hg HB.out
      have hwz : w.heap.size ≤ wr.heap.size := HB.out.size
      have hkd := right_kind (HN.out m x (by omega) hx)
      have hgw : g < wr.heap.size := by omega
      have HR : Hid (r = (x.k == 6 || x.k == 12 || x.k == 13)) := Lib.hid (by
        rw [← hr.out, if_pos (List.all_eq_true.2 (fun z hz => by
          obtain ⟨j, hj, e⟩ := List.getElem_of_mem hz
          exact HN.out j z (by rw [HM.out] at hj; exact hj) (by rw [List.getElem?_eq_getElem hj, e])))]
        unfold lastE
        rw [List.getLast?_eq_getElem?, HM.out, Nat.add_sub_cancel, hx]
        exact last_kind hkd.1 hkd.2)
      clear hkd hx hat hok
      cases q6 : (x.k == 6) <;> cases q12 : (x.k == 12) <;> cases q13 : (x.k == 13)
      all_goals
        have HR2 := Lib.hid (HR.out.trans (by rw [q6, q12, q13]))
        go_wp2
        go_ret
        exact ⟨ret_bool HR2.out.symm, HB.out⟩
theorem rchk_any (c : List Ic) (p : Option Addr) (cap : Nat) (regs locks : Int) (w : World) (hc : CodeAt w p c) : Calls Tryd.prog 8 #[.slice p c.length cap, .int .i64 regs, .int .i64 locks] w fun e w' => e = .returned (.bool (checkB c regs locks)) ∧ Below w.heap.size w w' := by
  by_cases h : c.length < 1 ∨ 4096 < c.length
  · have e : checkB c regs locks = false := if_pos h
    rw [e]
    rcases h with h | h
    · exact rchk_short c p cap regs locks w (by omega)
    · exact rchk_long c p cap regs locks w h
  · have e : checkB c regs locks = if c.all (fun x => rightB x regs locks c.length) then lastE c else false := if_neg h
    obtain ⟨m, hm⟩ : ∃ m, c.length = m + 1 := ⟨c.length - 1, by omega⟩
    have := rchk_mid m c hm p cap regs locks w (by omega) (Lib.hid hc) _ (Lib.hid rfl)
    rw [e]
    rw [← hm] at this
    exact this
theorem rchk_is {c : List Ic} {p : Option Addr} {cap n : Nat} {regs locks : Int} {b : Bool} (h : checkB c regs locks = b) (hn : c.length = n) (w : World) (hc : CodeAt w p c) : Calls Tryd.prog 8 #[.slice p n cap, .int .i64 regs, .int .i64 locks] w fun e w' => e = .returned (.bool b) ∧ Below w.heap.size w w' := h ▸ hn ▸ rchk_any c p cap regs locks w hc
end Go.Proofs.YtgdhgipofaaogaaDoor
namespace Go.Proofs.YtgdhgipofaaogaaDoor
open Go Go.RowKit Gm

theorem prt_d : prt 0 0 = 1 ∧ prt 1 0 = 1 ∧ prt 1 1 = 2 ∧ prt 2 0 = 1 ∧ prt 2 1 = 2 ∧ prt 2 3 = 4 ∧ prt 3 0 = 1 ∧ prt 3 1 = 2 ∧ prt 3 2 = 4 ∧ prt 4 0 = 1 := by decide
theorem fits_at {x : Ic} {kk : Nat} {regs locks many : Int} (h : fitTo x kk regs locks many 4 = true) (i : Nat) (hi : i < 4) : fitsB x (prt kk i) regs locks many = true := List.all_eq_true.1 h i (List.mem_range.2 hi)
theorem fits_d {x : Ic} {regs locks many : Int} (h : fitsB x 1 regs locks many = true) : 0 ≤ x.d := by
  unfold fitsB at h
  simp at h
  exact h.1
theorem fits_a {x : Ic} {regs locks many : Int} (h : fitsB x 2 regs locks many = true) : 0 ≤ x.a := by
  unfold fitsB at h
  simp at h
  exact h.1
theorem fits_b {x : Ic} {regs locks many : Int} (h : fitsB x 4 regs locks many = true) : 0 ≤ x.b := by
  unfold fitsB at h
  simp at h
  exact h.1
theorem right_ok {x : Ic} {regs locks many : Int} (h : rightB x regs locks many = true) : (0 ≤ x.k ∧ x.k ≤ 13) ∧ (x.k ≤ 4 → 0 ≤ x.d) ∧ ((x.k = 1 ∨ x.k = 2 ∨ x.k = 3) → 0 ≤ x.a) ∧ ((x.k = 2 ∨ x.k = 3) → 0 ≤ x.b) := by
  have hk := right_kind h
  unfold rightB at h
  rw [if_pos hk, Bool.and_eq_true] at h
  have hf := fits_at h.1
  obtain ⟨p00, p10, p11, p20, p21, p23, p30, p31, p32, p40⟩ := prt_d
  by_cases k0 : x.k = 0
  · rw [k0] at hf
    have h0 := hf 0 (by omega)
    exact ⟨hk, fun _ => fits_d (by simpa [p00] using h0), fun h => by omega, fun h => by omega⟩
  by_cases k1 : x.k = 1
  · rw [k1] at hf
    have h0 := hf 0 (by omega)
    have h1 := hf 1 (by omega)
    exact ⟨hk, fun _ => fits_d (by simpa [p10] using h0), fun h => fits_a (by simpa [p11] using h1), fun h => by omega⟩
  by_cases k2 : x.k = 2
  · rw [k2] at hf
    have h0 := hf 0 (by omega)
    have h1 := hf 1 (by omega)
    have h2 := hf 3 (by omega)
    exact ⟨hk, fun _ => fits_d (by simpa [p20] using h0), fun h => fits_a (by simpa [p21] using h1), fun h => fits_b (by simpa [p23] using h2)⟩
  by_cases k3 : x.k = 3
  · rw [k3] at hf
    have h0 := hf 0 (by omega)
    have h1 := hf 1 (by omega)
    have h2 := hf 2 (by omega)
    exact ⟨hk, fun _ => fits_d (by simpa [p30] using h0), fun h => fits_a (by simpa [p31] using h1), fun h => fits_b (by simpa [p32] using h2)⟩
  by_cases k4 : x.k = 4
  · rw [k4] at hf
    have h0 := hf 0 (by omega)
    exact ⟨hk, fun _ => fits_d (by simpa [p40] using h0), fun h => by omega, fun h => by omega⟩
  exact ⟨hk, fun _ => by omega, fun h => by omega, fun h => by omega⟩
theorem okc_of {c : List Ic} {regs locks : Int} (h : checkB c regs locks = true) : 0 < c.length ∧ Okc c := by
  unfold checkB at h
  split at h
  · cases h
  rename_i h1
  split at h
  · rename_i h2
    exact ⟨by omega, fun i x hx => right_ok (List.all_eq_true.1 h2 x (List.mem_of_getElem? hx))⟩
  · cases h
/-- What is known of a register there, once and for all. -/
def KnF (c : List Ic) (at_ r n : Int) (b : Bool) : Prop := (b = true → ∃ p : Nat, at_ = p ∧ Kn c p r n) ∧ (b = false → n = 0 ∧ ∀ (p : Nat) m, at_ = p → ¬ Kn c p r m)
theorem KnP.kf {W X : World} {c : List Ic} {at_ r : Int} {e : Ending} (h : KnP W c at_ r e X) : ∃ n b, e = .returned (.tuple #[.int .i64 n, .bool b]) ∧ KnF c at_ r n b ∧ Below W.heap.size W X := by
  obtain ⟨n, b, rfl, h1, h2, hb⟩ := h
  exact ⟨n, b, rfl, ⟨h1, h2⟩, hb⟩
theorem KnP.same {W X : World} {c : List Ic} {at_ r n : Int} {b : Bool} {e : Ending} (h : KnP W c at_ r e X) (k : KnF c at_ r n b) : e = .returned (.tuple #[.int .i64 n, .bool b]) ∧ Below W.heap.size W X := by
  cases b with
  | true =>
    obtain ⟨p, hp, hk⟩ := k.1 rfl
    exact h.is hp hk
  | false =>
    rw [(k.2 rfl).1]
    exact h.not (k.2 rfl).2
end Go.Proofs.YtgdhgipofaaogaaDoor
namespace Go.Proofs.YtgdhgipofaaogaaDoor
open Go Go.ChangeShapes Go.WideShapes Go.ChangeAt Go.WideMaps Go.WideElems Go.RowKit Go.Sort

theorem own : ownKnob Tryd.prog.godebug = none := by kernel_rfl
theorem lt_of_var {w : World} {n : String} {g : Nat} {cs : Array Value} (hg : Tryd.prog.globalNamed n = some g) (h : w.var? Tryd.prog n = some cs) : g < w.heap.size := by
  unfold World.var? at h
  simp only [hg, Option.bind_some] at h
  cases hh : w.heap[g]? with
  | none => simp [hh] at h
  | some o => exact (Array.getElem?_eq_some_iff.1 hh).1

theorem gKinds : Tryd.prog.globalNamed "paling/ins.kinds" = some 0 := by kernel_rfl
theorem tKinds : (Tryd.prog.globals[0]?).map (·.type) = some 109 := by kernel_rfl
theorem cMade : Tryd.prog.cellsOf 108 = 7 := by kernel_rfl
theorem cPart : Tryd.prog.cellsOf 105 = 1 := by kernel_rfl
theorem cParts : Tryd.prog.cellsOf 106 = 4 := by kernel_rfl
theorem cBool : Tryd.prog.cellsOf 4 = 1 := by kernel_rfl
theorem kinds_eq : (Rows.laid_paling_ins_kinds : DataW Unit) = .agg ((List.range 14).map fun i => .agg [.lit (.string (nam i).data.toList), .agg ((List.range 4).map fun j => .lit (.int .i64 (prt i j))), .lit (.bool (kps i)), .lit (.bool (ens i))]) := by rfl
theorem list_four {α : Type} {l : List α} (h : l.length = 4) : ∃ a b c d, l = [a, b, c, d] := by
  match l, h with
  | [a, b, c, d], _ => exact ⟨a, b, c, d, rfl⟩
set_option maxRecDepth 100000 in
theorem kinds_of {W : World} {r : List (String × DataW Unit)} (h : laidMet Tryd.prog (("paling/ins.kinds", Rows.laid_paling_ins_kinds) :: r) W) : Kinds W := by
  obtain ⟨ps, ⟨g0, t0, cs0, f0, p0, q0, hg0, ht0, hv0, hd0, _, _⟩, _⟩ := h
  obtain rfl := Option.some.inj (gKinds.symm.trans hg0)
  obtain rfl := Option.some.inj (tKinds.symm.trans ht0)
  obtain ⟨xs, m, rfl, hx, hlen, hn, hel⟩ := DataW.trod_array Tryd.underlying109 hd0
  rw [kinds_eq] at hx
  simp only [Prod.mk.injEq, DataW.agg.injEq] at hx
  have key : ∀ n, n < 14 → cs0.toList[n * 7]? = some (.string (nam n)) ∧ (∀ j, j < 4 → cs0.toList[n * 7 + 1 + j]? = some (.int .i64 (prt n j))) ∧ cs0.toList[n * 7 + 5]? = some (.bool (kps n)) ∧ cs0.toList[n * 7 + 6]? = some (.bool (ens n)) := by
    intro n hn14
    have h0 := hel n hn14
    have hxs : xs[n]? = some xs[n] := List.getElem?_eq_getElem (by omega)
    rw [hxs] at h0
    have hx1 : (xs.map (·.1))[n]? = some xs[n].1 := by rw [List.getElem?_map, hxs]; rfl
    rw [← hx.1, List.getElem?_map, List.getElem?_range hn14] at hx1
    simp only [Option.map_some, Option.some.injEq] at hx1
    obtain ⟨ys, k, _, e0, _, hys, hfs⟩ := DataW.trod_struct Tryd.underlying108 h0
    obtain ⟨y0, y1, y2, y3, rfl⟩ := list_four hys
    have e1 := hfs 0 _ rfl
    have e2 := hfs 1 _ rfl
    have e3 := hfs 2 _ rfl
    have e4 := hfs 3 _ rfl
    simp only [List.getElem?_cons_zero, List.getElem?_cons_succ] at e1 e2 e3 e4
    obtain ⟨s, c1, d1, _⟩ := DataW.trod_string Tryd.underlying9 e1
    obtain ⟨zs, m2, _, d2, hzl, _, hze⟩ := DataW.trod_array Tryd.underlying106 e2
    obtain ⟨b3, c3, d3⟩ := DataW.trod_bool Tryd.underlying4 e3
    obtain ⟨b4, c4, d4⟩ := DataW.trod_bool Tryd.underlying4 e4
    rw [e0] at hx1
    simp only [List.map_cons, List.map_nil, d1, d2, d3, d4, DataW.agg.injEq, List.cons.injEq, DataW.lit.injEq, Lit.string.injEq, Lit.bool.injEq, and_true] at hx1
    obtain ⟨q1, q2, q3, q4⟩ := hx1
    rw [cMade] at c1 c3 c4 hze
    have get : ∀ i (v : Value) (o z : Nat), (List.take z (List.drop o (List.take 7 (List.drop (n * 7) cs0.toList))))[i]? = some v → cs0.toList[n * 7 + (o + i)]? = some v := by
      intro i v o z h
      simp only [List.getElem?_take, List.getElem?_drop] at h
      split at h
      · split at h
        · exact h
        · cases h
      · cases h
    refine ⟨?_, fun j hj => ?_, ?_, ?_⟩
    · have c5 := congrArg (·[0]?) c1
      have := get 0 _ _ _ c5
      rw [bytes_inj q1]
      simpa using this
    · have hzs : zs[j]? = some zs[j] := List.getElem?_eq_getElem (by omega)
      have h5 := hze j hj
      rw [hzs] at h5
      obtain ⟨v, c5, d5, _⟩ := DataW.trod_int Tryd.underlying105 h5
      have h6 : (zs.map (·.1))[j]? = some zs[j].1 := by rw [List.getElem?_map, hzs]; rfl
      rw [← q2, List.getElem?_map, List.getElem?_range hj, d5] at h6
      simp only [Option.map_some, Option.some.injEq, DataW.lit.injEq, Lit.int.injEq, true_and] at h6
      have c6 := congrArg (·[0]?) c5
      simp only [cPart, List.getElem?_take, List.getElem?_drop, Nat.mul_one] at c6
      rw [h6]
      simp [cParts, hj, show 1 + j < 7 by omega] at c6
      simpa [Nat.add_assoc] using c6
    · have c5 := congrArg (·[0]?) c3
      have := get 0 _ _ _ c5
      rw [q3]
      simpa using this
    · have c5 := congrArg (·[0]?) c4
      have := get 0 _ _ _ c5
      rw [q4]
      simpa using this
  refine ⟨lt_of_var gKinds hv0, fun n hn => ?_, fun n j hn hj => ?_, fun n hn => ?_, fun n hn => ?_⟩
  · rw [World.var?_cell gKinds hv0]
    simpa using (key n hn).1
  · rw [World.var?_cell gKinds hv0]
    simpa using (key n hn).2.1 j hj
  · rw [World.var?_cell gKinds hv0]
    simpa using (key n hn).2.2.1
  · rw [World.var?_cell gKinds hv0]
    simpa using (key n hn).2.2.2

def laidL : List (String × DataW Unit) := Rows.foldTellsRow.laid

theorem of_laid {W : World} (h : laidMetH Tryd.prog laidL W) : Kinds W := by
  rw [MakeChecks.laidMetH_plain _ _ _ (by kernel_rfl)] at h
  exact kinds_of h

/-- The door's own heap meets the condition: three closed facts. -/
theorem door_met (os : Go.Os) (args : Array Value) : laidMetH Tryd.prog laidL ((World.doorLaid Tryd.prog 400 os).forCall (fun _ _ => 0) ⟨#[], args, []⟩).memory :=
  laidMetH_of_parts3 (fuel := 8) (laidMet_of_run' 8 (by kernel_rfl) (by kernel_rfl)) (by kernel_rfl) (by kernel_rfl)
end Go.Proofs.YtgdhgipofaaogaaDoor
namespace Go.Proofs.YtgdhgipofaaogaaDoor
open Go Go.ChangeShapes Go.WideShapes Go.ChangeAt Go.RowKit Go.Deep

theorem seven {α : Type} {l : List α} (h : l.length = 7) : ∃ a b c d e f g, l = [a, b, c, d, e, f, g] := by
  match l, h with
  | [a, b, c, d, e, f, g], _ => exact ⟨a, b, c, d, e, f, g, rfl⟩
theorem cell_in {w : World} {a : Addr} {v : Value} (h : w.cell? a = some v) : a.block < w.heap.size := by
  unfold World.cell? at h
  split at h
  · rename_i e
    exact (Array.getElem?_eq_some_iff.1 e).1
  · cases h
theorem c_ins : Tryd.prog.cellsOf 53 = 7 := by kernel_rfl
theorem c_int : Tryd.prog.cellsOf 3 = 1 := by kernel_rfl
theorem c_i64 : Tryd.prog.cellsOf 2 = 1 := by kernel_rfl
set_option maxRecDepth 100000 in
theorem ins_of {H : Type} {enc : TypeId × Value → H} {W : World} {b0 : Nat} {sp : Nat → Bool} {held : Bool} {fuel : Nat} {cs : List Value} {y : DataW H × List MemPlace} (h : DataW.trod enc Tryd.prog W b0 sp held fuel 53 cs = some y) :
    ∃ x : Ic, cs = [.int .i64 x.k, .int .i64 x.o, .int .i64 x.d, .int .i64 x.a, .int .i64 x.b, .int .i64 x.n, .int .i64 x.t] ∧ Ok6 x := by
  obtain ⟨xs, n, _, rfl, hl, hlen, hf⟩ := DataW.trod_struct Tryd.underlying53 h
  rw [c_ins] at hl
  obtain ⟨c0, c1, c2, c3, c4, c5, c6, rfl⟩ := seven hl
  obtain ⟨y0, y1, y2, y3, y4, y5, y6, rfl⟩ := seven hlen
  have g0 := hf 0 _ rfl
  have g1 := hf 1 _ rfl
  have g2 := hf 2 _ rfl
  have g3 := hf 3 _ rfl
  have g4 := hf 4 _ rfl
  have g5 := hf 5 _ rfl
  have g6 := hf 6 _ rfl
  simp [c_int, c_i64] at g0 g1 g2 g3 g4 g5 g6
  obtain ⟨k, e0, _, w0⟩ := DataW.trod_int Tryd.underlying3 g0
  obtain ⟨o, e1, _, w1⟩ := DataW.trod_int Tryd.underlying3 g1
  obtain ⟨d, e2, _, w2⟩ := DataW.trod_int Tryd.underlying3 g2
  obtain ⟨a, e3, _, w3⟩ := DataW.trod_int Tryd.underlying3 g3
  obtain ⟨b, e4, _, w4⟩ := DataW.trod_int Tryd.underlying3 g4
  obtain ⟨n, e5, _, w5⟩ := DataW.trod_int Tryd.underlying2 g5
  obtain ⟨t, e6, _, w6⟩ := DataW.trod_int Tryd.underlying3 g6
  simp at e0 e1 e2 e3 e4 e5 e6
  subst e0 e1 e2 e3 e4 e5 e6
  exact ⟨⟨k, o, d, a, b, n, t⟩, rfl, bounds_i64 w0, bounds_i64 w1, bounds_i64 w2, bounds_i64 w3, bounds_i64 w4, bounds_i64 w5, bounds_i64 w6⟩
set_option maxRecDepth 100000 in
theorem open_ins {H : Type} {enc : TypeId × Value → H} {W : World} {b0 b1 : Nat} {sp : Nat → Bool} {held : Bool} {v : Value} {d : DataW H} {ps : List MemPlace} {r : Reach} (hv : Value.okWide Tryd.prog W r b1 53 v) (h : DataW.Trod enc Tryd.prog W b0 sp held 53 v d ps) :
    ∃ x : Ic, v = .agg #[.int .i64 x.k, .int .i64 x.o, .int .i64 x.d, .int .i64 x.a, .int .i64 x.b, .int .i64 x.n, .int .i64 x.t] ∧ Ok6 x := by
  obtain ⟨cs, rfl, hsz⟩ := okWide_struct Tryd.underlying53 hv
  obtain ⟨fuel, hf⟩ := h
  obtain ⟨x, hx, hok⟩ := ins_of hf
  refine ⟨x, ?_, hok⟩
  have e : cs.toList = [.int .i64 x.k, .int .i64 x.o, .int .i64 x.d, .int .i64 x.a, .int .i64 x.b, .int .i64 x.n, .int .i64 x.t] := by simpa [Value.cells] using hx
  rw [← Array.toArray_toList (xs := cs), e]
set_option maxRecDepth 100000 in
theorem open_code {H : Type} {enc : TypeId × Value → H} {W : World} {a0 : Option Addr} {n c : Nat} {d : DataW H} {ps : List MemPlace} (h : DataW.Trod enc Tryd.prog W 0 (fun _ => true) true 22 (.slice a0 n c) d ps) : ∃ l : List Ic, l.length = n ∧ CodeAt W a0 l := by
  obtain ⟨fuel, hf⟩ := h
  rcases open_slice Tryd.underlying22 hf with ⟨hcs, _⟩ | ⟨a, len, cap, m, k, D, Pl, hcs, _, hl, _, hm, hx, hcell⟩
  · simp [Value.cells] at hcs
    exact ⟨[], by simp [hcs], fun i x hx => by simp at hx⟩
  · simp [Value.cells] at hcs
    obtain ⟨rfl, rfl, rfl⟩ := hcs
    simp only [if_true] at hm
    obtain ⟨b, off, spot⟩ := a
    have key : ∀ i, i < n → ∃ x : Ic, Ok6 x ∧ spot = none ∧ b < W.heap.size ∧ At7 W b (off + i * 7) x := by
      intro i hi
      obtain ⟨cs', hc, ht⟩ := hcell i (by omega)
      rw [c_ins] at hc
      obtain ⟨_, hlen, hcc⟩ := World.cells?_some hc
      obtain ⟨x, rfl, hok⟩ := ins_of ht
      have e0 := hcc 0 (by omega)
      have e1 := hcc 1 (by omega)
      have e2 := hcc 2 (by omega)
      have e3 := hcc 3 (by omega)
      have e4 := hcc 4 (by omega)
      have e5 := hcc 5 (by omega)
      have e6 := hcc 6 (by omega)
      rw [Deep.add_add] at e0 e1 e2 e3 e4 e5 e6
      simp only [List.getElem?_cons_zero, List.getElem?_cons_succ] at e0 e1 e2 e3 e4 e5 e6
      have hspot : spot = none := by
        obtain ⟨cs0, hc0, ht0⟩ := hcell 0 (by omega)
        rw [c_ins] at hc0
        obtain ⟨_, hl0, hcc0⟩ := World.cells?_some hc0
        obtain ⟨x0, rfl, _⟩ := ins_of ht0
        have := hcc0 0 (by omega)
        simp only [List.getElem?_cons_zero] at this
        simpa [Addr.add] using World.cell?_spot this
      subst hspot
      rw [add_plain] at e0 e1 e2 e3 e4 e5 e6
      exact ⟨x, hok, rfl, cell_in e0, ⟨e0, e1, e2, e3, e4, e5, e6⟩⟩
    have hall : ∀ i, ∃ x : Ic, i < n → Ok6 x ∧ spot = none ∧ b < W.heap.size ∧ At7 W b (off + i * 7) x := fun i => by
      by_cases hi : i < n
      · obtain ⟨x, hx⟩ := key i hi
        exact ⟨x, fun _ => hx⟩
      · exact ⟨⟨0, 0, 0, 0, 0, 0, 0⟩, fun h => absurd h hi⟩
    let f : Nat → Ic := fun i => Classical.choose (hall i)
    refine ⟨(List.range n).map f, by simp, fun i x hx => ?_⟩
    have hi : i < n := by
      have := (List.getElem?_eq_some_iff.1 hx).1
      simpa using this
    have hfx : f i = x := by
      rw [List.getElem?_map, List.getElem?_range hi] at hx
      simpa using hx
    obtain ⟨hok, hsp, hb, hat⟩ := Classical.choose_spec (hall i) hi
    exact ⟨b, off, by rw [hsp], hb, hfx ▸ hat, hfx ▸ hok⟩
end Go.Proofs.YtgdhgipofaaogaaDoor
