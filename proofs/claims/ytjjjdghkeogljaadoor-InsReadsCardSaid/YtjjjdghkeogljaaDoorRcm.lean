/- What the document says of one instruction is what the program says; the document's own Check and Text. -/
import Derived.Test.YtjjjdghkeogljaaDoorRck
namespace Go.Proofs.YtjjjdghkeogljaaDoor
set_option linter.unusedSimpArgs false
set_option linter.unusedVariables false
open Go Go.RowKit

theorem one_eq0 (x : Ic) (size regs locks : Int) (hs : 0 < size) (hk : x.k = 0) : OneP x size regs locks ⟨#[68, 78]⟩ false ↔ rightB x regs locks size = true := by
  obtain ⟨k, o, d, a, b, n, t⟩ := x
  simp only at hk
  subst hk
  have r4 : List.range 4 = [0, 1, 2, 3] := rfl
  have p0 : prt 0 0 = 1 := rfl
  have p1 : prt 0 1 = 6 := rfl
  have p2 : prt 0 2 = 0 := rfl
  have p3 : prt 0 3 = 0 := rfl
  have hD : hasC ⟨#[68, 78]⟩ 68 = true := by decide
  have hA : hasC ⟨#[68, 78]⟩ 65 = false := by decide
  have hB : hasC ⟨#[68, 78]⟩ 66 = false := by decide
  have hO : hasC ⟨#[68, 78]⟩ 79 = false := by decide
  have hN : hasC ⟨#[68, 78]⟩ 78 = true := by decide
  have hT : hasC ⟨#[68, 78]⟩ 84 = false := by decide
  have ht : (0 : Int).toNat = 0 := rfl
  unfold OneP rightB fitTo outTo bareB
  simp [r4, ht, p0, p1, p2, p3, hD, hA, hB, hO, hN, hT, regB, numK, fitsB, outP]
  omega
theorem one_eq1 (x : Ic) (size regs locks : Int) (hs : 0 < size) (hk : x.k = 1) : OneP x size regs locks ⟨#[68, 65]⟩ false ↔ rightB x regs locks size = true := by
  obtain ⟨k, o, d, a, b, n, t⟩ := x
  simp only at hk
  subst hk
  have r4 : List.range 4 = [0, 1, 2, 3] := rfl
  have p0 : prt 1 0 = 1 := rfl
  have p1 : prt 1 1 = 2 := rfl
  have p2 : prt 1 2 = 0 := rfl
  have p3 : prt 1 3 = 0 := rfl
  have hD : hasC ⟨#[68, 65]⟩ 68 = true := by decide
  have hA : hasC ⟨#[68, 65]⟩ 65 = true := by decide
  have hB : hasC ⟨#[68, 65]⟩ 66 = false := by decide
  have hO : hasC ⟨#[68, 65]⟩ 79 = false := by decide
  have hN : hasC ⟨#[68, 65]⟩ 78 = false := by decide
  have hT : hasC ⟨#[68, 65]⟩ 84 = false := by decide
  have ht : (1 : Int).toNat = 1 := rfl
  unfold OneP rightB fitTo outTo bareB
  simp [r4, ht, p0, p1, p2, p3, hD, hA, hB, hO, hN, hT, regB, numK, fitsB, outP]
  omega
theorem one_eq2 (x : Ic) (size regs locks : Int) (hs : 0 < size) (hk : x.k = 2) : OneP x size regs locks ⟨#[68, 79, 65, 66]⟩ false ↔ rightB x regs locks size = true := by
  obtain ⟨k, o, d, a, b, n, t⟩ := x
  simp only at hk
  subst hk
  have r4 : List.range 4 = [0, 1, 2, 3] := rfl
  have p0 : prt 2 0 = 1 := rfl
  have p1 : prt 2 1 = 2 := rfl
  have p2 : prt 2 2 = 5 := rfl
  have p3 : prt 2 3 = 4 := rfl
  have hD : hasC ⟨#[68, 79, 65, 66]⟩ 68 = true := by decide
  have hA : hasC ⟨#[68, 79, 65, 66]⟩ 65 = true := by decide
  have hB : hasC ⟨#[68, 79, 65, 66]⟩ 66 = true := by decide
  have hO : hasC ⟨#[68, 79, 65, 66]⟩ 79 = true := by decide
  have hN : hasC ⟨#[68, 79, 65, 66]⟩ 78 = false := by decide
  have hT : hasC ⟨#[68, 79, 65, 66]⟩ 84 = false := by decide
  have ht : (2 : Int).toNat = 2 := rfl
  unfold OneP rightB fitTo outTo bareB
  simp [r4, ht, p0, p1, p2, p3, hD, hA, hB, hO, hN, hT, regB, numK, fitsB, outP]
  omega
theorem one_eq3 (x : Ic) (size regs locks : Int) (hs : 0 < size) (hk : x.k = 3) : OneP x size regs locks ⟨#[68, 65, 66]⟩ false ↔ rightB x regs locks size = true := by
  obtain ⟨k, o, d, a, b, n, t⟩ := x
  simp only at hk
  subst hk
  have r4 : List.range 4 = [0, 1, 2, 3] := rfl
  have p0 : prt 3 0 = 1 := rfl
  have p1 : prt 3 1 = 2 := rfl
  have p2 : prt 3 2 = 4 := rfl
  have p3 : prt 3 3 = 0 := rfl
  have hD : hasC ⟨#[68, 65, 66]⟩ 68 = true := by decide
  have hA : hasC ⟨#[68, 65, 66]⟩ 65 = true := by decide
  have hB : hasC ⟨#[68, 65, 66]⟩ 66 = true := by decide
  have hO : hasC ⟨#[68, 65, 66]⟩ 79 = false := by decide
  have hN : hasC ⟨#[68, 65, 66]⟩ 78 = false := by decide
  have hT : hasC ⟨#[68, 65, 66]⟩ 84 = false := by decide
  have ht : (3 : Int).toNat = 3 := rfl
  unfold OneP rightB fitTo outTo bareB
  simp [r4, ht, p0, p1, p2, p3, hD, hA, hB, hO, hN, hT, regB, numK, fitsB, outP]
  omega
theorem one_eq4 (x : Ic) (size regs locks : Int) (hs : 0 < size) (hk : x.k = 4) : OneP x size regs locks ⟨#[68, 65, 78]⟩ true ↔ rightB x regs locks size = true := by
  obtain ⟨k, o, d, a, b, n, t⟩ := x
  simp only at hk
  subst hk
  have r4 : List.range 4 = [0, 1, 2, 3] := rfl
  have p0 : prt 4 0 = 1 := rfl
  have p1 : prt 4 1 = 7 := rfl
  have p2 : prt 4 2 = 3 := rfl
  have p3 : prt 4 3 = 0 := rfl
  have hD : hasC ⟨#[68, 65, 78]⟩ 68 = true := by decide
  have hA : hasC ⟨#[68, 65, 78]⟩ 65 = true := by decide
  have hB : hasC ⟨#[68, 65, 78]⟩ 66 = false := by decide
  have hO : hasC ⟨#[68, 65, 78]⟩ 79 = false := by decide
  have hN : hasC ⟨#[68, 65, 78]⟩ 78 = true := by decide
  have hT : hasC ⟨#[68, 65, 78]⟩ 84 = false := by decide
  have ht : (4 : Int).toNat = 4 := rfl
  unfold OneP rightB fitTo outTo bareB
  simp [r4, ht, p0, p1, p2, p3, hD, hA, hB, hO, hN, hT, regB, numK, fitsB, outP]
  omega
theorem one_eq5 (x : Ic) (size regs locks : Int) (hs : 0 < size) (hk : x.k = 5) : OneP x size regs locks ⟨#[65, 66, 78]⟩ true ↔ rightB x regs locks size = true := by
  obtain ⟨k, o, d, a, b, n, t⟩ := x
  simp only at hk
  subst hk
  have r4 : List.range 4 = [0, 1, 2, 3] := rfl
  have p0 : prt 5 0 = 7 := rfl
  have p1 : prt 5 1 = 4 := rfl
  have p2 : prt 5 2 = 3 := rfl
  have p3 : prt 5 3 = 0 := rfl
  have hD : hasC ⟨#[65, 66, 78]⟩ 68 = false := by decide
  have hA : hasC ⟨#[65, 66, 78]⟩ 65 = true := by decide
  have hB : hasC ⟨#[65, 66, 78]⟩ 66 = true := by decide
  have hO : hasC ⟨#[65, 66, 78]⟩ 79 = false := by decide
  have hN : hasC ⟨#[65, 66, 78]⟩ 78 = true := by decide
  have hT : hasC ⟨#[65, 66, 78]⟩ 84 = false := by decide
  have ht : (5 : Int).toNat = 5 := rfl
  unfold OneP rightB fitTo outTo bareB
  simp [r4, ht, p0, p1, p2, p3, hD, hA, hB, hO, hN, hT, regB, numK, fitsB, outP]
  omega
theorem one_eq6 (x : Ic) (size regs locks : Int) (hs : 0 < size) (hk : x.k = 6) : OneP x size regs locks ⟨#[84]⟩ false ↔ rightB x regs locks size = true := by
  obtain ⟨k, o, d, a, b, n, t⟩ := x
  simp only at hk
  subst hk
  have r4 : List.range 4 = [0, 1, 2, 3] := rfl
  have p0 : prt 6 0 = 10 := rfl
  have p1 : prt 6 1 = 0 := rfl
  have p2 : prt 6 2 = 0 := rfl
  have p3 : prt 6 3 = 0 := rfl
  have hD : hasC ⟨#[84]⟩ 68 = false := by decide
  have hA : hasC ⟨#[84]⟩ 65 = false := by decide
  have hB : hasC ⟨#[84]⟩ 66 = false := by decide
  have hO : hasC ⟨#[84]⟩ 79 = false := by decide
  have hN : hasC ⟨#[84]⟩ 78 = false := by decide
  have hT : hasC ⟨#[84]⟩ 84 = true := by decide
  have ht : (6 : Int).toNat = 6 := rfl
  unfold OneP rightB fitTo outTo bareB
  simp [r4, ht, p0, p1, p2, p3, hD, hA, hB, hO, hN, hT, regB, numK, fitsB, outP]
  omega
theorem one_eq7 (x : Ic) (size regs locks : Int) (hs : 0 < size) (hk : x.k = 7) : OneP x size regs locks ⟨#[65, 84]⟩ false ↔ rightB x regs locks size = true := by
  obtain ⟨k, o, d, a, b, n, t⟩ := x
  simp only at hk
  subst hk
  have r4 : List.range 4 = [0, 1, 2, 3] := rfl
  have p0 : prt 7 0 = 2 := rfl
  have p1 : prt 7 1 = 10 := rfl
  have p2 : prt 7 2 = 0 := rfl
  have p3 : prt 7 3 = 0 := rfl
  have hD : hasC ⟨#[65, 84]⟩ 68 = false := by decide
  have hA : hasC ⟨#[65, 84]⟩ 65 = true := by decide
  have hB : hasC ⟨#[65, 84]⟩ 66 = false := by decide
  have hO : hasC ⟨#[65, 84]⟩ 79 = false := by decide
  have hN : hasC ⟨#[65, 84]⟩ 78 = false := by decide
  have hT : hasC ⟨#[65, 84]⟩ 84 = true := by decide
  have ht : (7 : Int).toNat = 7 := rfl
  unfold OneP rightB fitTo outTo bareB
  simp [r4, ht, p0, p1, p2, p3, hD, hA, hB, hO, hN, hT, regB, numK, fitsB, outP]
  omega
theorem one_eq8 (x : Ic) (size regs locks : Int) (hs : 0 < size) (hk : x.k = 8) : OneP x size regs locks ⟨#[46]⟩ false ↔ rightB x regs locks size = true := by
  obtain ⟨k, o, d, a, b, n, t⟩ := x
  simp only at hk
  subst hk
  have r4 : List.range 4 = [0, 1, 2, 3] := rfl
  have p0 : prt 8 0 = 0 := rfl
  have p1 : prt 8 1 = 0 := rfl
  have p2 : prt 8 2 = 0 := rfl
  have p3 : prt 8 3 = 0 := rfl
  have hD : hasC ⟨#[46]⟩ 68 = false := by decide
  have hA : hasC ⟨#[46]⟩ 65 = false := by decide
  have hB : hasC ⟨#[46]⟩ 66 = false := by decide
  have hO : hasC ⟨#[46]⟩ 79 = false := by decide
  have hN : hasC ⟨#[46]⟩ 78 = false := by decide
  have hT : hasC ⟨#[46]⟩ 84 = false := by decide
  have ht : (8 : Int).toNat = 8 := rfl
  unfold OneP rightB fitTo outTo bareB
  simp [r4, ht, p0, p1, p2, p3, hD, hA, hB, hO, hN, hT, regB, numK, fitsB, outP]
  omega
theorem one_eq9 (x : Ic) (size regs locks : Int) (hs : 0 < size) (hk : x.k = 9) : OneP x size regs locks ⟨#[78]⟩ false ↔ rightB x regs locks size = true := by
  obtain ⟨k, o, d, a, b, n, t⟩ := x
  simp only at hk
  subst hk
  have r4 : List.range 4 = [0, 1, 2, 3] := rfl
  have p0 : prt 9 0 = 8 := rfl
  have p1 : prt 9 1 = 0 := rfl
  have p2 : prt 9 2 = 0 := rfl
  have p3 : prt 9 3 = 0 := rfl
  have hD : hasC ⟨#[78]⟩ 68 = false := by decide
  have hA : hasC ⟨#[78]⟩ 65 = false := by decide
  have hB : hasC ⟨#[78]⟩ 66 = false := by decide
  have hO : hasC ⟨#[78]⟩ 79 = false := by decide
  have hN : hasC ⟨#[78]⟩ 78 = true := by decide
  have hT : hasC ⟨#[78]⟩ 84 = false := by decide
  have ht : (9 : Int).toNat = 9 := rfl
  unfold OneP rightB fitTo outTo bareB
  simp [r4, ht, p0, p1, p2, p3, hD, hA, hB, hO, hN, hT, regB, numK, fitsB, outP]
  omega
theorem one_eq10 (x : Ic) (size regs locks : Int) (hs : 0 < size) (hk : x.k = 10) : OneP x size regs locks ⟨#[78]⟩ false ↔ rightB x regs locks size = true := by
  obtain ⟨k, o, d, a, b, n, t⟩ := x
  simp only at hk
  subst hk
  have r4 : List.range 4 = [0, 1, 2, 3] := rfl
  have p0 : prt 10 0 = 8 := rfl
  have p1 : prt 10 1 = 0 := rfl
  have p2 : prt 10 2 = 0 := rfl
  have p3 : prt 10 3 = 0 := rfl
  have hD : hasC ⟨#[78]⟩ 68 = false := by decide
  have hA : hasC ⟨#[78]⟩ 65 = false := by decide
  have hB : hasC ⟨#[78]⟩ 66 = false := by decide
  have hO : hasC ⟨#[78]⟩ 79 = false := by decide
  have hN : hasC ⟨#[78]⟩ 78 = true := by decide
  have hT : hasC ⟨#[78]⟩ 84 = false := by decide
  have ht : (10 : Int).toNat = 10 := rfl
  unfold OneP rightB fitTo outTo bareB
  simp [r4, ht, p0, p1, p2, p3, hD, hA, hB, hO, hN, hT, regB, numK, fitsB, outP]
  omega
theorem one_eq11 (x : Ic) (size regs locks : Int) (hs : 0 < size) (hk : x.k = 11) : OneP x size regs locks ⟨#[65]⟩ false ↔ rightB x regs locks size = true := by
  obtain ⟨k, o, d, a, b, n, t⟩ := x
  simp only at hk
  subst hk
  have r4 : List.range 4 = [0, 1, 2, 3] := rfl
  have p0 : prt 11 0 = 2 := rfl
  have p1 : prt 11 1 = 0 := rfl
  have p2 : prt 11 2 = 0 := rfl
  have p3 : prt 11 3 = 0 := rfl
  have hD : hasC ⟨#[65]⟩ 68 = false := by decide
  have hA : hasC ⟨#[65]⟩ 65 = true := by decide
  have hB : hasC ⟨#[65]⟩ 66 = false := by decide
  have hO : hasC ⟨#[65]⟩ 79 = false := by decide
  have hN : hasC ⟨#[65]⟩ 78 = false := by decide
  have hT : hasC ⟨#[65]⟩ 84 = false := by decide
  have ht : (11 : Int).toNat = 11 := rfl
  unfold OneP rightB fitTo outTo bareB
  simp [r4, ht, p0, p1, p2, p3, hD, hA, hB, hO, hN, hT, regB, numK, fitsB, outP]
  omega
theorem one_eq12 (x : Ic) (size regs locks : Int) (hs : 0 < size) (hk : x.k = 12) : OneP x size regs locks ⟨#[78]⟩ false ↔ rightB x regs locks size = true := by
  obtain ⟨k, o, d, a, b, n, t⟩ := x
  simp only at hk
  subst hk
  have r4 : List.range 4 = [0, 1, 2, 3] := rfl
  have p0 : prt 12 0 = 9 := rfl
  have p1 : prt 12 1 = 0 := rfl
  have p2 : prt 12 2 = 0 := rfl
  have p3 : prt 12 3 = 0 := rfl
  have hD : hasC ⟨#[78]⟩ 68 = false := by decide
  have hA : hasC ⟨#[78]⟩ 65 = false := by decide
  have hB : hasC ⟨#[78]⟩ 66 = false := by decide
  have hO : hasC ⟨#[78]⟩ 79 = false := by decide
  have hN : hasC ⟨#[78]⟩ 78 = true := by decide
  have hT : hasC ⟨#[78]⟩ 84 = false := by decide
  have ht : (12 : Int).toNat = 12 := rfl
  unfold OneP rightB fitTo outTo bareB
  simp [r4, ht, p0, p1, p2, p3, hD, hA, hB, hO, hN, hT, regB, numK, fitsB, outP]
  omega
theorem one_eq13 (x : Ic) (size regs locks : Int) (hs : 0 < size) (hk : x.k = 13) : OneP x size regs locks ⟨#[46]⟩ false ↔ rightB x regs locks size = true := by
  obtain ⟨k, o, d, a, b, n, t⟩ := x
  simp only at hk
  subst hk
  have r4 : List.range 4 = [0, 1, 2, 3] := rfl
  have p0 : prt 13 0 = 0 := rfl
  have p1 : prt 13 1 = 0 := rfl
  have p2 : prt 13 2 = 0 := rfl
  have p3 : prt 13 3 = 0 := rfl
  have hD : hasC ⟨#[46]⟩ 68 = false := by decide
  have hA : hasC ⟨#[46]⟩ 65 = false := by decide
  have hB : hasC ⟨#[46]⟩ 66 = false := by decide
  have hO : hasC ⟨#[46]⟩ 79 = false := by decide
  have hN : hasC ⟨#[46]⟩ 78 = false := by decide
  have hT : hasC ⟨#[46]⟩ 84 = false := by decide
  have ht : (13 : Int).toNat = 13 := rfl
  unfold OneP rightB fitTo outTo bareB
  simp [r4, ht, p0, p1, p2, p3, hD, hA, hB, hO, hN, hT, regB, numK, fitsB, outP]
  omega
end Go.Proofs.YtjjjdghkeogljaaDoor
