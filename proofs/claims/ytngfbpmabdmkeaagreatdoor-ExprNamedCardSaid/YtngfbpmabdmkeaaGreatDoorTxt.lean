/- The text of an expression, as plain mathematics. -/
import Derived.Test.YtngfbpmabdmkeaaGreatDoorEqv
import Derived.Lib.ItoaMem
namespace Go.Proofs.YtngfbpmabdmkeaaGreatDoor
open Go

/-- A kid's text, in brackets if it needs them. -/
def partT (k : Bool) (t : List UInt8) : List UInt8 := if k then 40 :: t ++ [41] else t
def opT (o : Int) : List UInt8 := 32 :: ((sgnZ o).data.toList ++ [32])
/-- A kid: its kind, its operator, its text. -/
abbrev Kd := Int × Int × List UInt8
def rowK : List Kd → List UInt8
  | [] => []
  | x :: r => x.2.2 ++ r.flatMap fun y => 44 :: 32 :: y.2.2
def oneK (l : List Kd) : List UInt8 := l.flatMap fun y => partT (y.1 == 6) y.2.2
def twoK (o : Int) : List Kd → List UInt8
  | [] => []
  | x :: r => partT ((x.1 == 6) && decide (rnkZ x.2.1 < rnkZ o)) x.2.2 ++ r.flatMap fun y => opT o ++ partT ((y.1 == 6) && decide (rnkZ y.2.1 ≤ rnkZ o)) y.2.2
def txtOf (k o n : Int) (nm : List UInt8) (l : List Kd) : List UInt8 :=
  if k = 0 then Lib.itoa n
  else if k = 1 then (if n = 0 then flsB else truB)
  else if k = 2 then nm
  else if k = 3 then nm ++ 91 :: (rowK l ++ [93])
  else if k = 7 then nm ++ 40 :: (rowK l ++ [41])
  else if k = 4 then 45 :: oneK l
  else if k = 5 then 33 :: oneK l
  else if k = 6 then twoK o l
  else []
mutual
/-- The text of an expression. -/
def Ex.txt : Ex → List UInt8
  | .mk k o n nm ks _ => txtOf k o n nm (Ex.kds ks)
def Ex.kds : List Ex → List Kd
  | [] => []
  | x :: r => (x.k, x.op, Ex.txt x) :: Ex.kds r
end
theorem kds_map : ∀ l : List Ex, Ex.kds l = l.map fun y => (y.k, y.op, y.txt)
  | [] => by simp only [Ex.kds, List.map_nil]
  | x :: r => by simp only [Ex.kds, List.map_cons, kds_map r]
theorem txt_parts (x : Ex) : x.txt = txtOf x.k x.op x.n x.nm (x.ks.map fun y => (y.k, y.op, y.txt)) := by
  cases x
  simp only [Ex.txt, Ex.k, Ex.op, Ex.n, Ex.nm, Ex.ks, kds_map]

theorem eqv_head {x y : Ex} (h : x.eqv y = true) : x.k = y.k ∧ x.op = y.op ∧ x.n = y.n ∧ x.nm = y.nm ∧ Ex.eqvL x.ks y.ks = true := by
  rw [eqv_parts] at h
  simpa only [Bool.and_eq_true, beq_iff_eq, and_assoc] using h
mutual
theorem eqv_txt : ∀ x y : Ex, x.eqv y = true → x.txt = y.txt
  | .mk k o n t ks _, .mk k' o' n' t' ks' _, h => by
    simp only [Ex.eqv, Bool.and_eq_true, beq_iff_eq] at h
    obtain ⟨⟨⟨⟨rfl, rfl⟩, rfl⟩, rfl⟩, h⟩ := h
    simp only [Ex.txt, eqvL_kds ks ks' h]
theorem eqvL_kds : ∀ l m : List Ex, Ex.eqvL l m = true → Ex.kds l = Ex.kds m
  | [], [], _ => rfl
  | x :: r, y :: q, h => by
    simp only [Ex.eqvL, Bool.and_eq_true] at h
    have h1 := eqv_head h.1
    simp only [Ex.kds, eqv_txt x y h.1, eqvL_kds r q h.2, h1.1, h1.2.1]
  | [], _ :: _, h => by simp [Ex.eqvL] at h
  | _ :: _, [], h => by simp [Ex.eqvL] at h
end
mutual
theorem eqv_refl : ∀ x : Ex, x.eqv x = true
  | .mk k o n t ks _ => by simp only [Ex.eqv, beq_self_eq_true, Bool.and_self, eqvL_refl ks]
theorem eqvL_refl : ∀ l : List Ex, Ex.eqvL l l = true
  | [] => by simp only [Ex.eqvL]
  | x :: r => by simp only [Ex.eqvL, eqv_refl x, eqvL_refl r, Bool.and_self]
end
mutual
theorem eqv_symm : ∀ x y : Ex, x.eqv y = true → y.eqv x = true
  | .mk k o n t ks _, .mk k' o' n' t' ks' _, h => by
    simp only [Ex.eqv, Bool.and_eq_true, beq_iff_eq] at h ⊢
    exact ⟨⟨⟨⟨h.1.1.1.1.symm, h.1.1.1.2.symm⟩, h.1.1.2.symm⟩, h.1.2.symm⟩, eqvL_symm ks ks' h.2⟩
theorem eqvL_symm : ∀ l m : List Ex, Ex.eqvL l m = true → Ex.eqvL m l = true
  | [], [], h => h
  | x :: r, y :: q, h => by
    simp only [Ex.eqvL, Bool.and_eq_true] at h ⊢
    exact ⟨eqv_symm x y h.1, eqvL_symm r q h.2⟩
  | [], _ :: _, h => by simp [Ex.eqvL] at h
  | _ :: _, [], h => by simp [Ex.eqvL] at h
end
theorem eqvL_append : ∀ {l l' m m' : List Ex}, Ex.eqvL l l' = true → Ex.eqvL m m' = true → Ex.eqvL (l ++ m) (l' ++ m') = true
  | [], [], _, _, _, h => h
  | x :: r, y :: q, m, m', h, h2 => by
    simp only [List.cons_append, Ex.eqvL, Bool.and_eq_true] at h ⊢
    exact ⟨h.1, eqvL_append h.2 h2⟩
  | [], _ :: _, _, _, h, _ => by simp [Ex.eqvL] at h
  | _ :: _, [], _, _, h, _ => by simp [Ex.eqvL] at h
theorem eqv_mk {k o n : Int} {t : List UInt8} {ks ks' : List Ex} (h : Ex.eqvL ks ks' = true) (a a' : Nat) : (Ex.mk k o n t ks a).eqv (.mk k o n t ks' a') = true := by
  simp only [Ex.eqv, beq_self_eq_true, Bool.and_self, h]
theorem eqvL_one {x y : Ex} (h : x.eqv y = true) : Ex.eqvL [x] [y] = true := by simp only [Ex.eqvL, h, Bool.and_self]
theorem eqvL_two {x y x' y' : Ex} (h : x.eqv x' = true) (h2 : y.eqv y' = true) : Ex.eqvL [x, y] [x', y'] = true := by simp only [Ex.eqvL, h, h2, Bool.and_self]

/-- Its text where so strong an operator stands beside it. -/
def Ex.txtAt (r : Int) (x : Ex) : List UInt8 := partT ((x.k == 6) && decide (rnkZ x.op < r)) x.txt
theorem txtAt_not {x : Ex} (h : x.k ≠ 6) (r : Int) : x.txtAt r = x.txt := by
  have : (x.k == 6) = false := by simpa using h
  simp only [Ex.txtAt, this, Bool.false_and, partT]
  rfl
theorem txtAt_low {x : Ex} {r : Int} (h : r ≤ rnkZ x.op) : x.txtAt r = x.txt := by
  have : decide (rnkZ x.op < r) = false := by simp; omega
  simp only [Ex.txtAt, this, Bool.and_false, partT]
  rfl
theorem txtAt_brk {x : Ex} {r : Int} (h : x.k = 6) (h2 : rnkZ x.op < r) : x.txtAt r = 40 :: (x.txt ++ [41]) := by
  simp only [Ex.txtAt, h, h2, partT]
  rfl
theorem txtAt_top {x : Ex} : partT (x.k == 6) x.txt = x.txtAt 11 := by
  have : decide (rnkZ x.op < 11) = true := by
    have := (rnkZ_le x.op).2
    simp
    omega
  simp only [Ex.txtAt, this, Bool.and_true]

theorem txt_num (o n : Int) (nm : List UInt8) (ks : List Ex) (a : Nat) : (Ex.mk 0 o n nm ks a).txt = Lib.itoa n := by simp only [Ex.txt, txtOf]; rfl
theorem txt_truth (o n : Int) (nm : List UInt8) (ks : List Ex) (a : Nat) : (Ex.mk 1 o n nm ks a).txt = if n = 0 then flsB else truB := by simp only [Ex.txt, txtOf]; rfl
theorem txt_var (o n : Int) (nm : List UInt8) (ks : List Ex) (a : Nat) : (Ex.mk 2 o n nm ks a).txt = nm := by simp only [Ex.txt, txtOf]; rfl
theorem txt_elem (o n : Int) (nm : List UInt8) (e : Ex) (a : Nat) : (Ex.mk 3 o n nm [e] a).txt = nm ++ 91 :: (e.txt ++ [93]) := by
  simp only [Ex.txt, txtOf, Ex.kds, rowK, List.flatMap_nil, List.append_nil]
  rfl
theorem txt_call (o n : Int) (nm : List UInt8) (ks : List Ex) (a : Nat) : (Ex.mk 7 o n nm ks a).txt = nm ++ 40 :: (rowK (Ex.kds ks) ++ [41]) := by simp only [Ex.txt, txtOf]; rfl
theorem txt_neg (o n : Int) (nm : List UInt8) (e : Ex) (a : Nat) : (Ex.mk 4 o n nm [e] a).txt = 45 :: e.txtAt 11 := by
  rw [← txtAt_top]
  simp only [Ex.txt, txtOf, Ex.kds, oneK, List.flatMap_cons, List.flatMap_nil, List.append_nil]
  rfl
theorem txt_not (o n : Int) (nm : List UInt8) (e : Ex) (a : Nat) : (Ex.mk 5 o n nm [e] a).txt = 33 :: e.txtAt 11 := by
  rw [← txtAt_top]
  simp only [Ex.txt, txtOf, Ex.kds, oneK, List.flatMap_cons, List.flatMap_nil, List.append_nil]
  rfl
theorem txt_two (o n : Int) (nm : List UInt8) (l r : Ex) (a : Nat) : (Ex.mk 6 o n nm [l, r] a).txt = l.txtAt (rnkZ o) ++ (opT o ++ r.txtAt (rnkZ o + 1)) := by
  have e : decide (rnkZ r.op ≤ rnkZ o) = decide (rnkZ r.op < rnkZ o + 1) := by
    rw [decide_eq_decide]
    omega
  simp only [Ex.txt, txtOf, Ex.kds, twoK, List.flatMap_cons, List.flatMap_nil, List.append_nil, Ex.txtAt, e]
  rfl
end Go.Proofs.YtngfbpmabdmkeaaGreatDoor
