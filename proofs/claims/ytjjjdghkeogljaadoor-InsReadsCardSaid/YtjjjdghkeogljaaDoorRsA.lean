/- The document's own Show of any instruction. -/
import Derived.Test.YtjjjdghkeogljaaDoorRnx
import Derived.Test.YtjjjdghkeogljaaDoorSho
import Derived.Deep.Cut
namespace Go.Proofs.YtjjjdghkeogljaaDoor
set_option linter.unusedSimpArgs false
set_option linter.unusedVariables false
open Go Go.RowKit Go.WideShapes

theorem reg_l (n : Int) : (regT n).data.toList = 114 :: (dig n).data.toList := by
  unfold regT
  rw [cat_list]
  rfl
theorem reg_ne (n : Int) : (regT n).toList.isEmpty = false := by
  rw [ByteArray.toList_eq, reg_l]
  rfl
theorem dig_ne {n : Int} (h : In6 n) : (dig n).toList.isEmpty = false := by
  have h1 := (dig_size h).2
  rw [ByteArray.toList_eq]
  have h2 : (dig n).data.toList.length = (dig n).size := rfl
  cases e : (dig n).data.toList with
  | nil => rw [e] at h2; simp at h2; omega
  | cons c r => rfl
theorem opr_ne (o : Int) : (oprT o).toList.isEmpty = false := by
  unfold oprT
  cases h : (sgnZ o).toList.isEmpty
  · exact h
  · rw [if_pos rfl, ByteArray.toList_eq]
    rfl
theorem shw_add {x : Ic} {k j : Nat} {t : ByteArray} (h : toldB x (prt k j) = t) (hn : t.toList.isEmpty = false) : (shwB x k (j + 1)).data.toList = (shwB x k j).data.toList ++ 32 :: t.data.toList := by
  have e : shwB x k (j + 1) = if (toldB x (prt k j)).toList.isEmpty then shwB x k j else shwB x k j ++ (⟨#[32]⟩ ++ toldB x (prt k j)) := rfl
  rw [e, h, if_neg (by rw [hn]; decide), cat_list, cat_list]
  rfl
theorem shw_skip {x : Ic} {k j : Nat} (h : (toldB x (prt k j)).toList.isEmpty = true) : (shwB x k (j + 1)).data.toList = (shwB x k j).data.toList := by
  have e : shwB x k (j + 1) = if (toldB x (prt k j)).toList.isEmpty then shwB x k j else shwB x k j ++ (⟨#[32]⟩ ++ toldB x (prt k j)) := rfl
  rw [e, if_pos h]
theorem nil_empty : (⟨#[]⟩ : ByteArray).toList.isEmpty = true := by
  rw [ByteArray.toList_eq]
  rfl
def atT (x : Ic) : ByteArray := if x.a < 0 then ⟨#[]⟩ else ⟨#[32, 114]⟩ ++ dig x.a
theorem shw_at {x : Ic} {k j : Nat} (h : prt k j = 3) : (shwB x k (j + 1)).data.toList = (shwB x k j).data.toList ++ (atT x).data.toList := by
  unfold atT
  have e : toldB x (prt k j) = if x.a < 0 then ⟨#[]⟩ else regT x.a := by rw [h]; rfl
  by_cases ha : x.a < 0
  · rw [if_pos ha] at e ⊢
    rw [shw_skip (by rw [e]; exact nil_empty)]
    exact (List.append_nil _).symm
  · rw [if_neg ha] at e ⊢
    rw [shw_add e (reg_ne _), reg_l, cat_list]
    rfl
theorem show_l0 {x : Ic} (hk : x.k = 0) (h : Ok6 x) : (showM x).data.toList = [115, 101, 116] ++ ([32, 114] ++ (dig x.d).data.toList) ++ (32 :: (dig x.n).data.toList) := by
  have e : showM x = shwB x 0 4 := by
    unfold showM
    rw [hk]
    rfl
  rw [e, shw_skip (x := x) (k := 0) (j := 3) nil_empty, shw_skip (x := x) (k := 0) (j := 2) nil_empty, shw_add (x := x) (k := 0) (j := 1) (t := dig x.n) rfl (dig_ne h.2.2.2.2.2.1), shw_add (x := x) (k := 0) (j := 0) (t := regT x.d) rfl (reg_ne _)]
  simp only [reg_l]
  rfl
theorem show_l1 {x : Ic} (hk : x.k = 1) (h : Ok6 x) : (showM x).data.toList = [109, 111, 118, 101] ++ ([32, 114] ++ (dig x.d).data.toList) ++ ([32, 114] ++ (dig x.a).data.toList) := by
  have e : showM x = shwB x 1 4 := by
    unfold showM
    rw [hk]
    rfl
  rw [e, shw_skip (x := x) (k := 1) (j := 3) nil_empty, shw_skip (x := x) (k := 1) (j := 2) nil_empty, shw_add (x := x) (k := 1) (j := 1) (t := regT x.a) rfl (reg_ne _), shw_add (x := x) (k := 1) (j := 0) (t := regT x.d) rfl (reg_ne _)]
  simp only [reg_l]
  rfl
theorem show_l2 {x : Ic} (hk : x.k = 2) (h : Ok6 x) : (showM x).data.toList = [99, 97, 108, 99] ++ ([32, 114] ++ (dig x.d).data.toList) ++ ([32, 114] ++ (dig x.a).data.toList) ++ (32 :: (oprT x.o).data.toList) ++ ([32, 114] ++ (dig x.b).data.toList) := by
  have e : showM x = shwB x 2 4 := by
    unfold showM
    rw [hk]
    rfl
  rw [e, shw_add (x := x) (k := 2) (j := 3) (t := regT x.b) rfl (reg_ne _), shw_add (x := x) (k := 2) (j := 2) (t := oprT x.o) rfl (opr_ne _), shw_add (x := x) (k := 2) (j := 1) (t := regT x.a) rfl (reg_ne _), shw_add (x := x) (k := 2) (j := 0) (t := regT x.d) rfl (reg_ne _)]
  simp only [reg_l]
  rfl
theorem show_l3 {x : Ic} (hk : x.k = 3) (h : Ok6 x) : (showM x).data.toList = [112, 105, 99, 107] ++ ([32, 114] ++ (dig x.d).data.toList) ++ ([32, 114] ++ (dig x.a).data.toList) ++ ([32, 114] ++ (dig x.b).data.toList) := by
  have e : showM x = shwB x 3 4 := by
    unfold showM
    rw [hk]
    rfl
  rw [e, shw_skip (x := x) (k := 3) (j := 3) nil_empty, shw_add (x := x) (k := 3) (j := 2) (t := regT x.b) rfl (reg_ne _), shw_add (x := x) (k := 3) (j := 1) (t := regT x.a) rfl (reg_ne _), shw_add (x := x) (k := 3) (j := 0) (t := regT x.d) rfl (reg_ne _)]
  simp only [reg_l]
  rfl
theorem show_l4 {x : Ic} (hk : x.k = 4) (h : Ok6 x) : (showM x).data.toList = [108, 111, 97, 100] ++ ([32, 114] ++ (dig x.d).data.toList) ++ (32 :: (dig x.n).data.toList) ++ (atT x).data.toList := by
  have e : showM x = shwB x 4 4 := by
    unfold showM
    rw [hk]
    rfl
  rw [e, shw_skip (x := x) (k := 4) (j := 3) nil_empty, shw_at (x := x) (k := 4) (j := 2) rfl, shw_add (x := x) (k := 4) (j := 1) (t := dig x.n) rfl (dig_ne h.2.2.2.2.2.1), shw_add (x := x) (k := 4) (j := 0) (t := regT x.d) rfl (reg_ne _)]
  simp only [reg_l]
  rfl
theorem show_l5 {x : Ic} (hk : x.k = 5) (h : Ok6 x) : (showM x).data.toList = [115, 116, 111, 114, 101] ++ (32 :: (dig x.n).data.toList) ++ ([32, 114] ++ (dig x.b).data.toList) ++ (atT x).data.toList := by
  have e : showM x = shwB x 5 4 := by
    unfold showM
    rw [hk]
    rfl
  rw [e, shw_skip (x := x) (k := 5) (j := 3) nil_empty, shw_at (x := x) (k := 5) (j := 2) rfl, shw_add (x := x) (k := 5) (j := 1) (t := regT x.b) rfl (reg_ne _), shw_add (x := x) (k := 5) (j := 0) (t := dig x.n) rfl (dig_ne h.2.2.2.2.2.1)]
  simp only [reg_l]
  rfl
theorem show_l6 {x : Ic} (hk : x.k = 6) (h : Ok6 x) : (showM x).data.toList = [106, 117, 109, 112] ++ (32 :: (dig x.t).data.toList) := by
  have e : showM x = shwB x 6 4 := by
    unfold showM
    rw [hk]
    rfl
  rw [e, shw_skip (x := x) (k := 6) (j := 3) nil_empty, shw_skip (x := x) (k := 6) (j := 2) nil_empty, shw_skip (x := x) (k := 6) (j := 1) nil_empty, shw_add (x := x) (k := 6) (j := 0) (t := dig x.t) rfl (dig_ne h.2.2.2.2.2.2)]
  rfl
theorem show_l7 {x : Ic} (hk : x.k = 7) (h : Ok6 x) : (showM x).data.toList = [122, 101, 114, 111] ++ ([32, 114] ++ (dig x.a).data.toList) ++ (32 :: (dig x.t).data.toList) := by
  have e : showM x = shwB x 7 4 := by
    unfold showM
    rw [hk]
    rfl
  rw [e, shw_skip (x := x) (k := 7) (j := 3) nil_empty, shw_skip (x := x) (k := 7) (j := 2) nil_empty, shw_add (x := x) (k := 7) (j := 1) (t := dig x.t) rfl (dig_ne h.2.2.2.2.2.2), shw_add (x := x) (k := 7) (j := 0) (t := regT x.a) rfl (reg_ne _)]
  simp only [reg_l]
  rfl
theorem show_l8 {x : Ic} (hk : x.k = 8) (h : Ok6 x) : (showM x).data.toList = [102, 101, 110, 99, 101] := by
  have e : showM x = shwB x 8 4 := by
    unfold showM
    rw [hk]
    rfl
  rw [e, shw_skip (x := x) (k := 8) (j := 3) nil_empty, shw_skip (x := x) (k := 8) (j := 2) nil_empty, shw_skip (x := x) (k := 8) (j := 1) nil_empty, shw_skip (x := x) (k := 8) (j := 0) nil_empty]
  rfl
theorem show_l9 {x : Ic} (hk : x.k = 9) (h : Ok6 x) : (showM x).data.toList = [116, 97, 107, 101] ++ (32 :: (dig x.n).data.toList) := by
  have e : showM x = shwB x 9 4 := by
    unfold showM
    rw [hk]
    rfl
  rw [e, shw_skip (x := x) (k := 9) (j := 3) nil_empty, shw_skip (x := x) (k := 9) (j := 2) nil_empty, shw_skip (x := x) (k := 9) (j := 1) nil_empty, shw_add (x := x) (k := 9) (j := 0) (t := dig x.n) rfl (dig_ne h.2.2.2.2.2.1)]
  rfl
theorem show_l10 {x : Ic} (hk : x.k = 10) (h : Ok6 x) : (showM x).data.toList = [103, 105, 118, 101] ++ (32 :: (dig x.n).data.toList) := by
  have e : showM x = shwB x 10 4 := by
    unfold showM
    rw [hk]
    rfl
  rw [e, shw_skip (x := x) (k := 10) (j := 3) nil_empty, shw_skip (x := x) (k := 10) (j := 2) nil_empty, shw_skip (x := x) (k := 10) (j := 1) nil_empty, shw_add (x := x) (k := 10) (j := 0) (t := dig x.n) rfl (dig_ne h.2.2.2.2.2.1)]
  rfl
theorem show_l11 {x : Ic} (hk : x.k = 11) (h : Ok6 x) : (showM x).data.toList = [111, 117, 116] ++ ([32, 114] ++ (dig x.a).data.toList) := by
  have e : showM x = shwB x 11 4 := by
    unfold showM
    rw [hk]
    rfl
  rw [e, shw_skip (x := x) (k := 11) (j := 3) nil_empty, shw_skip (x := x) (k := 11) (j := 2) nil_empty, shw_skip (x := x) (k := 11) (j := 1) nil_empty, shw_add (x := x) (k := 11) (j := 0) (t := regT x.a) rfl (reg_ne _)]
  simp only [reg_l]
  rfl
theorem show_l12 {x : Ic} (hk : x.k = 12) (h : Ok6 x) : (showM x).data.toList = [116, 114, 97, 112] ++ (32 :: (dig x.n).data.toList) := by
  have e : showM x = shwB x 12 4 := by
    unfold showM
    rw [hk]
    rfl
  rw [e, shw_skip (x := x) (k := 12) (j := 3) nil_empty, shw_skip (x := x) (k := 12) (j := 2) nil_empty, shw_skip (x := x) (k := 12) (j := 1) nil_empty, shw_add (x := x) (k := 12) (j := 0) (t := dig x.n) rfl (dig_ne h.2.2.2.2.2.1)]
  rfl
theorem show_l13 {x : Ic} (hk : x.k = 13) (h : Ok6 x) : (showM x).data.toList = [104, 97, 108, 116] := by
  have e : showM x = shwB x 13 4 := by
    unfold showM
    rw [hk]
    rfl
  rw [e, shw_skip (x := x) (k := 13) (j := 3) nil_empty, shw_skip (x := x) (k := 13) (j := 2) nil_empty, shw_skip (x := x) (k := 13) (j := 1) nil_empty, shw_skip (x := x) (k := 13) (j := 0) nil_empty]
  rfl
theorem rr_any (n : Int) (w : World) (h : Hid (In6 n)) : Calls Tryd.prog 31 #[.int .i64 n] w fun e w' => e = .returned (.string (⟨#[32, 114]⟩ ++ dig n)) ∧ w = w' := by
  have hs := (dig_size h.out).1
  obtain ⟨h0, h1⟩ := h.out
  go_enter Tryd.func31, Tryd.ntmps31
  go_wp2_with (go_at_call 30; (with_reducible refine (rdigits_any n _ h0 h1).mono ?_); rintro e w' ⟨rfl, rfl⟩)
  go_ret
  exact ⟨rfl, rfl⟩
theorem rr_is {n : Int} {t : ByteArray} (e : ⟨#[32, 114]⟩ ++ dig n = t) (h : Hid (In6 n)) (w : World) : Calls Tryd.prog 31 #[.int .i64 n] w fun e w' => e = .returned (.string t) ∧ w = w' := e ▸ rr_any n w h
theorem rr_is' {n : Int} {t : ByteArray} (e : ⟨#[32, 114]⟩ ++ dig n = t) (h : Hid (In6 n)) (w : World) : Calls Tryd.prog 31 #[.int .i64 n] w fun e w' => e = .returned (.string t) ∧ w' = w := (rr_is e h w).mono fun _ _ ⟨h1, h2⟩ => ⟨h1, h2.symm⟩
theorem rd_is {n : Int} {t : ByteArray} (e : dig n = t) (h : Hid (In6 n)) (w : World) : Calls Tryd.prog 30 #[.int .i64 n] w fun e w' => e = .returned (.string t) ∧ w = w' := e ▸ rdigits_any n w h.out.1 h.out.2
theorem rs_is {n : Int} {t : ByteArray} (e : sgnZ n = t) (w : World) : Calls Tryd.prog 32 #[.int .i64 n] w fun e w' => e = .returned (.string t) ∧ Below w.heap.size w w' := e ▸ rsgn_any n w
theorem rt_size {n : Int} (h : In6 n) : (⟨#[32, 114]⟩ ++ dig n : ByteArray).size ≤ 22 := by
  rw [ByteArray.size_append]
  have := (dig_size h).1
  show 2 + _ ≤ 22
  omega
end Go.Proofs.YtjjjdghkeogljaaDoor
