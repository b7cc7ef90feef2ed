/- calc.Eval: what it comes to of any operator and any two numbers. -/
import Derived.Test.YtnmalhjhfddjpaaLeaf
namespace Go.Proofs.Ytnmalhjhfddjpaa
set_option linter.unusedSimpArgs false
set_option linter.unusedVariables false
open Go Go.RowKit Go.Maps

theorem do_hit (b g : Nat) (o x y r : Int) (w : World)
    (hrun : (Instr.lookup 81 (.map (some b)) (.int .i64 o) true).run Try.prog w = .ok (.tuple #[.func (.func g) #[] #[], .bool true]) w)
    (hcf : (callFunc g #[.int .i64 x, .int .i64 y]).run Try.prog w = .ok (.enter g #[.int .i64 x, .int .i64 y]) w)
    (hg : Calls Try.prog g #[.int .i64 x, .int .i64 y] w fun e w' => e = .returned (.int .i64 r) ∧ w = w') :
    Calls Try.prog 50 #[.map (some b), .int .i64 o, .int .i64 x, .int .i64 y] w fun e w' => e = .returned (.int .i64 r) ∧ w = w' := by
  go_enter Try.func50, Try.ntmps50
  go_wp2_with (refine hg.mono ?_; rintro e w' ⟨rfl, rfl⟩)
  go_ret
  exact ⟨rfl, rfl⟩

theorem do_miss (b : Nat) (o x y : Int) (w : World)
    (hrun : (Instr.lookup 81 (.map (some b)) (.int .i64 o) true).run Try.prog w = .ok (.tuple #[.nilFunc, .bool false]) w) :
    Calls Try.prog 50 #[.map (some b), .int .i64 o, .int .i64 x, .int .i64 y] w fun e w' => e = .returned (.int .i64 0) ∧ w = w' := by
  go_enter Try.func50, Try.ntmps50
  go_wp2
  go_ret
  exact ⟨rfl, rfl⟩

theorem keyed : Keyed Try.prog 3 := int_keyed Try.underlying3
theorem zero_fn (w : World) : (zeroValue 86).run Try.prog w = .ok .nilFunc w := by kernel_rfl

def sumD : DataW Unit := ((((((DataW.map [] : DataW Unit).put (.int .i64 0) (.lit (.int .i64 51))).put (.int .i64 1) (.lit (.int .i64 52))).put (.int .i64 2) (.lit (.int .i64 53))).put (.int .i64 3) (.lit (.int .i64 54))).put (.int .i64 4) (.lit (.int .i64 56)))

/-- The literal of this family, laid in a new block; what the call of 'do' then answers is handed on. -/
theorem sum_walk (o a b : Int) (w : World) (r : Int)
    (hdo : ∀ W : World, W.ownsMap Try.prog 3 fnElem w.heap.size 5 sumD → Calls Try.prog 50 #[.map (some w.heap.size), .int .i64 o, .int .i64 a, .int .i64 b] W fun e w' => e = .returned (.int .i64 r) ∧ W = w') :
    Calls Try.prog 45 #[.int .i64 o, .int .i64 a, .int .i64 b] w fun e w' => e = .returned (.int .i64 r) ∧ Below w.heap.size w w' := by
  have hmm := @run_makeMap Try.prog
  have hM0 := World.ownsMap_made w Try.prog 3 fnElem
  have hB0 : Below w.heap.size w (w.alloc (.map #[] 0)) := (Below.refl _ _).alloc (Nat.le_refl _) _
  go_enter Try.func45, Try.ntmps45
  go_wp2_with (first
    | (go_at_call 50; refine (hdo _ (by assumption)).mono ?_; rintro e w' ⟨rfl, rfl⟩)
    | (refine wpList_insert_own _ rfl _ (.const (.int .i64 0)) (.func 51) 81 rfl 3 86 keyed Try.underlying81 fnElem w.heap.size 0 _ rfl hM0 (by decide) _ _ (.int .i64 0) rfl rfl (keyOf_int_mk Try.underlying3 (by decide)) _ _ (fnElem_mk 51) ?_; intro w1 hM1 hg1; have hB1 := hB0.grown hg1 hB0.size (fun j hj => by cases hj; exact Nat.le_refl _); clear hM0 hg1 hB0)
    | (refine wpList_insert_own _ rfl _ (.const (.int .i64 1)) (.func 52) 81 rfl 3 86 keyed Try.underlying81 fnElem w.heap.size 1 _ rfl hM1 (by decide) _ _ (.int .i64 1) rfl rfl (keyOf_int_mk Try.underlying3 (by decide)) _ _ (fnElem_mk 52) ?_; intro w2 hM2 hg2; have hB2 := hB1.grown hg2 hB1.size (fun j hj => by cases hj; exact Nat.le_refl _); clear hM1 hg2 hB1)
    | (refine wpList_insert_own _ rfl _ (.const (.int .i64 2)) (.func 53) 81 rfl 3 86 keyed Try.underlying81 fnElem w.heap.size 2 _ rfl hM2 (by decide) _ _ (.int .i64 2) rfl rfl (keyOf_int_mk Try.underlying3 (by decide)) _ _ (fnElem_mk 53) ?_; intro w3 hM3 hg3; have hB3 := hB2.grown hg3 hB2.size (fun j hj => by cases hj; exact Nat.le_refl _); clear hM2 hg3 hB2)
    | (refine wpList_insert_own _ rfl _ (.const (.int .i64 3)) (.func 54) 81 rfl 3 86 keyed Try.underlying81 fnElem w.heap.size 3 _ rfl hM3 (by decide) _ _ (.int .i64 3) rfl rfl (keyOf_int_mk Try.underlying3 (by decide)) _ _ (fnElem_mk 54) ?_; intro w4 hM4 hg4; have hB4 := hB3.grown hg4 hB3.size (fun j hj => by cases hj; exact Nat.le_refl _); clear hM3 hg4 hB3)
    | (refine wpList_insert_own _ rfl _ (.const (.int .i64 4)) (.func 56) 81 rfl 3 86 keyed Try.underlying81 fnElem w.heap.size 4 _ rfl hM4 (by decide) _ _ (.int .i64 4) rfl rfl (keyOf_int_mk Try.underlying3 (by decide)) _ _ (fnElem_mk 56) ?_; intro w5 hM5 hg5; have hB5 := hB4.grown hg5 hB4.size (fun j hj => by cases hj; exact Nat.le_refl _); clear hM4 hg5 hB4))
  go_ret
  exact ⟨rfl, hB5⟩

theorem sum_0 (a b : Int) (w : World) : Calls Try.prog 45 #[.int .i64 0, .int .i64 a, .int .i64 b] w fun e w' => e = .returned (.int .i64 (wrap64 (a + b))) ∧ Below w.heap.size w w' :=
  sum_walk 0 a b w _ fun W h => do_hit _ _ _ _ _ _ _ ((look_fn h keyed Try.underlying81 (zero_fn _) (keyOf_int_mk Try.underlying3 (by decide))).1 51 rfl) (by kernel_rfl) (f0_any a b W)

theorem sum_1 (a b : Int) (w : World) : Calls Try.prog 45 #[.int .i64 1, .int .i64 a, .int .i64 b] w fun e w' => e = .returned (.int .i64 (wrap64 (a - b))) ∧ Below w.heap.size w w' :=
  sum_walk 1 a b w _ fun W h => do_hit _ _ _ _ _ _ _ ((look_fn h keyed Try.underlying81 (zero_fn _) (keyOf_int_mk Try.underlying3 (by decide))).1 52 rfl) (by kernel_rfl) (f1_any a b W)

theorem sum_2 (a b : Int) (w : World) : Calls Try.prog 45 #[.int .i64 2, .int .i64 a, .int .i64 b] w fun e w' => e = .returned (.int .i64 (wrap64 (a * b))) ∧ Below w.heap.size w w' :=
  sum_walk 2 a b w _ fun W h => do_hit _ _ _ _ _ _ _ ((look_fn h keyed Try.underlying81 (zero_fn _) (keyOf_int_mk Try.underlying3 (by decide))).1 53 rfl) (by kernel_rfl) (f2_any a b W)

theorem sum_3 (a b : Int) (w : World) : Calls Try.prog 45 #[.int .i64 3, .int .i64 a, .int .i64 b] w fun e w' => e = .returned (.int .i64 (qt a b)) ∧ Below w.heap.size w w' :=
  sum_walk 3 a b w _ fun W h => do_hit _ _ _ _ _ _ _ ((look_fn h keyed Try.underlying81 (zero_fn _) (keyOf_int_mk Try.underlying3 (by decide))).1 54 rfl) (by kernel_rfl) (f3_any a b W)

theorem sum_4 (a b : Int) (w : World) : Calls Try.prog 45 #[.int .i64 4, .int .i64 a, .int .i64 b] w fun e w' => e = .returned (.int .i64 (wrap64 (a - wrap64 (b * qt a b)))) ∧ Below w.heap.size w w' :=
  sum_walk 4 a b w _ fun W h => do_hit _ _ _ _ _ _ _ ((look_fn h keyed Try.underlying81 (zero_fn _) (keyOf_int_mk Try.underlying3 (by decide))).1 56 rfl) (by kernel_rfl) (f4_any a b W)

theorem sum_none (o a b : Int) (w : World) (hw : (Lit.int .i64 o).wf = true) (h0 : o ≠ 0) (h1 : o ≠ 1) (h2 : o ≠ 2) (h3 : o ≠ 3) (h4 : o ≠ 4) : Calls Try.prog 45 #[.int .i64 o, .int .i64 a, .int .i64 b] w fun e w' => e = .returned (.int .i64 0) ∧ Below w.heap.size w w' :=
  sum_walk o a b w _ fun W h => do_miss _ _ _ _ _ ((look_fn h keyed Try.underlying81 (zero_fn _) (keyOf_int_mk Try.underlying3 hw)).2 fun d => by
    unfold sumD
    rw [atKey_put_other (by intro h; cases h; contradiction)]
    rw [atKey_put_other (by intro h; cases h; contradiction)]
    rw [atKey_put_other (by intro h; cases h; contradiction)]
    rw [atKey_put_other (by intro h; cases h; contradiction)]
    rw [atKey_put_other (by intro h; cases h; contradiction)]
    rfl)

def bitwiseD : DataW Unit := ((((((DataW.map [] : DataW Unit).put (.int .i64 5) (.lit (.int .i64 57))).put (.int .i64 6) (.lit (.int .i64 58))).put (.int .i64 7) (.lit (.int .i64 59))).put (.int .i64 8) (.lit (.int .i64 60))).put (.int .i64 9) (.lit (.int .i64 62)))

/-- The literal of this family, laid in a new block; what the call of 'do' then answers is handed on. -/
theorem bitwise_walk (o a b : Int) (w : World) (r : Int)
    (hdo : ∀ W : World, W.ownsMap Try.prog 3 fnElem w.heap.size 5 bitwiseD → Calls Try.prog 50 #[.map (some w.heap.size), .int .i64 o, .int .i64 a, .int .i64 b] W fun e w' => e = .returned (.int .i64 r) ∧ W = w') :
    Calls Try.prog 46 #[.int .i64 o, .int .i64 a, .int .i64 b] w fun e w' => e = .returned (.int .i64 r) ∧ Below w.heap.size w w' := by
  have hmm := @run_makeMap Try.prog
  have hM0 := World.ownsMap_made w Try.prog 3 fnElem
  have hB0 : Below w.heap.size w (w.alloc (.map #[] 0)) := (Below.refl _ _).alloc (Nat.le_refl _) _
  go_enter Try.func46, Try.ntmps46
  go_wp2_with (first
    | (go_at_call 50; refine (hdo _ (by assumption)).mono ?_; rintro e w' ⟨rfl, rfl⟩)
    | (refine wpList_insert_own _ rfl _ (.const (.int .i64 5)) (.func 57) 81 rfl 3 86 keyed Try.underlying81 fnElem w.heap.size 0 _ rfl hM0 (by decide) _ _ (.int .i64 5) rfl rfl (keyOf_int_mk Try.underlying3 (by decide)) _ _ (fnElem_mk 57) ?_; intro w1 hM1 hg1; have hB1 := hB0.grown hg1 hB0.size (fun j hj => by cases hj; exact Nat.le_refl _); clear hM0 hg1 hB0)
    | (refine wpList_insert_own _ rfl _ (.const (.int .i64 6)) (.func 58) 81 rfl 3 86 keyed Try.underlying81 fnElem w.heap.size 1 _ rfl hM1 (by decide) _ _ (.int .i64 6) rfl rfl (keyOf_int_mk Try.underlying3 (by decide)) _ _ (fnElem_mk 58) ?_; intro w2 hM2 hg2; have hB2 := hB1.grown hg2 hB1.size (fun j hj => by cases hj; exact Nat.le_refl _); clear hM1 hg2 hB1)
    | (refine wpList_insert_own _ rfl _ (.const (.int .i64 7)) (.func 59) 81 rfl 3 86 keyed Try.underlying81 fnElem w.heap.size 2 _ rfl hM2 (by decide) _ _ (.int .i64 7) rfl rfl (keyOf_int_mk Try.underlying3 (by decide)) _ _ (fnElem_mk 59) ?_; intro w3 hM3 hg3; have hB3 := hB2.grown hg3 hB2.size (fun j hj => by cases hj; exact Nat.le_refl _); clear hM2 hg3 hB2)
    | (refine wpList_insert_own _ rfl _ (.const (.int .i64 8)) (.func 60) 81 rfl 3 86 keyed Try.underlying81 fnElem w.heap.size 3 _ rfl hM3 (by decide) _ _ (.int .i64 8) rfl rfl (keyOf_int_mk Try.underlying3 (by decide)) _ _ (fnElem_mk 60) ?_; intro w4 hM4 hg4; have hB4 := hB3.grown hg4 hB3.size (fun j hj => by cases hj; exact Nat.le_refl _); clear hM3 hg4 hB3)
    | (refine wpList_insert_own _ rfl _ (.const (.int .i64 9)) (.func 62) 81 rfl 3 86 keyed Try.underlying81 fnElem w.heap.size 4 _ rfl hM4 (by decide) _ _ (.int .i64 9) rfl rfl (keyOf_int_mk Try.underlying3 (by decide)) _ _ (fnElem_mk 62) ?_; intro w5 hM5 hg5; have hB5 := hB4.grown hg5 hB4.size (fun j hj => by cases hj; exact Nat.le_refl _); clear hM4 hg5 hB4))
  go_ret
  exact ⟨rfl, hB5⟩

theorem bitwise_5 (a b : Int) (w : World) : Calls Try.prog 46 #[.int .i64 5, .int .i64 a, .int .i64 b] w fun e w' => e = .returned (.int .i64 (bits .and .i64 a b)) ∧ Below w.heap.size w w' :=
  bitwise_walk 5 a b w _ fun W h => do_hit _ _ _ _ _ _ _ ((look_fn h keyed Try.underlying81 (zero_fn _) (keyOf_int_mk Try.underlying3 (by decide))).1 57 rfl) (by kernel_rfl) (f5_any a b W)

theorem bitwise_6 (a b : Int) (w : World) : Calls Try.prog 46 #[.int .i64 6, .int .i64 a, .int .i64 b] w fun e w' => e = .returned (.int .i64 (bits .or .i64 a b)) ∧ Below w.heap.size w w' :=
  bitwise_walk 6 a b w _ fun W h => do_hit _ _ _ _ _ _ _ ((look_fn h keyed Try.underlying81 (zero_fn _) (keyOf_int_mk Try.underlying3 (by decide))).1 58 rfl) (by kernel_rfl) (f6_any a b W)

theorem bitwise_7 (a b : Int) (w : World) : Calls Try.prog 46 #[.int .i64 7, .int .i64 a, .int .i64 b] w fun e w' => e = .returned (.int .i64 (bits .xor .i64 a b)) ∧ Below w.heap.size w w' :=
  bitwise_walk 7 a b w _ fun W h => do_hit _ _ _ _ _ _ _ ((look_fn h keyed Try.underlying81 (zero_fn _) (keyOf_int_mk Try.underlying3 (by decide))).1 59 rfl) (by kernel_rfl) (f7_any a b W)

theorem bitwise_8 (a b : Int) (w : World) : Calls Try.prog 46 #[.int .i64 8, .int .i64 a, .int .i64 b] w fun e w' => e = .returned (.int .i64 (wrap64 (a * 2 ^ (b % 64).toNat))) ∧ Below w.heap.size w w' :=
  bitwise_walk 8 a b w _ fun W h => do_hit _ _ _ _ _ _ _ ((look_fn h keyed Try.underlying81 (zero_fn _) (keyOf_int_mk Try.underlying3 (by decide))).1 60 rfl) (by kernel_rfl) (f8_any a b W)

theorem bitwise_9 (a b : Int) (w : World) : Calls Try.prog 46 #[.int .i64 9, .int .i64 a, .int .i64 b] w fun e w' => e = .returned (.int .i64 (a / 2 ^ (b % 64).toNat)) ∧ Below w.heap.size w w' :=
  bitwise_walk 9 a b w _ fun W h => do_hit _ _ _ _ _ _ _ ((look_fn h keyed Try.underlying81 (zero_fn _) (keyOf_int_mk Try.underlying3 (by decide))).1 62 rfl) (by kernel_rfl) (f9_any a b W)

theorem bitwise_none (o a b : Int) (w : World) (hw : (Lit.int .i64 o).wf = true) (h5 : o ≠ 5) (h6 : o ≠ 6) (h7 : o ≠ 7) (h8 : o ≠ 8) (h9 : o ≠ 9) : Calls Try.prog 46 #[.int .i64 o, .int .i64 a, .int .i64 b] w fun e w' => e = .returned (.int .i64 0) ∧ Below w.heap.size w w' :=
  bitwise_walk o a b w _ fun W h => do_miss _ _ _ _ _ ((look_fn h keyed Try.underlying81 (zero_fn _) (keyOf_int_mk Try.underlying3 hw)).2 fun d => by
    unfold bitwiseD
    rw [atKey_put_other (by intro h; cases h; contradiction)]
    rw [atKey_put_other (by intro h; cases h; contradiction)]
    rw [atKey_put_other (by intro h; cases h; contradiction)]
    rw [atKey_put_other (by intro h; cases h; contradiction)]
    rw [atKey_put_other (by intro h; cases h; contradiction)]
    rfl)

def orderD : DataW Unit := ((((((((DataW.map [] : DataW Unit).put (.int .i64 10) (.lit (.int .i64 63))).put (.int .i64 11) (.lit (.int .i64 65))).put (.int .i64 12) (.lit (.int .i64 66))).put (.int .i64 13) (.lit (.int .i64 67))).put (.int .i64 14) (.lit (.int .i64 68))).put (.int .i64 15) (.lit (.int .i64 69))).put (.int .i64 16) (.lit (.int .i64 70)))

/-- The literal of this family, laid in a new block; what the call of 'do' then answers is handed on. -/
theorem order_walk (o a b : Int) (w : World) (r : Int)
    (hdo : ∀ W : World, W.ownsMap Try.prog 3 fnElem w.heap.size 7 orderD → Calls Try.prog 50 #[.map (some w.heap.size), .int .i64 o, .int .i64 a, .int .i64 b] W fun e w' => e = .returned (.int .i64 r) ∧ W = w') :
    Calls Try.prog 47 #[.int .i64 o, .int .i64 a, .int .i64 b] w fun e w' => e = .returned (.int .i64 r) ∧ Below w.heap.size w w' := by
  have hmm := @run_makeMap Try.prog
  have hM0 := World.ownsMap_made w Try.prog 3 fnElem
  have hB0 : Below w.heap.size w (w.alloc (.map #[] 0)) := (Below.refl _ _).alloc (Nat.le_refl _) _
  go_enter Try.func47, Try.ntmps47
  go_wp2_with (first
    | (go_at_call 50; refine (hdo _ (by assumption)).mono ?_; rintro e w' ⟨rfl, rfl⟩)
    | (refine wpList_insert_own _ rfl _ (.const (.int .i64 10)) (.func 63) 81 rfl 3 86 keyed Try.underlying81 fnElem w.heap.size 0 _ rfl hM0 (by decide) _ _ (.int .i64 10) rfl rfl (keyOf_int_mk Try.underlying3 (by decide)) _ _ (fnElem_mk 63) ?_; intro w1 hM1 hg1; have hB1 := hB0.grown hg1 hB0.size (fun j hj => by cases hj; exact Nat.le_refl _); clear hM0 hg1 hB0)
    | (refine wpList_insert_own _ rfl _ (.const (.int .i64 11)) (.func 65) 81 rfl 3 86 keyed Try.underlying81 fnElem w.heap.size 1 _ rfl hM1 (by decide) _ _ (.int .i64 11) rfl rfl (keyOf_int_mk Try.underlying3 (by decide)) _ _ (fnElem_mk 65) ?_; intro w2 hM2 hg2; have hB2 := hB1.grown hg2 hB1.size (fun j hj => by cases hj; exact Nat.le_refl _); clear hM1 hg2 hB1)
    | (refine wpList_insert_own _ rfl _ (.const (.int .i64 12)) (.func 66) 81 rfl 3 86 keyed Try.underlying81 fnElem w.heap.size 2 _ rfl hM2 (by decide) _ _ (.int .i64 12) rfl rfl (keyOf_int_mk Try.underlying3 (by decide)) _ _ (fnElem_mk 66) ?_; intro w3 hM3 hg3; have hB3 := hB2.grown hg3 hB2.size (fun j hj => by cases hj; exact Nat.le_refl _); clear hM2 hg3 hB2)
    | (refine wpList_insert_own _ rfl _ (.const (.int .i64 13)) (.func 67) 81 rfl 3 86 keyed Try.underlying81 fnElem w.heap.size 3 _ rfl hM3 (by decide) _ _ (.int .i64 13) rfl rfl (keyOf_int_mk Try.underlying3 (by decide)) _ _ (fnElem_mk 67) ?_; intro w4 hM4 hg4; have hB4 := hB3.grown hg4 hB3.size (fun j hj => by cases hj; exact Nat.le_refl _); clear hM3 hg4 hB3)
    | (refine wpList_insert_own _ rfl _ (.const (.int .i64 14)) (.func 68) 81 rfl 3 86 keyed Try.underlying81 fnElem w.heap.size 4 _ rfl hM4 (by decide) _ _ (.int .i64 14) rfl rfl (keyOf_int_mk Try.underlying3 (by decide)) _ _ (fnElem_mk 68) ?_; intro w5 hM5 hg5; have hB5 := hB4.grown hg5 hB4.size (fun j hj => by cases hj; exact Nat.le_refl _); clear hM4 hg5 hB4)
    | (refine wpList_insert_own _ rfl _ (.const (.int .i64 15)) (.func 69) 81 rfl 3 86 keyed Try.underlying81 fnElem w.heap.size 5 _ rfl hM5 (by decide) _ _ (.int .i64 15) rfl rfl (keyOf_int_mk Try.underlying3 (by decide)) _ _ (fnElem_mk 69) ?_; intro w6 hM6 hg6; have hB6 := hB5.grown hg6 hB5.size (fun j hj => by cases hj; exact Nat.le_refl _); clear hM5 hg6 hB5)
    | (refine wpList_insert_own _ rfl _ (.const (.int .i64 16)) (.func 70) 81 rfl 3 86 keyed Try.underlying81 fnElem w.heap.size 6 _ rfl hM6 (by decide) _ _ (.int .i64 16) rfl rfl (keyOf_int_mk Try.underlying3 (by decide)) _ _ (fnElem_mk 70) ?_; intro w7 hM7 hg7; have hB7 := hB6.grown hg7 hB6.size (fun j hj => by cases hj; exact Nat.le_refl _); clear hM6 hg7 hB6))
  go_ret
  exact ⟨rfl, hB7⟩

theorem order_10 (a b : Int) (w : World) : Calls Try.prog 47 #[.int .i64 10, .int .i64 a, .int .i64 b] w fun e w' => e = .returned (.int .i64 (tr (a == b))) ∧ Below w.heap.size w w' :=
  order_walk 10 a b w _ fun W h => do_hit _ _ _ _ _ _ _ ((look_fn h keyed Try.underlying81 (zero_fn _) (keyOf_int_mk Try.underlying3 (by decide))).1 63 rfl) (by kernel_rfl) (f10_any a b W)

theorem order_11 (a b : Int) (w : World) : Calls Try.prog 47 #[.int .i64 11, .int .i64 a, .int .i64 b] w fun e w' => e = .returned (.int .i64 (tr (a != b))) ∧ Below w.heap.size w w' :=
  order_walk 11 a b w _ fun W h => do_hit _ _ _ _ _ _ _ ((look_fn h keyed Try.underlying81 (zero_fn _) (keyOf_int_mk Try.underlying3 (by decide))).1 65 rfl) (by kernel_rfl) (f11_any a b W)

theorem order_12 (a b : Int) (w : World) : Calls Try.prog 47 #[.int .i64 12, .int .i64 a, .int .i64 b] w fun e w' => e = .returned (.int .i64 (tr (decide (a < b)))) ∧ Below w.heap.size w w' :=
  order_walk 12 a b w _ fun W h => do_hit _ _ _ _ _ _ _ ((look_fn h keyed Try.underlying81 (zero_fn _) (keyOf_int_mk Try.underlying3 (by decide))).1 66 rfl) (by kernel_rfl) (f12_any a b W)

theorem order_13 (a b : Int) (w : World) : Calls Try.prog 47 #[.int .i64 13, .int .i64 a, .int .i64 b] w fun e w' => e = .returned (.int .i64 (tr (decide (a ≤ b)))) ∧ Below w.heap.size w w' :=
  order_walk 13 a b w _ fun W h => do_hit _ _ _ _ _ _ _ ((look_fn h keyed Try.underlying81 (zero_fn _) (keyOf_int_mk Try.underlying3 (by decide))).1 67 rfl) (by kernel_rfl) (f13_any a b W)

theorem order_14 (a b : Int) (w : World) : Calls Try.prog 47 #[.int .i64 14, .int .i64 a, .int .i64 b] w fun e w' => e = .returned (.int .i64 (tr (decide (b < a)))) ∧ Below w.heap.size w w' :=
  order_walk 14 a b w _ fun W h => do_hit _ _ _ _ _ _ _ ((look_fn h keyed Try.underlying81 (zero_fn _) (keyOf_int_mk Try.underlying3 (by decide))).1 68 rfl) (by kernel_rfl) (f14_any a b W)

theorem order_15 (a b : Int) (w : World) : Calls Try.prog 47 #[.int .i64 15, .int .i64 a, .int .i64 b] w fun e w' => e = .returned (.int .i64 (tr (decide (b ≤ a)))) ∧ Below w.heap.size w w' :=
  order_walk 15 a b w _ fun W h => do_hit _ _ _ _ _ _ _ ((look_fn h keyed Try.underlying81 (zero_fn _) (keyOf_int_mk Try.underlying3 (by decide))).1 69 rfl) (by kernel_rfl) (f15_any a b W)

theorem order_16 (a b : Int) (w : World) : Calls Try.prog 47 #[.int .i64 16, .int .i64 a, .int .i64 b] w fun e w' => e = .returned (.int .i64 (tr (decide (IntKind.u64.wrap a < IntKind.u64.wrap b)))) ∧ Below w.heap.size w w' :=
  order_walk 16 a b w _ fun W h => do_hit _ _ _ _ _ _ _ ((look_fn h keyed Try.underlying81 (zero_fn _) (keyOf_int_mk Try.underlying3 (by decide))).1 70 rfl) (by kernel_rfl) (f16_any a b W)

theorem order_none (o a b : Int) (w : World) (hw : (Lit.int .i64 o).wf = true) (h10 : o ≠ 10) (h11 : o ≠ 11) (h12 : o ≠ 12) (h13 : o ≠ 13) (h14 : o ≠ 14) (h15 : o ≠ 15) (h16 : o ≠ 16) : Calls Try.prog 47 #[.int .i64 o, .int .i64 a, .int .i64 b] w fun e w' => e = .returned (.int .i64 0) ∧ Below w.heap.size w w' :=
  order_walk o a b w _ fun W h => do_miss _ _ _ _ _ ((look_fn h keyed Try.underlying81 (zero_fn _) (keyOf_int_mk Try.underlying3 hw)).2 fun d => by
    unfold orderD
    rw [atKey_put_other (by intro h; cases h; contradiction)]
    rw [atKey_put_other (by intro h; cases h; contradiction)]
    rw [atKey_put_other (by intro h; cases h; contradiction)]
    rw [atKey_put_other (by intro h; cases h; contradiction)]
    rw [atKey_put_other (by intro h; cases h; contradiction)]
    rw [atKey_put_other (by intro h; cases h; contradiction)]
    rw [atKey_put_other (by intro h; cases h; contradiction)]
    rfl)

def bothD : DataW Unit := (((DataW.map [] : DataW Unit).put (.int .i64 17) (.lit (.int .i64 71))).put (.int .i64 18) (.lit (.int .i64 72)))

/-- The literal of this family, laid in a new block; what the call of 'do' then answers is handed on. -/
theorem both_walk (o a b : Int) (w : World) (r : Int)
    (hdo : ∀ W : World, W.ownsMap Try.prog 3 fnElem w.heap.size 2 bothD → Calls Try.prog 50 #[.map (some w.heap.size), .int .i64 o, .int .i64 a, .int .i64 b] W fun e w' => e = .returned (.int .i64 r) ∧ W = w') :
    Calls Try.prog 48 #[.int .i64 o, .int .i64 a, .int .i64 b] w fun e w' => e = .returned (.int .i64 r) ∧ Below w.heap.size w w' := by
  have hmm := @run_makeMap Try.prog
  have hM0 := World.ownsMap_made w Try.prog 3 fnElem
  have hB0 : Below w.heap.size w (w.alloc (.map #[] 0)) := (Below.refl _ _).alloc (Nat.le_refl _) _
  go_enter Try.func48, Try.ntmps48
  go_wp2_with (first
    | (go_at_call 50; refine (hdo _ (by assumption)).mono ?_; rintro e w' ⟨rfl, rfl⟩)
    | (refine wpList_insert_own _ rfl _ (.const (.int .i64 17)) (.func 71) 81 rfl 3 86 keyed Try.underlying81 fnElem w.heap.size 0 _ rfl hM0 (by decide) _ _ (.int .i64 17) rfl rfl (keyOf_int_mk Try.underlying3 (by decide)) _ _ (fnElem_mk 71) ?_; intro w1 hM1 hg1; have hB1 := hB0.grown hg1 hB0.size (fun j hj => by cases hj; exact Nat.le_refl _); clear hM0 hg1 hB0)
    | (refine wpList_insert_own _ rfl _ (.const (.int .i64 18)) (.func 72) 81 rfl 3 86 keyed Try.underlying81 fnElem w.heap.size 1 _ rfl hM1 (by decide) _ _ (.int .i64 18) rfl rfl (keyOf_int_mk Try.underlying3 (by decide)) _ _ (fnElem_mk 72) ?_; intro w2 hM2 hg2; have hB2 := hB1.grown hg2 hB1.size (fun j hj => by cases hj; exact Nat.le_refl _); clear hM1 hg2 hB1))
  go_ret
  exact ⟨rfl, hB2⟩

theorem both_17 (a b : Int) (w : World) : Calls Try.prog 48 #[.int .i64 17, .int .i64 a, .int .i64 b] w fun e w' => e = .returned (.int .i64 (tr (a != 0 && b != 0))) ∧ Below w.heap.size w w' :=
  both_walk 17 a b w _ fun W h => do_hit _ _ _ _ _ _ _ ((look_fn h keyed Try.underlying81 (zero_fn _) (keyOf_int_mk Try.underlying3 (by decide))).1 71 rfl) (by kernel_rfl) (f17_any a b W)

theorem both_18 (a b : Int) (w : World) : Calls Try.prog 48 #[.int .i64 18, .int .i64 a, .int .i64 b] w fun e w' => e = .returned (.int .i64 (tr (a != 0 || b != 0))) ∧ Below w.heap.size w w' :=
  both_walk 18 a b w _ fun W h => do_hit _ _ _ _ _ _ _ ((look_fn h keyed Try.underlying81 (zero_fn _) (keyOf_int_mk Try.underlying3 (by decide))).1 72 rfl) (by kernel_rfl) (f18_any a b W)

theorem both_none (o a b : Int) (w : World) (hw : (Lit.int .i64 o).wf = true) (h17 : o ≠ 17) (h18 : o ≠ 18) : Calls Try.prog 48 #[.int .i64 o, .int .i64 a, .int .i64 b] w fun e w' => e = .returned (.int .i64 0) ∧ Below w.heap.size w w' :=
  both_walk o a b w _ fun W h => do_miss _ _ _ _ _ ((look_fn h keyed Try.underlying81 (zero_fn _) (keyOf_int_mk Try.underlying3 hw)).2 fun d => by
    unfold bothD
    rw [atKey_put_other (by intro h; cases h; contradiction)]
    rw [atKey_put_other (by intro h; cases h; contradiction)]
    rfl)

theorem eval_sum (o a b r : Int) (w : World) (h5 : o < 5) (h : Calls Try.prog 45 #[.int .i64 o, .int .i64 a, .int .i64 b] w fun e w' => e = .returned (.int .i64 r) ∧ Below w.heap.size w w') :
    Calls Try.prog 39 #[.int .i64 o, .int .i64 a, .int .i64 b] w fun e w' => e = .returned (.int .i64 r) ∧ Below w.heap.size w w' := by
  go_enter Try.func39, Try.ntmps39
  go_wp2_with (go_at_call 45; refine h.mono ?_; rintro e w' ⟨rfl, hB⟩)
  go_ret
  exact ⟨rfl, hB⟩

theorem eval_bitwise (o a b r : Int) (w : World) (h5 : 5 ≤ o) (h10 : o < 10) (h : Calls Try.prog 46 #[.int .i64 o, .int .i64 a, .int .i64 b] w fun e w' => e = .returned (.int .i64 r) ∧ Below w.heap.size w w') :
    Calls Try.prog 39 #[.int .i64 o, .int .i64 a, .int .i64 b] w fun e w' => e = .returned (.int .i64 r) ∧ Below w.heap.size w w' := by
  go_enter Try.func39, Try.ntmps39
  go_wp2_with (go_at_call 46; refine h.mono ?_; rintro e w' ⟨rfl, hB⟩)
  go_ret
  exact ⟨rfl, hB⟩

theorem eval_order (o a b r : Int) (w : World) (h5 : 5 ≤ o) (h10 : 10 ≤ o) (h17 : o < 17) (h : Calls Try.prog 47 #[.int .i64 o, .int .i64 a, .int .i64 b] w fun e w' => e = .returned (.int .i64 r) ∧ Below w.heap.size w w') :
    Calls Try.prog 39 #[.int .i64 o, .int .i64 a, .int .i64 b] w fun e w' => e = .returned (.int .i64 r) ∧ Below w.heap.size w w' := by
  go_enter Try.func39, Try.ntmps39
  go_wp2_with (go_at_call 47; refine h.mono ?_; rintro e w' ⟨rfl, hB⟩)
  go_ret
  exact ⟨rfl, hB⟩

theorem eval_both (o a b r : Int) (w : World) (h5 : 5 ≤ o) (h10 : 10 ≤ o) (h17 : 17 ≤ o) (h : Calls Try.prog 48 #[.int .i64 o, .int .i64 a, .int .i64 b] w fun e w' => e = .returned (.int .i64 r) ∧ Below w.heap.size w w') :
    Calls Try.prog 39 #[.int .i64 o, .int .i64 a, .int .i64 b] w fun e w' => e = .returned (.int .i64 r) ∧ Below w.heap.size w w' := by
  go_enter Try.func39, Try.ntmps39
  go_wp2_with (go_at_call 48; refine h.mono ?_; rintro e w' ⟨rfl, hB⟩)
  go_ret
  exact ⟨rfl, hB⟩

/-- calc.Eval, of any operator. -/
theorem eval_any (o a b : Int) (w : World) (hw : (Lit.int .i64 o).wf = true) : Calls Try.prog 39 #[.int .i64 o, .int .i64 a, .int .i64 b] w fun e w' => e = .returned (.int .i64 (ev o a b)) ∧ Below w.heap.size w w' := by
  by_cases h0 : o = 0
  · subst h0
    exact eval_sum 0 a b _ w (by omega) (sum_0 a b w)
  by_cases h1 : o = 1
  · subst h1
    exact eval_sum 1 a b _ w (by omega) (sum_1 a b w)
  by_cases h2 : o = 2
  · subst h2
    exact eval_sum 2 a b _ w (by omega) (sum_2 a b w)
  by_cases h3 : o = 3
  · subst h3
    exact eval_sum 3 a b _ w (by omega) (sum_3 a b w)
  by_cases h4 : o = 4
  · subst h4
    exact eval_sum 4 a b _ w (by omega) (sum_4 a b w)
  by_cases h5 : o = 5
  · subst h5
    exact eval_bitwise 5 a b _ w (by omega) (by omega) (bitwise_5 a b w)
  by_cases h6 : o = 6
  · subst h6
    exact eval_bitwise 6 a b _ w (by omega) (by omega) (bitwise_6 a b w)
  by_cases h7 : o = 7
  · subst h7
    exact eval_bitwise 7 a b _ w (by omega) (by omega) (bitwise_7 a b w)
  by_cases h8 : o = 8
  · subst h8
    exact eval_bitwise 8 a b _ w (by omega) (by omega) (bitwise_8 a b w)
  by_cases h9 : o = 9
  · subst h9
    exact eval_bitwise 9 a b _ w (by omega) (by omega) (bitwise_9 a b w)
  by_cases h10 : o = 10
  · subst h10
    exact eval_order 10 a b _ w (by omega) (by omega) (by omega) (order_10 a b w)
  by_cases h11 : o = 11
  · subst h11
    exact eval_order 11 a b _ w (by omega) (by omega) (by omega) (order_11 a b w)
  by_cases h12 : o = 12
  · subst h12
    exact eval_order 12 a b _ w (by omega) (by omega) (by omega) (order_12 a b w)
  by_cases h13 : o = 13
  · subst h13
    exact eval_order 13 a b _ w (by omega) (by omega) (by omega) (order_13 a b w)
  by_cases h14 : o = 14
  · subst h14
    exact eval_order 14 a b _ w (by omega) (by omega) (by omega) (order_14 a b w)
  by_cases h15 : o = 15
  · subst h15
    exact eval_order 15 a b _ w (by omega) (by omega) (by omega) (order_15 a b w)
  by_cases h16 : o = 16
  · subst h16
    exact eval_order 16 a b _ w (by omega) (by omega) (by omega) (order_16 a b w)
  by_cases h17 : o = 17
  · subst h17
    exact eval_both 17 a b _ w (by omega) (by omega) (by omega) (both_17 a b w)
  by_cases h18 : o = 18
  · subst h18
    exact eval_both 18 a b _ w (by omega) (by omega) (by omega) (both_18 a b w)
  have hz : ev o a b = 0 := by simp [ev, h0, h1, h2, h3, h4, h5, h6, h7, h8, h9, h10, h11, h12, h13, h14, h15, h16, h17, h18]
  rw [hz]
  by_cases k5 : o < 5
  · exact eval_sum o a b 0 w k5 (sum_none o a b w hw h0 h1 h2 h3 h4)
  by_cases k10 : o < 10
  · exact eval_bitwise o a b 0 w (by omega) k10 (bitwise_none o a b w hw h5 h6 h7 h8 h9)
  by_cases k17 : o < 17
  · exact eval_order o a b 0 w (by omega) (by omega) k17 (order_none o a b w hw h10 h11 h12 h13 h14 h15 h16)
  exact eval_both o a b 0 w (by omega) (by omega) (by omega) (both_none o a b w hw h17 h18)
end Go.Proofs.Ytnmalhjhfddjpaa
