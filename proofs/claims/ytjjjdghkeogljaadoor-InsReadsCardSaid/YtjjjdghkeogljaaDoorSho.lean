/- An instruction's text: ins.digits, ins.register, ins.operator, ins.told, ins.Show. -/
import Derived.Test.YtjjjdghkeogljaaDoorRight
import Derived.Test.YtjjjdghkeogljaaDoorRnI
namespace Go.Proofs.YtjjjdghkeogljaaDoor
set_option linter.unusedSimpArgs false
set_option linter.unusedVariables false
open Go Go.RowKit

/-- The numbers are such as there are. -/
def In6 (n : Int) : Prop := -9223372036854775808 ≤ n ∧ n ≤ 9223372036854775807
def Ok6 (x : Ic) : Prop := In6 x.k ∧ In6 x.o ∧ In6 x.d ∧ In6 x.a ∧ In6 x.b ∧ In6 x.n ∧ In6 x.t
theorem dig_size {n : Int} (h : In6 n) : (dig n).size ≤ 20 ∧ 1 ≤ (dig n).size := by
  obtain ⟨h0, h1⟩ := h
  by_cases hn : n < 0
  · rw [dig_neg hn]
    have := dec_len 18 n.natAbs (by omega)
    show (45 :: Lib.decDigits n.natAbs).length ≤ 20 ∧ 1 ≤ (45 :: Lib.decDigits n.natAbs).length
    simp only [List.length_cons]
    omega
  · obtain ⟨u, rfl⟩ := Int.eq_ofNat_of_zero_le (show 0 ≤ n by omega)
    rw [dig_nat]
    have := dec_len 18 u (by omega)
    obtain ⟨c, r, e, _⟩ := dec_head u
    show (Lib.decDigits u).length ≤ 20 ∧ 1 ≤ (Lib.decDigits u).length
    refine ⟨by omega, ?_⟩
    rw [e]
    simp
theorem idigits_any (n : Int) (w : World) (L : Hid (Laid w)) (h : Hid (In6 n)) : Calls Tryd.prog 36 #[.int .i64 n] w fun e w' => e = .returned (.string (dig n)) ∧ Below w.heap.size w w' := by
  obtain ⟨h0, h1⟩ := h.out
  go_enter Tryd.func36, Tryd.ntmps36
  go_wp2_with (go_at_call 44; (with_reducible refine (digits_any n _ L h0 h1).mono ?_); rintro e w' ⟨rfl, hb⟩)
  go_ret
  exact ⟨rfl, hb⟩
def regT (n : Int) : ByteArray := ⟨#[114]⟩ ++ dig n
theorem reg_any (n : Int) (w : World) (L : Hid (Laid w)) (h : Hid (In6 n)) : Calls Tryd.prog 42 #[.int .i64 n] w fun e w' => e = .returned (.string (regT n)) ∧ Below w.heap.size w w' := by
  have hs := (dig_size h.out).1
  go_enter Tryd.func42, Tryd.ntmps42
  go_wp2_with (go_at_call 36; (with_reducible refine (idigits_any n _ L h).mono ?_); rintro e w' ⟨rfl, hb⟩)
  go_ret
  exact ⟨rfl, hb⟩
def oprT (o : Int) : ByteArray := if (sgnZ o).toList.isEmpty then ⟨#[98, 101, 108, 111, 119]⟩ else sgnZ o
theorem opr_any (o : Int) (w : World) (L : Hid (Laid w)) : Calls Tryd.prog 43 #[.int .i64 o] w fun e w' => e = .returned (.string (oprT o)) ∧ Below w.heap.size w w' := by
  obtain ⟨g, hg⟩ : ∃ g, sgnZ o = g := ⟨_, rfl⟩
  have hq : ∀ W, Table W → Calls Tryd.prog 54 #[.int .i64 o] W fun e w' => e = .returned (.string g) ∧ W = w' := fun W T => hg ▸ sign_any o W T
  have HQ := Lib.hid hq
  cases ht : g.toList.isEmpty
  · have e : oprT o = g := by unfold oprT; rw [hg, ht]; rfl
    rw [e]
    clear hg hq e
    go_enter Tryd.func43, Tryd.ntmps43
    go_wp2_with (go_at_call 54; (with_reducible refine (HQ.out _ L.out.tab).mono ?_); rintro e w' ⟨rfl, rfl⟩)
    go_ret
    exact ⟨rfl, Below.refl _ _⟩
  · have e : oprT o = ⟨#[98, 101, 108, 111, 119]⟩ := by unfold oprT; rw [hg, ht]; rfl
    rw [e]
    clear hg hq e
    go_enter Tryd.func43, Tryd.ntmps43
    go_wp2_with (go_at_call 54; (with_reducible refine (HQ.out _ L.out.tab).mono ?_); rintro e w' ⟨rfl, rfl⟩)
    go_ret
    exact ⟨rfl, Below.refl _ _⟩

/-- A part's text. -/
def toldB (x : Ic) (p : Int) : ByteArray :=
  if p = 1 then regT x.d else if p = 2 then regT x.a else if p = 3 then (if x.a < 0 then ⟨#[]⟩ else regT x.a) else if p = 4 then regT x.b else if p = 5 then oprT x.o
  else if p = 6 then dig x.n else if p = 7 then dig x.n else if p = 8 then dig x.n else if p = 9 then dig x.n else if p = 10 then dig x.t else ⟨#[]⟩
theorem told_0 (x : Ic) (w : World) (L : Hid (Laid w)) (h : Hid (Ok6 x)) : Calls Tryd.prog 29 #[.agg #[.int .i64 x.k, .int .i64 x.o, .int .i64 x.d, .int .i64 x.a, .int .i64 x.b, .int .i64 x.n, .int .i64 x.t], .int .i64 0] w fun e w' => e = .returned (.string (⟨#[]⟩)) ∧ Below w.heap.size w w' := by
  go_enter Tryd.func29, Tryd.ntmps29
  go_wp2
  go_ret
  exact ⟨rfl, below1 _ _⟩
theorem told_1 (x : Ic) (w : World) (L : Hid (Laid w)) (h : Hid (Ok6 x)) : Calls Tryd.prog 29 #[.agg #[.int .i64 x.k, .int .i64 x.o, .int .i64 x.d, .int .i64 x.a, .int .i64 x.b, .int .i64 x.n, .int .i64 x.t], .int .i64 1] w fun e w' => e = .returned (.string (regT x.d)) ∧ Below w.heap.size w w' := by
  go_enter Tryd.func29, Tryd.ntmps29
  go_wp2_with (go_at_call 42; refine (reg_any _ _ (Lib.hid (L.out.below (below1 _ _))) (Lib.hid h.out.2.2.1)).mono ?_; rintro e w' ⟨rfl, hb⟩; have HB := Lib.hid hb; clear hb)
  go_ret
  exact ⟨rfl, below_ch (below1 _ _) HB.out⟩
theorem told_2 (x : Ic) (w : World) (L : Hid (Laid w)) (h : Hid (Ok6 x)) : Calls Tryd.prog 29 #[.agg #[.int .i64 x.k, .int .i64 x.o, .int .i64 x.d, .int .i64 x.a, .int .i64 x.b, .int .i64 x.n, .int .i64 x.t], .int .i64 2] w fun e w' => e = .returned (.string (regT x.a)) ∧ Below w.heap.size w w' := by
  go_enter Tryd.func29, Tryd.ntmps29
  go_wp2_with (go_at_call 42; refine (reg_any _ _ (Lib.hid (L.out.below (below1 _ _))) (Lib.hid h.out.2.2.2.1)).mono ?_; rintro e w' ⟨rfl, hb⟩; have HB := Lib.hid hb; clear hb)
  go_ret
  exact ⟨rfl, below_ch (below1 _ _) HB.out⟩
theorem told_3n (x : Ic) (w : World) (L : Hid (Laid w)) (h : Hid (Ok6 x)) (ha : decide (x.a < 0) = true) : Calls Tryd.prog 29 #[.agg #[.int .i64 x.k, .int .i64 x.o, .int .i64 x.d, .int .i64 x.a, .int .i64 x.b, .int .i64 x.n, .int .i64 x.t], .int .i64 3] w fun e w' => e = .returned (.string (⟨#[]⟩)) ∧ Below w.heap.size w w' := by
  go_enter Tryd.func29, Tryd.ntmps29
  go_wp2
  go_ret
  exact ⟨rfl, below1 _ _⟩
theorem told_3p (x : Ic) (w : World) (L : Hid (Laid w)) (h : Hid (Ok6 x)) (ha : decide (x.a < 0) = false) : Calls Tryd.prog 29 #[.agg #[.int .i64 x.k, .int .i64 x.o, .int .i64 x.d, .int .i64 x.a, .int .i64 x.b, .int .i64 x.n, .int .i64 x.t], .int .i64 3] w fun e w' => e = .returned (.string (regT x.a)) ∧ Below w.heap.size w w' := by
  go_enter Tryd.func29, Tryd.ntmps29
  go_wp2_with (go_at_call 42; refine (reg_any _ _ (Lib.hid (L.out.below (below1 _ _))) (Lib.hid h.out.2.2.2.1)).mono ?_; rintro e w' ⟨rfl, hb⟩; have HB := Lib.hid hb; clear hb)
  go_ret
  exact ⟨rfl, below_ch (below1 _ _) HB.out⟩
theorem told_4 (x : Ic) (w : World) (L : Hid (Laid w)) (h : Hid (Ok6 x)) : Calls Tryd.prog 29 #[.agg #[.int .i64 x.k, .int .i64 x.o, .int .i64 x.d, .int .i64 x.a, .int .i64 x.b, .int .i64 x.n, .int .i64 x.t], .int .i64 4] w fun e w' => e = .returned (.string (regT x.b)) ∧ Below w.heap.size w w' := by
  go_enter Tryd.func29, Tryd.ntmps29
  go_wp2_with (go_at_call 42; refine (reg_any _ _ (Lib.hid (L.out.below (below1 _ _))) (Lib.hid h.out.2.2.2.2.1)).mono ?_; rintro e w' ⟨rfl, hb⟩; have HB := Lib.hid hb; clear hb)
  go_ret
  exact ⟨rfl, below_ch (below1 _ _) HB.out⟩
theorem told_5 (x : Ic) (w : World) (L : Hid (Laid w)) (h : Hid (Ok6 x)) : Calls Tryd.prog 29 #[.agg #[.int .i64 x.k, .int .i64 x.o, .int .i64 x.d, .int .i64 x.a, .int .i64 x.b, .int .i64 x.n, .int .i64 x.t], .int .i64 5] w fun e w' => e = .returned (.string (oprT x.o)) ∧ Below w.heap.size w w' := by
  go_enter Tryd.func29, Tryd.ntmps29
  go_wp2_with (go_at_call 43; refine (opr_any _ _ (Lib.hid (L.out.below (below1 _ _)))).mono ?_; rintro e w' ⟨rfl, hb⟩; have HB := Lib.hid hb; clear hb)
  go_ret
  exact ⟨rfl, below_ch (below1 _ _) HB.out⟩
theorem told_6 (x : Ic) (w : World) (L : Hid (Laid w)) (h : Hid (Ok6 x)) : Calls Tryd.prog 29 #[.agg #[.int .i64 x.k, .int .i64 x.o, .int .i64 x.d, .int .i64 x.a, .int .i64 x.b, .int .i64 x.n, .int .i64 x.t], .int .i64 6] w fun e w' => e = .returned (.string (dig x.n)) ∧ Below w.heap.size w w' := by
  go_enter Tryd.func29, Tryd.ntmps29
  go_wp2_with (go_at_call 44; refine (digits_any _ _ (Lib.hid (L.out.below (below1 _ _))) h.out.2.2.2.2.2.1.1 h.out.2.2.2.2.2.1.2).mono ?_; rintro e w' ⟨rfl, hb⟩; have HB := Lib.hid hb; clear hb)
  go_ret
  exact ⟨rfl, below_ch (below1 _ _) HB.out⟩
theorem told_7 (x : Ic) (w : World) (L : Hid (Laid w)) (h : Hid (Ok6 x)) : Calls Tryd.prog 29 #[.agg #[.int .i64 x.k, .int .i64 x.o, .int .i64 x.d, .int .i64 x.a, .int .i64 x.b, .int .i64 x.n, .int .i64 x.t], .int .i64 7] w fun e w' => e = .returned (.string (dig x.n)) ∧ Below w.heap.size w w' := by
  go_enter Tryd.func29, Tryd.ntmps29
  go_wp2_with (go_at_call 44; refine (digits_any _ _ (Lib.hid (L.out.below (below1 _ _))) h.out.2.2.2.2.2.1.1 h.out.2.2.2.2.2.1.2).mono ?_; rintro e w' ⟨rfl, hb⟩; have HB := Lib.hid hb; clear hb)
  go_ret
  exact ⟨rfl, below_ch (below1 _ _) HB.out⟩
theorem told_8 (x : Ic) (w : World) (L : Hid (Laid w)) (h : Hid (Ok6 x)) : Calls Tryd.prog 29 #[.agg #[.int .i64 x.k, .int .i64 x.o, .int .i64 x.d, .int .i64 x.a, .int .i64 x.b, .int .i64 x.n, .int .i64 x.t], .int .i64 8] w fun e w' => e = .returned (.string (dig x.n)) ∧ Below w.heap.size w w' := by
  go_enter Tryd.func29, Tryd.ntmps29
  go_wp2_with (go_at_call 44; refine (digits_any _ _ (Lib.hid (L.out.below (below1 _ _))) h.out.2.2.2.2.2.1.1 h.out.2.2.2.2.2.1.2).mono ?_; rintro e w' ⟨rfl, hb⟩; have HB := Lib.hid hb; clear hb)
  go_ret
  exact ⟨rfl, below_ch (below1 _ _) HB.out⟩
theorem told_9 (x : Ic) (w : World) (L : Hid (Laid w)) (h : Hid (Ok6 x)) : Calls Tryd.prog 29 #[.agg #[.int .i64 x.k, .int .i64 x.o, .int .i64 x.d, .int .i64 x.a, .int .i64 x.b, .int .i64 x.n, .int .i64 x.t], .int .i64 9] w fun e w' => e = .returned (.string (dig x.n)) ∧ Below w.heap.size w w' := by
  go_enter Tryd.func29, Tryd.ntmps29
  go_wp2_with (go_at_call 44; refine (digits_any _ _ (Lib.hid (L.out.below (below1 _ _))) h.out.2.2.2.2.2.1.1 h.out.2.2.2.2.2.1.2).mono ?_; rintro e w' ⟨rfl, hb⟩; have HB := Lib.hid hb; clear hb)
  go_ret
  exact ⟨rfl, below_ch (below1 _ _) HB.out⟩
theorem told_10 (x : Ic) (w : World) (L : Hid (Laid w)) (h : Hid (Ok6 x)) : Calls Tryd.prog 29 #[.agg #[.int .i64 x.k, .int .i64 x.o, .int .i64 x.d, .int .i64 x.a, .int .i64 x.b, .int .i64 x.n, .int .i64 x.t], .int .i64 10] w fun e w' => e = .returned (.string (dig x.t)) ∧ Below w.heap.size w w' := by
  go_enter Tryd.func29, Tryd.ntmps29
  go_wp2_with (go_at_call 36; refine (idigits_any _ _ (Lib.hid (L.out.below (below1 _ _))) (Lib.hid h.out.2.2.2.2.2.2)).mono ?_; rintro e w' ⟨rfl, hb⟩; have HB := Lib.hid hb; clear hb)
  go_ret
  exact ⟨rfl, below_ch (below1 _ _) HB.out⟩
theorem told_any (x : Ic) (p : Int) (w : World) (h0 : 0 ≤ p ∧ p ≤ 10) (L : Hid (Laid w)) (h : Hid (Ok6 x)) : Calls Tryd.prog 29 #[.agg #[.int .i64 x.k, .int .i64 x.o, .int .i64 x.d, .int .i64 x.a, .int .i64 x.b, .int .i64 x.n, .int .i64 x.t], .int .i64 p] w fun e w' => e = .returned (.string (toldB x p)) ∧ Below w.heap.size w w' := by
  rcases part_cases h0.1 h0.2 with rfl | rfl | rfl | rfl | rfl | rfl | rfl | rfl | rfl | rfl | rfl
  · exact told_0 x w L h
  · exact told_1 x w L h
  · exact told_2 x w L h
  · cases ha : decide (x.a < 0)
    · have e : toldB x 3 = regT x.a := by unfold toldB; simp at ha; simp [show ¬ x.a < 0 by omega]
      rw [e]
      exact told_3p x w L h ha
    · have e : toldB x 3 = ⟨#[]⟩ := by unfold toldB; simp at ha; simp [ha]
      rw [e]
      exact told_3n x w L h ha
  · exact told_4 x w L h
  · exact told_5 x w L h
  · exact told_6 x w L h
  · exact told_7 x w L h
  · exact told_8 x w L h
  · exact told_9 x w L h
  · exact told_10 x w L h
theorem told_is {x : Ic} {p : Int} {t : ByteArray} (e : toldB x p = t) (h0 : 0 ≤ p ∧ p ≤ 10) (h : Hid (Ok6 x)) (w : World) (L : Hid (Laid w)) : Calls Tryd.prog 29 #[.agg #[.int .i64 x.k, .int .i64 x.o, .int .i64 x.d, .int .i64 x.a, .int .i64 x.b, .int .i64 x.n, .int .i64 x.t], .int .i64 p] w fun e w' => e = .returned (.string t) ∧ Below w.heap.size w w' :=
  e ▸ told_any x p w h0 L h
theorem reg_size {n : Int} (h : In6 n) : (regT n).size ≤ 21 := by
  have := (dig_size h).1
  unfold regT
  rw [ByteArray.size_append]
  show 1 + _ ≤ 21
  omega
theorem opr_size (o : Int) : (oprT o).size ≤ 5 := by
  unfold oprT
  split
  · exact Nat.le_refl _
  · unfold sgnZ
    split
    · rename_i h
      have hs : ∀ n, n < 19 → (sgn n).size ≤ 2 := by decide
      have := hs o.toNat (by omega)
      omega
    · exact Nat.zero_le _
theorem told_size {x : Ic} {p : Int} (h : Ok6 x) : (toldB x p).size ≤ 21 := by
  obtain ⟨_, _, h2, h3, h4, h5, h6⟩ := h
  have n5 := (dig_size h5).1
  have n6 := (dig_size h6).1
  have r2 := reg_size h2
  have r3 := reg_size h3
  have r4 := reg_size h4
  have o1 := opr_size x.o
  have z : (⟨#[]⟩ : ByteArray).size = 0 := rfl
  unfold toldB
  split
  · exact r2
  split
  · exact r3
  split
  · split
    · omega
    · exact r3
  split
  · exact r4
  split
  · omega
  split
  · omega
  split
  · omega
  split
  · omega
  split
  · omega
  split
  · omega
  omega

/-- The text of a kind's parts ahead of one. -/
def shwB (x : Ic) (kk : Nat) : Nat → ByteArray
  | 0 => nam kk
  | j + 1 => if (toldB x (prt kk j)).toList.isEmpty then shwB x kk j else shwB x kk j ++ (⟨#[32]⟩ ++ toldB x (prt kk j))
def showM (x : Ic) : ByteArray := if 0 ≤ x.k ∧ x.k ≤ 13 then shwB x x.k.toNat 4 else ⟨#[]⟩
theorem nam_size (k : Nat) (h : k < 14) : (nam k).size ≤ 5 := by
  have : ∀ k, k < 14 → (nam k).size ≤ 5 := by decide
  exact this k h
theorem shw_size {x : Ic} (h : Ok6 x) {kk : Nat} (hk : kk < 14) (j : Nat) : (shwB x kk j).size ≤ 5 + 22 * j := by
  induction j with
  | zero => exact nam_size kk hk
  | succ j ih =>
    have := told_size (p := prt kk j) h
    unfold shwB
    split
    · omega
    · rw [ByteArray.size_append, ByteArray.size_append]
      have z : (⟨#[32]⟩ : ByteArray).size = 1 := rfl
      omega
theorem show_size {x : Ic} (h : Ok6 x) : (showM x).size ≤ 93 := by
  unfold showM
  split
  · have := shw_size h (kk := x.k.toNat) (by omega) 4
    omega
  · exact Nat.zero_le _

set_option maxRecDepth 100000 in
theorem show_un (x : Ic) (w : World) (h : x.k < 0 ∨ 13 < x.k) : Calls Tryd.prog 15 #[.agg #[.int .i64 x.k, .int .i64 x.o, .int .i64 x.d, .int .i64 x.a, .int .i64 x.b, .int .i64 x.n, .int .i64 x.t]] w fun e w' => e = .returned (.string ⟨#[]⟩) ∧ Below w.heap.size w w' := by
  have H := Lib.hid h
  clear h
  go_enter Tryd.func15, Tryd.ntmps15
  go_wp2_with (go_at_call 21; (with_reducible refine (kn_f _ _ H.out).mono ?_); rintro e w' ⟨rfl, rfl⟩)
  go_ret
  exact ⟨rfl, below1 _ _⟩

set_option maxRecDepth 100000 in
set_option maxHeartbeats 2000000 in
theorem show_kn (x : Ic) (w : World) (hk0 : 0 ≤ x.k) (hk1 : x.k ≤ 13) (L : Hid (Laid w)) (h : Hid (Ok6 x)) : Calls Tryd.prog 15 #[.agg #[.int .i64 x.k, .int .i64 x.o, .int .i64 x.d, .int .i64 x.a, .int .i64 x.b, .int .i64 x.n, .int .i64 x.t]] w fun e w' => e = .returned (.string (shwB x x.k.toNat 4)) ∧ Below w.heap.size w w' := by
  have hk : x.k.toNat < 14 := by omega
  have T := Lib.hid L.out.kin
  have c0 := T.out.part x.k.toNat 0 hk (by omega)
  have c1 := T.out.part x.k.toNat 1 hk (by omega)
  have c2 := T.out.part x.k.toNat 2 hk (by omega)
  have c3 := T.out.part x.k.toNat 3 hk (by omega)
  have cn := T.out.name x.k.toNat hk
  have hsz := T.out.size
  go_enter Tryd.func15, Tryd.ntmps15
  go_wp2_with (go_at_call 21; (with_reducible refine (kn_t _ _ (by omega) (by omega)).mono ?_); rintro e w' ⟨rfl, rfl⟩)
  clear c0 c1 c2 c3 cn hsz
  go_loopw [3, 5, 6, 21] (fun s _ _ i wr => ∃ (j : Nat) (t : ByteArray), i = .int .i64 j ∧ s = .string t ∧ j ≤ 4 ∧ t.size ≤ 100 ∧ Hid (shwB x x.k.toNat j = t) ∧ Hid (Below w.heap.size w wr) ∧ Hid (Ib wr w.heap.size (.int .i64 x.k) (.int .i64 x.o) (.int .i64 x.d) (.int .i64 x.a) (.int .i64 x.b) (.int .i64 x.n) (.int .i64 x.t))) (fun _ _ _ i _ => 4 - (intOf i).toNat)
  case atStart =>
    refine ⟨0, _, rfl, rfl, by omega, ?_, Lib.hid rfl, Lib.hid (below1 _ _), Lib.hid (Ib.new rfl _ _ _ _ _ _ _)⟩
    have := nam_size _ hk
    omega
  case round =>
    obtain ⟨j, t, rfl, rfl, hj, hts, HE, HB, HX⟩ := hrel
    by_cases hlt : j < 4
    · have hi := idx4 (prt x.k.toNat) j hlt
      have hpr := prt_range x.k.toNat j hk hlt
      obtain ⟨p, hp⟩ : ∃ p, prt x.k.toNat j = p := ⟨_, rfl⟩
      rw [hp] at hi hpr
      have HP := Lib.hid hp
      have HPR := Lib.hid hpr
      have hq := told_size (p := p) h.out
      have HS := Lib.hid (shw_size h.out hk (j + 1))
      obtain ⟨q, hq2⟩ : ∃ q, toldB x p = q := ⟨_, rfl⟩
      rw [hq2] at hq
      have HQ := Lib.hid hq2
      clear hp hpr hq2
      obtain ⟨bx, x0, x1, x2, x3, x4, x5, x6, -⟩ := HX.out.facts
      cases he : q.toList.isEmpty
      · have he2 : (!q.toList.isEmpty) = true := by rw [he]; rfl
        have HT : Hid (shwB x x.k.toNat (j + 1) = t ++ (⟨#[32]⟩ ++ q)) := Lib.hid (by
          have e : shwB x x.k.toNat (j + 1) = if (toldB x (prt x.k.toNat j)).toList.isEmpty then shwB x x.k.toNat j else shwB x x.k.toNat j ++ (⟨#[32]⟩ ++ toldB x (prt x.k.toNat j)) := rfl
          rw [e, HP.out, HQ.out, he, HE.out]
          rfl)
        go_wp2_with (go_at_call 29; (with_reducible refine (told_is HQ.out HPR.out h _ (Lib.hid (L.out.below HB.out))).mono ?_); rintro e1 w1 ⟨rfl, hb1⟩; have HB1 := Lib.hid hb1; clear hb1)
        go_roundw
        case rel => exact ⟨j + 1, _, by go_num, rfl, by omega, (by have := HS.out; rw [HT.out] at this; omega), HT, Lib.hid (below_ch HB.out HB1.out), Lib.hid (HX.out.stay HB1.out)⟩
        case measure => simp [intOf]; omega
      · have he2 : (!q.toList.isEmpty) = false := by rw [he]; rfl
        have HT : Hid (shwB x x.k.toNat (j + 1) = t) := Lib.hid (by
          have e : shwB x x.k.toNat (j + 1) = if (toldB x (prt x.k.toNat j)).toList.isEmpty then shwB x x.k.toNat j else shwB x x.k.toNat j ++ (⟨#[32]⟩ ++ toldB x (prt x.k.toNat j)) := rfl
          rw [e, HP.out, HQ.out, he, HE.out]
          rfl)
        go_wp2_with (go_at_call 29; (with_reducible refine (told_is HQ.out HPR.out h _ (Lib.hid (L.out.below HB.out))).mono ?_); rintro e1 w1 ⟨rfl, hb1⟩; have HB1 := Lib.hid hb1; clear hb1)
        go_roundw
        case rel => exact ⟨j + 1, _, by go_num, rfl, by omega, hts, HT, Lib.hid (below_ch HB.out HB1.out), Lib.hid (HX.out.stay HB1.out)⟩
        case measure => simp [intOf]; omega
    · obtain rfl : j = 4 := by omega
      go_wp2
      go_ret
      exact ⟨ret_str HE.out.symm, HB.out⟩
/-- ins.Show, of any instruction. -/
theorem show_any (x : Ic) (w : World) (L : Hid (Laid w)) (h : Hid (Ok6 x)) : Calls Tryd.prog 15 #[.agg #[.int .i64 x.k, .int .i64 x.o, .int .i64 x.d, .int .i64 x.a, .int .i64 x.b, .int .i64 x.n, .int .i64 x.t]] w fun e w' => e = .returned (.string (showM x)) ∧ Below w.heap.size w w' := by
  by_cases hk : 0 ≤ x.k ∧ x.k ≤ 13
  · have e : showM x = shwB x x.k.toNat 4 := if_pos hk
    rw [e]
    exact show_kn x w hk.1 hk.2 L h
  · have e : showM x = ⟨#[]⟩ := if_neg hk
    rw [e]
    exact show_un x w (by omega)
end Go.Proofs.YtjjjdghkeogljaaDoor
