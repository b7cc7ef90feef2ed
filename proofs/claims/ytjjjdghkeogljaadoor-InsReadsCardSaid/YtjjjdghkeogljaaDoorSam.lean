/- Alike texts are of alike instructions, where they may be. -/
import Derived.Test.YtjjjdghkeogljaaDoorStm
import Derived.Test.YtjjjdghkeogljaaDoorRsA
namespace Go.Proofs.YtjjjdghkeogljaaDoor
set_option linter.unusedSimpArgs false
set_option linter.unusedVariables false
open Go Go.RowKit

theorem dec_all (u : Nat) : ∀ c ∈ Lib.decDigits u, 48 ≤ c.toNat ∧ c.toNat ≤ 57 := by
  induction u using Nat.strongRecOn with
  | _ u ih =>
    intro c hc
    by_cases h : u < 10
    · rw [dec_small h, List.mem_singleton] at hc
      subst hc
      rw [byte_of h]
      omega
    · rw [dec_step h, List.mem_append] at hc
      rcases hc with hc | hc
      · exact ih (u / 10) (by omega) c hc
      · rw [List.mem_singleton] at hc
        subst hc
        rw [byte_of (Nat.mod_lt _ (by omega))]
        omega
theorem byte_inj {a b : Nat} (ha : a < 10) (hb : b < 10) (e : [UInt8.ofNat (48 + a)] = [UInt8.ofNat (48 + b)]) : a = b := by
  have h := congrArg UInt8.toNat (List.cons.inj e).1
  rw [byte_of ha, byte_of hb] at h
  omega
theorem dec_some (u : Nat) : 1 ≤ (Lib.decDigits u).length := by
  obtain ⟨c, r, e, -, -⟩ := dec_head u
  rw [e]
  simp
theorem dec_inj (u : Nat) : ∀ v, Lib.decDigits u = Lib.decDigits v → u = v := by
  induction u using Nat.strongRecOn with
  | _ u ih =>
    intro v e
    by_cases h : u < 10
    · by_cases h' : v < 10
      · rw [dec_small h, dec_small h'] at e
        exact byte_inj h h' e
      · rw [dec_small h, dec_step h'] at e
        have := congrArg List.length e
        have h2 := dec_some (v / 10)
        simp at this
        rw [this] at h2
        simp at h2
    · by_cases h' : v < 10
      · rw [dec_step h, dec_small h'] at e
        have := congrArg List.length e
        have h2 := dec_some (u / 10)
        simp at this
        rw [this] at h2
        simp at h2
      · rw [dec_step h, dec_step h'] at e
        obtain ⟨e1, e2⟩ := List.append_inj' e rfl
        have h1 := ih (u / 10) (by omega) _ e1
        have h2 := byte_inj (Nat.mod_lt _ (by omega)) (Nat.mod_lt _ (by omega)) e2
        omega
theorem digL_pos {n : Int} (h : 0 ≤ n) : (dig n).data.toList = Lib.decDigits n.toNat := by
  obtain ⟨u, rfl⟩ := Int.eq_ofNat_of_zero_le h
  rw [dig_nat]
  rfl
theorem digL_neg {n : Int} (h : n < 0) : (dig n).data.toList = 45 :: Lib.decDigits n.natAbs := by
  rw [dig_neg h]
theorem dec_neg {u : Nat} {r : List UInt8} (e : Lib.decDigits u = 45 :: r) : False := by
  have := (dec_all u 45 (by rw [e]; simp)).1
  exact absurd this (by decide)
theorem digL_inj {a b : Int} : (dig a).data.toList = (dig b).data.toList ↔ a = b := by
  constructor
  · intro e
    by_cases ha : a < 0
    · by_cases hb : b < 0
      · rw [digL_neg ha, digL_neg hb] at e
        have := dec_inj _ _ (List.cons.inj e).2
        omega
      · rw [digL_neg ha, digL_pos (by omega)] at e
        exact (dec_neg e.symm).elim
    · by_cases hb : b < 0
      · rw [digL_pos (by omega), digL_neg hb] at e
        exact (dec_neg e).elim
      · rw [digL_pos (by omega), digL_pos (by omega)] at e
        have := dec_inj _ _ e
        omega
  · intro e
    rw [e]
def Nb (w : List UInt8) : Prop := ∀ c ∈ w, c ≠ 32
theorem nb_dig (n : Int) : Nb (dig n).data.toList := by
  intro c hc e
  subst e
  by_cases h : n < 0
  · rw [digL_neg h] at hc
    rcases List.mem_cons.1 hc with hc | hc
    · exact absurd hc (by decide)
    · exact absurd (dec_all _ _ hc).1 (by decide)
  · rw [digL_pos (by omega)] at hc
    exact absurd (dec_all _ _ hc).1 (by decide)
theorem nb_reg (n : Int) : Nb (114 :: (dig n).data.toList) := by
  intro c hc
  rcases List.mem_cons.1 hc with hc | hc
  · rw [hc]
    decide
  · exact nb_dig n c hc
theorem nb_nam {k : Nat} (h : k < 14) : Nb (nam k).data.toList := by
  have : ∀ k, k < 14 → ((nam k).data.toList.all fun c => c != 32) = true := by decide
  intro c hc
  simpa using List.all_eq_true.1 (this k h) c hc
def oprS (o : Int) : List UInt8 := if (sgnZ o).data.toList.isEmpty then [98, 101, 108, 111, 119] else (sgnZ o).data.toList
theorem opr_l (o : Int) : (oprT o).data.toList = oprS o := by
  unfold oprT oprS
  rw [ByteArray.toList_eq]
  split <;> rfl
theorem nb_opr {o : Int} (h0 : 0 ≤ o) (h1 : o ≤ 18) : Nb (oprT o).data.toList := by
  have : ∀ k, k < 19 → ((oprS (k : Nat)).all fun c => c != 32) = true := by decide
  obtain ⟨u, rfl⟩ := Int.eq_ofNat_of_zero_le h0
  rw [opr_l]
  intro c hc
  simpa using List.all_eq_true.1 (this u (by omega)) c hc
theorem opr_inj {o p : Int} (h0 : 0 ≤ o) (h1 : o ≤ 18) (g0 : 0 ≤ p) (g1 : p ≤ 18) (e : (oprT o).data.toList = (oprT p).data.toList) : o = p := by
  have : ∀ k, k < 19 → ∀ j, j < 19 → oprS (k : Nat) = oprS (j : Nat) → k = j := by decide
  rw [opr_l, opr_l] at e
  obtain ⟨u, rfl⟩ := Int.eq_ofNat_of_zero_le h0
  obtain ⟨v, rfl⟩ := Int.eq_ofNat_of_zero_le g0
  rw [this u (by omega) v (by omega) e]
theorem nam_inj {k j : Nat} (h : k < 14) (g : j < 14) (e : (nam k).data.toList = (nam j).data.toList) : k = j := by
  have : ∀ k, k < 14 → ∀ j, j < 14 → (nam k).data.toList = (nam j).data.toList → k = j := by decide
  exact this k h j g e
def Tw : List (List UInt8) → List UInt8
  | [] => []
  | w :: ws => 32 :: w ++ Tw ws
theorem tw_head (ws : List (List UInt8)) : Tw ws = [] ∨ ∃ r, Tw ws = 32 :: r := by
  cases ws with
  | nil => exact .inl rfl
  | cons w ws => exact .inr ⟨_, rfl⟩
theorem cut : ∀ {w w' s s' : List UInt8}, Nb w → Nb w' → (s = [] ∨ ∃ r, s = 32 :: r) → (s' = [] ∨ ∃ r, s' = 32 :: r) → w ++ s = w' ++ s' → w = w' ∧ s = s' := by
  intro w
  induction w with
  | nil =>
    intro w' s s' h h' hs hs' e
    cases w' with
    | nil => exact ⟨rfl, e⟩
    | cons c r =>
      rcases hs with rfl | ⟨q, rfl⟩
      · cases e
      · exact absurd (List.cons.inj e).1.symm (h' c (by simp))
  | cons c w ih =>
    intro w' s s' h h' hs hs' e
    cases w' with
    | nil =>
      rcases hs' with rfl | ⟨q, rfl⟩
      · cases e
      · exact absurd (List.cons.inj e).1 (h c (by simp))
    | cons c' w' =>
      obtain ⟨e1, e2⟩ := List.cons.inj e
      obtain ⟨e3, e4⟩ := ih (fun x hx => h x (by simp [hx])) (fun x hx => h' x (by simp [hx])) hs hs' e2
      exact ⟨by rw [e1, e3], e4⟩
theorem tw_inj : ∀ {ws ws' : List (List UInt8)}, (∀ w ∈ ws, Nb w) → (∀ w ∈ ws', Nb w) → Tw ws = Tw ws' → ws = ws' := by
  intro ws
  induction ws with
  | nil =>
    intro ws' h h' e
    cases ws' with
    | nil => rfl
    | cons w r => cases e
  | cons w ws ih =>
    intro ws' h h' e
    cases ws' with
    | nil => cases e
    | cons w' r =>
      obtain ⟨e1, e2⟩ := cut (h w (by simp)) (h' w' (by simp)) (tw_head ws) (tw_head r) (List.cons.inj e).2
      rw [e1, ih (fun x hx => h x (by simp [hx])) (fun x hx => h' x (by simp [hx])) e2]
def atW (x : Ic) : List (List UInt8) := if x.a < 0 then [] else [114 :: (dig x.a).data.toList]
def wds (x : Ic) : Nat → List (List UInt8)
  | 0 => [114 :: (dig x.d).data.toList, (dig x.n).data.toList]
  | 1 => [114 :: (dig x.d).data.toList, 114 :: (dig x.a).data.toList]
  | 2 => [114 :: (dig x.d).data.toList, 114 :: (dig x.a).data.toList, (oprT x.o).data.toList, 114 :: (dig x.b).data.toList]
  | 3 => [114 :: (dig x.d).data.toList, 114 :: (dig x.a).data.toList, 114 :: (dig x.b).data.toList]
  | 4 => [114 :: (dig x.d).data.toList, (dig x.n).data.toList] ++ atW x
  | 5 => [(dig x.n).data.toList, 114 :: (dig x.b).data.toList] ++ atW x
  | 6 => [(dig x.t).data.toList]
  | 7 => [114 :: (dig x.a).data.toList, (dig x.t).data.toList]
  | 8 => []
  | 9 => [(dig x.n).data.toList]
  | 10 => [(dig x.n).data.toList]
  | 11 => [114 :: (dig x.a).data.toList]
  | 12 => [(dig x.n).data.toList]
  | 13 => []
  | _ => []
theorem tw_app : ∀ (a b : List (List UInt8)), Tw (a ++ b) = Tw a ++ Tw b := by
  intro a b
  induction a with
  | nil => rfl
  | cons w a ih => simp [Tw, ih]
theorem at_w (x : Ic) : (atT x).data.toList = Tw (atW x) := by
  unfold atT atW
  split
  · rfl
  · rw [cat_list]
    simp [Tw]
theorem show_w0 {x : Ic} (hk : x.k = 0) (h : Ok6 x) : (showM x).data.toList = (nam 0).data.toList ++ Tw (wds x 0) := by
  rw [show_l0 hk h, show (nam 0).data.toList = [115, 101, 116] from rfl]
  simp [wds, Tw]
theorem nb_w0 {x : Ic} (h0 : 0 ≤ x.o) (h1 : x.o ≤ 18) : ∀ w ∈ wds x 0, Nb w := by
  intro w hw
  simp only [wds, List.mem_cons, List.not_mem_nil, or_false] at hw
  rcases hw with rfl | rfl
  all_goals first | exact nb_reg _ | exact nb_dig _ | exact nb_opr h0 h1
theorem same_w0 {x y : Ic} (hx : x.k = 0) (hy : y.k = 0) (px : OneP x 2 60 8 (fld 0) false) (py : OneP y 2 60 8 (fld 0) false) (e : wds x 0 = wds y 0) : x = y := by
  obtain ⟨k, o, d, a, b, n, t⟩ := x
  obtain ⟨k', o', d', a', b', n', t'⟩ := y
  simp only at hx hy
  subst hx hy
  simp [OneP, regB, hasC, fld, fldL, numK] at px py
  simp only [wds, List.cons.injEq, List.cons_append, List.nil_append, true_and, and_true, digL_inj, atW] at e
  simp only [Ic.mk.injEq]
  refine ⟨trivial, ?_, ?_, ?_, ?_, ?_, ?_⟩ <;> omega
theorem show_w1 {x : Ic} (hk : x.k = 1) (h : Ok6 x) : (showM x).data.toList = (nam 1).data.toList ++ Tw (wds x 1) := by
  rw [show_l1 hk h, show (nam 1).data.toList = [109, 111, 118, 101] from rfl]
  simp [wds, Tw]
theorem nb_w1 {x : Ic} (h0 : 0 ≤ x.o) (h1 : x.o ≤ 18) : ∀ w ∈ wds x 1, Nb w := by
  intro w hw
  simp only [wds, List.mem_cons, List.not_mem_nil, or_false] at hw
  rcases hw with rfl | rfl
  all_goals first | exact nb_reg _ | exact nb_dig _ | exact nb_opr h0 h1
theorem same_w1 {x y : Ic} (hx : x.k = 1) (hy : y.k = 1) (px : OneP x 2 60 8 (fld 1) false) (py : OneP y 2 60 8 (fld 1) false) (e : wds x 1 = wds y 1) : x = y := by
  obtain ⟨k, o, d, a, b, n, t⟩ := x
  obtain ⟨k', o', d', a', b', n', t'⟩ := y
  simp only at hx hy
  subst hx hy
  simp [OneP, regB, hasC, fld, fldL, numK] at px py
  simp only [wds, List.cons.injEq, List.cons_append, List.nil_append, true_and, and_true, digL_inj, atW] at e
  simp only [Ic.mk.injEq]
  refine ⟨trivial, ?_, ?_, ?_, ?_, ?_, ?_⟩ <;> omega
theorem show_w2 {x : Ic} (hk : x.k = 2) (h : Ok6 x) : (showM x).data.toList = (nam 2).data.toList ++ Tw (wds x 2) := by
  rw [show_l2 hk h, show (nam 2).data.toList = [99, 97, 108, 99] from rfl]
  simp [wds, Tw]
theorem nb_w2 {x : Ic} (h0 : 0 ≤ x.o) (h1 : x.o ≤ 18) : ∀ w ∈ wds x 2, Nb w := by
  intro w hw
  simp only [wds, List.mem_cons, List.not_mem_nil, or_false] at hw
  rcases hw with rfl | rfl | rfl | rfl
  all_goals first | exact nb_reg _ | exact nb_dig _ | exact nb_opr h0 h1
theorem same_w2 {x y : Ic} (hx : x.k = 2) (hy : y.k = 2) (px : OneP x 2 60 8 (fld 2) false) (py : OneP y 2 60 8 (fld 2) false) (e : wds x 2 = wds y 2) : x = y := by
  obtain ⟨k, o, d, a, b, n, t⟩ := x
  obtain ⟨k', o', d', a', b', n', t'⟩ := y
  simp only at hx hy
  subst hx hy
  simp [OneP, regB, hasC, fld, fldL, numK] at px py
  simp only [wds, List.cons.injEq, List.cons_append, List.nil_append, true_and, and_true, digL_inj, atW] at e
  simp only [Ic.mk.injEq]
  have eo := opr_inj (by omega) (by omega) (by omega) (by omega) e.2.2.1
  refine ⟨trivial, ?_, ?_, ?_, ?_, ?_, ?_⟩ <;> omega
theorem show_w3 {x : Ic} (hk : x.k = 3) (h : Ok6 x) : (showM x).data.toList = (nam 3).data.toList ++ Tw (wds x 3) := by
  rw [show_l3 hk h, show (nam 3).data.toList = [112, 105, 99, 107] from rfl]
  simp [wds, Tw]
theorem nb_w3 {x : Ic} (h0 : 0 ≤ x.o) (h1 : x.o ≤ 18) : ∀ w ∈ wds x 3, Nb w := by
  intro w hw
  simp only [wds, List.mem_cons, List.not_mem_nil, or_false] at hw
  rcases hw with rfl | rfl | rfl
  all_goals first | exact nb_reg _ | exact nb_dig _ | exact nb_opr h0 h1
theorem same_w3 {x y : Ic} (hx : x.k = 3) (hy : y.k = 3) (px : OneP x 2 60 8 (fld 3) false) (py : OneP y 2 60 8 (fld 3) false) (e : wds x 3 = wds y 3) : x = y := by
  obtain ⟨k, o, d, a, b, n, t⟩ := x
  obtain ⟨k', o', d', a', b', n', t'⟩ := y
  simp only at hx hy
  subst hx hy
  simp [OneP, regB, hasC, fld, fldL, numK] at px py
  simp only [wds, List.cons.injEq, List.cons_append, List.nil_append, true_and, and_true, digL_inj, atW] at e
  simp only [Ic.mk.injEq]
  refine ⟨trivial, ?_, ?_, ?_, ?_, ?_, ?_⟩ <;> omega
theorem show_w4 {x : Ic} (hk : x.k = 4) (h : Ok6 x) : (showM x).data.toList = (nam 4).data.toList ++ Tw (wds x 4) := by
  rw [show_l4 hk h, show (nam 4).data.toList = [108, 111, 97, 100] from rfl]
  simp [wds, Tw, at_w, tw_app]
theorem nb_w4 {x : Ic} (h0 : 0 ≤ x.o) (h1 : x.o ≤ 18) : ∀ w ∈ wds x 4, Nb w := by
  intro w hw
  simp only [wds, List.mem_append, atW, List.mem_cons, List.not_mem_nil, or_false] at hw
  rcases hw with (hw | hw) | hw
  · rw [hw]
    first | exact nb_reg _ | exact nb_dig _
  · rw [hw]
    first | exact nb_reg _ | exact nb_dig _
  · split at hw
    · cases hw
    · rw [List.mem_singleton] at hw
      rw [hw]
      exact nb_reg _
theorem same_w4 {x y : Ic} (hx : x.k = 4) (hy : y.k = 4) (px : OneP x 2 60 8 (fld 4) true) (py : OneP y 2 60 8 (fld 4) true) (e : wds x 4 = wds y 4) : x = y := by
  obtain ⟨k, o, d, a, b, n, t⟩ := x
  obtain ⟨k', o', d', a', b', n', t'⟩ := y
  simp only at hx hy
  subst hx hy
  simp [OneP, regB, hasC, fld, fldL, numK] at px py
  simp only [wds, List.cons.injEq, List.cons_append, List.nil_append, true_and, and_true, digL_inj, atW] at e
  simp only [Ic.mk.injEq]
  have ea : a = a' := by
    by_cases h : a < 0 <;> by_cases h' : a' < 0 <;> simp only [h, h', if_true, if_false, List.cons.injEq, true_and, and_true, digL_inj, reduceCtorEq, and_false] at e <;> omega
  refine ⟨trivial, ?_, ?_, ?_, ?_, ?_, ?_⟩ <;> omega
theorem show_w5 {x : Ic} (hk : x.k = 5) (h : Ok6 x) : (showM x).data.toList = (nam 5).data.toList ++ Tw (wds x 5) := by
  rw [show_l5 hk h, show (nam 5).data.toList = [115, 116, 111, 114, 101] from rfl]
  simp [wds, Tw, at_w, tw_app]
theorem nb_w5 {x : Ic} (h0 : 0 ≤ x.o) (h1 : x.o ≤ 18) : ∀ w ∈ wds x 5, Nb w := by
  intro w hw
  simp only [wds, List.mem_append, atW, List.mem_cons, List.not_mem_nil, or_false] at hw
  rcases hw with (hw | hw) | hw
  · rw [hw]
    first | exact nb_reg _ | exact nb_dig _
  · rw [hw]
    first | exact nb_reg _ | exact nb_dig _
  · split at hw
    · cases hw
    · rw [List.mem_singleton] at hw
      rw [hw]
      exact nb_reg _
theorem same_w5 {x y : Ic} (hx : x.k = 5) (hy : y.k = 5) (px : OneP x 2 60 8 (fld 5) true) (py : OneP y 2 60 8 (fld 5) true) (e : wds x 5 = wds y 5) : x = y := by
  obtain ⟨k, o, d, a, b, n, t⟩ := x
  obtain ⟨k', o', d', a', b', n', t'⟩ := y
  simp only at hx hy
  subst hx hy
  simp [OneP, regB, hasC, fld, fldL, numK] at px py
  simp only [wds, List.cons.injEq, List.cons_append, List.nil_append, true_and, and_true, digL_inj, atW] at e
  simp only [Ic.mk.injEq]
  have ea : a = a' := by
    by_cases h : a < 0 <;> by_cases h' : a' < 0 <;> simp only [h, h', if_true, if_false, List.cons.injEq, true_and, and_true, digL_inj, reduceCtorEq, and_false] at e <;> omega
  refine ⟨trivial, ?_, ?_, ?_, ?_, ?_, ?_⟩ <;> omega
theorem show_w6 {x : Ic} (hk : x.k = 6) (h : Ok6 x) : (showM x).data.toList = (nam 6).data.toList ++ Tw (wds x 6) := by
  rw [show_l6 hk h, show (nam 6).data.toList = [106, 117, 109, 112] from rfl]
  simp [wds, Tw]
theorem nb_w6 {x : Ic} (h0 : 0 ≤ x.o) (h1 : x.o ≤ 18) : ∀ w ∈ wds x 6, Nb w := by
  intro w hw
  simp only [wds, List.mem_cons, List.not_mem_nil, or_false] at hw
  rw [hw]
  first | exact nb_reg _ | exact nb_dig _ | exact nb_opr h0 h1
theorem same_w6 {x y : Ic} (hx : x.k = 6) (hy : y.k = 6) (px : OneP x 2 60 8 (fld 6) false) (py : OneP y 2 60 8 (fld 6) false) (e : wds x 6 = wds y 6) : x = y := by
  obtain ⟨k, o, d, a, b, n, t⟩ := x
  obtain ⟨k', o', d', a', b', n', t'⟩ := y
  simp only at hx hy
  subst hx hy
  simp [OneP, regB, hasC, fld, fldL, numK] at px py
  simp only [wds, List.cons.injEq, List.cons_append, List.nil_append, true_and, and_true, digL_inj, atW] at e
  simp only [Ic.mk.injEq]
  refine ⟨trivial, ?_, ?_, ?_, ?_, ?_, ?_⟩ <;> omega
theorem show_w7 {x : Ic} (hk : x.k = 7) (h : Ok6 x) : (showM x).data.toList = (nam 7).data.toList ++ Tw (wds x 7) := by
  rw [show_l7 hk h, show (nam 7).data.toList = [122, 101, 114, 111] from rfl]
  simp [wds, Tw]
theorem nb_w7 {x : Ic} (h0 : 0 ≤ x.o) (h1 : x.o ≤ 18) : ∀ w ∈ wds x 7, Nb w := by
  intro w hw
  simp only [wds, List.mem_cons, List.not_mem_nil, or_false] at hw
  rcases hw with rfl | rfl
  all_goals first | exact nb_reg _ | exact nb_dig _ | exact nb_opr h0 h1
theorem same_w7 {x y : Ic} (hx : x.k = 7) (hy : y.k = 7) (px : OneP x 2 60 8 (fld 7) false) (py : OneP y 2 60 8 (fld 7) false) (e : wds x 7 = wds y 7) : x = y := by
  obtain ⟨k, o, d, a, b, n, t⟩ := x
  obtain ⟨k', o', d', a', b', n', t'⟩ := y
  simp only at hx hy
  subst hx hy
  simp [OneP, regB, hasC, fld, fldL, numK] at px py
  simp only [wds, List.cons.injEq, List.cons_append, List.nil_append, true_and, and_true, digL_inj, atW] at e
  simp only [Ic.mk.injEq]
  refine ⟨trivial, ?_, ?_, ?_, ?_, ?_, ?_⟩ <;> omega
theorem show_w8 {x : Ic} (hk : x.k = 8) (h : Ok6 x) : (showM x).data.toList = (nam 8).data.toList ++ Tw (wds x 8) := by
  rw [show_l8 hk h, show (nam 8).data.toList = [102, 101, 110, 99, 101] from rfl]
  simp [wds, Tw]
theorem nb_w8 {x : Ic} (h0 : 0 ≤ x.o) (h1 : x.o ≤ 18) : ∀ w ∈ wds x 8, Nb w := by
  intro w hw
  cases hw
theorem same_w8 {x y : Ic} (hx : x.k = 8) (hy : y.k = 8) (px : OneP x 2 60 8 (fld 8) false) (py : OneP y 2 60 8 (fld 8) false) (e : wds x 8 = wds y 8) : x = y := by
  obtain ⟨k, o, d, a, b, n, t⟩ := x
  obtain ⟨k', o', d', a', b', n', t'⟩ := y
  simp only at hx hy
  subst hx hy
  simp [OneP, regB, hasC, fld, fldL, numK] at px py
  clear e
  simp only [Ic.mk.injEq]
  refine ⟨trivial, ?_, ?_, ?_, ?_, ?_, ?_⟩ <;> omega
theorem show_w9 {x : Ic} (hk : x.k = 9) (h : Ok6 x) : (showM x).data.toList = (nam 9).data.toList ++ Tw (wds x 9) := by
  rw [show_l9 hk h, show (nam 9).data.toList = [116, 97, 107, 101] from rfl]
  simp [wds, Tw]
theorem nb_w9 {x : Ic} (h0 : 0 ≤ x.o) (h1 : x.o ≤ 18) : ∀ w ∈ wds x 9, Nb w := by
  intro w hw
  simp only [wds, List.mem_cons, List.not_mem_nil, or_false] at hw
  rw [hw]
  first | exact nb_reg _ | exact nb_dig _ | exact nb_opr h0 h1
theorem same_w9 {x y : Ic} (hx : x.k = 9) (hy : y.k = 9) (px : OneP x 2 60 8 (fld 9) false) (py : OneP y 2 60 8 (fld 9) false) (e : wds x 9 = wds y 9) : x = y := by
  obtain ⟨k, o, d, a, b, n, t⟩ := x
  obtain ⟨k', o', d', a', b', n', t'⟩ := y
  simp only at hx hy
  subst hx hy
  simp [OneP, regB, hasC, fld, fldL, numK] at px py
  simp only [wds, List.cons.injEq, List.cons_append, List.nil_append, true_and, and_true, digL_inj, atW] at e
  simp only [Ic.mk.injEq]
  refine ⟨trivial, ?_, ?_, ?_, ?_, ?_, ?_⟩ <;> omega
theorem show_w10 {x : Ic} (hk : x.k = 10) (h : Ok6 x) : (showM x).data.toList = (nam 10).data.toList ++ Tw (wds x 10) := by
  rw [show_l10 hk h, show (nam 10).data.toList = [103, 105, 118, 101] from rfl]
  simp [wds, Tw]
theorem nb_w10 {x : Ic} (h0 : 0 ≤ x.o) (h1 : x.o ≤ 18) : ∀ w ∈ wds x 10, Nb w := by
  intro w hw
  simp only [wds, List.mem_cons, List.not_mem_nil, or_false] at hw
  rw [hw]
  first | exact nb_reg _ | exact nb_dig _ | exact nb_opr h0 h1
theorem same_w10 {x y : Ic} (hx : x.k = 10) (hy : y.k = 10) (px : OneP x 2 60 8 (fld 10) false) (py : OneP y 2 60 8 (fld 10) false) (e : wds x 10 = wds y 10) : x = y := by
  obtain ⟨k, o, d, a, b, n, t⟩ := x
  obtain ⟨k', o', d', a', b', n', t'⟩ := y
  simp only at hx hy
  subst hx hy
  simp [OneP, regB, hasC, fld, fldL, numK] at px py
  simp only [wds, List.cons.injEq, List.cons_append, List.nil_append, true_and, and_true, digL_inj, atW] at e
  simp only [Ic.mk.injEq]
  refine ⟨trivial, ?_, ?_, ?_, ?_, ?_, ?_⟩ <;> omega
theorem show_w11 {x : Ic} (hk : x.k = 11) (h : Ok6 x) : (showM x).data.toList = (nam 11).data.toList ++ Tw (wds x 11) := by
  rw [show_l11 hk h, show (nam 11).data.toList = [111, 117, 116] from rfl]
  simp [wds, Tw]
theorem nb_w11 {x : Ic} (h0 : 0 ≤ x.o) (h1 : x.o ≤ 18) : ∀ w ∈ wds x 11, Nb w := by
  intro w hw
  simp only [wds, List.mem_cons, List.not_mem_nil, or_false] at hw
  rw [hw]
  first | exact nb_reg _ | exact nb_dig _ | exact nb_opr h0 h1
theorem same_w11 {x y : Ic} (hx : x.k = 11) (hy : y.k = 11) (px : OneP x 2 60 8 (fld 11) false) (py : OneP y 2 60 8 (fld 11) false) (e : wds x 11 = wds y 11) : x = y := by
  obtain ⟨k, o, d, a, b, n, t⟩ := x
  obtain ⟨k', o', d', a', b', n', t'⟩ := y
  simp only at hx hy
  subst hx hy
  simp [OneP, regB, hasC, fld, fldL, numK] at px py
  simp only [wds, List.cons.injEq, List.cons_append, List.nil_append, true_and, and_true, digL_inj, atW] at e
  simp only [Ic.mk.injEq]
  refine ⟨trivial, ?_, ?_, ?_, ?_, ?_, ?_⟩ <;> omega
theorem show_w12 {x : Ic} (hk : x.k = 12) (h : Ok6 x) : (showM x).data.toList = (nam 12).data.toList ++ Tw (wds x 12) := by
  rw [show_l12 hk h, show (nam 12).data.toList = [116, 114, 97, 112] from rfl]
  simp [wds, Tw]
theorem nb_w12 {x : Ic} (h0 : 0 ≤ x.o) (h1 : x.o ≤ 18) : ∀ w ∈ wds x 12, Nb w := by
  intro w hw
  simp only [wds, List.mem_cons, List.not_mem_nil, or_false] at hw
  rw [hw]
  first | exact nb_reg _ | exact nb_dig _ | exact nb_opr h0 h1
theorem same_w12 {x y : Ic} (hx : x.k = 12) (hy : y.k = 12) (px : OneP x 2 60 8 (fld 12) false) (py : OneP y 2 60 8 (fld 12) false) (e : wds x 12 = wds y 12) : x = y := by
  obtain ⟨k, o, d, a, b, n, t⟩ := x
  obtain ⟨k', o', d', a', b', n', t'⟩ := y
  simp only at hx hy
  subst hx hy
  simp [OneP, regB, hasC, fld, fldL, numK] at px py
  simp only [wds, List.cons.injEq, List.cons_append, List.nil_append, true_and, and_true, digL_inj, atW] at e
  simp only [Ic.mk.injEq]
  refine ⟨trivial, ?_, ?_, ?_, ?_, ?_, ?_⟩ <;> omega
theorem show_w13 {x : Ic} (hk : x.k = 13) (h : Ok6 x) : (showM x).data.toList = (nam 13).data.toList ++ Tw (wds x 13) := by
  rw [show_l13 hk h, show (nam 13).data.toList = [104, 97, 108, 116] from rfl]
  simp [wds, Tw]
theorem nb_w13 {x : Ic} (h0 : 0 ≤ x.o) (h1 : x.o ≤ 18) : ∀ w ∈ wds x 13, Nb w := by
  intro w hw
  cases hw
theorem same_w13 {x y : Ic} (hx : x.k = 13) (hy : y.k = 13) (px : OneP x 2 60 8 (fld 13) false) (py : OneP y 2 60 8 (fld 13) false) (e : wds x 13 = wds y 13) : x = y := by
  obtain ⟨k, o, d, a, b, n, t⟩ := x
  obtain ⟨k', o', d', a', b', n', t'⟩ := y
  simp only at hx hy
  subst hx hy
  simp [OneP, regB, hasC, fld, fldL, numK] at px py
  clear e
  simp only [Ic.mk.injEq]
  refine ⟨trivial, ?_, ?_, ?_, ?_, ?_, ?_⟩ <;> omega
theorem show_w {x : Ic} (hk : 0 ≤ x.k ∧ x.k ≤ 13) (h : Ok6 x) (h0 : 0 ≤ x.o) (h1 : x.o ≤ 18) : (showM x).data.toList = (nam x.k.toNat).data.toList ++ Tw (wds x x.k.toNat) ∧ ∀ w ∈ wds x x.k.toNat, Nb w := by
  have e : x.k = 0 ∨ x.k = 1 ∨ x.k = 2 ∨ x.k = 3 ∨ x.k = 4 ∨ x.k = 5 ∨ x.k = 6 ∨ x.k = 7 ∨ x.k = 8 ∨ x.k = 9 ∨ x.k = 10 ∨ x.k = 11 ∨ x.k = 12 ∨ x.k = 13 := by omega
  rcases e with e | e | e | e | e | e | e | e | e | e | e | e | e | e
  · exact (show x.k.toNat = 0 by omega) ▸ ⟨show_w0 e h, nb_w0 h0 h1⟩
  · exact (show x.k.toNat = 1 by omega) ▸ ⟨show_w1 e h, nb_w1 h0 h1⟩
  · exact (show x.k.toNat = 2 by omega) ▸ ⟨show_w2 e h, nb_w2 h0 h1⟩
  · exact (show x.k.toNat = 3 by omega) ▸ ⟨show_w3 e h, nb_w3 h0 h1⟩
  · exact (show x.k.toNat = 4 by omega) ▸ ⟨show_w4 e h, nb_w4 h0 h1⟩
  · exact (show x.k.toNat = 5 by omega) ▸ ⟨show_w5 e h, nb_w5 h0 h1⟩
  · exact (show x.k.toNat = 6 by omega) ▸ ⟨show_w6 e h, nb_w6 h0 h1⟩
  · exact (show x.k.toNat = 7 by omega) ▸ ⟨show_w7 e h, nb_w7 h0 h1⟩
  · exact (show x.k.toNat = 8 by omega) ▸ ⟨show_w8 e h, nb_w8 h0 h1⟩
  · exact (show x.k.toNat = 9 by omega) ▸ ⟨show_w9 e h, nb_w9 h0 h1⟩
  · exact (show x.k.toNat = 10 by omega) ▸ ⟨show_w10 e h, nb_w10 h0 h1⟩
  · exact (show x.k.toNat = 11 by omega) ▸ ⟨show_w11 e h, nb_w11 h0 h1⟩
  · exact (show x.k.toNat = 12 by omega) ▸ ⟨show_w12 e h, nb_w12 h0 h1⟩
  · exact (show x.k.toNat = 13 by omega) ▸ ⟨show_w13 e h, nb_w13 h0 h1⟩
theorem same_of {x y : Ic} (hx : Ok6 x) (hy : Ok6 y) (px : rightB x 60 8 2 = true) (py : rightB y 60 8 2 = true) (e : showM x = showM y) : x = y := by
  obtain ⟨kx, ox⟩ := (right_one x 2 60 8 (by omega)).1 px
  obtain ⟨ky, oy⟩ := (right_one y 2 60 8 (by omega)).1 py
  obtain ⟨e1, n1⟩ := show_w kx hx ox.2.2.2.2.1 ox.2.2.2.2.2.1
  obtain ⟨e2, n2⟩ := show_w ky hy oy.2.2.2.2.1 oy.2.2.2.2.2.1
  have e3 : (nam x.k.toNat).data.toList ++ Tw (wds x x.k.toNat) = (nam y.k.toNat).data.toList ++ Tw (wds y y.k.toNat) := by rw [← e1, ← e2, e]
  obtain ⟨e4, e5⟩ := cut (nb_nam (by omega)) (nb_nam (by omega)) (tw_head _) (tw_head _) e3
  have e6 := nam_inj (by omega) (by omega) e4
  have e7 : x.k = y.k := by omega
  rw [← e6] at e5 n2
  have e8 := tw_inj n1 n2 e5
  clear e e1 e2 e3 e4 e5 n1 n2 e6 px py
  have h : x.k = 0 ∨ x.k = 1 ∨ x.k = 2 ∨ x.k = 3 ∨ x.k = 4 ∨ x.k = 5 ∨ x.k = 6 ∨ x.k = 7 ∨ x.k = 8 ∨ x.k = 9 ∨ x.k = 10 ∨ x.k = 11 ∨ x.k = 12 ∨ x.k = 13 := by omega
  rcases h with h | h | h | h | h | h | h | h | h | h | h | h | h | h
  · have h' : y.k = 0 := by omega
    rw [h] at e8 ox
    rw [h'] at oy
    exact same_w0 h h' ox oy e8
  · have h' : y.k = 1 := by omega
    rw [h] at e8 ox
    rw [h'] at oy
    exact same_w1 h h' ox oy e8
  · have h' : y.k = 2 := by omega
    rw [h] at e8 ox
    rw [h'] at oy
    exact same_w2 h h' ox oy e8
  · have h' : y.k = 3 := by omega
    rw [h] at e8 ox
    rw [h'] at oy
    exact same_w3 h h' ox oy e8
  · have h' : y.k = 4 := by omega
    rw [h] at e8 ox
    rw [h'] at oy
    exact same_w4 h h' ox oy e8
  · have h' : y.k = 5 := by omega
    rw [h] at e8 ox
    rw [h'] at oy
    exact same_w5 h h' ox oy e8
  · have h' : y.k = 6 := by omega
    rw [h] at e8 ox
    rw [h'] at oy
    exact same_w6 h h' ox oy e8
  · have h' : y.k = 7 := by omega
    rw [h] at e8 ox
    rw [h'] at oy
    exact same_w7 h h' ox oy e8
  · have h' : y.k = 8 := by omega
    rw [h] at e8 ox
    rw [h'] at oy
    exact same_w8 h h' ox oy e8
  · have h' : y.k = 9 := by omega
    rw [h] at e8 ox
    rw [h'] at oy
    exact same_w9 h h' ox oy e8
  · have h' : y.k = 10 := by omega
    rw [h] at e8 ox
    rw [h'] at oy
    exact same_w10 h h' ox oy e8
  · have h' : y.k = 11 := by omega
    rw [h] at e8 ox
    rw [h'] at oy
    exact same_w11 h h' ox oy e8
  · have h' : y.k = 12 := by omega
    rw [h] at e8 ox
    rw [h'] at oy
    exact same_w12 h h' ox oy e8
  · have h' : y.k = 13 := by omega
    rw [h] at e8 ox
    rw [h'] at oy
    exact same_w13 h h' ox oy e8
end Go.Proofs.YtjjjdghkeogljaaDoor
