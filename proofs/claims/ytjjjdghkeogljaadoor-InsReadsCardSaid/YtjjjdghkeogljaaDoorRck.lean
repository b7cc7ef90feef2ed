/- The document's own reg, number and one. -/
import Derived.Test.YtjjjdghkeogljaaDoorRsC
import Derived.Test.YtjjjdghkeogljaaDoorTxt
namespace Go.Proofs.YtjjjdghkeogljaaDoor
set_option linter.unusedSimpArgs false
set_option linter.unusedVariables false
open Go Go.RowKit

def regB (n regs : Int) (own none : Bool) : Bool := if own then (decide (0 ≤ n) && decide (n < regs)) || (none && n == -1) else n == 0
theorem reg0 (n regs : Int) (none : Bool) (w : World) : Calls Tryd.prog 47 #[.int .i64 n, .int .i64 regs, .bool false, .bool none] w fun e w' => e = .returned (.bool (n == 0)) ∧ w = w' := by
  go_enter Tryd.func47, Tryd.ntmps47
  go_wp2
  go_ret
  exact ⟨rfl, rfl⟩
theorem reg1 (n regs : Int) (none : Bool) (w : World) : Calls Tryd.prog 47 #[.int .i64 n, .int .i64 regs, .bool true, .bool none] w fun e w' => e = .returned (.bool ((decide (0 ≤ n) && decide (n < regs)) || (none && n == -1))) ∧ w = w' := by
  cases h0 : decide (0 ≤ n) <;> cases h1 : decide (n < regs) <;> cases none <;> cases h2 : (n == -1)
  all_goals
    simp only [Bool.false_and, Bool.and_false, Bool.true_and, Bool.false_or, Bool.true_or, Bool.and_true, Bool.or_true, Bool.or_false]
    go_enter Tryd.func47, Tryd.ntmps47
    go_wp2
    go_ret
    exact ⟨rfl, rfl⟩
theorem rreg_is {n regs : Int} {own none b : Bool} (h : regB n regs own none = b) (w : World) : Calls Tryd.prog 47 #[.int .i64 n, .int .i64 regs, .bool own, .bool none] w fun e w' => e = .returned (.bool b) ∧ w = w' := by
  subst h
  cases own
  · exact reg0 n regs none w
  · exact reg1 n regs none w
theorem rreg_is' {n regs : Int} {own none b : Bool} (h : regB n regs own none = b) (w : World) : Calls Tryd.prog 47 #[.int .i64 n, .int .i64 regs, .bool own, .bool none] w fun e w' => e = .returned (.bool b) ∧ w' = w := (rreg_is h w).mono fun _ _ ⟨h1, h2⟩ => ⟨h1, h2.symm⟩
theorem rhas_is' {s : ByteArray} (c : UInt8) {n : Int} {b : Bool} (h : hasC s c = b) (hn : (c.toNat : Int) = n) (hm : s.size ≤ 9223372036854775807) (w : World) : Calls Tryd.prog 27 #[.string s, .int .u8 n] w fun e w' => e = .returned (.bool b) ∧ w' = w := (rhas_is c h hn hm w).mono fun _ _ ⟨h1, h2⟩ => ⟨h1, h2.symm⟩

def numK (k n locks : Int) : Bool := if k = 4 ∨ k = 5 then decide (0 ≤ n) && decide (n ≤ 65535) else if k = 9 ∨ k = 10 then decide (0 ≤ n) && decide (n < locks) else if k = 12 then (n == 1) || (n == 2) else true
theorem num_4 (k o d a b n t locks : Int) (w : World) (q4 : (k == 4) = true) : Calls Tryd.prog 48 #[.agg #[.int .i64 k, .int .i64 o, .int .i64 d, .int .i64 a, .int .i64 b, .int .i64 n, .int .i64 t], .int .i64 locks] w fun e w' => e = .returned (.bool (decide (0 ≤ n) && decide (n ≤ 65535))) ∧ Below w.heap.size w w' := by
  cases h0 : decide (0 ≤ n) <;> cases h1 : decide (n ≤ 65535)
  all_goals
    simp only [Bool.false_and, Bool.and_false, Bool.true_and, Bool.false_or, Bool.true_or, Bool.or_true]
    go_enter Tryd.func48, Tryd.ntmps48
    go_wp2
    go_ret
    exact ⟨rfl, below1 _ _⟩
theorem num_5 (k o d a b n t locks : Int) (w : World) (q4 : (k == 4) = false) (q5 : (k == 5) = true) : Calls Tryd.prog 48 #[.agg #[.int .i64 k, .int .i64 o, .int .i64 d, .int .i64 a, .int .i64 b, .int .i64 n, .int .i64 t], .int .i64 locks] w fun e w' => e = .returned (.bool (decide (0 ≤ n) && decide (n ≤ 65535))) ∧ Below w.heap.size w w' := by
  cases h0 : decide (0 ≤ n) <;> cases h1 : decide (n ≤ 65535)
  all_goals
    simp only [Bool.false_and, Bool.and_false, Bool.true_and, Bool.false_or, Bool.true_or, Bool.or_true]
    go_enter Tryd.func48, Tryd.ntmps48
    go_wp2
    go_ret
    exact ⟨rfl, below1 _ _⟩
theorem num_9 (k o d a b n t locks : Int) (w : World) (q4 : (k == 4) = false) (q5 : (k == 5) = false) (q9 : (k == 9) = true) : Calls Tryd.prog 48 #[.agg #[.int .i64 k, .int .i64 o, .int .i64 d, .int .i64 a, .int .i64 b, .int .i64 n, .int .i64 t], .int .i64 locks] w fun e w' => e = .returned (.bool (decide (0 ≤ n) && decide (n < locks))) ∧ Below w.heap.size w w' := by
  cases h0 : decide (0 ≤ n) <;> cases h1 : decide (n < locks)
  all_goals
    simp only [Bool.false_and, Bool.and_false, Bool.true_and, Bool.false_or, Bool.true_or, Bool.or_true]
    go_enter Tryd.func48, Tryd.ntmps48
    go_wp2
    go_ret
    exact ⟨rfl, below1 _ _⟩
theorem num_10 (k o d a b n t locks : Int) (w : World) (q4 : (k == 4) = false) (q5 : (k == 5) = false) (q9 : (k == 9) = false) (q10 : (k == 10) = true) : Calls Tryd.prog 48 #[.agg #[.int .i64 k, .int .i64 o, .int .i64 d, .int .i64 a, .int .i64 b, .int .i64 n, .int .i64 t], .int .i64 locks] w fun e w' => e = .returned (.bool (decide (0 ≤ n) && decide (n < locks))) ∧ Below w.heap.size w w' := by
  cases h0 : decide (0 ≤ n) <;> cases h1 : decide (n < locks)
  all_goals
    simp only [Bool.false_and, Bool.and_false, Bool.true_and, Bool.false_or, Bool.true_or, Bool.or_true]
    go_enter Tryd.func48, Tryd.ntmps48
    go_wp2
    go_ret
    exact ⟨rfl, below1 _ _⟩
theorem num_12 (k o d a b n t locks : Int) (w : World) (q4 : (k == 4) = false) (q5 : (k == 5) = false) (q9 : (k == 9) = false) (q10 : (k == 10) = false) (q12 : (k == 12) = true) : Calls Tryd.prog 48 #[.agg #[.int .i64 k, .int .i64 o, .int .i64 d, .int .i64 a, .int .i64 b, .int .i64 n, .int .i64 t], .int .i64 locks] w fun e w' => e = .returned (.bool ((n == 1) || (n == 2))) ∧ Below w.heap.size w w' := by
  cases h0 : (n == 1) <;> cases h1 : (n == 2)
  all_goals
    simp only [Bool.false_and, Bool.and_false, Bool.true_and, Bool.false_or, Bool.true_or, Bool.or_true]
    go_enter Tryd.func48, Tryd.ntmps48
    go_wp2
    go_ret
    exact ⟨rfl, below1 _ _⟩
theorem num_on (k o d a b n t locks : Int) (w : World) (q4 : (k == 4) = false) (q5 : (k == 5) = false) (q9 : (k == 9) = false) (q10 : (k == 10) = false) (q12 : (k == 12) = false) : Calls Tryd.prog 48 #[.agg #[.int .i64 k, .int .i64 o, .int .i64 d, .int .i64 a, .int .i64 b, .int .i64 n, .int .i64 t], .int .i64 locks] w fun e w' => e = .returned (.bool (true)) ∧ Below w.heap.size w w' := by
  go_enter Tryd.func48, Tryd.ntmps48
  go_wp2
  go_ret
  exact ⟨rfl, below1 _ _⟩
theorem num_any (k o d a b n t locks : Int) (w : World) : Calls Tryd.prog 48 #[.agg #[.int .i64 k, .int .i64 o, .int .i64 d, .int .i64 a, .int .i64 b, .int .i64 n, .int .i64 t], .int .i64 locks] w fun e w' => e = .returned (.bool (numK k n locks)) ∧ Below w.heap.size w w' := by
  have qf : ∀ n : Int, k ≠ n → (k == n) = false := fun n h => by simpa using h
  have qt : ∀ n : Int, k = n → (k == n) = true := fun n h => by simpa using h
  unfold numK
  by_cases h4 : k = 4
  · rw [if_pos (.inl h4)]
    exact num_4 _ _ _ _ _ _ _ locks w (qt _ h4)
  by_cases h5 : k = 5
  · rw [if_pos (.inr h5)]
    exact num_5 _ _ _ _ _ _ _ locks w (qf _ h4) (qt _ h5)
  rw [if_neg (by omega)]
  by_cases h9 : k = 9
  · rw [if_pos (.inl h9)]
    exact num_9 _ _ _ _ _ _ _ locks w (qf _ h4) (qf _ h5) (qt _ h9)
  by_cases h10 : k = 10
  · rw [if_pos (.inr h10)]
    exact num_10 _ _ _ _ _ _ _ locks w (qf _ h4) (qf _ h5) (qf _ h9) (qt _ h10)
  rw [if_neg (by omega)]
  by_cases h12 : k = 12
  · rw [if_pos h12]
    exact num_12 _ _ _ _ _ _ _ locks w (qf _ h4) (qf _ h5) (qf _ h9) (qf _ h10) (qt _ h12)
  rw [if_neg h12]
  exact num_on _ _ _ _ _ _ _ locks w (qf _ h4) (qf _ h5) (qf _ h9) (qf _ h10) (qf _ h12)

/-- Whether an instruction of a code of so many may be. -/
def OneP (x : Ic) (size regs locks : Int) (f : ByteArray) (nn : Bool) : Prop :=
  regB x.d regs (hasC f 68) false = true ∧ regB x.a regs (hasC f 65) nn = true ∧ regB x.b regs (hasC f 66) false = true ∧ (hasC f 79 = true ∨ x.o = 0) ∧ 0 ≤ x.o ∧ x.o ≤ 18 ∧ (hasC f 78 = true ∨ x.n = 0) ∧ (hasC f 84 = true ∨ x.t = 0) ∧ numK x.k x.n locks = true ∧ 0 ≤ x.t ∧ x.t < size
def OneR (w : World) (P : Prop) (e : Ending) (w' : World) : Prop := ∃ b : Bool, e = .returned (.bool b) ∧ (b = true ↔ P) ∧ Below w.heap.size w w'
set_option maxRecDepth 100000 in
set_option maxHeartbeats 4000000 in
theorem one_un (x : Ic) (size regs locks : Int) (w : World) (h : ¬ (0 ≤ x.k ∧ x.k ≤ 13)) : Calls Tryd.prog 34 #[.agg #[.int .i64 x.k, .int .i64 x.o, .int .i64 x.d, .int .i64 x.a, .int .i64 x.b, .int .i64 x.n, .int .i64 x.t], .int .i64 size, .int .i64 regs, .int .i64 locks] w fun e w' => e = .returned (.bool false) ∧ Below w.heap.size w w' := by
  have hfs := fld_size x.k
  have hq : ∀ W, Calls Tryd.prog 25 #[.int .i64 x.k] W fun e w' => e = .returned (.string (fldZ x.k)) ∧ Below W.heap.size W w' := fun W => rfields_any x.k W
  obtain ⟨f, hf⟩ : ∃ f, fldZ x.k = f := ⟨_, rfl⟩
  rw [hf] at hfs hq
  have HQ := Lib.hid hq
  have HF := Lib.hid hfs
  clear hfs hq
  have he : f.toList.isEmpty = true := by
    rw [← hf]
    unfold fldZ
    rw [if_neg h, ByteArray.toList_eq]
    rfl
  have q4 : (x.k == 4) = false := by simp; omega
  have q5 : (x.k == 5) = false := by simp; omega
  clear h hf
  go_enter Tryd.func34, Tryd.ntmps34
  go_wp2_with (go_at_call 25; (with_reducible refine (HQ.out _).mono ?_); rintro e1 w1 ⟨rfl, hb1⟩; have HB1 := Lib.hid (below_ch (below1 _ _) hb1); have HX1 := Lib.hid ((Ib.new rfl _ _ _ _ _ _ _).stay hb1); have hz1 : w.heap.size ≤ w1.heap.size := HB1.out.size; obtain ⟨bx1, y0, y1, y2, y3, y4, y5, y6, -⟩ := HX1.out.facts; clear hb1)
  go_quiet (fail)
  go_wp2
  go_ret
  exact ⟨rfl, below_drewN HB1.out _⟩
set_option maxRecDepth 100000 in
set_option maxHeartbeats 8000000 in
theorem one_kn (x : Ic) (size regs locks : Int) (w : World) (h : 0 ≤ x.k ∧ x.k ≤ 13) (b4 b5 : Bool) (q4 : (x.k == 4) = b4) (q5 : (x.k == 5) = b5) : Calls Tryd.prog 34 #[.agg #[.int .i64 x.k, .int .i64 x.o, .int .i64 x.d, .int .i64 x.a, .int .i64 x.b, .int .i64 x.n, .int .i64 x.t], .int .i64 size, .int .i64 regs, .int .i64 locks] w (OneR w (OneP x size regs locks (fldZ x.k) (b4 || b5))) := by
  have hfs := fld_size x.k
  have hq : ∀ W, Calls Tryd.prog 25 #[.int .i64 x.k] W fun e w' => e = .returned (.string (fldZ x.k)) ∧ Below W.heap.size W w' := fun W => rfields_any x.k W
  obtain ⟨f, hf⟩ : ∃ f, fldZ x.k = f := ⟨_, rfl⟩
  rw [hf] at hfs hq ⊢
  have HQ := Lib.hid hq
  have HF := Lib.hid hfs
  clear hfs hq
  have he : f.toList.isEmpty = false := by
    rw [← hf]
    unfold fldZ
    rw [if_pos h, ByteArray.toList_eq]
    have : ∀ k, k < 14 → (fld k).data.toList.isEmpty = false := by decide
    exact this _ (by omega)
  clear hf h
  obtain ⟨P, hP⟩ : ∃ P, OneP x size regs locks f (b4 || b5) = P := ⟨_, rfl⟩
  rw [hP]
  have HP := Lib.hid hP
  obtain ⟨nn, hnn⟩ : ∃ nn, (b4 || b5) = nn := ⟨_, rfl⟩
  have HNN := Lib.hid hnn
  obtain ⟨cD, hD⟩ : ∃ b, hasC f 68 = b := ⟨_, rfl⟩
  obtain ⟨cA, hA⟩ : ∃ b, hasC f 65 = b := ⟨_, rfl⟩
  obtain ⟨cB, hBb⟩ : ∃ b, hasC f 66 = b := ⟨_, rfl⟩
  obtain ⟨cO, hO⟩ : ∃ b, hasC f 79 = b := ⟨_, rfl⟩
  obtain ⟨cN, hN⟩ : ∃ b, hasC f 78 = b := ⟨_, rfl⟩
  obtain ⟨cT, hT⟩ : ∃ b, hasC f 84 = b := ⟨_, rfl⟩
  obtain ⟨rD, hrD⟩ : ∃ b, regB x.d regs cD false = b := ⟨_, rfl⟩
  obtain ⟨rA, hrA⟩ : ∃ b, regB x.a regs cA nn = b := ⟨_, rfl⟩
  obtain ⟨rB, hrB⟩ : ∃ b, regB x.b regs cB false = b := ⟨_, rfl⟩
  have HPE : Hid (P = (rD = true ∧ rA = true ∧ rB = true ∧ (cO = true ∨ x.o = 0) ∧ 0 ≤ x.o ∧ x.o ≤ 18 ∧ (cN = true ∨ x.n = 0) ∧ (cT = true ∨ x.t = 0) ∧ numK x.k x.n locks = true ∧ 0 ≤ x.t ∧ x.t < size)) := Lib.hid (by
    rw [← hP]
    unfold OneP
    rw [hnn, hD, hA, hBb, hO, hN, hT, hrD, hrA, hrB])
  have HD := Lib.hid hD
  have HA := Lib.hid hA
  have HBb := Lib.hid hBb
  have HO := Lib.hid hO
  have HN := Lib.hid hN
  have HT := Lib.hid hT
  have HRD := Lib.hid hrD
  have HRA := Lib.hid hrA
  have HRB := Lib.hid hrB
  clear hP hnn hD hA hBb hO hN hT hrD hrA hrB HP
  go_enter Tryd.func34, Tryd.ntmps34
  go_upto_region 2 with (go_at_call 25; (with_reducible refine (HQ.out _).mono ?_); rintro e1 w1 ⟨rfl, hb1⟩; have HB1 := Lib.hid (below_ch (below1 _ _) hb1); have HX1 := Lib.hid ((Ib.new rfl _ _ _ _ _ _ _).stay hb1); have hz1 : w.heap.size ≤ w1.heap.size := HB1.out.size; obtain ⟨bx1, y0, y1, y2, y3, y4, y5, y6, -⟩ := HX1.out.facts; clear hb1)
  go_cut [10] from 14 (fun v X => v = .bool nn ∧ X = w1)
  case first =>
    cases b4 <;> cases b5
    all_goals
      go_wp2
      go_meet
      exact ⟨by rw [← HNN.out]; rfl, rfl⟩
  obtain ⟨rfl, rfl⟩ := hcut
  clear q4 q5
  have HF2 : f.size ≤ 9223372036854775807 := by have := HF.out; omega
  have K68 : Hid (∀ W : World, Calls Tryd.prog 27 #[.string f, .int .u8 68] W fun e w' => e = .returned (.bool cD) ∧ w' = W) := Lib.hid (fun W => rhas_is' 68 HD.out (by decide) HF2 W)
  have K65 : Hid (∀ W : World, Calls Tryd.prog 27 #[.string f, .int .u8 65] W fun e w' => e = .returned (.bool cA) ∧ w' = W) := Lib.hid (fun W => rhas_is' 65 HA.out (by decide) HF2 W)
  have K66 : Hid (∀ W : World, Calls Tryd.prog 27 #[.string f, .int .u8 66] W fun e w' => e = .returned (.bool cB) ∧ w' = W) := Lib.hid (fun W => rhas_is' 66 HBb.out (by decide) HF2 W)
  have KD : Hid (∀ W : World, Calls Tryd.prog 47 #[.int .i64 x.d, .int .i64 regs, .bool cD, .bool false] W fun e w' => e = .returned (.bool rD) ∧ w' = W) := Lib.hid (fun W => rreg_is' HRD.out W)
  have KA : Hid (∀ W : World, Calls Tryd.prog 47 #[.int .i64 x.a, .int .i64 regs, .bool cA, .bool nn] W fun e w' => e = .returned (.bool rA) ∧ w' = W) := Lib.hid (fun W => rreg_is' HRA.out W)
  have KB : Hid (∀ W : World, Calls Tryd.prog 47 #[.int .i64 x.b, .int .i64 regs, .bool cB, .bool false] W fun e w' => e = .returned (.bool rB) ∧ w' = W) := Lib.hid (fun W => rreg_is' HRB.out W)
  have K79 : Hid (∀ W : World, Calls Tryd.prog 27 #[.string f, .int .u8 79] W fun e w' => e = .returned (.bool cO) ∧ W = w') := Lib.hid (fun W => rhas_is 79 HO.out (by decide) HF2 W)
  have K78 : Hid (∀ W : World, Calls Tryd.prog 27 #[.string f, .int .u8 78] W fun e w' => e = .returned (.bool cN) ∧ W = w') := Lib.hid (fun W => rhas_is 78 HN.out (by decide) HF2 W)
  have K84 : Hid (∀ W : World, Calls Tryd.prog 27 #[.string f, .int .u8 84] W fun e w' => e = .returned (.bool cT) ∧ W = w') := Lib.hid (fun W => rhas_is 84 HT.out (by decide) HF2 W)
  clear HF2
  cases rD
  · go_wp2_with (fail)
    refine wp_region_quiet_lit (by kernel_rfl) (by kernel_rfl) ?_
    repeat (any_goals (first | go_big_quiet_step (((first | (go_at_call 27; first | with_reducible exact Calls.quiet_of_same (K68.out _) | with_reducible exact Calls.quiet_of_same (K65.out _) | with_reducible exact Calls.quiet_of_same (K66.out _)) | (go_at_call 47; first | with_reducible exact Calls.quiet_of_same (KD.out _) | with_reducible exact Calls.quiet_of_same (KA.out _) | with_reducible exact Calls.quiet_of_same (KB.out _))))) | quiet_step (((first | (go_at_call 27; first | with_reducible exact Calls.quiet_of_same (K68.out _) | with_reducible exact Calls.quiet_of_same (K65.out _) | with_reducible exact Calls.quiet_of_same (K66.out _)) | (go_at_call 47; first | with_reducible exact Calls.quiet_of_same (KD.out _) | with_reducible exact Calls.quiet_of_same (KA.out _) | with_reducible exact Calls.quiet_of_same (KB.out _)))))))
    refine wpQuiet_nil ?_
    intro _ hw'
    obtain ⟨nq, hw''⟩ := hw'
    subst hw''
    all_goals
      go_wp2_with (first
        | (go_at_call 27; (with_reducible refine (K79.out _).mono ?_); rintro e2 w2 ⟨rfl, rfl⟩)
        | (go_at_call 27; (with_reducible refine (K78.out _).mono ?_); rintro e2 w2 ⟨rfl, rfl⟩)
        | (go_at_call 27; (with_reducible refine (K84.out _).mono ?_); rintro e2 w2 ⟨rfl, rfl⟩)
        | (go_at_call 48; (with_reducible refine (num_any _ _ _ _ _ _ _ _ _).mono ?_); rintro e3 w3 ⟨rfl, hb3⟩; have HB3 := Lib.hid (below_ch (below_drewN HB1.out _) hb3); have HX3 := Lib.hid (HX1.out.stay (below_ch (below_drewN (Below.refl _ _) _) hb3)); obtain ⟨bx3, z0, z1, z2, z3, z4, z5, z6, -⟩ := HX3.out.facts; clear hb3))
    all_goals
      go_ret
      refine ⟨_, rfl, ?_, ?_⟩
      · rw [HPE.out]
        first
          | (simp_all; done)
          | (simp_all; omega)
      · first
          | exact below_drewN HB1.out _
          | exact HB3.out
  · cases rA
    · go_wp2_with (fail)
      refine wp_region_quiet_lit (by kernel_rfl) (by kernel_rfl) ?_
      repeat (any_goals (first | go_big_quiet_step (((first | (go_at_call 27; first | with_reducible exact Calls.quiet_of_same (K68.out _) | with_reducible exact Calls.quiet_of_same (K65.out _) | with_reducible exact Calls.quiet_of_same (K66.out _)) | (go_at_call 47; first | with_reducible exact Calls.quiet_of_same (KD.out _) | with_reducible exact Calls.quiet_of_same (KA.out _) | with_reducible exact Calls.quiet_of_same (KB.out _))))) | quiet_step (((first | (go_at_call 27; first | with_reducible exact Calls.quiet_of_same (K68.out _) | with_reducible exact Calls.quiet_of_same (K65.out _) | with_reducible exact Calls.quiet_of_same (K66.out _)) | (go_at_call 47; first | with_reducible exact Calls.quiet_of_same (KD.out _) | with_reducible exact Calls.quiet_of_same (KA.out _) | with_reducible exact Calls.quiet_of_same (KB.out _)))))))
      refine wpQuiet_nil ?_
      intro _ hw'
      obtain ⟨nq, hw''⟩ := hw'
      subst hw''
      all_goals
        go_wp2_with (first
          | (go_at_call 27; (with_reducible refine (K79.out _).mono ?_); rintro e2 w2 ⟨rfl, rfl⟩)
          | (go_at_call 27; (with_reducible refine (K78.out _).mono ?_); rintro e2 w2 ⟨rfl, rfl⟩)
          | (go_at_call 27; (with_reducible refine (K84.out _).mono ?_); rintro e2 w2 ⟨rfl, rfl⟩)
          | (go_at_call 48; (with_reducible refine (num_any _ _ _ _ _ _ _ _ _).mono ?_); rintro e3 w3 ⟨rfl, hb3⟩; have HB3 := Lib.hid (below_ch (below_drewN HB1.out _) hb3); have HX3 := Lib.hid (HX1.out.stay (below_ch (below_drewN (Below.refl _ _) _) hb3)); obtain ⟨bx3, z0, z1, z2, z3, z4, z5, z6, -⟩ := HX3.out.facts; clear hb3))
      all_goals
        go_ret
        refine ⟨_, rfl, ?_, ?_⟩
        · rw [HPE.out]
          first
            | (simp_all; done)
            | (simp_all; omega)
        · first
            | exact below_drewN HB1.out _
            | exact HB3.out
    · cases rB
      · go_wp2_with (fail)
        refine wp_region_quiet_lit (by kernel_rfl) (by kernel_rfl) ?_
        repeat (any_goals (first | go_big_quiet_step (((first | (go_at_call 27; first | with_reducible exact Calls.quiet_of_same (K68.out _) | with_reducible exact Calls.quiet_of_same (K65.out _) | with_reducible exact Calls.quiet_of_same (K66.out _)) | (go_at_call 47; first | with_reducible exact Calls.quiet_of_same (KD.out _) | with_reducible exact Calls.quiet_of_same (KA.out _) | with_reducible exact Calls.quiet_of_same (KB.out _))))) | quiet_step (((first | (go_at_call 27; first | with_reducible exact Calls.quiet_of_same (K68.out _) | with_reducible exact Calls.quiet_of_same (K65.out _) | with_reducible exact Calls.quiet_of_same (K66.out _)) | (go_at_call 47; first | with_reducible exact Calls.quiet_of_same (KD.out _) | with_reducible exact Calls.quiet_of_same (KA.out _) | with_reducible exact Calls.quiet_of_same (KB.out _)))))))
        refine wpQuiet_nil ?_
        intro _ hw'
        obtain ⟨nq, hw''⟩ := hw'
        subst hw''
        all_goals
          go_wp2_with (first
            | (go_at_call 27; (with_reducible refine (K79.out _).mono ?_); rintro e2 w2 ⟨rfl, rfl⟩)
            | (go_at_call 27; (with_reducible refine (K78.out _).mono ?_); rintro e2 w2 ⟨rfl, rfl⟩)
            | (go_at_call 27; (with_reducible refine (K84.out _).mono ?_); rintro e2 w2 ⟨rfl, rfl⟩)
            | (go_at_call 48; (with_reducible refine (num_any _ _ _ _ _ _ _ _ _).mono ?_); rintro e3 w3 ⟨rfl, hb3⟩; have HB3 := Lib.hid (below_ch (below_drewN HB1.out _) hb3); have HX3 := Lib.hid (HX1.out.stay (below_ch (below_drewN (Below.refl _ _) _) hb3)); obtain ⟨bx3, z0, z1, z2, z3, z4, z5, z6, -⟩ := HX3.out.facts; clear hb3))
        all_goals
          go_ret
          refine ⟨_, rfl, ?_, ?_⟩
          · rw [HPE.out]
            first
              | (simp_all; done)
              | (simp_all; omega)
          · first
              | exact below_drewN HB1.out _
              | exact HB3.out
      · go_wp2_with (fail)
        refine wp_region_quiet_lit (by kernel_rfl) (by kernel_rfl) ?_
        repeat (any_goals (first | go_big_quiet_step (((first | (go_at_call 27; first | with_reducible exact Calls.quiet_of_same (K68.out _) | with_reducible exact Calls.quiet_of_same (K65.out _) | with_reducible exact Calls.quiet_of_same (K66.out _)) | (go_at_call 47; first | with_reducible exact Calls.quiet_of_same (KD.out _) | with_reducible exact Calls.quiet_of_same (KA.out _) | with_reducible exact Calls.quiet_of_same (KB.out _))))) | quiet_step (((first | (go_at_call 27; first | with_reducible exact Calls.quiet_of_same (K68.out _) | with_reducible exact Calls.quiet_of_same (K65.out _) | with_reducible exact Calls.quiet_of_same (K66.out _)) | (go_at_call 47; first | with_reducible exact Calls.quiet_of_same (KD.out _) | with_reducible exact Calls.quiet_of_same (KA.out _) | with_reducible exact Calls.quiet_of_same (KB.out _)))))))
        refine wpQuiet_nil ?_
        intro _ hw'
        obtain ⟨nq, hw''⟩ := hw'
        subst hw''
        all_goals
          go_wp2_with (first
            | (go_at_call 27; (with_reducible refine (K79.out _).mono ?_); rintro e2 w2 ⟨rfl, rfl⟩)
            | (go_at_call 27; (with_reducible refine (K78.out _).mono ?_); rintro e2 w2 ⟨rfl, rfl⟩)
            | (go_at_call 27; (with_reducible refine (K84.out _).mono ?_); rintro e2 w2 ⟨rfl, rfl⟩)
            | (go_at_call 48; (with_reducible refine (num_any _ _ _ _ _ _ _ _ _).mono ?_); rintro e3 w3 ⟨rfl, hb3⟩; have HB3 := Lib.hid (below_ch (below_drewN HB1.out _) hb3); have HX3 := Lib.hid (HX1.out.stay (below_ch (below_drewN (Below.refl _ _) _) hb3)); obtain ⟨bx3, z0, z1, z2, z3, z4, z5, z6, -⟩ := HX3.out.facts; clear hb3))
        all_goals
          go_ret
          refine ⟨_, rfl, ?_, ?_⟩
          · rw [HPE.out]
            first
              | (simp_all; done)
              | (simp_all; omega)
          · first
              | exact below_drewN HB1.out _
              | exact HB3.out
end Go.Proofs.YtjjjdghkeogljaaDoor
