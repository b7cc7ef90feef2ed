/- One instruction. -/
import Derived.Test.YtnmalhjhfddjpaaMa
import Derived.Test.YtnmalhjhfddjpaaMb
import Derived.Test.YtnmalhjhfddjpaaMc
import Derived.Test.YtnmalhjhfddjpaaMd
namespace Go.Proofs.Ytnmalhjhfddjpaa
set_option linter.unusedSimpArgs false
set_option linter.unusedVariables false
open Go Go.RowKit
section
variable {W : World} {v : V} {x : S1} {N : Nat}
set_option maxRecDepth 100000 in
set_option maxHeartbeats 2000000 in
theorem step_hit (h : Hid (TV W v x N)) {i : Ic} (hi : Hid (aheadM v.code x.pc = i)) (ok : Ok6 i) {g : Nat} (hg : Hid (kindF i.k = some g)) {r : S1 × Rs} (hcf : ∀ w : World, (callFunc g #[.pointer (some ⟨v.tb, 0, none⟩), i.v]).run Try.prog w = .ok (.enter g #[.pointer (some ⟨v.tb, 0, none⟩), i.v]) w)
    (hc : Hid (∀ X, TV X v x N → Calls Try.prog g #[.pointer (some ⟨v.tb, 0, none⟩), i.v] X (Post X v r (N + 1)))) : Calls Try.prog 18 #[.pointer (some ⟨v.tb, 0, none⟩)] W (Post W v r (N + 1)) := by
  have HLT := Lib.hid h.out.lt
  go_enter Try.func18, Try.ntmps18
  go_upto_region 2 with (go_at_call 22; ((with_reducible refine (ahead_is (Lib.hid (h.out.alloc _)) hi.out).mono ?_); rintro e1 w1 ⟨rfl, hb1⟩; have HB1 := Lib.hid hb1; have HE1 := Lib.hid (eb_stay (Eb.new rfl _ _ _) hb1); have HZ1 : Hid (W.heap.size + 1 ≤ w1.heap.size) := Lib.hid (by have := hb1.size; simpa using this); clear hb1))
  obtain ⟨m, hm⟩ : ∃ m, w1.heap.size = m := ⟨_, rfl⟩
  rw [hm]
  refine name_world ?_
  intro W2 hW2
  have hB2 : Below w1.heap.size w1 W2 := by rw [hW2]; exact (Below.refl _ _).alloc (Nat.le_refl _) _
  have HI2 : Hid (Ib W2 m i) := Lib.hid (by rw [hW2]; exact Ib.new hm.symm i)
  have HE2 := Lib.hid (eb_stay HE1.out hB2)
  have HT2 := Lib.hid (((h.out.alloc _).stay HB1.out).stay hB2)
  have HC2 : Hid (Ch v.S W W2) := Lib.hid ((((Ch.refl v.S W).alloc _).stepB HB1.out).stepB hB2)
  have HM : Hid (W.heap.size < m) := Lib.hid (by rw [← hm]; exact HZ1.out)
  clear hW2 hB2 hm HZ1 HB1 HE1
  have hl : ∀ q, (Instr.lookup 58 (.map (some v.dm)) (.int .i64 i.k) true).run Try.prog (W2.drewN q) = .ok (.tuple #[.func (.func g) #[.pointer (some ⟨v.tb, 0, none⟩)] #[], .bool true]) (W2.drewN q) := fun q => by
    have := (HT2.out.drewN q).doe.look ok.ik
    rw [hg.out] at this
    exact this
  obtain ⟨il, i0, i1, i2, i3, i4, i5, i6⟩ := HI2.out.facts
  obtain ⟨tl, t0, t1, t2, t3, t4, t5, t6, f3, f5, f6⟩ := HT2.out.thr.facts
  go_quiet (fail)
  go_wp2_with (fail)
  refine (hc.out _ (HT2.out.drewN nq)).mono ?_
  rintro e3 w3 ⟨rfl, ht3, hc3⟩
  have HC3 := Lib.hid ((HC2.out.drewN nq).trans hc3)
  have HE3 := Lib.hid (eb_keep (X := W2.drewN nq) HLT.out hc3 HE2.out (Nat.le_refl _))
  have HT3 := Lib.hid ht3
  obtain ⟨el, e0, e1, e2, g0, g1, g2⟩ := HE3.out.facts
  clear ht3 hc3
  go_wp2_with (fail)
  exact bodyPost_ret (results_e3 (n := W.heap.size) (v0 := .int .i64 r.2.ek) (v1 := .int .i64 r.2.et) (v2 := .int .i64 r.2.en) Try.results18 _ (.int .i64 r.2.what) (.bool r.2.fin) rfl rfl rfl (HE3.out.all _ _ _)) rfl (fin3 HLT.out HT3.out HC3.out (Nat.le_refl _) _ _ _)
set_option maxRecDepth 100000 in
set_option maxHeartbeats 2000000 in
theorem step_miss (h : Hid (TV W v x N)) {i : Ic} (hi : Hid (aheadM v.code x.pc = i)) (ok : Ok6 i) (hg : Hid (kindF i.k = none)) (hN : N < 1000000) (h0 : 0 ≤ x.pc) (h1 : x.pc ≤ 1000000) : Calls Try.prog 18 #[.pointer (some ⟨v.tb, 0, none⟩)] W (Post W v x.on (N + 1)) := by
  have HLT := Lib.hid h.out.lt
  go_enter Try.func18, Try.ntmps18
  go_upto_region 2 with (go_at_call 22; ((with_reducible refine (ahead_is (Lib.hid (h.out.alloc _)) hi.out).mono ?_); rintro e1 w1 ⟨rfl, hb1⟩; have HB1 := Lib.hid hb1; have HE1 := Lib.hid (eb_stay (Eb.new rfl _ _ _) hb1); have HZ1 : Hid (W.heap.size + 1 ≤ w1.heap.size) := Lib.hid (by have := hb1.size; simpa using this); clear hb1))
  obtain ⟨m, hm⟩ : ∃ m, w1.heap.size = m := ⟨_, rfl⟩
  rw [hm]
  refine name_world ?_
  intro W2 hW2
  have hB2 : Below w1.heap.size w1 W2 := by rw [hW2]; exact (Below.refl _ _).alloc (Nat.le_refl _) _
  have HI2 : Hid (Ib W2 m i) := Lib.hid (by rw [hW2]; exact Ib.new hm.symm i)
  have HE2 := Lib.hid (eb_stay HE1.out hB2)
  have HT2 := Lib.hid (((h.out.alloc _).stay HB1.out).stay hB2)
  have HC2 : Hid (Ch v.S W W2) := Lib.hid ((((Ch.refl v.S W).alloc _).stepB HB1.out).stepB hB2)
  have HM : Hid (W.heap.size < m) := Lib.hid (by rw [← hm]; exact HZ1.out)
  clear hW2 hB2 hm HZ1 HB1 HE1
  have hl : ∀ q, (Instr.lookup 58 (.map (some v.dm)) (.int .i64 i.k) true).run Try.prog (W2.drewN q) = .ok (.tuple #[.nilFunc, .bool false]) (W2.drewN q) := fun q => by
    have := (HT2.out.drewN q).doe.look ok.ik
    rw [hg.out] at this
    exact this
  obtain ⟨il, i0, i1, i2, i3, i4, i5, i6⟩ := HI2.out.facts
  obtain ⟨tl, t0, t1, t2, t3, t4, t5, t6, f3, f5, f6⟩ := HT2.out.thr.facts
  go_quiet (fail)
  go_wp2_with (fail)
  refine (nothing_any (Lib.hid (HT2.out.drewN nq)) hN h0 h1 i (Lib.hid ok)).mono ?_
  rintro e3 w3 ⟨rfl, ht3, hc3⟩
  have HC3 := Lib.hid ((HC2.out.drewN nq).trans hc3)
  have HE3 := Lib.hid (eb_keep (X := W2.drewN nq) HLT.out hc3 HE2.out (Nat.le_refl _))
  have HT3 := Lib.hid ht3
  obtain ⟨el, e0, e1, e2, g0, g1, g2⟩ := HE3.out.facts
  clear ht3 hc3
  go_wp2_with (fail)
  exact bodyPost_ret (results_e3 (n := W.heap.size) (v0 := .int .i64 0) (v1 := .int .i64 0) (v2 := .int .i64 0) Try.results18 _ (.int .i64 0) (.bool false) rfl rfl rfl (HE3.out.all _ _ _)) rfl (fin3 HLT.out HT3.out HC3.out (Nat.le_refl _) _ _ _)
theorem pick_any (h : Hid (TV W v x N)) (hN : N < 1000000) (h0 : 0 ≤ x.pc) (h1 : x.pc ≤ 1000000) (i : Ic) (hi : Hid (Ok6 i)) : Calls Try.prog 27 #[.pointer (some ⟨v.tb, 0, none⟩), i.v] W (Post W v (if x.regs i.a = 0 then x.on else (x.set i.d (x.regs i.b)).on) (N + 1)) := by
  by_cases e : x.regs i.a = 0
  · rw [if_pos e]
    exact pick_no h hN h0 h1 i hi (by simp [e])
  · rw [if_neg e]
    exact pick_yes h hN h0 h1 i hi (by simp [e])
theorem zero_any (h : Hid (TV W v x N)) (hN : N < 1000000) (h0 : 0 ≤ x.pc) (h1 : x.pc ≤ 1000000) (i : Ic) (hi : Hid (Ok6 i)) : Calls Try.prog 31 #[.pointer (some ⟨v.tb, 0, none⟩), i.v] W (Post W v (if x.regs i.a = 0 then x.to i.t else x.on) (N + 1)) := by
  by_cases e : x.regs i.a = 0
  · rw [if_pos e]
    exact zero_yes h hN h0 h1 i hi (by simp [e])
  · rw [if_neg e]
    exact zero_no h hN h0 h1 i hi (by simp [e])
theorem take_any (h : Hid (TV W v x N)) (hN : N < 1000000) (h0 : 0 ≤ x.pc) (h1 : x.pc ≤ 1000000) (i : Ic) (hi : Hid (Ok6 i)) : Calls Try.prog 32 #[.pointer (some ⟨v.tb, 0, none⟩), i.v] W (Post W v (if x.own i.n = -1 then ({ x with own := oset x.own i.n v.num } : S1).did v.num 1 i.n else (x, ⟨0, 0, 0, 1, true⟩)) (N + 1)) := by
  by_cases e : x.own i.n = -1
  · rw [if_pos e]
    exact take_yes h hN h0 h1 i hi (Lib.hid rfl) (by simp [e])
  · rw [if_neg e]
    exact take_no h hN h0 h1 i hi (Lib.hid rfl) (by simp [e])
theorem mem_out (h : TV W v x N) {q : Int} (hb : (decide (0 ≤ q) && decide (q < (v.mn : Int))) = false) (n : Int) : mget x.mem q = 0 ∧ mset x.mem q n = x.mem := by
  have hl := h.len
  unfold mget mset
  by_cases h0 : 0 ≤ q
  · have h1 : ¬ q < (v.mn : Int) := by simpa [h0] using hb
    rw [if_pos h0, if_pos h0, List.getD_eq_getElem?_getD, List.getElem?_eq_none (by omega), List.set_eq_of_length_le (by omega)]
    exact ⟨rfl, rfl⟩
  · rw [if_neg h0, if_neg h0]
    exact ⟨rfl, rfl⟩
theorem load_any (h : Hid (TV W v x N)) (hN : N < 1000000) (h0 : 0 ≤ x.pc) (h1 : x.pc ≤ 1000000) (i : Ic) (hi : Hid (Ok6 i)) : Calls Try.prog 28 #[.pointer (some ⟨v.tb, 0, none⟩), i.v] W (Post W v (x.set i.d (mget x.mem (wordM x i))).on (N + 1)) := by
  obtain ⟨q, hq⟩ : ∃ q, wordM x i = q := ⟨_, rfl⟩
  cases hb : (decide (0 ≤ q) && decide (q < (v.mn : Int))) with
  | false =>
    rw [hq, (mem_out h.out hb 0).1]
    exact load_no h hN h0 h1 i hi (Lib.hid hq) (Lib.hid hb)
  | true =>
    have hb2 : 0 ≤ q ∧ q < (v.mn : Int) := by simpa using hb
    obtain ⟨k, rfl⟩ : ∃ k : Nat, q = (k : Int) := ⟨q.toNat, by omega⟩
    have hl := h.out.len
    have hk : k < x.mem.length := by omega
    obtain ⟨g, o, hp, hg, hc, hf⟩ := h.out.mem k _ (List.getElem?_eq_getElem hk)
    have e : mget x.mem (wordM x i) = x.mem[k] := by
      rw [hq]
      unfold mget
      rw [if_pos hb2.1, List.getD_eq_getElem?_getD, Int.toNat_natCast, List.getElem?_eq_getElem hk]
      rfl
    rw [e]
    exact load_yes h hN h0 h1 i hi (Lib.hid hq) (Lib.hid hb) (Lib.hid ⟨hp, rfl, rfl⟩) (by omega) h.out.sm.1 hg (Lib.hid hc)
theorem store_any (h : Hid (TV W v x N)) (hN : N < 1000000) (h0 : 0 ≤ x.pc) (h1 : x.pc ≤ 1000000) (i : Ic) (hi : Hid (Ok6 i)) : Calls Try.prog 29 #[.pointer (some ⟨v.tb, 0, none⟩), i.v] W (Post W v ({ x with mem := mset x.mem (wordM x i) (x.regs i.b) } : S1).on (N + 1)) := by
  obtain ⟨q, hq⟩ : ∃ q, wordM x i = q := ⟨_, rfl⟩
  cases hb : (decide (0 ≤ q) && decide (q < (v.mn : Int))) with
  | false =>
    rw [hq, (mem_out h.out hb _).2]
    exact store_no h hN h0 h1 i hi (Lib.hid hq) (Lib.hid hb)
  | true =>
    have hb2 : 0 ≤ q ∧ q < (v.mn : Int) := by simpa using hb
    obtain ⟨k, rfl⟩ : ∃ k : Nat, q = (k : Int) := ⟨q.toNat, by omega⟩
    have hl := h.out.len
    have hk : k < x.mem.length := by omega
    obtain ⟨g, o, hp, hg, hc, hf⟩ := h.out.mem k _ (List.getElem?_eq_getElem hk)
    have e : mset x.mem (wordM x i) (x.regs i.b) = x.mem.set k (x.regs i.b) := by
      rw [hq]
      unfold mset
      rw [if_pos hb2.1, Int.toNat_natCast]
    rw [e]
    exact store_yes h hN h0 h1 i hi (Lib.hid hq) (Lib.hid hb) (Lib.hid ⟨hp, rfl, rfl⟩) (by omega) h.out.sm.1 hg (Lib.hid hc) (Lib.hid hf)
theorem kindF_none {k : Int} (h : k < 0 ∨ 13 < k) : kindF k = none := by
  unfold kindF
  repeat rw [if_neg (by omega)]
theorem step_any (h : Hid (TV W v x N)) (hN : N < 1000000) : Calls Try.prog 18 #[.pointer (some ⟨v.tb, 0, none⟩)] W (Post W v (stepM v.num v.code x) (N + 1)) := by
  have ok := aheadM_ok v.code h.out.okc x.pc
  have hpc : (0 ≤ x.pc ∧ x.pc ≤ 1000000) ∨ aheadM v.code x.pc = ⟨13, 0, 0, 0, 0, 0, 0⟩ := by
    have hsm := h.out.sm.2
    unfold aheadM
    by_cases h0 : 0 ≤ x.pc
    · by_cases h1 : x.pc ≤ 1000000
      · exact .inl ⟨h0, h1⟩
      · rw [if_pos h0, List.getD_eq_getElem?_getD, List.getElem?_eq_none (by omega)]
        exact .inr rfl
    · rw [if_neg h0]
      exact .inr rfl
  unfold stepM
  obtain ⟨i, hi⟩ : ∃ i, aheadM v.code x.pc = i := ⟨_, rfl⟩
  rw [hi] at ok hpc ⊢
  by_cases q13 : i.k = 13
  · have e : doM v.num i x = x.fin v.num 4 0 := by simp [doM, q13]
    rw [e]
    exact step_hit h (Lib.hid hi) ok (g := 36) (Lib.hid (by rw [q13]; rfl)) (fun w => by kernel_rfl) (Lib.hid fun X hX => halt_any (Lib.hid hX) hN i (Lib.hid ok))
  have hp : 0 ≤ x.pc ∧ x.pc ≤ 1000000 := by
    rcases hpc with hp | e
    · exact hp
    · rw [e] at q13
      exact absurd rfl q13
  obtain ⟨h0, h1⟩ := hp
  by_cases q0 : i.k = 0
  · have e : doM v.num i x = (x.set i.d i.n).on := by simp [doM, q0]
    rw [e]
    exact step_hit h (Lib.hid hi) ok (g := 24) (Lib.hid (by rw [q0]; rfl)) (fun w => by kernel_rfl) (Lib.hid fun X hX => set_any (Lib.hid hX) hN h0 h1 i (Lib.hid ok))
  by_cases q1 : i.k = 1
  · have e : doM v.num i x = (x.set i.d (x.regs i.a)).on := by simp [doM, q1]
    rw [e]
    exact step_hit h (Lib.hid hi) ok (g := 25) (Lib.hid (by rw [q1]; rfl)) (fun w => by kernel_rfl) (Lib.hid fun X hX => move_any (Lib.hid hX) hN h0 h1 i (Lib.hid ok))
  by_cases q2 : i.k = 2
  · have e : doM v.num i x = (x.set i.d (ev i.o (x.regs i.a) (x.regs i.b))).on := by simp [doM, q2]
    rw [e]
    exact step_hit h (Lib.hid hi) ok (g := 26) (Lib.hid (by rw [q2]; rfl)) (fun w => by kernel_rfl) (Lib.hid fun X hX => calc_any (Lib.hid hX) hN h0 h1 i (Lib.hid ok))
  by_cases q3 : i.k = 3
  · have e : doM v.num i x = if x.regs i.a = 0 then x.on else (x.set i.d (x.regs i.b)).on := by simp [doM, q3]
    rw [e]
    exact step_hit h (Lib.hid hi) ok (g := 27) (Lib.hid (by rw [q3]; rfl)) (fun w => by kernel_rfl) (Lib.hid fun X hX => pick_any (Lib.hid hX) hN h0 h1 i (Lib.hid ok))
  by_cases q4 : i.k = 4
  · have e : doM v.num i x = (x.set i.d (mget x.mem (wordM x i))).on := by simp [doM, q4]
    rw [e]
    exact step_hit h (Lib.hid hi) ok (g := 28) (Lib.hid (by rw [q4]; rfl)) (fun w => by kernel_rfl) (Lib.hid fun X hX => load_any (Lib.hid hX) hN h0 h1 i (Lib.hid ok))
  by_cases q5 : i.k = 5
  · have e : doM v.num i x = ({ x with mem := mset x.mem (wordM x i) (x.regs i.b) } : S1).on := by simp [doM, q5]
    rw [e]
    exact step_hit h (Lib.hid hi) ok (g := 29) (Lib.hid (by rw [q5]; rfl)) (fun w => by kernel_rfl) (Lib.hid fun X hX => store_any (Lib.hid hX) hN h0 h1 i (Lib.hid ok))
  by_cases q6 : i.k = 6
  · have e : doM v.num i x = x.to i.t := by simp [doM, q6]
    rw [e]
    exact step_hit h (Lib.hid hi) ok (g := 30) (Lib.hid (by rw [q6]; rfl)) (fun w => by kernel_rfl) (Lib.hid fun X hX => jump_any (Lib.hid hX) hN h0 h1 i (Lib.hid ok))
  by_cases q7 : i.k = 7
  · have e : doM v.num i x = if x.regs i.a = 0 then x.to i.t else x.on := by simp [doM, q7]
    rw [e]
    exact step_hit h (Lib.hid hi) ok (g := 31) (Lib.hid (by rw [q7]; rfl)) (fun w => by kernel_rfl) (Lib.hid fun X hX => zero_any (Lib.hid hX) hN h0 h1 i (Lib.hid ok))
  by_cases q9 : i.k = 9
  · have e : doM v.num i x = if x.own i.n = -1 then ({ x with own := oset x.own i.n v.num } : S1).did v.num 1 i.n else (x, ⟨0, 0, 0, 1, true⟩) := by simp [doM, q9]
    rw [e]
    exact step_hit h (Lib.hid hi) ok (g := 32) (Lib.hid (by rw [q9]; rfl)) (fun w => by kernel_rfl) (Lib.hid fun X hX => take_any (Lib.hid hX) hN h0 h1 i (Lib.hid ok))
  by_cases q10 : i.k = 10
  · have e : doM v.num i x = ({ x with own := oset x.own i.n (-1) } : S1).did v.num 2 i.n := by simp [doM, q10]
    rw [e]
    exact step_hit h (Lib.hid hi) ok (g := 33) (Lib.hid (by rw [q10]; rfl)) (fun w => by kernel_rfl) (Lib.hid fun X hX => give_any (Lib.hid hX) hN h0 h1 i (Lib.hid ok))
  by_cases q11 : i.k = 11
  · have e : doM v.num i x = x.did v.num 0 (x.regs i.a) := by simp [doM, q11]
    rw [e]
    exact step_hit h (Lib.hid hi) ok (g := 34) (Lib.hid (by rw [q11]; rfl)) (fun w => by kernel_rfl) (Lib.hid fun X hX => out_any (Lib.hid hX) hN h0 h1 i (Lib.hid ok))
  by_cases q12 : i.k = 12
  · have e : doM v.num i x = x.fin v.num 3 i.n := by simp [doM, q12]
    rw [e]
    exact step_hit h (Lib.hid hi) ok (g := 35) (Lib.hid (by rw [q12]; rfl)) (fun w => by kernel_rfl) (Lib.hid fun X hX => trap_any (Lib.hid hX) hN h0 h1 i (Lib.hid ok))
  · have e : doM v.num i x = x.on := by
      unfold doM
      repeat rw [if_neg (by omega)]
    have e2 : i.k < 0 ∨ 13 < i.k ∨ i.k = 8 := by omega
    rw [e]
    by_cases q8 : i.k = 8
    · exact step_hit h (Lib.hid hi) ok (g := 23) (Lib.hid (by rw [q8]; rfl)) (fun w => by kernel_rfl) (Lib.hid fun X hX => nothing_any (Lib.hid hX) hN h0 h1 i (Lib.hid ok))
    · exact step_miss h (Lib.hid hi) ok (Lib.hid (kindF_none (by omega))) hN h0 h1
end
end Go.Proofs.Ytnmalhjhfddjpaa
