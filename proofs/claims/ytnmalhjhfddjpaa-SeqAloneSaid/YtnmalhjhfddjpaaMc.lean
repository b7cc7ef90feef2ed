/- What a Load, and a Store, does. -/
import Derived.Test.YtnmalhjhfddjpaaAhd
import Derived.Deep.RegionHeld3
import Derived.StillTailTactics
namespace Go.Proofs.Ytnmalhjhfddjpaa
set_option linter.unusedSimpArgs false
set_option linter.unusedVariables false
open Go Go.RowKit
section
variable {W : World} {v : V} {x : S1} {N : Nat}
set_option maxRecDepth 100000 in
set_option maxHeartbeats 2000000 in
theorem load_no (h : Hid (TV W v x N)) (hN : N < 1000000) (h0 : 0 ≤ x.pc) (h1 : x.pc ≤ 1000000) (i : Ic) (hi : Hid (Ok6 i)) {q : Int} (hq : Hid (wordM x i = q)) (hb : Hid ((decide (0 ≤ q) && decide (q < (v.mn : Int))) = false)) : Calls Try.prog 28 #[.pointer (some ⟨v.tb, 0, none⟩), i.v] W (Post W v ((x.set i.d 0).on) (N + 1)) := by
  have HLT := Lib.hid h.out.lt
  go_enter Try.func28, Try.ntmps28
  go_upto_region 1 with (fail)
  refine name_world ?_
  intro W1 hW1
  have HB1 : Hid (Below W.heap.size W W1) := Lib.hid (by rw [hW1]; exact ((Below.refl _ _).alloc (Nat.le_refl _) _).alloc (by simp) _)
  have HI1 : Hid (Ib W1 W.heap.size i) := Lib.hid (by rw [hW1]; exact (Below.heap_alloc _ _ _ (by simp)).trans (Ib.new rfl i))
  have HE1 : Hid (Eb W1 (W.heap.size + 1) (.int .i64 0) (.int .i64 0) (.int .i64 0)) := Lib.hid (by rw [hW1]; exact Eb.new (by simp) _ _ _)
  have HT1 := Lib.hid (h.out.stay HB1.out)
  have HC1 : Hid (Ch v.S W W1) := Lib.hid (.of HB1.out)
  clear hW1
  obtain ⟨il1, i0, i1, i2, i3, i4, i5, i6⟩ := HI1.out.facts
  go_wp2_with (first
    | (go_at_call 40; ((with_reducible refine (word_is HT1 i hi.out hq.out).mono ?_); rintro e2 w2 ⟨rfl, hb2⟩; have HT2 := Lib.hid (HT1.out.stay hb2); have HC2 := Lib.hid (HC1.out.stepB hb2); have HI2 := Lib.hid (ib_stay HI1.out hb2); have HE2 := Lib.hid (eb_stay HE1.out hb2); obtain ⟨tl, t0, t1, t2, t3, t4, t5, t6, f3, f5, f6⟩ := HT2.out.thr.facts; obtain ⟨rl, r0, r1, r2, f0⟩ := HT2.out.run.facts; obtain ⟨il2, j0, j1, j2, j3, j4, j5, j6⟩ := HI2.out.facts; clear hb2))
    | (go_at_call 41; ((with_reducible refine (has_is HT2 hb.out).mono ?_); rintro er wr ⟨rfl, rfl⟩))
    | (go_at_call 38; ((with_reducible refine (write_any HT2 hN hi.out.id 0).mono ?_); rintro e3 w3 ⟨rfl, ht3, hc3⟩; have HT3 := Lib.hid ht3; have HC3 := Lib.hid (HC2.out.trans hc3); have HI3 := Lib.hid (ib_keep HLT.out hc3 HI2.out (Nat.le_refl _)); have HE3 := Lib.hid (eb_keep HLT.out hc3 HE2.out (Nat.le_succ _)); obtain ⟨il3, j0, j1, j2, j3, j4, j5, j6⟩ := HI3.out.facts; clear ht3 hc3))
    | (go_at_call 37; ((with_reducible refine (on_set HT3 h0 h1).mono ?_); rintro e4 w4 ⟨rfl, ht4, hc4⟩; have HT4 := Lib.hid ht4; have HC4 := Lib.hid (HC3.out.trans hc4); have HI4 := Lib.hid (ib_keep HLT.out hc4 HI3.out (Nat.le_refl _)); have HE4 := Lib.hid (eb_keep HLT.out hc4 HE3.out (Nat.le_succ _)); obtain ⟨el4, e0, e1, e2, g0, g1, g2⟩ := HE4.out.facts; clear ht4 hc4)))
  exact bodyPost_ret (results_e3 (n := W.heap.size + 1) (v0 := (.int .i64 0)) (v1 := (.int .i64 0)) (v2 := (.int .i64 0)) Try.results28 _ (.int .i64 0) (.bool false) rfl rfl rfl (HE4.out.all _ _ _)) rfl (fin3 HLT.out HT4.out HC4.out (Nat.le_succ _) _ _ _)
set_option maxRecDepth 100000 in
set_option maxHeartbeats 2000000 in
theorem load_yes (h : Hid (TV W v x N)) (hN : N < 1000000) (h0 : 0 ≤ x.pc) (h1 : x.pc ≤ 1000000) (i : Ic) (hi : Hid (Ok6 i)) {k g o mn mc : Nat} {n : Int} (hq : Hid (wordM x i = (k : Int))) (hb : Hid ((decide (0 ≤ (k : Int)) && decide ((k : Int) < (v.mn : Int))) = true)) (hp : Hid (v.mp = some ⟨g, o, none⟩ ∧ v.mn = mn ∧ v.mc = mc)) (hk : k < mn) (hmn : mn < 1000000) (hg : g < W.heap.size) (hmc : Hid (W.cell? ⟨g, o + k, none⟩ = some (.int .i64 n))) : Calls Try.prog 28 #[.pointer (some ⟨v.tb, 0, none⟩), i.v] W (Post W v ((x.set i.d n).on) (N + 1)) := by
  have HLT := Lib.hid h.out.lt
  have hk2 : (k : Int) < (mn : Int) := by omega
  have hk3 : (0 : Int) ≤ k := by omega
  go_enter Try.func28, Try.ntmps28
  go_upto_region 1 with (fail)
  refine name_world ?_
  intro W1 hW1
  have HB1 : Hid (Below W.heap.size W W1) := Lib.hid (by rw [hW1]; exact ((Below.refl _ _).alloc (Nat.le_refl _) _).alloc (by simp) _)
  have HI1 : Hid (Ib W1 W.heap.size i) := Lib.hid (by rw [hW1]; exact (Below.heap_alloc _ _ _ (by simp)).trans (Ib.new rfl i))
  have HE1 : Hid (Eb W1 (W.heap.size + 1) (.int .i64 0) (.int .i64 0) (.int .i64 0)) := Lib.hid (by rw [hW1]; exact Eb.new (by simp) _ _ _)
  have HT1 := Lib.hid (h.out.stay HB1.out)
  have HC1 : Hid (Ch v.S W W1) := Lib.hid (.of HB1.out)
  clear hW1
  obtain ⟨il1, i0, i1, i2, i3, i4, i5, i6⟩ := HI1.out.facts
  have mc1 := (HB1.out.cell (p := ⟨g, o + k, none⟩) hg).trans hmc.out
  go_wp2_with (first
    | (go_at_call 40; ((with_reducible refine (word_is HT1 i hi.out hq.out).mono ?_); rintro e2 w2 ⟨rfl, hb2⟩; have HT2 := Lib.hid (HT1.out.stay hb2); have HC2 := Lib.hid (HC1.out.stepB hb2); have HI2 := Lib.hid (ib_stay HI1.out hb2); have HE2 := Lib.hid (eb_stay HE1.out hb2); obtain ⟨tl, t0, t1, t2, t3, t4, t5, t6, f3, f5, f6⟩ := HT2.out.thr.facts; obtain ⟨rl, r0, r1, r2, f0⟩ := HT2.out.run.facts; rw [hp.out.1, hp.out.2.1, hp.out.2.2] at r1; have mc2 := (hb2.cell (p := ⟨g, o + k, none⟩) (Nat.lt_of_lt_of_le hg HB1.out.size)).trans mc1; obtain ⟨il2, j0, j1, j2, j3, j4, j5, j6⟩ := HI2.out.facts; clear hb2))
    | (go_at_call 41; ((with_reducible refine (has_is HT2 hb.out).mono ?_); rintro er wr ⟨rfl, rfl⟩))
    | (go_at_call 38; ((with_reducible refine (write_any HT2 hN hi.out.id n).mono ?_); rintro e3 w3 ⟨rfl, ht3, hc3⟩; have HT3 := Lib.hid ht3; have HC3 := Lib.hid (HC2.out.trans hc3); have HI3 := Lib.hid (ib_keep HLT.out hc3 HI2.out (Nat.le_refl _)); have HE3 := Lib.hid (eb_keep HLT.out hc3 HE2.out (Nat.le_succ _)); obtain ⟨il3, j0, j1, j2, j3, j4, j5, j6⟩ := HI3.out.facts; clear ht3 hc3))
    | (go_at_call 37; ((with_reducible refine (on_set HT3 h0 h1).mono ?_); rintro e4 w4 ⟨rfl, ht4, hc4⟩; have HT4 := Lib.hid ht4; have HC4 := Lib.hid (HC3.out.trans hc4); have HI4 := Lib.hid (ib_keep HLT.out hc4 HI3.out (Nat.le_refl _)); have HE4 := Lib.hid (eb_keep HLT.out hc4 HE3.out (Nat.le_succ _)); obtain ⟨el4, e0, e1, e2, g0, g1, g2⟩ := HE4.out.facts; clear ht4 hc4)))
  exact bodyPost_ret (results_e3 (n := W.heap.size + 1) (v0 := (.int .i64 0)) (v1 := (.int .i64 0)) (v2 := (.int .i64 0)) Try.results28 _ (.int .i64 0) (.bool false) rfl rfl rfl (HE4.out.all _ _ _)) rfl (fin3 HLT.out HT4.out HC4.out (Nat.le_succ _) _ _ _)
set_option maxRecDepth 100000 in
set_option maxHeartbeats 2000000 in
theorem store_no (h : Hid (TV W v x N)) (hN : N < 1000000) (h0 : 0 ≤ x.pc) (h1 : x.pc ≤ 1000000) (i : Ic) (hi : Hid (Ok6 i)) {q : Int} (hq : Hid (wordM x i = q)) (hb : Hid ((decide (0 ≤ q) && decide (q < (v.mn : Int))) = false)) : Calls Try.prog 29 #[.pointer (some ⟨v.tb, 0, none⟩), i.v] W (Post W v (x.on) (N + 1)) := by
  have HLT := Lib.hid h.out.lt
  go_enter Try.func29, Try.ntmps29
  go_upto_region 1 with (fail)
  refine name_world ?_
  intro W1 hW1
  have HB1 : Hid (Below W.heap.size W W1) := Lib.hid (by rw [hW1]; exact ((Below.refl _ _).alloc (Nat.le_refl _) _).alloc (by simp) _)
  have HI1 : Hid (Ib W1 W.heap.size i) := Lib.hid (by rw [hW1]; exact (Below.heap_alloc _ _ _ (by simp)).trans (Ib.new rfl i))
  have HE1 : Hid (Eb W1 (W.heap.size + 1) (.int .i64 0) (.int .i64 0) (.int .i64 0)) := Lib.hid (by rw [hW1]; exact Eb.new (by simp) _ _ _)
  have HT1 := Lib.hid (h.out.stay HB1.out)
  have HC1 : Hid (Ch v.S W W1) := Lib.hid (.of HB1.out)
  clear hW1
  obtain ⟨il1, i0, i1, i2, i3, i4, i5, i6⟩ := HI1.out.facts
  go_wp2_with (first
    | (go_at_call 40; ((with_reducible refine (word_is HT1 i hi.out hq.out).mono ?_); rintro e2 w2 ⟨rfl, hb2⟩; have HT2 := Lib.hid (HT1.out.stay hb2); have HC2 := Lib.hid (HC1.out.stepB hb2); have HI2 := Lib.hid (ib_stay HI1.out hb2); have HE2 := Lib.hid (eb_stay HE1.out hb2); obtain ⟨tl, t0, t1, t2, t3, t4, t5, t6, f3, f5, f6⟩ := HT2.out.thr.facts; obtain ⟨rl, r0, r1, r2, f0⟩ := HT2.out.run.facts; obtain ⟨il2, j0, j1, j2, j3, j4, j5, j6⟩ := HI2.out.facts; clear hb2))
    | (go_at_call 41; ((with_reducible refine (has_is HT2 hb.out).mono ?_); rintro er wr ⟨rfl, rfl⟩))
    | (go_at_call 37; ((with_reducible refine (on_any HT2 h0 h1).mono ?_); rintro e3 w3 ⟨rfl, ht3, hc3⟩; have HT3 := Lib.hid ht3; have HC3 := Lib.hid (HC2.out.trans hc3); have HI3 := Lib.hid (ib_keep HLT.out hc3 HI2.out (Nat.le_refl _)); have HE3 := Lib.hid (eb_keep HLT.out hc3 HE2.out (Nat.le_succ _)); obtain ⟨el3, e0, e1, e2, g0, g1, g2⟩ := HE3.out.facts; clear ht3 hc3)))
  exact bodyPost_ret (results_e3 (n := W.heap.size + 1) (v0 := (.int .i64 0)) (v1 := (.int .i64 0)) (v2 := (.int .i64 0)) Try.results29 _ (.int .i64 0) (.bool false) rfl rfl rfl (HE3.out.all _ _ _)) rfl (fin3 HLT.out (HT3.out.mono (Nat.le_succ _)) HC3.out (Nat.le_succ _) _ _ _)
set_option maxRecDepth 100000 in
set_option maxHeartbeats 2000000 in
theorem store_yes (h : Hid (TV W v x N)) (hN : N < 1000000) (h0 : 0 ≤ x.pc) (h1 : x.pc ≤ 1000000) (i : Ic) (hi : Hid (Ok6 i)) {k g o mn mc : Nat} {n : Int} (hq : Hid (wordM x i = (k : Int))) (hb : Hid ((decide (0 ≤ (k : Int)) && decide ((k : Int) < (v.mn : Int))) = true)) (hp : Hid (v.mp = some ⟨g, o, none⟩ ∧ v.mn = mn ∧ v.mc = mc)) (hk : k < mn) (hmn : mn < 1000000) (hg : g < W.heap.size) (hmc : Hid (W.cell? ⟨g, o + k, none⟩ = some (.int .i64 n))) (hmf : Hid (W.frozen? ⟨g, o + k, none⟩ = false)) : Calls Try.prog 29 #[.pointer (some ⟨v.tb, 0, none⟩), i.v] W (Post W v (({ x with mem := x.mem.set k (x.regs i.b) } : S1).on) (N + 1)) := by
  have HLT := Lib.hid h.out.lt
  have hk2 : (k : Int) < (mn : Int) := by omega
  have hk3 : (0 : Int) ≤ k := by omega
  go_enter Try.func29, Try.ntmps29
  go_upto_region 1 with (fail)
  refine name_world ?_
  intro W1 hW1
  have HB1 : Hid (Below W.heap.size W W1) := Lib.hid (by rw [hW1]; exact ((Below.refl _ _).alloc (Nat.le_refl _) _).alloc (by simp) _)
  have HI1 : Hid (Ib W1 W.heap.size i) := Lib.hid (by rw [hW1]; exact (Below.heap_alloc _ _ _ (by simp)).trans (Ib.new rfl i))
  have HE1 : Hid (Eb W1 (W.heap.size + 1) (.int .i64 0) (.int .i64 0) (.int .i64 0)) := Lib.hid (by rw [hW1]; exact Eb.new (by simp) _ _ _)
  have HT1 := Lib.hid (h.out.stay HB1.out)
  have HC1 : Hid (Ch v.S W W1) := Lib.hid (.of HB1.out)
  clear hW1
  obtain ⟨il1, i0, i1, i2, i3, i4, i5, i6⟩ := HI1.out.facts
  have mc1 := (HB1.out.cell (p := ⟨g, o + k, none⟩) hg).trans hmc.out
  have mf1 := (HB1.out.frozen (p := ⟨g, o + k, none⟩) hg).trans hmf.out
  go_wp2_with (first
    | (go_at_call 40; ((with_reducible refine (word_is HT1 i hi.out hq.out).mono ?_); rintro e2 w2 ⟨rfl, hb2⟩; have HT2 := Lib.hid (HT1.out.stay hb2); have HC2 := Lib.hid (HC1.out.stepB hb2); have HI2 := Lib.hid (ib_stay HI1.out hb2); have HE2 := Lib.hid (eb_stay HE1.out hb2); obtain ⟨tl, t0, t1, t2, t3, t4, t5, t6, f3, f5, f6⟩ := HT2.out.thr.facts; obtain ⟨rl, r0, r1, r2, f0⟩ := HT2.out.run.facts; rw [hp.out.1, hp.out.2.1, hp.out.2.2] at r1; have mc2 := (hb2.cell (p := ⟨g, o + k, none⟩) (Nat.lt_of_lt_of_le hg HB1.out.size)).trans mc1; have mf2 := (hb2.frozen (p := ⟨g, o + k, none⟩) (Nat.lt_of_lt_of_le hg HB1.out.size)).trans mf1; obtain ⟨il2, j0, j1, j2, j3, j4, j5, j6⟩ := HI2.out.facts; clear hb2))
    | (go_at_call 41; ((with_reducible refine (has_is HT2 hb.out).mono ?_); rintro er wr ⟨rfl, rfl⟩)))
  have hgw2 : g < w2.heap.size := Nat.lt_of_lt_of_le hg (by have := HC2.out.size; omega)
  go_still_tail 13, (by kernel_rfl)
  still_call ((read_any (Lib.hid HT2.out.drew) hi.out.ib).mono fun e w' ⟨a, b⟩ => ⟨a, b.symm⟩)
  repeat still_step
  refine wpStill_nil ?_
  have HT3 : Hid (TV (w2.setCell ⟨g, o + k, none⟩ (.int .i64 (x.regs i.b))).drew v { x with mem := x.mem.set k (x.regs i.b) } N) := Lib.hid (HT2.out.setMem hp.out.1 (by rw [hp.out.2.1]; exact hk) _).drew
  have hc3 : Ch v.S w2 (w2.setCell ⟨g, o + k, none⟩ (.int .i64 (x.regs i.b))).drew := ((Ch.refl _ _).set (.inl (.inr (.inr (.inr ⟨_, hp.out.1, rfl⟩)))) _ _).drew
  have HC3 := Lib.hid (HC2.out.trans hc3)
  have HE3 := Lib.hid (eb_keep HLT.out hc3 HE2.out (Nat.le_succ _))
  have HI3 := Lib.hid (ib_keep HLT.out hc3 HI2.out (Nat.le_refl _))
  clear hc3
  go_wp2_with (first
    | (go_at_call 37; ((with_reducible refine (on_mem HT3 h0 h1).mono ?_); rintro e4 w4 ⟨rfl, ht4, hc4⟩; have HT4 := Lib.hid ht4; have HC4 := Lib.hid (HC3.out.trans hc4); have HI4 := Lib.hid (ib_keep HLT.out hc4 HI3.out (Nat.le_refl _)); have HE4 := Lib.hid (eb_keep HLT.out hc4 HE3.out (Nat.le_succ _)); obtain ⟨el4, e0, e1, e2, g0, g1, g2⟩ := HE4.out.facts; clear ht4 hc4)))
  exact bodyPost_ret (results_e3 (n := W.heap.size + 1) (v0 := (.int .i64 0)) (v1 := (.int .i64 0)) (v2 := (.int .i64 0)) Try.results29 _ (.int .i64 0) (.bool false) rfl rfl rfl (HE4.out.all _ _ _)) rfl (fin3 HLT.out (HT4.out.mono (Nat.le_succ _)) HC4.out (Nat.le_succ _) _ _ _)
end
end Go.Proofs.Ytnmalhjhfddjpaa
