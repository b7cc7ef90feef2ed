/- What the kinds do, one by one: those that take one or two steps. -/
import Derived.Test.YtnmalhjhfddjpaaAhd
import Derived.Deep.RegionHeld3
import Derived.StillTailTactics
namespace Go.Proofs.Ytnmalhjhfddjpaa
set_option linter.unusedSimpArgs false
set_option linter.unusedVariables false
open Go Go.RowKit
section
variable {W : World} {v : V} {x : S1} {N : Nat}
set_option maxRecDepth 100000 in
set_option maxHeartbeats 2000000 in
theorem set_any (h : Hid (TV W v x N)) (hN : N < 1000000) (h0 : 0 ≤ x.pc) (h1 : x.pc ≤ 1000000) (i : Ic) (hi : Hid (Ok6 i)) : Calls Try.prog 24 #[.pointer (some ⟨v.tb, 0, none⟩), i.v] W (Post W v ((x.set i.d i.n).on) (N + 1)) := by
  have HLT := Lib.hid h.out.lt
  go_enter Try.func24, Try.ntmps24
  go_upto_region 1 with (fail)
  refine name_world ?_
  intro W1 hW1
  have HB1 : Hid (Below W.heap.size W W1) := Lib.hid (by rw [hW1]; exact ((Below.refl _ _).alloc (Nat.le_refl _) _).alloc (by simp) _)
  have HI1 : Hid (Ib W1 W.heap.size i) := Lib.hid (by rw [hW1]; exact (Below.heap_alloc _ _ _ (by simp)).trans (Ib.new rfl i))
  have HE1 : Hid (Eb W1 (W.heap.size + 1) (.int .i64 0) (.int .i64 0) (.int .i64 0)) := Lib.hid (by rw [hW1]; exact Eb.new (by simp) _ _ _)
  have HT1 := Lib.hid (h.out.stay HB1.out)
  have HC1 : Hid (Ch v.S W W1) := Lib.hid (.of HB1.out)
  clear hW1
  obtain ⟨il1, i0, i1, i2, i3, i4, i5, i6⟩ := HI1.out.facts
  go_wp2_with (first
    | (go_at_call 38; ((with_reducible refine (write_any HT1 hN hi.out.id i.n).mono ?_); rintro e2 w2 ⟨rfl, ht2, hc2⟩; have HT2 := Lib.hid ht2; have HC2 := Lib.hid (HC1.out.trans hc2); have HI2 := Lib.hid (ib_keep HLT.out hc2 HI1.out (Nat.le_refl _)); have HE2 := Lib.hid (eb_keep HLT.out hc2 HE1.out (Nat.le_succ _)); obtain ⟨il2, j0, j1, j2, j3, j4, j5, j6⟩ := HI2.out.facts; clear ht2 hc2))
    | (go_at_call 37; ((with_reducible refine (on_set HT2 h0 h1).mono ?_); rintro e3 w3 ⟨rfl, ht3, hc3⟩; have HT3 := Lib.hid ht3; have HC3 := Lib.hid (HC2.out.trans hc3); have HI3 := Lib.hid (ib_keep HLT.out hc3 HI2.out (Nat.le_refl _)); have HE3 := Lib.hid (eb_keep HLT.out hc3 HE2.out (Nat.le_succ _)); obtain ⟨el3, e0, e1, e2, g0, g1, g2⟩ := HE3.out.facts; clear ht3 hc3)))
  exact bodyPost_ret (results_e3 (n := W.heap.size + 1) (v0 := (.int .i64 0)) (v1 := (.int .i64 0)) (v2 := (.int .i64 0)) Try.results24 _ (.int .i64 0) (.bool false) rfl rfl rfl (HE3.out.all _ _ _)) rfl (fin3 HLT.out HT3.out HC3.out (Nat.le_succ _) _ _ _)
set_option maxRecDepth 100000 in
set_option maxHeartbeats 2000000 in
theorem jump_any (h : Hid (TV W v x N)) (hN : N < 1000000) (h0 : 0 ≤ x.pc) (h1 : x.pc ≤ 1000000) (i : Ic) (hi : Hid (Ok6 i)) : Calls Try.prog 30 #[.pointer (some ⟨v.tb, 0, none⟩), i.v] W (Post W v (x.to i.t) (N + 1)) := by
  have HLT := Lib.hid h.out.lt
  go_enter Try.func30, Try.ntmps30
  go_upto_region 1 with (fail)
  refine name_world ?_
  intro W1 hW1
  have HB1 : Hid (Below W.heap.size W W1) := Lib.hid (by rw [hW1]; exact ((Below.refl _ _).alloc (Nat.le_refl _) _).alloc (by simp) _)
  have HI1 : Hid (Ib W1 W.heap.size i) := Lib.hid (by rw [hW1]; exact (Below.heap_alloc _ _ _ (by simp)).trans (Ib.new rfl i))
  have HE1 : Hid (Eb W1 (W.heap.size + 1) (.int .i64 0) (.int .i64 0) (.int .i64 0)) := Lib.hid (by rw [hW1]; exact Eb.new (by simp) _ _ _)
  have HT1 := Lib.hid (h.out.stay HB1.out)
  have HC1 : Hid (Ch v.S W W1) := Lib.hid (.of HB1.out)
  clear hW1
  obtain ⟨il1, i0, i1, i2, i3, i4, i5, i6⟩ := HI1.out.facts
  go_wp2_with (first
    | (go_at_call 42; ((with_reducible refine (to_any HT1 i.t).mono ?_); rintro e2 w2 ⟨rfl, ht2, hc2⟩; have HT2 := Lib.hid ht2; have HC2 := Lib.hid (HC1.out.trans hc2); have HI2 := Lib.hid (ib_keep HLT.out hc2 HI1.out (Nat.le_refl _)); have HE2 := Lib.hid (eb_keep HLT.out hc2 HE1.out (Nat.le_succ _)); obtain ⟨el2, e0, e1, e2, g0, g1, g2⟩ := HE2.out.facts; clear ht2 hc2)))
  exact bodyPost_ret (results_e3 (n := W.heap.size + 1) (v0 := (.int .i64 0)) (v1 := (.int .i64 0)) (v2 := (.int .i64 0)) Try.results30 _ (.int .i64 0) (.bool false) rfl rfl rfl (HE2.out.all _ _ _)) rfl (fin3 HLT.out (HT2.out.mono (Nat.le_succ _)) HC2.out (Nat.le_succ _) _ _ _)
set_option maxRecDepth 100000 in
set_option maxHeartbeats 2000000 in
theorem nothing_any (h : Hid (TV W v x N)) (hN : N < 1000000) (h0 : 0 ≤ x.pc) (h1 : x.pc ≤ 1000000) (i : Ic) (hi : Hid (Ok6 i)) : Calls Try.prog 23 #[.pointer (some ⟨v.tb, 0, none⟩), i.v] W (Post W v (x.on) (N + 1)) := by
  have HLT := Lib.hid h.out.lt
  go_enter Try.func23, Try.ntmps23
  go_upto_region 1 with (fail)
  refine name_world ?_
  intro W1 hW1
  have HB1 : Hid (Below W.heap.size W W1) := Lib.hid (by rw [hW1]; exact ((Below.refl _ _).alloc (Nat.le_refl _) _).alloc (by simp) _)
  have HI1 : Hid (Ib W1 W.heap.size i) := Lib.hid (by rw [hW1]; exact (Below.heap_alloc _ _ _ (by simp)).trans (Ib.new rfl i))
  have HE1 : Hid (Eb W1 (W.heap.size + 1) (.int .i64 0) (.int .i64 0) (.int .i64 0)) := Lib.hid (by rw [hW1]; exact Eb.new (by simp) _ _ _)
  have HT1 := Lib.hid (h.out.stay HB1.out)
  have HC1 : Hid (Ch v.S W W1) := Lib.hid (.of HB1.out)
  clear hW1
  obtain ⟨il1, i0, i1, i2, i3, i4, i5, i6⟩ := HI1.out.facts
  go_wp2_with (first
    | (go_at_call 37; ((with_reducible refine (on_any HT1 h0 h1).mono ?_); rintro e2 w2 ⟨rfl, ht2, hc2⟩; have HT2 := Lib.hid ht2; have HC2 := Lib.hid (HC1.out.trans hc2); have HI2 := Lib.hid (ib_keep HLT.out hc2 HI1.out (Nat.le_refl _)); have HE2 := Lib.hid (eb_keep HLT.out hc2 HE1.out (Nat.le_succ _)); obtain ⟨el2, e0, e1, e2, g0, g1, g2⟩ := HE2.out.facts; clear ht2 hc2)))
  exact bodyPost_ret (results_e3 (n := W.heap.size + 1) (v0 := (.int .i64 0)) (v1 := (.int .i64 0)) (v2 := (.int .i64 0)) Try.results23 _ (.int .i64 0) (.bool false) rfl rfl rfl (HE2.out.all _ _ _)) rfl (fin3 HLT.out (HT2.out.mono (Nat.le_succ _)) HC2.out (Nat.le_succ _) _ _ _)
set_option maxRecDepth 100000 in
set_option maxHeartbeats 2000000 in
theorem out_any (h : Hid (TV W v x N)) (hN : N < 1000000) (h0 : 0 ≤ x.pc) (h1 : x.pc ≤ 1000000) (i : Ic) (hi : Hid (Ok6 i)) : Calls Try.prog 34 #[.pointer (some ⟨v.tb, 0, none⟩), i.v] W (Post W v (x.did v.num 0 (x.regs i.a)) (N + 1)) := by
  have HLT := Lib.hid h.out.lt
  go_enter Try.func34, Try.ntmps34
  go_upto_region 1 with (fail)
  refine name_world ?_
  intro W1 hW1
  have HB1 : Hid (Below W.heap.size W W1) := Lib.hid (by rw [hW1]; exact ((Below.refl _ _).alloc (Nat.le_refl _) _).alloc (by simp) _)
  have HI1 : Hid (Ib W1 W.heap.size i) := Lib.hid (by rw [hW1]; exact (Below.heap_alloc _ _ _ (by simp)).trans (Ib.new rfl i))
  have HE1 : Hid (Eb W1 (W.heap.size + 1) (.int .i64 0) (.int .i64 0) (.int .i64 0)) := Lib.hid (by rw [hW1]; exact Eb.new (by simp) _ _ _)
  have HT1 := Lib.hid (h.out.stay HB1.out)
  have HC1 : Hid (Ch v.S W W1) := Lib.hid (.of HB1.out)
  clear hW1
  obtain ⟨il1, i0, i1, i2, i3, i4, i5, i6⟩ := HI1.out.facts
  go_wp2_with (first
    | (go_at_call 19; ((with_reducible refine (read_any HT1 hi.out.ia).mono ?_); rintro er wr ⟨rfl, rfl⟩))
    | (go_at_call 43; ((with_reducible refine (did_any HT1 h0 h1 0 (x.regs i.a)).mono ?_); rintro e2 w2 ⟨rfl, ht2, hc2⟩; have HT2 := Lib.hid ht2; have HC2 := Lib.hid (HC1.out.trans hc2); have HI2 := Lib.hid (ib_keep HLT.out hc2 HI1.out (Nat.le_refl _)); have HE2 := Lib.hid (eb_keep HLT.out hc2 HE1.out (Nat.le_succ _)); obtain ⟨el2, e0, e1, e2, g0, g1, g2⟩ := HE2.out.facts; clear ht2 hc2)))
  exact bodyPost_ret (results_e3 (n := W.heap.size + 1) (v0 := (.int .i64 0)) (v1 := (.int .i64 v.num)) (v2 := (.int .i64 (x.regs i.a))) Try.results34 _ (.int .i64 0) (.bool true) rfl rfl rfl (HE2.out.all _ _ _)) rfl (fin3 HLT.out (HT2.out.mono (Nat.le_succ _)) HC2.out (Nat.le_succ _) _ _ _)
set_option maxRecDepth 100000 in
set_option maxHeartbeats 2000000 in
theorem trap_any (h : Hid (TV W v x N)) (hN : N < 1000000) (h0 : 0 ≤ x.pc) (h1 : x.pc ≤ 1000000) (i : Ic) (hi : Hid (Ok6 i)) : Calls Try.prog 35 #[.pointer (some ⟨v.tb, 0, none⟩), i.v] W (Post W v (x.fin v.num 3 i.n) (N + 1)) := by
  have HLT := Lib.hid h.out.lt
  go_enter Try.func35, Try.ntmps35
  go_upto_region 1 with (fail)
  refine name_world ?_
  intro W1 hW1
  have HB1 : Hid (Below W.heap.size W W1) := Lib.hid (by rw [hW1]; exact ((Below.refl _ _).alloc (Nat.le_refl _) _).alloc (by simp) _)
  have HI1 : Hid (Ib W1 W.heap.size i) := Lib.hid (by rw [hW1]; exact (Below.heap_alloc _ _ _ (by simp)).trans (Ib.new rfl i))
  have HE1 : Hid (Eb W1 (W.heap.size + 1) (.int .i64 0) (.int .i64 0) (.int .i64 0)) := Lib.hid (by rw [hW1]; exact Eb.new (by simp) _ _ _)
  have HT1 := Lib.hid (h.out.stay HB1.out)
  have HC1 : Hid (Ch v.S W W1) := Lib.hid (.of HB1.out)
  clear hW1
  obtain ⟨il1, i0, i1, i2, i3, i4, i5, i6⟩ := HI1.out.facts
  go_wp2_with (first
    | (go_at_call 44; ((with_reducible refine (end_any HT1 3 i.n).mono ?_); rintro e2 w2 ⟨rfl, ht2, hc2⟩; have HT2 := Lib.hid ht2; have HC2 := Lib.hid (HC1.out.trans hc2); have HI2 := Lib.hid (ib_keep HLT.out hc2 HI1.out (Nat.le_refl _)); have HE2 := Lib.hid (eb_keep HLT.out hc2 HE1.out (Nat.le_succ _)); obtain ⟨el2, e0, e1, e2, g0, g1, g2⟩ := HE2.out.facts; clear ht2 hc2)))
  exact bodyPost_ret (results_e3 (n := W.heap.size + 1) (v0 := (.int .i64 3)) (v1 := (.int .i64 v.num)) (v2 := (.int .i64 i.n)) Try.results35 _ (.int .i64 0) (.bool true) rfl rfl rfl (HE2.out.all _ _ _)) rfl (fin3 HLT.out (HT2.out.mono (Nat.le_succ _)) HC2.out (Nat.le_succ _) _ _ _)
set_option maxRecDepth 100000 in
set_option maxHeartbeats 2000000 in
theorem halt_any (h : Hid (TV W v x N)) (hN : N < 1000000) (i : Ic) (hi : Hid (Ok6 i)) : Calls Try.prog 36 #[.pointer (some ⟨v.tb, 0, none⟩), i.v] W (Post W v (x.fin v.num 4 0) (N + 1)) := by
  have HLT := Lib.hid h.out.lt
  go_enter Try.func36, Try.ntmps36
  go_upto_region 1 with (fail)
  refine name_world ?_
  intro W1 hW1
  have HB1 : Hid (Below W.heap.size W W1) := Lib.hid (by rw [hW1]; exact ((Below.refl _ _).alloc (Nat.le_refl _) _).alloc (by simp) _)
  have HI1 : Hid (Ib W1 W.heap.size i) := Lib.hid (by rw [hW1]; exact (Below.heap_alloc _ _ _ (by simp)).trans (Ib.new rfl i))
  have HE1 : Hid (Eb W1 (W.heap.size + 1) (.int .i64 0) (.int .i64 0) (.int .i64 0)) := Lib.hid (by rw [hW1]; exact Eb.new (by simp) _ _ _)
  have HT1 := Lib.hid (h.out.stay HB1.out)
  have HC1 : Hid (Ch v.S W W1) := Lib.hid (.of HB1.out)
  clear hW1
  obtain ⟨il1, i0, i1, i2, i3, i4, i5, i6⟩ := HI1.out.facts
  go_wp2_with (first
    | (go_at_call 44; ((with_reducible refine (end_any HT1 4 0).mono ?_); rintro e2 w2 ⟨rfl, ht2, hc2⟩; have HT2 := Lib.hid ht2; have HC2 := Lib.hid (HC1.out.trans hc2); have HI2 := Lib.hid (ib_keep HLT.out hc2 HI1.out (Nat.le_refl _)); have HE2 := Lib.hid (eb_keep HLT.out hc2 HE1.out (Nat.le_succ _)); obtain ⟨el2, e0, e1, e2, g0, g1, g2⟩ := HE2.out.facts; clear ht2 hc2)))
  exact bodyPost_ret (results_e3 (n := W.heap.size + 1) (v0 := (.int .i64 4)) (v1 := (.int .i64 v.num)) (v2 := (.int .i64 0)) Try.results36 _ (.int .i64 0) (.bool true) rfl rfl rfl (HE2.out.all _ _ _)) rfl (fin3 HLT.out (HT2.out.mono (Nat.le_succ _)) HC2.out (Nat.le_succ _) _ _ _)
set_option maxRecDepth 100000 in
set_option maxHeartbeats 2000000 in
theorem zero_no (h : Hid (TV W v x N)) (hN : N < 1000000) (h0 : 0 ≤ x.pc) (h1 : x.pc ≤ 1000000) (i : Ic) (hi : Hid (Ok6 i)) (hz : (x.regs i.a == 0) = false) : Calls Try.prog 31 #[.pointer (some ⟨v.tb, 0, none⟩), i.v] W (Post W v (x.on) (N + 1)) := by
  have HLT := Lib.hid h.out.lt
  go_enter Try.func31, Try.ntmps31
  go_upto_region 1 with (fail)
  refine name_world ?_
  intro W1 hW1
  have HB1 : Hid (Below W.heap.size W W1) := Lib.hid (by rw [hW1]; exact ((Below.refl _ _).alloc (Nat.le_refl _) _).alloc (by simp) _)
  have HI1 : Hid (Ib W1 W.heap.size i) := Lib.hid (by rw [hW1]; exact (Below.heap_alloc _ _ _ (by simp)).trans (Ib.new rfl i))
  have HE1 : Hid (Eb W1 (W.heap.size + 1) (.int .i64 0) (.int .i64 0) (.int .i64 0)) := Lib.hid (by rw [hW1]; exact Eb.new (by simp) _ _ _)
  have HT1 := Lib.hid (h.out.stay HB1.out)
  have HC1 : Hid (Ch v.S W W1) := Lib.hid (.of HB1.out)
  clear hW1
  obtain ⟨il1, i0, i1, i2, i3, i4, i5, i6⟩ := HI1.out.facts
  go_wp2_with (first
    | (go_at_call 19; ((with_reducible refine (read_any HT1 hi.out.ia).mono ?_); rintro er wr ⟨rfl, rfl⟩))
    | (go_at_call 37; ((with_reducible refine (on_any HT1 h0 h1).mono ?_); rintro e2 w2 ⟨rfl, ht2, hc2⟩; have HT2 := Lib.hid ht2; have HC2 := Lib.hid (HC1.out.trans hc2); have HI2 := Lib.hid (ib_keep HLT.out hc2 HI1.out (Nat.le_refl _)); have HE2 := Lib.hid (eb_keep HLT.out hc2 HE1.out (Nat.le_succ _)); obtain ⟨el2, e0, e1, e2, g0, g1, g2⟩ := HE2.out.facts; clear ht2 hc2)))
  exact bodyPost_ret (results_e3 (n := W.heap.size + 1) (v0 := (.int .i64 0)) (v1 := (.int .i64 0)) (v2 := (.int .i64 0)) Try.results31 _ (.int .i64 0) (.bool false) rfl rfl rfl (HE2.out.all _ _ _)) rfl (fin3 HLT.out (HT2.out.mono (Nat.le_succ _)) HC2.out (Nat.le_succ _) _ _ _)
set_option maxRecDepth 100000 in
set_option maxHeartbeats 2000000 in
theorem zero_yes (h : Hid (TV W v x N)) (hN : N < 1000000) (h0 : 0 ≤ x.pc) (h1 : x.pc ≤ 1000000) (i : Ic) (hi : Hid (Ok6 i)) (hz : (x.regs i.a == 0) = true) : Calls Try.prog 31 #[.pointer (some ⟨v.tb, 0, none⟩), i.v] W (Post W v (x.to i.t) (N + 1)) := by
  have HLT := Lib.hid h.out.lt
  go_enter Try.func31, Try.ntmps31
  go_upto_region 1 with (fail)
  refine name_world ?_
  intro W1 hW1
  have HB1 : Hid (Below W.heap.size W W1) := Lib.hid (by rw [hW1]; exact ((Below.refl _ _).alloc (Nat.le_refl _) _).alloc (by simp) _)
  have HI1 : Hid (Ib W1 W.heap.size i) := Lib.hid (by rw [hW1]; exact (Below.heap_alloc _ _ _ (by simp)).trans (Ib.new rfl i))
  have HE1 : Hid (Eb W1 (W.heap.size + 1) (.int .i64 0) (.int .i64 0) (.int .i64 0)) := Lib.hid (by rw [hW1]; exact Eb.new (by simp) _ _ _)
  have HT1 := Lib.hid (h.out.stay HB1.out)
  have HC1 : Hid (Ch v.S W W1) := Lib.hid (.of HB1.out)
  clear hW1
  obtain ⟨il1, i0, i1, i2, i3, i4, i5, i6⟩ := HI1.out.facts
  go_wp2_with (first
    | (go_at_call 19; ((with_reducible refine (read_any HT1 hi.out.ia).mono ?_); rintro er wr ⟨rfl, rfl⟩))
    | (go_at_call 42; ((with_reducible refine (to_any HT1 i.t).mono ?_); rintro e2 w2 ⟨rfl, ht2, hc2⟩; have HT2 := Lib.hid ht2; have HC2 := Lib.hid (HC1.out.trans hc2); have HI2 := Lib.hid (ib_keep HLT.out hc2 HI1.out (Nat.le_refl _)); have HE2 := Lib.hid (eb_keep HLT.out hc2 HE1.out (Nat.le_succ _)); obtain ⟨el2, e0, e1, e2, g0, g1, g2⟩ := HE2.out.facts; clear ht2 hc2)))
  exact bodyPost_ret (results_e3 (n := W.heap.size + 1) (v0 := (.int .i64 0)) (v1 := (.int .i64 0)) (v2 := (.int .i64 0)) Try.results31 _ (.int .i64 0) (.bool false) rfl rfl rfl (HE2.out.all _ _ _)) rfl (fin3 HLT.out (HT2.out.mono (Nat.le_succ _)) HC2.out (Nat.le_succ _) _ _ _)
end
end Go.Proofs.Ytnmalhjhfddjpaa
