/- What a Calc, a Move, and a Pick, does. -/
import Derived.Test.YtnmalhjhfddjpaaAhd
import Derived.Deep.RegionHeld3
import Derived.StillTailTactics
namespace Go.Proofs.Ytnmalhjhfddjpaa
set_option linter.unusedSimpArgs false
set_option linter.unusedVariables false
open Go Go.RowKit
section
variable {W : World} {v : V} {x : S1} {N : Nat}
set_option maxRecDepth 100000 in
set_option maxHeartbeats 2000000 in
theorem calc_any (h : Hid (TV W v x N)) (hN : N < 1000000) (h0 : 0 ≤ x.pc) (h1 : x.pc ≤ 1000000) (i : Ic) (hi : Hid (Ok6 i)) : Calls Try.prog 26 #[.pointer (some ⟨v.tb, 0, none⟩), i.v] W (Post W v ((x.set i.d (ev i.o (x.regs i.a) (x.regs i.b))).on) (N + 1)) := by
  have HLT := Lib.hid h.out.lt
  go_enter Try.func26, Try.ntmps26
  go_upto_region 1 with (fail)
  refine name_world ?_
  intro W1 hW1
  have HB1 : Hid (Below W.heap.size W W1) := Lib.hid (by rw [hW1]; exact ((Below.refl _ _).alloc (Nat.le_refl _) _).alloc (by simp) _)
  have HI1 : Hid (Ib W1 W.heap.size i) := Lib.hid (by rw [hW1]; exact (Below.heap_alloc _ _ _ (by simp)).trans (Ib.new rfl i))
  have HE1 : Hid (Eb W1 (W.heap.size + 1) (.int .i64 0) (.int .i64 0) (.int .i64 0)) := Lib.hid (by rw [hW1]; exact Eb.new (by simp) _ _ _)
  have HT1 := Lib.hid (h.out.stay HB1.out)
  have HC1 : Hid (Ch v.S W W1) := Lib.hid (.of HB1.out)
  clear hW1
  obtain ⟨il1, i0, i1, i2, i3, i4, i5, i6⟩ := HI1.out.facts
  have HT8 := Lib.hid HT1.out.drew
  have HC8 : Hid (Ch v.S W W1.drew) := Lib.hid HC1.out.drew
  have HI8 : Hid (Ib W1.drew W.heap.size i) := Lib.hid (ib_drew HI1.out)
  have HE8 : Hid (Eb W1.drew (W.heap.size + 1) (.int .i64 0) (.int .i64 0) (.int .i64 0)) := Lib.hid HE1.out
  go_region_held3 (fun w' => w'.cell? ⟨W.heap.size, 1, none⟩ = some (.int .i64 i.o) ∧ w'.cell? ⟨W.heap.size, 2, none⟩ = some (.int .i64 i.d) ∧ w'.cell? ⟨W.heap.size, 3, none⟩ = some (.int .i64 i.a) ∧ w'.cell? ⟨W.heap.size, 4, none⟩ = some (.int .i64 i.b))
    (first | exact ⟨i1, i2, i3, i4⟩ | exact ⟨j1, j2, j3, j4⟩)
    (first
      | (go_at_call 19; ((with_reducible refine (read_any HT8 hi.out.ia).mono ?_); rintro er wr ⟨rfl, rfl⟩))
      | (go_at_call 19; ((with_reducible refine (read_any HT8 hi.out.ib).mono ?_); rintro er wr ⟨rfl, rfl⟩))
      | (go_at_call 39; ((with_reducible refine (eval_any i.o (x.regs i.a) (x.regs i.b) _ hi.out.io.wf).mono ?_); rintro e2 w2 ⟨rfl, hb2⟩; have HT2 := Lib.hid (HT8.out.stay hb2); have HC2 := Lib.hid (HC8.out.stepB hb2); have HI2 := Lib.hid (ib_stay HI8.out hb2); have HE2 := Lib.hid (eb_stay HE8.out hb2); obtain ⟨il2, j0, j1, j2, j3, j4, j5, j6⟩ := HI2.out.facts; clear hb2))
      | (go_at_call 38; ((with_reducible refine (write_any HT2 hN hi.out.id (ev i.o (x.regs i.a) (x.regs i.b))).mono ?_); rintro e3 w3 ⟨rfl, ht3, hc3⟩; have HT3 := Lib.hid ht3; have HC3 := Lib.hid (HC2.out.trans hc3); have HI3 := Lib.hid (ib_keep HLT.out hc3 HI2.out (Nat.le_refl _)); have HE3 := Lib.hid (eb_keep HLT.out hc3 HE2.out (Nat.le_succ _)); obtain ⟨il3, j0, j1, j2, j3, j4, j5, j6⟩ := HI3.out.facts; clear ht3 hc3)))
  go_wp2_with (first
    | (go_at_call 37; ((with_reducible refine (on_set HT3 h0 h1).mono ?_); rintro e4 w4 ⟨rfl, ht4, hc4⟩; have HT4 := Lib.hid ht4; have HC4 := Lib.hid (HC3.out.trans hc4); have HI4 := Lib.hid (ib_keep HLT.out hc4 HI3.out (Nat.le_refl _)); have HE4 := Lib.hid (eb_keep HLT.out hc4 HE3.out (Nat.le_succ _)); obtain ⟨el4, e0, e1, e2, g0, g1, g2⟩ := HE4.out.facts; clear ht4 hc4)))
  exact bodyPost_ret (results_e3 (n := W.heap.size + 1) (v0 := (.int .i64 0)) (v1 := (.int .i64 0)) (v2 := (.int .i64 0)) Try.results26 _ (.int .i64 0) (.bool false) rfl rfl rfl (HE4.out.all _ _ _)) rfl (fin3 HLT.out HT4.out HC4.out (Nat.le_succ _) _ _ _)
set_option maxRecDepth 100000 in
set_option maxHeartbeats 2000000 in
theorem move_any (h : Hid (TV W v x N)) (hN : N < 1000000) (h0 : 0 ≤ x.pc) (h1 : x.pc ≤ 1000000) (i : Ic) (hi : Hid (Ok6 i)) : Calls Try.prog 25 #[.pointer (some ⟨v.tb, 0, none⟩), i.v] W (Post W v ((x.set i.d (x.regs i.a)).on) (N + 1)) := by
  have HLT := Lib.hid h.out.lt
  go_enter Try.func25, Try.ntmps25
  go_upto_region 1 with (fail)
  refine name_world ?_
  intro W1 hW1
  have HB1 : Hid (Below W.heap.size W W1) := Lib.hid (by rw [hW1]; exact ((Below.refl _ _).alloc (Nat.le_refl _) _).alloc (by simp) _)
  have HI1 : Hid (Ib W1 W.heap.size i) := Lib.hid (by rw [hW1]; exact (Below.heap_alloc _ _ _ (by simp)).trans (Ib.new rfl i))
  have HE1 : Hid (Eb W1 (W.heap.size + 1) (.int .i64 0) (.int .i64 0) (.int .i64 0)) := Lib.hid (by rw [hW1]; exact Eb.new (by simp) _ _ _)
  have HT1 := Lib.hid (h.out.stay HB1.out)
  have HC1 : Hid (Ch v.S W W1) := Lib.hid (.of HB1.out)
  clear hW1
  obtain ⟨il1, i0, i1, i2, i3, i4, i5, i6⟩ := HI1.out.facts
  have HT8 := Lib.hid HT1.out.drew
  have HC8 : Hid (Ch v.S W W1.drew) := Lib.hid HC1.out.drew
  have HI8 : Hid (Ib W1.drew W.heap.size i) := Lib.hid (ib_drew HI1.out)
  have HE8 : Hid (Eb W1.drew (W.heap.size + 1) (.int .i64 0) (.int .i64 0) (.int .i64 0)) := Lib.hid HE1.out
  go_region_held3 (fun w' => w'.cell? ⟨W.heap.size, 2, none⟩ = some (.int .i64 i.d) ∧ w'.cell? ⟨W.heap.size, 3, none⟩ = some (.int .i64 i.a))
    (first | exact ⟨i2, i3⟩ | exact ⟨j2, j3⟩)
    (first
      | (go_at_call 19; ((with_reducible refine (read_any HT8 hi.out.ia).mono ?_); rintro er wr ⟨rfl, rfl⟩))
      | (go_at_call 38; ((with_reducible refine (write_any HT8 hN hi.out.id (x.regs i.a)).mono ?_); rintro e2 w2 ⟨rfl, ht2, hc2⟩; have HT2 := Lib.hid ht2; have HC2 := Lib.hid (HC8.out.trans hc2); have HI2 := Lib.hid (ib_keep HLT.out hc2 HI8.out (Nat.le_refl _)); have HE2 := Lib.hid (eb_keep HLT.out hc2 HE8.out (Nat.le_succ _)); obtain ⟨il2, j0, j1, j2, j3, j4, j5, j6⟩ := HI2.out.facts; clear ht2 hc2)))
  go_wp2_with (first
    | (go_at_call 37; ((with_reducible refine (on_set HT2 h0 h1).mono ?_); rintro e3 w3 ⟨rfl, ht3, hc3⟩; have HT3 := Lib.hid ht3; have HC3 := Lib.hid (HC2.out.trans hc3); have HI3 := Lib.hid (ib_keep HLT.out hc3 HI2.out (Nat.le_refl _)); have HE3 := Lib.hid (eb_keep HLT.out hc3 HE2.out (Nat.le_succ _)); obtain ⟨el3, e0, e1, e2, g0, g1, g2⟩ := HE3.out.facts; clear ht3 hc3)))
  exact bodyPost_ret (results_e3 (n := W.heap.size + 1) (v0 := (.int .i64 0)) (v1 := (.int .i64 0)) (v2 := (.int .i64 0)) Try.results25 _ (.int .i64 0) (.bool false) rfl rfl rfl (HE3.out.all _ _ _)) rfl (fin3 HLT.out HT3.out HC3.out (Nat.le_succ _) _ _ _)
set_option maxRecDepth 100000 in
set_option maxHeartbeats 2000000 in
theorem pick_no (h : Hid (TV W v x N)) (hN : N < 1000000) (h0 : 0 ≤ x.pc) (h1 : x.pc ≤ 1000000) (i : Ic) (hi : Hid (Ok6 i)) (hz : (x.regs i.a != 0) = false) : Calls Try.prog 27 #[.pointer (some ⟨v.tb, 0, none⟩), i.v] W (Post W v (x.on) (N + 1)) := by
  have HLT := Lib.hid h.out.lt
  go_enter Try.func27, Try.ntmps27
  go_upto_region 1 with (fail)
  refine name_world ?_
  intro W1 hW1
  have HB1 : Hid (Below W.heap.size W W1) := Lib.hid (by rw [hW1]; exact ((Below.refl _ _).alloc (Nat.le_refl _) _).alloc (by simp) _)
  have HI1 : Hid (Ib W1 W.heap.size i) := Lib.hid (by rw [hW1]; exact (Below.heap_alloc _ _ _ (by simp)).trans (Ib.new rfl i))
  have HE1 : Hid (Eb W1 (W.heap.size + 1) (.int .i64 0) (.int .i64 0) (.int .i64 0)) := Lib.hid (by rw [hW1]; exact Eb.new (by simp) _ _ _)
  have HT1 := Lib.hid (h.out.stay HB1.out)
  have HC1 : Hid (Ch v.S W W1) := Lib.hid (.of HB1.out)
  clear hW1
  obtain ⟨il1, i0, i1, i2, i3, i4, i5, i6⟩ := HI1.out.facts
  go_wp2_with (first
    | (go_at_call 19; ((with_reducible refine (read_any HT1 hi.out.ia).mono ?_); rintro er wr ⟨rfl, rfl⟩))
    | (go_at_call 37; ((with_reducible refine (on_any HT1 h0 h1).mono ?_); rintro e2 w2 ⟨rfl, ht2, hc2⟩; have HT2 := Lib.hid ht2; have HC2 := Lib.hid (HC1.out.trans hc2); have HI2 := Lib.hid (ib_keep HLT.out hc2 HI1.out (Nat.le_refl _)); have HE2 := Lib.hid (eb_keep HLT.out hc2 HE1.out (Nat.le_succ _)); obtain ⟨el2, e0, e1, e2, g0, g1, g2⟩ := HE2.out.facts; clear ht2 hc2)))
  exact bodyPost_ret (results_e3 (n := W.heap.size + 1) (v0 := (.int .i64 0)) (v1 := (.int .i64 0)) (v2 := (.int .i64 0)) Try.results27 _ (.int .i64 0) (.bool false) rfl rfl rfl (HE2.out.all _ _ _)) rfl (fin3 HLT.out (HT2.out.mono (Nat.le_succ _)) HC2.out (Nat.le_succ _) _ _ _)
set_option maxRecDepth 100000 in
set_option maxHeartbeats 2000000 in
theorem pick_yes (h : Hid (TV W v x N)) (hN : N < 1000000) (h0 : 0 ≤ x.pc) (h1 : x.pc ≤ 1000000) (i : Ic) (hi : Hid (Ok6 i)) (hz : (x.regs i.a != 0) = true) : Calls Try.prog 27 #[.pointer (some ⟨v.tb, 0, none⟩), i.v] W (Post W v ((x.set i.d (x.regs i.b)).on) (N + 1)) := by
  have HLT := Lib.hid h.out.lt
  go_enter Try.func27, Try.ntmps27
  go_upto_region 1 with (fail)
  refine name_world ?_
  intro W1 hW1
  have HB1 : Hid (Below W.heap.size W W1) := Lib.hid (by rw [hW1]; exact ((Below.refl _ _).alloc (Nat.le_refl _) _).alloc (by simp) _)
  have HI1 : Hid (Ib W1 W.heap.size i) := Lib.hid (by rw [hW1]; exact (Below.heap_alloc _ _ _ (by simp)).trans (Ib.new rfl i))
  have HE1 : Hid (Eb W1 (W.heap.size + 1) (.int .i64 0) (.int .i64 0) (.int .i64 0)) := Lib.hid (by rw [hW1]; exact Eb.new (by simp) _ _ _)
  have HT1 := Lib.hid (h.out.stay HB1.out)
  have HC1 : Hid (Ch v.S W W1) := Lib.hid (.of HB1.out)
  clear hW1
  obtain ⟨il1, i0, i1, i2, i3, i4, i5, i6⟩ := HI1.out.facts
  go_wp2_with (first
    | (go_at_call 19; ((with_reducible refine (read_any HT1 hi.out.ia).mono ?_); rintro er wr ⟨rfl, rfl⟩)))
  have HT8 := Lib.hid HT1.out.drew
  have HC8 : Hid (Ch v.S W W1.drew) := Lib.hid HC1.out.drew
  have HI8 : Hid (Ib W1.drew W.heap.size i) := Lib.hid (ib_drew HI1.out)
  have HE8 : Hid (Eb W1.drew (W.heap.size + 1) (.int .i64 0) (.int .i64 0) (.int .i64 0)) := Lib.hid HE1.out
  go_region_held3 (fun w' => w'.cell? ⟨W.heap.size, 2, none⟩ = some (.int .i64 i.d) ∧ w'.cell? ⟨W.heap.size, 4, none⟩ = some (.int .i64 i.b))
    (first | exact ⟨i2, i4⟩ | exact ⟨j2, j4⟩)
    (first
      | (go_at_call 19; ((with_reducible refine (read_any HT8 hi.out.ib).mono ?_); rintro er wr ⟨rfl, rfl⟩))
      | (go_at_call 38; ((with_reducible refine (write_any HT8 hN hi.out.id (x.regs i.b)).mono ?_); rintro e2 w2 ⟨rfl, ht2, hc2⟩; have HT2 := Lib.hid ht2; have HC2 := Lib.hid (HC8.out.trans hc2); have HI2 := Lib.hid (ib_keep HLT.out hc2 HI8.out (Nat.le_refl _)); have HE2 := Lib.hid (eb_keep HLT.out hc2 HE8.out (Nat.le_succ _)); obtain ⟨il2, j0, j1, j2, j3, j4, j5, j6⟩ := HI2.out.facts; clear ht2 hc2)))
  go_wp2_with (first
    | (go_at_call 37; ((with_reducible refine (on_set HT2 h0 h1).mono ?_); rintro e3 w3 ⟨rfl, ht3, hc3⟩; have HT3 := Lib.hid ht3; have HC3 := Lib.hid (HC2.out.trans hc3); have HI3 := Lib.hid (ib_keep HLT.out hc3 HI2.out (Nat.le_refl _)); have HE3 := Lib.hid (eb_keep HLT.out hc3 HE2.out (Nat.le_succ _)); obtain ⟨el3, e0, e1, e2, g0, g1, g2⟩ := HE3.out.facts; clear ht3 hc3)))
  exact bodyPost_ret (results_e3 (n := W.heap.size + 1) (v0 := (.int .i64 0)) (v1 := (.int .i64 0)) (v2 := (.int .i64 0)) Try.results27 _ (.int .i64 0) (.bool false) rfl rfl rfl (HE3.out.all _ _ _)) rfl (fin3 HLT.out HT3.out HC3.out (Nat.le_succ _) _ _ _)
end
end Go.Proofs.Ytnmalhjhfddjpaa
