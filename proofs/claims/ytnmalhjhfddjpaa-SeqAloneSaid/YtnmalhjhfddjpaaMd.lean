/- What a Take, and a Give, does. -/
import Derived.Test.YtnmalhjhfddjpaaAhd
import Derived.Deep.RegionHeld3
import Derived.StillTailTactics
namespace Go.Proofs.Ytnmalhjhfddjpaa
set_option linter.unusedSimpArgs false
set_option linter.unusedVariables false
open Go Go.RowKit
section
variable {W : World} {v : V} {x : S1} {N : Nat}
set_option maxRecDepth 100000 in
set_option maxHeartbeats 2000000 in
theorem take_no (h : Hid (TV W v x N)) (hN : N < 1000000) (h0 : 0 ≤ x.pc) (h1 : x.pc ≤ 1000000) (i : Ic) (hi : Hid (Ok6 i)) {u : Int} (hu : Hid (x.own i.n = u)) (hz : (u != -1) = true) : Calls Try.prog 32 #[.pointer (some ⟨v.tb, 0, none⟩), i.v] W (Post W v ((x, ⟨0, 0, 0, 1, true⟩)) (N + 1)) := by
  have HLT := Lib.hid h.out.lt
  go_enter Try.func32, Try.ntmps32
  go_upto_region 1 with (fail)
  refine name_world ?_
  intro W1 hW1
  have HB1 : Hid (Below W.heap.size W W1) := Lib.hid (by rw [hW1]; exact ((Below.refl _ _).alloc (Nat.le_refl _) _).alloc (by simp) _)
  have HI1 : Hid (Ib W1 W.heap.size i) := Lib.hid (by rw [hW1]; exact (Below.heap_alloc _ _ _ (by simp)).trans (Ib.new rfl i))
  have HE1 : Hid (Eb W1 (W.heap.size + 1) (.int .i64 0) (.int .i64 0) (.int .i64 0)) := Lib.hid (by rw [hW1]; exact Eb.new (by simp) _ _ _)
  have HT1 := Lib.hid (h.out.stay HB1.out)
  have HC1 : Hid (Ch v.S W W1) := Lib.hid (.of HB1.out)
  clear hW1
  obtain ⟨il1, i0, i1, i2, i3, i4, i5, i6⟩ := HI1.out.facts
  obtain ⟨tl, t0, t1, t2, t3, t4, t5, t6, f3, f5, f6⟩ := HT1.out.thr.facts
  obtain ⟨rl, r0, r1, r2, f0⟩ := HT1.out.run.facts
  obtain ⟨el1, e0, e1, e2, g0, g1, g2⟩ := HE1.out.facts
  go_quiet ((go_at_call 14; exact Calls.quiet_of_same ((owner_is (Lib.hid (HT1.out.drewN _)) hi.out.in hu.out).mono fun e w' ⟨a, b⟩ => ⟨a, b.symm⟩)))
  go_wp2_with (fail)
  exact bodyPost_ret (results_e3 (n := W.heap.size + 1) (v0 := (.int .i64 0)) (v1 := (.int .i64 0)) (v2 := (.int .i64 0)) Try.results32 _ (.int .i64 1) (.bool true) rfl rfl rfl (Eb.all (X := W1.drewN nq) HE1.out _ _ _)) rfl (fin3 HLT.out ((HT1.out.drewN nq).mono (Nat.le_succ _)) (HC1.out.drewN nq) (Nat.le_succ _) _ _ _)
set_option maxRecDepth 100000 in
set_option maxHeartbeats 2000000 in
theorem take_yes (h : Hid (TV W v x N)) (hN : N < 1000000) (h0 : 0 ≤ x.pc) (h1 : x.pc ≤ 1000000) (i : Ic) (hi : Hid (Ok6 i)) {u : Int} (hu : Hid (x.own i.n = u)) (hz : (u != -1) = false) : Calls Try.prog 32 #[.pointer (some ⟨v.tb, 0, none⟩), i.v] W (Post W v (({ x with own := oset x.own i.n v.num } : S1).did v.num 1 i.n) (N + 1)) := by
  have HLT := Lib.hid h.out.lt
  go_enter Try.func32, Try.ntmps32
  go_upto_region 1 with (fail)
  refine name_world ?_
  intro W1 hW1
  have HB1 : Hid (Below W.heap.size W W1) := Lib.hid (by rw [hW1]; exact ((Below.refl _ _).alloc (Nat.le_refl _) _).alloc (by simp) _)
  have HI1 : Hid (Ib W1 W.heap.size i) := Lib.hid (by rw [hW1]; exact (Below.heap_alloc _ _ _ (by simp)).trans (Ib.new rfl i))
  have HE1 : Hid (Eb W1 (W.heap.size + 1) (.int .i64 0) (.int .i64 0) (.int .i64 0)) := Lib.hid (by rw [hW1]; exact Eb.new (by simp) _ _ _)
  have HT1 := Lib.hid (h.out.stay HB1.out)
  have HC1 : Hid (Ch v.S W W1) := Lib.hid (.of HB1.out)
  clear hW1
  obtain ⟨il1, i0, i1, i2, i3, i4, i5, i6⟩ := HI1.out.facts
  obtain ⟨tl, t0, t1, t2, t3, t4, t5, t6, f3, f5, f6⟩ := HT1.out.thr.facts
  obtain ⟨rl, r0, r1, r2, f0⟩ := HT1.out.run.facts
  go_quiet ((go_at_call 14; exact Calls.quiet_of_same ((owner_is (Lib.hid (HT1.out.drewN _)) hi.out.in hu.out).mono fun e w' ⟨a, b⟩ => ⟨a, b.symm⟩)))
  go_wp2_with (fail)
  refine name_world ?_
  intro W2 hW2
  have HB2 : Hid (Below W1.heap.size W1 W2) := Lib.hid (by rw [hW2]; exact (Below.refl _ _).trans ⟨rfl, rfl, rfl, Nat.le_refl _, fun _ _ => rfl⟩)
  clear hW2
  have HT2 := Lib.hid (HT1.out.stay HB2.out)
  have HC2 := Lib.hid (HC1.out.stepB HB2.out)
  have HI2 := Lib.hid (ib_stay HI1.out HB2.out)
  have HE2 := Lib.hid (eb_stay HE1.out HB2.out)
  clear il1 i0 i1 i2 i3 i4 i5 i6 tl t0 t1 t2 t3 t4 t5 t6 f3 f5 f6 rl r0 r1 r2 f0
  obtain ⟨il2, i0, i1, i2, i3, i4, i5, i6⟩ := HI2.out.facts
  obtain ⟨tl, t0, t1, t2, t3, t4, t5, t6, f3, f5, f6⟩ := HT2.out.thr.facts
  obtain ⟨rl, r0, r1, r2, f0⟩ := HT2.out.run.facts
  go_still_tail 13, (by kernel_rfl)
  obtain ⟨f, hkf, hff⟩ := HT2.out.own
  have HK : Hid (KM 2 W2.drew v.om N f) := Lib.hid (hkf.same rfl)
  have HF := Lib.hid hff
  clear hkf hff
  refine wpList_putK rfl (.tmp 22) (.tmp 24) (.tmp 28) rfl keyedL Try.underlying51 v.om N f rfl HK.out (by unfold maxLen; omega) i.n (.int .i64 v.num) rfl rfl (keyL hi.out.in) ?_
  intro w4 hk3 hg3
  have hg4 : Ch v.S W2 w4 := ((Ch.refl _ _).drew).grown hg3 (.inl (.inr (.inr (.inl rfl))))
  have HT4 := Lib.hid (HT2.out.drew.putOwn (Nat.le_succ _) (OM.put HF.out hk3) hg3)
  have HC4 := Lib.hid (HC2.out.trans hg4)
  have HE4 := Lib.hid (eb_keep HLT.out hg4 HE2.out (Nat.le_succ _))
  have HI4 := Lib.hid (ib_keep HLT.out hg4 HI2.out (Nat.le_refl _))
  obtain ⟨il4, j0, j1, j2, j3, j4, j5, j6⟩ := HI4.out.facts
  clear hk3 hg3 hg4 HF HK
  go_wp2_with (first
    | (go_at_call 43; ((with_reducible refine (did_own HT4 h0 h1 1 i.n).mono ?_); rintro e5 w5 ⟨rfl, ht5, hc5⟩; have HT5 := Lib.hid ht5; have HC5 := Lib.hid (HC4.out.trans hc5); have HI5 := Lib.hid (ib_keep HLT.out hc5 HI4.out (Nat.le_refl _)); have HE5 := Lib.hid (eb_keep HLT.out hc5 HE4.out (Nat.le_succ _)); obtain ⟨el5, e0, e1, e2, g0, g1, g2⟩ := HE5.out.facts; clear ht5 hc5)))
  exact bodyPost_ret (results_e3 (n := W.heap.size + 1) (v0 := (.int .i64 1)) (v1 := (.int .i64 v.num)) (v2 := (.int .i64 i.n)) Try.results32 _ (.int .i64 0) (.bool true) rfl rfl rfl (HE5.out.all _ _ _)) rfl (fin3 HLT.out HT5.out HC5.out (Nat.le_succ _) _ _ _)
set_option maxRecDepth 100000 in
set_option maxHeartbeats 2000000 in
theorem give_any (h : Hid (TV W v x N)) (hN : N < 1000000) (h0 : 0 ≤ x.pc) (h1 : x.pc ≤ 1000000) (i : Ic) (hi : Hid (Ok6 i)) : Calls Try.prog 33 #[.pointer (some ⟨v.tb, 0, none⟩), i.v] W (Post W v (({ x with own := oset x.own i.n (-1) } : S1).did v.num 2 i.n) (N + 1)) := by
  have HLT := Lib.hid h.out.lt
  go_enter Try.func33, Try.ntmps33
  go_upto_region 1 with (fail)
  refine name_world ?_
  intro W1 hW1
  have HB1 : Hid (Below W.heap.size W W1) := Lib.hid (by rw [hW1]; exact ((Below.refl _ _).alloc (Nat.le_refl _) _).alloc (by simp) _)
  have HI1 : Hid (Ib W1 W.heap.size i) := Lib.hid (by rw [hW1]; exact (Below.heap_alloc _ _ _ (by simp)).trans (Ib.new rfl i))
  have HE1 : Hid (Eb W1 (W.heap.size + 1) (.int .i64 0) (.int .i64 0) (.int .i64 0)) := Lib.hid (by rw [hW1]; exact Eb.new (by simp) _ _ _)
  have HT1 := Lib.hid (h.out.stay HB1.out)
  have HC1 : Hid (Ch v.S W W1) := Lib.hid (.of HB1.out)
  clear hW1
  obtain ⟨il1, i0, i1, i2, i3, i4, i5, i6⟩ := HI1.out.facts
  obtain ⟨tl, t0, t1, t2, t3, t4, t5, t6, f3, f5, f6⟩ := HT1.out.thr.facts
  obtain ⟨rl, r0, r1, r2, f0⟩ := HT1.out.run.facts
  go_still_tail 9, (by kernel_rfl)
  obtain ⟨f, hkf, hff⟩ := HT1.out.own
  have HK : Hid (KM 2 W1.drew v.om N f) := Lib.hid (hkf.same rfl)
  have HF := Lib.hid hff
  clear hkf hff
  refine wpList_strikeK rfl (.tmp 13) (.tmp 15) rfl keyedL Try.underlying51 v.om N f rfl HK.out i.n rfl (keyL hi.out.in) ?_
  intro w4 hk3 hg3
  have hg4 : Ch v.S W1 w4 := ((Ch.refl _ _).drew).grown hg3 (.inl (.inr (.inr (.inl rfl))))
  have HT4 := Lib.hid (HT1.out.drew.putOwn (Nat.le_refl _) (OM.del HF.out hk3) hg3)
  have HC4 := Lib.hid (HC1.out.trans hg4)
  have HE4 := Lib.hid (eb_keep HLT.out hg4 HE1.out (Nat.le_succ _))
  have HI4 := Lib.hid (ib_keep HLT.out hg4 HI1.out (Nat.le_refl _))
  obtain ⟨il4, j0, j1, j2, j3, j4, j5, j6⟩ := HI4.out.facts
  clear hk3 hg3 hg4 HF HK
  go_wp2_with (first
    | (go_at_call 43; ((with_reducible refine (did_own HT4 h0 h1 2 i.n).mono ?_); rintro e5 w5 ⟨rfl, ht5, hc5⟩; have HT5 := Lib.hid ht5; have HC5 := Lib.hid (HC4.out.trans hc5); have HI5 := Lib.hid (ib_keep HLT.out hc5 HI4.out (Nat.le_refl _)); have HE5 := Lib.hid (eb_keep HLT.out hc5 HE4.out (Nat.le_succ _)); obtain ⟨el5, e0, e1, e2, g0, g1, g2⟩ := HE5.out.facts; clear ht5 hc5)))
  exact bodyPost_ret (results_e3 (n := W.heap.size + 1) (v0 := (.int .i64 2)) (v1 := (.int .i64 v.num)) (v2 := (.int .i64 i.n)) Try.results33 _ (.int .i64 0) (.bool true) rfl rfl rfl (HE5.out.all _ _ _)) rfl (fin3 HLT.out (HT5.out.mono (Nat.le_succ _)) HC5.out (Nat.le_succ _) _ _ _)
end
end Go.Proofs.Ytnmalhjhfddjpaa
