/- The small methods of a thread, and of a run. -/
import Derived.Test.YtnmalhjhfddjpaaStt
import Derived.Deep.QuietTactic
import Derived.BigQuiet
import Derived.Deep.CutRange
import Derived.Deep.CutBlock
namespace Go.Proofs.Ytnmalhjhfddjpaa
set_option linter.unusedSimpArgs false
set_option linter.unusedVariables false
open Go Go.RowKit

section
variable {W : World} {v : V} {x : S1} {N : Nat}
set_option maxHeartbeats 1000000 in
theorem event_any (h : Hid (TV W v x N)) (k n : Int) : Calls Try.prog 49 #[.pointer (some ⟨v.tb, 0, none⟩), .int .i64 k, .int .i64 n] W fun e w' => e = .returned (.agg #[.int .i64 k, .int .i64 v.num, .int .i64 n]) ∧ Below W.heap.size W w' := by
  obtain ⟨tl, t0, t1, t2, t3, t4, t5, t6, f3, f5, f6⟩ := h.out.thr.facts
  go_enter Try.func49, Try.ntmps49
  go_wp2
  exact bodyPost_ret (results_e1 (n := W.heap.size) (v0 := .int .i64 k) (v1 := .int .i64 v.num) (v2 := .int .i64 n) Try.results49 _ rfl (Eb.new rfl _ _ _)) rfl ⟨rfl, (Below.refl _ _).alloc (Nat.le_refl _) _⟩
/-- A block of the caller's own stands behind a turn of the thread. -/
theorem eb_keep {X Y : World} {m : Nat} {a b c : Value} (h : v.Lt W.heap.size) (hc : Ch v.S X Y) (hE : Eb X m a b c) (hm : W.heap.size ≤ m) : Eb Y m a b c :=
  (hc.block m hE.facts.1 fun e => by have := h.S e; omega).trans hE
theorem eb_stay {X Y : World} {m : Nat} {a b c : Value} (hE : Eb X m a b c) (hb : Below X.heap.size X Y) : Eb Y m a b c := (hb.block m hE.facts.1).trans hE
theorem ib_stay {X Y : World} {m : Nat} {i : Ic} (hE : Ib X m i) (hb : Below X.heap.size X Y) : Ib Y m i := (hb.block m hE.facts.1).trans hE
theorem ib_keep {X Y : World} {m : Nat} {i : Ic} (h : v.Lt W.heap.size) (hc : Ch v.S X Y) (hE : Ib X m i) (hm : W.heap.size ≤ m) : Ib Y m i :=
  (hc.block m hE.facts.1 fun e => by have := h.S e; omega).trans hE
/-- What is handed back is put into a variable of the caller's own. -/
theorem fin3 {X : World} {m M : Nat} {y : S1} {r : Rs} (h : v.Lt W.heap.size) (ht : TV X v y M) (hc : Ch v.S W X) (hm : W.heap.size ≤ m) (u0 u1 u2 : Value) : Post W v (y, r) M (.returned r.v) (((X.setCell ⟨m, 0, none⟩ u0).setCell ⟨m, 1, none⟩ u1).setCell ⟨m, 2, none⟩ u2) :=
  ⟨rfl, ((ht.set h hm _ _).set h hm _ _).set h hm _ _, ((hc.set (.inr hm) _ _).set (.inr hm) _ _).set (.inr hm) _ _⟩
set_option maxHeartbeats 1000000 in
theorem to_any (h : Hid (TV W v x N)) (p : Int) : Calls Try.prog 42 #[.pointer (some ⟨v.tb, 0, none⟩), .int .i64 p] W (Post W v (x.to p) N) := by
  obtain ⟨tl, t0, t1, t2, t3, t4, t5, t6, f3, f5, f6⟩ := h.out.thr.facts
  go_enter Try.func42, Try.ntmps42
  go_wp2
  exact bodyPost_ret (results_e3 (n := W.heap.size) (v0 := .int .i64 0) (v1 := .int .i64 0) (v2 := .int .i64 0) Try.results42 _ (.int .i64 0) (.bool false) rfl rfl rfl (Eb.new (by simp [World.setCell]) _ _ _)) rfl ⟨rfl, (h.out.setPc p).alloc _, ((Ch.refl _ _).set (.inl (.inl rfl)) _ _).alloc _⟩
set_option maxHeartbeats 1000000 in
theorem on_any (h : Hid (TV W v x N)) (h0 : 0 ≤ x.pc) (h1 : x.pc ≤ 1000000) : Calls Try.prog 37 #[.pointer (some ⟨v.tb, 0, none⟩)] W (Post W v x.on N) := by
  obtain ⟨tl, t0, t1, t2, t3, t4, t5, t6, f3, f5, f6⟩ := h.out.thr.facts
  go_enter Try.func37, Try.ntmps37
  go_wp2_with (go_at_call 42; ((with_reducible refine (to_any (Lib.hid (h.out.alloc _)) _).mono ?_); rintro e w2 ⟨rfl, ht2, hc2⟩; have HT2 := Lib.hid ht2; have HC2 := Lib.hid hc2; have HE2 := Lib.hid (eb_keep (W := W) h.out.lt hc2 (Eb.new rfl _ _ _) (Nat.le_refl _)); obtain ⟨el, e0, e1, e2, g0, g1, g2⟩ := HE2.out.facts; clear ht2 hc2))
  exact bodyPost_ret (results_e3 (n := W.heap.size) (v0 := .int .i64 0) (v1 := .int .i64 0) (v2 := .int .i64 0) Try.results37 _ (.int .i64 0) (.bool false) rfl rfl rfl (HE2.out.all _ _ _)) rfl (fin3 h.out.lt HT2.out (((Ch.refl _ _).alloc _).trans HC2.out) (Nat.le_refl _) _ _ _)
set_option maxHeartbeats 1000000 in
theorem did_any (h : Hid (TV W v x N)) (h0 : 0 ≤ x.pc) (h1 : x.pc ≤ 1000000) (k n : Int) : Calls Try.prog 43 #[.pointer (some ⟨v.tb, 0, none⟩), .int .i64 k, .int .i64 n] W (Post W v (x.did v.num k n) N) := by
  obtain ⟨tl, t0, t1, t2, t3, t4, t5, t6, f3, f5, f6⟩ := h.out.thr.facts
  go_enter Try.func43, Try.ntmps43
  go_wp2_with (go_at_call 49; ((with_reducible refine (event_any (Lib.hid ((h.out.setPc (x.pc + 1)).alloc _)) k n).mono ?_); rintro e w2 ⟨rfl, hb2⟩; have HB2 := Lib.hid hb2; have HE2 := Lib.hid (eb_stay (Eb.new (m := W.heap.size) (X := W.setCell ⟨v.tb, 5, none⟩ (.int .i64 (x.pc + 1))) (by simp [World.setCell]) _ _ _) hb2); obtain ⟨el, e0, e1, e2, g0, g1, g2⟩ := HE2.out.facts; clear hb2))
  exact bodyPost_ret (results_e3 (n := W.heap.size) (v0 := .int .i64 k) (v1 := .int .i64 v.num) (v2 := .int .i64 n) Try.results43 _ (.int .i64 0) (.bool true) rfl rfl rfl (HE2.out.all _ _ _)) rfl (fin3 h.out.lt (((h.out.setPc _).alloc _).stay HB2.out) ((((Ch.refl _ _).set (.inl (.inl rfl)) _ _).alloc _).stepB HB2.out) (Nat.le_refl _) _ _ _)
set_option maxHeartbeats 1000000 in
theorem end_any (h : Hid (TV W v x N)) (k n : Int) : Calls Try.prog 44 #[.pointer (some ⟨v.tb, 0, none⟩), .int .i64 k, .int .i64 n] W (Post W v (x.fin v.num k n) N) := by
  obtain ⟨tl, t0, t1, t2, t3, t4, t5, t6, f3, f5, f6⟩ := h.out.thr.facts
  go_enter Try.func44, Try.ntmps44
  go_wp2_with (go_at_call 49; ((with_reducible refine (event_any (Lib.hid ((h.out.setOver true).alloc _)) k n).mono ?_); rintro e w2 ⟨rfl, hb2⟩; have HB2 := Lib.hid hb2; have HE2 := Lib.hid (eb_stay (Eb.new (m := W.heap.size) (X := W.setCell ⟨v.tb, 6, none⟩ (.bool true)) (by simp [World.setCell]) _ _ _) hb2); obtain ⟨el, e0, e1, e2, g0, g1, g2⟩ := HE2.out.facts; clear hb2))
  exact bodyPost_ret (results_e3 (n := W.heap.size) (v0 := .int .i64 k) (v1 := .int .i64 v.num) (v2 := .int .i64 n) Try.results44 _ (.int .i64 0) (.bool true) rfl rfl rfl (HE2.out.all _ _ _)) rfl (fin3 h.out.lt (((h.out.setOver _).alloc _).stay HB2.out) ((((Ch.refl _ _).set (.inl (.inl rfl)) _ _).alloc _).stepB HB2.out) (Nat.le_refl _) _ _ _)
set_option maxHeartbeats 1000000 in
theorem read_any (h : Hid (TV W v x N)) {q : Int} (hq : In6 q) : Calls Try.prog 19 #[.pointer (some ⟨v.tb, 0, none⟩), .int .i64 q] W fun e w' => e = .returned (.int .i64 (x.regs q)) ∧ W = w' := by
  obtain ⟨tl, t0, t1, t2, t3, t4, t5, t6, f3, f5, f6⟩ := h.out.thr.facts
  have hl := h.out.reg.look hq
  go_enter Try.func19, Try.ntmps19
  go_wp2
  go_ret
  exact ⟨rfl, rfl⟩
set_option maxHeartbeats 1000000 in
theorem write_any (h : Hid (TV W v x N)) (hN : N < 1000000) {d : Int} (hd : In6 d) (n : Int) : Calls Try.prog 38 #[.pointer (some ⟨v.tb, 0, none⟩), .int .i64 d, .int .i64 n] W fun e w' => e = .returned (.tuple #[]) ∧ TV w' v (x.set d n) (N + 1) ∧ Ch v.S W w' := by
  obtain ⟨tl, t0, t1, t2, t3, t4, t5, t6, f3, f5, f6⟩ := h.out.thr.facts
  by_cases h0 : 0 ≤ d
  · obtain ⟨f, hk, hf⟩ := h.out.reg
    have HF := Lib.hid hf
    obtain ⟨w1, hrun, hk1, hg1⟩ := hk.run_put keyedI Try.underlying59 (by unfold maxLen; omega) (keyI hd) (.int .i64 n)
    have HR := Lib.hid (h.out.putReg h0 hf hk1 hg1)
    have HG := Lib.hid hg1
    clear hf hk hk1 hg1
    go_enter Try.func38, Try.ntmps38
    go_wp2
    go_end0
    exact ⟨rfl, HR.out, (Ch.refl _ _).grown HG.out (.inl (.inr (.inl rfl)))⟩
  · go_enter Try.func38, Try.ntmps38
    go_wp2
    go_end0
    refine ⟨rfl, ?_, Ch.refl _ _⟩
    have e : x.set d n = x := by
      unfold S1.set rset
      rw [if_neg (by omega)]
    rw [e]
    exact h.out.mono (Nat.le_succ _)
set_option maxHeartbeats 1000000 in
theorem word_any (h : Hid (TV W v x N)) (i : Ic) (hi : Ok6 i) : Calls Try.prog 40 #[.pointer (some ⟨v.tb, 0, none⟩), i.v] W fun e w' => e = .returned (.int .i64 (wordM x i)) ∧ Below W.heap.size W w' := by
  go_enter Try.func40, Try.ntmps40
  go_upto_region 1 with (fail)
  refine name_world ?_
  intro W1 hW1
  have HB1 : Hid (Below W.heap.size W W1) := Lib.hid (by rw [hW1]; exact (Below.refl _ _).alloc (Nat.le_refl _) _)
  have HI : Hid (Ib W1 W.heap.size i) := Lib.hid (by rw [hW1]; exact Ib.new rfl i)
  have HT1 := Lib.hid (h.out.stay HB1.out)
  clear hW1
  obtain ⟨il, i0, i1, i2, i3, i4, i5, i6⟩ := HI.out.facts
  go_quiet ((go_at_call 19; exact Calls.quiet_of_same ((read_any (Lib.hid (HT1.out.drewN _)) hi.2.2.2.1).mono fun e w' ⟨a, b⟩ => ⟨a, b.symm⟩)))
  go_wp2
  go_ret
  exact ⟨rfl, HB1.out.trans ⟨rfl, rfl, rfl, Nat.le_refl _, fun _ _ => rfl⟩⟩
set_option maxHeartbeats 1000000 in
theorem has_any (h : Hid (TV W v x N)) (q : Int) : Calls Try.prog 41 #[.pointer (some ⟨v.rb, 0, none⟩), .int .i64 q] W fun e w' => e = .returned (.bool (decide (0 ≤ q) && decide (q < (v.mn : Int)))) ∧ W = w' := by
  obtain ⟨rl, r0, r1, r2, f0⟩ := h.out.run.facts
  by_cases h0 : 0 ≤ q
  · have hd : decide (0 ≤ q) = true := by simpa using h0
    go_enter Try.func41, Try.ntmps41
    go_wp2
    go_ret
    exact ⟨by simp [h0], rfl⟩
  · have hd : decide (0 ≤ q) = false := by simpa using h0
    go_enter Try.func41, Try.ntmps41
    go_wp2
    go_ret
    exact ⟨by simp [h0], rfl⟩
set_option maxHeartbeats 1000000 in
theorem owner_any (h : Hid (TV W v x N)) {q : Int} (hq : In6 q) : Calls Try.prog 14 #[.pointer (some ⟨v.rb, 0, none⟩), .int .i64 q] W fun e w' => e = .returned (.int .i64 (x.own q)) ∧ W = w' := by
  obtain ⟨rl, r0, r1, r2, f0⟩ := h.out.run.facts
  obtain ⟨u, hu⟩ : ∃ u, x.own q = u := ⟨_, rfl⟩
  have hl := h.out.own.look hq
  rw [hu] at hl ⊢
  clear hu
  rcases hl with ⟨rfl, hl⟩ | hl
  · go_enter Try.func14, Try.ntmps14
    go_wp2
    go_ret
    exact ⟨rfl, rfl⟩
  · go_enter Try.func14, Try.ntmps14
    go_wp2
    go_ret
    exact ⟨rfl, rfl⟩
theorem word_is (h : Hid (TV W v x N)) (i : Ic) (hi : Ok6 i) {q : Int} (hq : wordM x i = q) : Calls Try.prog 40 #[.pointer (some ⟨v.tb, 0, none⟩), i.v] W fun e w' => e = .returned (.int .i64 q) ∧ Below W.heap.size W w' := hq ▸ word_any h i hi
theorem has_is (h : Hid (TV W v x N)) {q : Int} {b : Bool} (hb : (decide (0 ≤ q) && decide (q < (v.mn : Int))) = b) : Calls Try.prog 41 #[.pointer (some ⟨v.rb, 0, none⟩), .int .i64 q] W fun e w' => e = .returned (.bool b) ∧ W = w' := hb ▸ has_any h q
theorem owner_is (h : Hid (TV W v x N)) {q u : Int} (hq : In6 q) (hu : x.own q = u) : Calls Try.prog 14 #[.pointer (some ⟨v.rb, 0, none⟩), .int .i64 q] W fun e w' => e = .returned (.int .i64 u) ∧ W = w' := hu ▸ owner_any h hq
theorem on_set {d n : Int} (h : Hid (TV W v (x.set d n) N)) (h0 : 0 ≤ x.pc) (h1 : x.pc ≤ 1000000) : Calls Try.prog 37 #[.pointer (some ⟨v.tb, 0, none⟩)] W (Post W v (x.set d n).on N) := on_any h h0 h1
theorem on_mem {l : List Int} (h : Hid (TV W v { x with mem := l } N)) (h0 : 0 ≤ x.pc) (h1 : x.pc ≤ 1000000) : Calls Try.prog 37 #[.pointer (some ⟨v.tb, 0, none⟩)] W (Post W v ({ x with mem := l } : S1).on N) := on_any h h0 h1
theorem did_own {o : Int → Int} (h : Hid (TV W v { x with own := o } N)) (h0 : 0 ≤ x.pc) (h1 : x.pc ≤ 1000000) (k n : Int) : Calls Try.prog 43 #[.pointer (some ⟨v.tb, 0, none⟩), .int .i64 k, .int .i64 n] W (Post W v (({ x with own := o } : S1).did v.num k n) N) := did_any h h0 h1 k n
end
end Go.Proofs.Ytnmalhjhfddjpaa
