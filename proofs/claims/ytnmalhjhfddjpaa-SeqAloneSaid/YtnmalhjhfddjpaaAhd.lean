/- The instruction ahead of which a thread stands. -/
import Derived.Test.YtnmalhjhfddjpaaLf
import Derived.StillTailTactics
namespace Go.Proofs.Ytnmalhjhfddjpaa
set_option linter.unusedSimpArgs false
set_option linter.unusedVariables false
open Go Go.RowKit

section
variable {W : World} {v : V} {x : S1} {N : Nat}
/-- An instruction is put into a variable. -/
abbrev put7 (X : World) (m : Nat) (i : Ic) : World := ((((((X.setCell ⟨m, 0, none⟩ (.int .i64 i.k)).setCell ⟨m, 1, none⟩ (.int .i64 i.o)).setCell ⟨m, 2, none⟩ (.int .i64 i.d)).setCell ⟨m, 3, none⟩ (.int .i64 i.a)).setCell ⟨m, 4, none⟩ (.int .i64 i.b)).setCell ⟨m, 5, none⟩ (.int .i64 i.n)).setCell ⟨m, 6, none⟩ (.int .i64 i.t)
theorem ib_all {X : World} {m : Nat} {j : Ic} (h : Ib X m j) (i : Ic) : Ib (put7 X m i) m i := h.all i
theorem ib_drew {X : World} {m : Nat} {i : Ic} (h : Ib X m i) : Ib X.drew m i := h
theorem below7 {X : World} {m : Nat} {B : Nat} (h : Below B W X) (hm : B ≤ m) (i : Ic) : Below B W (put7 X m i) := ((((((h.setCell (p := ⟨m, 0, none⟩) hm _).setCell (p := ⟨m, 1, none⟩) hm _).setCell (p := ⟨m, 2, none⟩) hm _).setCell (p := ⟨m, 3, none⟩) hm _).setCell (p := ⟨m, 4, none⟩) hm _).setCell (p := ⟨m, 5, none⟩) hm _).setCell (p := ⟨m, 6, none⟩) hm _
theorem aheadM_ok (c : List Ic) (hc : ∀ (i : Nat) x, c[i]? = some x → Ok6 x) (q : Int) : Ok6 (aheadM c q) := by
  have h0 : Ok6 ⟨13, 0, 0, 0, 0, 0, 0⟩ := by unfold Ok6 In6; decide
  unfold aheadM
  split
  · rw [List.getD_eq_getElem?_getD]
    cases h : c[q.toNat]? with
    | none => exact h0
    | some x => exact hc _ _ h
  · exact h0
theorem TV.okc (h : TV W v x N) : ∀ (i : Nat) y, v.code[i]? = some y → Ok6 y := fun i y hy => by
  obtain ⟨g, o, _, _, _, h4⟩ := h.cod i y hy
  exact h4
set_option maxHeartbeats 2000000 in
theorem ahead_out (h : Hid (TV W v x N)) (hq : x.pc < 0 ∨ (v.code.length : Int) ≤ x.pc) : Calls Try.prog 22 #[.pointer (some ⟨v.tb, 0, none⟩)] W fun e w' => e = .returned (Ic.v ⟨13, 0, 0, 0, 0, 0, 0⟩) ∧ Below W.heap.size W w' := by
  obtain ⟨tl, t0, t1, t2, t3, t4, t5, t6, f3, f5, f6⟩ := h.out.thr.facts
  have hsm := h.out.sm.2
  by_cases h0 : x.pc < 0
  · have hd : decide (x.pc < 0) = true := by simpa using h0
    clear hq
    go_enter Try.func22, Try.ntmps22
    go_wp2_with (fail)
    refine name_world ?_
    intro W1 hW1
    have HB1 : Hid (Below W.heap.size W W1) := Lib.hid (by rw [hW1]; exact ((Below.refl _ _).alloc (Nat.le_refl _) _))
    have hi1 : Ib W1 W.heap.size ⟨0, 0, 0, 0, 0, 0, 0⟩ := by rw [hW1]; exact Ib.new (X := W) rfl ⟨0, 0, 0, 0, 0, 0, 0⟩
    have HI1 := Lib.hid hi1
    obtain ⟨il, i0, i1, i2, i3, i4, i5, i6⟩ := hi1.facts
    have fz : ∀ j, W1.frozen? ⟨W.heap.size, j, none⟩ = false := fun j => frozen_of_row W1 _ _ _ _ hi1
    have z0 := fz 0
    have z1 := fz 1
    have z2 := fz 2
    have z3 := fz 3
    have z4 := fz 4
    have z5 := fz 5
    have z6 := fz 6
    have q5 := (HB1.out.cell (p := ⟨v.tb, 5, none⟩) tl).trans t5
    have q2 := (HB1.out.cell (p := ⟨v.tb, 2, none⟩) tl).trans t2
    have tl1 : v.tb < W1.heap.size := Nat.lt_of_lt_of_le tl HB1.out.size
    clear hW1 hi1 fz t0 t1 t2 t3 t4 t5 t6 f3 f5 f6
    go_quiet (fail)
    go_wp2_with (fail)
    exact bodyPost_ret (results_ib (n := W.heap.size) (x := ⟨13, 0, 0, 0, 0, 0, 0⟩) Try.results22 _ rfl (ib_all (X := W1.drewN nq) HI1.out ⟨13, 0, 0, 0, 0, 0, 0⟩)) rfl ⟨rfl, below7 (X := W1.drewN nq) (HB1.out.trans ⟨rfl, rfl, rfl, Nat.le_refl _, fun _ _ => rfl⟩) (Nat.le_refl _) ⟨13, 0, 0, 0, 0, 0, 0⟩⟩
  · have hd : decide (x.pc < 0) = false := by simpa using h0
    have hd2 : decide ((v.code.length : Int) ≤ x.pc) = true := by simp; omega
    clear hq
    go_enter Try.func22, Try.ntmps22
    go_wp2_with (fail)
    refine name_world ?_
    intro W1 hW1
    have HB1 : Hid (Below W.heap.size W W1) := Lib.hid (by rw [hW1]; exact ((Below.refl _ _).alloc (Nat.le_refl _) _))
    have hi1 : Ib W1 W.heap.size ⟨0, 0, 0, 0, 0, 0, 0⟩ := by rw [hW1]; exact Ib.new (X := W) rfl ⟨0, 0, 0, 0, 0, 0, 0⟩
    have HI1 := Lib.hid hi1
    obtain ⟨il, i0, i1, i2, i3, i4, i5, i6⟩ := hi1.facts
    have fz : ∀ j, W1.frozen? ⟨W.heap.size, j, none⟩ = false := fun j => frozen_of_row W1 _ _ _ _ hi1
    have z0 := fz 0
    have z1 := fz 1
    have z2 := fz 2
    have z3 := fz 3
    have z4 := fz 4
    have z5 := fz 5
    have z6 := fz 6
    have q5 := (HB1.out.cell (p := ⟨v.tb, 5, none⟩) tl).trans t5
    have q2 := (HB1.out.cell (p := ⟨v.tb, 2, none⟩) tl).trans t2
    have tl1 : v.tb < W1.heap.size := Nat.lt_of_lt_of_le tl HB1.out.size
    clear hW1 hi1 fz t0 t1 t2 t3 t4 t5 t6 f3 f5 f6
    go_quiet (fail)
    go_wp2_with (fail)
    exact bodyPost_ret (results_ib (n := W.heap.size) (x := ⟨13, 0, 0, 0, 0, 0, 0⟩) Try.results22 _ rfl (ib_all (X := W1.drewN nq) HI1.out ⟨13, 0, 0, 0, 0, 0, 0⟩)) rfl ⟨rfl, below7 (X := W1.drewN nq) (HB1.out.trans ⟨rfl, rfl, rfl, Nat.le_refl _, fun _ _ => rfl⟩) (Nat.le_refl _) ⟨13, 0, 0, 0, 0, 0, 0⟩⟩
set_option maxHeartbeats 400000 in
theorem ahead_in (h : Hid (TV W v x N)) {k : Nat} (hk : x.pc = (k : Int)) {i : Ic} (hi : v.code[k]? = some i) : Calls Try.prog 22 #[.pointer (some ⟨v.tb, 0, none⟩)] W fun e w' => e = .returned i.v ∧ Below W.heap.size W w' := by
  obtain ⟨tl, t0, t1, t2, t3, t4, t5, t6, f3, f5, f6⟩ := h.out.thr.facts
  have hsm := h.out.sm.2
  have hkl : k < v.code.length := (List.getElem?_eq_some_iff.1 hi).1
  obtain ⟨g, o, hp, hg, hat0, _⟩ := h.out.cod k i hi
  have HAT := Lib.hid hat0
  clear hat0
  rw [hp] at t2
  rw [hk] at t5
  obtain ⟨n, hn⟩ : ∃ n, v.code.length = n := ⟨_, rfl⟩
  rw [hn] at t2 hkl hsm
  have hk2 : (k : Int) < (n : Int) := by omega
  have hk3 : (0 : Int) ≤ k := by omega
  have hd : decide ((k : Int) < 0) = false := by simp
  have hd2 : decide ((n : Int) ≤ (k : Int)) = false := by simp; omega
  have hd3 : decide (n ≤ k) = false := by simp; omega
  clear hi hp hn hk
  go_enter Try.func22, Try.ntmps22
  go_wp2_with (fail)
  go_quiet (fail)
  go_wp2_with (fail)
  refine name_world ?_
  intro W1 hW1
  have hb1 : Below W.heap.size W W1 := by rw [hW1]; exact ((Below.refl _ _).alloc (Nat.le_refl _) _).trans ⟨rfl, rfl, rfl, Nat.le_refl _, fun _ _ => rfl⟩
  have hi1 : Ib W1 W.heap.size ⟨0, 0, 0, 0, 0, 0, 0⟩ := by rw [hW1]; exact Ib.new (X := W) rfl ⟨0, 0, 0, 0, 0, 0, 0⟩
  have HB1 := Lib.hid hb1
  have HI1 := Lib.hid hi1
  have q5 := (hb1.cell (p := ⟨v.tb, 5, none⟩) tl).trans t5
  have q2 := (hb1.cell (p := ⟨v.tb, 2, none⟩) tl).trans t2
  obtain ⟨y0, y1, y2, y3, y4, y5, y6⟩ := HAT.out.same (hb1.block g hg)
  obtain ⟨il, i0, i1, i2, i3, i4, i5, i6⟩ := hi1.facts
  have fz : ∀ j, W1.frozen? ⟨W.heap.size, j, none⟩ = false := fun j => frozen_of_row W1 _ _ _ _ hi1
  have z0 := fz 0
  have z1 := fz 1
  have z2 := fz 2
  have z3 := fz 3
  have z4 := fz 4
  have z5 := fz 5
  have z6 := fz 6
  have tl1 : v.tb < W1.heap.size := Nat.lt_of_lt_of_le tl hb1.size
  have hg1 : g < W1.heap.size := Nat.lt_of_lt_of_le hg hb1.size
  clear hW1 hb1 hi1 fz t0 t1 t2 t3 t4 t5 t6 f3 f5 f6
  go_still_tail 10, (by kernel_rfl)
  go_wp2
  exact bodyPost_ret (results_ib (X := (put7 W1 W.heap.size i).drew) (n := W.heap.size) (x := i) Try.results22 _ rfl (ib_drew (ib_all HI1.out i))) rfl ⟨rfl, (below7 HB1.out (Nat.le_refl _) i).drew⟩
theorem ahead_any (h : Hid (TV W v x N)) : Calls Try.prog 22 #[.pointer (some ⟨v.tb, 0, none⟩)] W fun e w' => e = .returned (aheadM v.code x.pc).v ∧ Below W.heap.size W w' := by
  by_cases h0 : 0 ≤ x.pc
  · obtain ⟨k, hk⟩ : ∃ k : Nat, x.pc = (k : Int) := ⟨x.pc.toNat, by omega⟩
    by_cases h1 : k < v.code.length
    · have e : aheadM v.code x.pc = v.code[k] := by
        unfold aheadM
        rw [if_pos h0, hk, List.getD_eq_getElem?_getD, Int.toNat_natCast, List.getElem?_eq_getElem h1]
        rfl
      rw [e]
      exact ahead_in h hk (List.getElem?_eq_getElem h1)
    · have e : aheadM v.code x.pc = ⟨13, 0, 0, 0, 0, 0, 0⟩ := by
        unfold aheadM
        rw [if_pos h0, hk, List.getD_eq_getElem?_getD, Int.toNat_natCast, List.getElem?_eq_none (by omega)]
        rfl
      rw [e]
      exact ahead_out h (.inr (by omega))
  · have e : aheadM v.code x.pc = ⟨13, 0, 0, 0, 0, 0, 0⟩ := by
      unfold aheadM
      rw [if_neg h0]
    rw [e]
    exact ahead_out h (.inl (by omega))
theorem ahead_is (h : Hid (TV W v x N)) {i : Ic} (hi : aheadM v.code x.pc = i) : Calls Try.prog 22 #[.pointer (some ⟨v.tb, 0, none⟩)] W fun e w' => e = .returned i.v ∧ Below W.heap.size W w' := hi ▸ ahead_any h
end
end Go.Proofs.Ytnmalhjhfddjpaa
