/- What is asked of a run: where a thread stands, what its registers have, who owns a lock, the words. -/
import Derived.Test.YtnmalhjhfddjpaaRun
namespace Go.Proofs.Ytnmalhjhfddjpaa
set_option linter.unusedSimpArgs false
set_option linter.unusedVariables false
open Go Go.RowKit Go.ChangeMaps Go.MapKept Go.WideElems Go.Maps
section
variable {W X : World} {L : Lay} {g : G} {N M lo A hi : Nat}
/-- Where a thread stands; 0 of others. -/
def placeG (g : G) (n : Int) : Int := if 0 ≤ n then ((g.ts[n.toNat]?).map T1.pc).getD 0 else 0
/-- What its register has; 0 of others. -/
def regG (g : G) (n q : Int) : Int := if 0 ≤ n then ((g.ts[n.toNat]?).map fun x => x.regs q).getD 0 else 0
set_option maxHeartbeats 2000000 in
theorem place_in (h : Hid (RA W L g N lo A hi)) {k : Nat} {t : TL} {x : T1} (hk : k < 1000000) (ht : Hid (L.ts[k]? = some t)) (hx : Hid (g.ts[k]? = some x)) : Calls Try.prog 12 #[.pointer (some ⟨L.rb, 0, none⟩), .int .i64 (k : Int)] W fun e w' => e = .returned (.int .i64 x.pc) ∧ W = w' := by
  obtain ⟨tl, t0, t1, t2, t3, t4, t5, t6, f3, f5, f6⟩ := (h.out.tv ht.out hx.out).thr.facts
  change W.cell? ⟨t.tb, 5, none⟩ = some (.int .i64 x.pc) at t5
  change t.tb < W.heap.size at tl
  clear t0 t1 t2 t3 t4 t6 f3 f5 f6
  go_enter Try.func12, Try.ntmps12
  go_wp2_with (go_at_call 17; ((with_reducible refine (thread_in h ht.out hk).mono ?_); rintro e1 w1 ⟨rfl, rfl⟩))
  go_ret
  exact ⟨rfl, rfl⟩
set_option maxHeartbeats 2000000 in
theorem place_out (h : Hid (RA W L g N lo A hi)) {n : Int} (hn : Hid (n < 0 ∨ (L.ts.length : Int) ≤ n)) : Calls Try.prog 12 #[.pointer (some ⟨L.rb, 0, none⟩), .int .i64 n] W fun e w' => e = .returned (.int .i64 0) ∧ W = w' := by
  go_enter Try.func12, Try.ntmps12
  go_wp2_with (go_at_call 17; ((with_reducible refine (thread_out h hn.out).mono ?_); rintro e1 w1 ⟨rfl, rfl⟩))
  go_ret
  exact ⟨rfl, rfl⟩
theorem place_any (h : Hid (RA W L g N lo A hi)) (n : Int) (hl : L.ts.length < 1000000) : Calls Try.prog 12 #[.pointer (some ⟨L.rb, 0, none⟩), .int .i64 n] W fun e w' => e = .returned (.int .i64 (placeG g n)) ∧ W = w' := by
  have htl := h.out.tl
  unfold placeG
  by_cases h0 : 0 ≤ n
  · rw [if_pos h0]
    obtain ⟨k, rfl⟩ : ∃ k : Nat, n = (k : Int) := ⟨n.toNat, by omega⟩
    rw [Int.toNat_natCast]
    by_cases hk : k < L.ts.length
    · have ht := List.getElem?_eq_getElem hk
      have hx := List.getElem?_eq_getElem (l := g.ts) (i := k) (by omega)
      rw [hx]
      exact place_in h (by omega) (Lib.hid ht) (Lib.hid hx)
    · rw [List.getElem?_eq_none (by omega)]
      exact place_out h (Lib.hid (.inr (by omega)))
  · rw [if_neg h0]
    exact place_out h (Lib.hid (.inl (by omega)))
set_option maxHeartbeats 2000000 in
theorem reg_in (h : Hid (RA W L g N lo A hi)) {k : Nat} {t : TL} {x : T1} {q : Int} (hq : In6 q) (hk : k < 1000000) (ht : Hid (L.ts[k]? = some t)) (hx : Hid (g.ts[k]? = some x)) : Calls Try.prog 13 #[.pointer (some ⟨L.rb, 0, none⟩), .int .i64 (k : Int), .int .i64 q] W fun e w' => e = .returned (.int .i64 (x.regs q)) ∧ W = w' := by
  have HR : Hid (Calls Try.prog 19 #[.pointer (some ⟨t.tb, 0, none⟩), .int .i64 q] W fun e w' => e = .returned (.int .i64 (x.regs q)) ∧ W = w') := Lib.hid (read_any (Lib.hid (h.out.tv ht.out hx.out)) hq)
  go_enter Try.func13, Try.ntmps13
  go_wp2_with (first
    | (go_at_call 17; ((with_reducible refine (thread_in h ht.out hk).mono ?_); rintro e1 w1 ⟨rfl, rfl⟩))
    | (go_at_call 19; ((with_reducible refine HR.out.mono ?_); rintro e1 w1 ⟨rfl, rfl⟩)))
  go_ret
  exact ⟨rfl, rfl⟩
set_option maxHeartbeats 2000000 in
theorem reg_out (h : Hid (RA W L g N lo A hi)) {n q : Int} (hn : Hid (n < 0 ∨ (L.ts.length : Int) ≤ n)) : Calls Try.prog 13 #[.pointer (some ⟨L.rb, 0, none⟩), .int .i64 n, .int .i64 q] W fun e w' => e = .returned (.int .i64 0) ∧ W = w' := by
  go_enter Try.func13, Try.ntmps13
  go_wp2_with (go_at_call 17; ((with_reducible refine (thread_out h hn.out).mono ?_); rintro e1 w1 ⟨rfl, rfl⟩))
  go_ret
  exact ⟨rfl, rfl⟩
theorem reg_any (h : Hid (RA W L g N lo A hi)) (n : Int) {q : Int} (hq : In6 q) (hl : L.ts.length < 1000000) : Calls Try.prog 13 #[.pointer (some ⟨L.rb, 0, none⟩), .int .i64 n, .int .i64 q] W fun e w' => e = .returned (.int .i64 (regG g n q)) ∧ W = w' := by
  have htl := h.out.tl
  unfold regG
  by_cases h0 : 0 ≤ n
  · rw [if_pos h0]
    obtain ⟨k, rfl⟩ : ∃ k : Nat, n = (k : Int) := ⟨n.toNat, by omega⟩
    rw [Int.toNat_natCast]
    by_cases hk : k < L.ts.length
    · have ht := List.getElem?_eq_getElem hk
      have hx := List.getElem?_eq_getElem (l := g.ts) (i := k) (by omega)
      rw [hx]
      exact reg_in h hq (by omega) (Lib.hid ht) (Lib.hid hx)
    · rw [List.getElem?_eq_none (by omega)]
      exact reg_out h (Lib.hid (.inr (by omega)))
  · rw [if_neg h0]
    exact reg_out h (Lib.hid (.inl (by omega)))
set_option maxHeartbeats 2000000 in
theorem lock_any (h : Hid (RA W L g N lo A hi)) {q : Int} (hq : In6 q) : Calls Try.prog 14 #[.pointer (some ⟨L.rb, 0, none⟩), .int .i64 q] W fun e w' => e = .returned (.int .i64 (g.own q)) ∧ W = w' := by
  obtain ⟨rl, r0, r1, r2, f0⟩ := h.out.run.facts
  obtain ⟨u, hu⟩ : ∃ u, g.own q = u := ⟨_, rfl⟩
  have hl := h.out.own.look hq
  rw [hu] at hl ⊢
  clear hu
  rcases hl with ⟨rfl, hl⟩ | hl
  · go_enter Try.func14, Try.ntmps14
    go_wp2
    go_ret
    exact ⟨rfl, rfl⟩
  · go_enter Try.func14, Try.ntmps14
    go_wp2
    go_ret
    exact ⟨rfl, rfl⟩
set_option maxHeartbeats 2000000 in
theorem memory_any (h : Hid (RA W L g N lo A hi)) : Calls Try.prog 11 #[.pointer (some ⟨L.rb, 0, none⟩)] W (CpI W g.mem.length g.mem) := by
  obtain ⟨rl, r0, r1, r2, f0⟩ := h.out.run.facts
  rw [← h.out.len] at r1
  have HC : Hid (Calls Try.prog 15 #[.slice L.mp g.mem.length L.mc] W (CpI W g.mem.length g.mem)) := Lib.hid (clone_i64 rfl (by have := h.out.sm; have := h.out.len; omega) (Lib.hid fun i u hu => by
    obtain ⟨b, o, h1, _, h3, _⟩ := h.out.mem i u hu
    exact ⟨b, o, h1, h3⟩))
  go_enter Try.func11, Try.ntmps11
  go_wp2_with (go_at_call 15; ((with_reducible refine HC.out.mono ?_); rintro e1 w1 hp1; obtain ⟨p, c, rfl, h1, h2, h3, h4⟩ := hp1; have HP1 := Lib.hid (And.intro h2 (And.intro h3 h4)); clear h1 h2 h3 h4))
  go_ret
  obtain ⟨h2, h3, h4⟩ := HP1.out
  exact ⟨p, c, rfl, rfl, h2, h3, h4⟩
end
end Go.Proofs.Ytnmalhjhfddjpaa
