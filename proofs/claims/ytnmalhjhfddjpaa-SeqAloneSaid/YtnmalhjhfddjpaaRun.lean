/- A run in memory: its threads, its words, its locks; and what is asked of it. -/
import Derived.Test.YtnmalhjhfddjpaaStp
import Derived.Test.YtnmalhjhfddjpaaNth
namespace Go.Proofs.Ytnmalhjhfddjpaa
set_option linter.unusedSimpArgs false
set_option linter.unusedVariables false
open Go Go.RowKit Go.ChangeMaps Go.MapKept Go.WideElems Go.Maps

structure T1 where
  pc : Int
  over : Bool
  regs : Int → Int
/-- How a run stands. -/
structure G where
  ts : List T1
  mem : List Int
  own : Int → Int
def G.s1 (g : G) (t : T1) : S1 := ⟨t.pc, t.over, t.regs, g.mem, g.own⟩
def G.put (g : G) (k : Nat) (x : S1) : G := ⟨g.ts.set k ⟨x.pc, x.over, x.regs⟩, x.mem, x.own⟩
/-- Where a run stands in memory. -/
structure Lay where
  rb : Nat
  om : Nat
  tv : Value
  mp : Option Addr
  mn : Nat
  mc : Nat
  ts : List TL
def Lay.v (L : Lay) (k : Nat) (t : TL) : V := ⟨L.rb, t.tb, t.rm, t.dm, L.om, k, t.cp, t.cc, t.code, L.tv, L.mp, L.mn, L.mc⟩
abbrev ptrs (l : List TL) : List Value := l.map fun t => .pointer (some ⟨t.tb, 0, none⟩)
structure Lay.Is (L : Lay) (lo A hi : Nat) : Prop where
  rb : lo ≤ L.rb ∧ L.rb < A
  om : lo ≤ L.om ∧ L.om < A
  mp : ∀ a, L.mp = some a → lo ≤ a.block ∧ a.block < A
  ro : L.rb ≠ L.om
  mr : ∀ a, L.mp = some a → a.block ≠ L.rb ∧ a.block ≠ L.om
  ah : A ≤ hi
  th : ∀ (k : Nat) t, L.ts[k]? = some t → TI t A hi
  sep : ∀ (j k : Nat) t u, L.ts[j]? = some t → L.ts[k]? = some u → j ≠ k → t.tb ≠ u.tb ∧ t.tb ≠ u.rm ∧ t.rm ≠ u.tb ∧ t.rm ≠ u.rm ∧ t.dm ≠ u.tb ∧ t.dm ≠ u.rm ∧ ∀ a, t.cp = some a → a.block ≠ u.tb ∧ a.block ≠ u.rm
structure RA (W : World) (L : Lay) (g : G) (N lo A hi : Nat) : Prop where
  run : Rb W L.rb L.tv (.slice L.mp L.mn L.mc) (.map (some L.om))
  own : OM W L.om N g.own
  mem : MemAt W L.mp g.mem
  len : g.mem.length = L.mn
  sm : L.mn < 1000000
  tl : g.ts.length = L.ts.length
  th : ∀ (k : Nat) t x, L.ts[k]? = some t → g.ts[k]? = some x → TP W L.rb k t x.pc x.over x.regs N
  row : W.ownsRow A 55 1 L.tv L.ts.length (ptrs L.ts)
  rh : ∀ b, L.tv.ownBlock = some b → b < hi ∧ ∀ (k : Nat) t, L.ts[k]? = some t → b ≠ t.tb ∧ b ≠ t.rm ∧ b ≠ t.dm ∧ ∀ a, t.cp = some a → a.block ≠ b
  is : L.Is lo A hi
  hi : hi ≤ W.heap.size
section
variable {W X : World} {L : Lay} {g : G} {N M lo A hi : Nat} {v : V} {x : S1}
theorem Lay.Is.ok (h : L.Is lo A hi) {k : Nat} {t : TL} (ht : L.ts[k]? = some t) : (L.v k t).Ok := by
  have hi := h.th k t ht
  have h1 := h.rb
  have h2 := h.om
  have t1 := hi.tb
  have t2 := hi.rm
  have t3 := hi.dm
  refine ⟨?_, ?_, hi.tr, ?_, ?_, fun a e => ?_, fun a e => ?_⟩
  · rintro (e | e | e | ⟨a, ea, e⟩)
    · simp only [Lay.v] at e; omega
    · simp only [Lay.v] at e; omega
    · exact h.ro e
    · exact (h.mr a ea).1 e.symm
  · rintro (e | e | e | ⟨a, ea, e⟩)
    · exact hi.td e.symm
    · exact hi.rd e.symm
    · simp only [Lay.v] at e; omega
    · have := h.mp a ea
      simp only [Lay.v] at e
      omega
  · simp only [Lay.v]
    omega
  · simp only [Lay.v]
    omega
  · have h3 := h.mp a e
    have h4 := h.mr a e
    simp only [Lay.v]
    omega
  · have h3 := hi.cp a e
    have h4 := hi.ct a e
    rintro (e2 | e2 | e2 | ⟨b, eb, e2⟩)
    · exact h4.1 e2
    · exact h4.2 e2
    · simp only [Lay.v] at e2; omega
    · have := h.mp b eb
      omega
/-- A thread of the run by itself. -/
theorem RA.tv (h : RA W L g N lo A hi) {k : Nat} {t : TL} {x : T1} (ht : L.ts[k]? = some t) (hx : g.ts[k]? = some x) : TV W (L.v k t) (g.s1 x) N := by
  have hp := h.th k t x ht hx
  have hi := h.is.th k t ht
  have h1 := h.is.rb
  have h2 := h.is.om
  have h3 := h.is.ah
  have h4 := h.hi
  have t1 := hi.tb
  have t2 := hi.rm
  have t3 := hi.dm
  exact ⟨h.run, hp.thr, hp.doe, hp.reg, h.own, hp.cod, h.mem, h.len, ⟨h.sm, hp.sm⟩, h.is.ok ht, ⟨by simp only [Lay.v]; omega, by simp only [Lay.v]; omega, by simp only [Lay.v]; omega, by simp only [Lay.v]; omega, by simp only [Lay.v]; omega, fun a e => by have := h.is.mp a e; omega, fun a e => by have := hi.cp a e; omega⟩⟩
/-- What a turn may write lies where the run lies. -/
theorem RA.S (h : RA W L g N lo A hi) {k : Nat} {t : TL} (ht : L.ts[k]? = some t) {b : Nat} (hb : (L.v k t).S b) : lo ≤ b ∧ b < hi := by
  have hi := h.is.th k t ht
  have h1 := h.is.rb
  have h2 := h.is.om
  have h3 := h.is.ah
  have t1 := hi.tb
  have t2 := hi.rm
  rcases hb with e | e | e | ⟨a, ea, e⟩
  · simp only [Lay.v] at e; omega
  · simp only [Lay.v] at e; omega
  · simp only [Lay.v] at e; omega
  · have := h.is.mp a ea
    omega
theorem own_form {B T k n : Nat} {v : Value} {xs : List Value} (h : W.ownsRow B T k v n xs) : ∃ p c, v = .slice p n c := by
  rcases h.2 with ⟨rfl, rfl⟩ | ⟨g, cap, cur, rfl, _⟩
  · exact ⟨none, 0, rfl⟩
  · exact ⟨_, cap, rfl⟩
theorem own_at {B e size n : Nat} {v : Value} {xs : List Value} (h : W.ownsRow B e size v n xs) (hs : ∀ b, v.ownBlock = some b → B ≤ b → X.heap[b]? = W.heap[b]?) : X.ownsRow B e size v n xs := by
  refine ⟨h.1, ?_⟩
  rcases h.2 with h0 | ⟨g, cap, cur, rfl, hB, hg, rest⟩
  · exact .inl h0
  · exact .inr ⟨g, cap, cur, rfl, hB, (hs g rfl hB).trans hg, rest⟩
/-- A world in which nothing of the run was turned. -/
theorem RA.stay (h : RA W L g N lo A hi) (hs : W.heap.size ≤ X.heap.size) (hb : ∀ k, lo ≤ k → k < hi → X.heap[k]? = W.heap[k]?) : RA X L g N lo A hi := by
  have h1 := h.is.rb
  have h2 := h.is.om
  have h3 := h.is.ah
  exact ⟨(hb _ h1.1 (by omega)).trans h.run, h.own.same (hb _ h2.1 (by omega)), h.mem.same hs fun a e _ => hb _ (h.is.mp a e).1 (by have := h.is.mp a e; omega), h.len, h.sm, h.tl,
    fun k t x ht hx => (h.th k t x ht hx).same (h.is.th k t ht) hs fun q _ hq1 hq2 => hb q (by omega) hq2, own_at h.row fun b e hB => hb b (by omega) (h.rh b e).1, h.rh, h.is, Nat.le_trans h.hi hs⟩
theorem RA.below (h : RA W L g N lo A hi) (hb : Below W.heap.size W X) : RA X L g N lo A hi := h.stay hb.size fun k _ hk => hb.block k (Nat.lt_of_lt_of_le hk h.hi)
/-- A thread of it was turned. -/
theorem RA.back (h : RA W L g N lo A hi) {k : Nat} {t : TL} {x : T1} (ht : L.ts[k]? = some t) (hx : g.ts[k]? = some x) {y : S1} (hN : N ≤ M) (hy : TV X (L.v k t) y M) (hc : Ch (L.v k t).S W X) : RA X L (g.put k y) M lo A hi := by
  have hI := h.is.th k t ht
  have h1 := h.is.rb
  have h2 := h.is.om
  have h3 := h.is.ah
  have hkl : k < g.ts.length := (List.getElem?_eq_some_iff.1 hx).1
  refine ⟨hy.run, hy.own, hy.mem, hy.len, h.sm, by simp [G.put, h.tl], fun j u z hu hz => ?_, own_at h.row fun b e hB => ?_, h.rh, h.is, Nat.le_trans h.hi hc.size⟩
  · by_cases e : j = k
    · subst e
      rw [ht] at hu
      cases hu
      simp only [G.put] at hz
      rw [List.getElem?_set_self hkl] at hz
      cases hz
      exact ⟨hy.thr, hy.doe, hy.reg, hy.cod, hy.sm.2⟩
    · simp only [G.put] at hz
      rw [List.getElem?_set_ne (Ne.symm e)] at hz
      have hp := h.th j u z hu hz
      have hJ := h.is.th j u hu
      obtain ⟨s1, s2, s3, s4, s5, s6, s7⟩ := h.is.sep j k u t hu ht e
      have no : ∀ b, A ≤ b → b ≠ t.tb → b ≠ t.rm → ¬ (L.v k t).S b := by
        intro b hb n1 n2
        rintro (e | e | e | ⟨a, ea, e⟩)
        · exact n1 e
        · exact n2 e
        · simp only [Lay.v] at e; omega
        · have := h.is.mp a ea
          omega
      have j1 := hJ.tb
      have j2 := hJ.rm
      have j3 := hJ.dm
      exact ⟨(hc.block _ hp.thr.facts.1 (no _ j1.1 s1 s2)).trans hp.thr, hp.doe.same (hc.block _ hp.doe.lt (no _ j3.1 s5 s6)), (hp.reg.same (hc.block _ hp.reg.lt (no _ j2.1 s3 s4))).mono hN, hp.cod.same hc.size fun a ea hl => hc.block _ hl (no _ (hJ.cp a ea).1 (s7 a ea).1 (s7 a ea).2), hp.sm⟩
  · rcases h.row.2 with ⟨e0, _⟩ | ⟨q, cap, cur, e0, hq, hg, _⟩
    · rw [e0] at e
      cases e
    · rw [e0] at e
      have e2 : q = b := by simpa [Value.ownBlock] using e
      subst e2
      refine hc.block q (Array.getElem?_eq_some_iff.1 hg).1 ?_
      have hp := h.th k t x ht hx
      rintro (e | e | e | ⟨a, ea, e⟩)
      · have := hp.thr
        unfold Tb at this
        simp only [Lay.v] at e
        rw [← e, hg] at this
        simp only [Option.some.injEq, Obj.cells.injEq] at this
        exact absurd this.2.1 (by decide)
      · obtain ⟨f, hf, _⟩ := hp.reg
        exact hf.nocells hg e.symm
      · simp only [Lay.v] at e; omega
      · have := h.is.mp a ea
        omega
theorem RA.mono (h : RA W L g N lo A hi) (hN : N ≤ M) : RA W L g M lo A hi := { h with own := h.own.mono hN, th := fun k t x ht hx => { h.th k t x ht hx with reg := (h.th k t x ht hx).reg.mono hN } }

set_option maxHeartbeats 2000000 in
theorem thread_out (h : Hid (RA W L g N lo A hi)) {n : Int} (hn : n < 0 ∨ (L.ts.length : Int) ≤ n) : Calls Try.prog 17 #[.pointer (some ⟨L.rb, 0, none⟩), .int .i64 n] W fun e w' => e = .returned (.pointer none) ∧ W = w' := by
  obtain ⟨rl, r0, r1, r2, f0⟩ := h.out.run.facts
  obtain ⟨p, c, hv⟩ := own_form h.out.row
  rw [hv] at r0
  obtain ⟨m, hm⟩ : ∃ m, L.ts.length = m := ⟨_, rfl⟩
  rw [hm] at r0 hn
  clear hv hm
  by_cases h0 : n < 0
  · have hd : decide (n < 0) = true := by simpa using h0
    clear hn
    go_enter Try.func17, Try.ntmps17
    go_wp2_with (fail)
    go_ret
    exact ⟨rfl, rfl⟩
  · have hd : decide (n < 0) = false := by simpa using h0
    have hd2 : decide ((m : Int) ≤ n) = true := by simp; omega
    clear hn
    go_enter Try.func17, Try.ntmps17
    go_wp2_with (fail)
    go_ret
    exact ⟨rfl, rfl⟩
set_option maxHeartbeats 2000000 in
theorem thread_in (h : Hid (RA W L g N lo A hi)) {k : Nat} {t : TL} (ht : L.ts[k]? = some t) (hk : k < 1000000) : Calls Try.prog 17 #[.pointer (some ⟨L.rb, 0, none⟩), .int .i64 (k : Int)] W fun e w' => e = .returned (.pointer (some ⟨t.tb, 0, none⟩)) ∧ W = w' := by
  obtain ⟨rl, r0, r1, r2, f0⟩ := h.out.run.facts
  have hkl : k < L.ts.length := (List.getElem?_eq_some_iff.1 ht).1
  rcases h.out.row.2 with ⟨_, e0⟩ | ⟨b, c, cur, hv, hB, hg, _, _, _, htk⟩
  · omega
  have hc := row_cell (B := A) (cap := c) hg htk k _ (by rw [List.getElem?_map, ht]; rfl)
  rw [Nat.zero_add] at hc
  have hbl : b < W.heap.size := (Array.getElem?_eq_some_iff.1 hg).1
  rw [hv] at r0
  obtain ⟨m, hm⟩ : ∃ m, L.ts.length = m := ⟨_, rfl⟩
  rw [hm] at r0 hkl
  have hk2 : (k : Int) < (m : Int) := by omega
  have hk3 : (0 : Int) ≤ k := by omega
  have hd : decide ((k : Int) < 0) = false := by simp
  have hd2 : decide ((m : Int) ≤ (k : Int)) = false := by simp; omega
  have hd3 : decide (m ≤ k) = false := by simp; omega
  clear hv hm ht htk hg hB
  go_enter Try.func17, Try.ntmps17
  go_wp2_with (fail)
  go_ret
  exact ⟨rfl, rfl⟩
/-- What a turn comes to, in a run. -/
def nextG (cs : List TL) (n fuel : Int) (g : G) : G × Rs :=
  if 0 ≤ n then (match cs[n.toNat]?, g.ts[n.toNat]? with
    | some t, some x => if x.over then (g, ⟨0, 0, 0, 2, true⟩) else (g.put n.toNat (turnM n t.code fuel.toNat (g.s1 x)).1, (turnM n t.code fuel.toNat (g.s1 x)).2)
    | _, _ => (g, ⟨0, 0, 0, 2, true⟩))
  else (g, ⟨0, 0, 0, 2, true⟩)
/-- What a turn of a run leaves. -/
def NxP (W : World) (L : Lay) (p : G × Rs) (N lo A hi : Nat) (e : Ending) (w' : World) : Prop := e = .returned (.tuple #[.agg #[.int .i64 p.2.ek, .int .i64 p.2.et, .int .i64 p.2.en], .int .i64 p.2.what]) ∧ RA w' L p.1 N lo A hi ∧ Ch (fun b => lo ≤ b ∧ b < hi) W w'
theorem ended_end (h : Hid (RA W L g N lo A hi)) {M : Nat} (hN : N ≤ M) (o : Obj) : NxP W L (g, ⟨0, 0, 0, 2, true⟩) M lo A hi (.returned (.tuple #[.agg #[.int .i64 0, .int .i64 0, .int .i64 0], .int .i64 2])) (W.alloc o) := by
  have hB : Below W.heap.size W (W.alloc o) := (Below.refl _ _).alloc (Nat.le_refl _) o
  exact ⟨rfl, (h.out.below hB).mono hN, .of hB⟩
set_option maxRecDepth 100000 in
set_option maxHeartbeats 4000000 in
theorem next_none (h : Hid (RA W L g N lo A hi)) {n fuel : Int} (hn : n < 0 ∨ (L.ts.length : Int) ≤ n) {M : Nat} (hM : N ≤ M) : Calls Try.prog 9 #[.pointer (some ⟨L.rb, 0, none⟩), .int .i64 n, .int .i64 fuel] W (NxP W L (g, ⟨0, 0, 0, 2, true⟩) M lo A hi) := by
  have HN := Lib.hid hn
  clear hn
  go_enter Try.func9, Try.ntmps9
  go_wp2_with (go_at_call 17; ((with_reducible refine (thread_out (Lib.hid (h.out.below ((Below.refl _ _).alloc (Nat.le_refl _) _))) HN.out).mono ?_); rintro e1 w1 ⟨rfl, rfl⟩))
  exact bodyPost_ret (results_e2 (n := W.heap.size) (v0 := .int .i64 0) (v1 := .int .i64 0) (v2 := .int .i64 0) Try.results9 _ (.int .i64 2) rfl rfl (Eb.new rfl _ _ _)) rfl (ended_end h hM _)
set_option maxRecDepth 100000 in
set_option maxHeartbeats 4000000 in
theorem next_over (h : Hid (RA W L g N lo A hi)) {k : Nat} {t : TL} {x : T1} {fuel : Int} (hk : k < 1000000) (ht : Hid (L.ts[k]? = some t)) (hx : Hid (g.ts[k]? = some x)) (ho : Hid (x.over = true)) {M : Nat} (hM : N ≤ M) : Calls Try.prog 9 #[.pointer (some ⟨L.rb, 0, none⟩), .int .i64 (k : Int), .int .i64 fuel] W (NxP W L (g, ⟨0, 0, 0, 2, true⟩) M lo A hi) := by
  obtain ⟨tl, t0, t1, t2, t3, t4, t5, t6, f3, f5, f6⟩ := (h.out.tv ht.out hx.out).thr.facts
  change W.cell? ⟨t.tb, 6, none⟩ = some (.bool x.over) at t6
  change t.tb < W.heap.size at tl
  rw [ho.out] at t6
  clear t0 t1 t2 t3 t4 t5 f3 f5 f6
  go_enter Try.func9, Try.ntmps9
  go_wp2_with (go_at_call 17; ((with_reducible refine (thread_in (Lib.hid (h.out.below ((Below.refl _ _).alloc (Nat.le_refl _) _))) ht.out hk).mono ?_); rintro e1 w1 ⟨rfl, rfl⟩))
  exact bodyPost_ret (results_e2 (n := W.heap.size) (v0 := .int .i64 0) (v1 := .int .i64 0) (v2 := .int .i64 0) Try.results9 _ (.int .i64 2) rfl rfl (Eb.new rfl _ _ _)) rfl (ended_end h hM _)
theorem step_is (h : Hid (TV W v x N)) (hN : N < 1000000) {y : S1} {a b c d : Int} {f : Bool} (e : stepM v.num v.code x = (y, ⟨a, b, c, d, f⟩)) : Calls Try.prog 18 #[.pointer (some ⟨v.tb, 0, none⟩)] W (Post W v (y, ⟨a, b, c, d, f⟩) (N + 1)) := e ▸ step_any h hN
theorem run_end (h : RA W L g N lo A hi) {k : Nat} {t : TL} {z : T1} (ht : L.ts[k]? = some t) (hx : g.ts[k]? = some z) (hv : L.v k t = v) {y : S1} (hN : N ≤ M) (hy : TV X v y M) (hc : Ch v.S W X) (r : Rs) : NxP W L (g.put k y, r) M lo A hi (.returned (.tuple #[.agg #[.int .i64 r.ek, .int .i64 r.et, .int .i64 r.en], .int .i64 r.what])) X := by
  subst hv
  exact ⟨rfl, h.back ht hx hN hy hc, hc.mono fun b hb => h.S ht hb⟩
set_option maxRecDepth 100000 in
set_option maxHeartbeats 4000000 in
theorem next_run (h : Hid (RA W L g N lo A hi)) {k : Nat} {t : TL} {x : T1} {fuel : Int} (hk : k < 1000000) (ht : Hid (L.ts[k]? = some t)) (hx : Hid (g.ts[k]? = some x)) (ho : Hid (x.over = false)) (hf : fuel ≤ 1000000) (hM : N + fuel.toNat < 1000000) {R : S1 × Rs} (hR : Hid (turnM k t.code fuel.toNat (g.s1 x) = R)) : Calls Try.prog 9 #[.pointer (some ⟨L.rb, 0, none⟩), .int .i64 (k : Int), .int .i64 fuel] W (NxP W L (g.put k R.1, R.2) (N + fuel.toNat) lo A hi) := by
  obtain ⟨v, hv⟩ : ∃ v, L.v k t = v := ⟨_, rfl⟩
  have hT := h.out.tv ht.out hx.out
  have htb : t.tb = v.tb := by rw [← hv]; rfl
  have HV : Hid (v.num = k ∧ v.code = t.code) := Lib.hid (by rw [← hv]; exact ⟨rfl, rfl⟩)
  rw [hv] at hT
  have HVe := Lib.hid hv
  obtain ⟨tl, t0, t1, t2, t3, t4, t5, t6, f3, f5, f6⟩ := hT.thr.facts
  change W.cell? ⟨v.tb, 6, none⟩ = some (.bool x.over) at t6
  rw [ho.out] at t6
  have HT := Lib.hid hT
  have HLT := Lib.hid hT.lt
  clear t0 t1 t2 t3 t4 t5 f3 f5 f6 hT hv
  have HTH : Hid (∀ X, Below W.heap.size W X → Calls Try.prog 17 #[.pointer (some ⟨L.rb, 0, none⟩), .int .i64 (k : Int)] X fun e w' => e = .returned (.pointer (some ⟨v.tb, 0, none⟩)) ∧ X = w') := Lib.hid fun X hX => htb ▸ thread_in (Lib.hid (h.out.below hX)) ht.out hk
  clear htb
  go_enter Try.func9, Try.ntmps9
  go_wp2_with (go_at_call 17; ((with_reducible refine (HTH.out _ ((Below.refl _ _).alloc (Nat.le_refl _) _)).mono ?_); rintro e1 w1 ⟨rfl, rfl⟩))
  refine name_world ?_
  intro W1 hW1
  have HC1 : Hid (Ch v.S W W1) := Lib.hid (by rw [hW1]; exact (Ch.refl _ _).alloc _)
  have HE1 : Hid (Eb W1 W.heap.size (.int .i64 0) (.int .i64 0) (.int .i64 0)) := Lib.hid (by rw [hW1]; exact Eb.new rfl _ _ _)
  have HT1 : Hid (TV W1 v (g.s1 x) N) := Lib.hid (by rw [hW1]; exact HT.out.alloc _)
  clear hW1 tl t6
  go_loopw [2] (fun fu wr => ∃ (q : Int) (y : S1), fu = .int .i64 q ∧ q ≤ fuel ∧ Hid (TV wr v y (N + (fuel.toNat - q.toNat))) ∧ Hid (Ch v.S W wr) ∧ Hid (Eb wr W.heap.size (.int .i64 0) (.int .i64 0) (.int .i64 0)) ∧ Hid (turnM k t.code q.toNat y = R)) (fun fu _ => (intOf fu).toNat)
  case atStart => exact ⟨fuel, g.s1 x, rfl, Int.le_refl _, Lib.hid (HT1.out.mono (by omega)), HC1, HE1, hR⟩
  case round =>
    obtain ⟨wo, rfl⟩ : ∃ wo : World, wo = wr := ⟨_, rfl⟩
    obtain ⟨q, y, rfl, hqf, HTr, HCr, HEr, HRr⟩ := hrel
    clear HC1 HE1 HT1
    by_cases h0 : 0 < q
    · obtain ⟨f, hf2⟩ : ∃ f : Nat, q.toNat = f + 1 := ⟨q.toNat - 1, by omega⟩
      obtain ⟨y2, ⟨a, b, c, d, fi⟩, hs⟩ : ∃ y2 r2, stepM k t.code y = (y2, r2) := ⟨_, _, rfl⟩
      have hR2 := HRr.out
      rw [hf2] at hR2
      unfold turnM at hR2
      rw [hs] at hR2
      have HR2 := Lib.hid hR2
      have HST : Hid (Calls Try.prog 18 #[.pointer (some ⟨v.tb, 0, none⟩)] wo (Post wo v (y2, ⟨a, b, c, d, fi⟩) (N + (fuel.toNat - q.toNat) + 1))) := Lib.hid (step_is HTr (by omega) (by rw [HV.out.1, HV.out.2]; exact hs))
      have HQ := Lib.hid hf2
      clear hR2 hs hf2 HRr
      cases fi
      · go_wp2_with (go_at_call 18; ((with_reducible refine HST.out.mono ?_); rintro e3 w3 ⟨rfl, ht3, hc3⟩; have HT3 := Lib.hid ht3; have HC3 := Lib.hid (HCr.out.trans hc3); have HE3 := Lib.hid (eb_keep HLT.out hc3 HEr.out (Nat.le_refl _)); clear ht3 hc3))
        go_roundw
        case rel =>
          have hq := HQ.out
          refine ⟨q - 1, y2, rfl, by omega, Lib.hid ((HT3.out.alloc _).mono (by omega)), Lib.hid (HC3.out.alloc _), Lib.hid ((Below.heap_alloc _ _ _ HE3.out.facts.1).trans HE3.out), Lib.hid ?_⟩
          rw [show (q - 1).toNat = f by omega]
          simpa using HR2.out
        case measure => simp [intOf]; omega
      · go_wp2_with (go_at_call 18; ((with_reducible refine HST.out.mono ?_); rintro e3 w3 ⟨rfl, ht3, hc3⟩; have HT3 := Lib.hid ht3; have HC3 := Lib.hid (HCr.out.trans hc3); have HE3 := Lib.hid (eb_keep HLT.out hc3 HEr.out (Nat.le_refl _)); obtain ⟨el, e0, e1, e2, g0, g1, g2⟩ := HE3.out.facts; clear ht3 hc3))
        have hq := HQ.out
        have hr : R = (y2, ⟨a, b, c, d, true⟩) := by simpa using HR2.out.symm
        rw [hr]
        exact bodyPost_ret (results_e2 (n := W.heap.size) (v0 := .int .i64 a) (v1 := .int .i64 b) (v2 := .int .i64 c) Try.results9 _ (.int .i64 d) rfl rfl ((Below.heap_alloc _ _ _ (HE3.out.all _ _ _).facts.1).trans (HE3.out.all _ _ _))) rfl
          (run_end h.out ht.out hx.out HVe.out (by omega) (((((HT3.out.mono (by omega)).set HLT.out (Nat.le_refl _) _ _).set HLT.out (Nat.le_refl _) _ _).set HLT.out (Nat.le_refl _) _ _).alloc _) ((((HC3.out.set (.inr (Nat.le_refl _)) _ _).set (.inr (Nat.le_refl _)) _ _).set (.inr (Nat.le_refl _)) _ _).alloc _) ⟨a, b, c, d, true⟩)
    · obtain ⟨el, e0, e1, e2, g0, g1, g2⟩ := HEr.out.facts
      go_wp2_with (fail)
      have hr : R = (y, ⟨0, 0, 0, 3, true⟩) := by
        have := HRr.out
        rw [show q.toNat = 0 by omega] at this
        exact this.symm
      rw [hr]
      exact bodyPost_ret (results_e2 (n := W.heap.size) (v0 := .int .i64 0) (v1 := .int .i64 0) (v2 := .int .i64 0) Try.results9 _ (.int .i64 3) rfl rfl (HEr.out.all _ _ _)) rfl
        (run_end h.out ht.out hx.out HVe.out (by omega) ((((HTr.out.mono (by omega)).set HLT.out (Nat.le_refl _) _ _).set HLT.out (Nat.le_refl _) _ _).set HLT.out (Nat.le_refl _) _ _) (((HCr.out.set (.inr (Nat.le_refl _)) _ _).set (.inr (Nat.le_refl _)) _ _).set (.inr (Nat.le_refl _)) _ _) ⟨0, 0, 0, 3, true⟩)
theorem next_any (h : Hid (RA W L g N lo A hi)) (n : Int) {fuel : Int} (hl : L.ts.length < 1000000) (hf : fuel ≤ 1000000) (hM : N + fuel.toNat < 1000000) : Calls Try.prog 9 #[.pointer (some ⟨L.rb, 0, none⟩), .int .i64 n, .int .i64 fuel] W (NxP W L (nextG L.ts n fuel g) (N + fuel.toNat) lo A hi) := by
  have htl := h.out.tl
  unfold nextG
  by_cases h0 : 0 ≤ n
  · rw [if_pos h0]
    obtain ⟨k, rfl⟩ : ∃ k : Nat, n = (k : Int) := ⟨n.toNat, by omega⟩
    rw [Int.toNat_natCast]
    by_cases hk : k < L.ts.length
    · have ht := List.getElem?_eq_getElem hk
      have hx := List.getElem?_eq_getElem (l := g.ts) (i := k) (by omega)
      rw [ht, hx]
      simp only
      cases ho : g.ts[k].over with
      | true =>
        rw [if_pos rfl]
        exact next_over h (by omega) (Lib.hid ht) (Lib.hid hx) (Lib.hid ho) (by omega)
      | false =>
        rw [if_neg (by simp)]
        exact next_run h (by omega) (Lib.hid ht) (Lib.hid hx) (Lib.hid ho) hf hM (Lib.hid rfl)
    · rw [List.getElem?_eq_none (by omega)]
      exact next_none h (.inr (by omega)) (by omega)
  · rw [if_neg h0]
    exact next_none h (.inl (by omega)) (by omega)
end
end Go.Proofs.Ytnmalhjhfddjpaa
