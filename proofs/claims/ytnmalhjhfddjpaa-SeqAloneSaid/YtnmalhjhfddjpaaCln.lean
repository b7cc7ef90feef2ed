/- slices.Clone of words, and of a code; what each kind does, as a map. -/
import Derived.Test.YtnmalhjhfddjpaaStt
import Derived.ProofKit
import Derived.WalkSpells
namespace Go.Proofs.Ytnmalhjhfddjpaa
set_option linter.unusedSimpArgs false
set_option linter.unusedVariables false
open Go Go.RowKit Go.ChangeMaps Go.MapKept Go.WideElems Go.Maps

theorem cell_old {X : World} {b j : Nat} {v : Value} (h : X.cell? ⟨b, j, none⟩ = some v) (o : Obj) : (X.alloc o).cell? ⟨b, j, none⟩ = some v := (World.cell?_of_block (a := ⟨b, j, none⟩) (Below.heap_alloc X o b (block_lt_of_cell h))).trans h
def c7 (x : Ic) : List Value := [.int .i64 x.k, .int .i64 x.o, .int .i64 x.d, .int .i64 x.a, .int .i64 x.b, .int .i64 x.n, .int .i64 x.t]
theorem c7_len (c : List Ic) : (c.flatMap c7).length = c.length * 7 := by
  induction c with
  | nil => rfl
  | cons x r ih => simp [List.flatMap_cons, ih, c7]; omega
theorem c7_get : ∀ (c : List Ic) (i : Nat) (x : Ic) (_ : c[i]? = some x) (j : Nat) (_ : j < 7), (c.flatMap c7)[i * 7 + j]? = (c7 x)[j]?
  | [], i, x, h, _, _ => by simp at h
  | y :: r, 0, x, h, j, hj => by
    simp only [List.getElem?_cons_zero, Option.some.injEq] at h
    subst h
    rw [List.flatMap_cons, List.getElem?_append_left (by simp [c7]; omega)]
    simp
  | y :: r, i + 1, x, h, j, hj => by
    simp only [List.getElem?_cons_succ] at h
    rw [List.flatMap_cons, List.getElem?_append_right (by simp [c7]; omega)]
    have := c7_get r i x h j hj
    rw [show (i + 1) * 7 + j - (c7 y).length = i * 7 + j by simp [c7]; omega]
    exact this
theorem c7_back (c : List Ic) (q : Nat) (u : Value) (h : (c.flatMap c7)[q]? = some u) : ∃ i x j, c[i]? = some x ∧ j < 7 ∧ q = i * 7 + j ∧ (c7 x)[j]? = some u := by
  have hl := (List.getElem?_eq_some_iff.1 h).1
  rw [c7_len] at hl
  have hi : q / 7 < c.length := by omega
  have hx := List.getElem?_eq_getElem hi
  have := c7_get c (q / 7) _ hx (q % 7) (by omega)
  rw [show q / 7 * 7 + q % 7 = q by omega, h] at this
  exact ⟨q / 7, _, q % 7, hx, by omega, by omega, this.symm⟩
theorem At7.cell {W : World} {g q : Nat} {x : Ic} (h : At7 W g q x) (j : Nat) (u : Value) (hu : (c7 x)[j]? = some u) : W.cell? ⟨g, q + j, none⟩ = some u := by
  match j, hu with
  | 0, hu => cases hu; exact h.k
  | 1, hu => cases hu; exact h.o
  | 2, hu => cases hu; exact h.d
  | 3, hu => cases hu; exact h.a
  | 4, hu => cases hu; exact h.b
  | 5, hu => cases hu; exact h.n
  | 6, hu => cases hu; exact h.t
theorem one7 (x : Ic) : ∀ u ∈ c7 x, u.oneCell' = true := by
  intro u hu
  simp [c7] at hu
  rcases hu with rfl | rfl | rfl | rfl | rfl | rfl | rfl <;> rfl
theorem row_cell {W : World} {B e size n : Nat} {g cap : Nat} {cur : Array Value} {xs : List Value} (hg : W.heap[g]? = some (.cells cur e (0, 0))) (ht : cur.toList.take (n * size) = xs) (q : Nat) (u : Value) (hu : xs[q]? = some u) : W.cell? ⟨g, 0 + q, none⟩ = some u := by
  rw [Nat.zero_add]
  rw [cell_of_row _ _ _ _ _ _ hg]
  rw [← ht, List.getElem?_take] at hu
  split at hu
  · simpa using hu
  · cases hu
/-- An own row of instructions is a code. -/
theorem code_of_row {W : World} {B n : Nat} {v : Value} {c : List Ic} (h : W.ownsRow B 42 7 v n (c.flatMap c7)) (hok : ∀ x ∈ c, Ok6 x) : ∃ p cap, v = .slice p n cap ∧ c.length = n ∧ CodeAt W p c ∧ ∀ a, p = some a → B ≤ a.block ∧ a.block < W.heap.size := by
  obtain ⟨hl, h⟩ := h
  rw [c7_len] at hl
  have hl2 : c.length = n := by omega
  rcases h with ⟨rfl, rfl⟩ | ⟨g, cap, cur, rfl, hB, hg, _, _, _, ht⟩
  · have : c = [] := List.eq_nil_of_length_eq_zero hl2
    subst this
    exact ⟨none, 0, rfl, rfl, fun i x hx => by simp at hx, fun a e => by cases e⟩
  · have hgl : g < W.heap.size := (Array.getElem?_eq_some_iff.1 hg).1
    refine ⟨some ⟨g, 0, none⟩, cap, rfl, hl2, fun i x hx => ⟨g, 0, rfl, hgl, ?_, hok x (List.mem_of_getElem? hx)⟩, fun a e => by cases e; exact ⟨hB, hgl⟩⟩
    have key : ∀ j u, j < 7 → (c7 x)[j]? = some u → W.cell? ⟨g, 0 + i * 7 + j, none⟩ = some u := fun j u hj hu => by
      have := row_cell (B := B) (cap := cap) hg ht (i * 7 + j) u (by rw [c7_get c i x hx j hj]; exact hu)
      rwa [← Nat.add_assoc] at this
    exact ⟨key 0 _ (by decide) rfl, key 1 _ (by decide) rfl, key 2 _ (by decide) rfl, key 3 _ (by decide) rfl, key 4 _ (by decide) rfl, key 5 _ (by decide) rfl, key 6 _ (by decide) rfl⟩
/-- An own row of words. -/
theorem mem_of_row {W : World} {B n : Nat} {v : Value} {l : List Int} (h : W.ownsRow B 2 1 v n (l.map (Value.int .i64))) : ∃ p cap, v = .slice p n cap ∧ l.length = n ∧ MemAt W p l ∧ ∀ a, p = some a → B ≤ a.block ∧ a.block < W.heap.size := by
  obtain ⟨hl, h⟩ := h
  have hl2 : l.length = n := by simpa using hl
  rcases h with ⟨rfl, rfl⟩ | ⟨g, cap, cur, rfl, hB, hg, _, _, _, ht⟩
  · have : l = [] := List.eq_nil_of_length_eq_zero hl2
    subst this
    exact ⟨none, 0, rfl, rfl, fun i x hx => by simp at hx, fun a e => by cases e⟩
  · have hgl : g < W.heap.size := (Array.getElem?_eq_some_iff.1 hg).1
    refine ⟨some ⟨g, 0, none⟩, cap, rfl, hl2, fun i x hx => ⟨g, 0, rfl, hgl, ?_, frozen_of_row _ _ _ _ _ hg⟩, fun a e => by cases e; exact ⟨hB, hgl⟩⟩
    exact row_cell (B := B) (cap := cap) hg ht i _ (by rw [List.getElem?_map, hx]; rfl)
theorem info_ins : (Try.prog.info? 42).map (fun i => (i.zero, i.size, i.bytes)) = some (some (.agg #[.int .i64 0, .int .i64 0, .int .i64 0, .int .i64 0, .int .i64 0, .int .i64 0, .int .i64 0]), 7, 56) := by kernel_rfl
theorem info_i64 : (Try.prog.info? 2).map (fun i => (i.zero, i.size, i.bytes)) = some (some (.int .i64 0), 1, 8) := by kernel_rfl
theorem nil_i64 (w : World) (a : Option Addr) (n c n' c' : Nat) : (binOp .eql 23 (.slice a n c) (.slice none n' c')).run Try.prog w = .ok (.bool a.isNone) w := Lib.run_eql_slice_nil w _ _ a n c n' c' Try.underlying23
theorem nil_code (w : World) (a : Option Addr) (n c n' c' : Nat) : (binOp .eql 40 (.slice a n c) (.slice none n' c')).run Try.prog w = .ok (.bool a.isNone) w := Lib.run_eql_slice_nil w _ _ a n c n' c' Try.underlying40
/-- What a copy of words is. -/
def CpI (W : World) (n : Nat) (l : List Int) (e : Ending) (w' : World) : Prop := ∃ p cap, e = .returned (.slice p n cap) ∧ l.length = n ∧ MemAt w' p l ∧ (∀ a, p = some a → W.heap.size ≤ a.block ∧ a.block < w'.heap.size) ∧ Below W.heap.size W w'
/-- What a copy of a code is. -/
def CpC (W : World) (n : Nat) (c : List Ic) (e : Ending) (w' : World) : Prop := ∃ p cap, e = .returned (.slice p n cap) ∧ c.length = n ∧ CodeAt w' p c ∧ (∀ a, p = some a → W.heap.size ≤ a.block ∧ a.block < w'.heap.size) ∧ Below W.heap.size W w'
set_option maxHeartbeats 1000000 in
theorem clone_i64 {W : World} {p : Option Addr} {n cap : Nat} {l : List Int} (hl : l.length = n) (hn : n ≤ 1000000) (hc : Hid (∀ i u, l[i]? = some u → ∃ g o, p = some ⟨g, o, none⟩ ∧ W.cell? ⟨g, o + i, none⟩ = some (.int .i64 u))) : Calls Try.prog 15 #[.slice p n cap] W (CpI W n l) := by
  have HL := Lib.hid hl
  clear hl
  cases p with
  | none =>
    have hl0 : l = [] := by
      cases l with
      | nil => rfl
      | cons x r =>
        obtain ⟨g, o, h, _⟩ := hc.out 0 x rfl
        cases h
    subst hl0
    have e0 : 0 = n := HL.out
    subst e0
    have q22 := nil_i64
    go_enter Try.func15, Try.ntmps15
    go_wp2
    go_ret
    exact ⟨none, 0, rfl, rfl, fun i x hx => by simp at hx, fun a e => (by cases e), Below.refl _ _⟩
  | some a =>
    obtain ⟨b, off, sp⟩ := a
    obtain ⟨i0, hi, hz0, hz1, hz2⟩ := info_parts info_i64
    have q22 := nil_i64
    go_enter Try.func15, Try.ntmps15
    go_wp2_with (at_builtin; refine wpList_append_own _ rfl _ _ 23 rfl W.heap.size 2 i0 (.int .i64 0) 1 8 Try.underlying23 hi hz0 hz1 hz2 rfl (by decide) _ _ _ rfl (World.ownsRow_made W #[] 0 (Nat.le_refl _) (Nat.zero_le _) rfl) ⟨b, off, sp⟩ n cap (l.map (Value.int .i64)) rfl ?qc1 ?qc2 ?qc3 ?qc4 ?qc5 ?qc6 ?_)
    case qc1 => simp [HL.out]
    case qc2 =>
      intro j u hj
      rw [List.getElem?_map] at hj
      obtain ⟨y, hy, rfl⟩ := Option.map_eq_some_iff.1 hj
      obtain ⟨g, o, h1, h2⟩ := hc.out j y hy
      cases h1
      rw [Addr.add_lit]
      exact cell_old h2 _
    case qc3 => intro u hu; obtain ⟨x, _, rfl⟩ := List.mem_map.1 hu; rfl
    case qc4 => unfold maxLen; omega
    case qc5 => omega
    case qc6 => simp
    intro v' w1 hown hgrow hnil
    have HO := Lib.hid hown
    have HG := Lib.hid hgrow
    clear hown hgrow hnil
    go_wp2
    go_ret
    have hb : Below W.heap.size W w1 := ((Below.refl _ W).alloc (Nat.le_refl _) _).grown HG.out (by simp) (by intro k hk; simp [Value.ownBlock] at hk; omega)
    obtain ⟨p', cap', rfl, h1, h2, h3⟩ := mem_of_row (l := l) (n := n) (by simpa using HO.out)
    exact ⟨p', cap', rfl, h1, h2, h3, hb⟩
set_option maxHeartbeats 1000000 in
theorem clone_code {W : World} {p : Option Addr} {n cap : Nat} {c : List Ic} (hl : c.length = n) (hn : n ≤ 1000000) (hc : Hid (CodeAt W p c)) : Calls Try.prog 20 #[.slice p n cap] W (CpC W n c) := by
  have HL := Lib.hid hl
  clear hl
  cases p with
  | none =>
    have hl0 : c = [] := by
      cases c with
      | nil => rfl
      | cons x r =>
        obtain ⟨g, o, h, _⟩ := hc.out 0 x rfl
        cases h
    subst hl0
    have e0 : 0 = n := HL.out
    subst e0
    have q22 := nil_code
    go_enter Try.func20, Try.ntmps20
    go_wp2
    go_ret
    exact ⟨none, 0, rfl, rfl, fun i x hx => by simp at hx, fun a e => (by cases e), Below.refl _ _⟩
  | some a =>
    obtain ⟨b, off, sp⟩ := a
    obtain ⟨i0, hi, hz0, hz1, hz2⟩ := info_parts info_ins
    have q22 := nil_code
    go_enter Try.func20, Try.ntmps20
    go_wp2_with (at_builtin; refine wpList_append_own _ rfl _ _ 40 rfl W.heap.size 42 i0 (.agg #[.int .i64 0, .int .i64 0, .int .i64 0, .int .i64 0, .int .i64 0, .int .i64 0, .int .i64 0]) 7 56 Try.underlying40 hi hz0 hz1 hz2 rfl (by decide) _ _ _ rfl (World.ownsRow_made W #[] 0 (Nat.le_refl _) (Nat.zero_le _) rfl) ⟨b, off, sp⟩ n cap (c.flatMap c7) rfl ?qc1 ?qc2 ?qc3 ?qc4 ?qc5 ?qc6 ?_)
    case qc1 => rw [c7_len, HL.out]
    case qc2 =>
      intro j u hj
      obtain ⟨i, x, q, hx, hq, rfl, hu⟩ := c7_back c j u hj
      obtain ⟨g, o, h1, _, h2, _⟩ := hc.out i x hx
      cases h1
      rw [Addr.add_lit, ← Nat.add_assoc]
      exact cell_old (h2.cell q u hu) _
    case qc3 =>
      intro u hu
      obtain ⟨x, _, hx⟩ := List.mem_flatMap.1 hu
      exact one7 x u hx
    case qc4 => unfold maxLen; omega
    case qc5 => omega
    case qc6 => simp
    intro v' w1 hown hgrow hnil
    have HO := Lib.hid hown
    have HG := Lib.hid hgrow
    clear hown hgrow hnil
    go_wp2
    go_ret
    have hb : Below W.heap.size W w1 := ((Below.refl _ W).alloc (Nat.le_refl _) _).grown HG.out (by simp) (by intro k hk; simp [Value.ownBlock] at hk; omega)
    obtain ⟨p', cap', rfl, h1, h2, h3⟩ := code_of_row (c := c) (n := n) (by simpa using HO.out) (fun x hx => by
      obtain ⟨i, hi⟩ := List.getElem?_of_mem hx
      obtain ⟨g, o, _, _, _, h4⟩ := hc.out i x hi
      exact h4)
    exact ⟨p', cap', rfl, h1, h2, h3, hb⟩
end Go.Proofs.Ytnmalhjhfddjpaa
