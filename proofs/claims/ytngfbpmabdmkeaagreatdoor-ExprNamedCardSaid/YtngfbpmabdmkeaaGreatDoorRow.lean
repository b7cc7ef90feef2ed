/- Rows of words in memory: a slice of structs of four cells that the call made itself. -/
import Derived.Test.YtngfbpmabdmkeaaGreatDoorRead
import Derived.Lib.OthersKept
import Derived.OwnWalk
import Derived.Deep.AppendLies
namespace Go.Proofs.YtngfbpmabdmkeaaGreatDoor
open Go Go.RowKit

/-- A word's cells; those of a row of words. -/
def wcells (x : Wd) : List Value := [.int .i64 x.k, .string ⟨x.t.toArray⟩, .int .i64 x.n, .int .i64 x.a]
def cellsW (l : List Wd) : List Value := l.flatMap wcells
theorem cellsW_snoc (l : List Wd) (x : Wd) : cellsW (l ++ [x]) = cellsW l ++ wcells x := by simp [cellsW]
theorem cellsW_length (l : List Wd) : (cellsW l).length = l.length * 4 := by
  induction l with
  | nil => rfl
  | cons x r ih =>
    show (wcells x ++ cellsW r).length = _
    rw [List.length_append, ih, List.length_cons]
    show 4 + _ = _
    omega
theorem cellsW_at : ∀ (l : List Wd) (i : Nat) (x : Wd) (j : Nat) (u : Value), l[i]? = some x → (wcells x)[j]? = some u → (cellsW l)[i * 4 + j]? = some u
  | [], i, x, j, u, h, _ => by simp at h
  | y :: r, 0, x, j, u, h, hu => by
    simp at h
    subst h
    have hj : j < 4 := (List.getElem?_eq_some_iff.1 hu).1
    show (wcells y ++ cellsW r)[0 * 4 + j]? = _
    rw [List.getElem?_append_left (by show 0 * 4 + j < 4; omega), Nat.zero_mul, Nat.zero_add]
    exact hu
  | y :: r, i + 1, x, j, u, h, hu => by
    show (wcells y ++ cellsW r)[(i + 1) * 4 + j]? = _
    rw [List.getElem?_append_right (by show 4 ≤ _; omega)]
    have e : (i + 1) * 4 + j - (wcells y).length = i * 4 + j := by show (i + 1) * 4 + j - 4 = _; omega
    rw [e]
    exact cellsW_at r i x j u (by simpa using h) hu

theorem own_below {W W' : World} {B e size n : Nat} {v : Value} {xs : List Value} (h : W.ownsRow B e size v n xs) (hb : Below W.heap.size W W') : W'.ownsRow B e size v n xs := by
  refine ⟨h.1, ?_⟩
  rcases h.2 with h0 | ⟨g, cap, cur, hv, hB, hg, rest⟩
  · exact .inl h0
  · exact .inr ⟨g, cap, cur, hv, hB, (hb.block g (Array.getElem?_eq_some_iff.1 hg).1).trans hg, rest⟩
theorem own_iterAt {w : World} {B e size n : Nat} {v : Value} {xs : List Value} {k : Nat} {s : ByteArray} {pos : Nat} (h : w.ownsRow B e size v n xs) (hk : w.heap[k]? = some (.stringIter s pos)) (pos' : Nat) : (w.iterAt k s pos').ownsRow B e size v n xs := by
  refine ⟨h.1, ?_⟩
  rcases h.2 with h0 | ⟨g, cap, cur, hv, hB, hg, rest⟩
  · exact .inl h0
  · exact .inr ⟨g, cap, cur, hv, hB, (Lib.iterAt_other _ _ _ _ _ (fun e => by subst e; rw [hk] at hg; cases hg)).trans hg, rest⟩
theorem own_ne_iter {w : World} {B e size n : Nat} {v : Value} {xs : List Value} {k : Nat} {s : ByteArray} {pos : Nat} (h : w.ownsRow B e size v n xs) (hk : w.heap[k]? = some (.stringIter s pos)) : some k ≠ v.ownBlock := by
  rcases h.2 with ⟨rfl, _⟩ | ⟨g, cap, cur, rfl, _, hg, _⟩
  · simp [Value.ownBlock]
  · intro e
    simp only [Value.ownBlock, Option.some.injEq] at e
    subst e
    rw [hk] at hg
    cases hg

theorem add_off (g j : Nat) : (⟨g, 0, none⟩ : Addr).add j = ⟨g, j, none⟩ := by
  unfold Addr.add
  split <;> simp_all
theorem cell_four_new (w : World) (T : TypeId) (a b c d : Value) (j : Nat) (u : Value) (h : [a, b, c, d][j]? = some u) : (w.alloc (.cells #[a, b, c, d] T)).cell? ((⟨w.heap.size, 0, none⟩ : Addr).add j) = some u := by
  rw [add_off, cell_of_row _ _ j #[a, b, c, d] T (0, 0) (heap_alloc_new w _)]
  simpa using h
theorem cell_four_at (w : World) (T : TypeId) (a b c d : Value) (g : Nat) (hg : g = w.heap.size) (j : Nat) (u : Value) (h : [a, b, c, d][j]? = some u) : (w.alloc (.cells #[a, b, c, d] T)).cell? ((⟨g, 0, none⟩ : Addr).add j) = some u := by
  subst hg
  exact cell_four_new w T a b c d j u h
theorem four_one (a : Int) (t : ByteArray) (c d : Int) : ∀ u ∈ [Value.int .i64 a, Value.string t, Value.int .i64 c, Value.int .i64 d], u.oneCell' = true := by
  intro u hu
  simp at hu
  rcases hu with rfl | rfl | rfl | rfl <;> rfl

/-- A row's cells, as they stand in memory. -/
theorem row_at {w : World} {B e n : Nat} {g cap : Nat} {W : List Wd} (h : w.ownsRow B e 4 (.slice (some ⟨g, 0, none⟩) n cap) W.length (cellsW W)) {i : Nat} {x : Wd} (hx : W[i]? = some x) :
    w.cell? ⟨g, i * 4, none⟩ = some (.int .i64 x.k) ∧ w.cell? ⟨g, i * 4 + 1, none⟩ = some (.string ⟨x.t.toArray⟩) ∧ w.cell? ⟨g, i * 4 + 2, none⟩ = some (.int .i64 x.n) ∧ w.cell? ⟨g, i * 4 + 3, none⟩ = some (.int .i64 x.a) := by
  have key : ∀ j u, (wcells x)[j]? = some u → w.cell? ⟨g, i * 4 + j, none⟩ = some u := by
    intro j u hu
    have := h.cells (g := g) rfl (i * 4 + j) u (cellsW_at W i x j u hx hu)
    rwa [add_off] at this
  exact ⟨key 0 _ rfl, key 1 _ rfl, key 2 _ rfl, key 3 _ rfl⟩

theorem infoWord : (Tryz.prog.info? 68).map (fun i => (i.zero, i.size, i.bytes)) = some (some (.agg #[.int .i64 0, .string ⟨#[]⟩, .int .i64 0, .int .i64 0]), 4, 40) := by kernel_rfl
end Go.Proofs.YtngfbpmabdmkeaaGreatDoor
