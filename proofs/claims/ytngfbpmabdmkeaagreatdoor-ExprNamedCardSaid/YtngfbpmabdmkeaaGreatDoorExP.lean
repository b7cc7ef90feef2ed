/- Expressions in memory that keep off a block; rows of them that grow. -/
import Derived.Test.YtngfbpmabdmkeaaGreatDoorEx
import Derived.Deep.AppendLies
namespace Go.Proofs.YtngfbpmabdmkeaaGreatDoor
open Go Go.RowKit

/-- As 'IsEx', with whatever is asked of the blocks. -/
inductive IsExP (ok : Nat → Prop) (W : World) : Ex → Value → Prop
  | leaf {k o n : Int} {nm : List UInt8} {a : Nat} : IsExP ok W (.mk k o n nm [] a) (.slice none 0 0)
  | node {k o n : Int} {nm : List UInt8} {ks : List Ex} {a : Nat} (g cap : Nat) (cs : Array Value) (fr : Nat × Nat) (vs : Nat → Value) : ok g → W.heap[g]? = some (.cells cs 25 fr) → ks ≠ [] →
      (∀ i e, ks[i]? = some e → ∀ j u, (exCells e (vs i))[j]? = some u → cs[i * 6 + j]? = some u) → (∀ i e, ks[i]? = some e → IsExP ok W e (vs i)) → IsExP ok W (.mk k o n nm ks a) (.slice (some ⟨g, 0, none⟩) ks.length cap)
theorem IsExP.kept {ok ok' : Nat → Prop} {W X : World} {e : Ex} {v : Value} (h : IsExP ok W e v) (hk : ∀ g, ok g → g < W.heap.size → X.heap[g]? = W.heap[g]? ∧ ok' g) : IsExP ok' X e v := by
  induction h with
  | leaf => exact .leaf
  | node g cap cs fr vs hg hb hne hc _ ih =>
    have := hk g hg (Array.getElem?_eq_some_iff.1 hb).1
    exact .node g cap cs fr vs this.2 (this.1.trans hb) hne hc ih
theorem IsEx.toP {lo : Nat} {W X : World} {ok : Nat → Prop} {e : Ex} {v : Value} (h : IsEx lo W e v) (hk : ∀ g, lo ≤ g → g < W.heap.size → X.heap[g]? = W.heap[g]? ∧ ok g) : IsExP ok X e v := by
  induction h with
  | leaf => exact .leaf
  | node g cap cs fr vs hg hb hne hc _ ih =>
    have := hk g hg (Array.getElem?_eq_some_iff.1 hb).1
    exact .node g cap cs fr vs this.2 (this.1.trans hb) hne hc ih
theorem IsExP.toEx {lo : Nat} {W : World} {ok : Nat → Prop} {e : Ex} {v : Value} (h : IsExP ok W e v) (hk : ∀ g, ok g → lo ≤ g) : IsEx lo W e v := by
  induction h with
  | leaf => exact .leaf
  | node g cap cs fr vs hg hb hne hc _ ih => exact .node g cap cs fr vs (hk g hg) hb hne hc ih

/-- The cells of a row of expressions. -/
def exRow : List (Ex × Value) → List Value
  | [] => []
  | (x, u) :: r => exCells x u ++ exRow r
theorem exRow_snoc (l : List (Ex × Value)) (x : Ex) (u : Value) : exRow (l ++ [(x, u)]) = exRow l ++ exCells x u := by
  induction l with
  | nil => simp [exRow]
  | cons y r ih => simp [exRow, ih]
theorem exRow_at : ∀ (l : List (Ex × Value)) (i : Nat) (x : Ex) (u : Value) (j : Nat) (v : Value), l[i]? = some (x, u) → (exCells x u)[j]? = some v → (exRow l)[i * 6 + j]? = some v
  | [], i, x, u, j, v, h, _ => by simp at h
  | y :: r, 0, x, u, j, v, h, hv => by
    simp at h
    subst h
    have hj : j < 6 := (List.getElem?_eq_some_iff.1 hv).1
    show (exCells x u ++ exRow r)[0 * 6 + j]? = _
    rw [List.getElem?_append_left (by show 0 * 6 + j < 6; omega), Nat.zero_mul, Nat.zero_add]
    exact hv
  | y :: r, i + 1, x, u, j, v, h, hv => by
    show (exCells y.1 y.2 ++ exRow r)[(i + 1) * 6 + j]? = _
    rw [List.getElem?_append_right (by show 6 ≤ _; omega)]
    have e : (i + 1) * 6 + j - (exCells y.1 y.2).length = i * 6 + j := by show (i + 1) * 6 + j - 6 = _; omega
    rw [e]
    exact exRow_at r i x u j v (by simpa using h) hv

/-- 'GrowsL B W es v l': v is a row of the call's own that holds es, and es lies elsewhere; l: with their kids' slices. -/
def GrowsL (B : Nat) (W : World) (es : List Ex) (v : Value) (l : List (Ex × Value)) : Prop :=
  l.map (·.1) = es ∧ W.ownsRow B 25 6 v es.length (exRow l) ∧ (∀ p ∈ l, IsExP (fun g => B ≤ g ∧ v.ownBlock ≠ some g) W p.1 p.2) ∧ (es = [] → v = .slice none 0 0)
def Grows (B : Nat) (W : World) (es : List Ex) (v : Value) : Prop := ∃ l, GrowsL B W es v l
theorem Grows.nil (B : Nat) (W : World) : Grows B W [] (.slice none 0 0) := ⟨[], rfl, World.ownsRow_nil W B _ 6, by simp, fun _ => rfl⟩
theorem GrowsL.fr {B rb : Nat} {W X : World} {es : List Ex} {v : Value} {l : List (Ex × Value)} (h : GrowsL B W es v l) (hf : Fr (some rb) W X) (hr : rb < B) : GrowsL B X es v l := by
  obtain ⟨h1, h2, h3, h4⟩ := h
  have hg : W.grownBy X (some rb) := hf
  refine ⟨h1, h2.kept hg ?_, fun p hp => (h3 p hp).kept fun g hg hl => ⟨hf.block hl (by simp; omega), hg⟩, h4⟩
  right
  intro e
  have := h2.lt _ e
  omega
/-- As a row that is read. -/
theorem Grows.ex {B : Nat} {W : World} {es : List Ex} {v : Value} (h : Grows B W es v) (k o n : Int) (nm : List UInt8) (a : Nat) : IsEx B W (.mk k o n nm es a) v := by
  obtain ⟨l, rfl, h2, h3, h4⟩ := h
  rcases h2.2 with ⟨rfl, hn⟩ | ⟨g, cap, cur, rfl, hB, hg, hnc, _, hcs, hx⟩
  · have : l.map (·.1) = [] := List.eq_nil_of_length_eq_zero hn
    rw [this]
    exact .leaf
  · by_cases hl : l.map (·.1) = []
    · have := h4 hl
      cases this
    · refine .node g cap cur (0, 0) (fun i => ((l[i]?).map (·.2)).getD undef) hB hg hl ?_ ?_
      · intro i e he j u hu
        rw [List.getElem?_map] at he
        obtain ⟨p, hp, rfl⟩ := Option.map_eq_some_iff.1 he
        rw [hp] at hu
        have hcell := exRow_at l i p.1 p.2 j u hp hu
        rw [← hx] at hcell
        rw [List.getElem?_take] at hcell
        split at hcell
        · simpa using hcell
        · cases hcell
      · intro i e he
        rw [List.getElem?_map] at he
        obtain ⟨p, hp, rfl⟩ := Option.map_eq_some_iff.1 he
        simp only [hp, Option.map_some, Option.getD_some]
        exact (h3 p (List.mem_of_getElem? hp)).toEx fun g hg => hg.1
theorem exCells_one (x : Ex) (p : Option Addr) (l c : Nat) : ∀ u ∈ exCells x (.slice p l c), u.oneCell' = true := by
  intro u hu
  simp [exCells] at hu
  rcases hu with rfl | rfl | rfl | rfl | rfl | rfl <;> rfl
theorem exRow_length (l : List (Ex × Value)) : (exRow l).length = l.length * 6 := by
  induction l with
  | nil => rfl
  | cons y r ih =>
    show (exCells y.1 y.2 ++ exRow r).length = _
    rw [List.length_append, ih, List.length_cons]
    show 6 + _ = _
    omega
/-- One more: behind an append. -/
theorem GrowsL.more {B : Nat} {W X : World} {es : List Ex} {v : Value} {x : Ex} {u : Value} {g cap H : Nat} {l : List (Ex × Value)} (h : GrowsL B W es v l) (hx : IsEx B W x u) (hxn : ∀ j, v.ownBlock = some j → IsExP (fun b => B ≤ b ∧ b ≠ j) W x u)
    (hg : W.grownBy X v.ownBlock) (hH : W.heap.size = H) (hv : v.ownBlock = some g ∨ g = H) (ho : X.ownsRow B 25 6 (.slice (some ⟨g, 0, none⟩) (es.length + 1) cap) (es.length + 1) (exRow l ++ exCells x u)) :
    GrowsL B X (es ++ [x]) (.slice (some ⟨g, 0, none⟩) (es.length + 1) cap) (l ++ [(x, u)]) := by
  obtain ⟨h1, h2, h3, h4⟩ := h
  have hne : ∀ b, b < W.heap.size → v.ownBlock ≠ some b → b ≠ g := by
    intro b hb hn e
    subst e
    rcases hv with hv | hv
    · exact hn hv
    · omega
  refine ⟨by simp [h1], ?_, ?_, by simp⟩
  · rw [exRow_snoc, List.length_append]
    exact ho
  · intro p hp
    rcases List.mem_append.1 hp with hp | hp
    · refine (h3 p hp).kept fun b hb hl => ⟨hg.block b hl (fun e => hb.2 e.symm), hb.1, ?_⟩
      have := hne b hl hb.2
      simpa [Value.ownBlock] using fun e => this e.symm
    · simp at hp
      subst hp
      cases hvb : v.ownBlock with
      | none => exact hx.toP fun b hb hl => ⟨hg.block b hl (by rw [hvb]; simp), hb, by
          have := hne b hl (by rw [hvb]; simp)
          simpa [Value.ownBlock] using fun e => this e.symm⟩
      | some j => exact (hxn j hvb).kept fun b hb hl => ⟨hg.block b hl (by rw [hvb]; simpa using hb.2), hb.1, by
          have := hne b hl (by rw [hvb]; simpa using fun e => hb.2 e.symm)
          simpa [Value.ownBlock] using fun e => this e.symm⟩
theorem infoEx : (Tryz.prog.info? 25).map (fun i => (i.zero, i.size, i.bytes)) = some (some (.agg #[.int .i64 0, .int .i64 0, .int .i64 0, .string ⟨#[]⟩, .slice none 0 0, .int .i64 0]), 6, 72) := by kernel_rfl
/-- The word that a reader stands at, for a measure. -/
def nxOf (W : World) (rb : Nat) : Nat := match W.cell? ⟨rb, 1, none⟩ with | some (.int _ n) => n.toNat | _ => 0
theorem RdAt.nx {W : World} {rb : Nat} {sl mp : Value} {op bad at' : Int} {k : Nat} (h : RdAt W rb sl mp k op bad at') : nxOf W rb = k := by
  unfold nxOf
  rw [h.cells.2.1]
  simp
theorem cell_six_at (w : World) (x : Ex) (u : Value) (g : Nat) (hg : g = w.heap.size) (j : Nat) (v : Value) (h : (exCells x u)[j]? = some v) : (w.alloc (.cells #[.int .i64 x.k, .int .i64 x.op, .int .i64 x.n, .string (bstr x.nm), u, .int .i64 x.a] 25)).cell? ((⟨g, 0, none⟩ : Addr).add j) = some v := by
  subst hg
  rw [add_off', cell_of_row _ _ _ _ _ (0, 0) (heap_new w _)]
  rw [Nat.zero_add]
  simpa [exCells] using h
theorem RdAt.grown {W X : World} {rb : Nat} {sl mp : Value} {nx op bad at' : Int} {row : Option Nat} (h : RdAt W rb sl mp nx op bad at') (hg : W.grownBy X row) (hne : some rb ≠ row) : RdAt X rb sl mp nx op bad at' := (hg.block rb h.lt hne).trans h
/-- What is new keeps off what was there. -/
theorem IsEx.off {lo B j : Nat} {W X : World} {x : Ex} {u : Value} (h : IsEx lo W x u) (hk : Fr none W X) (hB : B ≤ lo) (hj : j < lo) : IsExP (fun b => B ≤ b ∧ b ≠ j) X x u :=
  h.toP fun b hb hl => ⟨hk.block hl (by simp), by omega, by omega⟩
theorem exMap_len {es : List Ex} {l : List (Ex × Value)} (h : l.map (·.1) = es) : l.length = es.length := by rw [← h, List.length_map]
section
variable {ok : Nat → Prop} {W X : World} {e : Ex} {v : Value}
theorem IsExP.alloc (h : IsExP ok W e v) (o : Obj) : IsExP ok (W.alloc o) e v := h.kept fun g hg hl => ⟨Below.heap_alloc W o g hl, hg⟩
theorem IsExP.drew (h : IsExP ok W e v) : IsExP ok W.drew e v := h.kept fun g hg hl => ⟨rfl, hg⟩
theorem IsExP.set (h : IsExP ok W e v) {b : Nat} (hb : ∀ g, ok g → g ≠ b) (o : Nat) (x : Value) : IsExP ok (W.setCell ⟨b, o, none⟩ x) e v := h.kept fun g hg _ => ⟨heap_setCell_other W ⟨b, o, none⟩ g x (hb g hg), hg⟩
theorem IsExP.fr {rb : Nat} (h : IsExP ok W e v) (hf : Fr (some rb) W X) (hr : ∀ g, ok g → g ≠ rb) : IsExP ok X e v := h.kept fun g hg hl => ⟨hf.block hl (by simp; exact hr g hg), hg⟩
theorem IsExP.stay (h : IsExP ok W e v) (hf : Below W.heap.size W X) : IsExP ok X e v := h.kept fun g hg hl => ⟨hf.block g hl, hg⟩
theorem IsExP.weak {ok' : Nat → Prop} (h : IsExP ok W e v) (hk : ∀ g, ok g → ok' g) : IsExP ok' W e v := h.kept fun g hg _ => ⟨rfl, hk g hg⟩
/-- Two kids in a row that was just made. -/
theorem IsExP.twoAt {n : Nat} {x y : Ex} {u u' : Value} (h : IsExP ok W x u) (h2 : IsExP ok W y u') (hn : n = W.heap.size) (ho : ok W.heap.size) (k o m : Int) (nm : List UInt8) (a : Nat) :
    IsExP ok (W.alloc (.cells #[.int .i64 x.k, .int .i64 x.op, .int .i64 x.n, .string (bstr x.nm), u, .int .i64 x.a, .int .i64 y.k, .int .i64 y.op, .int .i64 y.n, .string (bstr y.nm), u', .int .i64 y.a] 25)) (.mk k o m nm [x, y] a) (.slice (some ⟨n, 0, none⟩) 2 2) := by
  subst hn
  refine .node W.heap.size 2 _ (0, 0) (fun i => if i = 0 then u else u') ho (heap_new _ _) (by simp) ?_ ?_
  · intro i e he j w hw
    match i, he with
    | 0, he =>
      simp at he
      subst he
      simp only [exCells, if_true] at hw
      match j, hw with
      | 0, hw | 1, hw | 2, hw | 3, hw | 4, hw | 5, hw => simpa using hw
      | j + 6, hw => simp at hw
    | 1, he =>
      simp at he
      subst he
      simp only [exCells, if_neg (show ¬ (1 = 0) by decide)] at hw
      match j, hw with
      | 0, hw | 1, hw | 2, hw | 3, hw | 4, hw | 5, hw => simpa using hw
      | j + 6, hw => simp at hw
    | i + 2, he => simp at he
  · intro i e he
    match i, he with
    | 0, he =>
      simp at he
      subst he
      exact h.alloc _
    | 1, he =>
      simp at he
      subst he
      exact h2.alloc _
    | i + 2, he => simp at he
end
end Go.Proofs.YtngfbpmabdmkeaaGreatDoor
