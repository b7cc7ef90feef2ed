/- The ways of a code in memory. -/
import Derived.Test.YtacgfjcdfgdpjaaDoorGfi
import Derived.Test.YtacgfjcdfgdpjaaDoorGnx
namespace Go.Proofs.YtacgfjcdfgdpjaaDoor
set_option linter.unusedSimpArgs false
set_option linter.unusedVariables false
open Go Go.RowKit Gm

/-- Where the instruction at a place goes to in its code. -/
def outs (c : List Ic) (i : Nat) : List Nat := match c[i]? with
  | none => []
  | some x => ((nextM x i).filter fun z : Int => decide (0 ≤ z) && decide (z < (c.length : Int))).map Int.toNat
theorem outs_lt {c : List Ic} {i j : Nat} (h : j ∈ outs c i) : i < c.length ∧ j < c.length := by
  unfold outs at h
  cases hx : c[i]? with
  | none => rw [hx] at h; cases h
  | some x =>
    rw [hx] at h
    obtain ⟨z, hz, rfl⟩ := List.mem_map.1 h
    have := (List.mem_filter.1 hz).2
    simp at this
    exact ⟨(List.getElem?_eq_some_iff.1 hx).1, by omega⟩
/-- Numbers in a list, as values. -/
def lv (l : List Nat) : Nat → Value := fun i => .int .i64 ((l.getD i 0 : Nat) : Int)
/-- Where the parts of some ways lie. -/
structure Wv where
  a : Nat
  bN : Nat
  v0 : Value
  v2 : Value
  v3 : Value
  s : Nat → Value
/-- What they are. -/
structure Wm where
  n : Nat
  m : Nat
  pl : Nat → Nat
  num : Nat → Option Nat
  fr : Nat → Option Nat
  ot : Nat → List Nat
/-- Ways in memory, of which some are there: B is the first own block, each block has its sign. -/
structure Ws (W : World) (own : Nat → Nat) (B : Nat) (d : Wv) (y : Wm) (k0 k2 k3 : Nat) : Prop where
  blk : W.heap[d.a]? = some (.cells #[d.v0, .slice (some ⟨d.bN, 0, none⟩) y.n y.n, d.v2, d.v3] 42 (0, 0))
  num : FV 3 W d.bN y.n (iv fun i => ov (y.num i))
  pla : GV 3 B W d.v0 k0 (iv fun i => y.pl i)
  fro : GV 3 B W d.v2 k2 (iv fun i => ov (y.fr i))
  tor : GV 34 B W d.v3 k3 d.s
  row : ∀ v, v < k3 → GV 3 B W (d.s v) (y.ot v).length (lv (y.ot v))
  aB : B ≤ d.a
  nB : B ≤ d.bN
  ta : own d.a = 8
  t1 : own d.bN = 1
  t2 : Tg own d.v0 2
  t3 : Tg own d.v2 3
  t4 : Tg own d.v3 4
  t7 : ∀ v, v < k3 → Tg own (d.s v) 7
section
variable {W X Y : World} {own own' : Nat → Nat} {B k0 k2 k3 : Nat} {d : Wv} {y : Wm} {S : Nat → Prop}
theorem Ws.facts (h : Ws W own B d y k0 k2 k3) : d.a < W.heap.size ∧ W.cell? ⟨d.a, 0, none⟩ = some d.v0 ∧ W.cell? ⟨d.a, 1, none⟩ = some (.slice (some ⟨d.bN, 0, none⟩) y.n y.n) ∧ W.cell? ⟨d.a, 2, none⟩ = some d.v2 ∧ W.cell? ⟨d.a, 3, none⟩ = some d.v3 ∧ W.frozen? ⟨d.a, 0, none⟩ = false ∧ W.frozen? ⟨d.a, 2, none⟩ = false ∧ W.frozen? ⟨d.a, 3, none⟩ = false := by
  refine ⟨(Array.getElem?_eq_some_iff.1 h.blk).1, ?_, ?_, ?_, ?_, frozen_of_row _ _ _ _ _ h.blk, frozen_of_row _ _ _ _ _ h.blk, frozen_of_row _ _ _ _ _ h.blk⟩ <;> rw [cell_of_row _ _ _ _ _ _ h.blk] <;> rfl
theorem Ws.facts' (h : Ws W own B d y k0 k2 k3) (e : X.heap[d.a]? = W.heap[d.a]?) : d.a < X.heap.size ∧ X.cell? ⟨d.a, 0, none⟩ = some d.v0 ∧ X.cell? ⟨d.a, 1, none⟩ = some (.slice (some ⟨d.bN, 0, none⟩) y.n y.n) ∧ X.cell? ⟨d.a, 2, none⟩ = some d.v2 ∧ X.cell? ⟨d.a, 3, none⟩ = some d.v3 ∧ X.frozen? ⟨d.a, 0, none⟩ = false ∧ X.frozen? ⟨d.a, 2, none⟩ = false ∧ X.frozen? ⟨d.a, 3, none⟩ = false := by
  have hb := e.trans h.blk
  refine ⟨(Array.getElem?_eq_some_iff.1 hb).1, ?_, ?_, ?_, ?_, frozen_of_row _ _ _ _ _ hb, frozen_of_row _ _ _ _ _ hb, frozen_of_row _ _ _ _ _ hb⟩ <;> rw [cell_of_row _ _ _ _ _ _ hb] <;> rfl
/-- The ways' own blocks. -/
def mine (own : Nat → Nat) (B : Nat) : Nat → Prop := fun b => B ≤ b ∧ (own b = 1 ∨ own b = 2 ∨ own b = 3 ∨ own b = 4 ∨ own b = 7 ∨ own b = 8)
/-- What is no block of the ways' own may change. -/
theorem Ws.ch (h : Ws W own B d y k0 k2 k3) (hc : Ch S W X) (hs : ∀ b, b < W.heap.size → S b → ¬ mine own B b) (he : ∀ b, b < W.heap.size → own' b = own b) : Ws X own' B d y k0 k2 k3 := by
  have tg : ∀ {v : Value} {k t : Nat} {F : Nat → Value} {T : TypeId}, GV T B W v k F → Tg own v t → Tg own' v t := fun hv ht g e => by rw [he g (hv.lt g e).2]; exact ht g e
  have ok : ∀ {v : Value} {k t : Nat} {F : Nat → Value} {T : TypeId}, GV T B W v k F → Tg own v t → (t = 1 ∨ t = 2 ∨ t = 3 ∨ t = 4 ∨ t = 7) → GV T B X v k F := fun hv ht h5 => hv.ch hc fun g e hS => hs g (hv.lt g e).2 hS ⟨(hv.lt g e).1, by have := ht g e; omega⟩
  refine ⟨(hc.block _ h.facts.1 fun hS => hs _ h.facts.1 hS ⟨h.aB, by have := h.ta; omega⟩).trans h.blk, h.num.ch hc fun hS => hs _ h.num.lt hS ⟨h.nB, .inl h.t1⟩, ok h.pla h.t2 (by omega), ok h.fro h.t3 (by omega), ok h.tor h.t4 (by omega), fun v hv => ok (h.row v hv) (h.t7 v hv) (by omega), h.aB, h.nB, ?_, ?_, tg h.pla h.t2, tg h.fro h.t3, tg h.tor h.t4, fun v hv => tg (h.row v hv) (h.t7 v hv)⟩
  · rw [he _ h.facts.1]; exact h.ta
  · rw [he _ h.num.lt]; exact h.t1
theorem Ws.stay (h : Ws W own B d y k0 k2 k3) (hb : Below W.heap.size W X) : Ws X own B d y k0 k2 k3 := h.ch (S := fun _ => False) (.of hb) (fun _ _ e => e.elim) fun _ _ => rfl
theorem Ws.like (h : Ws W own B d y k0 k2 k3) (e : X.heap = W.heap) : Ws X own B d y k0 k2 k3 :=
  ⟨by rw [e]; exact h.blk, h.num.of_heap (by rw [e]), h.pla.of_heap fun _ _ => by rw [e], h.fro.of_heap fun _ _ => by rw [e], h.tor.of_heap fun _ _ => by rw [e], fun v hv => (h.row v hv).of_heap fun _ _ => by rw [e], h.aB, h.nB, h.ta, h.t1, h.t2, h.t3, h.t4, h.t7⟩
theorem Ws.tags (h : Ws W own B d y k0 k2 k3) (he : ∀ b, b < W.heap.size → own' b = own b) : Ws W own' B d y k0 k2 k3 := h.ch (S := fun _ => False) (Ch.refl _ _) (fun _ _ e => e.elim) he
/-- Values that aren't there yet play no part. -/
theorem Ws.to {y' : Wm} (h : Ws W own B d y k0 k2 k3) (h0 : y'.n = y.n) (h1 : ∀ i, y'.num i = y.num i) (h2 : ∀ i, i < k0 → y'.pl i = y.pl i) (h3 : ∀ i, i < k2 → y'.fr i = y.fr i) (h4 : ∀ i, i < k3 → y'.ot i = y.ot i) : Ws W own B d y' k0 k2 k3 :=
  ⟨by rw [h0]; exact h.blk, by rw [h0]; exact h.num.to fun i _ => by simp only [iv, h1 i], h.pla.to fun i hi => by simp only [iv, h2 i hi], h.fro.to fun i hi => by simp only [iv, h3 i hi], h.tor, fun v hv => by rw [h4 v hv]; exact h.row v hv, h.aB, h.nB, h.ta, h.t1, h.t2, h.t3, h.t4, h.t7⟩
theorem Ws.ne (h : Ws W own B d y k0 k2 k3) : d.bN ≠ d.a := fun e => by have := h.ta; have := h.t1; rw [e] at this; omega
/-- A number is put. -/
theorem Ws.setN (h : Ws W own B d y k0 k2 k3) (i : Nat) (x : Option Nat) : Ws (W.setCell ⟨d.bN, i, none⟩ (.int .i64 (ov x))) own B d { y with num := upd y.num i x } k0 k2 k3 := by
  have ne : ∀ {v : Value} {t : Nat}, Tg own v t → t ≠ 1 → v.ownBlock ≠ some d.bN := fun ht hn e => hn (by rw [← ht _ e]; exact h.t1)
  refine ⟨(heap_setCell_other W ⟨d.bN, i, none⟩ d.a _ h.ne.symm).trans h.blk, ?_, h.pla.setO (ne h.t2 (by decide)) _ _, h.fro.setO (ne h.t3 (by decide)) _ _, h.tor.setO (ne h.t4 (by decide)) _ _, fun v hv => (h.row v hv).setO (ne (h.t7 v hv) (by decide)) _ _, h.aB, h.nB, h.ta, h.t1, h.t2, h.t3, h.t4, h.t7⟩
  have := h.num.set i (.int .i64 (ov x))
  rw [iv_upd, ov_upd] at this
  exact this
/-- What was appended to. -/
def Apd (W X : World) (v v' : Value) : Prop := Ch (fun b => v.ownBlock = some b) W X ∧ (v'.ownBlock = v.ownBlock ∨ ∃ g, v'.ownBlock = some g ∧ W.heap.size ≤ g)
theorem Ws.apart (h : Ws W own B d y k0 k2 k3) {v v' : Value} {t : Nat} (hx : Apd W X v v') (ht : Tg own v t) (hn : t ≠ 8) : X.heap[d.a]? = W.heap[d.a]? :=
  hx.1.block _ h.facts.1 fun e => hn (by rw [← ht _ e]; exact h.ta)
theorem blk_set {a : Nat} {u0 u1 u2 u3 : Value} (h : W.heap[a]? = some (.cells #[u0, u1, u2, u3] 42 (0, 0))) (v : Value) :
    (W.setCell ⟨a, 0, none⟩ v).heap[a]? = some (.cells #[v, u1, u2, u3] 42 (0, 0)) ∧ (W.setCell ⟨a, 2, none⟩ v).heap[a]? = some (.cells #[u0, u1, v, u3] 42 (0, 0)) ∧ (W.setCell ⟨a, 3, none⟩ v).heap[a]? = some (.cells #[u0, u1, u2, v] 42 (0, 0)) :=
  ⟨heap_setCell_same W a 0 _ _ v h, heap_setCell_same W a 2 _ _ v h, heap_setCell_same W a 3 _ _ v h⟩
theorem Ws.app0 {v : Value} (h : Ws W own B d y k0 k2 k3) (hB : B ≤ W.heap.size) (hg : GV 3 B X v (k0 + 1) (iv fun i => y.pl i)) (hx : Apd W X d.v0 v) : Ws (X.setCell ⟨d.a, 0, none⟩ v) (tag own W.heap.size 2) B { d with v0 := v } y (k0 + 1) k2 k3 := by
  have he : ∀ b, b < W.heap.size → tag own W.heap.size 2 b = own b := fun b hb => tag_lt hb
  have na : ∀ {u : Value} {t k : Nat} {F : Nat → Value} {T : TypeId}, GV T B W u k F → Tg own u t → t ≠ 2 → t ≠ 8 → GV T B (X.setCell ⟨d.a, 0, none⟩ v) u k F := fun hu ht n2 n8 =>
    (hu.ch hx.1 fun g e e2 => n2 (by rw [← ht g e]; exact h.t2 g e2)).setO (fun e => n8 (by rw [← ht _ e]; exact h.ta)) _ _
  have tg : ∀ {u : Value} {k t : Nat} {F : Nat → Value} {T : TypeId}, GV T B W u k F → Tg own u t → Tg (tag own W.heap.size 2) u t := fun hv ht => ht.old fun g e => (hv.lt g e).2
  have tv : Tg (tag own W.heap.size 2) v 2 := h.t2.new (fun g e => (h.pla.lt g e).2) hx.2
  have hba : ¬ d.v0.ownBlock = some d.a := fun e => by have := h.t2 _ e; have := h.ta; omega
  refine ⟨(blk_set ((hx.1.block _ h.facts.1 hba).trans h.blk) v).1, (h.num.ch hx.1 fun e => by have := h.t2 _ e; have := h.t1; omega).setO h.ne _ _, ?_, na h.fro h.t3 (by decide) (by decide), na h.tor h.t4 (by decide) (by decide), fun w hw => na (h.row w hw) (h.t7 w hw) (by decide) (by decide), h.aB, h.nB, ?_, ?_, tv, tg h.fro h.t3, tg h.tor h.t4, fun w hw => tg (h.row w hw) (h.t7 w hw)⟩
  · refine hg.setO (fun e => ?_) _ _
    have := tv _ e
    rw [he _ h.facts.1] at this
    have := h.ta
    omega
  · exact (he _ h.facts.1).trans h.ta
  · exact (he _ h.num.lt).trans h.t1
theorem Ws.app2 {v : Value} (h : Ws W own B d y k0 k2 k3) (hB : B ≤ W.heap.size) (hg : GV 3 B X v (k2 + 1) (iv fun i => ov (y.fr i))) (hx : Apd W X d.v2 v) : Ws (X.setCell ⟨d.a, 2, none⟩ v) (tag own W.heap.size 3) B { d with v2 := v } y k0 (k2 + 1) k3 := by
  have he : ∀ b, b < W.heap.size → tag own W.heap.size 3 b = own b := fun b hb => tag_lt hb
  have na : ∀ {u : Value} {t k : Nat} {F : Nat → Value} {T : TypeId}, GV T B W u k F → Tg own u t → t ≠ 3 → t ≠ 8 → GV T B (X.setCell ⟨d.a, 2, none⟩ v) u k F := fun hu ht n2 n8 =>
    (hu.ch hx.1 fun g e e2 => n2 (by rw [← ht g e]; exact h.t3 g e2)).setO (fun e => n8 (by rw [← ht _ e]; exact h.ta)) _ _
  have tg : ∀ {u : Value} {k t : Nat} {F : Nat → Value} {T : TypeId}, GV T B W u k F → Tg own u t → Tg (tag own W.heap.size 3) u t := fun hv ht => ht.old fun g e => (hv.lt g e).2
  have tv : Tg (tag own W.heap.size 3) v 3 := h.t3.new (fun g e => (h.fro.lt g e).2) hx.2
  have hba : ¬ d.v2.ownBlock = some d.a := fun e => by have := h.t3 _ e; have := h.ta; omega
  refine ⟨(blk_set ((hx.1.block _ h.facts.1 hba).trans h.blk) v).2.1, (h.num.ch hx.1 fun e => by have := h.t3 _ e; have := h.t1; omega).setO h.ne _ _, na h.pla h.t2 (by decide) (by decide), ?_, na h.tor h.t4 (by decide) (by decide), fun w hw => na (h.row w hw) (h.t7 w hw) (by decide) (by decide), h.aB, h.nB, ?_, ?_, tg h.pla h.t2, tv, tg h.tor h.t4, fun w hw => tg (h.row w hw) (h.t7 w hw)⟩
  · refine hg.setO (fun e => ?_) _ _
    have := tv _ e
    rw [he _ h.facts.1] at this
    have := h.ta
    omega
  · exact (he _ h.facts.1).trans h.ta
  · exact (he _ h.num.lt).trans h.t1
theorem Ws.app3 {v vr : Value} (h : Ws W own B d y k0 k2 k3) (hB : B ≤ W.heap.size) (hb : Below W.heap.size W X) (hr : GV 3 W.heap.size X vr (y.ot k3).length (lv (y.ot k3))) (hg : GV 34 B Y v (k3 + 1) (upd d.s k3 vr)) (hx : Apd X Y d.v3 v) :
    Ws (Y.setCell ⟨d.a, 3, none⟩ v) (tag (tag own W.heap.size 7) X.heap.size 4) B { d with v3 := v, s := upd d.s k3 vr } y k0 k2 (k3 + 1) := by
  have he : ∀ b, b < W.heap.size → tag (tag own W.heap.size 7) X.heap.size 4 b = own b := fun b h1 => by rw [tag_lt (by have := hb.size; omega), tag_lt h1]
  have hX := h.stay hb
  have na : ∀ {u : Value} {t k : Nat} {F : Nat → Value} {T : TypeId}, GV T B W u k F → Tg own u t → t ≠ 4 → t ≠ 8 → GV T B (Y.setCell ⟨d.a, 3, none⟩ v) u k F := fun hu ht n2 n8 =>
    ((hu.stay hb).ch hx.1 fun g e e2 => n2 (by rw [← ht g e]; exact h.t4 g e2)).setO (fun e => n8 (by rw [← ht _ e]; exact h.ta)) _ _
  have tg : ∀ {u : Value} {k t : Nat} {F : Nat → Value} {T : TypeId}, GV T B W u k F → Tg own u t → Tg (tag (tag own W.heap.size 7) X.heap.size 4) u t := fun hv ht g e => by rw [he g (hv.lt g e).2]; exact ht g e
  have tr : Tg (tag (tag own W.heap.size 7) X.heap.size 4) vr 7 := fun g e => by rw [tag_lt (hr.lt g e).2, tag_ge (hr.lt g e).1]
  have tv : Tg (tag (tag own W.heap.size 7) X.heap.size 4) v 4 := fun g e => by
    rcases hx.2 with h1 | ⟨g', h1, h2⟩
    · rw [h1] at e
      rw [he g (h.tor.lt g e).2]
      exact h.t4 g e
    · rw [h1] at e
      cases e
      exact tag_ge h2
  have hba : ¬ d.v3.ownBlock = some d.a := fun e => by have := h.t4 _ e; have := h.ta; omega
  refine ⟨(blk_set ((hx.1.block _ hX.facts.1 hba).trans hX.blk) v).2.2, (hX.num.ch hx.1 fun e => by have := h.t4 _ e; have := h.t1; omega).setO h.ne _ _, na h.pla h.t2 (by decide) (by decide), na h.fro h.t3 (by decide) (by decide), ?_, fun w hw => ?_, h.aB, h.nB, ?_, ?_, tg h.pla h.t2, tg h.fro h.t3, tv, fun w hw => ?_⟩
  · refine hg.setO (fun e => ?_) _ _
    have := tv _ e
    rw [he _ h.facts.1] at this
    have := h.ta
    omega
  · by_cases e : w = k3
    · subst e
      show GV 3 B _ (upd d.s w vr w) _ _
      rw [upd_at]
      refine ((hr.mono hB).ch hx.1 fun g e e2 => ?_).setO (fun e => ?_) _ _
      · have h1 := (hr.lt g e).1
        have h2 := (h.tor.lt g e2).2
        omega
      · have h1 := (hr.lt _ e).1
        have h2 := h.facts.1
        omega
    · show GV 3 B _ (upd d.s k3 vr w) _ _
      rw [upd_of e]
      exact na (h.row w (by omega)) (h.t7 w (by omega)) (by decide) (by decide)
  · exact (he _ h.facts.1).trans h.ta
  · exact (he _ h.num.lt).trans h.t1
  · by_cases e : w = k3
    · subst e
      show Tg _ (upd d.s w vr w) 7
      rw [upd_at]
      exact tr
    · show Tg _ (upd d.s k3 vr w) 7
      rw [upd_of e]
      exact tg (h.row w (by omega)) (h.t7 w (by omega))
end
end Go.Proofs.YtacgfjcdfgdpjaaDoor
