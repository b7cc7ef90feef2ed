/- From where each place can be come to: graph's ways.sources. -/
import Derived.Test.YtacgfjcdfgdpjaaDoorGwo
import Derived.Test.YtacgfjcdfgdpjaaDoorGf
import Derived.Deep.RegionHeld3
namespace Go.Proofs.YtacgfjcdfgdpjaaDoor
set_option linter.unusedSimpArgs false
set_option linter.unusedVariables false
open Go Go.RowKit Gm

/-- What sources leaves in memory: the rows, one behind the other. -/
structure Sr (W : World) (ba bf b9 b3 : Nat) (y : Wm) : Prop where
  x9 : W.heap[b9]? = some (.cells #[.slice (some ⟨ba, 0, none⟩) (y.F y.n) (y.F y.n)] 34 (0, 0))
  x3 : W.heap[b3]? = some (.cells #[.slice (some ⟨bf, 0, none⟩) (y.n + 1) (y.n + 1)] 34 (0, 0))
  fi : FV 3 W bf (y.n + 1) (iv fun i => y.F i)
  al : ∃ A : Nat → Nat, FV 3 W ba (y.F y.n) (iv fun q => A q) ∧ ∀ t, t < y.n → ∀ q i, (y.src t)[q]? = some i → A (y.F t + q) = i
def SrcP (W : World) (y : Wm) (e : Ending) (w' : World) : Prop := ∃ ba bf b9 b3, e = .returned (.func (.func 39) #[] #[.pointer (some ⟨b9, 0, none⟩), .pointer (some ⟨b3, 0, none⟩)]) ∧ Sr w' ba bf b9 b3 y ∧ Below W.heap.size W w' ∧ W.heap.size ≤ ba ∧ W.heap.size ≤ bf ∧ W.heap.size ≤ b9 ∧ W.heap.size ≤ b3
/-- While it is counted. -/
structure S1 (W X : World) (b3 bf n : Nat) (f : Nat → Nat) : Prop where
  bel : Below W.heap.size W X
  x3 : X.heap[b3]? = some (.cells #[.slice (some ⟨bf, 0, none⟩) (n + 1) (n + 1)] 34 (0, 0))
  fi : FV 3 X bf (n + 1) (iv fun i => f i)
  h3 : W.heap.size ≤ b3
  hf : W.heap.size ≤ bf
section
variable {W X Y : World} {b3 bf n : Nat} {f : Nat → Nat}
theorem S1.facts (h : S1 W X b3 bf n f) : b3 < X.heap.size ∧ X.cell? ⟨b3, 0, none⟩ = some (.slice (some ⟨bf, 0, none⟩) (n + 1) (n + 1)) ∧ b3 ≠ bf :=
  ⟨(Array.getElem?_eq_some_iff.1 h.x3).1, by rw [cell_of_row _ _ _ _ _ _ h.x3]; rfl, (two_types h.fi h.x3 (by decide)).symm⟩
theorem S1.set (h : S1 W X b3 bf n f) (i x : Nat) : S1 W (X.setCell ⟨bf, i, none⟩ (.int .i64 (x : Int))) b3 bf n (upd f i x) := by
  refine ⟨h.bel.setCell (p := ⟨bf, i, none⟩) h.hf _, (heap_setCell_other X ⟨bf, i, none⟩ b3 _ h.facts.2.2).trans h.x3, ?_, h.h3, h.hf⟩
  have := h.fi.set i (.int .i64 (x : Int))
  rw [iv_upd, nv_upd] at this
  exact this
theorem S1.like (h : S1 W X b3 bf n f) (e : Y.heap = X.heap) (e1 : Y.os = X.os) (e2 : Y.tape = X.tape) (e3 : Y.output = X.output) : S1 W Y b3 bf n f :=
  ⟨below_like h.bel e e1 e2 e3, by rw [e]; exact h.x3, h.fi.of_heap (by rw [e]), h.h3, h.hf⟩
end
theorem count_take {l : List Nat} {j t : Nat} (h : l[j]? = some t) (u : Nat) : (l.take (j + 1)).count u = (l.take j).count u + if u = t then 1 else 0 := by
  rw [List.take_succ_eq_append_getElem (List.getElem?_eq_some_iff.1 h).1, (List.getElem?_eq_some_iff.1 h).2, List.count_append]
  by_cases e : u = t
  · subst e; simp
  · rw [if_neg e]
    simp [List.count_singleton]
    intro e2
    exact absurd e2.symm e
theorem Sok.c1_le {y : Wm} (h : Sok y) (t : Nat) : ∀ k, k ≤ y.m → y.c1 k t ≤ 2 * k := by
  intro k
  induction k with
  | zero => intro _; exact Nat.zero_le _
  | succ k ih =>
    intro hk
    have h1 := ih (by omega)
    have h2 := h.len k (by omega)
    have h3 := List.count_le_length (a := t) (l := y.ot k)
    show y.c1 k t + (y.ot k).count t ≤ _
    omega
theorem bcell {W w1 : World} (hb : Below W.heap.size W w1) : (∀ b o, b < W.heap.size → w1.cell? ⟨b, o, none⟩ = W.cell? ⟨b, o, none⟩) ∧ (∀ b o, b < W.heap.size → w1.frozen? ⟨b, o, none⟩ = W.frozen? ⟨b, o, none⟩) :=
  ⟨fun b o h => hb.cell (p := ⟨b, o, none⟩) h, fun b o h => hb.frozen (p := ⟨b, o, none⟩) h⟩
theorem cs_other {W : World} {b c o : Nat} (h : b ≠ c) (i : Nat) (v : Value) : (W.setCell ⟨c, i, none⟩ v).cell? ⟨b, o, none⟩ = W.cell? ⟨b, o, none⟩ := World.cell?_of_block (a := ⟨b, o, none⟩) (heap_setCell_other W ⟨c, i, none⟩ b v h)
theorem ca_old {W : World} {b o : Nat} (h : b < W.heap.size) (p : Obj) : (W.alloc p).cell? ⟨b, o, none⟩ = W.cell? ⟨b, o, none⟩ := World.cell?_of_block (a := ⟨b, o, none⟩) (Below.heap_alloc W p b h)
theorem clone_fv {W : World} {b k cap : Nat} {f : Nat → Int} (h : FV 3 W b k (iv f)) (hk : k ≤ 1000001) : Calls Tryd.prog 38 #[.slice (some ⟨b, 0, none⟩) k cap] W fun e w' => ∃ gf cf, e = .returned (.slice (some ⟨gf, 0, none⟩) k cf) ∧ GV 3 W.heap.size w' (.slice (some ⟨gf, 0, none⟩) k cf) k (iv f) ∧ Below W.heap.size W w' := by
  have hc := Tryd.slices_Clone_int b 0 k cap ((List.range k).map f) W (by simp) (by omega) (fun j hj => by
    have hj' : j < k := by simpa using hj
    rw [Nat.zero_add, h.cell hj']
    simp [iv, hj'])
  refine hc.mono ?_
  rintro e w' ⟨v', rfl, ho, hne, hb⟩
  have hl : ((List.range k).map f).take k = (List.range k).map f := List.take_of_length_le (by simp)
  rw [hl, List.map_map] at ho
  have hg : GV 3 W.heap.size w' v' k (iv f) := ho
  obtain ⟨p, cf, rfl, h1⟩ := hg.open
  rcases h1 with ⟨rfl, rfl⟩ | ⟨g, rfl, _⟩
  · rcases hg.2 with ⟨h2, _⟩ | ⟨g, _, _, h2, _⟩
    · exact absurd h2 hne
    · cases h2
  · exact ⟨g, cf, rfl, hg, hb⟩
/-- While the rows are laid. -/
structure S2 (W X : World) (b3 bf n : Nat) (F : Nat → Nat) (b9 ba tot gf cf : Nat) (A fr : Nat → Nat) : Prop where
  s1 : S1 W X b3 bf n F
  x9 : X.heap[b9]? = some (.cells #[.slice (some ⟨ba, 0, none⟩) tot tot] 34 (0, 0))
  al : FV 3 X ba tot (iv fun i => A i)
  fre : GV 3 W.heap.size X (.slice (some ⟨gf, 0, none⟩) (n + 1) cf) (n + 1) (iv fun i => fr i)
  n1 : ba ≠ gf
  n2 : bf ≠ ba
  n3 : bf ≠ gf
  h9 : W.heap.size ≤ b9
  ha : W.heap.size ≤ ba
theorem S2.facts {W X : World} {b3 bf n : Nat} {F : Nat → Nat} {b9 ba tot gf cf : Nat} {A fr : Nat → Nat} (h : S2 W X b3 bf n F b9 ba tot gf cf A fr) : b9 < X.heap.size ∧ X.cell? ⟨b9, 0, none⟩ = some (.slice (some ⟨ba, 0, none⟩) tot tot) ∧ gf < X.heap.size ∧ (∀ i, X.frozen? ⟨gf, i, none⟩ = false) ∧ ∀ i, i < n + 1 → X.cell? ⟨gf, i, none⟩ = some (.int .i64 (fr i : Int)) := by
  refine ⟨(Array.getElem?_eq_some_iff.1 h.x9).1, by rw [cell_of_row _ _ _ _ _ _ h.x9]; rfl, (h.fre.lt gf rfl).2, ?_⟩
  obtain ⟨p, cap, e, h1⟩ := h.fre.open
  cases e
  rcases h1 with ⟨h1, _⟩ | ⟨g, h1, _, _, _, _, h2, h3⟩
  · cases h1
  · cases h1
    exact ⟨h2, h3⟩
theorem S1.stay {W X Y : World} {b3 bf n : Nat} {f : Nat → Nat} (h : S1 W X b3 bf n f) (hb : Below X.heap.size X Y) : S1 W Y b3 bf n f :=
  ⟨h.bel.trans (hb.mono h.bel.size), (hb.block _ h.facts.1).trans h.x3, h.fi.stay hb, h.h3, h.hf⟩
theorem s2_mk {W wi X : World} {b3 bf n : Nat} {F : Nat → Nat} {b9 ba gf cf tot C : Nat} (HF : S1 W wi b3 bf n F) (hb : Below wi.heap.size wi X) (x9 : X.heap[b9]? = some (.cells #[.slice (some ⟨ba, 0, none⟩) tot tot] 34 (0, 0))) (al : FV 3 X ba tot (iv fun _ => 0)) (fre : GV 3 C X (.slice (some ⟨gf, 0, none⟩) (n + 1) cf) (n + 1) (iv fun i => F i)) (hC : wi.heap.size ≤ C) (h9 : wi.heap.size ≤ b9) (ha : wi.heap.size ≤ ba) (n1 : ba ≠ gf) :
    ∃ b9' ba' gf' cf' A, Value.pointer (some ⟨b9, 0, none⟩) = .pointer (some ⟨b9', 0, none⟩) ∧ Value.slice (some ⟨gf, 0, none⟩) (n + 1) cf = .slice (some ⟨gf', 0, none⟩) (n + 1) cf' ∧ Hid (S2 W X b3 bf n F b9' ba' tot gf' cf' A F) := by
  have h1 := HF.bel.size
  have h2 := HF.fi.lt
  have h3 := (fre.lt gf rfl).1
  exact ⟨b9, ba, gf, cf, fun _ => 0, rfl, rfl, Lib.hid ⟨HF.stay hb, x9, al, fre.mono (by omega), n1, by omega, by omega, by omega, by omega⟩⟩
theorem box_set {w : World} {b : Nat} {u : Value} (h : w.heap[b]? = some (.cells #[u] 34 (0, 0))) (v : Value) : (w.setCell ⟨b, 0, none⟩ v).heap[b]? = some (.cells #[v] 34 (0, 0)) := heap_setCell_same w b 0 _ _ v h
theorem fv_zero (X : World) (tot : Nat) : FV 3 (X.alloc (.cells (rw_ tot fun _ => .int .i64 0).toArray 3)) X.heap.size tot (iv fun _ => 0) := FV.new rfl (by simp; rfl)
theorem gv_set {T : TypeId} {B : Nat} {W : World} {v : Value} {k g i : Nat} {F : Nat → Value} (h : GV T B W v k F) (hv : v.ownBlock = some g) (x : Value) : GV T B (W.setCell ⟨g, i, none⟩ x) v k (upd F i x) := by
  refine ⟨by simp [rw_], ?_⟩
  rcases h.2 with ⟨rfl, _⟩ | ⟨g', cap, cur, rfl, hB, hg, hc, hm, hs, ht⟩
  · cases hv
  · cases hv
    refine .inr ⟨g', cap, cur.setIfInBounds i x, rfl, hB, heap_setCell_same W g' i cur _ x hg, hc, hm, by simpa using hs, ?_⟩
    apply List.ext_getElem?
    intro j
    rw [Nat.mul_one] at ht hs ⊢
    rw [List.getElem?_take]
    by_cases hj : j < k
    · rw [if_pos hj, rw_get _ hj, Array.getElem?_toList]
      have h1 := congrArg (·[j]?) ht
      simp only [List.getElem?_take] at h1
      rw [if_pos hj, rw_get _ hj] at h1
      by_cases e : j = i
      · subst e
        rw [upd_at]
        simp only [Array.getElem?_setIfInBounds]
        rw [if_pos trivial, if_pos (by omega)]
      · rw [upd_of e, Array.getElem?_setIfInBounds_ne (fun h => e h.symm)]
        simpa using h1
    · rw [if_neg hj, rw_none _ (by omega)]
section
variable {W X : World} {b3 bf n b9 ba tot gf cf : Nat} {F A fr : Nat → Nat}
theorem S2.setA (h : S2 W X b3 bf n F b9 ba tot gf cf A fr) (i x : Nat) : S2 W (X.setCell ⟨ba, i, none⟩ (.int .i64 (x : Int))) b3 bf n F b9 ba tot gf cf (upd A i x) fr := by
  refine ⟨⟨h.s1.bel.setCell (p := ⟨ba, i, none⟩) h.ha _, (heap_setCell_other X ⟨ba, i, none⟩ b3 _ (two_types h.al h.s1.x3 (by decide)).symm).trans h.s1.x3, h.s1.fi.setO h.n2 _ _, h.s1.h3, h.s1.hf⟩, (heap_setCell_other X ⟨ba, i, none⟩ b9 _ (two_types h.al h.x9 (by decide)).symm).trans h.x9, ?_, h.fre.setO (fun e => h.n1 (Option.some.inj e).symm) _ _, h.n1, h.n2, h.n3, h.h9, h.ha⟩
  have := h.al.set i (.int .i64 (x : Int))
  rw [iv_upd, nv_upd] at this
  exact this
theorem S2.setF (h : S2 W X b3 bf n F b9 ba tot gf cf A fr) (i x : Nat) : S2 W (X.setCell ⟨gf, i, none⟩ (.int .i64 (x : Int))) b3 bf n F b9 ba tot gf cf A (upd fr i x) := by
  obtain ⟨cs, T, hT⟩ : ∃ cs T, X.heap[gf]? = some (.cells cs T (0, 0)) ∧ T = 3 := by
    rcases h.fre.2 with ⟨h1, _⟩ | ⟨g, cap, cur, h1, _, hg, _⟩
    · cases h1
    · cases h1; exact ⟨cur, _, hg, rfl⟩
  obtain ⟨hg, rfl⟩ := hT
  refine ⟨⟨h.s1.bel.setCell (p := ⟨gf, i, none⟩) (h.fre.lt gf rfl).1 _, (heap_setCell_other X ⟨gf, i, none⟩ b3 _ (two_types hg h.s1.x3 (by decide)).symm).trans h.s1.x3, h.s1.fi.setO h.n3 _ _, h.s1.h3, h.s1.hf⟩, (heap_setCell_other X ⟨gf, i, none⟩ b9 _ (two_types hg h.x9 (by decide)).symm).trans h.x9, h.al.setO h.n1 _ _, ?_, h.n1, h.n2, h.n3, h.h9, h.ha⟩
  have := gv_set (i := i) h.fre rfl (.int .i64 (x : Int))
  rw [iv_upd, nv_upd] at this
  exact this
theorem S2.like {Y : World} (h : S2 W X b3 bf n F b9 ba tot gf cf A fr) (e : Y.heap = X.heap) (e1 : Y.os = X.os) (e2 : Y.tape = X.tape) (e3 : Y.output = X.output) : S2 W Y b3 bf n F b9 ba tot gf cf A fr :=
  ⟨h.s1.like e e1 e2 e3, by rw [e]; exact h.x9, h.al.of_heap (by rw [e]), h.fre.of_heap fun _ _ => by rw [e], h.n1, h.n2, h.n3, h.h9, h.ha⟩
end
/-- What is laid so far: the first k places' rows, and j of the next one. -/
structure Ld (y : Wm) (k : Nat) (row : List Nat) (A fr : Nat → Nat) : Prop where
  fr : ∀ t, t < y.n → fr t = y.F t + (y.cp k t + row.count t)
  al : ∀ t, t < y.n → ∀ q i, q < y.cp k t + row.count t → (y.src t)[q]? = some i → A (y.F t + q) = i
theorem Ld.step {y : Wm} {k v t j : Nat} {A fr : Nat → Nat} (h : Ld y k ((y.ot v).take j) A fr) (hk : k < y.n) (hp : ∀ u, (if y.P u k then 1 else 0) = (y.ot v).count u) (hnd : (y.ot v).Nodup) (ht : (y.ot v)[j]? = some t) (htn : t < y.n) :
    fr t < y.F y.n ∧ Ld y k ((y.ot v).take (j + 1)) (upd A (fr t) k) (upd fr t (fr t + 1)) := by
  have hnot : ((y.ot v).take j).count t = 0 := by
    refine List.count_eq_zero.2 fun hm => ?_
    obtain ⟨i, hi, e⟩ := List.mem_iff_getElem.1 hm
    rw [List.length_take] at hi
    rw [List.getElem_take] at e
    have hj := (List.getElem?_eq_some_iff.1 ht)
    have := (List.nodup_iff_pairwise_ne.1 hnd)
    have h1 := List.pairwise_iff_getElem.1 this i j (by omega) hj.1 (by omega)
    exact h1 (e.trans hj.2.symm)
  have hP : y.P t k = true := by
    have h1 := hp t
    have h2 := List.count_pos_iff.2 (List.mem_of_getElem? ht)
    cases hc : y.P t k with
    | true => rfl
    | false => rw [hc] at h1; simp at h1; omega
  have hsrc := src_at hk hP
  have hlen := (List.getElem?_eq_some_iff.1 hsrc).1
  have hf := h.fr t htn
  rw [hnot, Nat.add_zero] at hf
  have hbound : y.F t + y.cp k t < y.F y.n := by
    have h1 := sm_next (f := fun t => (y.src t).length) htn
    unfold Wm.F at h1 ⊢
    omega
  refine ⟨by omega, fun u hu => ?_, fun u hu q i hq hi => ?_⟩
  · rw [count_take ht u]
    by_cases e : u = t
    · rw [e, upd_at, if_pos rfl, hf, hnot]; omega
    · rw [upd_of e, if_neg e]; exact h.fr u hu
  · rw [count_take ht u] at hq
    have hqs := (List.getElem?_eq_some_iff.1 hi).1
    by_cases e : y.F u + q = fr t
    · rw [e, upd_at]
      rw [hf] at e
      obtain ⟨rfl, rfl⟩ := F_apart hqs hlen e
      rw [hsrc] at hi
      exact Option.some.inj hi
    · rw [upd_of e]
      refine h.al u hu q i ?_ hi
      by_cases e2 : u = t
      · subst e2
        rw [if_pos rfl, hnot] at hq
        rw [hnot]
        have : q ≠ y.cp k u := fun e3 => e (by rw [hf, e3])
        omega
      · rw [if_neg e2] at hq; omega
theorem Ld.next {y : Wm} {k : Nat} {row : List Nat} {A fr : Nat → Nat} (h : Ld y k row A fr) (hp : ∀ u, (if y.P u k then 1 else 0) = row.count u) : Ld y (k + 1) [] A fr := by
  refine ⟨fun t ht => ?_, fun t ht q i hq hi => ?_⟩
  · rw [cp_succ, hp t]; simpa using h.fr t ht
  · rw [cp_succ, hp t] at hq
    exact h.al t ht q i (by simpa using hq) hi
set_option maxRecDepth 100000 in
set_option maxHeartbeats 4000000 in
theorem sources_any {W : World} {own : Nat → Nat} {B : Nat} {d : Wv} {y : Wm} (hW : Hid (Ws W own B d y y.m y.m y.m)) (hS : Hid (Sok y)) (hn : y.n ≤ 1000000) : Calls Tryd.prog 23 #[.pointer (some ⟨d.a, 0, none⟩)] W (SrcP W y) := by
  have hmk : ∀ W, (Instr.makeSlice 34 (.int .i64 ((y.n : Int) + 1)) (.int .i64 ((y.n : Int) + 1))).run Tryd.prog W = .ok (.slice (some ⟨W.heap.size, 0, none⟩) (y.n + 1) (y.n + 1)) (W.alloc (.cells (rw_ (y.n + 1) fun _ => .int .i64 0).toArray 3)) := make_i (y.n + 1) (by omega)
  obtain ⟨l, c0, c1, c2, c3, f0, f2, f3⟩ := hW.out.facts
  obtain ⟨p3, q3, e3, -⟩ := hW.out.tor.open
  rw [e3] at c3
  have HE3 := Lib.hid e3
  clear e3
  have hmn := hS.out.mn
  go_enter Tryd.func23, Tryd.ntmps23
  go_upto_region 2 with (fail)
  refine name_world ?_
  intro W1 hW1
  obtain ⟨h, hh⟩ : ∃ h, W.heap.size = h := ⟨_, rfl⟩
  have HS1 : Hid (S1 W W1 (h + 1) h y.n (fun _ => 0)) := Lib.hid (by
    rw [hW1]
    refine ⟨?_, ?_, ?_, by omega, by omega⟩
    · exact ((Below.refl _ _).alloc (Nat.le_refl _) _).alloc (by simp) _
    · have := heap_alloc_new (W.alloc (.cells (rw_ (y.n + 1) fun _ => .int .i64 0).toArray 3)) (.cells #[.slice (some ⟨W.heap.size, 0, none⟩) (y.n + 1) (y.n + 1)] 34)
      simpa [hh] using this
    · exact (FV.new hh.symm (by simp; rfl)).alloc _)
  rw [hh]
  clear hW1 hh
  obtain ⟨l1, d0, d1, d2, d3, -⟩ := (hW.out.stay HS1.out.bel).facts
  rw [HE3.out] at d3
  go_wp2
  clear l c0 c1 c2 c3 f0 f2 f3 l1 d0 d1 d2 d3
  go_loopw [27] (fun i wr => ∃ (k : Nat) (f : Nat → Nat), i = .int .i64 k ∧ k ≤ y.m ∧ Hid (S1 W wr (h + 1) h y.n f ∧ f 0 = 0 ∧ ∀ t, t < y.n → f (t + 1) = y.c1 k t)) (fun i _ => y.m - (intOf i).toNat)
  case atStart => exact ⟨0, fun _ => 0, rfl, Nat.zero_le _, Lib.hid ⟨HS1.out, rfl, fun t _ => rfl⟩⟩
  case round =>
    obtain ⟨wo, rfl⟩ : ∃ wo : World, wo = wr := ⟨_, rfl⟩
    obtain ⟨k, f, rfl, hk, HR⟩ := hrel
    clear HS1
    by_cases hlt : k < y.m
    · have hws := hW.out.stay HR.out.1.bel
      obtain ⟨p3', q3', e3, h3⟩ := hws.tor.open
      rw [HE3.out] at e3
      cases e3
      have h3 := h3.resolve_left (fun e => by omega)
      obtain ⟨g3, rfl, -, hg3l, -, -, -, h3c⟩ := h3
      have i3 := h3c k hlt
      obtain ⟨pr, qr, er, hr⟩ := (hws.row k hlt).open
      rw [er] at i3
      have hl2 := hS.out.len k hlt
      clear h3c hws
      go_wp2
      go_loopw [33] (fun i wr => ∃ (j : Nat) (f : Nat → Nat), i = .int .i64 j ∧ j ≤ (y.ot k).length ∧ Hid (S1 W wr (h + 1) h y.n f ∧ f 0 = 0 ∧ ∀ t, t < y.n → f (t + 1) = y.c1 k t + ((y.ot k).take j).count t)) (fun i _ => (y.ot k).length - (intOf i).toNat)
      case atStart => exact ⟨0, f, rfl, Nat.zero_le _, Lib.hid ⟨HR.out.1, HR.out.2.1, fun t ht => by rw [HR.out.2.2 t ht]; simp⟩⟩
      case round =>
        obtain ⟨wi, rfl⟩ : ∃ wi : World, wi = wr := ⟨_, rfl⟩
        clear i3 hr
        have HER := Lib.hid er
        have HR0 := HR
        obtain ⟨j, f, rfl, hj, HR⟩ := hrel
        clear er
        by_cases hltj : j < (y.ot k).length
        · obtain ⟨t, ht⟩ : ∃ t, (y.ot k)[j]? = some t := ⟨_, List.getElem?_eq_getElem hltj⟩
          have htn := hS.out.lt k hlt t (List.mem_of_getElem? ht)
          obtain ⟨pr', qr', er', hr⟩ := ((hW.out.stay HR.out.1.bel).row k hlt).open
          rw [HER.out] at er'
          cases er'
          have hr := hr.resolve_left (fun e => by omega)
          obtain ⟨gr, rfl, -, hgrl, -, -, -, hrc⟩ := hr
          have ir := hrc j hltj
          have elv : lv (y.ot k) j = .int .i64 (t : Int) := by simp only [lv, List.getD_eq_getElem?_getD, ht]; rfl
          rw [elv] at ir
          have if1 := HR.out.1.fi.cell (i := t + 1) (by omega)
          simp only [iv] at if1
          have ff1 := HR.out.1.fi.frozen (t + 1)
          have hft := HR.out.2.2 t htn
          have hcl := hS.out.c1_le t k (by omega)
          have hco := List.count_le_length (a := t) (l := (y.ot k).take j)
          rw [List.length_take] at hco
          have hb : f (t + 1) ≤ 10000000 := by omega
          obtain ⟨ft, hfte⟩ : ∃ ft, f (t + 1) = ft := ⟨_, rfl⟩
          rw [hfte] at if1 hb
          obtain ⟨lb, xb, nb⟩ := HR.out.1.facts
          have HN : Hid (S1 W (wi.setCell ⟨h, t + 1, none⟩ (.int .i64 ((ft + 1 : Nat) : Int))) (h + 1) h y.n (upd f (t + 1) (ft + 1)) ∧ upd f (t + 1) (ft + 1) 0 = 0 ∧ ∀ u, u < y.n → upd f (t + 1) (ft + 1) (u + 1) = y.c1 k u + ((y.ot k).take (j + 1)).count u) := Lib.hid (by
            refine ⟨HR.out.1.set (t + 1) (ft + 1), by rw [upd_of (by omega)]; exact HR.out.2.1, fun u hu => ?_⟩
            rw [count_take ht u]
            by_cases e : u = t
            · rw [e, upd_at, if_pos rfl]; omega
            · rw [upd_of (by omega), if_neg e]; have := HR.out.2.2 u hu; omega)
          clear hrc elv ht hfte hft hcl hco
          go_wp2
          go_roundw
          case rel => exact ⟨j + 1, _, by go_num, by omega, Lib.hid ⟨HN.out.1.like rfl rfl rfl rfl, HN.out.2⟩⟩
          case measure => (simp [intOf]; try omega)
        · obtain rfl : j = (y.ot k).length := by omega
          go_wp2
          go_roundw
          case rel => exact ⟨k + 1, f, by go_num, by omega, Lib.hid ⟨HR.out.1, HR.out.2.1, fun t ht => by rw [HR.out.2.2 t ht, List.take_length]; rfl⟩⟩
          case measure => (simp [intOf]; try omega)
    · obtain rfl : k = y.m := by omega
      obtain ⟨l1, d0, d1, d2, d3, -⟩ := (hW.out.stay HR.out.1.bel).facts
      rw [HE3.out] at d3
      go_wp2
      go_loopw [51] (fun i wr => ∃ (k : Nat) (f : Nat → Nat), i = .int .i64 k ∧ k ≤ y.n ∧ Hid (S1 W wr (h + 1) h y.n f ∧ (∀ i, i ≤ k → f i = y.F i) ∧ ∀ i, k < i → i ≤ y.n → f i = y.c1 y.m (i - 1))) (fun i _ => y.n - (intOf i).toNat)
      case atStart => exact ⟨0, f, rfl, Nat.zero_le _, Lib.hid ⟨HR.out.1, fun i hi => by rw [show i = 0 by omega]; exact HR.out.2.1, fun i h1 h2 => by have := HR.out.2.2 (i - 1) (by omega); rw [show i - 1 + 1 = i by omega] at this; exact this⟩⟩
      case round =>
        clear l1 d0 d1 d2 d3
        obtain ⟨wi, rfl⟩ : ∃ wi : World, wi = wr := ⟨_, rfl⟩
        clear HR
        obtain ⟨k, f, rfl, hk, HR⟩ := hrel
        by_cases hlt : k < y.n
        · have if1 := HR.out.1.fi.cell (i := k + 1) (by omega)
          have if0 := HR.out.1.fi.cell (i := k) (by omega)
          have ff1 := HR.out.1.fi.frozen (k + 1)
          obtain ⟨lb, xb, nb⟩ := HR.out.1.facts
          have e1 := HR.out.2.2 (k + 1) (by omega) (by omega)
          have e0 := HR.out.2.1 k (Nat.le_refl _)
          rw [Nat.add_sub_cancel] at e1
          have hFn : y.F (k + 1) ≤ 2 * y.n := Nat.le_trans (sm_mono (f := fun t => (y.src t).length) (by omega)) hS.out.tot
          have hFs : y.F k + y.c1 y.m k = y.F (k + 1) := by rw [F_succ, src_len, hS.out.c1]
          simp only [iv, e1, e0] at if1 if0
          have hb0 : y.F k ≤ 2000000 := by omega
          have hb1 : y.c1 y.m k ≤ 2000000 := by omega
          obtain ⟨F0, hF0⟩ : ∃ x, y.F k = x := ⟨_, rfl⟩
          obtain ⟨C0, hC0⟩ : ∃ x, y.c1 y.m k = x := ⟨_, rfl⟩
          rw [hF0] at if0 hb0
          rw [hC0] at if1 hb1
          have HN : Hid (S1 W (wi.setCell ⟨h, k + 1, none⟩ (.int .i64 ((C0 + F0 : Nat) : Int))) (h + 1) h y.n (upd f (k + 1) (C0 + F0)) ∧ (∀ i, i ≤ k + 1 → upd f (k + 1) (C0 + F0) i = y.F i) ∧ ∀ i, k + 1 < i → i ≤ y.n → upd f (k + 1) (C0 + F0) i = y.c1 y.m (i - 1)) := Lib.hid (by
            refine ⟨HR.out.1.set _ _, fun i hi => ?_, fun i h1 h2 => by rw [upd_of (by omega)]; exact HR.out.2.2 i (by omega) h2⟩
            by_cases e : i = k + 1
            · rw [e, upd_at]; omega
            · rw [upd_of e]; exact HR.out.2.1 i (by omega))
          clear e1 e0 hFn hFs hF0 hC0
          go_wp2
          go_region
          go_wp2
          go_roundw
          case rel => exact ⟨k + 1, _, by go_num, by omega, Lib.hid ⟨HN.out.1.like rfl rfl rfl rfl, HN.out.2⟩⟩
          case measure => (simp [intOf]; try omega)
        · obtain rfl : k = y.n := by omega
          have HF : Hid (S1 W wi (h + 1) h y.n y.F) := Lib.hid ⟨HR.out.1.bel, HR.out.1.x3, HR.out.1.fi.to fun i hi => by simp only [iv]; rw [HR.out.2.1 i (by omega)], HR.out.1.h3, HR.out.1.hf⟩
          clear HR
          have hmk2 := make_i (y.F y.n) (by have := hS.out.tot; omega)
          have HFX : Hid (∀ X, Below wi.heap.size wi X → FV 3 X h (y.n + 1) (iv fun i => y.F i)) := Lib.hid fun X hX => HF.out.fi.stay hX
          have if1 := HF.out.fi.cell (i := y.n) (by omega)
          simp only [iv] at if1
          obtain ⟨lb, xb, nb⟩ := HF.out.facts
          have HLB : Hid (h + 1 < wi.heap.size ∧ h < wi.heap.size) := Lib.hid ⟨lb, HF.out.fi.lt⟩
          obtain ⟨l1, d0, d1, d2, d3, -⟩ := (hW.out.stay HF.out.bel).facts
          obtain ⟨tot, htot⟩ : ∃ tot, y.F y.n = tot := ⟨_, rfl⟩
          have HT := Lib.hid htot
          rw [htot] at hmk2 if1
          clear htot
          have hlt1 : (y.n : Int) < (y.n : Int) + 1 := by omega
          have hne1 : ¬ h = wi.heap.size := by omega
          have lh : h < wi.heap.size := by omega
          have hne2 : ¬ h + 1 = wi.heap.size := by omega
          go_upto_region 16 with (fail)
          go_cut [9, 10] from 66 to 76 (fun v9 v10 X => ∃ b9 ba gf cf A, v9 = .pointer (some ⟨b9, 0, none⟩) ∧ v10 = .slice (some ⟨gf, 0, none⟩) (y.n + 1) cf ∧ Hid (S2 W X (h + 1) h y.n y.F b9 ba tot gf cf A y.F))
          case first =>
            go_region_held3 (fun w' => w'.cell? ⟨h + 1, 0, none⟩ = some (.slice (some ⟨h, 0, none⟩) (y.n + 1) (y.n + 1)) ∧ w'.cell? ⟨h, y.n, none⟩ = some (.int .i64 (tot : Int)) ∧ w'.cell? ⟨d.a, 1, none⟩ = some (.slice (some ⟨d.bN, 0, none⟩) y.n y.n))
              (first
                | go_keep
                | (go_split_ands
                   exact ⟨xb2, if2, e1⟩)
                | (go_split_ands
                   exact ⟨(cs_other (by omega) _ _).trans xb2, (cs_other (by omega) _ _).trans if2, (cs_other (by omega) _ _).trans e1⟩)
                | (go_split_ands
                   exact ⟨(ca_old (by simp [World.setCell]; omega) _).trans ((cs_other (by omega) _ _).trans xb2), (ca_old (by simp [World.setCell]; omega) _).trans ((cs_other (by omega) _ _).trans if2), (ca_old (by simp [World.setCell]; omega) _).trans ((cs_other (by omega) _ _).trans e1)⟩))
              ((go_at_call 38; ((with_reducible refine (clone_fv (f := fun i => (y.F i : Int)) (HFX.out _ ?_) (by omega)).mono ?_); (repeat (first | exact Below.refl _ _ | refine below_drew ?_ | refine Below.alloc ?_ (by simp) _ | refine Below.alloc ?_ (by simp; omega) _)); rintro e2 w2 ⟨gf, cf, rfl, hg2, hb2⟩; have HG2 := Lib.hid hg2; have HB2 := Lib.hid hb2; have hb2' : Below wi.heap.size wi w2 := below_ch (by repeat (first | exact Below.refl _ _ | refine below_drew ?_ | refine Below.alloc ?_ (by simp) _ | refine Below.alloc ?_ (by simp; omega) _)) hb2; have xb2 := (hb2'.cell (p := ⟨h + 1, 0, none⟩) HLB.out.1).trans xb; have if2 := (hb2'.cell (p := ⟨h, y.n, none⟩) HLB.out.2).trans if1; have lb2 : h + 1 < w2.heap.size := Nat.lt_of_lt_of_le HLB.out.1 hb2'.size; obtain ⟨l2, e0, e1, e2, e3, -⟩ := (hW.out.stay (HF.out.bel.trans (hb2'.mono HF.out.bel.size))).facts; obtain ⟨hcc, hff⟩ := bcell hb2; have lh2 : h < w2.heap.size := (by omega); have hzz := hb2.size; simp only [World.alloc, World.drew, Array.size_push] at hzz; (try have hz1 : wi.heap.size < w2.heap.size := (by omega)); (try have hz2 : wi.heap.size + 1 < w2.heap.size := (by omega)); clear hg2 hb2 hb2')))
            all_goals (go_wp2_with fail; go_meet)
            all_goals
              have hg := HG2.out.lt gf rfl
              have hzb := HB2.out.size
              simp only [World.alloc, World.drew, Array.size_push] at hg hzb
            · exact s2_mk HF.out ((below_ch (below_drew ((Below.refl _ _).alloc (Nat.le_refl _) _)) HB2.out).alloc (by omega) _) (heap_alloc_new w2 _) ((((fv_zero wi tot).of_heap (X := (wi.alloc _).drew) rfl).stay HB2.out).alloc _) (HG2.out.alloc _) (by simp) (by omega) (Nat.le_refl _) (by omega)
            · refine s2_mk (b9 := wi.heap.size + 1) (ba := wi.heap.size) HF.out ((below_ch (below_drew (((Below.refl _ _).alloc (Nat.le_refl _) _).alloc (by simp) _)) HB2.out).setCell (p := ⟨wi.heap.size + 1, 0, none⟩) (by simp) _) (box_set (u := .slice none 0 0) ((HB2.out.block _ (by simp)).trans ?_) _) (((((fv_zero wi tot).alloc _).of_heap (X := ((wi.alloc _).alloc _).drew) rfl).stay HB2.out).setO (by omega) _ _) (HG2.out.setO (fun e => by have e' : gf = _ := Option.some.inj e; omega) _ _) (by simp; omega) (by omega) (Nat.le_refl _) (by omega)
              have := heap_alloc_new (wi.alloc (.cells (rw_ tot fun _ => .int .i64 0).toArray 3)) (.cells #[.slice none 0 0] 34)
              simpa [World.drew] using this
            · refine s2_mk HF.out (((below_ch (below_drew (Below.refl _ _)) HB2.out).alloc (by omega) _).alloc (by simp; omega) _) ?_ ((fv_zero w2 tot).alloc _) ((HG2.out.alloc _).alloc _) (by simp) (by omega) (by omega) (by omega)
              have := heap_alloc_new (w2.alloc (.cells (rw_ tot fun _ => .int .i64 0).toArray 3)) (.cells #[.slice (some ⟨w2.heap.size, 0, none⟩) tot tot] 34)
              simpa using this
            · refine s2_mk HF.out (((below_ch (below_drew (Below.refl _ _)) HB2.out).alloc (by omega) _).alloc (by simp; omega) _) ((Below.heap_alloc _ _ _ (by simp)).trans (heap_alloc_new w2 _)) (FV.new (by simp) (by simp; rfl)) ((HG2.out.alloc _).alloc _) (by simp) (by omega) (by omega) (by omega)
            · refine s2_mk (b9 := wi.heap.size) (ba := wi.heap.size + 1) HF.out ((below_ch (below_drew (((Below.refl _ _).alloc (Nat.le_refl _) _).alloc (by simp) _)) HB2.out).setCell (p := ⟨wi.heap.size, 0, none⟩) (Nat.le_refl _) _) (box_set (u := .slice none 0 0) ((HB2.out.block _ (by simp; omega)).trans ?_) _) ((FV.stay (W := ((wi.alloc (.cells #[.slice none 0 0] 34)).alloc (.cells (rw_ tot fun _ => .int .i64 0).toArray 3)).drew) (FV.of_heap (W := (wi.alloc (.cells #[.slice none 0 0] 34)).alloc (.cells (rw_ tot fun _ => .int .i64 0).toArray 3)) (FV.new (by simp) (by simp; rfl)) rfl) HB2.out).setO (by omega) _ _) (HG2.out.setO (fun e => by have e' : gf = _ := Option.some.inj e; omega) _ _) (by simp; omega) (Nat.le_refl _) (by omega) (by omega)
              exact (Below.heap_alloc _ _ _ (by simp)).trans (heap_alloc_new wi _)
            · refine s2_mk (b9 := wi.heap.size) (ba := w2.heap.size) HF.out (((below_ch (below_drew ((Below.refl _ _).alloc (Nat.le_refl _) _)) HB2.out).setCell (p := ⟨wi.heap.size, 0, none⟩) (Nat.le_refl _) _).alloc (by simp [World.setCell]; omega) _) ((Below.heap_alloc _ _ _ (by simp [World.setCell]; omega)).trans (box_set (u := .slice none 0 0) ((HB2.out.block _ (by simp)).trans ?_) _)) (FV.new (by simp [World.setCell]) (by simp; rfl)) ((HG2.out.setO (fun e => by have e' : gf = _ := Option.some.inj e; omega) _ _).alloc _) (by simp) (Nat.le_refl _) (by omega) (by omega)
              exact heap_alloc_new wi _
          case rest =>
            obtain ⟨b9, ba, gf, cf, A, rfl, rfl, HS⟩ := hcut
            clear l1 d0 d1 d2 d3 lb xb nb if1 hmk2 hlt1 hne1 hne2 lh
            obtain ⟨l1, d0, d1, d2, d3, -⟩ := (hW.out.stay HS.out.s1.bel).facts
            go_wp2
            clear l1 d0 d1 d2 d3
            go_loopw [82] (fun i wr => ∃ (k : Nat) (A fr : Nat → Nat), i = .int .i64 k ∧ k ≤ y.n ∧ Hid (S2 W wr (h + 1) h y.n y.F b9 ba tot gf cf A fr ∧ Ld y k [] A fr)) (fun i _ => y.n - (intOf i).toNat)
            case atStart => exact ⟨0, A, y.F, rfl, Nat.zero_le _, Lib.hid ⟨HS.out, fun t _ => rfl, fun t _ q i hq => absurd hq (Nat.not_lt_zero _)⟩⟩
            case round =>
              obtain ⟨wo2, rfl⟩ : ∃ wo : World, wo = wr := ⟨_, rfl⟩
              clear HS
              obtain ⟨k, A, fr, rfl, hk, HR⟩ := hrel
              by_cases hlt : k < y.n
              · have hws := hW.out.stay HR.out.1.s1.bel
                obtain ⟨l1, d0, d1, d2, d3, -⟩ := hws.facts
                have iN := hws.num.cell hlt
                rw [HE3.out] at d3
                simp only [iv] at iN
                obtain ⟨o, ho⟩ : ∃ o, y.num k = o := ⟨_, rfl⟩
                rw [ho] at iN
                have HO := Lib.hid ho
                clear ho
                rcases o with - | v
                · simp only [ov] at iN
                  clear hws
                  go_wp2
                  go_roundw
                  case rel => exact ⟨k + 1, A, fr, by go_num, by omega, Lib.hid ⟨HR.out.1.like rfl rfl rfl rfl, HR.out.2.next fun u => by rw [P_none HO.out]; rfl⟩⟩
                  case measure => (simp [intOf]; try omega)
                · simp only [ov] at iN
                  have ne1 : ((v : Int) == -1) = false := by simp
                  obtain ⟨hvm, hnd, hpr⟩ := hS.out.row k v HO.out
                  have HND := Lib.hid (And.intro hnd hpr)
                  obtain ⟨p3', q3', e3, h3⟩ := hws.tor.open
                  rw [HE3.out] at e3
                  cases e3
                  have h3 := h3.resolve_left (fun e => by omega)
                  obtain ⟨g3, rfl, -, hg3l, -, -, -, h3c⟩ := h3
                  have i3 := h3c v hvm
                  obtain ⟨pr, qr, er, hr⟩ := (hws.row v hvm).open
                  rw [er] at i3
                  have HER := Lib.hid er
                  clear h3c hws hnd hpr hr er
                  go_wp2
                  clear i3 iN d0 d1 d2 d3
                  go_loopw [97] (fun i wr => ∃ (j : Nat) (A fr : Nat → Nat), i = .int .i64 j ∧ j ≤ (y.ot v).length ∧ Hid (S2 W wr (h + 1) h y.n y.F b9 ba tot gf cf A fr ∧ Ld y k ((y.ot v).take j) A fr)) (fun i _ => (y.ot v).length - (intOf i).toNat)
                  case atStart => exact ⟨0, A, fr, rfl, Nat.zero_le _, Lib.hid HR.out⟩
                  case round =>
                    obtain ⟨wi2, rfl⟩ : ∃ wo : World, wo = wr := ⟨_, rfl⟩
                    clear HR
                    obtain ⟨j, A, fr, rfl, hj, HR⟩ := hrel
                    by_cases hltj : j < (y.ot v).length
                    · obtain ⟨t, ht⟩ : ∃ t, (y.ot v)[j]? = some t := ⟨_, List.getElem?_eq_getElem hltj⟩
                      have htn := hS.out.lt v hvm t (List.mem_of_getElem? ht)
                      have hl2 := hS.out.len v hvm
                      obtain ⟨pr', qr', er', hr⟩ := ((hW.out.stay HR.out.1.s1.bel).row v hvm).open
                      rw [HER.out] at er'
                      cases er'
                      have hr := hr.resolve_left (fun e => by omega)
                      obtain ⟨gr, rfl, -, hgrl, -, -, -, hrc⟩ := hr
                      have ir := hrc j hltj
                      have elv : lv (y.ot v) j = .int .i64 (t : Int) := by simp only [lv, List.getD_eq_getElem?_getD, ht]; rfl
                      rw [elv] at ir
                      have hst := HR.out.2.step hlt HND.out.2 HND.out.1 ht htn
                      rw [HT.out] at hst
                      obtain ⟨hft, hld⟩ := hst
                      have htot : tot ≤ 2000000 := by have := hS.out.tot; rw [HT.out] at this; omega
                      obtain ⟨l9, x9, lg, fg, ig⟩ := HR.out.1.facts
                      have igt := ig t (by omega)
                      have fgt := fg t
                      have fat := HR.out.1.al.frozen (fr t)
                      have ial := HR.out.1.al.cell hft
                      have la := HR.out.1.al.lt
                      have n1 := HR.out.1.n1
                      simp only [iv] at ial
                      obtain ⟨ft, hfte⟩ : ∃ ft, fr t = ft := ⟨_, rfl⟩
                      rw [hfte] at igt ial fat hft hld
                      have HN : Hid (S2 W ((wi2.setCell ⟨ba, ft, none⟩ (.int .i64 (k : Int))).setCell ⟨gf, t, none⟩ (.int .i64 ((ft + 1 : Nat) : Int))) (h + 1) h y.n y.F b9 ba tot gf cf (upd A ft k) (upd fr t (ft + 1)) ∧ Ld y k ((y.ot v).take (j + 1)) (upd A ft k) (upd fr t (ft + 1))) := Lib.hid ⟨(HR.out.1.setA ft k).setF t (ft + 1), hld⟩
                      clear hrc elv ht hfte hld ig fg
                      go_wp2
                      go_region
                      go_wp2
                      go_roundw
                      case rel => exact ⟨j + 1, _, _, by go_num, by omega, Lib.hid ⟨HN.out.1.like rfl rfl rfl rfl, HN.out.2⟩⟩
                      case measure => (simp [intOf]; try omega)
                    · obtain rfl : j = (y.ot v).length := by omega
                      go_wp2
                      go_roundw
                      case rel => exact ⟨k + 1, A, fr, by go_num, by omega, Lib.hid ⟨HR.out.1, by have := HR.out.2.next (by rw [List.take_length]; exact HND.out.2); exact this⟩⟩
                      case measure => (simp [intOf]; try omega)
              · obtain rfl : k = y.n := by omega
                go_wp2
                go_ret
                have hs := HR.out.1
                refine ⟨ba, h, b9, h + 1, rfl, ⟨by rw [HT.out]; exact hs.x9, hs.s1.x3, hs.s1.fi, A, by rw [HT.out]; exact hs.al, fun t ht q i hi => HR.out.2.al t ht q i ?_ hi⟩, hs.s1.bel, hs.ha, hs.s1.hf, hs.h9, hs.s1.h3⟩
                have := (List.getElem?_eq_some_iff.1 hi).1
                rw [src_len] at this
                simpa using this
end Go.Proofs.YtacgfjcdfgdpjaaDoor
