/- A tree told by who stands under whom: graph's under. -/
import Derived.Test.YtacgfjcdfgdpjaaDoorGne
namespace Go.Proofs.YtacgfjcdfgdpjaaDoor
set_option linter.unusedSimpArgs false
set_option linter.unusedVariables false
open Go Go.RowKit Gm

/-- A tree in memory, while it is made. -/
structure Ut (W X : World) (tb bf bs m : Nat) (f s : Nat → Nat) : Prop where
  blk : X.heap[tb]? = some (.cells #[.slice (some ⟨bf, 0, none⟩) m m, .slice (some ⟨bs, 0, none⟩) m m] 56 (0, 0))
  res : X.heap[W.heap.size]? = some (.cells #[.slice none 0 0, .slice none 0 0] 56 (0, 0))
  fi : FV 3 X bf m (iv fun i => f i)
  si : FV 3 X bs m (iv fun i => s i)
  bel : Below W.heap.size W X
  gt : W.heap.size < tb
  gf : W.heap.size < bf
  gs : W.heap.size < bs
  nf : bf ≠ bs
section
variable {W X Y : World} {tb bf bs m : Nat} {f s f' s' : Nat → Nat}
theorem Ut.facts (h : Ut W X tb bf bs m f s) : tb < X.heap.size ∧ X.cell? ⟨tb, 0, none⟩ = some (.slice (some ⟨bf, 0, none⟩) m m) ∧ X.cell? ⟨tb, 1, none⟩ = some (.slice (some ⟨bs, 0, none⟩) m m) := by
  refine ⟨(Array.getElem?_eq_some_iff.1 h.blk).1, ?_, ?_⟩ <;> rw [cell_of_row _ _ _ _ _ _ h.blk] <;> rfl
theorem Ut.ne (h : Ut W X tb bf bs m f s) : bf ≠ tb ∧ bs ≠ tb := ⟨two_types h.fi h.blk (by decide), two_types h.si h.blk (by decide)⟩
theorem Ut.setS (h : Ut W X tb bf bs m f s) (i x : Nat) : Ut W (X.setCell ⟨bs, i, none⟩ (.int .i64 (x : Int))) tb bf bs m f (upd s i x) := by
  refine ⟨(heap_setCell_other X ⟨bs, i, none⟩ tb _ h.ne.2.symm).trans h.blk, (heap_setCell_other X ⟨bs, i, none⟩ _ _ (Nat.ne_of_lt h.gs)).trans h.res, h.fi.setO h.nf _ _, ?_, h.bel.setCell (p := ⟨bs, i, none⟩) (Nat.le_of_lt h.gs) _, h.gt, h.gf, h.gs, h.nf⟩
  have := h.si.set i (.int .i64 (x : Int))
  rw [iv_upd, nv_upd] at this
  exact this
theorem Ut.setF (h : Ut W X tb bf bs m f s) (i x : Nat) : Ut W (X.setCell ⟨bf, i, none⟩ (.int .i64 (x : Int))) tb bf bs m (upd f i x) s := by
  refine ⟨(heap_setCell_other X ⟨bf, i, none⟩ tb _ h.ne.1.symm).trans h.blk, (heap_setCell_other X ⟨bf, i, none⟩ _ _ (Nat.ne_of_lt h.gf)).trans h.res, ?_, h.si.setO h.nf.symm _ _, h.bel.setCell (p := ⟨bf, i, none⟩) (Nat.le_of_lt h.gf) _, h.gt, h.gf, h.gs, h.nf⟩
  have := h.fi.set i (.int .i64 (x : Int))
  rw [iv_upd, nv_upd] at this
  exact this
theorem Ut.like (h : Ut W X tb bf bs m f s) (e : Y.heap = X.heap) (e1 : Y.os = X.os) (e2 : Y.tape = X.tape) (e3 : Y.output = X.output) : Ut W Y tb bf bs m f s :=
  ⟨by rw [e]; exact h.blk, by rw [e]; exact h.res, h.fi.of_heap (by rw [e]), h.si.of_heap (by rw [e]), below_like h.bel e e1 e2 e3, h.gt, h.gf, h.gs, h.nf⟩
theorem Ut.to (h : Ut W X tb bf bs m f s) (h1 : ∀ i, i < m → f i = f' i) (h2 : ∀ i, i < m → s i = s' i) : Ut W X tb bf bs m f' s' :=
  ⟨h.blk, h.res, h.fi.to fun i hi => by rw [iv, iv, h1 i hi], h.si.to fun i hi => by rw [iv, iv, h2 i hi], h.bel, h.gt, h.gf, h.gs, h.nf⟩
theorem al_heap (X : World) (o : Obj) : (X.alloc o).heap = X.heap.push o := rfl
theorem at4 (W : World) (t a b c : Obj) : ((((W.alloc t).alloc a).alloc b).alloc c).heap[W.heap.size]? = some t ∧ ((((W.alloc t).alloc a).alloc b).alloc c).heap[W.heap.size + 1]? = some a ∧ ((((W.alloc t).alloc a).alloc b).alloc c).heap[W.heap.size + 1 + 1]? = some b ∧ ((((W.alloc t).alloc a).alloc b).alloc c).heap[W.heap.size + 1 + 1 + 1]? = some c := by
  refine ⟨?_, ?_, ?_, ?_⟩ <;> simp only [al_heap, Array.getElem?_push, Array.size_push] <;> repeat (first | rw [if_pos rfl] | rw [if_pos trivial] | rw [if_neg (by omega)])
/-- What is left of a tree. -/
def UtQ (W : World) (m : Nat) (v : Value) (X : World) : Prop := ∃ tb bf bs, v = .pointer (some ⟨tb, 0, none⟩) ∧ Hid (Ut W X tb bf bs m (fun _ => 0) (fun _ => 0))
theorem utq_of {a b c : Obj} {T0 : Obj} (h0 : T0 = .cells #[.slice none 0 0, .slice none 0 0] 56) (tb bf bs : Nat) (ht : (((W.alloc T0).alloc a).alloc b |>.alloc c).heap[tb]? = some (.cells #[.slice (some ⟨bf, 0, none⟩) m m, .slice (some ⟨bs, 0, none⟩) m m] 56 (0, 0)))
    (hf : (((W.alloc T0).alloc a).alloc b |>.alloc c).heap[bf]? = some (.cells (rw_ m fun _ => .int .i64 0).toArray 3)) (hs : (((W.alloc T0).alloc a).alloc b |>.alloc c).heap[bs]? = some (.cells (rw_ m fun _ => .int .i64 0).toArray 3)) (gt : W.heap.size < tb) (gf : W.heap.size < bf) (gs : W.heap.size < bs) (nf : bf ≠ bs) :
    UtQ W m (.pointer (some ⟨tb, 0, none⟩)) (((W.alloc T0).alloc a).alloc b |>.alloc c).drew := by
  subst h0
  refine ⟨tb, bf, bs, rfl, Lib.hid (Ut.like (X := (((W.alloc _).alloc a).alloc b |>.alloc c)) ⟨ht, ?_, hf, hs, ?_, gt, gf, gs, nf⟩ rfl rfl rfl rfl)⟩
  · exact (at4 W _ a b c).1
  · exact (((Below.refl _ W).alloc (Nat.le_refl _) _).alloc (by simp) _).alloc (by simp; omega) _ |>.alloc (by simp; omega) _
theorem siz_most {up : Nat → Option Nat} {v a : Nat} (h : Siz m up v f) (ha : a < v) (hv : a < m) : f a ≤ m := by
  have h1 := h.all
  have h2 := sm_next (f := fun x => if x < v ∨ up x = none then f x else 0) hv
  simp only [ha, true_or, if_true] at h2
  omega
end
/-- First places so far. -/
structure Frs (up : Nat → Option Nat) (size f fr : Nat → Nat) (top v : Nat) : Prop where
  fi : ∀ x, x < v → f x = Gm.base f (up x) + Gm.ahead up size (up x) x
  rf : ∀ u, u < v → fr u = f u + 1 + Gm.ahead up size (some u) v
  tp : top = Gm.ahead up size none v
  bt : top ≤ 1000001 * v
  bf : ∀ u, u < v → fr u ≤ 1000001 * v
theorem ahead_succ (up : Nat → Option Nat) (size : Nat → Nat) (o : Option Nat) (v : Nat) : Gm.ahead up size o (v + 1) = Gm.ahead up size o v + (if up v = o then size v else 0) := rfl
theorem ahead_none {up : Nat → Option Nat} {size : Nat → Nat} {m v : Nat} (hu : ∀ v p, v < m → up v = some p → p < v) (hv : v < m) : Gm.ahead up size (some v) (v + 1) = 0 := sm_zero fun i hi => if_neg fun e => by have := hu i v (by omega) e; omega
theorem Frs.start (up : Nat → Option Nat) (size f fr : Nat → Nat) : Frs up size f fr 0 0 := ⟨fun x h => absurd h (Nat.not_lt_zero _), fun x h => absurd h (Nat.not_lt_zero _), rfl, Nat.zero_le _, fun x h => absurd h (Nat.not_lt_zero _)⟩
theorem base_upd {f : Nat → Nat} {o : Option Nat} {v x : Nat} (h : ∀ u, o = some u → u < v) : Gm.base (upd f v x) o = Gm.base f o := by
  cases o with
  | none => rfl
  | some u => have := h u rfl; simp only [Gm.base]; rw [upd_of (by omega)]
theorem Frs.top {up : Nat → Option Nat} {size f fr : Nat → Nat} {top v m : Nat} (h : Frs up size f fr top v) (hu : ∀ v p, v < m → up v = some p → p < v) (hv : v < m) (hs : size v ≤ 1000000) (e : up v = none) : Frs up size (upd f v top) (upd fr v (top + 1)) (top + size v) (v + 1) := by
  have bt := h.bt
  refine ⟨fun x hx => ?_, fun u hx => ?_, ?_, by omega, fun u hx => ?_⟩
  · rw [base_upd fun u hu' => by have := hu x u (by omega) hu'; omega]
    by_cases e2 : x = v
    · rw [e2, upd_at, e, h.tp]; simp [Gm.base]
    · rw [upd_of e2]; exact h.fi x (by omega)
  · by_cases e2 : u = v
    · rw [e2, upd_at, upd_at, ahead_none hu hv]
    · rw [upd_of e2, upd_of e2, ahead_succ, e, if_neg (by simp), h.rf u (by omega)]; omega
  · rw [ahead_succ, if_pos e, h.tp]
  · by_cases e2 : u = v
    · rw [e2, upd_at]; omega
    · rw [upd_of e2]; have := h.bf u (by omega); omega
theorem Frs.kid {up : Nat → Option Nat} {size f fr : Nat → Nat} {top v m p : Nat} (h : Frs up size f fr top v) (hu : ∀ v p, v < m → up v = some p → p < v) (hv : v < m) (hs : size v ≤ 1000000) (e : up v = some p) : Frs up size (upd f v (fr p)) (upd (upd fr p (fr p + size v)) v (fr p + 1)) top (v + 1) := by
  have hp := hu v p hv e
  have bt := h.bt
  have bp := h.bf p hp
  refine ⟨fun x hx => ?_, fun u hx => ?_, ?_, by omega, fun u hx => ?_⟩
  · rw [base_upd fun u hu' => by have := hu x u (by omega) hu'; omega]
    by_cases e2 : x = v
    · rw [e2, upd_at, e, h.rf p hp]; simp [Gm.base]
    · rw [upd_of e2]; exact h.fi x (by omega)
  · by_cases e2 : u = v
    · rw [e2, upd_at, upd_at, ahead_none hu hv]
    · rw [upd_of e2, upd_of e2, ahead_succ, e]
      by_cases e3 : u = p
      · rw [e3, upd_at, if_pos rfl, h.rf p hp]; omega
      · rw [upd_of e3, if_neg (fun e4 => e3 (Option.some.inj e4).symm), h.rf u (by omega)]; omega
  · rw [ahead_succ, e, if_neg (by simp), h.tp]; omega
  · by_cases e2 : u = v
    · rw [e2, upd_at]; omega
    · rw [upd_of e2]
      by_cases e3 : u = p
      · rw [e3, upd_at]; omega
      · rw [upd_of e3]; have := h.bf u (by omega); omega
/-- While the first places are told. -/
structure U2 (W X : World) (tb bf bs br tp m : Nat) (f s fr : Nat → Nat) (top : Nat) : Prop where
  ut : Ut W X tb bf bs m f s
  fc : FV 3 X br m (iv fun i => fr i)
  tc : FV 3 X tp 1 (iv fun _ => top)
  gr : W.heap.size < br
  gp : W.heap.size < tp
  n1 : br ≠ bf
  n2 : br ≠ bs
  n3 : tp ≠ bf
  n4 : tp ≠ bs
  n5 : br ≠ tp
section
variable {W X Y : World} {tb bf bs br tp m : Nat} {f s fr : Nat → Nat} {top : Nat}
theorem Ut.other (h : Ut W X tb bf bs m f s) {b : Nat} (i : Nat) (v : Value) (h0 : W.heap.size < b) (h1 : b ≠ tb) (h2 : b ≠ bf) (h3 : b ≠ bs) : Ut W (X.setCell ⟨b, i, none⟩ v) tb bf bs m f s :=
  ⟨(heap_setCell_other X ⟨b, i, none⟩ tb _ h1.symm).trans h.blk, (heap_setCell_other X ⟨b, i, none⟩ _ _ (Nat.ne_of_lt h0)).trans h.res, h.fi.setO h2.symm _ _, h.si.setO h3.symm _ _, h.bel.setCell (p := ⟨b, i, none⟩) (Nat.le_of_lt h0) _, h.gt, h.gf, h.gs, h.nf⟩
theorem Ut.alloc (h : Ut W X tb bf bs m f s) (o : Obj) : Ut W (X.alloc o) tb bf bs m f s :=
  ⟨(Below.heap_alloc X o tb h.facts.1).trans h.blk, (Below.heap_alloc X o _ (Array.getElem?_eq_some_iff.1 h.res).1).trans h.res, h.fi.alloc _, h.si.alloc _, h.bel.alloc h.bel.size _, h.gt, h.gf, h.gs, h.nf⟩
theorem U2.setF (h : U2 W X tb bf bs br tp m f s fr top) (i x : Nat) : U2 W (X.setCell ⟨bf, i, none⟩ (.int .i64 (x : Int))) tb bf bs br tp m (upd f i x) s fr top :=
  ⟨h.ut.setF i x, h.fc.setO h.n1 _ _, h.tc.setO h.n3 _ _, h.gr, h.gp, h.n1, h.n2, h.n3, h.n4, h.n5⟩
theorem U2.setR (h : U2 W X tb bf bs br tp m f s fr top) (i x : Nat) : U2 W (X.setCell ⟨br, i, none⟩ (.int .i64 (x : Int))) tb bf bs br tp m f s (upd fr i x) top := by
  refine ⟨h.ut.other i _ h.gr (two_types h.fc h.ut.blk (by decide)) h.n1 h.n2, ?_, h.tc.setO h.n5.symm _ _, h.gr, h.gp, h.n1, h.n2, h.n3, h.n4, h.n5⟩
  have := h.fc.set i (.int .i64 (x : Int))
  rw [iv_upd, nv_upd] at this
  exact this
theorem U2.setT (h : U2 W X tb bf bs br tp m f s fr top) (x : Nat) : U2 W (X.setCell ⟨tp, 0, none⟩ (.int .i64 (x : Int))) tb bf bs br tp m f s fr x := by
  refine ⟨h.ut.other 0 _ h.gp (two_types h.tc h.ut.blk (by decide)) h.n3 h.n4, h.fc.setO h.n5 _ _, ?_, h.gr, h.gp, h.n1, h.n2, h.n3, h.n4, h.n5⟩
  refine (h.tc.set 0 (.int .i64 (x : Int))).to fun i hi => ?_
  have : i = 0 := by omega
  rw [this, upd_at]
  rfl
theorem U2.like (h : U2 W X tb bf bs br tp m f s fr top) (e : Y.heap = X.heap) (e1 : Y.os = X.os) (e2 : Y.tape = X.tape) (e3 : Y.output = X.output) : U2 W Y tb bf bs br tp m f s fr top :=
  ⟨h.ut.like e e1 e2 e3, h.fc.of_heap (by rw [e]), h.tc.of_heap (by rw [e]), h.gr, h.gp, h.n1, h.n2, h.n3, h.n4, h.n5⟩
end
theorem u2_of1 {W X : World} {tb bf bs m H : Nat} {f s : Nat → Nat} (h : Ut W X tb bf bs m f s) (hh : X.heap.size = H ∧ tb < H ∧ bf < H ∧ bs < H ∧ W.heap.size < H) : ∃ br tp, (Value.pointer (some ⟨X.heap.size + 1, 0, none⟩)) = .pointer (some ⟨tp, 0, none⟩) ∧ (Value.slice (some ⟨X.heap.size, 0, none⟩) m m) = .slice (some ⟨br, 0, none⟩) m m ∧ Hid (U2 W ((X.alloc (.cells (rw_ m fun _ => .int .i64 0).toArray 3)).alloc (.cells #[.int .i64 0] 3)).drew tb bf bs br tp m f s (fun _ => 0) 0) := by
  obtain ⟨h0, h1, h2, h3, h4⟩ := hh
  refine ⟨_, _, rfl, rfl, Lib.hid (U2.like (X := (X.alloc (.cells (rw_ m fun _ => .int .i64 0).toArray 3)).alloc (.cells #[.int .i64 0] 3)) ⟨(h.alloc _).alloc _, ((fv_zero X m).alloc _), ?_, by omega, by omega, by omega, by omega, by omega, by omega, by omega⟩ rfl rfl rfl rfl)⟩
  exact FV.new (by simp) rfl
theorem u2_of2 {W X : World} {tb bf bs m H : Nat} {f s : Nat → Nat} (h : Ut W X tb bf bs m f s) (hh : X.heap.size = H ∧ tb < H ∧ bf < H ∧ bs < H ∧ W.heap.size < H) : ∃ br tp, (Value.pointer (some ⟨X.heap.size, 0, none⟩)) = .pointer (some ⟨tp, 0, none⟩) ∧ (Value.slice (some ⟨X.heap.size + 1, 0, none⟩) m m) = .slice (some ⟨br, 0, none⟩) m m ∧ Hid (U2 W ((X.alloc (.cells #[.int .i64 0] 3)).alloc (.cells (rw_ m fun _ => .int .i64 0).toArray 3)).drew tb bf bs br tp m f s (fun _ => 0) 0) := by
  obtain ⟨h0, h1, h2, h3, h4⟩ := hh
  refine ⟨_, _, rfl, rfl, Lib.hid (U2.like (X := (X.alloc (.cells #[.int .i64 0] 3)).alloc (.cells (rw_ m fun _ => .int .i64 0).toArray 3)) ⟨(h.alloc _).alloc _, ?_, ?_, by omega, by omega, by omega, by omega, by omega, by omega, by omega⟩ rfl rfl rfl rfl)⟩
  · have := fv_zero (X.alloc (.cells #[.int .i64 0] 3)) m
    simpa using this
  · exact (FV.new (T := 3) (W := X) (m := 1) (F := iv fun _ => 0) rfl rfl).alloc _
theorem U2.at {W X : World} {tb bf bs br tp m v : Nat} {f s fr : Nat → Nat} {top : Nat} (h : U2 W X tb bf bs br tp m f s fr top) (hv : v < m) : X.cell? ⟨tb, 0, none⟩ = some (.slice (some ⟨bf, 0, none⟩) m m) ∧ X.cell? ⟨tb, 1, none⟩ = some (.slice (some ⟨bs, 0, none⟩) m m) ∧ X.cell? ⟨bf, v, none⟩ = some (.int .i64 (f v : Int)) ∧ X.cell? ⟨bs, v, none⟩ = some (.int .i64 (s v : Int)) ∧ X.cell? ⟨br, v, none⟩ = some (.int .i64 (fr v : Int)) ∧ X.cell? ⟨tp, 0, none⟩ = some (.int .i64 (top : Int)) ∧ X.frozen? ⟨bf, v, none⟩ = false ∧ X.frozen? ⟨br, v, none⟩ = false ∧ X.frozen? ⟨tp, 0, none⟩ = false :=
  ⟨h.ut.facts.2.1, h.ut.facts.2.2, h.ut.fi.cell hv, h.ut.si.cell hv, h.fc.cell hv, h.tc.cell (i := 0) (by decide), h.ut.fi.frozen v, h.fc.frozen v, h.tc.frozen 0⟩
theorem results_tree {n : Nat} {X : World} {fn : Func} {p : Tmp} {v0 v1 : Value} (hfn : fn.results = #[.cell p 56]) (tmps : Array Value) (hp : tmps.getD p undef = .pointer (some ⟨n, 0, none⟩)) (h0 : X.cell? ⟨n, 0, none⟩ = some v0) (h1 : X.cell? ⟨n, 1, none⟩ = some v1) : (results fn tmps).run Tryd.prog X = .ok (.agg #[v0, v1]) X := by
  have hp' : tmps[p]?.getD undef = .pointer (some ⟨n, 0, none⟩) := by simpa using hp
  simp [results, hfn, hp', go_sem, h0, h1]
/-- What under gives. -/
def UnderP (W : World) (m : Nat) (I : Nat → Option Nat) (e : Ending) (w' : World) : Prop := ∃ (bf bs : Nat) (f s : Nat → Nat), e = .returned (.agg #[.slice (some ⟨bf, 0, none⟩) m m, .slice (some ⟨bs, 0, none⟩) m m]) ∧ FV 3 w' bf m (iv fun i => f i) ∧ FV 3 w' bs m (iv fun i => s i) ∧ Row m I f s ∧ W.heap.size ≤ bf ∧ W.heap.size ≤ bs ∧ Below W.heap.size W w'
set_option maxRecDepth 100000 in
set_option maxHeartbeats 4000000 in
theorem under_any {W : World} {gu m : Nat} {I : Nat → Option Nat} (hU : Hid (FV 3 W gu m (iv fun v => ov (I v)))) (hI : Hid (∀ v p, v < m → I v = some p → p < v)) (hm : m ≤ 1000000) :
    Calls Tryd.prog 32 #[.slice (some ⟨gu, 0, none⟩) m m] W (UnderP W m I) := by
  have hmk := make_i m (by omega)
  go_enter Tryd.func32, Tryd.ntmps32
  go_upto_region 1 with (fail)
  go_cut [3] from 10 to 16 (fun v X => UtQ W m v X)
  case first =>
    go_region
    all_goals (go_wp2_with fail; go_meet)
    all_goals (first
      | exact utq_of rfl _ (W.heap.size + 1) (W.heap.size + 1 + 1) (by first | exact (at4 W _ _ _ _).2.1 | exact (at4 W _ _ _ _).2.2.1 | exact (at4 W _ _ _ _).2.2.2) (by first | exact (at4 W _ _ _ _).2.1 | exact (at4 W _ _ _ _).2.2.1 | exact (at4 W _ _ _ _).2.2.2) (by first | exact (at4 W _ _ _ _).2.1 | exact (at4 W _ _ _ _).2.2.1 | exact (at4 W _ _ _ _).2.2.2) (by omega) (by omega) (by omega) (by omega)
      | exact utq_of rfl _ (W.heap.size + 1 + 1) (W.heap.size + 1) (by first | exact (at4 W _ _ _ _).2.1 | exact (at4 W _ _ _ _).2.2.1 | exact (at4 W _ _ _ _).2.2.2) (by first | exact (at4 W _ _ _ _).2.1 | exact (at4 W _ _ _ _).2.2.1 | exact (at4 W _ _ _ _).2.2.2) (by first | exact (at4 W _ _ _ _).2.1 | exact (at4 W _ _ _ _).2.2.1 | exact (at4 W _ _ _ _).2.2.2) (by omega) (by omega) (by omega) (by omega)
      | exact utq_of rfl _ (W.heap.size + 1) (W.heap.size + 1 + 1 + 1) (by first | exact (at4 W _ _ _ _).2.1 | exact (at4 W _ _ _ _).2.2.1 | exact (at4 W _ _ _ _).2.2.2) (by first | exact (at4 W _ _ _ _).2.1 | exact (at4 W _ _ _ _).2.2.1 | exact (at4 W _ _ _ _).2.2.2) (by first | exact (at4 W _ _ _ _).2.1 | exact (at4 W _ _ _ _).2.2.1 | exact (at4 W _ _ _ _).2.2.2) (by omega) (by omega) (by omega) (by omega)
      | exact utq_of rfl _ (W.heap.size + 1 + 1 + 1) (W.heap.size + 1) (by first | exact (at4 W _ _ _ _).2.1 | exact (at4 W _ _ _ _).2.2.1 | exact (at4 W _ _ _ _).2.2.2) (by first | exact (at4 W _ _ _ _).2.1 | exact (at4 W _ _ _ _).2.2.1 | exact (at4 W _ _ _ _).2.2.2) (by first | exact (at4 W _ _ _ _).2.1 | exact (at4 W _ _ _ _).2.2.1 | exact (at4 W _ _ _ _).2.2.2) (by omega) (by omega) (by omega) (by omega)
      | exact utq_of rfl _ (W.heap.size + 1 + 1) (W.heap.size + 1 + 1 + 1) (by first | exact (at4 W _ _ _ _).2.1 | exact (at4 W _ _ _ _).2.2.1 | exact (at4 W _ _ _ _).2.2.2) (by first | exact (at4 W _ _ _ _).2.1 | exact (at4 W _ _ _ _).2.2.1 | exact (at4 W _ _ _ _).2.2.2) (by first | exact (at4 W _ _ _ _).2.1 | exact (at4 W _ _ _ _).2.2.1 | exact (at4 W _ _ _ _).2.2.2) (by omega) (by omega) (by omega) (by omega)
      | exact utq_of rfl _ (W.heap.size + 1 + 1 + 1) (W.heap.size + 1 + 1) (by first | exact (at4 W _ _ _ _).2.1 | exact (at4 W _ _ _ _).2.2.1 | exact (at4 W _ _ _ _).2.2.2) (by first | exact (at4 W _ _ _ _).2.1 | exact (at4 W _ _ _ _).2.2.1 | exact (at4 W _ _ _ _).2.2.2) (by first | exact (at4 W _ _ _ _).2.1 | exact (at4 W _ _ _ _).2.2.1 | exact (at4 W _ _ _ _).2.2.2) (by omega) (by omega) (by omega) (by omega))
  case rest =>
    obtain ⟨tb, bf, bs, rfl, HU0⟩ := hcut
    go_wp2
    go_loopw [4] (fun a wr => ∃ (n : Nat) (s : Nat → Nat), a = .int .i64 ((n : Int) - 1) ∧ n ≤ m ∧ Hid (Ut W wr tb bf bs m (fun _ => 0) s ∧ Siz m I n s ∧ ∀ x, n ≤ x → x < m → s x ≤ m)) (fun a _ => (intOf a + 1).toNat)
    case atStart => exact ⟨m, fun _ => 0, rfl, Nat.le_refl _, Lib.hid ⟨HU0.out, Siz.start fun _ _ => rfl, fun x h1 h2 => by omega⟩⟩
    case round =>
      obtain ⟨wo, rfl⟩ : ∃ wo : World, wo = wr := ⟨_, rfl⟩
      obtain ⟨n, s, rfl, hn, HR⟩ := hrel
      by_cases hn0 : n = 0
      · subst hn0
        obtain ⟨H, hH⟩ : ∃ H, wo.heap.size = H := ⟨_, rfl⟩
        have hlt : tb < H ∧ bf < H ∧ bs < H ∧ W.heap.size < H := by
          have h1 := HR.out.1.facts.1
          have h2 := HR.out.1.fi.lt
          have h3 := HR.out.1.si.lt
          have h4 := HR.out.1.gt
          omega
        have HH := Lib.hid (And.intro hH hlt)
        clear hH hlt
        go_upto_region 8 with (fail)
        go_cut [5, 6] from 51 to 53 (fun v1 v2 X => ∃ br tp, v1 = .pointer (some ⟨tp, 0, none⟩) ∧ v2 = .slice (some ⟨br, 0, none⟩) m m ∧ Hid (U2 W X tb bf bs br tp m (fun _ => 0) s (fun _ => 0) 0))
        case first =>
          go_region
          all_goals (go_wp2_with fail; go_meet)
          all_goals first
            | exact u2_of1 HR.out.1 HH.out
            | exact u2_of2 HR.out.1 HH.out
        case rest =>
          obtain ⟨br, tp, rfl, rfl, HU2⟩ := hcut
          have HSz := Lib.hid HR.out.2.1
          have HSb := Lib.hid HR.out.2.2
          clear HR HH
          go_wp2
          go_loopw [56] (fun a wr => ∃ (v : Nat) (f fr : Nat → Nat) (top : Nat), a = .int .i64 v ∧ v ≤ m ∧ Hid (U2 W wr tb bf bs br tp m f s fr top ∧ Frs I s f fr top v)) (fun a _ => m - (intOf a).toNat)
          case atStart => exact ⟨0, fun _ => 0, fun _ => 0, 0, rfl, Nat.zero_le _, Lib.hid ⟨HU2.out, Frs.start _ _ _ _⟩⟩
          case round =>
            obtain ⟨wq, rfl⟩ : ∃ wo : World, wo = wr := ⟨_, rfl⟩
            obtain ⟨v, f, fr, top, rfl, hv, HV⟩ := hrel
            by_cases hvm : v < m
            · have iu := (hU.out.stay HV.out.1.ut.bel).cell hvm
              have hsv := HSb.out v (Nat.zero_le _) hvm
              have hbt := HV.out.2.bt
              obtain ⟨z, hz⟩ : ∃ z, s v = z := ⟨_, rfl⟩
              have hsv' : s v ≤ 1000000 := by omega
              have HSV := Lib.hid hsv'
              clear hsv'
              rcases hIv : I v with - | p
              · simp only [iv, hIv, ov] at iu
                have HIv := Lib.hid hIv
                obtain ⟨a1, a2, a3, a4, a5, a6, a7, a8, a9⟩ := HV.out.1.at hvm
                have HA := Lib.hid (HV.out.1.setF v top)
                obtain ⟨b1, b2, b3, b4, b5, b6, b7, b8, b9⟩ := HA.out.at hvm
                have HB := Lib.hid (HA.out.setT (top + s v))
                have e1 : ((top + s v : Nat) : Int) = (top : Int) + (s v : Int) := by omega
                rw [e1] at HB
                obtain ⟨d1, d2, d3, d4, d5, d6, d7, d8, d9⟩ := HB.out.at hvm
                rw [upd_at] at d3 b3
                have HC := Lib.hid (HB.out.setR v (top + 1))
                have e2 : ((top + 1 : Nat) : Int) = (top : Int) + 1 := by omega
                rw [e2] at HC
                rw [e1] at d6
                simp only [hz] at a4 b4 d1 d2 d3 d4 d5 d6 d7 d8 d9 HC hsv
                clear e1 e2 hIv
                go_upto_region 15 with (fail)
                go_region
                go_upto_region 16 with (fail)
                go_region
                go_wp2
                go_roundw
                case rel => exact ⟨v + 1, upd f v top, upd fr v (top + 1), top + s v, by go_num, by omega, Lib.hid ⟨by simp only [hz]; exact HC.out.like rfl rfl rfl rfl, HV.out.2.top hI.out hvm HSV.out HIv.out⟩⟩
                case measure => (simp [intOf]; try omega)
              · have hpv := hI.out v p hvm hIv
                have hpm : p < m := by omega
                have hbp := HV.out.2.bf p hpv
                simp only [iv, hIv, ov] at iu
                have HIv := Lib.hid hIv
                obtain ⟨g, hg⟩ : ∃ g, fr p = g := ⟨_, rfl⟩
                obtain ⟨a1, a2, a3, a4, a5, a6, a7, a8, a9⟩ := HV.out.1.at hvm
                obtain ⟨-, -, -, -, p5, -, -, p8, -⟩ := HV.out.1.at hpm
                have HA := Lib.hid (HV.out.1.setF v (fr p))
                obtain ⟨b1, b2, b3, b4, b5, b6, b7, b8, b9⟩ := HA.out.at hvm
                obtain ⟨-, -, -, -, q5, -, -, q8, -⟩ := HA.out.at hpm
                have HB := Lib.hid (HA.out.setR p (fr p + s v))
                have e1 : ((fr p + s v : Nat) : Int) = (fr p : Int) + (s v : Int) := by omega
                rw [e1] at HB
                obtain ⟨d1, d2, d3, d4, d5, d6, d7, d8, d9⟩ := HB.out.at hvm
                rw [upd_at] at d3 b3
                rw [upd_of (by omega)] at d5
                have HC := Lib.hid (HB.out.setR v (fr p + 1))
                have e2 : ((fr p + 1 : Nat) : Int) = (fr p : Int) + 1 := by omega
                rw [e2] at HC
                simp only [hz, hg] at a4 b4 d1 d2 d3 d4 d5 d6 d7 d8 d9 HC hsv hbp p5 q5 b1 b2 b3 b5 b6 b7 b8 b9 p8 q8
                clear e1 e2 hIv
                go_upto_region 15 with (fail)
                go_region
                go_upto_region 16 with (fail)
                go_region
                go_wp2
                go_roundw
                case rel => exact ⟨v + 1, upd f v (fr p), upd (upd fr p (fr p + s v)) v (fr p + 1), top, by go_num, by omega, Lib.hid ⟨by simp only [hz, hg]; exact HC.out.like rfl rfl rfl rfl, HV.out.2.kid hI.out hvm HSV.out HIv.out⟩⟩
                case measure => (simp [intOf]; try omega)
            · obtain rfl : v = m := by omega
              have HR : Hid (Row v I f s) := Lib.hid (HSz.out.row hI.out HV.out.2.fi)
              obtain ⟨a0, a1, a2⟩ := HV.out.1.ut.facts
              have r0 : wq.cell? ⟨W.heap.size, 0, none⟩ = some (.slice none 0 0) := by rw [cell_of_row _ _ _ _ _ _ HV.out.1.ut.res]; rfl
              have r1 : wq.cell? ⟨W.heap.size, 1, none⟩ = some (.slice none 0 0) := by rw [cell_of_row _ _ _ _ _ _ HV.out.1.ut.res]; rfl
              have z0 := frozen_of_row _ _ 0 _ _ HV.out.1.ut.res
              have z1 := frozen_of_row _ _ 1 _ _ HV.out.1.ut.res
              have HW : Hid (∀ x y, FV 3 ((wq.setCell ⟨W.heap.size, 0, none⟩ x).setCell ⟨W.heap.size, 1, none⟩ y) bf v (iv fun i => f i) ∧ FV 3 ((wq.setCell ⟨W.heap.size, 0, none⟩ x).setCell ⟨W.heap.size, 1, none⟩ y) bs v (iv fun i => s i) ∧ Below W.heap.size W ((wq.setCell ⟨W.heap.size, 0, none⟩ x).setCell ⟨W.heap.size, 1, none⟩ y)) := Lib.hid fun x y => ⟨(HV.out.1.ut.fi.setO (Nat.ne_of_gt HV.out.1.ut.gf) _ _).setO (Nat.ne_of_gt HV.out.1.ut.gf) _ _, (HV.out.1.ut.si.setO (Nat.ne_of_gt HV.out.1.ut.gs) _ _).setO (Nat.ne_of_gt HV.out.1.ut.gs) _ _, (HV.out.1.ut.bel.setCell (p := ⟨W.heap.size, 0, none⟩) (Nat.le_refl _) _).setCell (p := ⟨W.heap.size, 1, none⟩) (Nat.le_refl _) _⟩
              go_wp2
              refine bodyPost_ret (results_tree (n := W.heap.size) (v0 := .slice (some ⟨bf, 0, none⟩) v v) (v1 := .slice (some ⟨bs, 0, none⟩) v v) Tryd.results32 _ rfl ?_ ?_) rfl ?_
              · exact (World.cell?_setCell_other _ ⟨W.heap.size, 1, none⟩ ⟨W.heap.size, 0, none⟩ _ (fun e => by have := congrArg Addr.off e; simp at this)).trans (World.cell?_setCell_same _ _ _ r0)
              · exact World.cell?_setCell_same _ _ _ ((World.cell?_setCell_other _ ⟨W.heap.size, 0, none⟩ ⟨W.heap.size, 1, none⟩ _ (fun e => by have := congrArg Addr.off e; simp at this)).trans r1)
              exact ⟨bf, bs, f, s, rfl, (HW.out _ _).1, (HW.out _ _).2.1, HR.out, Nat.le_of_lt HV.out.1.ut.gf, Nat.le_of_lt HV.out.1.ut.gs, (HW.out _ _).2.2⟩
      · obtain ⟨v, rfl⟩ : ∃ v, n = v + 1 := ⟨n - 1, by omega⟩
        have hvm : v < m := by omega
        obtain ⟨lt, t0, t1⟩ := HR.out.1.facts
        have is := HR.out.1.si.cell hvm
        have fs := HR.out.1.si.frozen v
        simp only [iv] at is
        have hsm := siz_most HR.out.2.1 (Nat.lt_succ_self v) hvm
        have iu := (hU.out.stay HR.out.1.bel).cell hvm
        obtain ⟨z, hz⟩ : ∃ z, s v = z := ⟨_, rfl⟩
        rw [hz] at is hsm
        have HZ := Lib.hid hz
        have e0 : ((v + 1 : Nat) : Int) - 1 = (v : Int) := by omega
        rw [e0]
        have HA : Hid (Ut W (wo.setCell ⟨bs, v, none⟩ (.int .i64 ((z + 1 : Nat) : Int))) tb bf bs m (fun _ => 0) (upd s v (z + 1))) := Lib.hid (HR.out.1.setS v (z + 1))
        have hz1 : ((z + 1 : Nat) : Int) = (z : Int) + 1 := by omega
        rw [hz1] at HA
        have iua := (hU.out.stay HA.out.bel).cell hvm
        obtain ⟨lta, ta0, ta1⟩ := HA.out.facts
        have isa := HA.out.si.cell hvm
        simp only [iv, upd_at, hz1] at isa
        clear hz
        rcases hIv : I v with - | p
        · simp only [iv, hIv, ov] at iua iu
          have HIv := Lib.hid hIv
          have HSZ : Hid (Siz m I v (upd s v (z + 1))) := Lib.hid (HR.out.2.1.free hvm HIv.out fun x => by rw [HZ.out]; unfold upd; rfl)
          have HSB : Hid (∀ x, v ≤ x → x < m → upd s v (z + 1) x ≤ m) := Lib.hid fun x h1 h2 => by
            by_cases e : x = v
            · have h3 := HSZ.out.all
              have h4 := sm_next (f := fun x => if x < v ∨ I x = none then upd s v (z + 1) x else 0) hvm
              simp only [HIv.out, or_true, if_true] at h4
              rw [e]
              omega
            · rw [upd_of e]; exact HR.out.2.2 x (by omega) h2
          go_wp2
          go_roundw
          case rel => exact ⟨v, upd s v (z + 1), by go_num, by omega, Lib.hid ⟨HA.out.like rfl rfl rfl rfl, HSZ.out, HSB.out⟩⟩
          case measure => (simp [intOf]; try omega)
        · have hpv := hI.out v p hvm hIv
          have hpm : p < m := by omega
          simp only [iv, hIv, ov] at iua iu
          have ip := HA.out.si.cell hpm
          have fp := HA.out.si.frozen p
          have hsp := siz_most HR.out.2.1 (a := p) (by omega) hpm
          obtain ⟨r, hr⟩ : ∃ r, s p = r := ⟨_, rfl⟩
          rw [hr] at hsp
          simp only [iv] at ip
          rw [upd_of (by omega), hr] at ip
          have HIv := Lib.hid (And.intro hIv hr)
          have HB := Lib.hid (HA.out.setS p (r + (z + 1)))
          have hr1 : ((r + (z + 1) : Nat) : Int) = (r : Int) + ((z : Int) + 1) := by omega
          rw [hr1] at HB
          have HSZ : Hid (Siz m I v (upd (upd s v (z + 1)) p (r + (z + 1)))) := Lib.hid (HR.out.2.1.hung hvm HIv.out.1 (by omega) (fun x => by rw [HZ.out, HIv.out.2]; unfold upd; rfl) hI.out)
          have HSB : Hid (∀ x, v ≤ x → x < m → upd (upd s v (z + 1)) p (r + (z + 1)) x ≤ m) := Lib.hid fun x h1 h2 => by
            have h3 := siz_most HSZ.out (a := p) (by omega) hpm
            rw [upd_at] at h3
            rw [upd_of (by omega)]
            by_cases e : x = v
            · rw [e, upd_at]; omega
            · rw [upd_of e]; exact HR.out.2.2 x (by omega) h2
          clear hIv hr hr1 hz1
          go_upto_region 7 with (fail)
          go_region
          all_goals go_wp2
          all_goals go_roundw
          case rel => exact ⟨v, upd (upd s v (z + 1)) p (r + (z + 1)), by go_num, by omega, Lib.hid ⟨HB.out.like rfl rfl rfl rfl, HSZ.out, HSB.out⟩⟩
          case measure => (simp [intOf]; try omega)
end Go.Proofs.YtacgfjcdfgdpjaaDoor
