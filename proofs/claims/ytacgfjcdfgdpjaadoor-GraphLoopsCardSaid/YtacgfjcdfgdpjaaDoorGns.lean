/- How loops stand in one another: graph's ways.nest. -/
import Derived.Test.YtacgfjcdfgdpjaaDoorGnm
namespace Go.Proofs.YtacgfjcdfgdpjaaDoor
set_option linter.unusedSimpArgs false
set_option linter.unusedVariables false
open Go Go.RowKit Gm

/-- The nearest ones, of any ways. -/
theorem near_any {W : World} {own : Nat → Nat} {B : Nat} {d : Wv} {y : Wm} {c : List Ic} (hW : Hid (Ws W own B d y y.m y.m y.m)) (hF : Hid (0 < y.m → Wf c y)) (hS : Hid (Sok y)) (hn : y.n ≤ 1000000) : Calls Tryd.prog 28 #[.pointer (some ⟨d.a, 0, none⟩)] W (NearP W y) := by
  by_cases h : y.m = 0
  · exact near_none hW hS h hn
  · exact near_some hW (Lib.hid (hF.out (by omega))) hn
/-- What nest makes, while it is made. -/
structure Nt (V X : World) (b1 b2 bw m : Nat) (hd : Nat → Bool) (A : Nat → Int) (c : Nat → Nat) : Prop where
  ch : Ch (fun b => b = b1 ∨ b = b2 ∨ b = bw) V X
  f1 : FV 4 X b1 m (bv hd)
  f2 : FV 3 X b2 m (iv A)
  fw : FV 3 X bw m (iv fun i => c i)
  lt : b1 < V.heap.size ∧ b2 < V.heap.size ∧ bw < V.heap.size
  n2 : b2 ≠ bw
section
variable {W V X Y : World} {b1 b2 bw m : Nat} {hd : Nat → Bool} {A : Nat → Int} {c : Nat → Nat}
theorem Nt.n1 (h : Nt V X b1 b2 bw m hd A c) : b1 ≠ b2 ∧ b1 ≠ bw := ⟨two_types h.f1 h.f2 (by decide), two_types h.f1 h.fw (by decide)⟩
theorem Nt.at (h : Nt V X b1 b2 bw m hd A c) {v : Nat} (hv : v < m) : X.cell? ⟨b1, v, none⟩ = some (.bool (hd v)) ∧ X.cell? ⟨b2, v, none⟩ = some (.int .i64 (A v)) ∧ X.cell? ⟨bw, v, none⟩ = some (.int .i64 (c v : Int)) ∧ X.frozen? ⟨b1, v, none⟩ = false ∧ X.frozen? ⟨b2, v, none⟩ = false ∧ X.frozen? ⟨bw, v, none⟩ = false :=
  ⟨h.f1.cell hv, h.f2.cell hv, h.fw.cell hv, h.f1.frozen v, h.f2.frozen v, h.fw.frozen v⟩
theorem Nt.like (h : Nt V X b1 b2 bw m hd A c) (e : Y.heap = X.heap) (e1 : Y.os = X.os) (e2 : Y.tape = X.tape) (e3 : Y.output = X.output) : Nt V Y b1 b2 bw m hd A c :=
  ⟨h.ch.like e e1 e2 e3, h.f1.of_heap (by rw [e]), h.f2.of_heap (by rw [e]), h.fw.of_heap (by rw [e]), h.lt, h.n2⟩
theorem Nt.stay (h : Nt V X b1 b2 bw m hd A c) (hb : Below X.heap.size X Y) : Nt V Y b1 b2 bw m hd A c :=
  ⟨h.ch.stepB hb, h.f1.stay hb, h.f2.stay hb, h.fw.stay hb, h.lt, h.n2⟩
/-- What came later changes. -/
theorem Nt.later (h : Nt V X b1 b2 bw m hd A c) {S : Nat → Prop} (hc : Ch S X Y) (hs : ∀ b, S b → V.heap.size ≤ b) : Nt V Y b1 b2 bw m hd A c :=
  ⟨h.ch.fresh hc fun b hb e => by have := hs b e; omega, h.f1.ch hc fun e => by have := hs _ e; have := h.lt; omega, h.f2.ch hc fun e => by have := hs _ e; have := h.lt; omega, h.fw.ch hc fun e => by have := hs _ e; have := h.lt; omega, h.lt, h.n2⟩
theorem Nt.apd (h : Nt V X b1 b2 bw m hd A c) {k : Nat} {F : Nat → Value} {v v' : Value} (hg : GV 3 V.heap.size X v k F) (hz : Apd X Y v v') : Nt V Y b1 b2 bw m hd A c := h.later hz.1 fun b e => (hg.lt b e).1
theorem Nt.found (h : Nt V X b1 b2 bw m hd A c) {c' : Nat → Nat} (hc : Ch (fun b => b = bw) X Y) (hf : FV 3 Y bw m (iv fun i => c' i)) : Nt V Y b1 b2 bw m hd A c' :=
  ⟨h.ch.trans (hc.mono fun b _ e => .inr (.inr e)), h.f1.ch hc h.n1.2, h.f2.ch hc h.n2, hf, h.lt, h.n2⟩
theorem Nt.set1 (h : Nt V X b1 b2 bw m hd A c) (i : Nat) (x : Bool) : Nt V (X.setCell ⟨b1, i, none⟩ (.bool x)) b1 b2 bw m (upd hd i x) A c :=
  ⟨h.ch.set (.inl (.inl rfl)) i _, bv_upd hd i x ▸ h.f1.set i (.bool x), h.f2.setO h.n1.1.symm _ _, h.fw.setO h.n1.2.symm _ _, h.lt, h.n2⟩
theorem Nt.set2 (h : Nt V X b1 b2 bw m hd A c) (i : Nat) (x : Int) : Nt V (X.setCell ⟨b2, i, none⟩ (.int .i64 x)) b1 b2 bw m hd (upd A i x) c :=
  ⟨h.ch.set (.inl (.inr (.inl rfl))) i _, h.f1.setO h.n1.1 _ _, iv_upd A i x ▸ h.f2.set i (.int .i64 x), h.fw.setO h.n2.symm _ _, h.lt, h.n2⟩
theorem Nt.setw (h : Nt V X b1 b2 bw m hd A c) (i x : Nat) : Nt V (X.setCell ⟨bw, i, none⟩ (.int .i64 (x : Int))) b1 b2 bw m hd A (upd c i x) := by
  refine ⟨h.ch.set (.inl (.inr (.inr rfl))) i _, h.f1.setO h.n1.2 _ _, h.f2.setO h.n2 _ _, ?_, h.lt, h.n2⟩
  have := h.fw.set i (.int .i64 (x : Int))
  rw [iv_upd, nv_upd] at this
  exact this
theorem Nt.to (h : Nt V X b1 b2 bw m hd A c) {A' : Nat → Int} {c' : Nat → Nat} (h1 : ∀ i, i < m → A i = A' i) (h2 : ∀ i, i < m → c i = c' i) : Nt V X b1 b2 bw m hd A' c' :=
  ⟨h.ch, h.f1, h.f2.to fun i hi => by rw [iv, iv, h1 i hi], h.fw.to fun i hi => by rw [iv, iv, h2 i hi], h.lt, h.n2⟩
end
/-- What stands beside it. -/
structure Nf (W X : World) (tb b1 b2 bw m : Nat) : Prop where
  bel : Below W.heap.size W X
  blk : X.heap[tb]? = some (.cells #[.slice (some ⟨b1, 0, none⟩) m m, .slice (some ⟨b2, 0, none⟩) m m] 53 (0, 0))
  res : X.heap[W.heap.size]? = some (.cells #[.slice none 0 0, .slice none 0 0] 53 (0, 0))
  g : W.heap.size < tb ∧ W.heap.size < b1 ∧ W.heap.size < b2 ∧ W.heap.size < bw
  n : tb ≠ b1 ∧ tb ≠ b2 ∧ tb ≠ bw
theorem Nf.facts {W X : World} {tb b1 b2 bw m : Nat} (h : Nf W X tb b1 b2 bw m) : tb < X.heap.size ∧ X.cell? ⟨tb, 0, none⟩ = some (.slice (some ⟨b1, 0, none⟩) m m) ∧ X.cell? ⟨tb, 1, none⟩ = some (.slice (some ⟨b2, 0, none⟩) m m) := by
  refine ⟨(Array.getElem?_eq_some_iff.1 h.blk).1, ?_, ?_⟩ <;> rw [cell_of_row _ _ _ _ _ _ h.blk] <;> rfl
theorem Nf.ch {W V X : World} {tb b1 b2 bw m : Nat} (h : Nf W V tb b1 b2 bw m) (hc : Ch (fun b => b = b1 ∨ b = b2 ∨ b = bw) V X) : Nf W X tb b1 b2 bw m := by
  have hg := h.g
  have hn := h.n
  refine ⟨h.bel.trans (hc.below h.bel.size fun b hb e => by omega), (hc.block _ h.facts.1 (by omega)).trans h.blk, (hc.block _ (Array.getElem?_eq_some_iff.1 h.res).1 (by omega)).trans h.res, hg, hn⟩
/-- .. and what the second half of it reads. -/
structure Nr2 (X : World) (z t7 bt bz ba bf b9 b3 : Nat) (y : Wm) (f s : Nat → Nat) : Prop where
  tre : X.heap[t7]? = some (.cells #[.slice (some ⟨bt, 0, none⟩) y.m y.m, .slice (some ⟨bz, 0, none⟩) y.m y.m] 56 (0, 0))
  fi : FV 3 X bt y.m (iv fun i => f i)
  si : FV 3 X bz y.m (iv fun i => s i)
  sr : Sr X ba bf b9 b3 y
  z : z ≤ t7 ∧ z ≤ bt ∧ z ≤ bz ∧ z ≤ ba ∧ z ≤ bf ∧ z ≤ b9 ∧ z ≤ b3
theorem Nr2.facts {X : World} {z t7 bt bz ba bf b9 b3 : Nat} {y : Wm} {f s : Nat → Nat} (h : Nr2 X z t7 bt bz ba bf b9 b3 y f s) : t7 < X.heap.size ∧ X.cell? ⟨t7, 0, none⟩ = some (.slice (some ⟨bt, 0, none⟩) y.m y.m) ∧ X.cell? ⟨t7, 1, none⟩ = some (.slice (some ⟨bz, 0, none⟩) y.m y.m) := by
  refine ⟨(Array.getElem?_eq_some_iff.1 h.tre).1, ?_, ?_⟩ <;> rw [cell_of_row _ _ _ _ _ _ h.tre] <;> rfl
theorem Nr2.ch {V X : World} {z t7 bt bz ba bf b9 b3 : Nat} {y : Wm} {f s : Nat → Nat} {S : Nat → Prop} (h : Nr2 V z t7 bt bz ba bf b9 b3 y f s) (hc : Ch S V X) (hs : ∀ b, S b → b < z) : Nr2 X z t7 bt bz ba bf b9 b3 y f s := by
  obtain ⟨z1, z2, z3, z4, z5, z6, z7⟩ := h.z
  exact ⟨(hc.block _ h.facts.1 fun e => by have := hs _ e; omega).trans h.tre, h.fi.ch hc fun e => by (have := hs _ e; omega), h.si.ch hc fun e => by (have := hs _ e; omega), h.sr.ch hc (fun e => by have := hs _ e; omega) (fun e => by have := hs _ e; omega) (fun e => by have := hs _ e; omega) (fun e => by have := hs _ e; omega), h.z⟩
/-- What its variable is at first. -/
structure N0 (W X : World) (tb b1 b2 m : Nat) : Prop where
  bel : Below W.heap.size W X
  blk : X.heap[tb]? = some (.cells #[.slice (some ⟨b1, 0, none⟩) m m, .slice (some ⟨b2, 0, none⟩) m m] 53 (0, 0))
  res : X.heap[W.heap.size]? = some (.cells #[.slice none 0 0, .slice none 0 0] 53 (0, 0))
  f1 : FV 4 X b1 m (bv fun _ => false)
  f2 : FV 3 X b2 m (iv fun _ => 0)
  g : W.heap.size < tb ∧ W.heap.size < b1 ∧ W.heap.size < b2
def N0Q (W : World) (m : Nat) (v : Value) (X : World) : Prop := ∃ tb b1 b2, v = .pointer (some ⟨tb, 0, none⟩) ∧ Hid (N0 W X tb b1 b2 m)
theorem n0q_of {W : World} {m : Nat} {a b c : Obj} {T0 : Obj} (h0 : T0 = .cells #[.slice none 0 0, .slice none 0 0] 53) (tb b1 b2 : Nat) (ht : (((W.alloc T0).alloc a).alloc b |>.alloc c).heap[tb]? = some (.cells #[.slice (some ⟨b1, 0, none⟩) m m, .slice (some ⟨b2, 0, none⟩) m m] 53 (0, 0)))
    (hf : (((W.alloc T0).alloc a).alloc b |>.alloc c).heap[b1]? = some (.cells (rw_ m fun _ => .bool false).toArray 4)) (hs : (((W.alloc T0).alloc a).alloc b |>.alloc c).heap[b2]? = some (.cells (rw_ m fun _ => .int .i64 0).toArray 3)) (gt : W.heap.size < tb) (gf : W.heap.size < b1) (gs : W.heap.size < b2) :
    N0Q W m (.pointer (some ⟨tb, 0, none⟩)) (((W.alloc T0).alloc a).alloc b |>.alloc c).drew := by
  subst h0
  refine ⟨tb, b1, b2, rfl, Lib.hid ⟨?_, ht, (at4 W _ a b c).1, hf, hs, gt, gf, gs⟩⟩
  exact below_like ((((Below.refl _ W).alloc (Nat.le_refl _) _).alloc (by simp) _).alloc (by simp; omega) _ |>.alloc (by simp; omega) _) rfl rfl rfl rfl
theorem results_nest {n : Nat} {X : World} {fn : Func} {p : Tmp} {v0 v1 : Value} (hfn : fn.results = #[.cell p 53]) (tmps : Array Value) (hp : tmps.getD p undef = .pointer (some ⟨n, 0, none⟩)) (h0 : X.cell? ⟨n, 0, none⟩ = some v0) (h1 : X.cell? ⟨n, 1, none⟩ = some v1) : (results fn tmps).run Tryd.prog X = .ok (.agg #[v0, v1]) X := by
  have hp' : tmps[p]?.getD undef = .pointer (some ⟨n, 0, none⟩) := by simpa using hp
  simp [results, hfn, hp', go_sem, h0, h1]
/-- What nest gives. -/
def NestP (W : World) (y : Wm) (e : Ending) (w' : World) : Prop := ∃ (b1 b2 : Nat) (hd : Nat → Bool) (ar : Nat → Option Nat), e = .returned (.agg #[.slice (some ⟨b1, 0, none⟩) y.m y.m, .slice (some ⟨b2, 0, none⟩) y.m y.m]) ∧ FV 4 w' b1 y.m (bv hd) ∧ FV 3 w' b2 y.m (iv fun v => ov (ar v)) ∧ (∀ h, h < y.m → (hd h = true ↔ Hd y.E h)) ∧ Lps y.m y.E ar 0 ∧ W.heap.size ≤ b1 ∧ W.heap.size ≤ b2 ∧ Below W.heap.size W w'
/-- What waits, in memory, and what it is. -/
structure Nw (V X : World) (b1 b2 bw : Nat) (y : Wm) (hd : Nat → Bool) (ar : Nat → Option Nat) (c : Nat → Nat) (v : Value) (l : List Nat) : Prop where
  nt : Nt V X b1 b2 bw y.m hd (fun v => ov (ar v)) c
  gv : GV 3 V.heap.size X v l.length (lv l)
section
variable {V X Y : World} {b1 b2 bw : Nat} {y : Wm} {hd : Nat → Bool} {ar : Nat → Option Nat} {c : Nat → Nat} {v : Value} {l : List Nat}
theorem Nw.like (h : Nw V X b1 b2 bw y hd ar c v l) (e : Y.heap = X.heap) (e1 : Y.os = X.os) (e2 : Y.tape = X.tape) (e3 : Y.output = X.output) : Nw V Y b1 b2 bw y hd ar c v l :=
  ⟨h.nt.like e e1 e2 e3, h.gv.of_heap fun _ _ => by rw [e]⟩
theorem Nw.stay (h : Nw V X b1 b2 bw y hd ar c v l) (hb : Below X.heap.size X Y) : Nw V Y b1 b2 bw y hd ar c v l := ⟨h.nt.stay hb, h.gv.stay hb⟩
theorem Nw.apd (h : Nw V X b1 b2 bw y hd ar c v l) {v' : Value} {z : Nat} (hz : Apd X Y v v') (hg : GV 3 V.heap.size Y v' (l.length + 1) (upd (lv l) l.length (.int .i64 (z : Int)))) : Nw V Y b1 b2 bw y hd ar c v' (l ++ [z]) :=
  ⟨h.nt.apd h.gv hz, by rw [List.length_append]; exact hg.to fun i hi => lv_snoc hi⟩
theorem Nw.found {c' : Nat → Nat} (h : Nw V X b1 b2 bw y hd ar c v l) (hc : Ch (fun b => b = bw) X Y) (hf : FV 3 Y bw y.m (iv fun i => c' i)) : Nw V Y b1 b2 bw y hd ar c' v l :=
  ⟨h.nt.found hc hf, h.gv.ch hc fun g e e2 => by have := (h.gv.lt g e).1; have := h.nt.lt; omega⟩
theorem Nw.set1 (h : Nw V X b1 b2 bw y hd ar c v l) (i : Nat) (x : Bool) : Nw V (X.setCell ⟨b1, i, none⟩ (.bool x)) b1 b2 bw y (upd hd i x) ar c v l :=
  ⟨h.nt.set1 i x, h.gv.setO (fun e => by have := (h.gv.lt _ e).1; have := h.nt.lt; omega) _ _⟩
theorem Nw.hang (h : Nw V X b1 b2 bw y hd ar c v l) (i x : Nat) : Nw V ((X.setCell ⟨b2, i, none⟩ (.int .i64 (x : Int))).setCell ⟨bw, i, none⟩ (.int .i64 (x : Int))) b1 b2 bw y hd (upd ar i (some x)) (upd c i x) v l :=
  ⟨((h.nt.set2 i x).setw i x).to (fun j _ => by have := congrFun (ov_upd ar i (some x)) j; exact this) fun _ _ => rfl, (h.gv.setO (fun e => by have := (h.gv.lt _ e).1; have := h.nt.lt; omega) _ _).setO (fun e => by have := (h.gv.lt _ e).1; have := h.nt.lt; omega) _ _⟩
theorem Nw.pop {p : Option Addr} {z cap : Nat} (h : Nw V X b1 b2 bw y hd ar c (.slice p (l.length + 1) cap) (l ++ [z])) : Nw V X b1 b2 bw y hd ar c (.slice p l.length cap) l := by
  have hg := h.gv
  rw [List.length_append] at hg
  exact ⟨h.nt, (hg.cut (Nat.le_succ _)).to fun i hi => lv_app hi⟩
end
set_option maxRecDepth 100000 in
set_option maxHeartbeats 8000000 in
theorem nest_any {W : World} {own : Nat → Nat} {B : Nat} {d : Wv} {y : Wm} {c : List Ic} (hW : Hid (Ws W own B d y y.m y.m y.m)) (hF : Hid (0 < y.m → Wf c y)) (hS : Hid (Sok y)) (hn : y.n ≤ 1000000) : Calls Tryd.prog 31 #[.pointer (some ⟨d.a, 0, none⟩)] W (NestP W y) := by
  have hmn := hS.out.mn
  have hmk := make_i y.m (by omega)
  have hmkb := make_b y.m (by omega)
  obtain ⟨l, c0, c1, c2, c3, -⟩ := hW.out.facts
  obtain ⟨p0, q0, e0, -⟩ := hW.out.pla.open
  rw [e0] at c0
  have HE0 := Lib.hid e0
  clear e0
  go_enter Tryd.func31, Tryd.ntmps31
  go_upto_region 2 with (fail)
  clear l c0 c1 c2 c3
  go_cut [4] from 22 to 26 (fun v X => N0Q W y.m v X)
  case first =>
    go_region
    all_goals (go_wp2_with fail; go_meet)
    all_goals (first
      | exact n0q_of rfl _ (W.heap.size + 1) (W.heap.size + 1 + 1) (by first | exact (at4 W _ _ _ _).2.1 | exact (at4 W _ _ _ _).2.2.1 | exact (at4 W _ _ _ _).2.2.2) (by first | exact (at4 W _ _ _ _).2.1 | exact (at4 W _ _ _ _).2.2.1 | exact (at4 W _ _ _ _).2.2.2) (by first | exact (at4 W _ _ _ _).2.1 | exact (at4 W _ _ _ _).2.2.1 | exact (at4 W _ _ _ _).2.2.2) (by omega) (by omega) (by omega)
      | exact n0q_of rfl _ (W.heap.size + 1 + 1) (W.heap.size + 1) (by first | exact (at4 W _ _ _ _).2.1 | exact (at4 W _ _ _ _).2.2.1 | exact (at4 W _ _ _ _).2.2.2) (by first | exact (at4 W _ _ _ _).2.1 | exact (at4 W _ _ _ _).2.2.1 | exact (at4 W _ _ _ _).2.2.2) (by first | exact (at4 W _ _ _ _).2.1 | exact (at4 W _ _ _ _).2.2.1 | exact (at4 W _ _ _ _).2.2.2) (by omega) (by omega) (by omega)
      | exact n0q_of rfl _ (W.heap.size + 1) (W.heap.size + 1 + 1 + 1) (by first | exact (at4 W _ _ _ _).2.1 | exact (at4 W _ _ _ _).2.2.1 | exact (at4 W _ _ _ _).2.2.2) (by first | exact (at4 W _ _ _ _).2.1 | exact (at4 W _ _ _ _).2.2.1 | exact (at4 W _ _ _ _).2.2.2) (by first | exact (at4 W _ _ _ _).2.1 | exact (at4 W _ _ _ _).2.2.1 | exact (at4 W _ _ _ _).2.2.2) (by omega) (by omega) (by omega)
      | exact n0q_of rfl _ (W.heap.size + 1 + 1 + 1) (W.heap.size + 1) (by first | exact (at4 W _ _ _ _).2.1 | exact (at4 W _ _ _ _).2.2.1 | exact (at4 W _ _ _ _).2.2.2) (by first | exact (at4 W _ _ _ _).2.1 | exact (at4 W _ _ _ _).2.2.1 | exact (at4 W _ _ _ _).2.2.2) (by first | exact (at4 W _ _ _ _).2.1 | exact (at4 W _ _ _ _).2.2.1 | exact (at4 W _ _ _ _).2.2.2) (by omega) (by omega) (by omega)
      | exact n0q_of rfl _ (W.heap.size + 1 + 1) (W.heap.size + 1 + 1 + 1) (by first | exact (at4 W _ _ _ _).2.1 | exact (at4 W _ _ _ _).2.2.1 | exact (at4 W _ _ _ _).2.2.2) (by first | exact (at4 W _ _ _ _).2.1 | exact (at4 W _ _ _ _).2.2.1 | exact (at4 W _ _ _ _).2.2.2) (by first | exact (at4 W _ _ _ _).2.1 | exact (at4 W _ _ _ _).2.2.1 | exact (at4 W _ _ _ _).2.2.2) (by omega) (by omega) (by omega)
      | exact n0q_of rfl _ (W.heap.size + 1 + 1 + 1) (W.heap.size + 1 + 1) (by first | exact (at4 W _ _ _ _).2.1 | exact (at4 W _ _ _ _).2.2.1 | exact (at4 W _ _ _ _).2.2.2) (by first | exact (at4 W _ _ _ _).2.1 | exact (at4 W _ _ _ _).2.2.1 | exact (at4 W _ _ _ _).2.2.2) (by first | exact (at4 W _ _ _ _).2.1 | exact (at4 W _ _ _ _).2.2.1 | exact (at4 W _ _ _ _).2.2.2) (by omega) (by omega) (by omega))
  case rest =>
    obtain ⟨tb, b1, b2, rfl, HN0⟩ := hcut
    obtain ⟨wa, rfl⟩ : ∃ wa : World, wa = wc := ⟨_, rfl⟩
    obtain ⟨bw, hbw⟩ : ∃ bw, wa.heap.size = bw := ⟨_, rfl⟩
    go_upto_region 4 with (fail)
    refine name_world ?_
    intro V hV
    have HNF : Hid (Nf W V tb b1 b2 bw y.m ∧ Nt V V b1 b2 bw y.m (fun _ => false) (fun _ => 0) (fun _ => 0)) := Lib.hid (by
      have h := HN0.out
      have t1 : tb < wa.heap.size := (Array.getElem?_eq_some_iff.1 h.blk).1
      have t2 := h.f1.lt
      have t3 := h.f2.lt
      have g := h.g
      rw [hV]
      refine ⟨⟨h.bel.alloc h.bel.size _, (Below.heap_alloc _ _ _ t1).trans h.blk, (Below.heap_alloc _ _ _ (by omega)).trans h.res, ⟨g.1, g.2.1, g.2.2, by omega⟩, (two_types h.f1 h.blk (by decide)).symm, (two_types h.f2 h.blk (by decide)).symm, by omega⟩, ⟨Ch.refl _ _, h.f1.alloc _, h.f2.alloc _, hbw ▸ fv_zero wa y.m, ⟨by simp; omega, by simp; omega, by simp; omega⟩, by omega⟩⟩)
    try rw [hbw]
    clear hV HN0 hbw
    go_wp2
    go_loopw [30] (fun a wr => ∃ v : Nat, a = .int .i64 v ∧ v ≤ y.m ∧ Hid (Nt V wr b1 b2 bw y.m (fun _ => false) (fun i => if i < v then -1 else 0) (fun i => if i < v then i else 0))) (fun a _ => y.m - (intOf a).toNat)
    case atStart => exact ⟨0, rfl, Nat.zero_le _, Lib.hid (HNF.out.2.to (fun i _ => by rw [if_neg (by omega)]) fun i _ => by rw [if_neg (by omega)])⟩
    case round =>
      obtain ⟨wo, rfl⟩ : ∃ wo : World, wo = wr := ⟨_, rfl⟩
      obtain ⟨v, rfl, hv, HR⟩ := hrel
      have HX := Lib.hid (HNF.out.1.ch HR.out.ch)
      by_cases hvm : v < y.m
      · obtain ⟨l, t0, t1⟩ := HX.out.facts
        obtain ⟨a1, a2, a3, a4, a5, a6⟩ := HR.out.at hvm
        have n2 := HR.out.n2
        have HA := Lib.hid ((HR.out.set2 v (-1)).setw v v)
        go_wp2
        go_roundw
        case rel => exact ⟨v + 1, by go_num, by omega, Lib.hid ((HA.out.like rfl rfl rfl rfl).to (fun i _ => congrFun (upd_next (fun _ => (-1 : Int)) 0 v) i) fun i _ => congrFun (upd_next (fun i => i) 0 v) i)⟩
        case measure => (simp [intOf]; try omega)
      · obtain hvm : v = y.m := by omega
        subst hvm
        have HNt : Hid (Nt V wo b1 b2 bw y.m (fun _ => false) (fun _ => -1) (fun i => i)) := Lib.hid (HR.out.to (fun i hi => by rw [if_pos hi]) fun i hi => by rw [if_pos hi])
        have HWo := Lib.hid (hW.out.stay HX.out.bel)
        clear HR
        go_upto_region 10 with (first
          | (go_at_call 28; ((with_reducible refine (near_any HWo hF hS hn).mono ?_); rintro e1 w1 ⟨bl, I, rfl, hi1, hi2, hi3, hb1⟩; have H1 := Lib.hid (And.intro hi2 hb1); have HW1 := Lib.hid (HWo.out.stay hb1); have HI1 := Lib.hid hi1; have HL1 : Hid (∀ v p, v < y.m → I v = some p → p < v) := Lib.hid hi2.lt; clear hi1 hi2 hi3 hb1))
          | (go_at_call 32; ((with_reducible refine (under_any HI1 HL1 (by omega)).mono ?_); rintro e2 w2 ⟨bt, bz, f, s, rfl, hf2, hs2, hr2, g1, g2, hb2⟩; have H2 := Lib.hid (And.intro hf2 (And.intro hs2 (And.intro hr2 (And.intro g1 (And.intro g2 hb2))))); have HW2 := Lib.hid (HW1.out.stay hb2); clear hf2 hs2 hr2 g1 g2 hb2))
          | (go_at_call 23; ((with_reducible refine (sources_any HW2 hS hn).mono ?_); rintro e3 w3 ⟨ba, bf, b9, b3, rfl, hs3, hb3, g1, g2, g3, g4⟩; have H3 := Lib.hid (And.intro hs3 (And.intro hb3 (And.intro g1 (And.intro g2 (And.intro g3 g4))))); clear hs3 hb3 g1 g2 g3 g4)))
        refine name_world ?_
        intro W9 hW9
        obtain ⟨t7, ht7⟩ : ∃ t7, w3.heap.size = t7 := ⟨_, rfl⟩
        have HB9 : Hid (Below w3.heap.size w3 W9 ∧ W9.heap[t7]? = some (.cells #[.slice (some ⟨bt, 0, none⟩) y.m y.m, .slice (some ⟨bz, 0, none⟩) y.m y.m] 56 (0, 0))) := Lib.hid (by
          rw [hW9, ← ht7]
          exact ⟨below1 _ _, heap_alloc_new w3 _⟩)
        have HBo : Hid (Below wo.heap.size wo W9) := Lib.hid (((H1.out.2.trans (H2.out.2.2.2.2.2.mono H1.out.2.size)).trans (H3.out.2.1.mono (Nat.le_trans H1.out.2.size H2.out.2.2.2.2.2.size))).trans (HB9.out.1.mono (Nat.le_trans (Nat.le_trans H1.out.2.size H2.out.2.2.2.2.2.size) H3.out.2.1.size)))
        have HR2 : Hid (Nr2 W9 wo.heap.size t7 bt bz ba bf b9 b3 y f s) := Lib.hid (by
          obtain ⟨q1, q2, q3, q4, q5, q6⟩ := H2.out
          obtain ⟨r1, r2, r3, r4, r5, r6⟩ := H3.out
          have z1 := H1.out.2.size
          have z2 := q6.size
          have z3 := r2.size
          have hb23 : Below w2.heap.size w2 W9 := r2.trans (HB9.out.1.mono r2.size)
          exact ⟨HB9.out.2, q1.stay hb23, q2.stay hb23, r1.stay HB9.out.1, by omega, by omega, by omega, by omega, by omega, by omega, by omega⟩)
        have HNf9 : Hid (Nf W W9 tb b1 b2 bw y.m ∧ Nt W9 W9 b1 b2 bw y.m (fun _ => false) (fun _ => -1) (fun i => i) ∧ b1 < wo.heap.size ∧ b2 < wo.heap.size ∧ bw < wo.heap.size) := Lib.hid (by
          have h0 := HNt.out
          have h1 := h0.stay HBo.out
          have g1 := h0.f1.lt
          have g2 := h0.f2.lt
          have g3 := h0.fw.lt
          have hz := HBo.out.size
          refine ⟨HNF.out.1.ch h1.ch, ⟨Ch.refl _ _, h1.f1, h1.f2, h1.fw, ⟨by omega, by omega, by omega⟩, h1.n2⟩, g1, g2, g3⟩)
        have HRow : Hid (Row y.m I f s ∧ Idoms y I) := Lib.hid ⟨H2.out.2.2.1, H1.out.1⟩
        rw [ht7]
        clear hW9 ht7 HB9 HBo H1 H2 H3 HW1 HW2 HWo HI1 HL1 HNt HX HNF
        go_wp2
        go_loopw [9] (fun a wr => ∃ (n : Nat) (hd : Nat → Bool) (ar : Nat → Option Nat) (cc : Nat → Nat), a = .int .i64 ((n : Int) - 1) ∧ n ≤ y.m ∧ Hid (Nt W9 wr b1 b2 bw y.m hd (fun v => ov (ar v)) cc ∧ Lps y.m y.E ar n ∧ Who y.m ar cc ∧ ∀ h, n ≤ h → h < y.m → (hd h = true ↔ Hd y.E h))) (fun a _ => (intOf a + 1).toNat)
        case atStart => exact ⟨y.m, fun _ => false, fun _ => none, fun i => i, rfl, Nat.le_refl _, Lib.hid ⟨HNf9.out.2.1, Lps.start fun _ _ => rfl, Who.start (fun _ _ => rfl) fun _ _ => rfl, fun h h1 h2 => by omega⟩⟩
        case round =>
          obtain ⟨wq, rfl⟩ : ∃ wo : World, wo = wr := ⟨_, rfl⟩
          obtain ⟨n, hd, ar, cc, rfl, hnm, HR⟩ := hrel
          have HX := Lib.hid (HNf9.out.1.ch HR.out.1.ch)
          by_cases hn0 : n = 0
          · subst hn0
            obtain ⟨a0, a1, a2⟩ := HX.out.facts
            have r0 : wq.cell? ⟨W.heap.size, 0, none⟩ = some (.slice none 0 0) := by rw [cell_of_row _ _ _ _ _ _ HX.out.res]; rfl
            have r1 : wq.cell? ⟨W.heap.size, 1, none⟩ = some (.slice none 0 0) := by rw [cell_of_row _ _ _ _ _ _ HX.out.res]; rfl
            have z0 := frozen_of_row _ _ 0 _ _ HX.out.res
            have z1 := frozen_of_row _ _ 1 _ _ HX.out.res
            have HWW : Hid (∀ x z, FV 4 ((wq.setCell ⟨W.heap.size, 0, none⟩ x).setCell ⟨W.heap.size, 1, none⟩ z) b1 y.m (bv hd) ∧ FV 3 ((wq.setCell ⟨W.heap.size, 0, none⟩ x).setCell ⟨W.heap.size, 1, none⟩ z) b2 y.m (iv fun v => ov (ar v)) ∧ Below W.heap.size W ((wq.setCell ⟨W.heap.size, 0, none⟩ x).setCell ⟨W.heap.size, 1, none⟩ z)) := Lib.hid fun x z => ⟨(HR.out.1.f1.setO (Nat.ne_of_gt HX.out.g.2.1) _ _).setO (Nat.ne_of_gt HX.out.g.2.1) _ _, (HR.out.1.f2.setO (Nat.ne_of_gt HX.out.g.2.2.1) _ _).setO (Nat.ne_of_gt HX.out.g.2.2.1) _ _, (HX.out.bel.setCell (p := ⟨W.heap.size, 0, none⟩) (Nat.le_refl _) _).setCell (p := ⟨W.heap.size, 1, none⟩) (Nat.le_refl _) _⟩
            go_wp2
            refine bodyPost_ret (results_nest (n := W.heap.size) (v0 := .slice (some ⟨b1, 0, none⟩) y.m y.m) (v1 := .slice (some ⟨b2, 0, none⟩) y.m y.m) Tryd.results31 _ rfl ?_ ?_) rfl ?_
            · exact (World.cell?_setCell_other _ ⟨W.heap.size, 1, none⟩ ⟨W.heap.size, 0, none⟩ _ (fun e => by have := congrArg Addr.off e; simp at this)).trans (World.cell?_setCell_same _ _ _ r0)
            · exact World.cell?_setCell_same _ _ _ ((World.cell?_setCell_other _ ⟨W.heap.size, 0, none⟩ ⟨W.heap.size, 1, none⟩ _ (fun e => by have := congrArg Addr.off e; simp at this)).trans r1)
            exact ⟨b1, b2, hd, ar, rfl, (HWW.out _ _).1, (HWW.out _ _).2.1, fun h hh => HR.out.2.2.2 h (Nat.zero_le _) hh, HR.out.2.1, Nat.le_of_lt HX.out.g.2.1, Nat.le_of_lt HX.out.g.2.2.1, (HWW.out _ _).2.2⟩
          · obtain ⟨h, rfl⟩ : ∃ v, n = v + 1 := ⟨n - 1, by omega⟩
            have hhm : h < y.m := by omega
            have HF1 : Hid (Wf c y) := Lib.hid (hF.out (by omega))
            have e0 : ((h + 1 : Nat) : Int) - 1 = (h : Int) := by omega
            rw [e0]
            obtain ⟨l, c0, c1, c2, c3, -⟩ := (hW.out.stay HX.out.bel).facts
            rw [HE0.out] at c0
            obtain ⟨p0', q0', e0', hp0⟩ := (hW.out.stay HX.out.bel).pla.open
            rw [HE0.out] at e0'
            cases e0'
            obtain ⟨g0, rfl, -, hg0l, -, -, -, hg0c⟩ := hp0.resolve_left (fun e => by omega)
            have i0 := hg0c h hhm
            simp only [iv] at i0
            have hpl := (HF1.out.nb.pl h hhm).1
            have hyn := HF1.out.nb.n
            have hplm : y.pl h < y.n := by omega
            clear hg0c hpl hyn hp0
            obtain ⟨L, hLe⟩ : ∃ L, y.src (y.pl h) = L := ⟨_, rfl⟩
            have hLn : L.length ≤ y.n := hLe ▸ src_most y (y.pl h)
            have HLE := Lib.hid hLe
            have HSr := Lib.hid (HR2.out.ch HR.out.1.ch fun b e => by have := HNf9.out.2.2; omega)
            have HFr : Hid (Calls Tryd.prog 39 #[.int .i64 (y.pl h : Int), .pointer (some ⟨b9, 0, none⟩), .pointer (some ⟨b3, 0, none⟩)] wq (FromP wq ba (y.F (y.pl h)) L)) := Lib.hid (hLe ▸ from_any (Lib.hid HSr.out.sr) hn hplm)
            clear hLe
            obtain ⟨o, ho⟩ : ∃ o, y.F (y.pl h) = o := ⟨_, rfl⟩
            have HOe := Lib.hid ho
            rw [ho] at HFr
            clear ho
            go_wp2_with (go_at_call 39; ((with_reducible refine HFr.out.mono ?_); rintro e4 w4 ⟨pL, cL, rfl, hL, qL, rfl⟩; have HL := Lib.hid hL; clear hL))
            clear l c0 c1 c2 c3 i0
            go_loopw [10, 63] (fun a10 a63 wr => ∃ (j : Nat) (l : List Nat) (p : Option Addr) (cap : Nat), a10 = .slice p l.length cap ∧ a63 = .int .i64 j ∧ j ≤ L.length ∧ Hid (Nw W9 wr b1 b2 bw y hd ar cc (.slice p l.length cap) l ∧ Bk y h j L l)) (fun _ a63 _ => L.length - (intOf a63).toNat)
            case atStart => exact ⟨0, [], none, 0, rfl, rfl, Nat.zero_le _, Lib.hid ⟨⟨HR.out.1.like rfl rfl rfl rfl, GV.nil _ _ _ _⟩, Bk.start y h L⟩⟩
            case round =>
              obtain ⟨wi, rfl⟩ : ∃ wo : World, wo = wr := ⟨_, rfl⟩
              obtain ⟨j, l, p, cap, rfl, rfl, hj, HK⟩ := hrel
              by_cases hlt : j < L.length
              · obtain ⟨at_, hat⟩ : ∃ at_, L[j]? = some at_ := ⟨_, List.getElem?_eq_getElem hlt⟩
                obtain ⟨u, hu, huv⟩ := (src_edge HF1.out hhm).1 (by rw [HLE.out]; exact List.mem_of_getElem? hat)
                have HNfi := Lib.hid (HNf9.out.1.ch HK.out.1.nt.ch)
                have HSri := Lib.hid (HR2.out.ch HK.out.1.nt.ch fun b e => by have := HNf9.out.2.2; omega)
                have hrow := HSri.out.sr.row (q := j) hplm (by rw [HLE.out]; exact hat)
                rw [HOe.out] at hrow
                obtain ⟨lba, irow⟩ := hrow
                have hpL := HL.out j hlt
                subst hpL
                have hum := huv.1
                have hatn : at_ < y.n := by
                  have := HF1.out.nb.num _ _ hu
                  rw [HF1.out.nb.n, ← this.2]
                  exact (HF1.out.nb.pl u this.1).1
                obtain ⟨l', c0, c1, c2, c3, -⟩ := (hW.out.stay HNfi.out.bel).facts
                have iN := (hW.out.stay HNfi.out.bel).num.cell hatn
                simp only [iv, hu, ov] at iN
                obtain ⟨lt7, j0, j1⟩ := HSri.out.facts
                have HU := Lib.hid (And.intro hat (And.intro hu huv))
                have hbd : ∀ i, i < y.m → f i ≤ 1000000 ∧ s i ≤ 1000000 := fun i hi => by
                  have := HRow.out.1.in_all i hi
                  omega
                have HHs : Hid (∃ b, (b = true ↔ Dom y.E h u) ∧ Calls Tryd.prog 43 #[.agg #[.slice (some ⟨bt, 0, none⟩) y.m y.m, .slice (some ⟨bz, 0, none⟩) y.m y.m], .int .i64 h, .int .i64 u] wi fun e w' => e = .returned (.bool b) ∧ Below wi.heap.size wi w') := Lib.hid (by
                  have hq := hasT_any (Lib.hid HSri.out.fi) (Lib.hid HSri.out.si) hhm hum (by omega) hbd
                  have hd : (f h ≤ f u ∧ f u < f h + s h) ↔ Dom y.E h u := (HRow.out.1.has hhm hum).trans (HRow.out.2.dom HF1.out.dfs h u hum)
                  by_cases hD : Dom y.E h u
                  · refine ⟨true, by simp [hD], hq.mono ?_⟩
                    rintro e w' ⟨b, rfl, hb, hbl⟩
                    exact ⟨by rw [hb.2 (hd.2 hD)], hbl⟩
                  · refine ⟨false, by simp [hD], hq.mono ?_⟩
                    rintro e w' ⟨b, rfl, hb, hbl⟩
                    refine ⟨?_, hbl⟩
                    cases b with
                    | false => rfl
                    | true => exact absurd (hd.1 (hb.1 rfl)) hD)
                obtain ⟨bb, hbb, hcall⟩ := HHs.out
                have HC := Lib.hid hcall
                have hll : l.length ≤ j := HK.out.2.1
                have hz9 := HK.out.1.nt.ch.size
                obtain ⟨i0, hi, hz0, hz1, hz2⟩ := info_parts info_int
                clear hat hu huv hcall HHs hbd
                cases bb with
                | true =>
                  have HD := Lib.hid (hbb.1 rfl)
                  clear hbb
                  go_wp2_with (first
                    | (go_at_call 43; ((with_reducible refine HC.out.mono ?_); rintro e5 w5 ⟨rfl, hb5⟩; have HV5 := Lib.hid (HK.out.1.stay hb5); have hz5 := hb5.size; clear hb5))
                    | (at_builtin; refine wpList_append_own_at _ rfl _ _ 34 rfl W9.heap.size 3 i0 (.int .i64 0) 1 8 Tryd.underlying34 hi hz0 hz1 hz2 rfl (by decide) (.slice p l.length cap) l.length (rw_ l.length (lv l)) rfl (World.ownsRow.alloc HV5.out.gv _) ⟨w5.heap.size, 0, none⟩ 1 1 [.int .i64 (u : Int)] rfl rfl (cell_one_new _ _ _) (fun u hu => by simp at hu; subst hu; rfl) (by unfold maxLen; omega) (by omega) (by simp; omega) ?_; intro v8 w8 hown hgrow _ hats; have HG8 : Hid (GV 3 W9.heap.size w8 v8 (l.length + 1) (upd (lv l) l.length (.int .i64 (u : Int)))) := Lib.hid (GV.more hown); have HA8 : Hid (Apd w5 w8 (.slice p l.length cap) v8) := Lib.hid (apd_of hgrow hats); clear hown hgrow hats))
                  obtain ⟨q8, cp8, rfl, -⟩ := HG8.out.open
                  go_roundw
                  case rel => exact ⟨j + 1, l ++ [u], q8, cp8, by rw [List.length_append]; rfl, by go_num, by omega, Lib.hid ⟨by have := HV5.out.apd HA8.out HG8.out; rw [List.length_append]; exact this, HK.out.2.yes HU.out.1 HU.out.2.1 HD.out⟩⟩
                  case measure => (simp [intOf]; try omega)
                | false =>
                  have HD : Hid (¬ Dom y.E h u) := Lib.hid fun k => by have := hbb.2 k; cases this
                  clear hbb
                  go_wp2_with (go_at_call 43; ((with_reducible refine HC.out.mono ?_); rintro e5 w5 ⟨rfl, hb5⟩; have HV5 := Lib.hid (HK.out.1.stay hb5); clear hb5))
                  go_roundw
                  case rel => exact ⟨j + 1, l, p, cap, rfl, by go_num, by omega, Lib.hid ⟨HV5.out, HK.out.2.no HU.out.1 HU.out.2.1 HD.out⟩⟩
                  case measure => (simp [intOf]; try omega)
              · obtain rfl : j = L.length := by omega
                have HNfi := Lib.hid (HNf9.out.1.ch HK.out.1.nt.ch)
                obtain ⟨l', t0, t1⟩ := HNfi.out.facts
                obtain ⟨k1, -, -, k4, -, -⟩ := HK.out.1.nt.at hhm
                go_upto_region 22 with (fail)
                refine name_world ?_
                intro W21 hW21
                have HW21 : Hid (Nw W9 W21 b1 b2 bw y (upd hd h (decide (0 < l.length))) ar cc (.slice p l.length cap) l) := Lib.hid (by
                  rw [hW21]
                  exact HK.out.1.set1 h _)
                have HBk := Lib.hid HK.out.2
                have HN21 : Hid (Nst y.m y.E ar h (fun z => z ∈ l) ∧ Who y.m ar cc) := Lib.hid ⟨HR.out.2.1.begin (fun z => HBk.out.all HF1.out hhm HLE.out z) hhm HF1.out.dfs, HR.out.2.2.1⟩
                have HHd : Hid (∀ g, h ≤ g → g < y.m → (upd hd h (decide (0 < l.length)) g = true ↔ Hd y.E g)) := Lib.hid fun g h1 h2 => by
                  by_cases e : g = h
                  · rw [e, upd_at, decide_eq_true_eq]
                    exact HBk.out.hd HF1.out hhm HLE.out
                  · rw [upd_of e]
                    exact HR.out.2.2.2 g (by omega) h2
                obtain ⟨hd', hhd'⟩ : ∃ hd', upd hd h (decide (0 < l.length)) = hd' := ⟨_, rfl⟩
                rw [hhd'] at HW21 HHd
                have hll : l.length ≤ L.length := HBk.out.1
                have hfu : tops y.m ar * (y.n + 1) + l.length ≤ y.m * (y.n + 1) + y.n := by
                  have := Nat.mul_le_mul_right (y.n + 1) (tops_le y.m ar)
                  omega
                have hfm : y.m * (y.n + 1) + y.n ≤ 1000002000000 := by
                  have := Nat.mul_le_mul (show y.m ≤ 1000000 by omega) (show y.n + 1 ≤ 1000001 by omega)
                  omega
                have HFu := Lib.hid (And.intro hfu hfm)
                clear hW21 hhd' hfu hfm hll HK HR HX HNfi l' t0 t1 k1 k4 HL HFr HLE HOe HSr
                go_loopg [10] (y.m * (y.n + 1) + y.n) (fun gk a10 wr => ∃ (l : List Nat) (ar : Nat → Option Nat) (cc : Nat → Nat) (p : Option Addr) (cap : Nat), a10 = .slice p l.length cap ∧ Hid (tops y.m ar * (y.n + 1) + l.length ≤ gk ∧ gk ≤ 1000002000000) ∧ Hid (Nw W9 wr b1 b2 bw y hd' ar cc (.slice p l.length cap) l ∧ Nst y.m y.E ar h (fun z => z ∈ l) ∧ Who y.m ar cc))
                case atStart => exact ⟨l, ar, cc, p, cap, rfl, HFu, Lib.hid ⟨HW21.out, HN21.out.1, HN21.out.2⟩⟩
                case round =>
                  clear HFu HW21 HN21 HBk
                  obtain ⟨wj, rfl⟩ : ∃ wo : World, wo = wr := ⟨_, rfl⟩
                  obtain ⟨gO, rfl⟩ : ∃ gO, gO = gk := ⟨_, rfl⟩
                  obtain ⟨l1, ar, cc, p, cap, rfl, HG, HK⟩ := hrel
                  rcases List.eq_nil_or_concat l1 with rfl | ⟨l0, z, rfl⟩
                  · go_wp2
                    go_roundw
                    case rel => exact ⟨h, hd', ar, cc, rfl, by omega, Lib.hid ⟨HK.out.1.nt, HK.out.2.1.lps HF1.out.dfs (fun z k => by cases k), HK.out.2.2, HHd.out⟩⟩
                    case measure => (simp [intOf]; try omega)
                  · rw [List.concat_eq_append] at HK HG ⊢
                    have hzm : z < y.m := ((HK.out.2.1.wait z (by simp)).lt HF1.out.dfs).1
                    have hlen : (l0 ++ [z]).length = l0.length + 1 := by simp
                    rw [hlen] at HK HG ⊢
                    have hg := HK.out.1.gv
                    rw [hlen] at hg
                    obtain ⟨pp', cap', hpe, hpo⟩ := hg.open
                    cases hpe
                    obtain ⟨gw, rfl, -, hgwl, -, hpcap, -, hpc⟩ := hpo.resolve_left (fun e => by omega)
                    have ip := hpc l0.length (by omega)
                    rw [lv_last] at ip
                    have HI : Hid ((((l0.length + 1 : Nat) : Int) - 1).toNat = l0.length) := Lib.hid (by omega)
                    have hcap : l0.length ≤ 1000002000000 := by have := HG.out; omega
                    have HCt := Lib.hid (counts_any (Lib.hid HK.out.1.nt.fw) (Lib.hid HK.out.2.2) hzm (by omega))
                    clear hg hpc hpo hlen
                    go_upto_region 25 with (go_at_call 44; ((with_reducible refine HCt.out.mono ?_); rintro e5 w5 ⟨v, c5, rfl, hf5, hw5, hu5, hr5, hv5, hc5⟩; have HV5 := Lib.hid (HK.out.1.found hc5 hf5); have HU5 := Lib.hid (And.intro hw5 (And.intro hu5 hr5)); clear hf5 hw5 hu5 hr5 hc5))
                    by_cases hvh : v = h
                    · subst hvh
                      go_wp2
                      go_roundg (gO - 1)
                      case rel => exact ⟨l0, ar, c5, some ⟨gw, 0, none⟩, cap, rfl, Lib.hid (by have := HG.out; omega), Lib.hid ⟨HV5.out.pop.like rfl rfl rfl rfl, nst_drop HK.out.2.1 HU5.out.2.1, HU5.out.1⟩⟩
                      case measure => have := HG.out; omega
                    · have hvi : ¬ ((v : Int) = (h : Int)) := by omega
                      have HNf5 := Lib.hid (HNf9.out.1.ch HV5.out.nt.ch)
                      obtain ⟨l', t0, t1⟩ := HNf5.out.facts
                      obtain ⟨-, a2, a3, -, a5, a6⟩ := HV5.out.nt.at hv5
                      have n2 := HV5.out.nt.n2
                      have HA := Lib.hid (HV5.out.pop.hang v h)
                      go_upto_region 27 with (fail)
                      refine name_world ?_
                      intro W6 hW6
                      have HV6 : Hid (Nw W9 W6 b1 b2 bw y hd' (upd ar v (some h)) (upd c5 v h) (.slice (some ⟨gw, 0, none⟩) l0.length cap) l0) := Lib.hid (by rw [hW6]; exact HA.out)
                      clear hW6 HA l' t0 t1 a2 a3 a5 a6
                      have HNf6 := Lib.hid (HNf9.out.1.ch HV6.out.nt.ch)
                      obtain ⟨l', c0, c1, c2, c3, -⟩ := (hW.out.stay HNf6.out.bel).facts
                      rw [HE0.out] at c0
                      obtain ⟨p0', q0', e0', hp0⟩ := (hW.out.stay HNf6.out.bel).pla.open
                      rw [HE0.out] at e0'
                      cases e0'
                      obtain ⟨g0', e0', -, hg0l', -, -, -, hg0c⟩ := hp0.resolve_left (fun e => by omega)
                      cases e0'
                      have i0 := hg0c v hv5
                      simp only [iv] at i0
                      have hpl := (HF1.out.nb.pl v hv5).1
                      have hyn := HF1.out.nb.n
                      have hplm : y.pl v < y.n := by omega
                      clear hg0c hpl hyn hp0
                      obtain ⟨L, hLe⟩ : ∃ L, y.src (y.pl v) = L := ⟨_, rfl⟩
                      have hLn : L.length ≤ y.n := hLe ▸ src_most y (y.pl v)
                      have HLE := Lib.hid hLe
                      have HSr := Lib.hid (HR2.out.ch HV6.out.nt.ch fun b e => by have := HNf9.out.2.2; omega)
                      have HFr : Hid (Calls Tryd.prog 39 #[.int .i64 (y.pl v : Int), .pointer (some ⟨b9, 0, none⟩), .pointer (some ⟨b3, 0, none⟩)] W6 (FromP W6 ba (y.F (y.pl v)) L)) := Lib.hid (hLe ▸ from_any (Lib.hid HSr.out.sr) hn hplm)
                      clear hLe
                      obtain ⟨o, ho⟩ : ∃ o, y.F (y.pl v) = o := ⟨_, rfl⟩
                      have HOe := Lib.hid ho
                      rw [ho] at HFr
                      clear ho
                      go_wp2_with (go_at_call 39; ((with_reducible refine HFr.out.mono ?_); rintro e4 w4 ⟨pL, cL, rfl, hL, qL, rfl⟩; have HL := Lib.hid hL; clear hL))
                      clear l' c0 c1 c2 c3 i0
                      go_loopw [10, 128] (fun a10 a63 wr => ∃ (j : Nat) (l : List Nat) (p : Option Addr) (cap : Nat), a10 = .slice p l.length cap ∧ a63 = .int .i64 j ∧ j ≤ L.length ∧ Hid (Nw W9 wr b1 b2 bw y hd' (upd ar v (some h)) (upd c5 v h) (.slice p l.length cap) l ∧ Mo y j L l0 l)) (fun _ a63 _ => L.length - (intOf a63).toNat)
                      case atStart => exact ⟨0, l0, some ⟨gw, 0, none⟩, cap, rfl, rfl, Nat.zero_le _, Lib.hid ⟨HV6.out.like rfl rfl rfl rfl, Mo.start y L l0⟩⟩
                      case round =>
                        obtain ⟨wi, rfl⟩ : ∃ wo : World, wo = wr := ⟨_, rfl⟩
                        obtain ⟨j, l, p, cap', rfl, rfl, hj, HM⟩ := hrel
                        by_cases hlt : j < L.length
                        · obtain ⟨at_, hat⟩ : ∃ at_, L[j]? = some at_ := ⟨_, List.getElem?_eq_getElem hlt⟩
                          obtain ⟨u, hu, huv⟩ := (src_edge HF1.out hv5).1 (by rw [HLE.out]; exact List.mem_of_getElem? hat)
                          have HNfi := Lib.hid (HNf9.out.1.ch HM.out.1.nt.ch)
                          have HSri := Lib.hid (HR2.out.ch HM.out.1.nt.ch fun b e => by have := HNf9.out.2.2; omega)
                          have hrow := HSri.out.sr.row (q := j) hplm (by rw [HLE.out]; exact hat)
                          rw [HOe.out] at hrow
                          obtain ⟨lba, irow⟩ := hrow
                          have hpL := HL.out j hlt
                          subst hpL
                          have hatn : at_ < y.n := by
                            have := HF1.out.nb.num _ _ hu
                            rw [HF1.out.nb.n, ← this.2]
                            exact (HF1.out.nb.pl u this.1).1
                          obtain ⟨l', c0, c1, c2, c3, -⟩ := (hW.out.stay HNfi.out.bel).facts
                          have iN := (hW.out.stay HNfi.out.bel).num.cell hatn
                          simp only [iv, hu, ov] at iN
                          have HU := Lib.hid (And.intro hat (And.intro hu huv))
                          have hll : l.length = l0.length + j := HM.out.2.1
                          have hz9 := HM.out.1.nt.ch.size
                          obtain ⟨i0, hi, hz0, hz1, hz2⟩ := info_parts info_int
                          clear hat hu huv
                          go_wp2_with (at_builtin; refine wpList_append_own_at _ rfl _ _ 34 rfl W9.heap.size 3 i0 (.int .i64 0) 1 8 Tryd.underlying34 hi hz0 hz1 hz2 rfl (by decide) (.slice p l.length cap') l.length (rw_ l.length (lv l)) rfl (World.ownsRow.alloc HM.out.1.gv _) ⟨wi.heap.size, 0, none⟩ 1 1 [.int .i64 (u : Int)] rfl rfl (cell_one_new _ _ _) (fun u hu => by simp at hu; subst hu; rfl) (by unfold maxLen; omega) (by omega) (by simp; omega) ?_; intro v8 w8 hown hgrow _ hats; have HG8 : Hid (GV 3 W9.heap.size w8 v8 (l.length + 1) (upd (lv l) l.length (.int .i64 (u : Int)))) := Lib.hid (GV.more hown); have HA8 : Hid (Apd wi w8 (.slice p l.length cap') v8) := Lib.hid (apd_of hgrow hats); clear hown hgrow hats)
                          obtain ⟨q8, cp8, rfl, -⟩ := HG8.out.open
                          go_roundw
                          case rel => exact ⟨j + 1, l ++ [u], q8, cp8, by rw [List.length_append]; rfl, by go_num, by omega, Lib.hid ⟨by have := HM.out.1.apd HA8.out HG8.out; rw [List.length_append]; exact this, HM.out.2.next HU.out.1 HU.out.2.1⟩⟩
                          case measure => (simp [intOf]; try omega)
                        · obtain rfl : j = L.length := by omega
                          have HN' := Lib.hid (nst_put HF1.out.dfs HK.out.2.1 HU5.out.1 HU5.out.2.1 HU5.out.2.2 hv5 hvh (fun x => HM.out.2.all HF1.out hv5 HLE.out x))
                          have hll : l.length = l0.length + L.length := HM.out.2.1
                          have hfu : tops y.m (upd ar v (some h)) * (y.n + 1) + l.length ≤ gO - 1 := by
                            have h1 := HN'.out.2.2
                            have h2 := HG.out.1
                            rw [← h1, Nat.add_mul] at h2
                            omega
                          go_wp2
                          go_roundg (gO - 1)
                          case rel => exact ⟨l, _, _, p, cap', rfl, Lib.hid ⟨hfu, by have := HG.out.2; omega⟩, Lib.hid ⟨HM.out.1, HN'.out.1, HN'.out.2.1⟩⟩
                          case measure => have := HG.out; omega
end Go.Proofs.YtacgfjcdfgdpjaaDoor
