/- What is climbed: graph.newClimb. -/
import Derived.Test.YtacgfjcdfgdpjaaDoorGm
import Derived.LoopTactic
import Derived.RegionTactic
import Derived.ChangeAlike
import Derived.BigRegion
import Derived.Deep.CutRange
import Derived.Deep.CutBlock
namespace Go.Proofs.YtacgfjcdfgdpjaaDoor
set_option linter.unusedSimpArgs false
set_option linter.unusedVariables false
open Go Go.RowKit

/-- A climb's blocks. -/
structure Kn where
  kb : Nat
  s : Nat
  u : Nat
  b : Nat
/-- A climb in memory, of m numbers. -/
structure Kl (W : World) (k : Kn) (m : Nat) (S U B : Nat → Int) : Prop where
  blk : W.heap[k.kb]? = some (.cells #[.slice (some ⟨k.s, 0, none⟩) m m, .slice (some ⟨k.u, 0, none⟩) m m, .slice (some ⟨k.b, 0, none⟩) m m] 66 (0, 0))
  sem : FV 3 W k.s m (iv S)
  up : FV 3 W k.u m (iv U)
  best : FV 3 W k.b m (iv B)
  su : k.s ≠ k.u
  sb : k.s ≠ k.b
  ub : k.u ≠ k.b
section
variable {W X : World} {k : Kn} {m : Nat} {S U B S' U' B' : Nat → Int}
theorem Kl.facts (h : Kl W k m S U B) : k.kb < W.heap.size ∧ W.cell? ⟨k.kb, 0, none⟩ = some (.slice (some ⟨k.s, 0, none⟩) m m) ∧ W.cell? ⟨k.kb, 1, none⟩ = some (.slice (some ⟨k.u, 0, none⟩) m m) ∧ W.cell? ⟨k.kb, 2, none⟩ = some (.slice (some ⟨k.b, 0, none⟩) m m) ∧ True := by
  refine ⟨(Array.getElem?_eq_some_iff.1 h.blk).1, ?_, ?_, ?_, trivial⟩ <;> rw [cell_of_row _ _ _ _ _ _ h.blk] <;> rfl
theorem two_types {W : World} {a b : Nat} {c d : Array Value} {T R : TypeId} {f g : Nat × Nat} (h : W.heap[a]? = some (.cells c T f)) (k : W.heap[b]? = some (.cells d R g)) (hn : T ≠ R) : a ≠ b := by
  rintro rfl
  rw [h] at k
  cases k
  exact hn rfl
theorem Kl.ne (h : Kl W k m S U B) : k.s ≠ k.kb ∧ k.u ≠ k.kb ∧ k.b ≠ k.kb := ⟨two_types h.sem h.blk (by decide), two_types h.up h.blk (by decide), two_types h.best h.blk (by decide)⟩
theorem Kl.to (h : Kl W k m S U B) (h1 : ∀ i, i < m → S i = S' i) (h2 : ∀ i, i < m → U i = U' i) (h3 : ∀ i, i < m → B i = B' i) : Kl W k m S' U' B' :=
  ⟨h.blk, h.sem.to fun i hi => by rw [iv, iv, h1 i hi], h.up.to fun i hi => by rw [iv, iv, h2 i hi], h.best.to fun i hi => by rw [iv, iv, h3 i hi], h.su, h.sb, h.ub⟩
theorem Kl.setS (h : Kl W k m S U B) (i : Nat) (x : Int) : Kl (W.setCell ⟨k.s, i, none⟩ (.int .i64 x)) k m (upd S i x) U B :=
  ⟨(heap_setCell_other W ⟨k.s, i, none⟩ k.kb _ h.ne.1.symm).trans h.blk, iv_upd S i x ▸ h.sem.set i _, h.up.setO h.su.symm _ _, h.best.setO h.sb.symm _ _, h.su, h.sb, h.ub⟩
theorem Kl.setU (h : Kl W k m S U B) (i : Nat) (x : Int) : Kl (W.setCell ⟨k.u, i, none⟩ (.int .i64 x)) k m S (upd U i x) B :=
  ⟨(heap_setCell_other W ⟨k.u, i, none⟩ k.kb _ h.ne.2.1.symm).trans h.blk, h.sem.setO h.su _ _, iv_upd U i x ▸ h.up.set i _, h.best.setO h.ub.symm _ _, h.su, h.sb, h.ub⟩
theorem Kl.setB (h : Kl W k m S U B) (i : Nat) (x : Int) : Kl (W.setCell ⟨k.b, i, none⟩ (.int .i64 x)) k m S U (upd B i x) :=
  ⟨(heap_setCell_other W ⟨k.b, i, none⟩ k.kb _ h.ne.2.2.symm).trans h.blk, h.sem.setO h.sb _ _, h.up.setO h.ub _ _, iv_upd B i x ▸ h.best.set i _, h.su, h.sb, h.ub⟩
/-- The climb's blocks. -/
def Kn.Own (k : Kn) : Nat → Prop := fun b => b = k.kb ∨ b = k.s ∨ b = k.u ∨ b = k.b
theorem Kl.ch {S0 : Nat → Prop} (h : Kl W k m S U B) (hc : Ch S0 W X) (hn : ∀ b, k.Own b → ¬ S0 b) : Kl X k m S U B :=
  ⟨(hc.block _ h.facts.1 (hn _ (.inl rfl))).trans h.blk, h.sem.ch hc (hn _ (.inr (.inl rfl))), h.up.ch hc (hn _ (.inr (.inr (.inl rfl)))), h.best.ch hc (hn _ (.inr (.inr (.inr rfl)))), h.su, h.sb, h.ub⟩
theorem Kl.stay (h : Kl W k m S U B) (hb : Below W.heap.size W X) : Kl X k m S U B := h.ch (S0 := fun _ => False) (.of hb) fun _ _ e => e
theorem Kl.like (h : Kl W k m S U B) (e : X.heap = W.heap) : Kl X k m S U B := ⟨by rw [e]; exact h.blk, h.sem.of_heap (by rw [e]), h.up.of_heap (by rw [e]), h.best.of_heap (by rw [e]), h.su, h.sb, h.ub⟩
theorem Kl.drew (h : Kl W k m S U B) : Kl W.drew k m S U B := ⟨h.blk, h.sem, h.up, h.best, h.su, h.sb, h.ub⟩
theorem Kl.drewN (h : Kl W k m S U B) (n : Nat) : Kl (W.drewN n) k m S U B := ⟨h.blk, h.sem, h.up, h.best, h.su, h.sb, h.ub⟩
theorem Kl.alloc (h : Kl W k m S U B) (o : Obj) : Kl (W.alloc o) k m S U B := h.stay (below1 W o)
theorem Kl.lt (h : Kl W k m S U B) : ∀ b, k.Own b → b < W.heap.size := by
  rintro b (rfl | rfl | rfl | rfl)
  · exact h.facts.1
  · exact h.sem.lt
  · exact h.up.lt
  · exact h.best.lt
theorem kl_made {s u b : Nat} (h1 : W.heap.size ≤ s) (h2 : s ≤ W.heap.size + 1 + 1) (h3 : W.heap.size ≤ u) (h4 : u ≤ W.heap.size + 1 + 1) (h5 : W.heap.size ≤ b) (h6 : b ≤ W.heap.size + 1 + 1) (n1 : s ≠ u) (n2 : s ≠ b) (n3 : u ≠ b) :
    ∃ k : Kn, Value.pointer (some ⟨W.heap.size + 1 + 1 + 1, 0, none⟩) = .pointer (some ⟨k.kb, 0, none⟩) ∧ Hid (Kl ((((W.alloc (.cells (rw_ m fun _ => .int .i64 0).toArray 3)).alloc (.cells (rw_ m fun _ => .int .i64 0).toArray 3)).alloc (.cells (rw_ m fun _ => .int .i64 0).toArray 3)).alloc (.cells #[.slice (some ⟨s, 0, none⟩) m m, .slice (some ⟨u, 0, none⟩) m m, .slice (some ⟨b, 0, none⟩) m m] 66)).drew k m (fun _ => 0) (fun _ => 0) (fun _ => 0) ∧ Below W.heap.size W ((((W.alloc (.cells (rw_ m fun _ => .int .i64 0).toArray 3)).alloc (.cells (rw_ m fun _ => .int .i64 0).toArray 3)).alloc (.cells (rw_ m fun _ => .int .i64 0).toArray 3)).alloc (.cells #[.slice (some ⟨s, 0, none⟩) m m, .slice (some ⟨u, 0, none⟩) m m, .slice (some ⟨b, 0, none⟩) m m] 66)).drew ∧ W.heap.size ≤ k.kb ∧ W.heap.size ≤ k.s ∧ W.heap.size ≤ k.u ∧ W.heap.size ≤ k.b) := by
  have z : ∀ x : Nat, W.heap.size ≤ x → x ≤ W.heap.size + 1 + 1 → FV 3 ((((W.alloc (.cells (rw_ m fun _ => .int .i64 0).toArray 3)).alloc (.cells (rw_ m fun _ => .int .i64 0).toArray 3)).alloc (.cells (rw_ m fun _ => .int .i64 0).toArray 3)).alloc (.cells #[.slice (some ⟨s, 0, none⟩) m m, .slice (some ⟨u, 0, none⟩) m m, .slice (some ⟨b, 0, none⟩) m m] 66)) x m (iv fun _ => 0) := by
    intro x a1 a2
    have : x = W.heap.size ∨ x = W.heap.size + 1 ∨ x = W.heap.size + 1 + 1 := by omega
    rcases this with rfl | rfl | rfl
    · exact (((FV.new rfl (by simp; rfl)).alloc _).alloc _).alloc _
    · exact ((FV.new (by simp) (by simp; rfl)).alloc _).alloc _
    · exact (FV.new (by simp) (by simp; rfl)).alloc _
  refine ⟨⟨_, s, u, b⟩, rfl, Lib.hid ⟨⟨?_, z s h1 h2, z u h3 h4, z b h5 h6, n1, n2, n3⟩, ?_, by simp; omega, h1, h3, h5⟩⟩
  · show (((((W.alloc (.cells (rw_ m fun _ => .int .i64 0).toArray 3)).alloc (.cells (rw_ m fun _ => .int .i64 0).toArray 3)).alloc (.cells (rw_ m fun _ => .int .i64 0).toArray 3)).alloc (.cells #[.slice (some ⟨s, 0, none⟩) m m, .slice (some ⟨u, 0, none⟩) m m, .slice (some ⟨b, 0, none⟩) m m] 66)).heap[W.heap.size + 1 + 1 + 1]? = _)
    have := heap_alloc_new (((W.alloc (.cells (rw_ m fun _ => .int .i64 0).toArray 3)).alloc (.cells (rw_ m fun _ => .int .i64 0).toArray 3)).alloc (.cells (rw_ m fun _ => .int .i64 0).toArray 3)) (.cells #[.slice (some ⟨s, 0, none⟩) m m, .slice (some ⟨u, 0, none⟩) m m, .slice (some ⟨b, 0, none⟩) m m] 66)
    simpa using this
  · exact below_drewN ((((Below.refl _ W).alloc (Nat.le_refl _) _).alloc (by simp) _).alloc (by simp; omega) _ |>.alloc (by simp; omega) _) 1
end
set_option maxRecDepth 100000 in
set_option maxHeartbeats 1000000 in
theorem newClimb_any (m : Nat) (W : World) (hm : m ≤ 1000000) : Calls Tryd.prog 41 #[.int .i64 m] W fun e w' => ∃ k : Kn, e = .returned (.pointer (some ⟨k.kb, 0, none⟩)) ∧ Kl w' k m (fun i => i) (fun _ => -1) (fun i => i) ∧ Below W.heap.size W w' ∧ W.heap.size ≤ k.kb ∧ W.heap.size ≤ k.s ∧ W.heap.size ≤ k.u ∧ W.heap.size ≤ k.b := by
  have hmk := make_i m (by omega)
  go_enter Tryd.func41, Tryd.ntmps41
  go_upto_region 1 with (fail)
  go_cut [3] from 5 to 12 (fun v X => ∃ k : Kn, v = .pointer (some ⟨k.kb, 0, none⟩) ∧ Hid (Kl X k m (fun _ => 0) (fun _ => 0) (fun _ => 0) ∧ Below W.heap.size W X ∧ W.heap.size ≤ k.kb ∧ W.heap.size ≤ k.s ∧ W.heap.size ≤ k.u ∧ W.heap.size ≤ k.b))
  case first =>
    go_region
    all_goals (go_wp2_with fail; go_meet)
    all_goals exact kl_made (by omega) (by omega) (by omega) (by omega) (by omega) (by omega) (by omega) (by omega) (by omega)
  case rest =>
    obtain ⟨k, rfl, HK⟩ := hcut
    obtain ⟨hk, hb, b1, b2, b3, b4⟩ := HK.out
    have HB := Lib.hid (And.intro hb (And.intro b1 (And.intro b2 (And.intro b3 b4))))
    have HK := Lib.hid hk
    clear hk hb b1 b2 b3 b4
    go_wp2
    go_loopw [14] (fun i wr => ∃ (j : Nat), i = .int .i64 j ∧ j ≤ m ∧ Hid (Kl wr k m (fun i => if i < j then i else 0) (fun i => if i < j then -1 else 0) (fun i => if i < j then i else 0) ∧ Below W.heap.size W wr)) (fun i _ => m - (intOf i).toNat)
    case atStart => exact ⟨0, rfl, Nat.zero_le _, Lib.hid ⟨HK.out.to (fun i hi => by simp) (fun i hi => by simp) (fun i hi => by simp), HB.out.1⟩⟩
    case round =>
      obtain ⟨j, rfl, hj, HR⟩ := hrel
      by_cases hlt : j < m
      · obtain ⟨l, c0, c1, c2, f⟩ := HR.out.1.facts
        have is := HR.out.1.sem.cell hlt
        have iu := HR.out.1.up.cell hlt
        have ib := HR.out.1.best.cell hlt
        have fs := HR.out.1.sem.frozen j
        have fu := HR.out.1.up.frozen j
        have fb := HR.out.1.best.frozen j
        have n1 := HR.out.1.su
        have n2 := HR.out.1.sb
        have n3 := HR.out.1.ub
        obtain ⟨n4, n5, n6⟩ := HR.out.1.ne
        go_upto_region 5 with (fail)
        go_region
        go_wp2
        go_roundw
        case rel =>
          obtain ⟨e0, e1, e2, e3⟩ := HB.out.2
          refine ⟨j + 1, by go_num, by omega, Lib.hid ⟨(((HR.out.1.setS j _).setU j _).setB j _).drew.to (fun i _ => congrFun (upd_next (fun i => (i : Int)) 0 j) i) (fun i _ => congrFun (upd_next (fun _ => (-1 : Int)) 0 j) i) (fun i _ => congrFun (upd_next (fun i => (i : Int)) 0 j) i), ?_⟩⟩
          · exact below_drew (((HR.out.2.setCell (p := ⟨k.s, j, none⟩) e1 _).setCell (p := ⟨k.u, j, none⟩) e2 _).setCell (p := ⟨k.b, j, none⟩) e3 _)
        case measure => simp [intOf]; omega
      · obtain rfl : j = m := by omega
        go_wp2
        go_ret
        obtain ⟨e0, e1, e2, e3⟩ := HB.out.2
        exact ⟨k, rfl, HR.out.1.to (fun i hi => if_pos hi) (fun i hi => if_pos hi) (fun i hi => if_pos hi), HR.out.2, e0, e1, e2, e3⟩
end Go.Proofs.YtacgfjcdfgdpjaaDoor
