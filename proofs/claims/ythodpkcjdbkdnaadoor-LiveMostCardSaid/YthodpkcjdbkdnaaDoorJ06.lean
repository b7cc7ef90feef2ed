/- Lemmas for the laws of live (Lwn Lrr Lra Lhq Lbh): each says its own conditions. -/
import Derived.Test.YthodpkcjdbkdnaaDoorJ03
import Derived.Test.YthodpkcjdbkdnaaDoorJ05
import Derived.Test.YthodpkcjdbkdnaaDoorJ02
import Derived.Deep.QuietTactic
import Derived.BigQuiet
set_option linter.unusedSimpArgs false
set_option linter.unusedVariables false
namespace Go.Proofs.YthodpkcjdbkdnaaDoor
open Go Go.RowKit Gm

def NeedP (W : World) (b : Nat) (c : List Ic) (e : Ending) (w' : World) : Prop := e = .returned (.tuple #[]) ∧ ∃ T, WM w' b T ∧ Cov c T ∧ Ch (fun z => z = b) W w'
theorem Ch.drop1 {W V X : World} {b q : Nat} (h : Below W.heap.size W V) (k : Ch (fun z => z = b ∨ z = q) V X) (hq : W.heap.size ≤ q) : Ch (fun z => z = b) W X :=
  ⟨k.os.trans h.os, k.tape.trans h.tape, k.output.trans h.output, Nat.le_trans h.size k.size, fun i hi hn => (k.block i (Nat.lt_of_lt_of_le hi h.size) (by rintro (e | e); exact hn e; omega)).trans (h.block i hi)⟩
theorem Ch.more {S S' : Nat → Prop} {W X : World} (h : Ch S W X) (e : ∀ z, S z → S' z) : Ch S' W X := ⟨h.os, h.tape, h.output, h.size, fun i hi hn => h.block i hi fun k => hn (e i k)⟩
theorem below_drew1 (W : World) : Below W.heap.size W W.drew := below_like (Below.refl _ _) rfl rfl rfl rfl
/-- What join and rising leave. -/
structure Jr (Z X : World) (q : Nat) (v : Value) (M a : Nat) : Prop where
  st : ST X q (M ||| a)
  rw : Rw Z.heap.size X v (rowM (dif a M))
  ch : Ch (fun z => z = q) Z X
/-- The boxes of the call. -/
structure Bx4 (X : World) (m b nb : Nat) : Prop where
  x0 : X.heap[m]? = some (.cells #[.map (some b)] 47 (0, 0))
  x1 : X.heap[m + 1]? = some (.cells #[.pointer (some ⟨nb, 0, none⟩)] 50 (0, 0))
  x3 : X.heap[m + 3]? = some (.cells #[.map (some (m + 2))] 64 (0, 0))
theorem Bx4.ch {X Y : World} {m b nb : Nat} (h : Bx4 X m b nb) (hc : Ch (fun z => z = b ∨ z = m + 2) X Y) (hb : b < m) : Bx4 Y m b nb := by
  have l0 := (Array.getElem?_eq_some_iff.1 h.x0).1
  have l1 := (Array.getElem?_eq_some_iff.1 h.x1).1
  have l3 := (Array.getElem?_eq_some_iff.1 h.x3).1
  exact ⟨(hc.block m l0 (by omega)).trans h.x0, (hc.block (m + 1) l1 (by omega)).trans h.x1, (hc.block (m + 3) l3 (by omega)).trans h.x3⟩
theorem Bx4.stay {X Y : World} {m b nb : Nat} (h : Bx4 X m b nb) (hc : Below X.heap.size X Y) : Bx4 Y m b nb := by
  have l0 := (Array.getElem?_eq_some_iff.1 h.x0).1
  have l1 := (Array.getElem?_eq_some_iff.1 h.x1).1
  have l3 := (Array.getElem?_eq_some_iff.1 h.x3).1
  exact ⟨(hc.block m l0).trans h.x0, (hc.block (m + 1) l1).trans h.x1, (hc.block (m + 3) l3).trans h.x3⟩
theorem Bx4.cells {X : World} {m b nb : Nat} (h : Bx4 X m b nb) : X.cell? ⟨m, 0, none⟩ = some (.map (some b)) ∧ X.cell? ⟨m + 1, 0, none⟩ = some (.pointer (some ⟨nb, 0, none⟩)) ∧ X.cell? ⟨m + 3, 0, none⟩ = some (.map (some (m + 2))) := by
  refine ⟨?_, ?_, ?_⟩
  · rw [cell_of_row _ _ _ _ _ _ h.x0]; rfl
  · rw [cell_of_row _ _ _ _ _ _ h.x1]; rfl
  · rw [cell_of_row _ _ _ _ _ _ h.x3]; rfl
/-- Ahead of a stretch. -/
structure Nw (W V X : World) (c : List Ic) (K : Nat) (fs A : Nat → Nat) (b m : Nat) (T : Int → Nat → Prop) (M s : Nat) : Prop where
  wm : WM X b T
  st : ST X (m + 2) M
  n1 : N1 c K fs A T M s
  ch : Ch (fun z => z = b ∨ z = m + 2) V X
theorem bx_new (W : World) (b nb : Nat) : Below W.heap.size W ((((W.alloc (.cells #[.map (some b)] 47)).alloc (.cells #[.pointer (some ⟨nb, 0, none⟩)] 50)).alloc (.map #[] 0)).alloc (.cells #[.map (some (W.heap.size + 1 + 1))] 64)) ∧ Bx4 ((((W.alloc (.cells #[.map (some b)] 47)).alloc (.cells #[.pointer (some ⟨nb, 0, none⟩)] 50)).alloc (.map #[] 0)).alloc (.cells #[.map (some (W.heap.size + 1 + 1))] 64)) W.heap.size b nb ∧ ST ((((W.alloc (.cells #[.map (some b)] 47)).alloc (.cells #[.pointer (some ⟨nb, 0, none⟩)] 50)).alloc (.map #[] 0)).alloc (.cells #[.map (some (W.heap.size + 1 + 1))] 64)) (W.heap.size + 2) 0 := by
  obtain ⟨X1, h1⟩ : ∃ X, W.alloc (.cells #[.map (some b)] 47) = X := ⟨_, rfl⟩
  obtain ⟨X2, h2⟩ : ∃ X, X1.alloc (.cells #[.pointer (some ⟨nb, 0, none⟩)] 50) = X := ⟨_, rfl⟩
  obtain ⟨X3, h3⟩ : ∃ X, X2.alloc (.map #[] 0) = X := ⟨_, rfl⟩
  rw [h1, h2, h3]
  have s1 : X1.heap.size = W.heap.size + 1 := by rw [← h1]; simp
  have s2 : X2.heap.size = W.heap.size + 2 := by rw [← h2]; simp; omega
  have s3 : X3.heap.size = W.heap.size + 3 := by rw [← h3]; simp; omega
  have b1 : Below W.heap.size W X1 := by rw [← h1]; exact below1 _ _
  have b2 : Below X1.heap.size X1 X2 := by rw [← h2]; exact below1 _ _
  have b3 : Below X2.heap.size X2 X3 := by rw [← h3]; exact below1 _ _
  have b4 := below1 X3 (.cells #[.map (some (W.heap.size + 1 + 1))] 64)
  have y1 : X1.heap[W.heap.size]? = some (.cells #[.map (some b)] 47 (0, 0)) := by rw [← h1]; exact heap_alloc_new W _
  have y2 : X2.heap[W.heap.size + 1]? = some (.cells #[.pointer (some ⟨nb, 0, none⟩)] 50 (0, 0)) := by rw [← h2, ← s1]; exact heap_alloc_new X1 _
  have y3 : ST X3 (W.heap.size + 2) 0 := by rw [← h3, ← s2]; exact ST.made X2
  have y4 := heap_alloc_new X3 (.cells #[.map (some (W.heap.size + 1 + 1))] 64)
  rw [s3] at y4
  exact ⟨b1.trans ((b2.mono (by omega)).trans ((b3.mono (by omega)).trans (b4.mono (by omega)))), ⟨(b4.block _ (by omega)).trans ((b3.block _ (by omega)).trans ((b2.block _ (by omega)).trans y1)), (b4.block _ (by omega)).trans ((b3.block _ (by omega)).trans y2), y4⟩, y3.stay b4⟩
theorem act_nd (t0 t1 t2 t3 t4 t5 t6 t7 t8 t9 t10 t11 t12 t13 t14 t15 t16 t17 t18 t19 t20 t21 t22 t23 t24 t25 t26 t27 t28 t29 t30 t31 t32 t33 t34 t35 t36 t37 t38 t39 t40 t41 t42 t43 t44 t45 t46 t47 t48 t49 t50 t51 t52 t53 t54 t55 t56 t57 t58 t59 t60 t61 t62 t63 t64 t65 t66 t67 t68 t69 t70 t71 t72 t73 t74 t75 t76 t77 t78 t79 t80 t81 t82 t83 t84 : Value) (d : List Deferred) : ∃ u : Nat → Value, ({ tmps := #[t0, t1, t2, t3, t4, t5, t6, t7, t8, t9, t10, t11, t12, t13, t14, t15, t16, t17, t18, t19, t20, t21, t22, t23, t24, t25, t26, t27, t28, t29, t30, t31, t32, t33, t34, t35, t36, t37, t38, t39, t40, t41, t42, t43, t44, t45, t46, t47, t48, t49, t50, t51, t52, t53, t54, t55, t56, t57, t58, t59, t60, t61, t62, t63, t64, t65, t66, t67, t68, t69, t70, t71, t72, t73, t74, t75, t76, t77, t78, t79, t80, t81, t82, t83, t84], defers := d } : Act) = { tmps := #[u 0, u 1, t2, t3, t4, u 5, u 6, u 7, u 8, u 9, t10, u 11, u 12, u 13, u 14, u 15, u 16, u 17, u 18, u 19, u 20, u 21, u 22, u 23, u 24, u 25, u 26, u 27, u 28, u 29, u 30, u 31, u 32, u 33, u 34, u 35, u 36, u 37, u 38, u 39, u 40, u 41, u 42, u 43, u 44, u 45, u 46, u 47, u 48, u 49, u 50, u 51, u 52, u 53, u 54, u 55, u 56, u 57, u 58, u 59, u 60, u 61, u 62, u 63, u 64, u 65, u 66, u 67, u 68, u 69, u 70, u 71, u 72, u 73, u 74, u 75, u 76, u 77, u 78, u 79, u 80, u 81, u 82, u 83, u 84], defers := d } := ⟨fun k => (#[t0, t1, t2, t3, t4, t5, t6, t7, t8, t9, t10, t11, t12, t13, t14, t15, t16, t17, t18, t19, t20, t21, t22, t23, t24, t25, t26, t27, t28, t29, t30, t31, t32, t33, t34, t35, t36, t37, t38, t39, t40, t41, t42, t43, t44, t45, t46, t47, t48, t49, t50, t51, t52, t53, t54, t55, t56, t57, t58, t59, t60, t61, t62, t63, t64, t65, t66, t67, t68, t69, t70, t71, t72, t73, t74, t75, t76, t77, t78, t79, t80, t81, t82, t83, t84] : Array Value).getD k undef, rfl⟩
/-- .. behind the first stretches' loop. -/
structure Bx5 (X : World) (m b nb sb : Nat) : Prop where
  x0 : X.heap[m]? = some (.cells #[.map (some b)] 47 (0, 0))
  x1 : X.heap[m + 1]? = some (.cells #[.pointer (some ⟨nb, 0, none⟩)] 50 (0, 0))
  x3 : X.heap[m + 3]? = some (.cells #[.map (some sb)] 64 (0, 0))
theorem Bx5.ch {X Y : World} {m b nb sb : Nat} (h : Bx5 X m b nb sb) (hc : Ch (fun z => z = b ∨ z = sb) X Y) (hb : b < m) (hs : m + 4 ≤ sb) : Bx5 Y m b nb sb := by
  have l0 := (Array.getElem?_eq_some_iff.1 h.x0).1
  have l1 := (Array.getElem?_eq_some_iff.1 h.x1).1
  have l3 := (Array.getElem?_eq_some_iff.1 h.x3).1
  exact ⟨(hc.block m l0 (by omega)).trans h.x0, (hc.block (m + 1) l1 (by omega)).trans h.x1, (hc.block (m + 3) l3 (by omega)).trans h.x3⟩
theorem Bx5.stay {X Y : World} {m b nb sb : Nat} (h : Bx5 X m b nb sb) (hc : Below X.heap.size X Y) : Bx5 Y m b nb sb := by
  have l0 := (Array.getElem?_eq_some_iff.1 h.x0).1
  have l1 := (Array.getElem?_eq_some_iff.1 h.x1).1
  have l3 := (Array.getElem?_eq_some_iff.1 h.x3).1
  exact ⟨(hc.block m l0).trans h.x0, (hc.block (m + 1) l1).trans h.x1, (hc.block (m + 3) l3).trans h.x3⟩
theorem Bx5.cells {X : World} {m b nb sb : Nat} (h : Bx5 X m b nb sb) : X.cell? ⟨m, 0, none⟩ = some (.map (some b)) ∧ X.cell? ⟨m + 1, 0, none⟩ = some (.pointer (some ⟨nb, 0, none⟩)) ∧ X.cell? ⟨m + 3, 0, none⟩ = some (.map (some sb)) := by
  refine ⟨?_, ?_, ?_⟩
  · rw [cell_of_row _ _ _ _ _ _ h.x0]; rfl
  · rw [cell_of_row _ _ _ _ _ _ h.x1]; rfl
  · rw [cell_of_row _ _ _ _ _ _ h.x3]; rfl
theorem bx5_new {X : World} {m b nb : Nat} (h : Bx4 X m b nb) (hm : m + 4 ≤ X.heap.size) : Bx5 ((X.setCell ⟨m + 1 + 1 + 1, 0, none⟩ (.map (some X.heap.size))).alloc (.map #[] 0)) m b nb X.heap.size ∧ ST ((X.setCell ⟨m + 1 + 1 + 1, 0, none⟩ (.map (some X.heap.size))).alloc (.map #[] 0)) X.heap.size 0 ∧ Ch (fun z => z = m + 3) X ((X.setCell ⟨m + 1 + 1 + 1, 0, none⟩ (.map (some X.heap.size))).alloc (.map #[] 0)) := by
  obtain ⟨Y, hY⟩ : ∃ Y, X.setCell ⟨m + 1 + 1 + 1, 0, none⟩ (.map (some X.heap.size)) = Y := ⟨_, rfl⟩
  have hc : Ch (fun z => z = m + 3) X Y := by rw [← hY]; exact (Ch.refl (fun z => z = m + 3) X).set (b := m + 3) (.inl rfl) 0 _
  have hs : Y.heap.size = X.heap.size := by rw [← hY]; simp [World.setCell]
  have h3 : Y.heap[m + 3]? = some (.cells #[.map (some X.heap.size)] 64 (0, 0)) := by rw [← hY]; exact heap_setCell_same X (m + 3) 0 _ _ _ h.x3
  have hb := below1 Y (.map #[] 0)
  rw [hY]
  refine ⟨⟨(hb.block m (by omega)).trans ((hc.block m (by omega) (by omega)).trans h.x0), (hb.block (m + 1) (by omega)).trans ((hc.block (m + 1) (by omega) (by omega)).trans h.x1), (hb.block (m + 3) (by omega)).trans h3⟩, ?_, hc.stepB hb⟩
  have := ST.made Y
  rwa [hs] at this
theorem kf_below {B : Nat} {W X : World} (h : Below W.heap.size W X) : KeepsFrom B W X := ⟨h.size, fun k o _ hk _ => (h.block k (Array.getElem?_eq_some_iff.1 hk).1).trans hk⟩
theorem kf_ch {B b sb : Nat} {W X : World} (h : Ch (fun z => z = b ∨ z = sb) W X) (hb : b < B) (hs : sb < B) : KeepsFrom B W X := ⟨h.size, fun k o hB hk _ => (h.block k (Array.getElem?_eq_some_iff.1 hk).1 (by omega)).trans hk⟩
theorem kp_ch {n₀ b sb : Nat} {W X : World} (h : Ch (fun z => z = b ∨ z = sb) W X) (hn : n₀ ≤ W.heap.size) : Kp2 n₀ b sb W X := ⟨h.size, fun k h1 h2 h3 => h.block k (by omega) (by rintro (e | e); exact h2 e; exact h3 e)⟩
theorem Ch.drop2 {W V X : World} {b q : Nat} (h : Ch (fun z => z = b) W V) (k : Ch (fun z => z = b ∨ z = q) V X) (hq : W.heap.size ≤ q) : Ch (fun z => z = b) W X :=
  ⟨k.os.trans h.os, k.tape.trans h.tape, k.output.trans h.output, Nat.le_trans h.size k.size, fun i hi hn => (k.block i (Nat.lt_of_lt_of_le hi h.size) (by rintro (e | e); exact hn e; omega)).trans (h.block i hi hn)⟩
/-- Stretches as values. -/
theorem SR.val {X : World} {lo : Nat} {v : Value} {K : Nat} {fs es : Nat → Nat} {gt gf : Nat → List Nat} (h : SR X lo v K fs es gt gf) : ∃ (p : Option Addr) (cap : Nat) (a2 a3 : Nat → Value), v = .slice p K cap ∧ ∀ s, s < K → ∃ g, p = some ⟨g, 0, none⟩ ∧ g < X.heap.size ∧ lo ≤ g ∧ X.cell? ⟨g, s * 4, none⟩ = some (.int .i64 (fs s : Int)) ∧ X.cell? ⟨g, s * 4 + 1, none⟩ = some (.int .i64 (es s : Int)) ∧ X.cell? ⟨g, s * 4 + 2, none⟩ = some (a2 s) ∧ X.cell? ⟨g, s * 4 + 3, none⟩ = some (a3 s) ∧
    (∃ p2 k2, a2 s = .slice p2 (gf s).length k2) ∧ ∃ p3 k3, a3 s = .slice p3 (gt s).length k3 ∧ RV X p3 (gt s).length (lv (gt s)) ∧ ∀ a, p3 = some a → lo ≤ a.block := by
  obtain ⟨p, cap, e, hs⟩ := h
  refine ⟨p, cap, fun s => (p.bind fun a => X.cell? ⟨a.block, s * 4 + 2, none⟩).getD undef, fun s => (p.bind fun a => X.cell? ⟨a.block, s * 4 + 3, none⟩).getD undef, e, fun s hsK => ?_⟩
  obtain ⟨g, rfl, hg, c0, c1, p2, k2, p3, k3, c2, c3, r2, r3, hlo, -, l3⟩ := hs s hsK
  refine ⟨g, rfl, hg, hlo, c0, c1, ?_, ?_, ⟨p2, k2, ?_⟩, p3, k3, ?_, r3, l3⟩
  · simp [c2]
  · simp [c3]
  · simp [c2]
  · simp [c3]
/-- Between two rounds. -/
def Nv (c : List Ic) (K : Nat) (fs es : Nat → Nat) (gt : Nat → List Nat) (A : Nat → Nat) (b sb : Nat) (W0 : World) (pre : List (Sn' K)) (X : World) : Prop := ∃ T M, WM X b T ∧ ST X sb M ∧ N2o c K fs es gt A T M (pre.map (·.1)) ∧ Ch (fun z => z = b ∨ z = sb) W0 X
theorem nv_own (c : List Ic) (K : Nat) (fs es : Nat → Nat) (gt : Nat → List Nat) (A : Nat → Nat) {b sb : Nat} {W0 : World} (hb : b < W0.heap.size) (hs : sb < W0.heap.size) : OwnFrom W0.heap.size (Nv c K fs es gt A b sb W0) := fun pre X Y row h hg hr => by
  obtain ⟨T, M, h1, h2, h3, h4⟩ := h
  exact ⟨T, M, h1.same (World.grownBy.block hg b h1.bl fun e => by have := (hr b e.symm).1; omega), h2.same (World.grownBy.block hg sb h2.bl fun e => by have := (hr sb e.symm).1; omega), h3, h4.grown hg fun k e => .inr (hr k e).1⟩
section
attribute [local go_sem] Oper.semAt_some
set_option maxRecDepth 100000 in
set_option maxHeartbeats 16000000 in
theorem need_c {lo : Nat} {W : World} {nb : Nat} {p : Option Addr} {cap : Nat} {c : List Ic} {K : Nat} {fs es : Nat → Nat} {gt gf : Nat → List Nat} {vs va : Value} {bs A : Nat → Nat} {b : Nat} (h : Hid (Nds lo W nb p cap c K fs es gt gf vs va bs A)) (hb : b < lo) (E : Hid (En W)) (hsm : Hid (Sm c)) (hn : c.length ≤ 50000) (hw : Hid (WM W b (Tc c))) :
    Calls Tryd.prog 25 #[.map (some b), .pointer (some ⟨nb, 0, none⟩)] W (NeedP W b c) := by
  have hmm := @run_makeMap Tryd.prog
  have hbw := hw.out.bl
  obtain ⟨vsp, vsc, evs, hss⟩ := h.out.sr
  subst evs
  obtain ⟨pa, ca, eva, hra, -⟩ := h.out.va
  subst eva
  obtain ⟨nl, n0, n1, n2⟩ := h.out.cells
  refine (callsIn_wide (n := 9)).1 (callsIn_of_wp_marks Tryd.func25 rfl trivial ?_ rfl)
  simp only [Tryd.ntmps25, List.size_toArray, List.length_cons, List.length_nil, Nat.reduceAdd, Nat.reduceSub, Array.replicate_succ, Array.replicate_zero, List.push_toArray, List.append_toArray, List.nil_append, List.cons_append]
  refine wpIn_wide.2 ?_
  refine Code.wp_mono NoPanic.imp ?_
  go_upto_region 2 with (fail)
  refine name_world ?_
  intro V hV
  obtain ⟨m, hm⟩ : ∃ m, W.heap.size = m := ⟨_, rfl⟩
  have HV : Hid (Below W.heap.size W V ∧ Bx4 V m b nb ∧ ST V (m + 2) 0) := Lib.hid (by
    rw [hV, ← hm]
    exact bx_new W b nb)
  have HM := Lib.hid hm
  try rw [hm]
  clear hV hm
  have n1v := (HV.out.1.cell (p := ⟨nb, 1, none⟩) nl).trans n1
  have nlv := Nat.lt_of_lt_of_le nl HV.out.1.size
  obtain ⟨bx0, bx1, bx3⟩ := HV.out.2.1.cells
  clear hss hra n0 n1 n2
  go_upto_region 3 with (fail)
  clear bx0 bx1 bx3 n1v nlv
  go_loopw [21] (fun a wr => ∃ (s : Nat) (T : Int → Nat → Prop) (M : Nat), a = .int .i64 s ∧ s ≤ K ∧ Hid (Nw W V wr c K fs A b m T M s)) (fun a _ => K - (intOf a).toNat)
  case atStart => exact ⟨0, Tc c, 0, rfl, Nat.zero_le _, Lib.hid ⟨hw.out.stay HV.out.1, HV.out.2.2, N1.zero c K fs A, Ch.refl _ _⟩⟩
  case round =>
    obtain ⟨wo, rfl⟩ : ∃ wo : World, wo = wr := ⟨_, rfl⟩
    obtain ⟨s, T, M, rfl, hs, HR⟩ := hrel
    have hKl := h.out.kl
    have hcW : Hid (Ch (fun z => z = b) W wo) := Lib.hid (Ch.drop1 HV.out.1 HR.out.ch (by have := HM.out; omega))
    have HEo : Hid (En wo) := Lib.hid (E.out.ch hcW.out fun z hz e => hw.out.not_gl E.out (e ▸ hz))
    have HNo := Lib.hid (h.out.far hcW.out fun z e => by omega)
    have HBo := Lib.hid (HV.out.2.1.ch HR.out.ch (by have := HM.out; omega))
    by_cases hsK : s < K
    · have hle := h.out.cu.le hsK
      obtain ⟨_, _, e', hss⟩ := HNo.out.sr
      cases e'
      obtain ⟨gs, ep, hgs, c0, c1, p2, k2, p3, k3, c2, c3, -⟩ := hss s hsK
      subst ep
      clear hss
      go_upto_region 5 with (fail)
      refine name_world ?_
      intro V3 hV3
      obtain ⟨q, hq⟩ : ∃ q, wo.heap.size = q := ⟨_, rfl⟩
      have HB3 : Hid (Below wo.heap.size wo V3) := Lib.hid (by rw [hV3]; exact below1 _ _)
      have HX3 : Hid (V3.heap[q]? = some (.cells #[.int .i64 (fs s : Int), .int .i64 (es s : Int), .slice p2 (gf s).length k2, .slice p3 (gt s).length k3] 62 (0, 0))) := Lib.hid (by rw [hV3, ← hq]; exact heap_alloc_new wo _)
      have HN3 := Lib.hid (HNo.out.stay HB3.out)
      have HBx := Lib.hid (HBo.out.stay HB3.out)
      have HQ := Lib.hid hq
      try rw [hq]
      clear hV3 hq c0 c1 c2 c3
      obtain ⟨bx0, bx1, bx3⟩ := HBx.out.cells
      obtain ⟨nl3, n0, n1, n2⟩ := HN3.out.cells
      obtain ⟨_, _, e', hra, -⟩ := HN3.out.va
      cases e'
      obtain ⟨ga, oa, ep, hga, ia⟩ := hra s hsK
      subst ep
      simp only [mv] at ia
      have HS3 := Lib.hid (HR.out.st.stay HB3.out)
      have HW3 := Lib.hid (HR.out.wm.stay HB3.out)
      have HE3 : Hid (En V3) := Lib.hid (HEo.out.below HB3.out)
      clear hra
      have hne : m + 2 ≠ bs s := by have := (h.out.sa s hsK).1.bl; have := HM.out; omega
      have HJ := Lib.hid (join_c (Lib.hid (HS3.out.stay (below_drew1 _))) (Lib.hid ((HN3.out.sa s hsK).1.stay (below_drew1 _))) hne)
      have HNG : Hid (¬ Gl (m + 2)) := Lib.hid (HS3.out.not_gl HE3.out)
      obtain ⟨L, hL⟩ : ∃ L, rowM (dif (A s) M) = L := ⟨_, rfl⟩
      have hLl := rowM_len (dif (A s) M)
      have HLE := Lib.hid hL
      rw [hL] at hLl
      go_cut [35, 36, 37] from 26 to 37 (fun a35 a36 a37 wx => ∃ q6 c6, a35 = .slice q6 L.length c6 ∧ a36 = .int .i64 L.length ∧ a37 = .int .i64 0 ∧ Hid (Jr V3 wx (m + 2) (.slice q6 L.length c6) M (A s)))
      case first =>
        go_region_with (first
          | (go_at_call 44; (with_reducible refine HJ.out.mono ?_); rintro e5 w5 ⟨f5, rfl, hf5, hs5, hl5, hc5⟩; have HJ5 := Lib.hid (And.intro hs5 (And.intro hl5 hc5)); have HE5 : Hid (En w5) := Lib.hid ((HE3.out.below (below_drew1 _)).ch hc5 fun z hz e => HNG.out (e ▸ hz)); have HRI := Lib.hid (rising_c HE5 (Lib.hid hf5)); clear hf5 hs5 hl5 hc5)
          | (go_at_call 45; (with_reducible refine HRI.out.mono ?_); rintro e6 w6 ⟨v6, rfl, hr6, hb6⟩; rw [hL] at hr6; have HV6 := Lib.hid (And.intro hr6 hb6); clear hr6 hb6; obtain ⟨q6, c6, rfl, -⟩ := HV6.out.1.gv.open))
        all_goals go_wp2_with fail
        all_goals go_meet
        all_goals (case rel => exact ⟨_, _, rfl, rfl, rfl, Lib.hid ⟨HJ5.out.1.stay HV6.out.2, by rw [hL]; exact HV6.out.1.mono (by have := HJ5.out.2.2.size; have : V3.drew.heap.size = V3.heap.size := rfl; omega), (Ch.of (below_drew1 _)).trans (HJ5.out.2.2.stepB HV6.out.2)⟩⟩)
      case rest =>
        obtain ⟨q6, c6, rfl, rfl, rfl, HJR⟩ := hcut
        have hmq : m + 4 ≤ q := by
          have h1 := (Array.getElem?_eq_some_iff.1 HV.out.2.1.x3).1
          have h2 := HR.out.ch.size
          have h3 := HQ.out
          omega
        have hbm : b < m := by have := HM.out; omega
        have hq3 : q < V3.heap.size := (Array.getElem?_eq_some_iff.1 HX3.out).1
        have HW6 := Lib.hid (HW3.out.ch HJR.out.ch (by omega))
        have HX6 := Lib.hid ((HJR.out.ch.block q hq3 (by omega)).trans HX3.out)
        have HBx6 := Lib.hid (HBx.out.ch (HJR.out.ch.more fun z e => .inr e) hbm)
        have hgv := HJR.out.rw.gv
        rw [hL] at hgv
        obtain ⟨_, _, e', hrv, -⟩ := GV.rv hgv
        clear hgv
        have hown : ∀ a, q6 = some a → V3.heap.size ≤ a.block := fun a e => (HJR.out.rw.gv.lt a.block (by rw [e]; rfl)).1
        cases e'
        have HRVb : Hid (∀ X, Ch (fun z => z = b) wc X → RV X q6 L.length (ivl L)) := Lib.hid fun X hX => hrv.ch hX fun a e e2 => by
          have := hown a e
          omega
        clear bx0 bx1 bx3 n0 n1 n2 ia hrv hown
        go_upto_region 6 with (fail)
        go_loopw [37] (fun a wr => ∃ (k : Nat) (T' : Int → Nat → Prop), a = .int .i64 k ∧ k ≤ L.length ∧ Hid (WM wr b T' ∧ N1i c K fs A T' M s L k ∧ Ch (fun z => z = b) wc wr)) (fun a _ => L.length - (intOf a).toNat)
        case atStart => exact ⟨0, T, rfl, Nat.zero_le _, Lib.hid ⟨HW6.out, HR.out.n1.start L, Ch.refl _ _⟩⟩
        case round =>
          obtain ⟨wi, rfl⟩ : ∃ wo : World, wo = wr := ⟨_, rfl⟩
          obtain ⟨k, T', rfl, hk, HI⟩ := hrel
          have hxq := (HI.out.2.2.block q (Nat.lt_of_lt_of_le hq3 HJR.out.ch.size) (by omega)).trans HX6.out
          have bx0 : wi.cell? ⟨q, 0, none⟩ = some (.int .i64 (fs s : Int)) := by rw [cell_of_row _ _ _ _ _ _ hxq]; rfl
          obtain ⟨bxm, -, -⟩ := (HBx6.out.ch (HI.out.2.2.more fun z e => .inl e) hbm).cells
          clear hxq
          by_cases hkl : k < L.length
          · obtain ⟨r, hr⟩ : ∃ r, L[k]? = some r := ⟨_, List.getElem?_eq_getElem hkl⟩
            obtain ⟨g, o, rfl, -, ic⟩ := HRVb.out wi HI.out.2.2 k hkl
            have ie : ivl L k = .int .i64 r := by simp [ivl, List.getD_eq_getElem?_getD, hr]
            rw [ie] at ic
            have hbt : Bt (A s) r := by
              have h1 := List.mem_of_getElem? hr
              rw [← HLE.out, rowM_mem (dif_lt (h.out.sa s hsK).1.lt), bt_dif (h.out.sa s hsK).1.lt HR.out.st.lt] at h1
              exact h1.1
            have hnd := (h.out.nd s r hsK).1 hbt
            have hr64 := rg_sm hsm.out hnd.rg
            have HNX := Lib.hid (HI.out.2.1.next hr hnd)
            have HWC := Lib.hid (widen_c (Lib.hid HI.out.1) (r := r) (i := fs s) ⟨hr64.1, hr64.2, by omega⟩)
            clear ie hr hnd hbt
            go_wp2_with (go_at_call 42; (with_reducible refine HWC.out.mono ?_); rintro e7 w7 ⟨rfl, hw7, hc7⟩; have HW7 := Lib.hid (And.intro hw7 hc7); clear hw7 hc7)
            go_roundw
            case rel => exact ⟨k + 1, _, by go_num, by omega, Lib.hid ⟨HW7.out.1, HNX.out, HI.out.2.2.trans HW7.out.2⟩⟩
            case measure => (simp [intOf]; try omega)
          · obtain rfl : k = L.length := by omega
            clear bx0 bxm
            go_wp2
            go_roundw
            case rel =>
              have h2 := HI.out.2.1
              rw [← HLE.out] at h2
              exact ⟨s + 1, T', M ||| A s, by go_num, by omega, Lib.hid ⟨HI.out.1, HJR.out.st.ch HI.out.2.2 (by omega), h2.done rfl (h.out.sa s hsK).1.lt HR.out.st.lt, ((HR.out.ch.trans (.of HB3.out)).trans (HJR.out.ch.more fun z e => .inr e)).trans (HI.out.2.2.more fun z e => .inl e)⟩⟩
            case measure => (simp [intOf]; try omega)
    · obtain rfl : s = K := by omega
      have hmV : m + 4 ≤ wo.heap.size := by
        have h1 := (Array.getElem?_eq_some_iff.1 HV.out.2.1.x3).1
        have h2 := HR.out.ch.size
        omega
      have hbm : b < m := by have := HM.out; omega
      obtain ⟨bx0, bx1, bx3⟩ := HBo.out.cells
      obtain ⟨nl, n0, n1, n2⟩ := HNo.out.cells
      have hm3 : m + 3 < wo.heap.size := by omega
      have fx3 : wo.frozen? ⟨m + 1 + 1 + 1, 0, none⟩ = false := by (show wo.frozen? ⟨m + 3, 0, none⟩ = false); simp [World.frozen?, HBo.out.x3]
      have bx3' : wo.cell? ⟨m + 1 + 1 + 1, 0, none⟩ = some (.map (some (m + 2))) := bx3
      have hm3' : m + 1 + 1 + 1 < wo.heap.size := hm3
      go_upto_region 12 with (fail)
      refine name_world ?_
      intro V8 hV8
      obtain ⟨sb, hsb⟩ : ∃ sb, wo.heap.size = sb := ⟨_, rfl⟩
      have HV8 : Hid (Bx5 V8 m b nb sb ∧ ST V8 sb 0 ∧ Ch (fun z => z = m + 3) wo V8) := Lib.hid (by rw [hV8, ← hsb]; exact bx5_new HBo.out hmV)
      have HSB := Lib.hid hsb
      try rw [hsb]
      clear hV8 bx0 bx1 bx3 bx3' fx3 hm3 hm3' n0 n1 n2 nl
      have hcW8 : Hid (Ch (fun z => z = b) W V8) := Lib.hid (by
        exact ⟨HV8.out.2.2.os.trans hcW.out.os, HV8.out.2.2.tape.trans hcW.out.tape, HV8.out.2.2.output.trans hcW.out.output, Nat.le_trans hcW.out.size HV8.out.2.2.size, fun k hk hn => (HV8.out.2.2.block k (Nat.lt_of_lt_of_le hk hcW.out.size) (by have := HM.out; omega)).trans (hcW.out.block k hk hn)⟩)
      obtain ⟨bx0, bx1, bx3⟩ := HV8.out.1.cells
      have HN8 := Lib.hid (h.out.far hcW8.out fun z e => by omega)
      obtain ⟨nl, n0, n1, n2⟩ := HN8.out.cells
      go_wp2_with (go_at_call 46; refine (back_c _ _ _ _).mono ?_; rintro e w' ⟨rfl, rfl⟩)
      refine (wpIn_wide (n := 9)).1 ?_
      gi_wp2
      obtain ⟨W0, hW0⟩ : ∃ W0, V8.alloc (.cells #[.slice vsp s vsc] 57) = W0 := ⟨_, rfl⟩
      obtain ⟨q8, hq8⟩ : ∃ q, V8.heap.size = q := ⟨_, rfl⟩
      have HB8 : Hid (Below V8.heap.size V8 W0 ∧ W0.heap.size = q8 + 1 ∧ W0.cell? ⟨q8, 0, none⟩ = some (.slice vsp s vsc)) := Lib.hid (by
        rw [← hW0, ← hq8]
        exact ⟨below1 _ _, by simp, by rw [cell_of_row _ _ _ _ _ _ (heap_alloc_new V8 _)]; rfl⟩)
      rw [hW0, hq8]
      have hsq : sb < q8 := by have := HV8.out.2.1.bl; omega
      have hmb : m + 4 ≤ sb := by have := HSB.out; omega
      clear hW0 bx0 bx1 bx3 n0 n1 n2 nl
      have hcW0 : Hid (Ch (fun z => z = b) W W0) := Lib.hid (hcW8.out.stepB HB8.out.1)
      obtain ⟨_, _, a2, a3, e', hval⟩ := h.out.sr.val
      cases e'
      have hSc : Sc W0 W0.heap.size b sb vsp s fs es a2 a3 := fun t ht => by
        obtain ⟨g, ep, hg, hlg, c0, c1, c2, c3, -⟩ := hval t ht
        have hgb : ¬ g = b := by omega
        exact ⟨g, ep, Nat.lt_of_lt_of_le hg hcW0.out.size, hgb, by have := HM.out; omega, (hcW0.out.cell hg hgb).trans c0, (hcW0.out.cell hg hgb).trans c1, (hcW0.out.cell hg hgb).trans c2, (hcW0.out.cell hg hgb).trans c3⟩
      have HVAL := Lib.hid hval
      clear hval
      have HN1 : Hid (Nv c s fs es gt A b sb W0 [] W0) := Lib.hid ⟨T, 0, (HR.out.wm.ch HV8.out.2.2 (by omega)).stay HB8.out.1, HV8.out.2.1.stay HB8.out.1, HR.out.n1.turn es gt, Ch.refl _ _⟩
      have hs0 := HB8.out.2.1
      refine wpIn_rangeFunc_ownH rfl (by decide) (gf := 63) (lb := #[.pointer (some ⟨q8, 0, none⟩)]) rfl trivial (enters_of Tryd.func63 (by kernel_rfl) rfl)
        (back_stops 8 (by decide) q8 b sb s vsc vsp fs es a2 a3 (by omega) W0 (by omega) (by omega) (by omega) HB8.out.2.2 hSc) (fun h k => h.trans k) (fun W l o o' hl _ _ _ => kp2_b hl) (Below.refl _ _) (fun _ => rfl)
        (Nv c s fs es gt A b sb W0)
        (fun _ _ _ => False)
        (nv_own c s fs es gt A (by omega) (by omega))
        (fun _ _ _ _ _ hs _ _ => hs)
        HN1.out
        (fun x a' W => ∃ Bx, W0.heap.size ≤ Bx ∧ W.heap[Bx]? = some (.cells #[.int .i64 (fs x.1 : Int), .int .i64 (es x.1 : Int), a2 x.1, a3 x.1] 62 (0, 0)) ∧ ∃ u : Nat → Value, a' = { tmps := #[u 0, u 1, .pointer (some ⟨m, 0, none⟩), .pointer (some ⟨m + 1, 0, none⟩), .pointer (some ⟨m + 3, 0, none⟩), u 5, u 6, u 7, u 8, u 9, .pointer (some ⟨Bx, 0, none⟩), u 11, u 12, u 13, u 14, u 15, u 16, u 17, u 18, u 19, u 20, u 21, u 22, u 23, u 24, u 25, u 26, u 27, u 28, u 29, u 30, u 31, u 32, u 33, u 34, u 35, u 36, u 37, u 38, u 39, u 40, u 41, u 42, u 43, u 44, u 45, u 46, u 47, u 48, u 49, u 50, u 51, u 52, u 53, u 54, u 55, u 56, u 57, u 58, u 59, u 60, u 61, u 62, u 63, u 64, u 65, u 66, u 67, u 68, u 69, u 70, u 71, u 72, u 73, u 74, u 75, u 76, u 77, u 78, u 79, u 80, u 81, u 82, u 83, u 84], defers := [] })
        (fun x a' _ A B row hs hg hr => by
          obtain ⟨Bx, h1, h2, u, h4⟩ := hs
          exact ⟨Bx, h1, (World.grownBy.block hg Bx (Array.getElem?_eq_some_iff.1 h2).1 fun e => by
            obtain ⟨-, o, ho, hoc⟩ := hr Bx e.symm
            rw [h2] at ho
            cases ho
            cases hoc).trans h2, u, h4⟩)
        ?assign ?body ?done ?stop
      case assign =>
        rintro l pre x X K hI hK
        obtain ⟨T, M, h1, h2, h3, h4⟩ := hI
        have hsX := h4.size
        obtain ⟨-, -, -, -, -, -, -, -, ⟨p2, k2, ea2⟩, p3, k3, ea3, -, -⟩ := HVAL.out x.1 x.2
        unfold encS stV
        rw [ea2, ea3]
        gi_wp2
        refine hK _ _ (kf_below (below1 _ _)) ⟨by simp, fun k hk _ _ => (below1 X _).block k (by omega)⟩ ⟨T, M, h1.stay (below1 _ _), h2.stay (below1 _ _), h3, h4.stepB (below1 _ _)⟩ ?_
        exact ⟨X.heap.size, hsX, by rw [ea2, ea3]; exact heap_alloc_new X _, by apply act_nd⟩
      case body =>
        rintro l pre ⟨x, hxK⟩ a' X hl hr hI ⟨Bx, hBx, bX, u, rfl⟩ hlt
        dsimp only at bX
        obtain ⟨T, M, h1, h2, h3, h4⟩ := hI
        have HI := Lib.hid (And.intro h1 (And.intro h2 (And.intro h3 h4)))
        obtain ⟨g, ep, hg, hlg, c0, c1, c2, c3, -, p3, k3, ea3, r3, l3⟩ := HVAL.out x hxK
        rw [ea3] at bX
        have HR3 : Hid (∀ X, Ch (fun z => z = b) W X → RV X p3 (gt x).length (lv (gt x))) := Lib.hid fun X hX => r3.ch hX fun a e e2 => by have := l3 a e; omega
        have HBX := Lib.hid bX
        have cb3 : X.cell? ⟨Bx, 3, none⟩ = some (.slice p3 (gt x).length k3) := by rw [cell_of_row _ _ _ _ _ _ bX]; rfl
        have htl := h.out.cu.tol x hxK
        have HGT : Hid (∀ t, t ∈ gt x → t < s) := Lib.hid fun t ht => ((h.out.cu.gto x hxK t).1 ht).1
        have hxes := (h.out.cu.le hxK).2
        have hlX : Bx < X.heap.size := (Array.getElem?_eq_some_iff.1 bX).1
        have HPL : Hid (∀ t, t ∈ gt x → ∀ r, Bt (A t) r → Pl c r (es x)) := Lib.hid fun t ht r hb => pl_last h.out.cu (fun t r ht => h.out.nd t r ht) hsm.out hxK ht hb
        clear h1 h2 h3 h4 ep hg hlg c0 c1 c2 c3 ea3 r3 l3 bX hr
        obtain ⟨O, hO⟩ : ∃ O, gt x = O := ⟨_, rfl⟩
        rw [hO] at cb3 HR3 htl HGT HPL
        have HO := Lib.hid hO
        clear hO
        gi_wp2
        clear cb3
        gi_loopw [59] (fun a wr => ∃ (i : Nat) (T : Int → Nat → Prop) (M : Nat), a = .int .i64 i ∧ i ≤ O.length ∧ Hid (WM wr b T ∧ ST wr sb M ∧ N2 c s fs es gt A T M (pre.map (·.1)) x i ∧ Ch (fun z => z = b ∨ z = sb) X wr)) (fun a _ => O.length - (intOf a).toNat)
        case atStart => exact ⟨0, T, M, rfl, Nat.zero_le _, Lib.hid ⟨HI.out.1, HI.out.2.1, HI.out.2.2.1.start x, Ch.refl _ _⟩⟩
        case round =>
          obtain ⟨wi, rfl⟩ : ∃ wo : World, wo = wr := ⟨_, rfl⟩
          obtain ⟨i, T1, M1, rfl, hi, HQ⟩ := hrel
          have HC0 : Hid (Ch (fun z => z = b ∨ z = sb) W0 wi) := Lib.hid (HI.out.2.2.2.trans HQ.out.2.2.2)
          have HCW : Hid (Ch (fun z => z = b) W wi) := Lib.hid (Ch.drop2 hcW0.out HC0.out (by have := HM.out; omega))
          have HEi : Hid (En wi) := Lib.hid (E.out.ch HCW.out fun z hz e => hw.out.not_gl E.out (e ▸ hz))
          have HNi := Lib.hid (h.out.far HCW.out fun z e => by omega)
          have HBi := Lib.hid ((HV8.out.1.stay HB8.out.1).ch HC0.out hbm hmb)
          by_cases hlt2 : i < O.length
          · obtain ⟨t, ht⟩ : ∃ t, O[i]? = some t := ⟨_, List.getElem?_eq_getElem hlt2⟩
            obtain ⟨g, o, rfl, -, ic⟩ := (HR3.out wi HCW.out) i hlt2
            have ie : lv O i = .int .i64 (t : Int) := by simp [lv, ht]
            rw [ie] at ic
            have htm := List.mem_of_getElem? ht
            have htK := HGT.out t htm
            obtain ⟨bx0, bx1, bx3⟩ := HBi.out.cells
            obtain ⟨nl, n0, n1, n2⟩ := HNi.out.cells
            obtain ⟨_, _, e', hra, -⟩ := HNi.out.va
            cases e'
            obtain ⟨ga, oa, ep, hga, ia⟩ := hra t htK
            subst ep
            simp only [mv] at ia
            have hne : sb ≠ bs t := by have := (h.out.sa t htK).1.bl; have := HM.out; omega
            have HTK := Lib.hid (And.intro ht htm)
            clear hra ie ht htm
            have hlx1 := (Array.getElem?_eq_some_iff.1 HBi.out.x1).1
            have hlx3 := (Array.getElem?_eq_some_iff.1 HBi.out.x3).1
            have hnx1 : ¬ m + 1 = sb := by omega
            have hnx3 : ¬ m + 3 = sb := by omega
            have hnnb : ¬ nb = sb := by have := h.out.lt; have := HM.out; omega
            have hnga : ¬ ga = sb := by
              obtain ⟨_, _, e', hraW, -⟩ := h.out.va
              cases e'
              obtain ⟨ga', oa', ep', hgaW, -⟩ := hraW t htK
              cases ep'
              have := HM.out
              omega
            have HJ := Lib.hid (join_c (Lib.hid (HQ.out.2.1.stay (below_drew1 _))) (Lib.hid ((HNi.out.sa t htK).1.stay (below_drew1 _))) hne)
            have HNG : Hid (¬ Gl sb) := Lib.hid (HQ.out.2.1.not_gl HEi.out)
            obtain ⟨L, hL⟩ : ∃ L, rowM (dif (A t) M1) = L := ⟨_, rfl⟩
            have hLl := rowM_len (dif (A t) M1)
            have HLE := Lib.hid hL
            rw [hL] at hLl
            gi_wp2_with fail
            gi_cut [72, 73, 74] from 63 (fun a35 a36 a37 wx => ∃ q6 c6, a35 = .slice q6 L.length c6 ∧ a36 = .int .i64 L.length ∧ a37 = .int .i64 0 ∧ Hid (Jr wi wx sb (.slice q6 L.length c6) M1 (A t)))
            case first =>
              refine region_round (fun w' => Ch (fun z => z = sb) wi w') (by kernel_rfl) (by kernel_rfl) ?_
              show wpAnyH _ _ _ _ _ 12 _ _ _
              refine takeH (i := 0) (v := .map (some sb)) (some 63) rfl rfl (by kernel_rfl) (by kernel_rfl) (by kernel_rfl) (Or.inl ⟨by rfl, ?_⟩) (Ch.of (below_drew1 _)) ?_
              · intro w1 hS1
                have bx3 := (hS1.cell hlx3 hnx3).trans bx3
                go_simp
              simp only [Act.put, List.setIfInBounds_toArray, List.set_cons_zero, List.set_cons_succ]
              refine takeH (i := 1) (v := .pointer (some ⟨nb, 0, none⟩)) (some 64) rfl rfl (by kernel_rfl) (by kernel_rfl) (by kernel_rfl) (Or.inl ⟨by rfl, ?_⟩) (Ch.of (below_drew1 _)) ?_
              · intro w1 hS1
                have bx1 := (hS1.cell hlx1 hnx1).trans bx1
                go_simp
              simp only [Act.put, List.setIfInBounds_toArray, List.set_cons_zero, List.set_cons_succ]
              refine takeH (i := 2) (v := .pointer (some ⟨nb, 0, none⟩)) (some 65) rfl rfl (by kernel_rfl) (by kernel_rfl) (by kernel_rfl) (Or.inl ⟨by rfl, ?_⟩) (Ch.of (below_drew1 _)) ?_
              · intro w1 hS1
                go_simp
              simp only [Act.put, List.setIfInBounds_toArray, List.set_cons_zero, List.set_cons_succ]
              refine takeH (i := 3) (v := .pointer (some ⟨nb, 2, none⟩)) (some 66) rfl rfl (by kernel_rfl) (by kernel_rfl) (by kernel_rfl) (Or.inl ⟨by rfl, ?_⟩) (Ch.of (below_drew1 _)) ?_
              · intro w1 hS1
                go_simp
              simp only [Act.put, List.setIfInBounds_toArray, List.set_cons_zero, List.set_cons_succ]
              refine takeH (i := 4) (v := .slice (some ⟨ga, oa, none⟩) s ca) (some 67) rfl rfl (by kernel_rfl) (by kernel_rfl) (by kernel_rfl) (Or.inl ⟨by rfl, ?_⟩) (Ch.of (below_drew1 _)) ?_
              · intro w1 hS1
                have n2 := (hS1.cell nl hnnb).trans n2
                go_simp
              simp only [Act.put, List.setIfInBounds_toArray, List.set_cons_zero, List.set_cons_succ]
              refine takeH (i := 5) (v := .int .i64 (t : Int)) (some 68) rfl rfl (by kernel_rfl) (by kernel_rfl) (by kernel_rfl) (Or.inl ⟨by rfl, ?_⟩) (Ch.of (below_drew1 _)) ?_
              · intro w1 hS1
                go_simp
              simp only [Act.put, List.setIfInBounds_toArray, List.set_cons_zero, List.set_cons_succ]
              refine takeH (i := 6) (v := .pointer (some ⟨ga, oa + t, none⟩)) (some 69) rfl rfl (by kernel_rfl) (by kernel_rfl) (by kernel_rfl) (Or.inl ⟨by rfl, ?_⟩) (Ch.of (below_drew1 _)) ?_
              · intro w1 hS1
                go_simp
              simp only [Act.put, List.setIfInBounds_toArray, List.set_cons_zero, List.set_cons_succ]
              refine takeH (i := 7) (v := .map (some (bs t))) (some 70) rfl rfl (by kernel_rfl) (by kernel_rfl) (by kernel_rfl) (Or.inl ⟨by rfl, ?_⟩) (Ch.of (below_drew1 _)) ?_
              · intro w1 hS1
                have ia := (hS1.cell hga hnga).trans ia
                go_simp
              simp only [Act.put, List.setIfInBounds_toArray, List.set_cons_zero, List.set_cons_succ]
              refine takeH (i := 11) (v := .int .i64 0) (some 74) rfl rfl (by kernel_rfl) (by kernel_rfl) (by kernel_rfl) (Or.inl ⟨by rfl, ?_⟩) (Ch.of (below_drew1 _)) ?_
              · intro w1 hS1
                go_simp
              simp only [Act.put, List.setIfInBounds_toArray, List.set_cons_zero, List.set_cons_succ]
              refine wpAnyH_all (rs := [8]) (by kernel_rfl) (by simp) ?_
              intro i8 hi8
              obtain rfl : i8 = 8 := by simpa using hi8
              refine wpOp_call (some 71) rfl rfl (by rfl) (f := 44) (args := #[.map (some sb), .map (some (bs t))]) (by go_simp) HJ.out ?_
              rintro e5 w5 ⟨f5, rfl, hf5, hs5, hl5, hc5⟩
              have HE5 : Hid (En w5) := Lib.hid ((HEi.out.below (below_drew1 _)).ch hc5 fun z hz e => HNG.out (e ▸ hz))
              have HC5 : Hid (Ch (fun z => z = sb) wi w5) := Lib.hid ((Ch.of (below_drew1 _)).trans hc5)
              refine ⟨_, rfl, HC5.out, ?_⟩
              simp only [Act.put, List.setIfInBounds_toArray, List.set_cons_zero, List.set_cons_succ]
              refine wpAnyH_all (rs := [9]) (by kernel_rfl) (by simp) ?_
              intro i9 hi9
              obtain rfl : i9 = 9 := by simpa using hi9
              refine wpOp_call (some 72) rfl rfl (by rfl) (f := 45) (args := #[.map (some f5)]) (by go_simp) (rising_c HE5 (Lib.hid hf5)) ?_
              rintro e6 w6 ⟨v6, rfl, hr6, hb6⟩
              rw [hL] at hr6
              obtain ⟨q6, c6, rfl, -⟩ := hr6.gv.open
              refine ⟨_, rfl, HC5.out.stepB hb6, ?_⟩
              simp only [Act.put, List.setIfInBounds_toArray, List.set_cons_zero, List.set_cons_succ]
              refine takeH (i := 10) (v := .int .i64 (L.length : Int)) (some 73) rfl rfl (by kernel_rfl) (by kernel_rfl) (by kernel_rfl) (Or.inl ⟨by rfl, ?_⟩) (HC5.out.stepB hb6) ?_
              · intro w1 hS1
                go_simp
              simp only [Act.put, List.setIfInBounds_toArray, List.set_cons_zero, List.set_cons_succ]
              refine wpAnyH_done (by kernel_rfl) ?_ _
              refine ⟨rfl, ?_⟩
              gi_wp2_with fail
              gi_meet
              case rel => exact ⟨_, _, rfl, rfl, rfl, Lib.hid ⟨hs5.stay hb6, by rw [hL]; exact hr6.mono HC5.out.size, HC5.out.stepB hb6⟩⟩
            case rest =>
              obtain ⟨q6, c6, rfl, rfl, rfl, HJR⟩ := hcut
              have hbs : b < sb := by omega
              have hBb : W0.heap.size ≤ Bx := hBx
              have HW6 := Lib.hid (HQ.out.1.ch HJR.out.ch (by omega))
              have HX6 := Lib.hid ((HJR.out.ch.block Bx (Nat.lt_of_lt_of_le hlX HQ.out.2.2.2.size) (by omega)).trans ((HQ.out.2.2.2.block Bx hlX (by omega)).trans HBX.out))
              have hlW : Bx < wc.heap.size := (Array.getElem?_eq_some_iff.1 HX6.out).1
              have HBx6 := Lib.hid (HBi.out.ch (HJR.out.ch.more fun z e => .inr e) hbm hmb)
              have hgv := HJR.out.rw.gv
              rw [hL] at hgv
              obtain ⟨_, _, e', hrv, -⟩ := GV.rv hgv
              clear hgv
              have hbi : b < wi.heap.size := HQ.out.1.bl
              have hown : ∀ a, q6 = some a → wi.heap.size ≤ a.block := fun a e => (HJR.out.rw.gv.lt a.block (by rw [e]; rfl)).1
              cases e'
              have HRVb : Hid (∀ X, Ch (fun z => z = b) wc X → RV X q6 L.length (ivl L)) := Lib.hid fun X hX => hrv.ch hX fun a e e2 => by
                have := hown a e
                omega
              clear bx0 bx1 bx3 n0 n1 n2 ia hrv hown
              gi_wp2
              gi_loopw [74] (fun a wr => ∃ (k : Nat) (T' : Int → Nat → Prop), a = .int .i64 k ∧ k ≤ L.length ∧ Hid (WM wr b T' ∧ N2i c s fs es gt A T' M1 (pre.map (·.1)) x i L k ∧ Ch (fun z => z = b) wc wr)) (fun a _ => L.length - (intOf a).toNat)
              case atStart => exact ⟨0, T1, rfl, Nat.zero_le _, Lib.hid ⟨HW6.out, HQ.out.2.2.1.start L, Ch.refl _ _⟩⟩
              case round =>
                obtain ⟨wk, rfl⟩ : ∃ wo : World, wo = wr := ⟨_, rfl⟩
                obtain ⟨k, T', rfl, hk, HK⟩ := hrel
                have hxq := (HK.out.2.2.block Bx hlW (by omega)).trans HX6.out
                have bx0 : wk.cell? ⟨Bx, 1, none⟩ = some (.int .i64 (es x : Int)) := by rw [cell_of_row _ _ _ _ _ _ hxq]; rfl
                obtain ⟨bxm, -, -⟩ := (HBx6.out.ch (HK.out.2.2.more fun z e => .inl e) hbm hmb).cells
                clear hxq
                by_cases hkl : k < L.length
                · obtain ⟨r, hr⟩ : ∃ r, L[k]? = some r := ⟨_, List.getElem?_eq_getElem hkl⟩
                  obtain ⟨g, o, rfl, -, ic⟩ := HRVb.out wk HK.out.2.2 k hkl
                  have ie : ivl L k = .int .i64 r := by simp [ivl, List.getD_eq_getElem?_getD, hr]
                  rw [ie] at ic
                  have hbt : Bt (A t) r := by
                    have h1 := List.mem_of_getElem? hr
                    rw [← HLE.out, rowM_mem (dif_lt (h.out.sa t htK).1.lt), bt_dif (h.out.sa t htK).1.lt HQ.out.2.1.lt] at h1
                    exact h1.1
                  have hnd := (h.out.nd t r htK).1 hbt
                  have hr64 := rg_sm hsm.out hnd.rg
                  have HNX := Lib.hid (HK.out.2.1.next hr (HPL.out t HTK.out.2 r hbt))
                  have HWC := Lib.hid (widen_c (Lib.hid HK.out.1) (r := r) (i := es x) ⟨hr64.1, hr64.2, by omega⟩)
                  clear ie hr hnd hbt
                  gi_wp2_with (refine ⟨trivial, ?_⟩; gi_at_call 42; (with_reducible refine (CallsIn.inRound l (callsIn_wide.2 HWC.out)).mono ?_); rintro e7 w7 ⟨rfl, hw7, hc7⟩; have HW7 := Lib.hid (And.intro hw7 hc7); clear hw7 hc7)
                  go_roundw
                  case rel => exact ⟨k + 1, _, by go_num, by omega, Lib.hid ⟨HW7.out.1, HNX.out, HK.out.2.2.trans HW7.out.2⟩⟩
                  case measure => (simp [intOf]; try omega)
                · obtain rfl : k = L.length := by omega
                  clear bx0 bxm
                  gi_wp2
                  go_roundw
                  case rel =>
                    have h2 := HK.out.2.1
                    rw [← HLE.out] at h2
                    exact ⟨i + 1, T', M1 ||| A t, by go_num, by omega, Lib.hid ⟨HK.out.1, HJR.out.st.ch HK.out.2.2 (by omega), h2.done rfl (by rw [HO.out]; exact HTK.out.1) (h.out.sa t htK).1.lt HQ.out.2.1.lt, (HQ.out.2.2.2.trans (HJR.out.ch.more fun z e => .inr e)).trans (HK.out.2.2.more fun z e => .inl e)⟩⟩
                  case measure => (simp [intOf]; try omega)
          · obtain rfl : i = O.length := by omega
            gi_wp2
            refine ⟨kf_ch HQ.out.2.2.2 (by omega) (by omega), kp_ch HQ.out.2.2.2 (by have := HI.out.2.2.2.size; omega), T1, M1, HQ.out.1, HQ.out.2.1, ?_, HC0.out⟩
            rw [List.map_append]
            exact HQ.out.2.2.1.fin (by rw [HO.out])
      case done =>
        rintro D ys X hD hys ⟨T1, M1, h1, h2, h3, h4⟩ hK
        rw [hys] at h3
        have HCX : Hid (Ch (fun z => z = b) W X) := Lib.hid (Ch.drop2 hcW0.out h4 (by have := HM.out; omega))
        have HF := Lib.hid (And.intro h1 (h3.cov h.out.cu hsm.out (fun t r ht => h.out.nd t r ht)))
        clear h1 h2 h3 h4
        gi_wp2
        refine NoPanic.normal ?_
        refine ⟨by simp, .inl ⟨_, _, rfl, run_takeDeferred hK, ?_⟩⟩
        have hbD : ¬ b = D := by omega
        refine ⟨_, results_none rfl _ _ _, rfl, T1, HF.out.1.same (World.grownBy.block (grownBy_putObj' X D _) b HF.out.1.bl fun e => by cases e; omega), HF.out.2, HCX.out.grown (grownBy_putObj' X D _) fun k e => .inr ?_⟩
        cases e
        have := hcW0.out.size
        omega
      case stop =>
        rintro D c pre X _ _ h _
        exact h.elim
end
end Go.Proofs.YthodpkcjdbkdnaaDoor
namespace Go.Proofs.YthodpkcjdbkdnaaDoor
open Go Go.RowKit Gm

abbrev Rt : Type := Int × Nat × Nat
def rtc (x : Rt) : List Value := [.int .i64 x.1, .int .i64 (x.2.1 : Int), .int .i64 (x.2.2 : Int)]
/-- A row of ranges in memory of its own. -/
def R3 (T : TypeId) (B : Nat) (W : World) (v : Value) (L : List Rt) : Prop := W.ownsRow B T 3 v L.length (L.flatMap rtc)
theorem rtc_get : ∀ (L : List Rt) (i : Nat) (x : Rt), L[i]? = some x → (L.flatMap rtc)[i * 3]? = some (.int .i64 x.1) ∧ (L.flatMap rtc)[i * 3 + 1]? = some (.int .i64 (x.2.1 : Int)) ∧ (L.flatMap rtc)[i * 3 + 2]? = some (.int .i64 (x.2.2 : Int))
  | [], _, _, h => by simp at h
  | y :: L, 0, x, h => by
    have : y = x := by simpa using h
    subst this
    exact ⟨rfl, rfl, rfl⟩
  | y :: L, i + 1, x, h => by
    have := rtc_get L i x (by simpa using h)
    rw [show (i + 1) * 3 = i * 3 + 3 by omega]
    exact this
theorem rtc_len (L : List Rt) : (L.flatMap rtc).length = L.length * 3 := by
  induction L with
  | nil => rfl
  | cons x L ih => rw [List.flatMap_cons, List.length_append, ih]; simp [rtc]; omega
section
variable {T : TypeId} {B : Nat} {W X : World} {v : Value} {L : List Rt}
theorem R3.nil (T : TypeId) (B : Nat) (W : World) : R3 T B W (.slice none 0 0) [] := World.ownsRow_nil W B _ _
theorem R3.lt (h : R3 T B W v L) : ∀ g, v.ownBlock = some g → B ≤ g ∧ g < W.heap.size := World.ownsRow.lt h
theorem R3.open (h : R3 T B W v L) : ∃ p cap, v = .slice p L.length cap ∧ ∀ i x, L[i]? = some x → ∃ g, p = some ⟨g, 0, none⟩ ∧ g < W.heap.size ∧ B ≤ g ∧ W.cell? ⟨g, i * 3, none⟩ = some (.int .i64 x.1) ∧ W.cell? ⟨g, i * 3 + 1, none⟩ = some (.int .i64 (x.2.1 : Int)) ∧ W.cell? ⟨g, i * 3 + 2, none⟩ = some (.int .i64 (x.2.2 : Int)) := by
  rcases h.2 with ⟨rfl, h0⟩ | ⟨g, cap, cur, rfl, hB, hg, hc, _, _, ht⟩
  · refine ⟨none, 0, by rw [h0], fun i x hx => ?_⟩
    have := (List.getElem?_eq_some_iff.1 hx).1
    omega
  · refine ⟨_, cap, rfl, fun i x hx => ⟨g, rfl, (Array.getElem?_eq_some_iff.1 hg).1, hB, ?_⟩⟩
    have hi := (List.getElem?_eq_some_iff.1 hx).1
    obtain ⟨h1, h2, h3⟩ := rtc_get L i x hx
    have key : ∀ j u, (L.flatMap rtc)[j]? = some u → j < L.length * 3 → W.cell? ⟨g, j, none⟩ = some u := fun j u hu hj => by
      rw [cell_of_row W g j cur _ _ hg]
      have h1 := congrArg (·[j]?) ht
      simp only [List.getElem?_take] at h1
      rw [if_pos hj, hu] at h1
      simpa using h1
    exact ⟨key _ _ h1 (by omega), key _ _ h2 (by omega), key _ _ h3 (by omega)⟩
theorem R3.of_heap (h : R3 T B W v L) (e : ∀ g, v.ownBlock = some g → X.heap[g]? = W.heap[g]?) : R3 T B X v L := by
  refine ⟨h.1, ?_⟩
  rcases h.2 with h0 | ⟨g, cap, cur, rfl, hB, hg, r⟩
  · exact .inl h0
  · exact .inr ⟨g, cap, cur, rfl, hB, (e g rfl).trans hg, r⟩
theorem R3.stay (h : R3 T B W v L) (hb : Below W.heap.size W X) : R3 T B X v L := h.of_heap fun g e => hb.block g (h.lt g e).2
theorem R3.mono {B' : Nat} (h : R3 T B W v L) (hb : B' ≤ B) : R3 T B' W v L := by
  refine ⟨h.1, ?_⟩
  rcases h.2 with h0 | ⟨g, cap, cur, hv, hB, r⟩
  · exact .inl h0
  · exact .inr ⟨g, cap, cur, hv, Nat.le_trans hb hB, r⟩
theorem R3.more {x : Rt} (h : W.ownsRow B T 3 v (L.length + 1) (L.flatMap rtc ++ rtc x)) : R3 T B W v (L ++ [x]) := by
  unfold R3
  rw [List.length_append, List.flatMap_append, List.flatMap_singleton]
  exact h
end
theorem info_range : (Tryd.prog.info? 30).map (fun i => (i.zero, i.size, i.bytes)) = some (some (.agg #[.int .i64 0, .int .i64 0, .int .i64 0]), 3, 24) := by kernel_rfl
def AppP (T : TypeId) (B : Nat) (W : World) (L : List Rt) (e : Ending) (w' : World) : Prop := ∃ v, e = .returned v ∧ R3 T B w' v L ∧ Below B W w'
set_option maxRecDepth 100000 in
set_option maxHeartbeats 4000000 in
theorem ranges1_c {B : Nat} {W : World} (hB : B ≤ W.heap.size) {v : Value} {L : List Rt} (h : Hid (R3 30 B W v L)) (hl : L.length ≤ 1000) (k : Int) (x : Rt) : Calls Tryd.prog 28 #[v, .int .i64 k, .agg #[.int .i64 x.1, .int .i64 (x.2.1 : Int), .int .i64 (x.2.2 : Int)]] W (AppP 30 B W (L ++ [x])) := by
  obtain ⟨i0, hi, hz0, hz1, hz2⟩ := info_parts info_range
  obtain ⟨q, cq, ev, -⟩ := h.out.open
  subst ev
  go_enter Tryd.func28, Tryd.ntmps28
  go_wp2_with (at_builtin; refine wpList_append_own_at _ rfl _ _ 25 rfl B 30 i0 _ 3 24 Tryd.underlying25 hi hz0 hz1 hz2 rfl (by decide) (.slice q L.length cq) L.length (L.flatMap rtc) rfl (World.ownsRow.alloc (World.ownsRow.alloc h.out _) _) ⟨W.heap.size + 1, 0, none⟩ 1 1 (rtc x) rfl rfl ?c1 ?c2 ?c3 ?c4 ?c5 ?_)
  case c1 =>
    have := heap_alloc_new (W.alloc (.cells #[.int .i64 x.1, .int .i64 (x.2.1 : Int), .int .i64 (x.2.2 : Int)] 30)) (.cells #[.int .i64 x.1, .int .i64 (x.2.1 : Int), .int .i64 (x.2.2 : Int)] 30)
    rw [World.size_alloc] at this
    exact World.news_of_block this
  case c2 => intro y hy; simp [rtc] at hy; rcases hy with rfl | rfl | rfl <;> rfl
  case c3 => unfold maxLen; omega
  case c4 => omega
  case c5 => simp; omega
  intro v4 w4 hown hgrow _ hats
  have HG := Lib.hid (R3.more (x := x) hown)
  have HB4 : Hid (Below B W w4) := Lib.hid ((((Below.refl B W).alloc hB _).alloc (by simp; omega) _).grown hgrow (by simp; omega) fun z e => (h.out.lt z e).1)
  clear hown hgrow hats
  go_wp2
  go_ret
  exact ⟨v4, rfl, HG.out, HB4.out⟩
set_option maxRecDepth 100000 in
theorem sortedR_c {W : World} {b n : Nat} {f : KF} (h : KM 3 W b n f) (hn : n ≤ 1000000) : Calls Tryd.prog 50 #[.func (.func 68) #[] #[.pointer (some ⟨W.heap.size, 0, none⟩)]] (W.alloc (.cells #[.map (some b)] 46)) fun e w' => ∃ v L, e = .returned v ∧ SK f L ∧ L.length ≤ n ∧ Rw (W.heap.size + 1) w' v L ∧ Below (W.heap.size + 1) (W.alloc (.cells #[.map (some b)] 46)) w' := by
  obtain ⟨D, hown, h2⟩ := h
  have hbl := hown.lt
  obtain ⟨hk1, hk2⟩ := km_keys hown h2
  have hsz : Maps.size D ≤ n := by
    obtain ⟨es, clock, hb, F, hs, rfl⟩ := hown
    simp [Maps.size, length_sorted]
    exact hs
  have hseq : SeqGives Fence.wide 2 Tryd.prog 68 #[.pointer (some ⟨W.heap.size, 0, none⟩)] encZ (fun ss => ss.Perm (Go.intKeys D)) (Maps.size D) (W.alloc (.cells #[.map (some b)] 46)) :=
    AnyZI.keys_gives (ρ := Tryd.keysR_ren) { Tryd.keysR with } Fence.wide _ trivial rfl (by omega) W.heap.size b n D _ (by simp) (by simp) (by
      obtain ⟨es, clock, hb, Ft, hs, hD⟩ := hown
      exact ⟨es, clock, (Below.heap_alloc _ _ b hbl).trans hb, Ft, hs, hD⟩)
  have cS := AnyZI.sorted_in Tryd.sortedI Fence.wide 5 trivial trivial trivial trivial rfl (by omega) (sortsI _) (enters_of Tryd.func67 (by kernel_rfl) rfl) 68 #[.pointer (some ⟨W.heap.size, 0, none⟩)] trivial (enters_of Tryd.func68 (by kernel_rfl) rfl) _ _ (show Maps.size D ≤ maxLen by unfold maxLen; omega) (by omega) _ hseq
  refine (callsIn_wide.1 cS).mono ?_
  rintro e w' ⟨v, ss, rfl, hS, hrow, hnil, hb⟩
  have e1 : (W.alloc (.cells #[.map (some b)] 46)).heap.size = W.heap.size + 1 := by simp
  rw [e1] at hrow hb
  refine ⟨v, _, rfl, sk_of hS hk1 hk2, ?_, ?_, hb⟩
  · rw [List.length_mergeSort, hS.length_eq]
    have e2 : (Go.intKeys D).length = Maps.size D := by
      obtain ⟨es, clock, hb, F, hs, rfl⟩ := hown
      simp [Go.intKeys, Maps.size]
    omega
  · unfold Rw
    rw [List.length_mergeSort]
    exact hrow
/-- The ranges of a map, by rising registers. -/
def gl (g : WG) (k : Int) : Rt := match g k with | some p => (k, p.1, p.2) | none => (k, 0, 0)
theorem gl_some {g : WG} {k : Int} {p : Nat × Nat} (h : g k = some p) : gl g k = (k, p.1, p.2) := by unfold gl; rw [h]
def RowG (W : World) (g : WG) (e : Ending) (w' : World) : Prop := ∃ v ks, e = .returned v ∧ SK (WGF g) ks ∧ R3 30 W.heap.size w' v (ks.map (gl g)) ∧ ks.length ≤ 64 ∧ Below W.heap.size W w'
set_option maxRecDepth 100000 in
set_option maxHeartbeats 4000000 in
theorem rowR_c {W : World} {b : Nat} {g : WG} (h : Hid (KM 3 W b 64 (WGF g))) (h64 : Hid (∀ k p, g k = some p → 0 ≤ k ∧ k < 64)) : Calls Tryd.prog 27 #[.map (some b), .func (.func 28) #[] #[]] W (RowG W g) := by
  have HSO := Lib.hid (sortedR_c h.out (by omega))
  have eg : ∀ args w, (callFunc 28 args).run Tryd.prog w = .ok (.enter 28 args) w := enters_of Tryd.func28 (by kernel_rfl) rfl
  have hbl := h.out.lt
  go_enter Tryd.func27, Tryd.ntmps27
  go_upto_region 3 with (first
    | (go_at_call 51; (with_reducible refine (keysR_c (some b) _).mono ?_); rintro e1 w1 ⟨rfl, rfl⟩)
    | (go_at_call 50; (with_reducible refine HSO.out.mono ?_); rintro e2 w2 ⟨v2, L, rfl, hsk, hln, hrow, hb2⟩; have HV := Lib.hid (And.intro hsk (And.intro hrow hb2)); obtain ⟨q2, c2, rfl, -⟩ := hrow.gv.open; clear hsk hrow hb2))
  have hbw : Below W.heap.size W w2 := (below1 W _).trans (HV.out.2.2.mono (by omega))
  have HB2 := Lib.hid hbw
  obtain ⟨_, _, e', hrv, -⟩ := GV.rv HV.out.2.1.gv
  cases e'
  have HRV : Hid (RV w2 q2 L.length (ivl L)) := Lib.hid hrv
  clear hbw hrv
  go_loopw [5, 12] (fun a5 a12 wr => ∃ (i : Nat) (v : Value), v = a5 ∧ a12 = .int .i64 i ∧ i ≤ L.length ∧ Hid (Below w2.heap.size w2 wr ∧ R3 30 w2.heap.size wr v ((L.take i).map (gl g)))) (fun _ a12 _ => L.length - (intOf a12).toNat)
  case atStart => exact ⟨0, _, rfl, rfl, Nat.zero_le _, Lib.hid ⟨Below.refl _ _, R3.nil _ _ _⟩⟩
  case round =>
    obtain ⟨wo, rfl⟩ : ∃ wo : World, wo = wr := ⟨_, rfl⟩
    obtain ⟨i, v, rfl, rfl, hi, HR⟩ := hrel
    by_cases hlt : i < L.length
    · obtain ⟨k, hk⟩ : ∃ k, L[i]? = some k := ⟨_, List.getElem?_eq_getElem hlt⟩
      obtain ⟨gq, o, rfl, -, ic⟩ := (HRV.out.stay HR.out.1) i hlt
      have ie : ivl L i = .int .i64 k := by simp [ivl, List.getD_eq_getElem?_getD, hk]
      rw [ie] at ic
      have hks : (WGF g k).isSome = true := (HV.out.1.2 k).1 (List.mem_of_getElem? hk)
      obtain ⟨p, hp⟩ : ∃ p, g k = some p := by
        cases hg : g k with
        | none => rw [wgf_none hg] at hks; cases hks
        | some p => exact ⟨p, rfl⟩
      have hk64 := h64.out k p hp
      have hkr : keyOf Tryd.prog 3 (.int .i64 k) = some (.int .i64 k) := keyI (by unfold In6; omega)
      have hKo := h.out.same ((HB2.out.trans (HR.out.1.mono HB2.out.size)).block b hbl)
      have hlk := hKo.look_ok keyedI Tryd.underlying46 (zeroR wo) hkr false
      rw [wgf_some hp] at hlk
      simp only [Option.getD_some, Bool.false_eq_true, if_false] at hlk
      have hll : ((L.take i).map (gl g)).length ≤ 1000 := by rw [List.length_map, List.length_take]; omega
      have HC := Lib.hid (ranges1_c HR.out.1.size (Lib.hid HR.out.2) hll k (k, p.1, p.2))
      have HN : Hid ((L.take (i + 1)).map (gl g) = (L.take i).map (gl g) ++ [(k, p.1, p.2)]) := Lib.hid (by rw [List.take_add_one, hk, List.map_append]; simp [gl_some hp])
      rw [← HN.out] at HC
      clear ie hk hks hp hk64 hkr hKo hll
      go_wp2_with (go_at_call 28; (with_reducible refine HC.out.mono ?_); rintro e5 w5 ⟨v5, rfl, hr5, hb5⟩; have HV5 := Lib.hid (And.intro hr5 hb5); clear hr5 hb5)
      go_roundw
      case rel => exact ⟨i + 1, v5, rfl, by go_num, by omega, Lib.hid ⟨HR.out.1.trans HV5.out.2, HV5.out.1⟩⟩
      case measure => (simp [intOf]; try omega)
    · obtain rfl : i = L.length := by omega
      go_wp2
      go_ret
      have h2 := HR.out.2
      rw [List.take_length] at h2
      exact ⟨v, L, rfl, HV.out.1, h2.mono HB2.out.size, hln, HB2.out.trans (HR.out.1.mono HB2.out.size)⟩
end Go.Proofs.YthodpkcjdbkdnaaDoor
namespace Go.Proofs.YthodpkcjdbkdnaaDoor
open Go Go.RowKit Gm

/-- The ranges of all registers, rising. -/
structure IsRng (c : List Ic) (L : List Rt) : Prop where
  up : (L.map (·.1)).Pairwise (· < ·)
  mem : ∀ r, r ∈ L.map (·.1) ↔ ∃ i, Pl c r i
  pl : ∀ x, x ∈ L → Pl c x.1 x.2.1 ∧ Pl c x.1 x.2.2 ∧ ∀ i, Pl c x.1 i → x.2.1 ≤ i ∧ i ≤ x.2.2
theorem IsRng.one {c : List Ic} {L M : List Rt} (h : IsRng c L) (k : IsRng c M) : L = M := by
  have e : L.map (·.1) = M.map (·.1) := up_sameI h.up k.up fun t => (h.mem t).trans (k.mem t).symm
  apply List.ext_getElem?
  intro i
  have ei := congrArg (·[i]?) e
  simp only [List.getElem?_map] at ei
  cases hL : L[i]? with
  | none =>
    rw [hL] at ei
    cases hM : M[i]? with
    | none => rfl
    | some y => rw [hM] at ei; cases ei
  | some x =>
    rw [hL] at ei
    cases hM : M[i]? with
    | none => rw [hM] at ei; cases ei
    | some y =>
      rw [hM] at ei
      have e1 : x.1 = y.1 := by simpa using ei
      obtain ⟨a1, a2, a3⟩ := h.pl x (List.mem_of_getElem? hL)
      obtain ⟨b1, b2, b3⟩ := k.pl y (List.mem_of_getElem? hM)
      rw [← e1] at b1 b2 b3
      have c1 := a3 _ b1
      have c2 := a3 _ b2
      have c3 := b3 _ a1
      have c4 := b3 _ a2
      obtain ⟨x1, x2, x3⟩ := x
      obtain ⟨y1, y2, y3⟩ := y
      simp only at e1 c1 c2 c3 c4 ⊢
      rw [e1, show x2 = y2 by omega, show x3 = y3 by omega]
theorem rng_of {c : List Ic} {T : Int → Nat → Prop} {g : WG} {ks : List Int} (hc : Cov c T) (hw : Wd T g) (hk : SK (WGF g) ks) : IsRng c (ks.map (gl g)) := by
  have e1 : (ks.map (gl g)).map (·.1) = ks := by
    rw [List.map_map]
    conv => rhs; rw [← List.map_id ks]
    refine List.map_congr_left fun k _ => ?_
    show (gl g k).1 = k
    unfold gl
    cases g k <;> rfl
  refine ⟨by rw [e1]; exact hk.1, fun r => ?_, fun x hx => ?_⟩
  · rw [e1, hk.2]
    have := hw r
    cases hg : g r with
    | none =>
      rw [hg] at this
      rw [wgf_none hg]
      refine ⟨fun h => (by cases h), fun ⟨i, hi⟩ => ?_⟩
      obtain ⟨j, _, hj⟩ := hc.fst r i hi
      exact absurd hj (this j)
    | some p =>
      rw [hg] at this
      rw [wgf_some hg]
      exact ⟨fun _ => ⟨p.1, hc.of r _ this.1⟩, fun _ => rfl⟩
  · obtain ⟨k, hkm, rfl⟩ := List.mem_map.1 hx
    have hs := (hk.2 k).1 hkm
    have := hw k
    cases hg : g k with
    | none => rw [wgf_none hg] at hs; cases hs
    | some p =>
      rw [hg] at this
      rw [gl_some hg]
      refine ⟨hc.of k _ this.1, hc.of k _ this.2.1, fun i hi => ?_⟩
      obtain ⟨j, h1, h2⟩ := hc.fst k i hi
      obtain ⟨j', h3, h4⟩ := hc.lst k i hi
      have h5 := this.2.2 j h2
      have h6 := this.2.2 j' h4
      simp only
      omega
def RngsP (W : World) (c : List Ic) (e : Ending) (w' : World) : Prop := ∃ v L, e = .returned v ∧ IsRng c L ∧ R3 30 W.heap.size w' v L ∧ L.length ≤ 64 ∧ Below W.heap.size W w'
set_option maxRecDepth 100000 in
set_option maxHeartbeats 4000000 in
theorem lranges_c {W : World} {p : Option Addr} {cap : Nat} {c : List Ic} (hc : Hid (CodeAt W p c)) (E : Hid (En W)) (hsm : Hid (Sm c)) (hn : c.length ≤ 50000) : Calls Tryd.prog 9 #[.slice p c.length cap] W (RngsP W c) := by
  have hmm := @run_makeMap Tryd.prog
  go_enter Tryd.func9, Tryd.ntmps9
  go_upto_region 2 with (fail)
  refine name_world ?_
  intro V1 hV1
  obtain ⟨b, hb⟩ : ∃ b, W.heap.size = b := ⟨_, rfl⟩
  have HV1 : Hid (Below W.heap.size W V1 ∧ WM V1 b fun _ _ => False) := Lib.hid (by rw [hV1, ← hb]; exact ⟨below1 W _, WM.made W⟩)
  have HB := Lib.hid hb
  try rw [hb]
  clear hV1 hb
  have HE1 := Lib.hid (E.out.below HV1.out.1)
  have HTO := Lib.hid (touch_c (cap := cap) hc (Lib.hid HV1.out.1) (Nat.le_of_eq HB.out) HE1 hsm hn (Lib.hid HV1.out.2))
  go_upto_region 3 with (go_at_call 24; (with_reducible refine HTO.out.mono ?_); rintro e2 w2 ⟨rfl, hw2, hc2⟩; have HW2 := Lib.hid (And.intro hw2 hc2); clear hw2 hc2)
  have hW2 : Below W.heap.size W w2 := HV1.out.1.trans (HW2.out.2.below HV1.out.1.size fun z hz e => by have := HB.out; omega)
  have HBW2 := Lib.hid hW2
  have HE2 := Lib.hid (E.out.below hW2)
  have HND := Lib.hid (needs_c (cap := cap) (Lib.hid (hc.out.stay hW2)) HE2 hsm hn)
  have hbl2 := HW2.out.1.bl
  clear hW2
  go_upto_region 4 with (first
    | (go_at_call 26; (with_reducible refine HND.out.mono ?_); rintro e3 w3 ⟨nb, K, fs, es, gt, gf, vs, va, bs, A, rfl, hnd, hb3⟩; have HB3 := Lib.hid hb3; have HNE := Lib.hid (need_c (Lib.hid hnd) hbl2 (Lib.hid (HE2.out.below hb3)) hsm hn (Lib.hid (HW2.out.1.stay hb3))); clear hnd hb3)
    | (go_at_call 25; (with_reducible refine HNE.out.mono ?_); rintro e4 w4 ⟨rfl, T, hw4, hcov, hc4⟩; have HW4 := Lib.hid (And.intro hw4 (And.intro hcov hc4)); clear hw4 hcov hc4))
  obtain ⟨g, hk, hwd⟩ := HW4.out.1.ex
  have HWD := Lib.hid hwd
  have HRO := Lib.hid (rowR_c (Lib.hid hk) (Lib.hid fun k p hp => by
    have h1 := hwd k
    rw [hp] at h1
    have h2 := HW4.out.1.lt k _ h1.1
    exact ⟨h2.1, h2.2.1⟩))
  clear hk hwd
  go_wp2_with (go_at_call 27; (with_reducible refine HRO.out.mono ?_); rintro e5 w5 ⟨v5, ks, rfl, hsk, hr5, hl5, hb5⟩; have HV5 := Lib.hid (And.intro hsk (And.intro hr5 (And.intro hl5 hb5))); clear hsk hr5 hl5 hb5)
  go_ret
  have h3 : Below W.heap.size W w3 := HBW2.out.trans (HB3.out.mono HBW2.out.size)
  have h4 : Below W.heap.size W w4 := h3.trans (HW4.out.2.2.below h3.size fun z hz e => by have := HB.out; omega)
  exact ⟨v5, _, rfl, rng_of HW4.out.2.1 HWD.out HV5.out.1, HV5.out.2.1.mono h4.size, by rw [List.length_map]; exact HV5.out.2.2.1, h4.trans (HV5.out.2.2.2.mono h4.size)⟩
end Go.Proofs.YthodpkcjdbkdnaaDoor
namespace Go.Proofs.YthodpkcjdbkdnaaDoor
open Go Go.RowKit Gm

set_option maxRecDepth 100000 in
set_option maxHeartbeats 2000000 in
theorem rhas_q {W : World} {p : Option Addr} {cp : Nat} {l : List Int} (hp : Hid (RV W p l.length (ivl l))) (hl : l.length ≤ 1000000) (n : Int) :
    Calls Tryd.prog 29 #[.slice p l.length cp, .int .i64 n] W fun e w' => e = .returned (.bool (decide (n ∈ l))) ∧ w' = W := by
  obtain ⟨ans, hans⟩ : ∃ b, decide (n ∈ l) = b := ⟨_, rfl⟩
  rw [hans]
  have HA := Lib.hid hans
  clear hans
  go_enter Tryd.func29, Tryd.ntmps29
  go_wp2
  go_loop [5] (fun a => ∃ j : Nat, a = .int .i64 j ∧ j ≤ l.length ∧ Hid (∀ i, i < j → l.getD i 0 ≠ n)) (fun a => l.length - (intOf a).toNat)
  case atStart => exact ⟨0, rfl, Nat.zero_le _, Lib.hid fun i h => absurd h (Nat.not_lt_zero _)⟩
  case round =>
    obtain ⟨j, rfl, hj, HR⟩ := hrel
    by_cases hlt : j < l.length
    · obtain ⟨g, o, rfl, -, i1⟩ := hp.out j hlt
      simp only [ivl] at i1
      have hin := ivl_in hlt
      obtain ⟨z, hz⟩ : ∃ z, l.getD j 0 = z := ⟨_, rfl⟩
      rw [hz] at i1 hin
      by_cases he : z = n
      · subst he
        obtain rfl : ans = true := by rw [← HA.out]; exact decide_eq_true hin
        clear hz hin
        go_wp2
        go_ret
        exact ⟨rfl, rfl⟩
      · have HE : Hid (l.getD j 0 ≠ n) := Lib.hid (by rw [hz]; exact he)
        clear hz hin
        go_wp2
        go_round
        case rel => exact ⟨j + 1, by go_num, by omega, Lib.hid fun i hi => by
          by_cases e : i = j
          · rw [e]; exact HE.out
          · exact HR.out i (by omega)⟩
        case measure => (simp [intOf]; try omega)
    · obtain rfl : j = l.length := by omega
      obtain rfl : ans = false := by
        rw [← HA.out]
        refine decide_eq_false fun hm => ?_
        obtain ⟨j, hj, e⟩ := ivl_of hm
        exact HR.out j hj e
      go_wp2
      go_ret
      exact ⟨rfl, rfl⟩
end Go.Proofs.YthodpkcjdbkdnaaDoor
namespace Go.Proofs.YthodpkcjdbkdnaaDoor
open Go Go.RowKit Gm
open Classical
/-- A register is needed ahead of one of the first ones. -/
def Bk (c : List Ic) (r : Int) (O : List Nat) (j : Nat) : Prop := ∃ (q y : Nat), q < j ∧ O[q]? = some y ∧ Nd c r y
theorem Bk.zero {c : List Ic} {r : Int} {O : List Nat} : ¬ Bk c r O 0 := fun ⟨_, _, h, _⟩ => absurd h (Nat.not_lt_zero _)
theorem Bk.succ {c : List Ic} {r : Int} {O : List Nat} {j y : Nat} (hy : O[j]? = some y) : Bk c r O (j + 1) ↔ Bk c r O j ∨ Nd c r y := by
  constructor
  · rintro ⟨q, z, a, b, d⟩
    by_cases e : q = j
    · subst e
      rw [hy] at b
      cases b
      exact .inr d
    · exact .inl ⟨q, z, by omega, b, d⟩
  · rintro (⟨q, z, a, b, d⟩ | d)
    · exact ⟨q, z, by omega, b, d⟩
    · exact ⟨j, y, by omega, hy, d⟩
theorem Bk.all {c : List Ic} {r : Int} {i : Nat} : Bk c r (outs c i) (outs c i).length ↔ Bh c r i := by
  constructor
  · rintro ⟨q, y, _, b, d⟩
    exact ⟨y, List.mem_of_getElem? b, d⟩
  · rintro ⟨y, hy, d⟩
    obtain ⟨q, hq, e⟩ := List.mem_iff_getElem.1 hy
    exact ⟨q, y, hq, by rw [List.getElem?_eq_getElem hq, e], d⟩
set_option maxRecDepth 100000 in
set_option maxHeartbeats 8000000 in
theorem behind_c {W : World} {p : Option Addr} {cap : Nat} {c : List Ic} (hc : Hid (CodeAt W p c)) (hn : c.length ≤ 100000) : Calls Tryd.prog 15 #[.slice p c.length cap] W fun e w' => ∃ v, e = .returned v ∧ (∀ X, Kp W w' X → Rows2 X v c.length (fun X i u => NRI X u fun r => Bh c r i)) ∧ Below W.heap.size W w' := by
  have hmk := make_ii c.length (by omega)
  go_enter Tryd.func15, Tryd.ntmps15
  go_upto_region 2 with (fail)
  refine name_world ?_
  intro V0 hV0
  obtain ⟨b, hb⟩ : ∃ b, W.heap.size = b := ⟨_, rfl⟩
  have HV0 : Hid (Below W.heap.size W V0 ∧ FV 36 V0 b c.length (fun _ => .slice none 0 0)) := Lib.hid (by
    rw [hV0, ← hb]
    exact ⟨below1 W _, FV.new rfl (by simp)⟩)
  have HB := Lib.hid hb
  try rw [hb]
  clear hV0 hb hmk
  have HC0 : Hid (CodeAt V0 p c) := Lib.hid (hc.out.stay HV0.out.1)
  go_upto_region 3 with (go_at_call 13; ((with_reducible refine (ahead_c HC0 hn).mono ?_); rintro e0 V1 ⟨v0, rfl, ha, hbl⟩; obtain ⟨pa, ca, S0, rfl, -, -⟩ := ha V1 (Kp.refl _ _); have HV1 := Lib.hid (And.intro ha hbl); clear ha hbl))
  have HC1 : Hid (CodeAt V1 p c) := Lib.hid (HC0.out.stay HV1.out.2)
  have HF1 : Hid (FV 36 V1 b c.length (fun _ => .slice none 0 0)) := Lib.hid (HV0.out.2.stay HV1.out.2)
  go_upto_region 4 with (go_at_call 22; ((with_reducible refine (regs_c HC1 hn).mono ?_); rintro e1 V ⟨v, L, rfl, hr, hL, hbl⟩; obtain ⟨qr, cr, rfl, hq⟩ := hr.gv.open; have HV := Lib.hid (And.intro hr.gv (And.intro hL hbl)); clear hr hL hbl hq))
  have hLl := HV.out.2.1.len
  have HP : Hid (Pi W V V b c.length (fun z => if z = b then 4 else 0) (fun _ => .slice none 0 0) (rows9 (fun i r => Bh c r i) L 0 0)) := Lib.hid (by
    have h1 := HF1.out.stay HV.out.2.2
    refine ⟨(HV0.out.1.trans (HV1.out.2.mono HV0.out.1.size)).trans (HV.out.2.2.mono (Nat.le_trans HV0.out.1.size HV1.out.2.size)), Ch.refl _ _, ⟨h1, if_pos rfl, fun x _ => ?_, fun x _ g e => by cases e⟩, by rw [HB.out]; exact Nat.le_refl _, h1.lt⟩
    have : rows9 (fun i r => Bh c r i) L 0 0 x = [] := by
      unfold rows9
      rw [if_neg (Nat.not_lt_zero _)]
      split <;> rfl
    rw [this]
    exact GV.nil _ _ _ _)
  have HRV : Hid (∀ X, Ch (fun z => z = b) V X → ∀ k r, L[k]? = some r → ∃ g, qr = some ⟨g, 0, none⟩ ∧ X.cell? ⟨g, k, none⟩ = some (.int .i64 r) ∧ g < X.heap.size ∧ g ≠ b) := Lib.hid fun X hX k r hk => by
    obtain ⟨q, cq, e, hq⟩ := HV.out.1.open
    cases e
    have hkl := (List.getElem?_eq_some_iff.1 hk).1
    obtain ⟨g, rfl, -, hg, hgb, -, -, hcell⟩ := hq.resolve_left (fun e => by omega)
    have hbv := HF1.out.lt
    have hne : g ≠ b := by omega
    refine ⟨g, rfl, (hX.cell hg hne).trans ?_, Nat.lt_of_lt_of_le hg hX.size, hne⟩
    rw [hcell k hkl]
    simp [iv, List.getD_eq_getElem?_getD, hk]
  have HAR : Hid (∀ X, Ch (fun z => z = b) V X → ∃ S, RV X pa c.length S ∧ ∀ y, y < c.length → NRI X (S y) fun r => Nd c r y) := Lib.hid fun X hX => by
    have hb0 := HV0.out.2.lt
    obtain ⟨q, cq, S, e, h1, h2⟩ := HV1.out.1 X ⟨Nat.le_trans HV.out.2.2.size hX.size, fun k h1 h2 => (hX.block k (Nat.lt_of_lt_of_le h2 HV.out.2.2.size) (by omega)).trans (HV.out.2.2.block k h2)⟩
    cases e
    exact ⟨S, h1, h2⟩
  go_wp2
  go_loopw [6] (fun a wr => ∃ (i : Nat) (own : Nat → Nat) (F : Nat → Value), a = .int .i64 i ∧ i ≤ c.length ∧ Hid (Pi W V wr b c.length own F (rows9 (fun i r => Bh c r i) L i 0))) (fun a _ => c.length - (intOf a).toNat)
  case atStart => exact ⟨0, _, _, rfl, Nat.zero_le _, HP⟩
  case round =>
    clear HP
    obtain ⟨wo, rfl⟩ : ∃ wo : World, wo = wr := ⟨_, rfl⟩
    obtain ⟨i, own, F, rfl, hi, HR⟩ := hrel
    by_cases hlt : i < c.length
    · have HNx := Lib.hid (next_c (cap := cap) (Lib.hid (hc.out.stay HR.out.bel)) (Nat.le_trans hn (by decide)) hlt)
      obtain ⟨O, hO⟩ : ∃ O, outs c i = O := ⟨_, rfl⟩
      have hOl : O.length ≤ 2 := hO ▸ outs_len c i
      rw [hO] at HNx
      have HO := Lib.hid hO
      clear hO
      go_upto_region 8 with (go_at_call 21; ((with_reducible refine HNx.out.mono ?_); rintro e5 wn ⟨v5, rfl, hg5, hb5⟩; obtain ⟨q5, c5, rfl, -⟩ := hg5.open; have HN := Lib.hid (And.intro hg5 hb5); clear hg5 hb5))
      have HSn := Lib.hid (HR.out.stay HN.out.2)
      have hns := HN.out.2.size
      go_wp2
      go_loopw [8] (fun a wr => ∃ (k : Nat) (own : Nat → Nat) (F : Nat → Value), a = .int .i64 k ∧ k ≤ L.length ∧ Hid ((∀ x gb, x < c.length → (F x).ownBlock = some gb → gb < wo.heap.size ∨ wn.heap.size ≤ gb) ∧ Ch (fun z => z < wo.heap.size) wn wr) ∧ Hid (Pi W V wr b c.length own F (rows9 (fun i r => Bh c r i) L i k))) (fun a _ => L.length - (intOf a).toNat)
      case atStart => exact ⟨0, own, F, rfl, Nat.zero_le _, Lib.hid ⟨fun x gb hx e => .inl ((HR.out.wt.rw x hx).lt gb e).2, Ch.refl _ _⟩, HSn⟩
      case round =>
        obtain ⟨wi, rfl⟩ : ∃ wo : World, wo = wr := ⟨_, rfl⟩
        obtain ⟨k, own, F, rfl, hk, HM, HK⟩ := hrel
        by_cases hkl : k < L.length
        · obtain ⟨r, hr⟩ : ∃ r, L[k]? = some r := ⟨_, List.getElem?_eq_getElem hkl⟩
          have HRr := Lib.hid hr
          obtain ⟨gr, eqr, ir, hgr, hgb⟩ := HRV.out wi HK.out.ch k r hr
          subst eqr
          clear hr
          have HCo : Hid (∀ (j y : Nat), O[j]? = some y → ∃ g, q5 = some ⟨g, 0, none⟩ ∧ wi.cell? ⟨g, j, none⟩ = some (.int .i64 (y : Int))) := Lib.hid fun j y hy => by
            obtain ⟨q', c', e', hq⟩ := HN.out.1.open
            cases e'
            have hjl := (List.getElem?_eq_some_iff.1 hy).1
            obtain ⟨g5, rfl, -, hg5, hg5o, -, -, hcell⟩ := hq.resolve_left (fun e => by omega)
            refine ⟨g5, rfl, (HM.out.2.cell (o := j) hg5 (by omega)).trans ((hcell j hjl).trans ?_)⟩
            simp [lv, hy]
          obtain ⟨SA, hSA, hNA⟩ := HAR.out wi HK.out.ch
          have HSA := Lib.hid (And.intro hSA hNA)
          clear hSA hNA
          go_wp2
          go_loopw [9, 10] (fun a9 a10 wr => ∃ (j : Nat) (nb : Bool), a9 = .bool nb ∧ a10 = .int .i64 j ∧ j ≤ O.length ∧ Hid (Below wi.heap.size wi wr ∧ (nb = true ↔ Bk c r O j))) (fun _ a10 _ => O.length - (intOf a10).toNat)
          case atStart => exact ⟨0, false, rfl, rfl, Nat.zero_le _, Lib.hid ⟨Below.refl _ _, ⟨fun e => (by cases e), fun h => absurd h Bk.zero⟩⟩⟩
          case round =>
           obtain ⟨w5, rfl⟩ : ∃ wo : World, wo = wr := ⟨_, rfl⟩
           obtain ⟨j, tb, rfl, rfl, hj, HJ⟩ := hrel
           by_cases hjO : j < O.length
           · obtain ⟨y, hy⟩ : ∃ y, O[j]? = some y := ⟨_, List.getElem?_eq_getElem hjO⟩
             have hyn : y < c.length := (outs_lt (c := c) (i := i) (by rw [HO.out]; exact List.mem_of_getElem? hy)).2
             have HY := Lib.hid hy
             obtain ⟨g5, e5, iO⟩ := HCo.out j y hy
             subst e5
             have lO : g5 < wi.heap.size := by
               have := iO
               unfold World.cell? at this
               split at this
               · rename_i e
                 exact (Array.getElem?_eq_some_iff.1 e).1
               · cases this
             have iO5 := (HJ.out.1.cell (p := ⟨g5, j, none⟩) lO).trans iO
             have ir5 := (HJ.out.1.cell (p := ⟨gr, k, none⟩) hgr).trans ir
             obtain ⟨ga, oa, ea, hga, iA⟩ := HSA.out.1 y hyn
             subst ea
             have iA5 := (HJ.out.1.cell (p := ⟨ga, oa + y, none⟩) hga).trans iA
             obtain ⟨la, ⟨pl, cl, el, hla⟩, hl1, -, hl3⟩ := HSA.out.2 y hyn
             rw [el] at iA5
             have HLA : Hid (RV w5 pl la.length (ivl la)) := Lib.hid (hla.stay HJ.out.1)
             have HL3 := Lib.hid (hl3 r)
             clear hla hl3 el iA iO ir hy
             cases tb with
             | true =>
               have HE : Hid (Bk c r O (j + 1)) := Lib.hid ((Bk.succ HY.out).2 (.inl (HJ.out.2.1 rfl)))
               clear iO5 ir5 iA5
               go_wp2
               go_quiet (fail)
               go_wp2
               go_roundw
               case rel => exact ⟨j + 1, true, rfl, by go_num, by omega, Lib.hid ⟨below_like HJ.out.1 rfl rfl rfl rfl, ⟨fun _ => HE.out, fun _ => rfl⟩⟩⟩
               case measure => (simp [intOf]; try omega)
             | false =>
               have HE : Hid (decide (r ∈ la) = true ↔ Bk c r O (j + 1)) := Lib.hid (by
                 rw [decide_eq_true_eq, HL3.out, Bk.succ HY.out]
                 exact ⟨.inr, fun h => h.resolve_left fun h => by have := HJ.out.2.2 h; cases this⟩)
               obtain ⟨tn, htn⟩ : ∃ t, decide (r ∈ la) = t := ⟨_, rfl⟩
               have HQ : Hid (∀ n, Calls Tryd.prog 29 #[.slice pl la.length cl, .int .i64 r] (w5.drewN n) fun e w' => e = .returned (.bool tn) ∧ w' = w5.drewN n) := Lib.hid fun n => by
                 rw [← htn]
                 exact rhas_q (Lib.hid (show RV (w5.drewN n) pl la.length (ivl la) from HLA.out)) hl1 r
               rw [htn] at HE
               clear htn
               go_wp2
               go_quiet ((go_at_call 29; exact Calls.quiet_of_same (HQ.out _)))
               go_wp2
               go_roundw
               case rel => exact ⟨j + 1, tn, rfl, by go_num, by omega, Lib.hid ⟨below_like HJ.out.1 rfl rfl rfl rfl, HE.out⟩⟩
               case measure => (simp [intOf]; try omega)
           · obtain rfl : j = O.length := by omega
             have H5 : Hid ((tb = true ↔ Bh c r i) ∧ Below wi.heap.size wi w5) := Lib.hid ⟨HJ.out.2.trans (by rw [← HO.out]; exact Bk.all), HJ.out.1⟩
             have HM5 : Hid (Ch (fun z => z < wo.heap.size) wn w5) := Lib.hid (HM.out.2.stepB HJ.out.1)
             have h5s := HJ.out.1.size
             have hms := HM.out.2.size
             clear HCo HSA
             have HS5 := Lib.hid (HK.out.stay H5.out.2)
             clear ir
             cases tb with
             | false =>
               have HE := Lib.hid (rows9_no (T := fun i r => Bh c r i) (i := i) HRr.out fun h => by have := H5.out.1.2 h; cases this)
               go_wp2
               go_roundw
               case rel => exact ⟨k + 1, own, F, by go_num, by omega, Lib.hid ⟨HM.out.1, HM5.out.like rfl rfl rfl rfl⟩, Lib.hid ((HS5.out.to fun t _ => (HE.out t).symm).like rfl rfl rfl rfl)⟩
               case measure => (simp [intOf]; try omega)
             | true =>
               have HE := Lib.hid (rows9_yes (T := fun i r => Bh c r i) (i := i) HRr.out (H5.out.1.1 rfl))
               obtain ⟨g', e', ir, hgr5, -⟩ := HRV.out w5 HS5.out.ch k r HRr.out
               cases e'
               have iF := HS5.out.wt.fv.cell hlt
               have fF := HS5.out.wt.fv.frozen i
               obtain ⟨pF, cF, eF, -⟩ := (HS5.out.wt.rw i hlt).open
               have hgF := HS5.out.wt.rw i hlt
               rw [eF] at iF hgF
               have HEF := Lib.hid eF
               have hpl := rows9_len (fun i r => Bh c r i) L i k i
               obtain ⟨R, hR⟩ : ∃ R, rows9 (fun i r => Bh c r i) L i k i = R := ⟨_, rfl⟩
               simp only [hR] at iF hgF hpl HEF
               have HGF := Lib.hid hgF
               have HRq := Lib.hid hR
               have hbi := HS5.out.wt.fv.lt
               have hsb := HS5.out.ch.size
               have hby : ∀ X v', Apd w5 X (.slice pF R.length cF) v' → X.cell? ⟨b, i, none⟩ = some (.slice pF R.length cF) ∧ X.frozen? ⟨b, i, none⟩ = false ∧ b < X.heap.size := fun X v' hX => by
                 have h := HS5.out.wt.fv.ch hX.1 fun e => by
                   have h1 := (hgF.lt _ e).1
                   have h2 := HS5.out.g.2
                   omega
                 exact ⟨(h.cell hlt).trans (congrArg some HEF.out), h.frozen i, h.lt⟩
               have HBy := Lib.hid hby
               obtain ⟨j0, hj0, hy0, hy1, hy2⟩ := info_parts info_int
               have HNX8 : Hid (∀ (w8 : World) (gg cap8 : Nat), Apd w5 w8 (.slice pF R.length cF) (.slice (some ⟨gg, 0, none⟩) (R.length + 1) cap8) → GV 3 V.heap.size w8 (.slice (some ⟨gg, 0, none⟩) (R.length + 1) cap8) (R.length + 1) (upd (ivl R) R.length (.int .i64 r)) →
                   ((∀ x gb, x < c.length → (upd F i (.slice (some ⟨gg, 0, none⟩) (R.length + 1) cap8) x).ownBlock = some gb → gb < wo.heap.size ∨ wn.heap.size ≤ gb) ∧ Ch (fun z => z < wo.heap.size) wn (w8.setCell ⟨b, i, none⟩ (.slice (some ⟨gg, 0, none⟩) (R.length + 1) cap8))) ∧ Pi W V (w8.setCell ⟨b, i, none⟩ (.slice (some ⟨gg, 0, none⟩) (R.length + 1) cap8)) b c.length (tag own w5.heap.size (10 + i)) (upd F i (.slice (some ⟨gg, 0, none⟩) (R.length + 1) cap8)) (rows9 (fun i r => Bh c r i) L i (k + 1))) := Lib.hid fun w8 gg cap8 hA hG => by
                 rw [← HEF.out] at hA
                 have := HS5.out.app (u := r) hlt hA (by rw [HRq.out]; exact hG)
                 have hbo := HR.out.wt.fv.lt
                 refine ⟨⟨fun x gb hx e => ?_, ?_⟩, this.to fun t _ => (HE.out t).symm⟩
                 · by_cases ex : x = i
                   · rw [ex, upd_at] at e
                     rcases hA.2 with h | ⟨g', h, h2⟩
                     · exact HM.out.1 i gb hlt (h.symm.trans e)
                     · rw [h] at e
                       cases e
                       exact .inr (by omega)
                   · rw [upd_of ex] at e
                     exact HM.out.1 x gb hx e
                 · refine (HM5.out.fresh hA.1 fun z hz e => ?_).set (b := b) (.inl hbo) i _
                   have := HM.out.1 i z hlt e
                   omega
               clear hgF eF hR hby
               go_upto_region 17 with (fail)
               go_region_law (refine step_append_lies _ (by rfl) _ _ _ (by rfl) V.heap.size 3 j0 _ 1 8 Tryd.underlying36 hj0 hy0 hy1 hy2 rfl (by decide) (.slice pF R.length cF) R.length (rw_ R.length (ivl R)) (by rfl) (World.ownsRow.alloc (HGF.out.of_heap fun _ _ => rfl) _) ⟨_, 0, none⟩ 1 1 [.int .i64 r] (by rfl) (by rfl) (World.news_of_block (heap_alloc_new _ _)) (fun u hu => by simp at hu; subst hu; rfl) (by decide) (by unfold maxLen; omega) (by omega) (by simp; omega) _ rfl ?_; intro gg cap8 w8 hown8 hgrow8 hor8 hlt8; have hA8 : Apd w5 w8 (.slice pF R.length cF) (.slice (some ⟨gg, 0, none⟩) (R.length + 1) cap8) := apd_like9 (W := w5.drew) rfl rfl rfl rfl (apd_of hgrow8 (hor8.elim (fun h => .inl h.symm) (fun h => .inr (congrArg some h)))); have HG8 : Hid (GV 3 V.heap.size w8 (.slice (some ⟨gg, 0, none⟩) (R.length + 1) cap8) (R.length + 1) (upd (ivl R) R.length (.int .i64 r))) := Lib.hid (GV.more hown8); obtain ⟨c8, f8, l8⟩ := HBy.out w8 _ hA8; have HA8 := Lib.hid hA8; clear hown8 hgrow8 hor8 hlt8 hA8)
               all_goals
                 go_wp2
                 go_roundw
                 case rel => exact ⟨k + 1, _, _, by go_num, by omega, Lib.hid ⟨(HNX8.out w8 gg cap8 HA8.out HG8.out).1.1, (HNX8.out w8 gg cap8 HA8.out HG8.out).1.2.like rfl rfl rfl rfl⟩, Lib.hid ((HNX8.out w8 gg cap8 HA8.out HG8.out).2.like rfl rfl rfl rfl)⟩
                 case measure => (simp [intOf]; try omega)
        · obtain rfl : k = L.length := by omega
          go_wp2
          go_roundw
          case rel => exact ⟨i + 1, own, F, by go_num, by omega, Lib.hid ((HK.out.to fun t _ => rows9_next t).like rfl rfl rfl rfl)⟩
          case measure => (simp [intOf]; try omega)
    · obtain rfl : i = c.length := by omega
      go_wp2
      go_ret
      refine ⟨_, rfl, fun X hX => ⟨_, _, F, rfl, (HR.out.wt.fv.of_heap (hX.2 b HR.out.g.1 HR.out.wt.fv.lt)).rv, fun t ht => ?_⟩, HR.out.bel⟩
      obtain ⟨q, cq, e, h, _⟩ := ((HR.out.wt.rw t ht).of_heap (fun g e => hX.2 g (by have := ((HR.out.wt.rw t ht).lt g e).1; have := HR.out.g; omega) ((HR.out.wt.rw t ht).lt g e).2)).rv
      have er : rows9 (fun i r => Bh c r i) L c.length 0 t = sel (fun r => Bh c r t) L L.length := if_pos ht
      rw [er] at e h
      exact ⟨_, ⟨q, cq, e, h⟩, by have := sel_len (fun r => Bh c r t) L L.length; omega, sel_up HV.out.2.1.up, fun r => (sel_mem r).trans ⟨fun h => h.2, fun h => ⟨(HV.out.2.1.rg r).2 h.rg, h⟩⟩⟩
end Go.Proofs.YthodpkcjdbkdnaaDoor
