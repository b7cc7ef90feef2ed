/- The loops: graph's Loops. -/
import Derived.Test.YtacgfjcdfgdpjaaDoorGdp
namespace Go.Proofs.YtacgfjcdfgdpjaaDoor
set_option linter.unusedSimpArgs false
set_option linter.unusedVariables false
open Go Go.RowKit Gm

/-- The numbers at which loops begin, by places. -/
def hds (y : Wm) (hd : Nat → Bool) (j : Nat) : List Nat := ((List.range j).filterMap y.num).filter hd
theorem hds_succ (y : Wm) (hd : Nat → Bool) (j : Nat) : hds y hd (j + 1) = hds y hd j ++ (match y.num j with | none => [] | some v => if hd v then [v] else []) := by
  unfold hds
  rw [List.range_succ, List.filterMap_append, List.filter_append]
  congr 1
  cases h : y.num j with
  | none => simp [h]
  | some v => simp only [List.filterMap_cons, h, List.filterMap_nil, List.filter_cons, List.filter_nil]
theorem hds_len (y : Wm) (hd : Nat → Bool) (j : Nat) : (hds y hd j).length ≤ j := by
  unfold hds
  refine Nat.le_trans (List.length_filter_le _ _) (Nat.le_trans (List.length_filterMap_le _ _) (by simp))
theorem mem_hds {y : Wm} {hd : Nat → Bool} {j h : Nat} : h ∈ hds y hd j ↔ (∃ i, i < j ∧ y.num i = some h) ∧ hd h = true := by
  unfold hds
  rw [List.mem_filter, List.mem_filterMap]
  refine and_congr_left fun _ => ⟨fun ⟨i, h1, h2⟩ => ⟨i, List.mem_range.1 h1, h2⟩, fun ⟨i, h1, h2⟩ => ⟨i, List.mem_range.2 h1, h2⟩⟩
/-- While the beginnings are gathered. -/
structure Lb (V0 X : World) (C bn b1 b2 t5 m : Nat) (v : Value) (l : List Nat) : Prop where
  bel : Below V0.heap.size V0 X
  blk : X.heap[bn]? = some (.cells #[.slice (some ⟨b1, 0, none⟩) m m, .slice (some ⟨b2, 0, none⟩) m m] 53 (0, 0))
  box : X.heap[t5]? = some (.cells #[v] 34 (0, 0))
  gv : GV 3 C X v l.length (lv l)
  g : V0.heap.size ≤ bn ∧ bn < t5 ∧ t5 < C ∧ C ≤ X.heap.size
section
variable {V0 X Y : World} {C bn b1 b2 t5 m : Nat} {v : Value} {l : List Nat}
theorem Lb.facts (h : Lb V0 X C bn b1 b2 t5 m v l) : bn < X.heap.size ∧ X.cell? ⟨bn, 0, none⟩ = some (.slice (some ⟨b1, 0, none⟩) m m) ∧ X.cell? ⟨bn, 1, none⟩ = some (.slice (some ⟨b2, 0, none⟩) m m) ∧ t5 < X.heap.size ∧ X.cell? ⟨t5, 0, none⟩ = some v ∧ X.frozen? ⟨t5, 0, none⟩ = false := by
  refine ⟨(Array.getElem?_eq_some_iff.1 h.blk).1, ?_, ?_, (Array.getElem?_eq_some_iff.1 h.box).1, ?_, frozen_of_row _ _ _ _ _ h.box⟩
  · rw [cell_of_row _ _ _ _ _ _ h.blk]; rfl
  · rw [cell_of_row _ _ _ _ _ _ h.blk]; rfl
  · rw [cell_of_row _ _ _ _ _ _ h.box]; rfl
theorem Lb.like (h : Lb V0 X C bn b1 b2 t5 m v l) (e : Y.heap = X.heap) (e1 : Y.os = X.os) (e2 : Y.tape = X.tape) (e3 : Y.output = X.output) : Lb V0 Y C bn b1 b2 t5 m v l :=
  ⟨below_like h.bel e e1 e2 e3, by rw [e]; exact h.blk, by rw [e]; exact h.box, h.gv.of_heap fun _ _ => by rw [e], by rw [e]; exact h.g⟩
/-- One more. -/
theorem Lb.app {v' : Value} {z : Nat} (h : Lb V0 X C bn b1 b2 t5 m v l) (hz : Apd X Y v v') (hg : GV 3 C Y v' (l.length + 1) (upd (lv l) l.length (.int .i64 (z : Int)))) : Lb V0 (Y.setCell ⟨t5, 0, none⟩ v') C bn b1 b2 t5 m v' (l ++ [z]) := by
  have g := h.g
  have hS : ∀ b, v.ownBlock = some b → C ≤ b := fun b e => (h.gv.lt b e).1
  have s5 : Y.heap[t5]? = some (.cells #[v] 34 (0, 0)) := (hz.1.block _ h.facts.2.2.2.1 fun e => by have := hS _ e; omega).trans h.box
  have hsz := hz.1.size
  refine ⟨(h.bel.trans (hz.1.below h.bel.size fun b hb e => by have := hS _ e; omega)).setCell (p := ⟨t5, 0, none⟩) (by show V0.heap.size ≤ t5; omega) _, (heap_setCell_other Y ⟨t5, 0, none⟩ bn _ (by show bn ≠ t5; omega)).trans ((hz.1.block _ h.facts.1 fun e => by have := hS _ e; omega).trans h.blk), heap_setCell_same Y t5 0 _ _ _ s5, ?_, by have : (Y.setCell ⟨t5, 0, none⟩ v').heap.size = Y.heap.size := (by simp [World.setCell]); omega⟩
  rw [List.length_append]
  exact (hg.to fun i hi => lv_snoc hi).setO (fun e => by have := (hg.lt _ e).1; omega) _ _
theorem Lb.box5 {v' : Value} (h : Lb V0 X C bn b1 b2 t5 m v l) (hz : Apd X Y v v') : t5 < Y.heap.size ∧ Y.cell? ⟨t5, 0, none⟩ = some v ∧ Y.frozen? ⟨t5, 0, none⟩ = false := by
  have s5 : Y.heap[t5]? = some (.cells #[v] 34 (0, 0)) := (hz.1.block _ h.facts.2.2.2.1 fun e => by have := (h.gv.lt _ e).1; have := h.g; omega).trans h.box
  exact ⟨(Array.getElem?_eq_some_iff.1 s5).1, by rw [cell_of_row _ _ _ _ _ _ s5]; rfl, frozen_of_row _ _ _ _ _ s5⟩
end
/-- While places are put in the order of the tree. -/
structure Lq (V X : World) (t9 bp m : Nat) (P : Nat → Nat) : Prop where
  bel : Below V.heap.size V X
  box : X.heap[t9]? = some (.cells #[.slice (some ⟨bp, 0, none⟩) m m] 34 (0, 0))
  fv : FV 3 X bp m (iv fun i => P i)
  g : V.heap.size ≤ bp
section
variable {V X Y : World} {t9 bp m : Nat} {P : Nat → Nat}
theorem Lq.facts (h : Lq V X t9 bp m P) : t9 < X.heap.size ∧ X.cell? ⟨t9, 0, none⟩ = some (.slice (some ⟨bp, 0, none⟩) m m) ∧ t9 ≠ bp :=
  ⟨(Array.getElem?_eq_some_iff.1 h.box).1, by rw [cell_of_row _ _ _ _ _ _ h.box]; rfl, two_types h.box h.fv (by decide)⟩
theorem Lq.like (h : Lq V X t9 bp m P) (e : Y.heap = X.heap) (e1 : Y.os = X.os) (e2 : Y.tape = X.tape) (e3 : Y.output = X.output) : Lq V Y t9 bp m P :=
  ⟨below_like h.bel e e1 e2 e3, by rw [e]; exact h.box, h.fv.of_heap (by rw [e]), h.g⟩
theorem Lq.set (h : Lq V X t9 bp m P) (i x : Nat) : Lq V (X.setCell ⟨bp, i, none⟩ (.int .i64 (x : Int))) t9 bp m (upd P i x) := by
  refine ⟨h.bel.setCell (p := ⟨bp, i, none⟩) h.g _, (heap_setCell_other X ⟨bp, i, none⟩ t9 _ h.facts.2.2).trans h.box, ?_, h.g⟩
  have := h.fv.set i (.int .i64 (x : Int))
  rw [iv_upd, nv_upd] at this
  exact this
end
/-- What Loops gives. -/
def LoopsP (W : World) (c : List Ic) (e : Ending) (w' : World) : Prop := ∃ (y : Wm) (ar : Nat → Option Nat) (hd : Nat → Bool), Nums c y ∧ (∀ h, h < y.m → (hd h = true ↔ Hd y.E h)) ∧ Lps y.m y.E ar 0 ∧ RowsP 34 (RL fun i t => ∃ v, v < y.m ∧ Und ar ((hds y hd c.length).getD i 0) v ∧ y.pl v = t) W (hds y hd c.length).length e w'
set_option maxRecDepth 100000 in
set_option maxHeartbeats 8000000 in
theorem loops_any {W : World} {p : Option Addr} {cap : Nat} {c : List Ic} (hn : c.length ≤ 1000000) (hc : Hid (CodeAt W p c)) (T : Hid (Kinds W)) : Calls Tryd.prog 16 #[.slice p c.length cap] W (LoopsP W c) := by
  go_enter Tryd.func16, Tryd.ntmps16
  go_upto_region 2 with (go_at_call 21; ((with_reducible refine (ways_q p cap hn hc T).mono ?_); rintro e1 w1 ⟨own, d, y, rfl, hw, hyn, hnu, hso, hb⟩; have HW := Lib.hid hw; have HN := Lib.hid (And.intro hyn hnu); have HS := Lib.hid hso; have HB := Lib.hid hb; have hFW : Hid (0 < y.m → Wf c y) := Lib.hid hnu.wf; have hy6 : y.n ≤ 1000000 := (by omega); clear hw hnu hso hb))
  go_upto_region 3 with (go_at_call 31; ((with_reducible refine (nest_any HW hFW HS hy6).mono ?_); rintro e2 w2 ⟨b1, b2, hd, ar, rfl, hf1, hf2, hhd, hlp, g1, g2, hb2⟩; have H2 := Lib.hid (And.intro hf1 (And.intro hf2 (And.intro hb2 (And.intro g1 g2)))); have HL := Lib.hid (And.intro hhd hlp); clear hf1 hf2 hhd hlp g1 g2 hb2))
  go_upto_region 4 with (fail)
  refine name_world ?_
  intro V hV
  obtain ⟨bn, hbn⟩ : ∃ bn, w2.heap.size = bn := ⟨_, rfl⟩
  obtain ⟨t5, ht5⟩ : ∃ t5, bn + 1 = t5 := ⟨_, rfl⟩
  have HV : Hid (Lb w2 V (t5 + 1) bn b1 b2 t5 y.m (.slice none 0 0) []) := Lib.hid (by
    rw [hV, ← ht5, ← hbn]
    refine ⟨((Below.refl _ _).alloc (Nat.le_refl _) _).alloc (by simp) _, (Below.heap_alloc _ _ _ (by simp)).trans (heap_alloc_new w2 _), ?_, GV.nil _ _ _ _, ⟨Nat.le_refl _, by omega, by omega, by simp⟩⟩
    have := heap_alloc_new (w2.alloc (.cells #[.slice (some ⟨b1, 0, none⟩) y.m y.m, .slice (some ⟨b2, 0, none⟩) y.m y.m] 53)) (.cells #[.slice none 0 0] 34)
    simpa using this)
  try rw [hbn]
  try rw [ht5]
  have HW2 := Lib.hid (HW.out.stay H2.out.2.2.1)
  have HIJ := Lib.hid HN.out.2.inj
  have HBB : Hid (W.heap.size ≤ w2.heap.size ∧ Below W.heap.size W w2) := Lib.hid ⟨by have := HB.out.size; have := H2.out.2.2.1.size; omega, HB.out.trans (H2.out.2.2.1.mono HB.out.size)⟩
  clear hV hbn ht5
  obtain ⟨l, c0, c1, c2, c3, -⟩ := (HW2.out.stay HV.out.bel).facts
  rw [hyn] at c1
  have hym := HN.out.2.m
  go_wp2
  go_loopw [21] (fun a wr => ∃ (j : Nat) (v : Value), a = .int .i64 j ∧ j ≤ c.length ∧ Hid (Lb w2 wr (t5 + 1) bn b1 b2 t5 y.m v (hds y hd j))) (fun a _ => c.length - (intOf a).toNat)
  case atStart => exact ⟨0, .slice none 0 0, rfl, Nat.zero_le _, HV⟩
  case round =>
    clear l c0 c1 c2 c3
    obtain ⟨wo, rfl⟩ : ∃ wo : World, wo = wr := ⟨_, rfl⟩
    obtain ⟨j, v5, rfl, hj, HR⟩ := hrel
    by_cases hlt : j < c.length
    · have iN := (HW2.out.stay HR.out.bel).num.cell (i := j) (by omega)
      simp only [iv] at iN
      have hsucc := hds_succ y hd j
      rcases hnum : y.num j with - | h
      · rw [hnum] at hsucc
        simp only [hnum, ov] at iN
        have HA := Lib.hid (show hds y hd (j + 1) = hds y hd j by rw [hsucc]; simp)
        clear hsucc hnum
        go_wp2
        go_roundw
        case rel => exact ⟨j + 1, v5, by go_num, by omega, Lib.hid (by rw [HA.out]; exact HR.out.like rfl rfl rfl rfl)⟩
        case measure => (simp [intOf]; try omega)
      · rw [hnum] at hsucc
        have hhm : h < y.m := by
          have hne : c ≠ [] := fun e => by rw [e] at hlt; exact absurd hlt (Nat.not_lt_zero _)
          exact ((HN.out.2.2 hne).nb.num _ _ hnum).1
        have ne : ((h : Int) != -1) = true := by simp
        simp only [hnum, ov] at iN
        obtain ⟨lt, n0, n1, lt5, k5, f5⟩ := HR.out.facts
        have h1 := (H2.out.1.stay HR.out.bel).cell hhm
        simp only [bv] at h1
        clear hnum
        cases hhd : hd h with
        | false =>
          rw [hhd] at h1
          have HA := Lib.hid (show hds y hd (j + 1) = hds y hd j by rw [hsucc]; simp [hhd])
          clear hhd hsucc
          go_wp2
          go_roundw
          case rel => exact ⟨j + 1, v5, by go_num, by omega, Lib.hid (by rw [HA.out]; exact HR.out.like rfl rfl rfl rfl)⟩
          case measure => (simp [intOf]; try omega)
        | true =>
          rw [hhd] at h1
          have HA := Lib.hid (show hds y hd (j + 1) = hds y hd j ++ [h] by rw [hsucc]; simp [hhd])
          have hll := hds_len y hd j
          obtain ⟨p5, cp5, rfl, -⟩ := HR.out.gv.open
          have hg := HR.out.g
          obtain ⟨i0, hi, hz0, hz1, hz2⟩ := info_parts info_int
          clear hhd hsucc
          go_upto_region 8 with (fail)
          go_wp2_with (at_builtin; refine wpList_append_own_at _ rfl _ _ 34 rfl (t5 + 1) 3 i0 (.int .i64 0) 1 8 Tryd.underlying34 hi hz0 hz1 hz2 rfl (by decide) (.slice p5 (hds y hd j).length cp5) (hds y hd j).length (rw_ (hds y hd j).length (lv (hds y hd j))) rfl (World.ownsRow.alloc HR.out.gv _) ⟨wo.heap.size, 0, none⟩ 1 1 [.int .i64 (h : Int)] rfl rfl (cell_one_new _ _ _) (fun u hu => by simp at hu; subst hu; rfl) (by unfold maxLen; omega) (by omega) (by simp; omega) ?_; intro v8 w8 hown hgrow _ hats; have HG8 : Hid (GV 3 (t5 + 1) w8 v8 ((hds y hd j).length + 1) (upd (lv (hds y hd j)) (hds y hd j).length (.int .i64 (h : Int)))) := Lib.hid (GV.more hown); have HA8 : Hid (Apd wo w8 (.slice p5 (hds y hd j).length cp5) v8) := Lib.hid (apd_of hgrow hats); obtain ⟨q8, cp8, rfl, -⟩ := HG8.out.open; obtain ⟨l8, k8, f8⟩ := HR.out.box5 HA8.out; clear hown hgrow hats)
          go_roundw
          case rel => exact ⟨j + 1, .slice q8 ((hds y hd j).length + 1) cp8, by go_num, by omega, Lib.hid (by rw [HA.out]; exact HR.out.app HA8.out HG8.out)⟩
          case measure => (simp [intOf]; try omega)
    · obtain hjn : j = c.length := by omega
      subst hjn
      obtain ⟨L, hL⟩ : ∃ L, hds y hd c.length = L := ⟨_, rfl⟩
      have hLl : L.length ≤ c.length := hL ▸ hds_len y hd c.length
      have HLm : Hid (∀ h, h ∈ L → h < y.m) := Lib.hid fun h hh => by
        obtain ⟨⟨i, h1, h2⟩, -⟩ := mem_hds.1 (hL ▸ hh)
        have hne : c ≠ [] := fun e => by rw [e] at h1; exact absurd h1 (Nat.not_lt_zero _)
        exact ((HN.out.2.2 hne).nb.num _ _ h2).1
      rw [hL] at HR
      have HLE := Lib.hid hL
      clear hL
      obtain ⟨p5, cp5, rfl, -⟩ := HR.out.gv.open
      have HU := Lib.hid (H2.out.2.1.stay HR.out.bel)
      have HAr : Hid (∀ v p, v < y.m → ar v = some p → p < v) := Lib.hid fun v p hv e => (HL.out.2.ar_lt v p hv e).1
      have hmm : y.m ≤ 1000000 := by omega
      have HWo := Lib.hid (HW2.out.stay HR.out.bel)
      obtain ⟨lt, n0, n1, -⟩ := HR.out.facts
      go_upto_region 11 with (go_at_call 32; ((with_reducible refine (under_any HU HAr hmm).mono ?_); rintro e3 w3 ⟨bt, bz, f, s, rfl, hf3, hs3, hr3, g1, g2, hb3⟩; have H3 := Lib.hid (And.intro hf3 (And.intro hs3 (And.intro hr3 hb3))); clear hf3 hs3 hr3 g1 g2 hb3))
      refine name_world ?_
      intro V4 hV4
      obtain ⟨t8, ht8⟩ : ∃ t8, w3.heap.size = t8 := ⟨_, rfl⟩
      have HV4 : Hid (Below w3.heap.size w3 V4 ∧ V4.heap[t8]? = some (.cells #[.slice (some ⟨bt, 0, none⟩) y.m y.m, .slice (some ⟨bz, 0, none⟩) y.m y.m] 56 (0, 0)) ∧ V4.heap.size = t8 + 1) := Lib.hid (by
        rw [hV4, ← ht8]
        exact ⟨below1 _ _, heap_alloc_new w3 _, by simp⟩)
      try rw [ht8]
      clear hV4 ht8
      have HW4 := Lib.hid ((HWo.out.stay H3.out.2.2.2).stay HV4.out.1)
      obtain ⟨l, c0, c1, c2, c3, -⟩ := HW4.out.facts
      obtain ⟨p0, q0, e0, -⟩ := HW4.out.pla.open
      have HE0 := Lib.hid e0
      rw [e0] at c0
      clear e0
      have hmk := make_i y.m (by omega)
      go_upto_region 12 with (fail)
      refine name_world ?_
      intro V5 hV5
      obtain ⟨bp, hbp⟩ : ∃ bp, V4.heap.size = bp := ⟨_, rfl⟩
      have HV5 : Hid (Lq V4 V5 (bp + 1) bp y.m (fun _ => 0)) := Lib.hid (by
        rw [hV5, ← hbp]
        refine ⟨((Below.refl _ _).alloc (Nat.le_refl _) _).alloc (by simp) _, ?_, (fv_zero V4 y.m).alloc _, Nat.le_refl _⟩
        have := heap_alloc_new (V4.alloc (.cells (rw_ y.m fun _ => .int .i64 0).toArray 3)) (.cells #[.slice (some ⟨V4.heap.size, 0, none⟩) y.m y.m] 34)
        simpa using this)
      obtain ⟨t9, ht9⟩ : ∃ t9, bp + 1 = t9 := ⟨_, rfl⟩
      rw [ht9] at HV5
      try rw [hbp]
      try rw [ht9]
      have H8 : Hid (V4.cell? ⟨t8, 0, none⟩ = some (.slice (some ⟨bt, 0, none⟩) y.m y.m) ∧ V4.cell? ⟨t8, 1, none⟩ = some (.slice (some ⟨bz, 0, none⟩) y.m y.m) ∧ t8 < V4.heap.size) := Lib.hid (by
        refine ⟨?_, ?_, by rw [HV4.out.2.2]; omega⟩ <;> rw [cell_of_row _ _ _ _ _ _ HV4.out.2.1] <;> rfl)
      have j8 := (HV5.out.bel.cell (p := ⟨t8, 0, none⟩) H8.out.2.2).trans H8.out.1
      have HFi := Lib.hid (H3.out.1.stay HV4.out.1)
      have HSi := Lib.hid (H3.out.2.1.stay HV4.out.1)
      clear hV5 hbp ht9 l c0 c1 c2 c3 lt n0 n1
      go_wp2
      go_loopw [51] (fun a wr => ∃ (v : Nat) (P : Nat → Nat), a = .int .i64 v ∧ v ≤ y.m ∧ Hid (Lq V4 wr t9 bp y.m P ∧ ∀ u, u < v → P (f u) = y.pl u)) (fun a _ => y.m - (intOf a).toNat)
      case atStart => exact ⟨0, fun _ => 0, rfl, Nat.zero_le _, Lib.hid ⟨HV5.out, fun u h => absurd h (Nat.not_lt_zero _)⟩⟩
      case round =>
        obtain ⟨wq, rfl⟩ : ∃ wo : World, wo = wr := ⟨_, rfl⟩
        obtain ⟨v, P, rfl, hv, HQ⟩ := hrel
        by_cases hvm : v < y.m
        · have hfa := H3.out.2.2.1.in_all v hvm
          have hfp := H3.out.2.2.1.pos hvm
          have hfm : f v < y.m := by omega
          have iF := (HFi.out.stay HQ.out.1.bel).cell hvm
          simp only [iv] at iF
          obtain ⟨l, c0, c1, c2, c3, -⟩ := (HW4.out.stay HQ.out.1.bel).facts
          have hop := (HW4.out.stay HQ.out.1.bel).pla.open
          rw [HE0.out] at hop c0
          obtain ⟨p', q', e', hop⟩ := hop
          cases e'
          obtain ⟨g0, rfl, -, hg0, -, -, -, hcell⟩ := hop.resolve_left (fun e => by omega)
          have i0 := hcell v hvm
          simp only [iv] at i0
          obtain ⟨lt9, k9, n9⟩ := HQ.out.1.facts
          have ip := HQ.out.1.fv.cell hfm
          have fp := HQ.out.1.fv.frozen (f v)
          simp only [iv] at ip
          have HA := Lib.hid (HQ.out.1.set (f v) (y.pl v))
          have HB' : Hid (∀ u, u < v + 1 → upd P (f v) (y.pl v) (f u) = y.pl u) := Lib.hid fun u hu => by
            by_cases e : u = v
            · rw [e, upd_at]
            · rw [upd_of (fun e2 => e (H3.out.2.2.1.inj (by omega) hvm e2))]
              exact HQ.out.2 u (by omega)
          obtain ⟨F, hF⟩ : ∃ F, f v = F := ⟨_, rfl⟩
          obtain ⟨at_, hat⟩ : ∃ at_, y.pl v = at_ := ⟨_, rfl⟩
          rw [hF] at iF ip fp HA hfm HB'
          rw [hat] at i0 HA HB'
          clear hop hcell hF hat hfa hfp
          go_upto_region 15 with (fail)
          go_region
          go_wp2
          go_roundw
          case rel => exact ⟨v + 1, upd P F at_, by go_num, by omega, Lib.hid ⟨HA.out.like rfl rfl rfl rfl, HB'.out⟩⟩
          case measure => (simp [intOf]; try omega)
        · obtain hvm' : v = y.m := by omega
          subst hvm'
          have HB4 : Hid (Below wo.heap.size wo wq) := Lib.hid (H3.out.2.2.2.trans ((HV4.out.1.trans (HQ.out.1.bel.mono HV4.out.1.size)).mono H3.out.2.2.2.size))
          have k5 := (HB4.out.cell (p := ⟨t5, 0, none⟩) HR.out.facts.2.2.2.1).trans HR.out.facts.2.2.2.2.1
          have HR' : Hid (∀ i : Nat, i < L.length → ∀ X, Below wq.heap.size wq X → Calls Tryd.prog 33 #[.int .i64 i, .pointer (some ⟨t8, 0, none⟩), .pointer (some ⟨t5, 0, none⟩), .pointer (some ⟨t9, 0, none⟩)] X (RowQ (RL fun i t => ∃ v, v < y.m ∧ Und ar (L.getD i 0) v ∧ y.pl v = t) i X)) := Lib.hid fun i hi X hX => by
            have h4X : Below V4.heap.size V4 X := HQ.out.1.bel.trans (hX.mono HQ.out.1.bel.size)
            have hoX : Below wo.heap.size wo X := HB4.out.trans (hX.mono HB4.out.size)
            have h5 := HR.out.facts
            obtain ⟨pq, cq, eq, hrv, -⟩ := (HR.out.gv.stay hoX).rv
            cases eq
            exact loop1_any (bt := bt) (bz := bz) (bp := bp) (cq := cp5) (q := p5) (f := f) (s := s) (P := P) (Lib.hid ⟨(h4X.cell (p := ⟨t8, 0, none⟩) H8.out.2.2).trans H8.out.1, (h4X.cell (p := ⟨t8, 1, none⟩) H8.out.2.2).trans H8.out.2.1, (hoX.cell (p := ⟨t5, 0, none⟩) h5.2.2.2.1).trans h5.2.2.2.2.1, (hX.cell (p := ⟨t9, 0, none⟩) HQ.out.1.facts.1).trans HQ.out.1.facts.2.1⟩) (Lib.hid (HFi.out.stay h4X)) (Lib.hid (HSi.out.stay h4X)) (Lib.hid (HQ.out.1.fv.stay hX)) (Lib.hid hrv) (Lib.hid H3.out.2.2.1) HLm (Lib.hid HQ.out.2) HIJ hmm (by omega) hi
          have hLm6 : L.length ≤ 1000000 := by omega
          go_wp2_with (go_at_call 24; ((with_reducible refine (rowsL_any hLm6 (Lib.hid (keeps_rl _)) HR').mono ?_); rintro e6 w6 h6; obtain ⟨b, S, rfl, h7⟩ := h6; have H7 := Lib.hid h7; clear h7))
          go_ret
          have hWo : Below W.heap.size W wo := HBB.out.2.trans (HR.out.bel.mono HBB.out.1)
          refine ⟨y, ar, hd, HN.out.2, HL.out.1, HL.out.2, ?_⟩
          rw [HLE.out]
          exact RowsP.from ⟨b, S, rfl, H7.out⟩ (hWo.trans (HB4.out.mono hWo.size))
end Go.Proofs.YtacgfjcdfgdpjaaDoor
