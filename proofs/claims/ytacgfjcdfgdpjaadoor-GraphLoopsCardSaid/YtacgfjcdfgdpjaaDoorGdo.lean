/- What is above each place: graph's Dominates. -/
import Derived.Test.YtacgfjcdfgdpjaaDoorGwq
namespace Go.Proofs.YtacgfjcdfgdpjaaDoor
set_option linter.unusedSimpArgs false
set_option linter.unusedVariables false
open Go Go.RowKit Gm

/-- What is above a place, by places. -/
def DomT (y : Wm) (i j : Nat) : Prop := ∃ v u, y.num i = some v ∧ Dom y.E u v ∧ u < y.m ∧ y.pl u = j
theorem und_lt {m : Nat} {I : Nat → Option Nat} (hI : ∀ v p, v < m → I v = some p → p < v) {u v : Nat} (h : Und I u v) (hv : v < m) : u < m := by
  have := Und.le hI h hv
  omega
/-- Those that are marked so far. -/
structure Mk (m : Nat) (I : Nat → Option Nat) (pl : Nat → Nat) (T : Nat → Prop) (o : Option Nat) (g : Nat → Bool) : Prop where
  all : ∀ u, T u → g (pl u) = true ∨ ∃ x, o = some x ∧ Und I u x
  one : ∀ j, g j = true → ∃ u, T u ∧ pl u = j
  at' : ∀ x, o = some x → T x ∧ x < m
theorem Mk.step {m : Nat} {I : Nat → Option Nat} {pl : Nat → Nat} {T : Nat → Prop} {x : Nat} {g : Nat → Bool} (h : Mk m I pl T (some x) g) (hI : ∀ v p, v < m → I v = some p → p < v) (hT : ∀ u x, T x → Und I u x → T u) : Mk m I pl T (I x) (upd g (pl x) true) := by
  obtain ⟨hx, hm⟩ := h.at' x rfl
  refine ⟨fun u hu => ?_, fun j hj => ?_, fun z hz => ?_⟩
  · by_cases e : pl u = pl x
    · rw [e, upd_at]; exact .inl rfl
    · rw [upd_of e]
      rcases h.all u hu with h1 | ⟨z, h1, h2⟩
      · exact .inl h1
      · cases h1
        rcases h2.cases' with h3 | ⟨p, h3, h4⟩
        · exact absurd (by rw [h3]) e
        · exact .inr ⟨p, h3, h4⟩
  · by_cases e : j = pl x
    · exact ⟨x, hx, e.symm⟩
    · rw [upd_of e] at hj
      exact h.one j hj
  · exact ⟨hT z x hx (.step hz (.refl _)), by have := hI x z hm hz; omega⟩
set_option maxRecDepth 100000 in
set_option maxHeartbeats 4000000 in
theorem dom1_any {W : World} {p1 p2 p3 cap bl i B : Nat} {p : Option Addr} {own : Nat → Nat} {d : Wv} {y : Wm} {c : List Ic} {I : Nat → Option Nat}
    (hP : Hid (W.cell? ⟨p1, 0, none⟩ = some (.slice p c.length cap) ∧ W.cell? ⟨p2, 0, none⟩ = some (.pointer (some ⟨d.a, 0, none⟩)) ∧ W.cell? ⟨p3, 0, none⟩ = some (.slice (some ⟨bl, 0, none⟩) y.m y.m) ∧ p1 < W.heap.size ∧ p2 < W.heap.size ∧ p3 < W.heap.size))
    (hW : Hid (Ws W own B d y y.m y.m y.m)) (hV : Hid (FV 3 W bl y.m (iv fun v => ov (I v)))) (hI : Hid (Idoms y I)) (hN : Hid (Nums c y)) (hyn : y.n = c.length) (hn : c.length ≤ 1000000) (hi : i < c.length) :
    Calls Tryd.prog 30 #[.int .i64 i, .pointer (some ⟨p1, 0, none⟩), .pointer (some ⟨p2, 0, none⟩), .pointer (some ⟨p3, 0, none⟩)] W (RowQ (RB c.length (DomT y)) i W) := by
  have hmk := make_b c.length (by omega)
  obtain ⟨e1, e2, e3, l1, l2, l3⟩ := hP.out
  obtain ⟨l, c0, c1, c2, c3, -⟩ := hW.out.facts
  have iN := hW.out.num.cell (i := i) (by omega)
  simp only [iv] at iN
  rw [hyn] at c1
  have lN := hW.out.num.lt
  obtain ⟨zN, hzN⟩ : ∃ z, ov (y.num i) = z := ⟨_, rfl⟩
  rw [hzN] at iN
  have HZN := Lib.hid hzN
  clear hzN
  go_enter Tryd.func30, Tryd.ntmps30
  go_upto_region 3 with (fail)
  refine name_world ?_
  intro V hV3
  obtain ⟨b, hb⟩ : ∃ b, W.heap.size = b := ⟨_, rfl⟩
  have HV : Hid (Below W.heap.size W V ∧ FV 4 V b c.length (bv fun _ => false)) := Lib.hid (by
    rw [hV3, ← hb]
    exact ⟨below1 W _, FV.new rfl (by simp; rfl)⟩)
  have HB := Lib.hid hb
  try rw [hb]
  clear hV3 hb hmk l c0 c1 c2 c3 iN
  go_loopw [7] (fun a wr => ∃ (o : Option Nat) (g : Nat → Bool), a = .int .i64 (ov o) ∧ Hid (Below W.heap.size W wr ∧ FV 4 wr b c.length (bv g) ∧ Mk y.m I y.pl (fun u => ∃ v, y.num i = some v ∧ Und I u v) o g)) (fun a _ => (intOf a + 1).toNat)
  case atStart => 
    refine ⟨y.num i, fun _ => false, by rw [HZN.out], Lib.hid ⟨HV.out.1, HV.out.2, ⟨fun u ⟨v, h1, h2⟩ => .inr ⟨v, h1, h2⟩, fun j h => (by cases h), fun x hx => ⟨⟨x, hx, .refl _⟩, ?_⟩⟩⟩⟩
    by_cases hm : 0 < y.m
    · exact ((hN.out.wf hm).nb.num _ _ hx).1
    · have hc : c ≠ [] := fun e => by rw [e] at hi; exact absurd hi (Nat.not_lt_zero _)
      exact ((hN.out.2 hc).nb.num _ _ hx).1
  case round =>
    obtain ⟨wo, rfl⟩ : ∃ wo : World, wo = wr := ⟨_, rfl⟩
    obtain ⟨o, g, rfl, HR⟩ := hrel
    rcases o with - | x
    · simp only [ov]
      go_wp2
      go_ret
      refine ⟨_, _, _, rfl, ⟨b, g, rfl, by rw [HB.out]; exact Nat.le_refl _, HR.out.2.1, fun j => ?_⟩, HR.out.1⟩
      constructor
      · intro h
        obtain ⟨u, ⟨v, h1, h2⟩, h3⟩ := HR.out.2.2.one j h
        have hc : c ≠ [] := fun e => by rw [e] at hi; exact absurd hi (Nat.not_lt_zero _)
        have hv := ((hN.out.2 hc).nb.num _ _ h1).1
        exact ⟨v, u, h1, (hI.out.dom (hN.out.2 hc).dfs u v hv).1 h2, und_lt hI.out.lt h2 hv, h3⟩
      · rintro ⟨v, u, h1, h2, h3, rfl⟩
        have hc : c ≠ [] := fun e => by rw [e] at hi; exact absurd hi (Nat.not_lt_zero _)
        have hv := ((hN.out.2 hc).nb.num _ _ h1).1
        rcases HR.out.2.2.all u ⟨v, h1, (hI.out.dom (hN.out.2 hc).dfs u v hv).2 h2⟩ with h4 | ⟨z, h4, _⟩
        · exact h4
        · cases h4
    · have hxm := (HR.out.2.2.at' x rfl).2
      have hpl := hN.out.pl hxm
      have ne : ((x : Int) != -1) = true := by simp
      simp only [ov]
      obtain ⟨l, c0, c1, c2, c3, -⟩ := (hW.out.stay HR.out.1).facts
      obtain ⟨p0, q0, e0, hp0⟩ := (hW.out.stay HR.out.1).pla.open
      obtain ⟨g0, rfl, -, hg0l, -, -, -, hg0c⟩ := hp0.resolve_left (fun e => by omega)
      rw [e0] at c0
      have i0 := hg0c x hxm
      simp only [iv] at i0
      have k2 := (HR.out.1.cell (p := ⟨p2, 0, none⟩) l2).trans e2
      have k3 := (HR.out.1.cell (p := ⟨p3, 0, none⟩) l3).trans e3
      have ib := HR.out.2.1.cell hpl
      have fb := HR.out.2.1.frozen (y.pl x)
      have HA : Hid (FV 4 (wo.setCell ⟨b, y.pl x, none⟩ (.bool true)) b c.length (bv (upd g (y.pl x) true)) ∧ Below W.heap.size W (wo.setCell ⟨b, y.pl x, none⟩ (.bool true))) := Lib.hid ⟨bv_upd g (y.pl x) true ▸ HR.out.2.1.set (y.pl x) (.bool true), HR.out.1.setCell (p := ⟨b, y.pl x, none⟩) (by rw [HB.out]; exact Nat.le_refl _) _⟩
      have HM := Lib.hid (HR.out.2.2.step hI.out.lt fun u x ⟨v, h1, h2⟩ h3 => ⟨v, h1, h3.trans h2⟩)
      have k3' := (HA.out.2.cell (p := ⟨p3, 0, none⟩) l3).trans e3
      have iI' := (hV.out.stay HA.out.2).cell hxm
      simp only [iv] at iI'
      obtain ⟨zI, hzI⟩ : ∃ z, ov (I x) = z := ⟨_, rfl⟩
      rw [hzI] at iI'
      have HZI := Lib.hid hzI
      clear hzI
      obtain ⟨z, hz⟩ : ∃ z, y.pl x = z := ⟨_, rfl⟩
      rw [hz] at i0 hpl ib fb HA HM k3' iI'
      have hlt : ∀ q, I x = some q → q < x := fun q e => hI.out.lt x q hxm e
      have Hlt := Lib.hid hlt
      clear hz hg0c hp0 e0 hlt
      go_wp2
      go_roundw
      case rel => exact ⟨I x, upd g z true, congrArg (Value.int .i64) HZI.out.symm, Lib.hid ⟨HA.out.2, HA.out.1, HM.out⟩⟩
      case measure =>
        rw [← HZI.out]
        cases hIx : I x with
        | none => (simp [intOf, ov])
        | some q => have := Hlt.out q hIx; (simp [intOf, ov]; try omega)
/-- What Dominates gives. -/
def DominP (W : World) (c : List Ic) (e : Ending) (w' : World) : Prop := ∃ y, y.n = c.length ∧ Nums c y ∧ RowsP 25 (RB c.length (DomT y)) W c.length e w'
set_option maxRecDepth 100000 in
set_option maxHeartbeats 4000000 in
theorem domin_any {W : World} {p : Option Addr} {cap : Nat} {c : List Ic} (hn : c.length ≤ 1000000) (hc : Hid (CodeAt W p c)) (T : Hid (Kinds W)) : Calls Tryd.prog 14 #[.slice p c.length cap] W (DominP W c) := by
  go_enter Tryd.func14, Tryd.ntmps14
  go_upto_region 1 with (fail)
  refine name_world ?_
  intro V hV
  obtain ⟨p1, hp1⟩ : ∃ p1, W.heap.size = p1 := ⟨_, rfl⟩
  have HV : Hid (Below W.heap.size W V ∧ V.cell? ⟨p1, 0, none⟩ = some (.slice p c.length cap) ∧ p1 < V.heap.size) := Lib.hid (by
    rw [hV, ← hp1]
    refine ⟨below1 _ _, ?_, by simp⟩
    rw [cell_of_row _ _ _ _ _ _ (heap_alloc_new W _)]
    rfl)
  try rw [hp1]
  have k1 := HV.out.2.1
  have l1 := HV.out.2.2
  have hcV : Hid (CodeAt V p c) := Lib.hid (hc.out.stay HV.out.1)
  have TV : Hid (Kinds V) := Lib.hid (T.out.below HV.out.1)
  clear hV hp1
  go_upto_region 2 with (go_at_call 21; ((with_reducible refine (ways_q p cap hn hcV TV).mono ?_); rintro e1 w1 ⟨own, d, y, rfl, hw, hyn, hnu, hso, hb⟩; have HW := Lib.hid hw; have HN := Lib.hid (And.intro hyn hnu); have HS := Lib.hid hso; have HB := Lib.hid hb; have hy6 : y.n ≤ 1000000 := (by omega); clear hw hnu hso hb))
  refine name_world ?_
  intro V2 hV2
  obtain ⟨p2, hp2⟩ : ∃ p2, w1.heap.size = p2 := ⟨_, rfl⟩
  have HV2 : Hid (Below w1.heap.size w1 V2 ∧ V2.cell? ⟨p2, 0, none⟩ = some (.pointer (some ⟨d.a, 0, none⟩)) ∧ p2 < V2.heap.size) := Lib.hid (by
    rw [hV2, ← hp2]
    refine ⟨below1 _ _, ?_, by simp⟩
    rw [cell_of_row _ _ _ _ _ _ (heap_alloc_new w1 _)]
    rfl)
  try rw [hp2]
  have k2 := HV2.out.2.1
  have l2 := HV2.out.2.2
  have HW2 := Lib.hid (HW.out.stay HV2.out.1)
  have hFW : Hid (0 < y.m → Wf c y) := Lib.hid HN.out.2.wf
  clear hV2 hp2
  go_upto_region 3 with (go_at_call 28; ((with_reducible refine (near_any HW2 hFW HS hy6).mono ?_); rintro e3 w3 ⟨bl, I, rfl, hi1, hi2, hi3, hb3⟩; have H3 := Lib.hid (And.intro hi1 (And.intro hi2 hb3)); clear hi1 hi2 hi3 hb3))
  refine name_world ?_
  intro V4 hV4
  obtain ⟨p3, hp3⟩ : ∃ p3, w3.heap.size = p3 := ⟨_, rfl⟩
  have HV4 : Hid (Below w3.heap.size w3 V4 ∧ V4.cell? ⟨p3, 0, none⟩ = some (.slice (some ⟨bl, 0, none⟩) y.m y.m) ∧ p3 < V4.heap.size) := Lib.hid (by
    rw [hV4, ← hp3]
    refine ⟨below1 _ _, ?_, by simp⟩
    rw [cell_of_row _ _ _ _ _ _ (heap_alloc_new w3 _)]
    rfl)
  try rw [hp3]
  have HB24 : Hid (Below V2.heap.size V2 V4) := Lib.hid (H3.out.2.2.trans (HV4.out.1.mono H3.out.2.2.size))
  have HB14 : Hid (Below V.heap.size V V4) := Lib.hid (HB.out.trans ((HV2.out.1.trans (HB24.out.mono HV2.out.1.size)).mono HB.out.size))
  have k1' : V4.cell? ⟨p1, 0, none⟩ = some (.slice p c.length cap) := (HB14.out.cell (p := ⟨p1, 0, none⟩) l1).trans k1
  have HP4 : Hid (V4.cell? ⟨p1, 0, none⟩ = some (.slice p c.length cap) ∧ V4.cell? ⟨p2, 0, none⟩ = some (.pointer (some ⟨d.a, 0, none⟩)) ∧ V4.cell? ⟨p3, 0, none⟩ = some (.slice (some ⟨bl, 0, none⟩) y.m y.m) ∧ p1 < V4.heap.size ∧ p2 < V4.heap.size ∧ p3 < V4.heap.size) := Lib.hid ⟨k1', (HB24.out.cell (p := ⟨p2, 0, none⟩) l2).trans k2, HV4.out.2.1, Nat.lt_of_lt_of_le l1 HB14.out.size, Nat.lt_of_lt_of_le l2 HB24.out.size, HV4.out.2.2⟩
  have HR : Hid (∀ i : Nat, i < c.length → ∀ X, Below V4.heap.size V4 X → Calls Tryd.prog 30 #[.int .i64 i, .pointer (some ⟨p1, 0, none⟩), .pointer (some ⟨p2, 0, none⟩), .pointer (some ⟨p3, 0, none⟩)] X (RowQ (RB c.length (DomT y)) i X)) := Lib.hid fun i hi X hX => by
    obtain ⟨a1, a2, a3, a4, a5, a6⟩ := HP4.out
    exact dom1_any (p := p) (cap := cap) (bl := bl) (I := I) (Lib.hid ⟨(hX.cell (p := ⟨p1, 0, none⟩) a4).trans a1, (hX.cell (p := ⟨p2, 0, none⟩) a5).trans a2, (hX.cell (p := ⟨p3, 0, none⟩) a6).trans a3, Nat.lt_of_lt_of_le a4 hX.size, Nat.lt_of_lt_of_le a5 hX.size, Nat.lt_of_lt_of_le a6 hX.size⟩) (Lib.hid ((HW2.out.stay HB24.out).stay hX)) (Lib.hid ((H3.out.1.stay HV4.out.1).stay hX)) (Lib.hid H3.out.2.1) (Lib.hid HN.out.2) HN.out.1 hn hi
  clear hV4 hp3 k1 k2
  go_wp2_with (go_at_call 29; ((with_reducible refine (rowsD_any hn (Lib.hid (keeps_rb _ _)) HR).mono ?_); rintro e5 w5 h5; obtain ⟨b, S, rfl, h6⟩ := h5; have H5 := Lib.hid h6; clear h6))
  go_ret
  exact ⟨y, HN.out.1, HN.out.2, RowsP.from ⟨b, S, rfl, H5.out⟩ (HV.out.1.trans (HB14.out.mono HV.out.1.size))⟩
end Go.Proofs.YtacgfjcdfgdpjaaDoor
