/- A place that is come to: graph's ways.come. -/
import Derived.Test.YtacgfjcdfgdpjaaDoorGco
import Derived.StillTailTactics
import Derived.Deep.RegionHeld3
namespace Go.Proofs.YtacgfjcdfgdpjaaDoor
set_option linter.unusedSimpArgs false
set_option linter.unusedVariables false
open Go Go.RowKit Go.Lib Gm

theorem nextM_len (x : Ic) (p : Int) : (nextM x p).length ≤ 2 := by
  unfold nextM
  split
  · split
    · split
      · exact Nat.le_trans (srt_len _) (by simp)
      · exact srt_len _
    · split
      · simp
      · exact Nat.le_trans (srt_len _) (by simp)
  · simp
/-- One place more. -/
def Wm.more (y : Wm) (c : List Ic) (at_ : Nat) (o : Option Nat) : Wm := { n := y.n, m := y.m + 1, pl := upd y.pl y.m at_, num := upd y.num at_ (some y.m), fr := upd y.fr y.m o, ot := upd y.ot y.m (outs c at_) }
def ComeP (W : World) (own : Nat → Nat) (B : Nat) (d : Wv) (y : Wm) (c : List Ic) (at_ : Nat) (o : Option Nat) (e : Ending) (w' : World) : Prop :=
  ∃ d' own', e = .returned (.int .i64 (y.m : Int)) ∧ Ws w' own' B d' (y.more c at_ o) (y.m + 1) (y.m + 1) (y.m + 1) ∧ d'.a = d.a ∧ (∀ b, b < W.heap.size → own' b = own b) ∧ (∀ b, W.heap.size ≤ b → own' b ≠ 5 ∧ own' b ≠ 6) ∧ Ch (mine own B) W w'
theorem apd_of {W X : World} {o : Obj} {v v' : Value} (h : (W.alloc o).grownBy X v.ownBlock) (ha : v'.ownBlock = v.ownBlock ∨ v'.ownBlock = some (W.alloc o).heap.size) : Apd W X v v' :=
  ⟨((Ch.refl _ W).alloc o).grown h fun b e => .inl e, ha.imp id fun h => ⟨_, h, by simp⟩⟩
theorem mine_tag {own : Nat → Nat} {B C t b : Nat} (h : b < C) : mine (tag own C t) B b ↔ mine own B b := by
  unfold mine
  rw [tag_lt h]
/-- A step of the ways' own. -/
theorem ch_own {V W X : World} {own own' : Nat → Nat} {B : Nat} (h : Ch (mine own B) V W) (hs : Ch (mine own' B) W X) (he : ∀ b, b < V.heap.size → own' b = own b) : Ch (mine own B) V X :=
  h.fresh hs fun b hb hm => by
    unfold mine at hm ⊢
    rw [he b hb] at hm
    exact hm
theorem tag_fin {own : Nat → Nat} {A3 A4 A5 A7 A b : Nat} (h3 : A ≤ A3) (h4 : A3 ≤ A4) (h5 : A4 ≤ A5) (h7 : A5 ≤ A7) :
    (b < A → tag (tag (tag (tag (tag own A 9) A3 2) A4 3) A5 7) A7 4 b = own b) ∧ (A ≤ b → tag (tag (tag (tag (tag own A 9) A3 2) A4 3) A5 7) A7 4 b ≠ 5 ∧ tag (tag (tag (tag (tag own A 9) A3 2) A4 3) A5 7) A7 4 b ≠ 6) := by
  unfold tag
  constructor
  · intro h
    rw [if_neg (by omega), if_neg (by omega), if_neg (by omega), if_neg (by omega), if_neg (by omega)]
  · intro h
    split
    · omega
    · split
      · omega
      · split
        · omega
        · split
          · omega
          · omega
theorem come_end {W0 W W3 W4 W5 w7 w8 : World} {own : Nat → Nat} {d d5 : Wv} {y y' : Wm} {c : List Ic} {at_ : Nat} {o : Option Nat} {v vr : Value} (HY : Hid (y.more c at_ o = y')) (hz : W.heap.size ≤ W3.heap.size ∧ W3.heap.size ≤ W4.heap.size ∧ W4.heap.size ≤ W5.heap.size) (hw0 : W0.heap.size ≤ W.heap.size)
    (HW5 : Hid (Ws W5 (tag (tag (tag own W.heap.size 9) W3.heap.size 2) W4.heap.size 3) W0.heap.size d5 y' (y.m + 1) (y.m + 1) y.m)) (HB5 : Hid (Ch (mine own W0.heap.size) W W5)) (hda : d5.a = d.a ∧ own d.a = 8 ∧ W0.heap.size ≤ d.a) (ha : d.a < W.heap.size)
    (HB7 : Hid (Below W5.heap.size W5 w7)) (HG7 : Hid (GV 3 W5.heap.size w7 vr (y'.ot y.m).length (lv (y'.ot y.m)))) (HG8 : Hid (GV 34 W0.heap.size w8 v (y.m + 1) (upd d5.s y.m vr))) (HA8 : Hid (Apd w7 w8 d5.v3 v)) :
    ComeP W own W0.heap.size d y c at_ o (.returned (.int .i64 (y.m : Int))) (w8.setCell ⟨d.a, 3, none⟩ v) := by
  have h8 := HW5.out.app3 (by omega) HB7.out HG7.out HG8.out HA8.out
  rw [hda.1] at h8
  have h75 := HB7.out.size
  have tf := fun b => tag_fin (own := own) (b := b) hz.1 hz.2.1 hz.2.2 h75
  refine ⟨{ a := d.a, bN := d5.bN, v0 := d5.v0, v2 := d5.v2, v3 := v, s := upd d5.s y.m vr }, _, rfl, HY.out ▸ h8, rfl, fun b hb => (tf b).1 hb, fun b hb => (tf b).2 hb, ?_⟩
  have h57 : Ch (mine own W0.heap.size) W w7 := HB5.out.stepB HB7.out
  have h78 : Ch (mine own W0.heap.size) W w8 := h57.fresh HA8.out.1 fun b hb e => by
    have h1 := HW5.out.t4 b e
    have h2 := (HW5.out.tor.lt b e).1
    rw [tag_lt (by omega), tag_lt (by omega), tag_lt (by omega)] at h1
    exact ⟨h2, .inr (.inr (.inr (.inl h1)))⟩
  exact h78.set (.inl ⟨hda.2.2, .inr (.inr (.inr (.inr (.inr hda.2.1))))⟩) _ _
set_option maxRecDepth 100000 in
set_option maxHeartbeats 4000000 in
theorem come_any {W0 W : World} {own : Nat → Nat} {d : Wv} {y : Wm} {p : Option Addr} {cap : Nat} {c : List Ic} (hW : Hid (Ws W own W0.heap.size d y y.m y.m y.m)) (hB : Hid (Below W0.heap.size W0 W)) (hc : Hid (CodeAt W0 p c)) (hn : Hid (y.n = c.length)) (T : Hid (Kinds W0)) (hm : y.m ≤ 1000000) (hl : c.length ≤ 1000000) {at_ : Nat} (hat : at_ < c.length) (o : Option Nat) :
    Calls Tryd.prog 37 #[.pointer (some ⟨d.a, 0, none⟩), .slice p c.length cap, .int .i64 at_, .int .i64 (ov o)] W (ComeP W own W0.heap.size d y c at_ o) := by
  obtain ⟨y', hy'⟩ : ∃ y', y.more c at_ o = y' := ⟨_, rfl⟩
  have hW0 : Hid (Ws W (tag own W.heap.size 9) W0.heap.size d { y' with num := y.num } y.m y.m y.m) := Lib.hid ((hW.out.tags fun b hb => tag_lt hb).to (by rw [← hy']; rfl) (fun i => rfl) (fun i hi => by rw [← hy']; exact upd_of (by omega)) (fun i hi => by rw [← hy']; exact upd_of (by omega)) (fun i hi => by rw [← hy']; exact upd_of (by omega)))
  have HN : Hid (y'.num = upd y.num at_ (some y.m) ∧ y'.n = c.length ∧ y'.pl y.m = at_ ∧ y'.fr y.m = o ∧ y'.ot y.m = outs c at_) := Lib.hid ⟨by rw [← hy']; rfl, by rw [← hy']; exact hn.out, by rw [← hy']; exact upd_at _ _ _, by rw [← hy']; exact upd_at _ _ _, by rw [← hy']; exact upd_at _ _ _⟩
  have HY := Lib.hid hy'
  have hs0 := hB.out.size
  obtain ⟨l, c0, c1, c2, c3, f0, f2, f3⟩ := hW0.out.facts
  obtain ⟨p0, cap0, e0, -⟩ := hW0.out.pla.open
  rw [e0] at c0
  have cN := hW0.out.num.cell (i := at_) (by show at_ < y'.n; rw [HN.out.2.1]; exact hat)
  have fN := hW0.out.num.frozen at_
  have e1 : ({ y' with num := y.num } : Wm).n = c.length := HN.out.2.1
  rw [e1] at c1
  have HE := Lib.hid e0
  have hne := hW0.out.ne
  have ha' : d.a < W.heap.size := hW0.out.facts.1
  have hb' : d.bN < W.heap.size := hW0.out.num.lt
  clear e0 e1 hy'
  go_enter Tryd.func37, Tryd.ntmps37
  go_upto_region 4 with (fail)
  refine name_world ?_
  intro W3 hW3
  have HW3 : Hid (Ws W3 (tag own W.heap.size 9) W0.heap.size d y' y.m y.m y.m) := Lib.hid (by
    rw [hW3]
    refine ((hW0.out.setN at_ (some y.m)).stay (below1 _ _)).to rfl (fun i => ?_) (fun _ _ => rfl) (fun _ _ => rfl) (fun _ _ => rfl)
    rw [HN.out.1])
  have HC3 : Hid (Ch (mine own W0.heap.size) W W3) := Lib.hid (by
    rw [hW3]
    exact ((Ch.refl _ W).set (b := d.bN) (.inl ⟨hW.out.nB, .inl hW.out.t1⟩) at_ _).alloc _)
  have HX3 : Hid (W3.heap[W.heap.size]? = some (.cells #[.slice p c.length cap] 38 (0, 0))) := Lib.hid (by
    rw [hW3]
    have := heap_alloc_new (W.setCell ⟨d.bN, at_, none⟩ (.int .i64 y.m)) (.cells #[.slice p c.length cap] 38)
    simpa [World.setCell] using this)
  have hz3 : W3.heap.size = W.heap.size + 1 := by rw [hW3]; simp [World.setCell]
  clear hW3 l c0 c1 c2 c3 f0 f2 f3 cN fN hne
  obtain ⟨l, c0, c1, c2, c3, f0, f2, f3⟩ := HW3.out.facts
  rw [HE.out] at c0
  obtain ⟨i0, hi, hz0, hz1, hz2⟩ := info_parts info_int
  obtain ⟨bx, hbx⟩ : ∃ bx, W.heap.size = bx := ⟨_, rfl⟩
  have HBX := Lib.hid hbx
  have HZ3 := Lib.hid hz3
  rw [hbx]
  clear hbx hz3
  go_upto_region 5 with (at_builtin; refine wpList_append_own_at _ rfl _ _ 34 rfl W0.heap.size 3 i0 (.int .i64 0) 1 8 Tryd.underlying34 hi hz0 hz1 hz2 rfl (by decide) _ _ _ rfl (World.ownsRow.alloc (HE.out ▸ HW3.out.pla) _) ⟨W3.heap.size, 0, none⟩ 1 1 [.int .i64 (at_ : Int)] rfl rfl ?c1 ?c2 ?c3 ?c4 ?c5 ?_)
  case c1 => exact cell_one_new _ _ _
  case c2 => intro x hx; simp at hx; subst hx; rfl
  case c3 => unfold maxLen; omega
  case c4 => omega
  case c5 => have := HZ3.out; simp; omega
  intro v4 w4 hown hgrow _ hats
  have HG4 : Hid (GV 3 W0.heap.size w4 v4 (y.m + 1) (iv fun i => y'.pl i)) := Lib.hid ((GV.more hown).to fun i hi => by
    by_cases e : i = y.m
    · rw [e, upd_at]; simp only [iv, HN.out.2.2.1]
    · rw [upd_of e])
  have HA4 : Hid (Apd W3 w4 d.v0 v4) := Lib.hid (by rw [HE.out]; exact apd_of hgrow (by simpa using hats))
  have HQ4 : Hid (w4.heap[d.a]? = W3.heap[d.a]?) := Lib.hid (HW3.out.apart HA4.out HW3.out.t2 (by decide))
  clear hown hgrow hats l c0 c1 c2 c3 f0 f2 f3
  obtain ⟨q4, k4, rfl, -⟩ := HG4.out.open
  obtain ⟨l, c0, c1, c2, c3, f0, f2, f3⟩ := HW3.out.facts' HQ4.out
  go_upto_region 5 with (fail)
  refine name_world ?_
  intro W4 hW4
  have hs3 : W0.heap.size ≤ W3.heap.size := by have := HZ3.out; omega
  have HW4 : Hid (Ws W4 (tag (tag own W.heap.size 9) W3.heap.size 2) W0.heap.size { d with v0 := .slice q4 (y.m + 1) k4 } y' (y.m + 1) y.m y.m) := Lib.hid (by rw [hW4]; exact HW3.out.app0 hs3 HG4.out HA4.out)
  have HC4 : Hid (Ch (mine (tag own W.heap.size 9) W0.heap.size) W3 W4) := Lib.hid (by
    rw [hW4]
    exact (HA4.out.1.mono fun b _ e => ⟨(HW3.out.pla.lt b e).1, .inr (.inl (HW3.out.t2 b e))⟩).set (b := d.a) (.inl ⟨HW3.out.aB, by have := HW3.out.ta; omega⟩) _ _)
  clear hW4 l c0 c1 c2 c3 f0 f2 f3
  obtain ⟨l, c0, c1, c2, c3, f0, f2, f3⟩ := HW4.out.facts
  obtain ⟨p2, cap2, e2, -⟩ := HW4.out.fro.open
  have e2' : d.v2 = .slice p2 y.m cap2 := e2
  have HE2 := Lib.hid e2'
  rw [e2] at c2
  clear e2 e2'
  go_upto_region 6 with (at_builtin; refine wpList_append_own_at _ rfl _ _ 34 rfl W0.heap.size 3 i0 (.int .i64 0) 1 8 Tryd.underlying34 hi hz0 hz1 hz2 rfl (by decide) _ _ _ rfl (World.ownsRow.alloc (HE2.out ▸ HW4.out.fro) _) ⟨W4.heap.size, 0, none⟩ 1 1 [.int .i64 (ov o)] rfl rfl (cell_one_new _ _ _) ?d2 ?d3 ?d4 ?d5 ?_)
  case d2 => rfl
  case d3 => unfold maxLen; omega
  case d4 => omega
  case d5 => have := HC4.out.size; simp; omega
  intro v5 w5 hown hgrow _ hats
  have HG5 : Hid (GV 3 W0.heap.size w5 v5 (y.m + 1) (iv fun i => ov (y'.fr i))) := Lib.hid ((GV.more hown).to fun i hi => by
    by_cases e : i = y.m
    · rw [e, upd_at]; simp only [iv, HN.out.2.2.2.1]
    · rw [upd_of e])
  have HA5 : Hid (Apd W4 w5 d.v2 v5) := Lib.hid (by rw [HE2.out]; exact apd_of hgrow (by simpa using hats))
  have HQ5 : Hid (w5.heap[d.a]? = W4.heap[d.a]?) := Lib.hid (HW4.out.apart HA5.out HW4.out.t3 (by decide))
  clear hown hgrow hats l c0 c1 c2 c3 f0 f2 f3
  obtain ⟨q5, k5, rfl, -⟩ := HG5.out.open
  obtain ⟨l, c0, c1, c2, c3, f0, f2, f3⟩ := HW4.out.facts' HQ5.out
  go_upto_region 6 with (fail)
  refine name_world ?_
  intro W5 hW5
  have HW5 : Hid (Ws W5 (tag (tag (tag own W.heap.size 9) W3.heap.size 2) W4.heap.size 3) W0.heap.size { d with v0 := .slice q4 (y.m + 1) k4, v2 := .slice q5 (y.m + 1) k5 } y' (y.m + 1) (y.m + 1) y.m) := Lib.hid (by rw [hW5]; exact HW4.out.app2 (by have := HC4.out.size; omega) HG5.out HA5.out)
  have HC5 : Hid (Ch (mine (tag (tag own W.heap.size 9) W3.heap.size 2) W0.heap.size) W4 W5) := Lib.hid (by
    rw [hW5]
    exact (HA5.out.1.mono fun b _ e => ⟨(HW4.out.fro.lt b e).1, .inr (.inr (.inl (HW4.out.t3 b e)))⟩).set (b := d.a) (.inl ⟨HW4.out.aB, .inr (.inr (.inr (.inr (.inr HW4.out.ta))))⟩) _ _)
  clear hW5 l c0 c1 c2 c3 f0 f2 f3
  obtain ⟨x, hx⟩ : ∃ x, c[at_]? = some x := ⟨_, List.getElem?_eq_getElem hat⟩
  -- what stands from the call's beginning on
  have HB5 : Hid (Ch (mine own W0.heap.size) W W5) := Lib.hid (ch_own (ch_own HC3.out HC4.out fun b hb => tag_lt hb) HC5.out fun b hb => by rw [tag_lt (by have := HC3.out.size; omega), tag_lt hb])
  have HB6 : Hid (Below W0.heap.size W0 W5) := Lib.hid (hB.out.trans (HB5.out.below hB.out.size fun b hb hm => by have := hm.1; omega))
  have HX5 : Hid (W5.heap[bx]? = some (.cells #[.slice p c.length cap] 38 (0, 0))) := Lib.hid (by
    have hb3 : bx < W3.heap.size := by have := HZ3.out; have := HBX.out; omega
    have h4 := HC4.out.block bx hb3 fun hm => by have := hm.2; rw [tag_ge (by have := HBX.out; omega)] at this; omega
    have h5 := HC5.out.block bx (by have := HC4.out.size; omega) fun hm => by have := hm.2; rw [tag_lt hb3, tag_ge (by have := HBX.out; omega)] at this; omega
    rw [h5, h4, ← HBX.out]
    exact HX3.out)
  have cX : W5.cell? ⟨bx, 0, none⟩ = some (.slice p c.length cap) := by rw [cell_of_row _ _ _ _ _ _ HX5.out]; rfl
  obtain ⟨g, o7, rfl, hg, hat7, hok⟩ := (hc.out.stay HB6.out) at_ x hx
  have lX := (Array.getElem?_eq_some_iff.1 HX5.out).1
  have k0 := hat7.k
  have k1 := hat7.o
  have k2 := hat7.d
  have k3 := hat7.a
  have k4' := hat7.b
  have k5' := hat7.n
  have k6 := hat7.t
  have HX := Lib.hid hx
  have HNX : Hid (inn c.length (nextM x at_) = (y'.ot y.m).map Int.ofNat) := Lib.hid (by rw [HN.out.2.2.2.2]; exact inn_outs hx)
  clear hx hat7 hok
  obtain ⟨l, c0, c1, c2, c3, f0, f2, f3⟩ := HW5.out.facts
  obtain ⟨p3, cap3, e3, -⟩ := HW5.out.tor.open
  have e3' : d.v3 = .slice p3 y.m cap3 := e3
  have HE3 := Lib.hid e3'
  rw [e3] at c3
  clear e3 e3'
  obtain ⟨j0, hj, hy0, hy1, hy2⟩ := info_parts info_ints
  have hlen := nextM_len x at_
  have HCL : Hid (∀ X, Below W5.heap.size W5 X → (∀ b, b < W5.heap.size → X.heap[b]? = W5.heap[b]?)) := Lib.hid fun X h b hb => h.block b hb
  go_region_law (first
    | (go_simp; go_at_call 50; ((with_reducible refine (next_any x at_ _ (by omega) (by omega) (T.out.below (below_drew HB6.out))).mono ?_); rintro e6 w6 ⟨v6, rfl, hr6, hb6⟩; have hb6' : Below W5.heap.size W5 w6 := ⟨hb6.os, hb6.tape, hb6.output, hb6.size, hb6.block⟩; obtain ⟨l6, d0, d1, d2, d3, g0, g2, g3⟩ := HW5.out.facts' (hb6'.block _ l); rw [HE3.out] at d3; have HB66 := Lib.hid hb6'; have HR6 := Lib.hid hr6; have HO6 : Hid (∀ e, v6.ownBlock = some e → W5.heap.size ≤ e) := Lib.hid (fun e h => (World.ownsRow.lt hr6 e h).1); have HE6 : Hid (v6.ownBlock ≠ some bx) := Lib.hid (fun e => by have h1 := (World.ownsRow.lt hr6 _ e).1; have h2 : W5.heap.size ≤ bx := h1; omega); clear hr6 hb6 hb6'))
    | (go_simp; go_at_call 49; ((with_reducible refine (delete_own (n := c.length) HR6.out (by omega) ((HB66.out.block bx lX).trans HX5.out) HE6.out).mono ?_); rintro e7 w7 ⟨v7, rfl, hr7, hg7⟩; have hb7 : Below W5.heap.size W5 w7 := HB66.out.grown hg7 (by have := HB66.out.size; omega) HO6.out; obtain ⟨l7, t0, t1, t2, t3, u0, u2, u3⟩ := HW5.out.facts' (hb7.block _ l); rw [HE3.out] at t3; have HG7 : Hid (GV 3 W5.heap.size w7 v7 (y'.ot y.m).length (lv (y'.ot y.m))) := Lib.hid (Rw.lv (by rw [← HNX.out]; exact hr7)); have HB77 := Lib.hid hb7; clear hr7 hg7 hb7; obtain ⟨q7, k7, rfl, -⟩ := HG7.out.open))
    | (refine step_append_lies _ (by rfl) _ _ _ (by rfl) W0.heap.size 34 j0 _ 1 24 Tryd.underlying28 hj hy0 hy1 hy2 rfl (by decide) (.slice p3 y.m cap3) y.m (rw_ y.m d.s) (by rfl) (World.ownsRow.alloc (GV.stay (HE3.out ▸ HW5.out.tor) HB77.out) _) ⟨_, 0, none⟩ 1 1 [.slice q7 (y'.ot y.m).length k7] (by rfl) (by rfl) (World.news_of_block (heap_alloc_new _ _)) (fun u hu => by simp at hu; subst hu; rfl) (by decide) (by unfold maxLen; omega) (by omega) (by have := HB77.out.size; have := HB6.out.size; simp; omega) _ rfl ?_; intro gg cap8 w8 hown8 hgrow8 hor8 hlt8; have HA8 : Hid (Apd w7 w8 d.v3 (.slice (some ⟨gg, 0, none⟩) (y.m + 1) cap8)) := Lib.hid (by rw [HE3.out]; exact apd_of hgrow8 (hor8.elim (fun h => .inl h.symm) (fun h => .inr (congrArg some h)))); have HG8 : Hid (GV 34 W0.heap.size w8 (.slice (some ⟨gg, 0, none⟩) (y.m + 1) cap8) (y.m + 1) (upd d.s y.m (.slice q7 (y'.ot y.m).length k7))) := Lib.hid (GV.more hown8); have hq8 : w8.heap[d.a]? = W5.heap[d.a]? := (HA8.out.1.block _ l7 (fun e => by have h1 := HW5.out.t4 _ e; have h2 := HW5.out.ta; have h3 := h1.symm.trans h2; cases h3)).trans (HB77.out.block _ l); obtain ⟨l8, r0, r1, r2, r3, v0, v2, v3⟩ := HW5.out.facts' hq8; clear hown8 hgrow8 hor8 hlt8 hq8))
  all_goals
    go_wp2
    go_ret
    exact come_end HY (by have := HZ3.out; have := HC4.out.size; have := HC5.out.size; omega) hs0 HW5 HB5 ⟨rfl, hW.out.ta, hW.out.aB⟩ ha' HB77 HG7 HG8 HA8
end Go.Proofs.YtacgfjcdfgdpjaaDoor
