/- The document's own Reach and Preds. -/
import Derived.Test.YtacgfjcdfgdpjaaDoorGwi
import Derived.Deep.AppendLies
namespace Go.Proofs.YtacgfjcdfgdpjaaDoor
set_option linter.unusedSimpArgs false
set_option linter.unusedVariables false
open Go Go.RowKit Gm

theorem rreach_c {W : World} {p : Option Addr} {cap : Nat} {c : List Ic} (hc : Hid (CodeAt W p c)) (hn : c.length ≤ 1000000) : Calls Tryd.prog 10 #[.slice p c.length cap] W fun e w' => ∃ v, e = .returned v ∧ BR w' v c.length (Rch c) ∧ Below W.heap.size W w' := by
  have h0 : Calls Tryd.prog 22 #[.slice p c.length cap, .int .i64 0, .int .i64 (-1)] W fun e w' => ∃ v, e = .returned v ∧ BR w' v c.length (fun z => 0 < c.length ∧ ((0 : Nat) : Int) ≠ -1 ∧ Gm.Way (Ed c) (fun z => (z : Int) ≠ -1) 0 z) ∧ (∀ a k q, v = .slice (some a) k q → W.heap.size ≤ a.block) ∧ Below W.heap.size W w' := without_any (cap := cap) hc hn 0 (by omega) (-1)
  have H0 := Lib.hid h0
  clear h0
  go_enter Tryd.func10, Tryd.ntmps10
  go_wp2_with (go_at_call 22; ((with_reducible refine H0.out.mono ?_); rintro e1 w1 ⟨v, rfl, hb, -, hbl⟩; have H1 := Lib.hid (And.intro hb hbl); clear hb hbl))
  go_ret
  obtain ⟨⟨q, cq, g, rfl, h, hg⟩, hb⟩ := H1.out
  refine ⟨_, rfl, ⟨q, cq, g, rfl, h, fun j hj => (hg j hj).trans ?_⟩, hb⟩
  constructor
  · rintro ⟨h1, _, h3⟩
    exact ⟨fun e => by rw [e] at h1; exact absurd h1 (Nat.not_lt_zero _), h3.mono fun _ _ => trivial⟩
  · rintro ⟨h1, h2⟩
    exact ⟨by omega, by decide, h2.mono fun z _ => by omega⟩
open Classical
/-- The first ones that lead to a place. -/
noncomputable def prow (c : List Ic) (i t : Nat) : List Nat := (List.range i).filter fun j => decide (Rch c j ∧ Ed c j t)
theorem prow_succ (c : List Ic) (i t : Nat) : prow c (i + 1) t = prow c i t ++ (if Rch c i ∧ Ed c i t then [i] else []) := by
  unfold prow
  rw [List.range_succ, List.filter_append]
  congr 1
  by_cases h : Rch c i ∧ Ed c i t
  · rw [if_pos h]; simp [h]
  · rw [if_neg h]; simp [h]
theorem prow_len (c : List Ic) (i t : Nat) : (prow c i t).length ≤ i := by
  unfold prow
  exact Nat.le_trans (List.length_filter_le _ _) (by simp)
theorem prow_nr {W : World} {v : Value} {c : List Ic} {t : Nat} (hn : c.length ≤ 1000000) (h : RowIn W v (prow c c.length t)) : NR W v fun j => Rch c j ∧ Ed c j t := by
  refine ⟨_, h, by have := prow_len c c.length t; omega, List.pairwise_lt_range.filter _, fun j => ?_⟩
  unfold prow
  rw [List.mem_filter, List.mem_range, decide_eq_true_eq]
  exact ⟨fun h => h.2, fun h => ⟨h.1.lt, h⟩⟩
/-- .. and the row while the last one's are put. -/
noncomputable def prow1 (c : List Ic) (i k t : Nat) : List Nat := prow c i t ++ (if t ∈ (outs c i).take k then [i] else [])
theorem prow1_zero (c : List Ic) (i t : Nat) : prow1 c i 0 t = prow c i t := by simp [prow1]
theorem prow1_succ {c : List Ic} {i k y : Nat} (hy : (outs c i)[k]? = some y) : ∀ t, prow1 c i (k + 1) t = if t = y then prow1 c i k t ++ [i] else prow1 c i k t := fun t => by
  have hk : k < (outs c i).length := (List.getElem?_eq_some_iff.1 hy).1
  have hny : y ∉ (outs c i).take k := fun h => by
    obtain ⟨j, hj, e⟩ := List.mem_iff_getElem.1 h
    have hjk : j < k := by have := hj; rw [List.length_take] at this; omega
    rw [List.getElem_take] at e
    have e2 : (outs c i)[k] = y := (List.getElem?_eq_some_iff.1 hy).2
    have := (List.pairwise_iff_getElem.1 (outs_up c i)) j k (by omega) hk hjk
    omega
  unfold prow1
  rw [List.take_add_one, hy]
  simp only [Option.toList_some, List.mem_append, List.mem_singleton]
  by_cases e : t = y
  · subst e
    rw [if_pos (.inr rfl), if_pos rfl, if_neg hny, List.append_nil]
  · rw [if_neg e]
    simp only [e, or_false]
theorem prow1_all {c : List Ic} {i : Nat} (hr : Rch c i) (t : Nat) : prow1 c i (outs c i).length t = prow c (i + 1) t := by
  rw [prow_succ, prow1, List.take_length]
  by_cases h : t ∈ outs c i
  · rw [if_pos h, if_pos ⟨hr, h⟩]
  · rw [if_neg h, if_neg fun k => h k.2]
theorem prow1_len (c : List Ic) (i k t : Nat) : (prow1 c i k t).length ≤ i + 1 := by
  unfold prow1
  rw [List.length_append]
  have := prow_len c i t
  split <;> simp <;> omega
theorem apd_like {W V X : World} {v v' : Value} (e : W.heap = V.heap) (e1 : W.os = V.os) (e2 : W.tape = V.tape) (e3 : W.output = V.output) (h : Apd W X v v') : Apd V X v v' :=
  ⟨⟨h.1.os.trans e1, h.1.tape.trans e2, h.1.output.trans e3, by rw [← e]; exact h.1.size, fun k a b => by rw [← e]; exact h.1.block k (by rw [e]; exact a) b⟩, by rw [← e]; exact h.2⟩
/-- In memory. -/
structure Pw (W V X : World) (b n : Nat) (own : Nat → Nat) (F : Nat → Value) (wl : Nat → List Nat) : Prop where
  bel : Below W.heap.size W X
  ch : Ch (fun z => z = b) V X
  wt : Wt own V.heap.size X b n F wl
  g : W.heap.size ≤ b ∧ b < V.heap.size
section
variable {W V X Y : World} {b n : Nat} {own : Nat → Nat} {F : Nat → Value} {wl wl' : Nat → List Nat}
theorem Pw.like (h : Pw W V X b n own F wl) (e : Y.heap = X.heap) (e1 : Y.os = X.os) (e2 : Y.tape = X.tape) (e3 : Y.output = X.output) : Pw W V Y b n own F wl :=
  ⟨below_like h.bel e e1 e2 e3, h.ch.like e e1 e2 e3, h.wt.like e, h.g⟩
theorem Pw.stay (h : Pw W V X b n own F wl) (hb : Below X.heap.size X Y) : Pw W V Y b n own F wl :=
  ⟨h.bel.trans (hb.mono h.bel.size), h.ch.stepB hb, h.wt.ch (S := fun _ => False) (.of hb) (fun _ _ e => e.elim) fun _ _ => rfl, h.g⟩
theorem Pw.to (h : Pw W V X b n own F wl) (e : ∀ t, t < n → wl t = wl' t) : Pw W V X b n own F wl' :=
  ⟨h.bel, h.ch, ⟨h.wt.fv, h.wt.w4, fun x hx => e x hx ▸ h.wt.rw x hx, h.wt.tg⟩, h.g⟩
theorem Pw.app {Z : World} {v' : Value} {x u : Nat} (h : Pw W V X b n own F wl) (hx : x < n) (hz : Apd X Z (F x) v') (hg : GV 3 V.heap.size Z v' ((wl x).length + 1) (upd (lv (wl x)) (wl x).length (.int .i64 (u : Int)))) :
    Pw W V (Z.setCell ⟨b, x, none⟩ v') b n (tag own X.heap.size (10 + x)) (upd F x v') (upd wl x (wl x ++ [u])) := by
  have hS : ∀ k, (F x).ownBlock = some k → V.heap.size ≤ k := fun k e => ((h.wt.rw x hx).lt k e).1
  have hg' := h.g
  exact ⟨(h.bel.trans (hz.1.below h.bel.size fun k hk e => by have := hS k e; omega)).setCell (p := ⟨b, x, none⟩) hg'.1 _, (h.ch.fresh hz.1 fun k hk e => by have := hS k e; omega).set (b := b) (.inl rfl) x v', h.wt.app hx hz hg, hg'⟩
end
set_option maxRecDepth 100000 in
set_option maxHeartbeats 8000000 in
theorem rpreds_c {W : World} {p : Option Addr} {cap : Nat} {c : List Ic} (hc : Hid (CodeAt W p c)) (hn : c.length ≤ 1000000) : Calls Tryd.prog 13 #[.slice p c.length cap] W fun e w' => ∃ v, e = .returned v ∧ Rows2 w' v c.length (fun X i u => NR X u fun t => Rch c t ∧ Ed c t i) ∧ Below W.heap.size W w' := by
  have hmk := make_ii c.length (by omega)
  go_enter Tryd.func13, Tryd.ntmps13
  go_upto_region 2 with (fail)
  refine name_world ?_
  intro V0 hV0
  obtain ⟨b, hb⟩ : ∃ b, W.heap.size = b := ⟨_, rfl⟩
  have HV0 : Hid (Below W.heap.size W V0 ∧ FV 34 V0 b c.length (fun _ => .slice none 0 0)) := Lib.hid (by
    rw [hV0, ← hb]
    exact ⟨below1 W _, FV.new rfl (by simp)⟩)
  have HB := Lib.hid hb
  try rw [hb]
  clear hV0 hb hmk
  have HC0 : Hid (CodeAt V0 p c) := Lib.hid (hc.out.stay HV0.out.1)
  go_upto_region 3 with (go_at_call 10; ((with_reducible refine (rreach_c HC0 hn).mono ?_); rintro e1 V ⟨v, rfl, hbr, hbl⟩; obtain ⟨qr, cr, r, rfl, hr, hrr⟩ := hbr; have HV := Lib.hid (And.intro hr (And.intro hrr hbl)); clear hr hrr hbl))
  have HP : Hid (Pw W V V b c.length (fun z => if z = b then 4 else 0) (fun _ => .slice none 0 0) (fun t => prow c 0 t)) := Lib.hid (by
    have h1 := HV0.out.2.stay HV.out.2.2
    refine ⟨HV0.out.1.trans (HV.out.2.2.mono HV0.out.1.size), Ch.refl _ _, ⟨h1, if_pos rfl, fun x _ => ?_, fun x _ g e => by cases e⟩, by rw [HB.out]; exact Nat.le_refl _, h1.lt⟩
    have : prow c 0 x = [] := rfl
    rw [this]
    exact GV.nil _ _ _ _)
  have HRV : Hid (∀ X, Ch (fun z => z = b) V X → RV X qr c.length (bv r)) := Lib.hid fun X hX => by
    intro j hj
    obtain ⟨g, o, e, hl, hcell⟩ := HV.out.1 j hj
    refine ⟨g, o, e, Nat.lt_of_lt_of_le hl hX.size, (hX.cell hl fun e2 => ?_).trans hcell⟩
    have hf := HV0.out.2.stay HV.out.2.2
    rw [e2, cell_of_row _ _ _ _ _ _ hf] at hcell
    by_cases h : o + j < c.length
    · rw [List.getElem?_toArray, rw_get _ h] at hcell
      simp [bv] at hcell
    · rw [List.getElem?_toArray, rw_none _ (by omega)] at hcell
      cases hcell
  have HVc : Hid (CodeAt V p c) := Lib.hid (HC0.out.stay HV.out.2.2)
  go_wp2
  go_loopw [5] (fun a wr => ∃ (i : Nat) (own : Nat → Nat) (F : Nat → Value), a = .int .i64 i ∧ i ≤ c.length ∧ Hid (Pw W V wr b c.length own F (fun t => prow c i t))) (fun a _ => c.length - (intOf a).toNat)
  case atStart => exact ⟨0, _, _, rfl, Nat.zero_le _, HP⟩
  case round =>
    clear HP
    obtain ⟨wo, rfl⟩ : ∃ wo : World, wo = wr := ⟨_, rfl⟩
    obtain ⟨i, own, F, rfl, hi, HR⟩ := hrel
    by_cases hlt : i < c.length
    · have HNx := Lib.hid (next_c (cap := cap) (Lib.hid (hc.out.stay HR.out.bel)) hn hlt)
      obtain ⟨O, hO⟩ : ∃ O, outs c i = O := ⟨_, rfl⟩
      have hOl : O.length ≤ 2 := hO ▸ outs_len c i
      rw [hO] at HNx
      have HO := Lib.hid hO
      clear hO
      go_upto_region 7 with (go_at_call 27; ((with_reducible refine HNx.out.mono ?_); rintro e5 w5 ⟨v5, rfl, hg5, hb5⟩; obtain ⟨q5, c5, rfl, -⟩ := hg5.open; have H5 := Lib.hid (And.intro hg5 hb5); clear hg5 hb5))
      have HS5 := Lib.hid (HR.out.stay H5.out.2)
      have h5s := H5.out.2.size
      by_cases hri : r i = true
      · have hRi := (HV.out.2.1 i hlt).1 hri
        have HRi := Lib.hid hRi
        clear hRi
        go_wp2
        go_loopw [7] (fun a wr => ∃ (k : Nat) (own : Nat → Nat) (F : Nat → Value), a = .int .i64 k ∧ k ≤ O.length ∧ Hid ((∀ x gb, x < c.length → (F x).ownBlock = some gb → gb < wo.heap.size ∨ w5.heap.size ≤ gb) ∧ Ch (fun z => z < wo.heap.size) w5 wr) ∧ Hid (Pw W V wr b c.length own F (fun t => prow1 c i k t))) (fun a _ => O.length - (intOf a).toNat)
        case atStart => exact ⟨0, own, F, rfl, Nat.zero_le _, Lib.hid ⟨fun x gb hx e => .inl ((HR.out.wt.rw x hx).lt gb e).2, Ch.refl _ _⟩, Lib.hid (HS5.out.to fun t _ => (prow1_zero c i t).symm)⟩
        case round =>
          obtain ⟨wi, rfl⟩ : ∃ wo : World, wo = wr := ⟨_, rfl⟩
          obtain ⟨k, own, F, rfl, hk, HM, HK⟩ := hrel
          obtain ⟨gr, o, rfl, -, iR⟩ := (HRV.out wi HK.out.ch) i hlt
          simp only [bv, hri] at iR
          by_cases hkl : k < O.length
          · obtain ⟨y, hy⟩ : ∃ y, O[k]? = some y := ⟨_, List.getElem?_eq_getElem hkl⟩
            have hym : y ∈ outs c i := by rw [HO.out]; exact List.mem_of_getElem? hy
            have hyn := (outs_lt hym).2
            obtain ⟨q', c', e', hq⟩ := H5.out.1.open
            cases e'
            obtain ⟨g5, rfl, -, hg5, hg5o, -, -, hcell⟩ := hq.resolve_left (fun e => by omega)
            have hc5 := hcell k hkl
            have ilv : lv O k = .int .i64 (y : Int) := by simp [lv, hy]
            rw [ilv] at hc5
            have iO := (HM.out.2.cell (o := k) hg5 (by omega)).trans hc5
            clear ilv hcell hq hc5
            have iF := HK.out.wt.fv.cell hyn
            have fF := HK.out.wt.fv.frozen y
            obtain ⟨pF, cF, eF, -⟩ := (HK.out.wt.rw y hyn).open
            have hgF := HK.out.wt.rw y hyn
            rw [eF] at iF hgF
            have HEF := Lib.hid eF
            have hpl := prow1_len c i k y
            obtain ⟨R, hR⟩ : ∃ R, prow1 c i k y = R := ⟨_, rfl⟩
            simp only [hR] at iF hgF hpl HEF
            have HGF := Lib.hid hgF
            have HRq := Lib.hid hR
            have HTo := Lib.hid (prow1_succ (by rw [HO.out]; exact hy) : ∀ t, prow1 c i (k + 1) t = if t = y then prow1 c i k t ++ [i] else prow1 c i k t)
            have hsb := HK.out.ch.size
            have hbi := HK.out.wt.fv.lt
            have lg5 : g5 < wi.heap.size := Nat.lt_of_lt_of_le hg5 HM.out.2.size
            have hby : ∀ X v', Apd wi X (.slice pF R.length cF) v' → X.cell? ⟨b, y, none⟩ = some (.slice pF R.length cF) ∧ X.frozen? ⟨b, y, none⟩ = false ∧ b < X.heap.size ∧ X.cell? ⟨g5, k, none⟩ = some (.int .i64 (y : Int)) ∧ g5 < X.heap.size := fun X v' hX => by
              have h := HK.out.wt.fv.ch hX.1 fun e => by
                have h1 := (hgF.lt _ e).1
                have h2 := HK.out.g.2
                omega
              exact ⟨(h.cell hyn).trans (congrArg some HEF.out), h.frozen y, h.lt, (hX.1.cell lg5 fun e => by have := HM.out.1 y g5 hyn (by rw [HEF.out]; exact e); omega).trans iO, Nat.lt_of_lt_of_le lg5 hX.1.size⟩
            have HBy := Lib.hid hby
            obtain ⟨j0, hj0, hy0, hy1, hy2⟩ := info_parts info_int
            have HNX8 : Hid (∀ (w8 : World) (gg cap8 : Nat), Apd wi w8 (.slice pF R.length cF) (.slice (some ⟨gg, 0, none⟩) (R.length + 1) cap8) → GV 3 V.heap.size w8 (.slice (some ⟨gg, 0, none⟩) (R.length + 1) cap8) (R.length + 1) (upd (lv R) R.length (.int .i64 (i : Int))) →
                ((∀ x gb, x < c.length → (upd F y (.slice (some ⟨gg, 0, none⟩) (R.length + 1) cap8) x).ownBlock = some gb → gb < wo.heap.size ∨ w5.heap.size ≤ gb) ∧ Ch (fun z => z < wo.heap.size) w5 (w8.setCell ⟨b, y, none⟩ (.slice (some ⟨gg, 0, none⟩) (R.length + 1) cap8))) ∧ Pw W V (w8.setCell ⟨b, y, none⟩ (.slice (some ⟨gg, 0, none⟩) (R.length + 1) cap8)) b c.length (tag own wi.heap.size (10 + y)) (upd F y (.slice (some ⟨gg, 0, none⟩) (R.length + 1) cap8)) (fun t => prow1 c i (k + 1) t)) := Lib.hid fun w8 gg cap8 hA hG => by
              have hsz := HM.out.2.size
              refine ⟨⟨fun x gb hx e => ?_, ?_⟩, (HK.out.app (u := i) hyn (by rw [HEF.out]; exact hA) (by rw [HRq.out]; exact hG)).to fun t _ => ?_⟩
              · by_cases ex : x = y
                · rw [ex, upd_at] at e
                  rcases hA.2 with h | ⟨g', h, h2⟩
                  · exact HM.out.1 y gb hyn (by rw [HEF.out]; exact h.symm.trans e)
                  · rw [h] at e
                    cases e
                    exact .inr (by omega)
                · rw [upd_of ex] at e
                  exact HM.out.1 x gb hx e
              · refine (HM.out.2.fresh hA.1 fun z hz e => ?_).set (b := b) (.inl ?_) y _
                · have := HM.out.1 y z hyn (by rw [HEF.out]; exact e)
                  omega
                · have := HR.out.wt.fv.lt
                  exact this
              · rw [HTo.out t]
                by_cases et : t = y
                · rw [et, if_pos rfl, upd_at]
                · rw [if_neg et, upd_of et]
            clear hgF eF hR hby hy
            go_upto_region 10 with (fail)
            go_region_law (refine step_append_lies _ (by rfl) _ _ _ (by rfl) V.heap.size 3 j0 _ 1 8 Tryd.underlying34 hj0 hy0 hy1 hy2 rfl (by decide) (.slice pF R.length cF) R.length (rw_ R.length (lv R)) (by rfl) (World.ownsRow.alloc (HGF.out.of_heap fun _ _ => rfl) _) ⟨_, 0, none⟩ 1 1 [.int .i64 (i : Int)] (by rfl) (by rfl) (World.news_of_block (heap_alloc_new _ _)) (fun u hu => by simp at hu; subst hu; rfl) (by decide) (by unfold maxLen; omega) (by omega) (by simp; omega) _ rfl ?_; intro gg cap8 w8 hown8 hgrow8 hor8 hlt8; have hA8 : Apd wi w8 (.slice pF R.length cF) (.slice (some ⟨gg, 0, none⟩) (R.length + 1) cap8) := apd_like (W := wi.drew) rfl rfl rfl rfl (apd_of hgrow8 (hor8.elim (fun h => .inl h.symm) (fun h => .inr (congrArg some h)))); have HG8 : Hid (GV 3 V.heap.size w8 (.slice (some ⟨gg, 0, none⟩) (R.length + 1) cap8) (R.length + 1) (upd (lv R) R.length (.int .i64 (i : Int)))) := Lib.hid (GV.more hown8); obtain ⟨c8, f8, l8, d8, m8⟩ := HBy.out w8 _ hA8; have HA8 := Lib.hid hA8; clear hown8 hgrow8 hor8 hlt8 hA8)
            all_goals
              go_wp2
              go_roundw
              case rel =>
                obtain ⟨n1, n2⟩ := HNX8.out w8 gg cap8 HA8.out HG8.out
                exact ⟨k + 1, _, _, by go_num, by omega, Lib.hid ⟨n1.1, n1.2.like rfl rfl rfl rfl⟩, Lib.hid (n2.like rfl rfl rfl rfl)⟩
              case measure => (simp [intOf]; try omega)
          · obtain rfl : k = O.length := by omega
            have HE : Hid (∀ t, t < c.length → prow1 c i O.length t = prow c (i + 1) t) := Lib.hid fun t _ => by rw [← HO.out]; exact prow1_all HRi.out t
            go_wp2
            go_roundw
            case rel => exact ⟨i + 1, own, F, by go_num, by omega, Lib.hid ((HK.out.to HE.out).like rfl rfl rfl rfl)⟩
            case measure => (simp [intOf]; try omega)
      · have hrf : r i = false := by simpa using hri
        have HE : Hid (∀ t, t < c.length → prow c i t = prow c (i + 1) t) := Lib.hid fun t _ => by
          rw [prow_succ, if_neg fun k => hri ((HV.out.2.1 i hlt).2 k.1), List.append_nil]
        obtain ⟨gr, o, rfl, -, iR⟩ := (HRV.out w5 HS5.out.ch) i hlt
        simp only [bv, hrf] at iR
        clear hri
        go_wp2
        go_loopw [7] (fun a wr => a = .int .i64 0 ∧ wr = w5) (fun _ _ => 0)
        case atStart => exact ⟨rfl, rfl⟩
        case round =>
          obtain ⟨rfl, rfl⟩ := hrel
          by_cases hO0 : O.length = 0
          · rw [hO0]
            go_wp2
            go_roundw
            case rel => exact ⟨i + 1, own, F, by go_num, by omega, Lib.hid ((HS5.out.to HE.out).like rfl rfl rfl rfl)⟩
            case measure => (simp [intOf]; try omega)
          have hO1 : (0 : Int) < (O.length : Int) := by omega
          go_wp2
          go_roundw
          case rel => exact ⟨i + 1, own, F, by go_num, by omega, Lib.hid ((HS5.out.to HE.out).like rfl rfl rfl rfl)⟩
          case measure => (simp [intOf]; try omega)
    · obtain rfl : i = c.length := by omega
      go_wp2
      go_ret
      refine ⟨_, rfl, ⟨_, _, F, rfl, HR.out.wt.fv.rv, fun t ht => prow_nr hn ?_⟩, HR.out.bel⟩
      obtain ⟨q, cq, e, h, _⟩ := (HR.out.wt.rw t ht).rv
      exact ⟨q, cq, e, h⟩
end Go.Proofs.YtacgfjcdfgdpjaaDoor
