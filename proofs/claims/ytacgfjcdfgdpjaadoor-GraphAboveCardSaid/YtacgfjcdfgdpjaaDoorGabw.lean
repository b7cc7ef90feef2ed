/- The law GraphAbove, walked. -/
import Derived.Test.YtacgfjcdfgdpjaaDoorGab
namespace Go.Proofs.YtacgfjcdfgdpjaaDoor
set_option linter.unusedSimpArgs false
set_option linter.unusedVariables false
open Go Go.RowKit Go.Sort Gm
set_option maxRecDepth 100000 in
set_option maxHeartbeats 16000000 in
theorem abv_walk {W : World} (c : List Ic) (p : Option Addr) (n cap : Nat) (hl : c.length = n) (hc0 : CodeAt W p c) (W0 : World) (L : Kinds W0) (e : W0 = W := by rfl) : Calls Tryd.prog 5 #[.slice p n cap] W fun e w' => e = .returned (.bool true) ∧ Below W.heap.size W w' := by
  subst e
  subst hl
  have hc := Lib.hid hc0
  have T := Lib.hid L
  clear hc0 L
  by_cases h40 : c.length ≤ 40
  · have hn : c.length ≤ 1000000 := by omega
    by_cases h0 : c.length = 0
    · have h00 : ((c.length : Int) == 0) = true := by simp [h0]
      have h40' : ¬ (40 : Int) < (c.length : Int) := by omega
      go_enter Tryd.func5, Tryd.ntmps5
      go_wp2_with (first
        | (go_at_call 7; ((with_reducible refine (awake_any T).mono ?_); rintro e1 w1 ⟨rfl, hb1⟩; have C1 := Lib.hid (hc.out.stay hb1); have T1 := Lib.hid (T.out.below hb1); have B1 := Lib.hid hb1; clear hb1)))
      go_ret
      exact ⟨rfl, B1.out⟩
    · have h40' : ¬ (40 : Int) < (c.length : Int) := by omega
      have h00 : ((c.length : Int) == 0) = false := beq_eq_false_iff_ne.2 (by omega)
      have hpos : 0 < c.length := by omega
      go_enter Tryd.func5, Tryd.ntmps5
      go_upto_region 9 with (first
        | (go_at_call 7; ((with_reducible refine (awake_any T).mono ?_); rintro e1 w1 ⟨rfl, hb1⟩; have C1 := Lib.hid (hc.out.stay hb1); have T1 := Lib.hid (T.out.below hb1); have B1 := Lib.hid hb1; clear hb1))
        | (go_at_call 9; ((with_reducible refine (reach_c hn C1 T1).mono ?_); rintro e2 w2 ⟨v6, rfl, h2, hb2⟩; have H6 := Lib.hid h2; have C2 := Lib.hid (C1.out.stay hb2); have T2 := Lib.hid (T1.out.below hb2); have B2 := Lib.hid (below_ch B1.out hb2); clear h2 hb2))
        | (go_at_call 14; ((with_reducible refine (domin_c hn C2 T2).mono ?_); rintro e3 w3 ⟨v7, rfl, h3, hb3⟩; have H7 := Lib.hid h3; have H6b := Lib.hid (H6.out.stay hb3); have C3 := Lib.hid (C2.out.stay hb3); have T3 := Lib.hid (T2.out.below hb3); have B3 := Lib.hid (below_ch B2.out hb3); clear h3 hb3))
        | (go_at_call 12; ((with_reducible refine (preds_c hn C3 T3).mono ?_); rintro e5 w5 ⟨v9, rfl, h5, hb5⟩; have H9 := Lib.hid h5; have H6d := Lib.hid (H6b.out.stay hb5); have H7d := Lib.hid (rows_br H7.out hb5); have C5 := Lib.hid (C3.out.stay hb5); have T5 := Lib.hid (T3.out.below hb5); have B5 := Lib.hid (below_ch B3.out hb5); clear h5 hb5)))
      obtain ⟨q6, cq6, g6, rfl, r6, t6⟩ := H6d.out
      obtain ⟨q7, cq7, S7, rfl, r7, t7⟩ := H7d.out
      obtain ⟨q9, cq9, S9, rfl, r9, t9⟩ := H9.out
      have R6 := Lib.hid (And.intro r6 t6)
      have R7 := Lib.hid (And.intro r7 t7)
      have R9 := Lib.hid (And.intro r9 t9)
      clear r6 t6 r7 t7 r9 t9
      -- what is above what, in any later world
      have RD : Hid (∀ X i k, Below w5.heap.size w5 X → i < c.length → k < c.length → ∃ g, (∃ a o, q7 = some ⟨a, o, none⟩ ∧ ∃ qa qo ci, X.cell? ⟨a, o + i, none⟩ = some (.slice (some ⟨qa, qo, none⟩) c.length ci) ∧ X.cell? ⟨qa, qo + k, none⟩ = some (.bool g)) ∧ (g = true ↔ Dmp c k i)) := Lib.hid fun X i k hX hi hk => by
        obtain ⟨a, o, e, _, h1⟩ := (R7.out.1.stay hX) i hi
        obtain ⟨qi, ci, gi, ei, ri, ti⟩ := R7.out.2 i hi
        obtain ⟨qa, qo, rfl, _, h2⟩ := (ri.stay hX) k hk
        rw [ei] at h1
        exact ⟨gi k, ⟨a, o, e, qa, qo, ci, h1, h2⟩, ti k hk⟩
      go_wp2
      go_loopw [7] (fun a wr => ∃ i : Nat, a = .int .i64 i ∧ i ≤ c.length ∧ Hid (Below w5.heap.size w5 wr)) (fun a _ => c.length - (intOf a).toNat)
      case atStart => exact ⟨0, rfl, Nat.zero_le _, Lib.hid (Below.refl _ _)⟩
      case round =>
        obtain ⟨wo, rfl⟩ : ∃ wo : World, wo = wr := ⟨_, rfl⟩
        obtain ⟨i, rfl, hi, HB⟩ := hrel
        by_cases hin : i < c.length
        · go_upto_region 12 with (fail)
          go_cut [80] from 39 to 80 (fun v X => v = .bool false ∧ Below w5.heap.size w5 X)
          case first =>
            obtain ⟨a6, o6, rfl, -, i6⟩ := (R6.out.1.stay HB.out) i hin
            have h6 := bool_is (R6.out.2 i hin)
            simp only [bv] at i6
            obtain ⟨x0, ⟨a7, o7, rfl, qa, qo, ci, k1, k2⟩, hx0⟩ := RD.out wo i 0 HB.out hin hpos
            obtain ⟨x1, ⟨a7', o7', e7, qa', qo', ci', k1', k2'⟩, hx1⟩ := RD.out wo i i HB.out hin hin
            cases e7
            rw [k1] at k1'
            cases k1'
            rw [Nat.add_zero] at k2
            obtain ⟨a9, o9, rfl, -, i9⟩ := (R9.out.1.stay HB.out) i hin
            obtain ⟨l, ⟨pl, cl, el, rl⟩, -, hup, hml⟩ := R9.out.2 i hin
            rw [el] at i9
            have hx0 := bool_is (hx0.trans dmp_zero)
            have hx1 := bool_is (hx1.trans dmp_self)
            clear el rl hup
            by_cases hi0 : i = 0
            · have hr : Rch c i := hi0 ▸ rch_zero hpos
              have hb0 : ((i : Int) == 0) = true := by rw [hi0]; rfl
              rw [h6.1 hr] at i6
              rw [hx0.1 hr] at k2
              rw [hx1.1 hr] at k2'
              clear h6 hx0 hx1 hml hr hi0
              go_quiet (fail)
              go_wp2
              go_meet
              exact ⟨rfl, below_like HB.out rfl rfl rfl rfl⟩
            · have hb0 : ((i : Int) == 0) = false := beq_eq_false_iff_ne.2 (by omega)
              have hrp := rch_pred (c := c) hi0
              by_cases hl0 : l.length = 0
              · have hr : ¬ Rch c i := fun h => by
                  obtain ⟨t, h1, h2⟩ := hrp.1 h
                  have h3 := (hml t).2 ⟨h1, h2⟩
                  rw [List.eq_nil_of_length_eq_zero hl0] at h3
                  cases h3
                rw [h6.2 hr] at i6
                rw [hx0.2 hr] at k2
                rw [hx1.2 hr] at k2'
                rw [hl0] at i9
                clear h6 hx0 hx1 hml hr hi0 hrp
                go_quiet (fail)
                go_wp2
                go_meet
                exact ⟨rfl, below_like HB.out rfl rfl rfl rfl⟩
              · have hlp : 0 < l.length := by omega
                have hlp' : (0 : Int) < (l.length : Int) := by omega
                have hr : Rch c i := by
                  obtain ⟨t, ht⟩ := List.exists_mem_of_length_pos hlp
                  exact hrp.2 ⟨t, (hml t).1 ht⟩
                rw [h6.1 hr] at i6
                rw [hx0.1 hr] at k2
                rw [hx1.1 hr] at k2'
                clear h6 hx0 hx1 hml hr hi0 hrp
                go_quiet (fail)
                go_wp2
                go_meet
                exact ⟨rfl, below_like HB.out rfl rfl rfl rfl⟩
          case rest =>
            obtain ⟨rfl, hbc⟩ := hcut
            have HB := Lib.hid hbc
            clear hbc
            go_wp2
            go_loopw [8] (fun a wi => ∃ k : Nat, a = .int .i64 k ∧ k ≤ c.length ∧ Hid (Below w5.heap.size w5 wi)) (fun a _ => c.length - (intOf a).toNat)
            case atStart => exact ⟨0, rfl, Nat.zero_le _, HB⟩
            case round =>
              clear HB
              obtain ⟨wp, rfl⟩ : ∃ wo : World, wo = wr := ⟨_, rfl⟩
              obtain ⟨k, rfl, hk, HB⟩ := hrel
              by_cases hkn : k < c.length
              · go_wp2
                go_loopw [9] (fun a wi => ∃ j : Nat, a = .int .i64 j ∧ j ≤ c.length ∧ Hid (Below w5.heap.size w5 wi)) (fun a _ => c.length - (intOf a).toNat)
                case atStart => exact ⟨0, rfl, Nat.zero_le _, HB⟩
                case round =>
                  clear HB
                  obtain ⟨wj, rfl⟩ : ∃ wo : World, wo = wr := ⟨_, rfl⟩
                  obtain ⟨j, rfl, hj, HB⟩ := hrel
                  by_cases hjn : j < c.length
                  · go_upto_region 20 with (fail)
                    go_cut [141] from 93 to 141 (fun v X => v = .bool false ∧ Below w5.heap.size w5 X)
                    case first =>
                      obtain ⟨g1, ⟨a7, o7, rfl, qi, oi, ci, r1, c1⟩, h1⟩ := RD.out wj i k HB.out hin hkn
                      obtain ⟨g2, ⟨a7', o7', e7, qk, ok, ck, r2, c2⟩, h2⟩ := RD.out wj k j HB.out hkn hjn
                      cases e7
                      obtain ⟨g3, ⟨a7', o7', e7, qi', oi', ci', r3, c3⟩, h3⟩ := RD.out wj i j HB.out hin hjn
                      cases e7
                      rw [r1] at r3
                      cases r3
                      obtain ⟨g4, ⟨a7', o7', e7, qk', ok', ck', r4, c4⟩, h4⟩ := RD.out wj k i HB.out hkn hin
                      cases e7
                      rw [r2] at r4
                      cases r4
                      cases g1 with
                      | false =>
                        clear h1 h2 h3 h4
                        go_wp2
                        go_meet
                        exact ⟨rfl, below_like HB.out rfl rfl rfl rfl⟩
                      | true =>
                        have d1 := h1.1 rfl
                        by_cases hik : i = k
                        · have hb : ((i : Int) != (k : Int)) = false := by rw [hik]; simp
                          have e4 : g4 = true := h4.2 (by rw [← hik]; exact dmp_self.2 d1.1)
                          subst e4
                          cases g2 with
                          | true =>
                            have e3 : g3 = true := h3.2 (dmp_trans d1 (h2.1 rfl))
                            subst e3
                            clear h1 h2 h3 h4 d1 hik
                            go_wp2
                            go_meet
                            exact ⟨rfl, below_like HB.out rfl rfl rfl rfl⟩
                          | false =>
                            clear h1 h2 h3 h4 d1 hik
                            go_wp2
                            go_meet
                            exact ⟨rfl, below_like HB.out rfl rfl rfl rfl⟩
                        · have e4 : g4 = false := Bool.eq_false_iff.2 fun e => hik (dmp_anti d1 (h4.1 e))
                          subst e4
                          cases g2 with
                          | true =>
                            have e3 : g3 = true := h3.2 (dmp_trans d1 (h2.1 rfl))
                            subst e3
                            clear h1 h2 h3 h4 d1 hik
                            go_wp2
                            go_meet
                            exact ⟨rfl, below_like HB.out rfl rfl rfl rfl⟩
                          | false =>
                            clear h1 h2 h3 h4 d1 hik
                            go_wp2
                            go_meet
                            exact ⟨rfl, below_like HB.out rfl rfl rfl rfl⟩
                    case rest =>
                      obtain ⟨rfl, hbc⟩ := hcut
                      have HB := Lib.hid hbc
                      clear hbc
                      go_wp2
                      go_roundw
                      case rel => exact ⟨j + 1, by go_num, by omega, HB⟩
                      case measure => (simp [intOf]; try omega)
                  · obtain rfl : j = c.length := by omega
                    go_wp2
                    go_roundw
                    case rel => exact ⟨k + 1, by go_num, by omega, HB⟩
                    case measure => (simp [intOf]; try omega)
              · obtain rfl : k = c.length := by omega
                go_wp2
                go_roundw
                case rel => exact ⟨i + 1, by go_num, by omega, HB⟩
                case measure => (simp [intOf]; try omega)
        · obtain rfl : i = c.length := by omega
          have CQ : Hid (CodeAt wo p c) := Lib.hid (C5.out.stay HB.out)
          have TQ : Hid (Kinds wo) := Lib.hid (T5.out.below HB.out)
          go_upto_region 23 with (first
            | (go_at_call 16; ((with_reducible refine (loops_c hn CQ TQ).mono ?_); rintro e7 w7 ⟨v10, rfl, h7, hb7⟩; have H10 := Lib.hid h7; have HB7 := Lib.hid hb7; clear h7 hb7)))
          obtain ⟨q10, cq10, S10, rfl, r10, t10⟩ := H10.out
          have R10 := Lib.hid (And.intro r10 t10)
          have HBw : Hid (Below w5.heap.size w5 w7) := Lib.hid (HB.out.trans (HB7.out.mono HB.out.size))
          have HBW : Hid (Below W0.heap.size W0 w7) := Lib.hid (B5.out.trans (HBw.out.mono B5.out.size))
          have hphl : (phs c).length ≤ 40 := by
            have : (phs c).length ≤ c.length := by
              unfold phs
              exact Nat.le_trans (List.length_filter_le _ _) (by simp)
            omega
          clear r10 t10
          go_wp2
          go_loopw [11] (fun a wr => ∃ i : Nat, a = .int .i64 i ∧ i ≤ (phs c).length ∧ Hid (Below w7.heap.size w7 wr)) (fun a _ => (phs c).length - (intOf a).toNat)
          case atStart => exact ⟨0, rfl, Nat.zero_le _, Lib.hid (Below.refl _ _)⟩
          case round =>
            clear HB
            obtain ⟨wl, rfl⟩ : ∃ wo : World, wo = wr := ⟨_, rfl⟩
            obtain ⟨i, rfl, hi, HB⟩ := hrel
            by_cases hin : i < (phs c).length
            · obtain ⟨l, ⟨pl, cl, el, rl⟩, hll, hup, hml⟩ := R10.out.2 i hin
              obtain ⟨h, hh⟩ : ∃ h, (phs c).getD i 0 = h := ⟨_, rfl⟩
              have hhp : h ∈ phs c := by
                rw [← hh, List.getD_eq_getElem?_getD, List.getElem?_eq_getElem hin]
                exact List.getElem_mem hin
              rw [hh] at hml
              have hhl : h ∈ l := (hml h).2 (mem_phs.1 hhp).2
              obtain ⟨qh, hqh, eqh⟩ := List.mem_iff_getElem.1 hhl
              have HRow : Hid (∀ X, Below w7.heap.size w7 X → ∃ a o, q10 = some ⟨a, o, none⟩ ∧ X.cell? ⟨a, o + i, none⟩ = some (.slice pl l.length cl) ∧ ∀ q, q < l.length → ∃ b u, pl = some ⟨b, u, none⟩ ∧ X.cell? ⟨b, u + q, none⟩ = some (.int .i64 (l.getD q 0 : Nat))) := Lib.hid fun X hX => by
                obtain ⟨a, o, e, _, h1⟩ := (R10.out.1.stay hX) i hin
                rw [el] at h1
                refine ⟨a, o, e, h1, fun q hq => ?_⟩
                obtain ⟨b, u, e2, _, h2⟩ := (rl.stay hX) q hq
                exact ⟨b, u, e2, h2⟩
              have HM := Lib.hid hml
              have HQ : Hid (qh < l.length ∧ l.getD qh 0 = h) := Lib.hid ⟨hqh, by rw [List.getD_eq_getElem?_getD, List.getElem?_eq_getElem hqh, eqh]; rfl⟩
              clear el rl hup hml hh hhp hhl hqh eqh
              go_wp2
              go_loopw [12, 13] (fun a12 a13 wr => ∃ hh q : Nat, a12 = .int .i64 hh ∧ a13 = .int .i64 q ∧ q ≤ l.length ∧ Hid (hh ≤ q ∧ (qh < q → 1 ≤ hh)) ∧ Hid (Below w7.heap.size w7 wr)) (fun _ a13 _ => l.length - (intOf a13).toNat)
              case atStart => exact ⟨0, 0, rfl, rfl, Nat.zero_le _, Lib.hid ⟨Nat.le_refl _, fun h => absurd h (Nat.not_lt_zero _)⟩, HB⟩
              case round =>
                clear HB
                obtain ⟨wm, rfl⟩ : ∃ wo : World, wo = wr := ⟨_, rfl⟩
                obtain ⟨hh, q, rfl, rfl, hq, HH, HB⟩ := hrel
                obtain ⟨a, o, rfl, i1, -⟩ := HRow.out wm HB.out
                by_cases hql : q < l.length
                · go_wp2
                  go_loopw [14, 15] (fun a14 a15 wr => ∃ (b : Bool) (j : Nat), a14 = .bool b ∧ a15 = .int .i64 j ∧ j ≤ l.length ∧ Hid (q = qh → b = true) ∧ Hid (Below w7.heap.size w7 wr)) (fun _ a15 _ => l.length - (intOf a15).toNat)
                  case atStart => exact ⟨true, 0, rfl, rfl, Nat.zero_le _, Lib.hid fun _ => rfl, HB⟩
                  case round =>
                    clear HB i1
                    obtain ⟨wn, rfl⟩ : ∃ wo : World, wo = wr := ⟨_, rfl⟩
                    obtain ⟨b, j, rfl, rfl, hj, HT, HB⟩ := hrel
                    obtain ⟨a', o', e', i1, i2⟩ := HRow.out wn HB.out
                    cases e'
                    by_cases hjl : j < l.length
                    · go_upto_region 34 with (fail)
                      cases b with
                      | false =>
                        clear i2
                        go_quiet (fail)
                        go_wp2
                        go_roundw
                        case rel => exact ⟨false, j + 1, rfl, by go_num, by omega, HT, Lib.hid (below_like HB.out rfl rfl rfl rfl)⟩
                        case measure => (simp [intOf]; try omega)
                      | true =>
                        obtain ⟨b1, u1, rfl, j1⟩ := i2 j hjl
                        obtain ⟨b2, u2, e2, j2⟩ := i2 q hql
                        cases e2
                        have hm1 : l.getD j 0 ∈ l := by rw [List.getD_eq_getElem?_getD, List.getElem?_eq_getElem hjl]; exact List.getElem_mem hjl
                        have hm2 : l.getD q 0 ∈ l := by rw [List.getD_eq_getElem?_getD, List.getElem?_eq_getElem hql]; exact List.getElem_mem hql
                        have hL1 := (HM.out _).1 hm1
                        have hL2 := (HM.out _).1 hm2
                        have hz1 := hL1.lt
                        have hz2 := hL2.lt
                        have hG : q = qh → Dmp c (l.getD q 0) (l.getD j 0) := fun e => by rw [e, HQ.out.2]; exact lpp_dmp hL1
                        obtain ⟨z1, hzz1⟩ : ∃ z, l.getD j 0 = z := ⟨_, rfl⟩
                        obtain ⟨z2, hzz2⟩ : ∃ z, l.getD q 0 = z := ⟨_, rfl⟩
                        rw [hzz1] at j1 hz1 hG
                        rw [hzz2] at j2 hz2 hG
                        obtain ⟨g, ⟨a7, o7, rfl, qi, oi, ci, r1, c1⟩, hg⟩ := RD.out wn z1 z2 (HBw.out.trans (HB.out.mono HBw.out.size)) hz1 hz2
                        have HGo : Hid (q = qh → g = true) := Lib.hid fun e => hg.2 (hG e)
                        clear i2 hm1 hm2 hL1 hL2 hG hzz1 hzz2 hg
                        go_quiet (fail)
                        go_wp2
                        go_roundw
                        case rel => exact ⟨g, j + 1, rfl, by go_num, by omega, HGo, Lib.hid (below_like HB.out rfl rfl rfl rfl)⟩
                        case measure => (simp [intOf]; try omega)
                    · obtain rfl : j = l.length := by omega
                      clear i2
                      have hhq := HH.out.1
                      cases b with
                      | true =>
                        go_wp2
                        go_roundw
                        case rel => exact ⟨hh + 1, q + 1, by go_num, by go_num, by omega, Lib.hid ⟨by omega, fun _ => by omega⟩, HB⟩
                        case measure => (simp [intOf]; try omega)
                      | false =>
                        have hqn : q ≠ qh := fun e => by have := HT.out e; cases this
                        go_wp2
                        go_roundw
                        case rel => exact ⟨hh, q + 1, rfl, by go_num, by omega, Lib.hid ⟨by omega, fun h => HH.out.2 (by omega)⟩, HB⟩
                        case measure => (simp [intOf]; try omega)
                · obtain rfl : q = l.length := by omega
                  have h1 := HH.out.2 HQ.out.1
                  have hn1 : ¬ (hh : Int) < 1 := by omega
                  go_wp2
                  go_roundw
                  case rel => exact ⟨i + 1, by go_num, by omega, HB⟩
                  case measure => (simp [intOf]; try omega)
            · obtain rfl : i = (phs c).length := by omega
              go_wp2
              go_ret
              exact ⟨rfl, HBW.out.trans (HB.out.mono HBW.out.size)⟩
  · have h41 : (40 : Int) < (c.length : Int) := by omega
    go_enter Tryd.func5, Tryd.ntmps5
    go_wp2_with (first
    | (go_at_call 7; ((with_reducible refine (awake_any T).mono ?_); rintro e1 w1 ⟨rfl, hb1⟩; have C1 := Lib.hid (hc.out.stay hb1); have T1 := Lib.hid (T.out.below hb1); have B1 := Lib.hid hb1; clear hb1)))
    go_ret
    exact ⟨rfl, B1.out⟩
end Go.Proofs.YtacgfjcdfgdpjaaDoor
