/- Of any code, wherever it lies in memory, the statement answers true: where nothing branches each place up to the first end is above all behind it, and there is no loop; the listed variable ins.kinds reads as the program's text lays it. -/
import Derived.Test.YtacgfjcdfgdpjaaDoorGst
import Derived.Test.YtacgfjcdfgdpjaaDoorGld
import Derived.Test.YtacgfjcdfgdpjaaDoorOpn
import Derived.Test.YtacgfjcdfgdpjaaDoorTie
import Derived.Test.YtacgfjcdfgdpjaaDoorCards
import Derived.SevenTiedAt
import Derived.Carry
namespace Go.Proofs.YtacgfjcdfgdpjaaDoor
set_option linter.unusedSimpArgs false
set_option linter.unusedVariables false
namespace GraphStraight
open Go Go.ChangeShapes Go.WideShapes Go.ChangeAt Go.WideMaps Go.WideElems Go.RowKit Go.Sort
open Go.ChangeMaps (open_string shut_string)
open Gm
set_option maxRecDepth 100000 in
set_option maxHeartbeats 8000000 in
theorem walk {W : World} (c : List Ic) (p : Option Addr) (n cap : Nat) (hl : c.length = n) (hc0 : CodeAt W p c) (W0 : World) (L : Kinds W0) (e : W0 = W := by rfl) : Calls Tryd.prog 6 #[.slice p n cap] W fun e w' => e = .returned (.bool true) ∧ Below W.heap.size W w' := by
  subst e
  subst hl
  have hc := Lib.hid hc0
  have T := Lib.hid L
  clear hc0 L
  by_cases h40 : c.length ≤ 40
  · have hn : c.length ≤ 1000000 := by omega
    by_cases h0 : c.length = 0
    · obtain rfl : c = [] := List.eq_nil_of_length_eq_zero h0
      have HPh : Hid ((phs []).length = 0) := Lib.hid rfl
      clear h40 h0
      simp only [List.length_nil]
      have hn0 : ([] : List Ic).length ≤ 1000000 := by decide
      go_enter Tryd.func6, Tryd.ntmps6
      go_upto_region 7 with (first
        | (go_at_call 7; ((with_reducible refine (awake_any T).mono ?_); rintro e1 w1 ⟨rfl, hb1⟩; have C1 := Lib.hid (hc.out.stay hb1); have T1 := Lib.hid (T.out.below hb1); have B1 := Lib.hid hb1; clear hb1)))
      go_wp2
      go_loopw [4, 5] (fun a4 a5 wr => a4 = .int .i64 (-1) ∧ a5 = .int .i64 (-1) ∧ wr = w1) (fun _ _ _ => 0)
      case atStart => exact ⟨rfl, rfl, rfl⟩
      case round =>
        obtain ⟨rfl, rfl, rfl⟩ := hrel
        go_upto_region 18 with (first
          | (go_at_call 9; ((refine ((reach_c (c := []) hn0 C1 T1)).mono ?_); rintro e2 w2 ⟨v6, rfl, h2, hb2⟩; have H6 := Lib.hid h2; have C2 := Lib.hid (C1.out.stay hb2); have T2 := Lib.hid (T1.out.below hb2); have B2 := Lib.hid (below_ch B1.out hb2); clear h2 hb2))
          | (go_at_call 14; ((refine ((domin_c (c := []) hn0 C2 T2)).mono ?_); rintro e3 w3 ⟨v7, rfl, h3, hb3⟩; have H7 := Lib.hid h3; have H6b := Lib.hid (H6.out.stay hb3); have C3 := Lib.hid (C2.out.stay hb3); have T3 := Lib.hid (T2.out.below hb3); have B3 := Lib.hid (below_ch B2.out hb3); clear h3 hb3))
          | (go_at_call 19; ((refine ((depth_c (c := []) hn0 C3 T3)).mono ?_); rintro e4 w4 ⟨v8, rfl, h4, hb4⟩; have H8 := Lib.hid h4; have H6c := Lib.hid (H6b.out.stay hb4); have H7c := Lib.hid (rows_br H7.out hb4); have C4 := Lib.hid (C3.out.stay hb4); have T4 := Lib.hid (T3.out.below hb4); have B4 := Lib.hid (below_ch B3.out hb4); clear h4 hb4))
          | (go_at_call 12; ((refine ((preds_c (c := []) hn0 C4 T4)).mono ?_); rintro e5 w5 ⟨v9, rfl, h5, hb5⟩; have H9 := Lib.hid h5; have H6d := Lib.hid (H6c.out.stay hb5); have H7d := Lib.hid (rows_br H7c.out hb5); have H8d := Lib.hid (H8.out.stay hb5); have C5 := Lib.hid (C4.out.stay hb5); have T5 := Lib.hid (T4.out.below hb5); have B5 := Lib.hid (below_ch B4.out hb5); clear h5 hb5)))
        go_wp2
        go_loopw [10] (fun a wr => a = .int .i64 0 ∧ wr = w5) (fun _ _ => 0)
        case atStart => exact ⟨rfl, rfl⟩
        case round =>
          obtain ⟨rfl, rfl⟩ := hrel
          go_upto_region 28 with (fail)
          go_wp2_with (first
            | (go_at_call 16; ((refine ((loops_c (c := []) hn0 C5 T5)).mono ?_); rintro e7 w7 ⟨v10, rfl, h7, hb7⟩; obtain ⟨q10, cq10, S10, rfl, -, -⟩ := h7; (try rw [HPh.out]); have C7 := Lib.hid (C5.out.stay hb7); have T7 := Lib.hid (T5.out.below hb7); have B7 := Lib.hid (below_ch B5.out hb7); clear hb7)))
          go_ret
          exact ⟨rfl, B7.out⟩
    · have h40' : ¬ (40 : Int) < (c.length : Int) := by omega
      go_enter Tryd.func6, Tryd.ntmps6
      go_upto_region 6 with (first
        | (go_at_call 7; ((with_reducible refine (awake_any T).mono ?_); rintro e1 w1 ⟨rfl, hb1⟩; have C1 := Lib.hid (hc.out.stay hb1); have T1 := Lib.hid (T.out.below hb1); have B1 := Lib.hid hb1; clear hb1)))
      go_wp2
      go_loopw [4, 5] (fun a4 a5 wr => ∃ (m E : Nat), a4 = .int .i64 E ∧ a5 = .int .i64 ((m : Int) - 1) ∧ m ≤ c.length ∧ wr = w1 ∧ Hid (Look c m E)) (fun _ a5 _ => (intOf a5 + 1).toNat)
      case atStart => exact ⟨c.length, c.length - 1, by congr 1; omega, rfl, Nat.le_refl _, rfl, Lib.hid ⟨by omega, by omega, fun j h1 h2 => by omega, fun j h1 h2 => by omega, .inr (by omega)⟩⟩
      case round =>
        obtain ⟨m, E, rfl, rfl, hm, rfl, HK⟩ := hrel
        by_cases hm0 : m = 0
        · subst hm0
          have HS := Lib.hid HK.out.str
          have hEl := HK.out.lt
          go_upto_region 18 with (first
            | (go_at_call 9; ((with_reducible refine (reach_c hn C1 T1).mono ?_); rintro e2 w2 ⟨v6, rfl, h2, hb2⟩; have H6 := Lib.hid h2; have C2 := Lib.hid (C1.out.stay hb2); have T2 := Lib.hid (T1.out.below hb2); have B2 := Lib.hid (below_ch B1.out hb2); clear h2 hb2))
            | (go_at_call 14; ((with_reducible refine (domin_c hn C2 T2).mono ?_); rintro e3 w3 ⟨v7, rfl, h3, hb3⟩; have H7 := Lib.hid h3; have H6b := Lib.hid (H6.out.stay hb3); have C3 := Lib.hid (C2.out.stay hb3); have T3 := Lib.hid (T2.out.below hb3); have B3 := Lib.hid (below_ch B2.out hb3); clear h3 hb3))
            | (go_at_call 19; ((with_reducible refine (depth_c hn C3 T3).mono ?_); rintro e4 w4 ⟨v8, rfl, h4, hb4⟩; have H8 := Lib.hid h4; have H6c := Lib.hid (H6b.out.stay hb4); have H7c := Lib.hid (rows_br H7.out hb4); have C4 := Lib.hid (C3.out.stay hb4); have T4 := Lib.hid (T3.out.below hb4); have B4 := Lib.hid (below_ch B3.out hb4); clear h4 hb4))
            | (go_at_call 12; ((with_reducible refine (preds_c hn C4 T4).mono ?_); rintro e5 w5 ⟨v9, rfl, h5, hb5⟩; have H9 := Lib.hid h5; have H6d := Lib.hid (H6c.out.stay hb5); have H7d := Lib.hid (rows_br H7c.out hb5); have H8d := Lib.hid (H8.out.stay hb5); have C5 := Lib.hid (C4.out.stay hb5); have T5 := Lib.hid (T4.out.below hb5); have B5 := Lib.hid (below_ch B4.out hb5); clear h5 hb5)))
          obtain ⟨q6, cq6, g6, rfl, r6, t6⟩ := H6d.out
          obtain ⟨q7, cq7, S7, rfl, r7, t7⟩ := H7d.out
          obtain ⟨q8, cq8, rfl, r8⟩ := row_map H8d.out
          obtain ⟨q9, cq9, S9, rfl, r9, t9⟩ := H9.out
          have R6 := Lib.hid (And.intro r6 t6)
          have R7 := Lib.hid (And.intro r7 t7)
          have R8 := Lib.hid r8
          have R9 := Lib.hid (And.intro r9 t9)
          clear r6 t6 r7 t7 r8 r9 t9
          go_wp2
          go_loopw [10] (fun a wr => ∃ i : Nat, a = .int .i64 i ∧ i ≤ c.length ∧ wr = w5) (fun a _ => c.length - (intOf a).toNat)
          case atStart => exact ⟨0, rfl, Nat.zero_le _, rfl⟩
          case round =>
            obtain ⟨i, rfl, hi, rfl⟩ := hrel
            by_cases hin : i < c.length
            · go_upto_region 21 with (fail)
              go_cut [128] from 87 to 128 (fun v X => v = .bool false ∧ X = wr)
              case first =>
                obtain ⟨a6, o6, rfl, -, i6⟩ := R6.out.1 i hin
                obtain ⟨a8, o8, rfl, -, i8⟩ := R8.out i hin
                obtain ⟨a9, o9, rfl, -, i9⟩ := R9.out.1 i hin
                obtain ⟨l, ⟨pl, cl, el, rl⟩, -, hup, hml⟩ := R9.out.2 i hin
                have h6 := (R6.out.2 i hin).trans HS.out.rch
                simp only [bv] at i6
                simp only [HS.out.flat] at i8
                rw [el] at i9
                have hpr := HS.out.preds hup hml
                clear el hml hup
                rcases hpr with rfl | ⟨t, rfl, ht⟩
                · by_cases hiE : i ≤ E
                  · rw [h6.2 hiE] at i6
                    clear h6
                    go_wp2
                    go_meet
                    exact ⟨rfl, rfl⟩
                  · have hgf : g6 i = false := Bool.eq_false_iff.2 fun k => hiE (h6.1 k)
                    rw [hgf] at i6
                    clear h6 hgf
                    go_wp2
                    go_meet
                    exact ⟨rfl, rfl⟩
                · obtain ⟨ga, oa, rfl, -, ia⟩ := rl 0 (by simp)
                  have hlv : lv [t] 0 = .int .i64 (t : Int) := rfl
                  rw [hlv, Nat.add_zero] at ia
                  have hne : ((t : Int) != (i : Int) - 1) = false := by simp; omega
                  clear rl hlv
                  by_cases hiE : i ≤ E
                  · rw [h6.2 hiE] at i6
                    clear h6
                    go_wp2
                    go_meet
                    exact ⟨rfl, rfl⟩
                  · have hgf : g6 i = false := Bool.eq_false_iff.2 fun k => hiE (h6.1 k)
                    rw [hgf] at i6
                    clear h6 hgf
                    go_wp2
                    go_meet
                    exact ⟨rfl, rfl⟩
              case rest =>
                obtain ⟨rfl, rfl⟩ := hcut
                go_wp2
                go_loopw [11] (fun a wi => ∃ k : Nat, a = .int .i64 k ∧ k ≤ c.length ∧ wi = wc) (fun a _ => c.length - (intOf a).toNat)
                case atStart => exact ⟨0, rfl, Nat.zero_le _, rfl⟩
                case round =>
                  obtain ⟨k, rfl, hk, rfl⟩ := hrel
                  by_cases hkn : k < c.length
                  · obtain ⟨a7, o7, rfl, -, i7⟩ := R7.out.1 i hin
                    obtain ⟨qi, ci, gi, ei, ri, ti⟩ := R7.out.2 i hin
                    rw [ei] at i7
                    obtain ⟨ai, oi, rfl, -, ii⟩ := ri k hkn
                    simp only [bv] at ii
                    have hd := (ti k hkn).trans HS.out.dmp
                    clear ei ri ti
                    by_cases hki : k ≤ i
                    · by_cases hiE : i ≤ E
                      · rw [hd.2 ⟨hki, hiE⟩] at ii
                        clear hd
                        go_wp2
                        go_roundw
                        case rel => exact ⟨k + 1, by go_num, by omega, by trivial⟩
                        case measure => (simp [intOf]; try omega)
                      · have hgf : gi k = false := Bool.eq_false_iff.2 fun h => hiE (hd.1 h).2
                        rw [hgf] at ii
                        clear hd hgf
                        go_wp2
                        go_roundw
                        case rel => exact ⟨k + 1, by go_num, by omega, by trivial⟩
                        case measure => (simp [intOf]; try omega)
                    · have hgf : gi k = false := Bool.eq_false_iff.2 fun h => hki (hd.1 h).1
                      rw [hgf] at ii
                      clear hd hgf
                      go_wp2
                      go_roundw
                      case rel => exact ⟨k + 1, by go_num, by omega, by trivial⟩
                      case measure => (simp [intOf]; try omega)
                  · obtain rfl : k = c.length := by omega
                    go_wp2
                    go_roundw
                    case rel => exact ⟨i + 1, by go_num, by omega, by trivial⟩
                    case measure => (simp [intOf]; try omega)
            · obtain rfl : i = c.length := by omega
              have HPh : Hid ((phs c).length = 0) := Lib.hid (by rw [HS.out.none]; rfl)
              go_upto_region 28 with (fail)
              go_wp2_with (first
                | (go_at_call 16; ((with_reducible refine (loops_c hn C5 T5).mono ?_); rintro e7 w7 ⟨v10, rfl, h7, hb7⟩; obtain ⟨q10, cq10, S10, rfl, -, -⟩ := h7; (try rw [HPh.out]); have C7 := Lib.hid (C5.out.stay hb7); have T7 := Lib.hid (T5.out.below hb7); have B7 := Lib.hid (below_ch B5.out hb7); clear hb7)))
              go_ret
              exact ⟨rfl, B7.out⟩
        · obtain ⟨j, rfl⟩ : ∃ j, m = j + 1 := ⟨m - 1, by omega⟩
          have hj : j < c.length := by omega
          obtain ⟨x, hx⟩ : ∃ x, c[j]? = some x := ⟨_, List.getElem?_eq_getElem hj⟩
          have hkd := kd_at hx
          obtain ⟨g, o, rfl, hg, hat, -⟩ := C1.out j x hx
          have ik := hat.k
          have e0 : ((j + 1 : Nat) : Int) - 1 = (j : Int) := by omega
          rw [e0]
          obtain ⟨k, hk⟩ : ∃ k, x.k = k := ⟨_, rfl⟩
          rw [hk] at ik hkd
          have HKd := Lib.hid hkd
          clear hat hkd hk hx
          by_cases k6 : k = 6
          · subst k6
            go_wp2
            go_ret
            exact ⟨rfl, B1.out⟩
          · have b6 : (k == 6) = false := by simp [k6]
            by_cases k7 : k = 7
            · subst k7
              go_wp2
              go_ret
              exact ⟨rfl, B1.out⟩
            · have b7 : (k == 7) = false := by simp [k7]
              by_cases kl : k < 0
              · go_wp2
                go_ret
                exact ⟨rfl, B1.out⟩
              · by_cases kg : (13 : Int) < k
                · go_wp2
                  go_ret
                  exact ⟨rfl, B1.out⟩
                · have HPl : Hid (Plain c j) := Lib.hid (by unfold Plain; rw [HKd.out]; omega)
                  by_cases k13 : k = 13
                  · subst k13
                    go_wp2
                    go_roundw
                    case rel => exact ⟨j, j, rfl, rfl, by omega, by trivial, Lib.hid (HK.out.stop hj HPl.out (.inl HKd.out))⟩
                    case measure => (simp [intOf]; try omega)
                  · have b13 : (k == 13) = false := by simp [k13]
                    by_cases k12 : k = 12
                    · subst k12
                      go_wp2
                      go_roundw
                      case rel => exact ⟨j, j, rfl, rfl, by omega, by trivial, Lib.hid (HK.out.stop hj HPl.out (.inr HKd.out))⟩
                      case measure => (simp [intOf]; try omega)
                    · have b12 : (k == 12) = false := by simp [k12]
                      have HNs : Hid (¬ Stop c j) := Lib.hid (by unfold Stop; rw [HKd.out]; omega)
                      go_wp2
                      go_roundw
                      case rel => exact ⟨j, E, rfl, rfl, by omega, by trivial, Lib.hid (HK.out.on hj HPl.out HNs.out)⟩
                      case measure => (simp [intOf]; try omega)
  · have h41 : (40 : Int) < (c.length : Int) := by omega
    go_enter Tryd.func6, Tryd.ntmps6
    go_wp2_with (first
    | (go_at_call 7; ((with_reducible refine (awake_any T).mono ?_); rintro e1 w1 ⟨rfl, hb1⟩; have C1 := Lib.hid (hc.out.stay hb1); have T1 := Lib.hid (T.out.below hb1); have B1 := Lib.hid hb1; clear hb1)))
    go_ret
    exact ⟨rfl, B1.out⟩

theorem out_laid : laidOutB Tryd.prog = true := by kernel_rfl
set_option maxRecDepth 100000 in
theorem lifted (os : Os) (started : os.Started) (H : Type) (enc : TypeId × Value → H) :
    ReturnsInHanded {} Tryd.checked os 6 .any (fun w args => (Rows.graphStraightSpec.pre enc Tryd.prog Tryd.f6 [] false w args ∧ laidMetH Tryd.prog laidL w) ∧ sizedMet enc Tryd.prog Tryd.f6 (OpenSpec.ofChange Rows.graphStraightSpec) false w args)
      (Rows.graphStraightSpec.post enc Tryd.prog Tryd.f6 false true false false) := by
  refine returnsInHanded_of_change_and (C := Tryd.checked) (X := fun w _ => laidMetH Tryd.prog laidL w) (fun _ _ _ hh h => h.of_heap hh) own started (by kernel_rfl) Tryd.func6
    (ChangeSpec.witness_shaped (enc := enc) (C := Tryd.checked) (os := os) (X := fun w _ => laidMetH Tryd.prog laidL w) false (World.doorLaid Tryd.prog 400 os) #[.slice none 0 0] 8 rfl (World.shaped_of_RefB (by kernel_rfl) (by kernel_rfl)) (by kernel_rfl) (by kernel_rfl) (by kernel_rfl) (door_met os _)) ?_
  intro W base args ds gs before hval0 hW _ _ hL _
  have hval : ∀ (j : Nat) t v, Tryd.f6.params[j]? = some t → args[j]? = some v → Value.okWide Tryd.prog W .any base t v := hval0
  have hW' := hW
  obtain ⟨p, q, hA0, hV, rfl, hfz, hnd⟩ := hW
  have hA : DataW.TrodAll enc Tryd.prog W 0 (fun _ => true) true Tryd.f6.params.toList args.toList ds p := hA0
  rw [Tryd.params6] at hA hval
  obtain ⟨v0, vs0, d0, ds0, p0, q0, hargs, rfl, rfl, h0, r0⟩ := trodAll_cons hA
  obtain ⟨rfl, rfl, rfl⟩ := trodAll_nil r0
  obtain rfl : args = #[v0] := by cases args; simp_all
  obtain ⟨rfl, rfl⟩ := trodVars_none hV
  obtain ⟨a0, n0, c0, rfl⟩ := okWide_slice Tryd.underlying22 (hval 0 22 v0 rfl rfl)
  obtain ⟨l0, hl0, hc0⟩ := open_code h0
  have hlt0 : ∀ x ∈ p0, x.block < W.heap.size := fun x hx => by simpa using hW'.lt x (by simp [hx])
  have hLaid := of_laid hL
  clear hA0 hval0
  simp only [List.append_nil] at hW'
  refine (walk l0 a0 n0 c0 hl0 hc0 W hLaid).mono fun e W' ⟨he, hb⟩ => ?_
  subst he
  exact ⟨_, rfl, _, _, _, [], _, [], hW', trodAll_mk1 (shut_bool Tryd.underlying4 _), (trodAll_cons_mk (Below.trod out_laid (by kernel_rfl) (of_decide_eq_true (by kernel_rfl)) h0 hb hlt0) trodAll_mk0), rfl, hb.frame _, fun h => by cases h⟩

theorem said : Rows.GraphStraightSaid :=
  OpenClaim.holds_of_wide 6 Tryd.f6 rfl rfl rfl rfl rfl rfl rfl ⟨rfl, rfl, rfl, rfl, rfl⟩ rfl rfl rfl rfl rfl (by kernel_rfl) Tryd.func6 (by kernel_rfl)
    (of_decide_eq_true (by kernel_rfl)) (by unfold Func.isWrapper; first | (rw [if_pos (by decide +kernel)]; kernel_rfl) | (rw [if_neg (by decide +kernel)]; exact ⟨rfl, rfl⟩))
    (fun os started H enc _ => lifted os started H enc)
end GraphStraight

theorem graphStraight_card_holds : Rows.GraphStraightCardSaid :=
  Claim7.holds_tied_plain_at .later [] _ true _ false
    GraphStraight.said (fun _ h => by cases h) (by kernel_rfl) (fun _ h => by cases h) graphStraight_row_tie rfl ⟨rfl, rfl⟩ (by kernel_rfl) rfl
    (fun f fn hf hfn => by
      obtain rfl : f = 6 := Option.some.inj ((show Tryd.prog.funcNamed "paling/palinglaw14.GraphStraight" = some 6 by kernel_rfl).symm.trans hf) |>.symm
      obtain rfl : fn = Tryd.f6 := (Option.some.inj (Tryd.func6.symm.trans hfn)).symm
      exact ⟨by kernel_rfl, fun j t ht => by
        rw [Tryd.params6] at ht
        have hm : t ∈ [22] := by simpa using Array.mem_of_getElem? ht
        have hall : ([22].all fun u => !Tryd.prog.wantsStandIn u) = true := by kernel_rfl
        exact (show Tryd.prog.wantsStandIn t = false by simpa using List.all_eq_true.1 hall t hm)⟩)
    (by kernel_rfl)
#print axioms graphStraight_card_holds
end Go.Proofs.YtacgfjcdfgdpjaaDoor
