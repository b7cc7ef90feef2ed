/- InsStays comes out true for every code and every two bytes: no condition but what the card itself says of the listed variables. -/
import Derived.Test.YtjjjdghkeogljaaDoorAwB
import Derived.Test.YtjjjdghkeogljaaDoorStm
import Derived.Test.YtjjjdghkeogljaaDoorLaidI
import Derived.Test.YtjjjdghkeogljaaDoorOpn
import Derived.Test.YtjjjdghkeogljaaDoorTie
import Derived.Test.YtjjjdghkeogljaaDoorCards
import Derived.SevenTiedAt
import Derived.Carry
namespace Go.Proofs.YtjjjdghkeogljaaDoor
set_option linter.unusedSimpArgs false
set_option linter.unusedVariables false
namespace InsStays
open Go Go.ChangeShapes Go.WideShapes Go.ChangeAt Go.WideMaps Go.WideElems Go.RowKit Go.Sort
open Go.ChangeMaps (open_string shut_string)

theorem next_is {x : Ic} {p : Int} {l : List Int} (e : nextM x p = l) (w : World) (hp0 : 0 ≤ p) (hp1 : p ≤ 1099511627776) (T : Kinds w) : Calls Tryd.prog 13 #[.agg #[.int .i64 x.k, .int .i64 x.o, .int .i64 x.d, .int .i64 x.a, .int .i64 x.b, .int .i64 x.n, .int .i64 x.t], .int .i64 p] w (RowP w l) := e ▸ next_any x p w hp0 hp1 T
theorem uses_is {x : Ic} {l : List Int} (e : usesM x = l) (w : World) (T : Kinds w) : Calls Tryd.prog 9 #[.agg #[.int .i64 x.k, .int .i64 x.o, .int .i64 x.d, .int .i64 x.a, .int .i64 x.b, .int .i64 x.n, .int .i64 x.t]] w (RowP w l) := e ▸ uses_any x w T
theorem def_is {x : Ic} {d : Int} (e : defM x = d) (w : World) (T : Kinds w) : Calls Tryd.prog 11 #[.agg #[.int .i64 x.k, .int .i64 x.o, .int .i64 x.d, .int .i64 x.a, .int .i64 x.b, .int .i64 x.n, .int .i64 x.t]] w fun e w' => e = .returned (.int .i64 d) ∧ Below w.heap.size w w' := e ▸ def_any x w T
set_option maxRecDepth 100000 in
set_option maxHeartbeats 1000000 in
theorem walk_long (p : Option Addr) (n cap : Nat) (r l : Int) (h : 5000 < n) (W : World) (L : Hid (Laid W)) : Calls Tryd.prog 5 #[.slice p n cap, .int .u8 r, .int .u8 l] W fun e w' => e = .returned (.bool true) ∧ Below W.heap.size W w' := by
  go_enter Tryd.func5, Tryd.ntmps5
  go_wp2_with (go_at_call 7; (with_reducible refine (awake_any _ L).mono ?_); rintro e' w1 ⟨rfl, hb1⟩; have hB := hb1; clear hb1)
  go_ret
  exact ⟨rfl, hB⟩
set_option maxRecDepth 100000 in
set_option maxHeartbeats 4000000 in
theorem walk_short {W : World} (c : List Ic) (p : Option Addr) (n cap : Nat) (hn : Hid (c.length = n)) (hc : Hid (CodeAt W p c)) (r l : Int) (hr0 : 0 ≤ r) (hr1 : r ≤ 255) (hl0 : 0 ≤ l) (hl1 : l ≤ 255) (h : n ≤ 5000) (L : Hid (Laid W)) (b : Bool) (hb : Hid (checkB c r l = b)) : Calls Tryd.prog 5 #[.slice p n cap, .int .u8 r, .int .u8 l] W fun e w' => e = .returned (.bool true) ∧ Below W.heap.size W w' := by
  have HC1 : Hid (∀ X, Below W.heap.size W X → Calls Tryd.prog 17 #[.slice p n cap, .agg #[.int .i64 r, .int .i64 l]] X fun e w' => e = .returned (.bool b) ∧ Below X.heap.size X w') := Lib.hid (fun X hX => check_is hb.out hn.out X (L.out.below hX).kin (hc.out.stay hX))
  cases b
  · go_enter Tryd.func5, Tryd.ntmps5
    go_wp2_with (first
      | (go_at_call 7; (with_reducible refine (awake_any _ L).mono ?_); rintro e' w1 ⟨rfl, hb1⟩; have HB1 := Lib.hid hb1; have hz1 := hb1.size; clear hb1)
      | (go_at_call 17; refine (HC1.out _ (HB1.out.alloc hz1 _)).mono ?_; rintro e' w2 ⟨rfl, hb2⟩; have HB2 := Lib.hid (below_ch (HB1.out.alloc hz1 _) hb2); clear hb2))
    go_ret
    exact ⟨rfl, HB2.out⟩
  · have HP := Lib.hid (check_parts hb.out)
    have HM : Hid (checkB c (r + 1) (l + 3) = true) := Lib.hid (check_more hb.out)
    have HC2 : Hid (∀ X, Below W.heap.size W X → Calls Tryd.prog 17 #[.slice p n cap, .agg #[.int .i64 (r + 1), .int .i64 (l + 3)]] X fun e w' => e = .returned (.bool true) ∧ Below X.heap.size X w') := Lib.hid (fun X hX => check_is HM.out hn.out X (L.out.below hX).kin (hc.out.stay hX))
    go_enter Tryd.func5, Tryd.ntmps5
    go_upto_region 7 with (go_at_call 7; (with_reducible refine (awake_any _ L).mono ?_); rintro e' w1 ⟨rfl, hb1⟩; have HB1 := Lib.hid hb1; have hz1 := hb1.size; clear hb1)
    obtain ⟨bb, hbb⟩ : ∃ bb, w1.heap.size = bb := ⟨_, rfl⟩
    refine name_world ?_
    intro W1 hW1
    have HB2 : Hid (Below W.heap.size W W1) := Lib.hid (by rw [hW1]; exact HB1.out.alloc hz1 _)
    have HD2 : Hid (Bb W1 bb (.int .i64 r) (.int .i64 l)) := Lib.hid (by rw [hW1]; exact Bb.new hbb.symm _ _)
    rw [hbb]
    clear hW1 HB1 hbb hz1
    obtain ⟨bd, d0, d1⟩ := HD2.out.facts
    go_wp2_with (go_at_call 17; (with_reducible refine (HC1.out _ HB2.out).mono ?_); rintro e' w2 ⟨rfl, hb2⟩; have HB3 := Lib.hid (below_ch HB2.out hb2); have HD3 := Lib.hid (HD2.out.stay hb2); clear hb2)
    clear bd d0 d1
    go_loopw [9] (fun i wr => ∃ k : Nat, i = .int .i64 k ∧ k ≤ n ∧ Hid (Below W.heap.size W wr) ∧ Hid (Bb wr bb (.int .i64 r) (.int .i64 l))) (fun i _ => n - (intOf i).toNat)
    case atStart => exact ⟨0, rfl, Nat.zero_le _, HB3, HD3⟩
    case round =>
      obtain ⟨wo, rfl⟩ : ∃ wo : World, wo = wr := ⟨_, rfl⟩
      obtain ⟨k, rfl, hk, HB, HD⟩ := hrel
      clear HB3 HD3 HB2 HD2
      by_cases hlt : k < n
      · obtain ⟨x, hx⟩ : ∃ x, c[k]? = some x := ⟨_, List.getElem?_eq_getElem (by rw [hn.out]; exact hlt)⟩
        have hrx := HP.out.2.2.1 x (List.mem_of_getElem? hx)
        obtain ⟨g, o, rfl, hg, hat, hok⟩ := hc.out k x hx
        have HAT := Lib.hid hat
        obtain ⟨y0, y1, y2, y3, y4, y5, y6⟩ := hat.stay hg HB.out
        have hwz : W.heap.size ≤ wo.heap.size := HB.out.size
        have hgw : g < wo.heap.size := by omega
        have hk2 : (k : Int) < (n : Int) := by omega
        have hk3 : (0 : Int) ≤ k := by omega
        have hcn : (0 : Int) < (c.length : Int) := by rw [hn.out]; omega
        obtain ⟨nl, hnl⟩ : ∃ nl, nextM x (k : Int) = nl := ⟨_, rfl⟩
        obtain ⟨ul, hul⟩ : ∃ ul, usesM x = ul := ⟨_, rfl⟩
        obtain ⟨dd, hdd⟩ : ∃ d, defM x = d := ⟨_, rfl⟩
        obtain ⟨st, hst⟩ : ∃ t, showM x = t := ⟨_, rfl⟩
        have HNL : Hid (∀ y ∈ nl, 0 ≤ y ∧ y < (n : Int)) := Lib.hid (fun y hy => by
          have := next_lt hcn hrx (i := (k : Int)) (by omega) (by
            by_cases e : k + 1 = n
            · exact .inr ⟨by rw [hn.out]; omega, last_ends HP.out.2.2.2 (by rw [hn.out]; exact e) hx⟩
            · exact .inl (by rw [hn.out]; omega)) (y := y) (by rw [hnl]; exact hy)
          rw [hn.out] at this
          exact this)
        have HUL : Hid (∀ y ∈ ul, 0 ≤ y ∧ y < r) := Lib.hid (fun y hy => uses_lt hcn hrx (by rw [hul]; exact hy))
        have HDD : Hid (dd < r) := Lib.hid (by rw [← hdd]; exact def_lt hcn hr0 hrx)
        have hse : st.toList.isEmpty = false := by rw [← hst]; exact show_some (right_kind hrx)
        have hnll : nl.length ≤ 100 := by
          rw [← hnl, next_of]
          (repeat' split) <;> simp
        have hull : ul.length ≤ 100 := by
          rw [← hul]
          unfold usesM
          split
          · unfold pos
            have h1 := List.length_filter_le (fun x => !decide (x < 0)) (srt [if kps x.k.toNat then x.d else -1, aTo x x.k.toNat 4, bTo x x.k.toNat 4])
            have h2 := srt_len [if kps x.k.toNat then x.d else -1, aTo x x.k.toNat 4, bTo x x.k.toNat 4]
            simp only [List.length_cons, List.length_nil] at h2
            omega
          · simp
        have N1 := Lib.hid hnl
        have U1 := Lib.hid hul
        have D1 := Lib.hid hdd
        have S1 := Lib.hid hst
        have HOK := Lib.hid hok
        clear hx hrx hat hok hnl hul hdd hst hcn
        have HNX : Hid (Calls Tryd.prog 13 #[.agg #[.int .i64 x.k, .int .i64 x.o, .int .i64 x.d, .int .i64 x.a, .int .i64 x.b, .int .i64 x.n, .int .i64 x.t], .int .i64 (k : Int)] wo (RowP wo nl)) := Lib.hid (next_is N1.out wo (by omega) (by omega) (L.out.below HB.out).kin)
        go_upto_region 14 with (first
          | (go_at_call 13; (with_reducible refine (HNX.out.mono ?_)); rintro e2 w2 ⟨v2, rfl, hr2, hb2⟩; have HB2 := Lib.hid (below_ch HB.out hb2); have HD2 := Lib.hid (HD.out.stay hb2); have HR2 := Lib.hid hr2; have hz2 : wo.heap.size ≤ w2.heap.size := hb2.size; obtain ⟨u0, u1, u2, u3, u4, u5, u6⟩ := HAT.out.stay hg HB2.out; have hgw2 : g < w2.heap.size := (by omega); clear hr2 hb2)
          | (go_at_call 9; (with_reducible refine (uses_is U1.out _ (L.out.below HB2.out).kin).mono ?_); rintro e3 w3 ⟨v3, rfl, hr3, hb3⟩; have HB3 := Lib.hid (below_ch HB2.out hb3); have HD3 := Lib.hid (HD2.out.stay hb3); have HR3 := Lib.hid hr3; have HR2' := Lib.hid (HR2.out.stay hb3); have hz3 : w2.heap.size ≤ w3.heap.size := hb3.size; clear hr3 hb3))
        obtain ⟨p2, cp2, rfl, hc2⟩ := rw_len HR2'.out
        obtain ⟨p3, cp3, rfl, hc3⟩ := rw_len HR3.out
        have HC2' := Lib.hid hc2
        have HC3' := Lib.hid hc3
        clear hc2 hc3 HR2 HR3 HR2' y0 y1 y2 y3 y4 y5 y6 u0 u1 u2 u3 u4 u5 u6 HB2 HD2
        obtain ⟨bd, d0, d1⟩ := HD3.out.facts
        have hgw3 : g < w3.heap.size := by omega
        go_wp2
        go_loop [12] (fun q => ∃ j : Nat, q = .int .i64 j ∧ j ≤ nl.length) (fun q => nl.length - (intOf q).toNat)
        case atStart => exact ⟨0, rfl, Nat.zero_le _⟩
        case round =>
          obtain ⟨j, rfl, hj⟩ := hrel
          by_cases hjl : j < nl.length
          · obtain ⟨y, hy⟩ : ∃ y, nl[j]? = some y := ⟨_, List.getElem?_eq_getElem hjl⟩
            obtain ⟨gg, rfl, hgg, hcy⟩ := HC2'.out j y hy
            have hyb := HNL.out y (List.mem_of_getElem? hy)
            have e1 : decide (y < 0) = false := by simp; omega
            have e2 : decide ((n : Int) ≤ y) = false := by simp; omega
            have hj2 : (j : Int) < (nl.length : Int) := by omega
            have hj3 : (0 : Int) ≤ j := by omega
            clear hy hyb
            go_wp2
            go_round
            case rel => exact ⟨j + 1, by go_num, by omega⟩
            case measure => simp [intOf]; omega
          · obtain rfl : j = nl.length := by omega
            go_wp2
            go_loopw [13] (fun q X => ∃ (j m : Nat), q = .int .i64 j ∧ j ≤ ul.length ∧ X = w3.drewN m) (fun q _ => ul.length - (intOf q).toNat)
            case atStart => exact ⟨0, 0, rfl, Nat.zero_le _, rfl⟩
            case round =>
              obtain ⟨j, m, rfl, hj, rfl⟩ := hrel
              by_cases hjl : j < ul.length
              · obtain ⟨y, hy⟩ : ∃ y, ul[j]? = some y := ⟨_, List.getElem?_eq_getElem hjl⟩
                obtain ⟨gg, rfl, hgg, hcy⟩ := HC3'.out j y hy
                have hyb := HUL.out y (List.mem_of_getElem? hy)
                have e1 : decide (y < 0) = false := by simp; omega
                have e2 : decide (r ≤ y) = false := by simp; omega
                have hj2 : (j : Int) < (ul.length : Int) := by omega
                have hj3 : (0 : Int) ≤ j := by omega
                clear hy hyb
                go_wp2
                go_quiet (fail)
                go_wp2
                go_roundw
                case rel => exact ⟨j + 1, _, by go_num, by omega, rfl⟩
                case measure => simp [intOf]; omega
              · obtain rfl : j = ul.length := by omega
                have e3 : decide (r ≤ dd) = false := by have := HDD.out; simp; omega
                go_wp2_with (fail)
                refine name_world ?_
                intro w4 hw4
                have HB4 : Hid (Below W.heap.size W w4) := Lib.hid (by rw [hw4]; exact below_drewN HB3.out m)
                have HLL := Lib.hid (L.out.below HB4.out)
                have HDF : Hid (∀ X, Below w4.heap.size w4 X → Calls Tryd.prog 11 #[.agg #[.int .i64 x.k, .int .i64 x.o, .int .i64 x.d, .int .i64 x.a, .int .i64 x.b, .int .i64 x.n, .int .i64 x.t]] X fun e w' => e = .returned (.int .i64 dd) ∧ Below X.heap.size X w') := Lib.hid (fun X hX => def_is D1.out X (HLL.out.below hX).kin)
                have HSW : Hid (∀ X, Below w4.heap.size w4 X → Calls Tryd.prog 15 #[.agg #[.int .i64 x.k, .int .i64 x.o, .int .i64 x.d, .int .i64 x.a, .int .i64 x.b, .int .i64 x.n, .int .i64 x.t]] X fun e w' => e = .returned (.string st) ∧ Below X.heap.size X w') := Lib.hid (fun X hX => show_is S1.out X (Lib.hid (HLL.out.below hX)) HOK)
                have HA3 : Hid (At7 w4 g (o + k * 7) x) := Lib.hid (HAT.out.stay hg HB4.out)
                have HDm : Hid (Bb w4 bb (.int .i64 r) (.int .i64 l)) := Lib.hid (by rw [hw4]; exact HD3.out)
                have hgm : g < w4.heap.size := by rw [hw4]; exact hgw3
                clear hw4
                refine wp_region_quiet (C := fun w' => Below w4.heap.size w4 w') (by kernel_rfl) (by kernel_rfl) ((Below.refl _ _).drew) ?_
                dsimp only
                repeat (first
                  | go_big_quiet_skip
                  | (go_big_quiet_want; go_big_quiet_op; first
                    | go_big_quiet_on
                    | (refine ⟨_, fun _ _ => rfl, ?_⟩; go_big_quiet_on)
                    | (apply Exists.intro; refine ⟨fun ww hww => ?_, ?_⟩; (go_at_call 11; exact (HDF.out ww hww).mono fun e X ⟨h1, h2⟩ => ⟨h1, below_ch hww h2⟩); go_big_quiet_on)
                    | (apply Exists.intro; refine ⟨fun ww hww => ?_, ?_⟩; (go_at_call 15; exact (HSW.out ww hww).mono fun e X ⟨h1, h2⟩ => ⟨h1, below_ch hww h2⟩); go_big_quiet_on)
                    | (refine ⟨.int .i64 r, fun ww hww => ?_, ?_⟩; (obtain ⟨ql, q0, q1⟩ := (HDm.out.stay hww).facts; go_simp); go_big_quiet_on)
                    | (refine ⟨.agg #[.int .i64 x.k, .int .i64 x.o, .int .i64 x.d, .int .i64 x.a, .int .i64 x.b, .int .i64 x.n, .int .i64 x.t], fun ww hww => ?_, ?_⟩; (obtain ⟨q0, q1, q2, q3, q4, q5, q6⟩ := HA3.out.stay hgm hww; have ql := Nat.lt_of_lt_of_le hgm hww.size; go_simp); go_big_quiet_on)))
                refine wpQuiet_nil ?_
                intro y8 hb9
                have HB8 := Lib.hid (below_ch HB4.out hb9)
                have HD8 := Lib.hid (HDm.out.stay hb9)
                clear hb9
                go_wp2
                refine ⟨⟨k + 1, by go_num, by omega, HB8, HD8⟩, ?_⟩
                simp [intOf]
                omega
      · obtain rfl : k = n := by omega
        obtain ⟨bd, d0, d1⟩ := HD.out.facts
        go_wp2_with (go_at_call 17; (with_reducible refine (HC2.out _ HB.out).mono ?_); rintro e' w9 ⟨rfl, hb9⟩; have HB9 := Lib.hid (below_ch HB.out hb9); clear hb9)
        go_ret
        exact ⟨rfl, HB9.out⟩
theorem walk {W : World} (c : List Ic) (p : Option Addr) (n cap : Nat) (hn : c.length = n) (hc : CodeAt W p c) (r : Int) (hr : (Lit.int .u8 r).wf = true) (l : Int) (hl : (Lit.int .u8 l).wf = true) (W0 : World) (L : Laid W0) (e : W0 = W := by rfl) : Calls Tryd.prog 5 #[.slice p n cap, .int .u8 r, .int .u8 l] W0 fun e w' => e = .returned (.bool true) ∧ Below W0.heap.size W0 w' := by
  subst e
  have hr2 := bounds_u8 hr
  have hl2 := bounds_u8 hl
  by_cases h : 5000 < n
  · exact walk_long p n cap r l h W0 (Lib.hid L)
  · exact walk_short c p n cap (Lib.hid hn) (Lib.hid hc) r l hr2.1 hr2.2 hl2.1 hl2.2 (by omega) (Lib.hid L) _ (Lib.hid rfl)

theorem out_laid : laidOutB Tryd.prog = true := by kernel_rfl
set_option maxRecDepth 100000 in
theorem lifted (os : Os) (started : os.Started) (H : Type) (enc : TypeId × Value → H) :
    ReturnsInHanded {} Tryd.checked os 5 .any (fun w args => (Rows.insStaysSpec.pre enc Tryd.prog Tryd.f5 [] false w args ∧ laidMetH Tryd.prog laidL w) ∧ sizedMet enc Tryd.prog Tryd.f5 (OpenSpec.ofChange Rows.insStaysSpec) false w args)
      (Rows.insStaysSpec.post enc Tryd.prog Tryd.f5 false true false false) := by
  refine returnsInHanded_of_change_and (C := Tryd.checked) (X := fun w _ => laidMetH Tryd.prog laidL w) (fun _ _ _ hh h => h.of_heap hh) own started (by kernel_rfl) Tryd.func5
    (ChangeSpec.witness_shaped (enc := enc) (C := Tryd.checked) (os := os) (X := fun w _ => laidMetH Tryd.prog laidL w) false (World.doorLaid Tryd.prog 400 os) #[.slice none 0 0, .int .u8 0, .int .u8 0] 8 rfl (World.shaped_of_RefB (by kernel_rfl) (by kernel_rfl)) (by kernel_rfl) (by kernel_rfl) (by kernel_rfl) (door_met os _)) ?_
  intro W base args ds gs before hval0 hW _ _ hL _
  have hval : ∀ (j : Nat) t v, Tryd.f5.params[j]? = some t → args[j]? = some v → Value.okWide Tryd.prog W .any base t v := hval0
  have hW' := hW
  obtain ⟨p, q, hA0, hV, rfl, hfz, hnd⟩ := hW
  have hA : DataW.TrodAll enc Tryd.prog W 0 (fun _ => true) true Tryd.f5.params.toList args.toList ds p := hA0
  rw [Tryd.params5] at hA hval
  obtain ⟨v0, vs0, d0, ds0, p0, q0, hargs, rfl, rfl, h0, r0⟩ := trodAll_cons hA
  obtain ⟨v1, vs1, d1, ds1, p1, q1, rfl, rfl, rfl, h1, r1⟩ := trodAll_cons r0
  obtain ⟨v2, vs2, d2, ds2, p2, q2, rfl, rfl, rfl, h2, r2⟩ := trodAll_cons r1
  obtain ⟨rfl, rfl, rfl⟩ := trodAll_nil r2
  obtain rfl : args = #[v0, v1, v2] := by cases args; simp_all
  obtain ⟨rfl, rfl⟩ := trodVars_none hV
  obtain ⟨a0, n0, c0, rfl⟩ := okWide_slice Tryd.underlying32 (hval 0 32 v0 rfl rfl)
  obtain ⟨l0, hl0, hc0⟩ := open_code h0
  have hu1 := h1
  obtain ⟨i1, rfl, -, -, wx1⟩ := open_int Tryd.underlying5 (hval 1 5 v1 rfl rfl) hu1
  have hu2 := h2
  obtain ⟨i2, rfl, -, -, wx2⟩ := open_int Tryd.underlying5 (hval 2 5 v2 rfl rfl) hu2
  have hlt0 : ∀ x ∈ p0, x.block < W.heap.size := fun x hx => by simpa using hW'.lt x (by simp [hx])
  have hlt1 : ∀ x ∈ p1, x.block < W.heap.size := fun x hx => by simpa using hW'.lt x (by simp [hx])
  have hlt2 : ∀ x ∈ p2, x.block < W.heap.size := fun x hx => by simpa using hW'.lt x (by simp [hx])
  have hLaid := of_laid hL
  clear hA0 hval0
  simp only [List.append_nil] at hW'
  refine (walk l0 a0 n0 c0 hl0 hc0 i1 wx1 i2 wx2 W hLaid).mono fun e W' ⟨he, hb⟩ => ?_
  subst he
  exact ⟨_, rfl, _, _, _, [], _, [], hW', trodAll_mk1 (shut_bool Tryd.underlying4 _), (trodAll_cons_mk (Below.trod out_laid (by kernel_rfl) (of_decide_eq_true (by kernel_rfl)) h0 hb hlt0) (trodAll_cons_mk (Below.trod out_laid (by kernel_rfl) (of_decide_eq_true (by kernel_rfl)) h1 hb hlt1) (trodAll_cons_mk (Below.trod out_laid (by kernel_rfl) (of_decide_eq_true (by kernel_rfl)) h2 hb hlt2) trodAll_mk0))), rfl, hb.frame _, fun h => by cases h⟩

theorem said : Rows.InsStaysSaid :=
  OpenClaim.holds_of_wide 5 Tryd.f5 rfl rfl rfl rfl rfl rfl rfl ⟨rfl, rfl, rfl, rfl, rfl⟩ rfl rfl rfl rfl rfl (by kernel_rfl) Tryd.func5 (by kernel_rfl)
    (of_decide_eq_true (by kernel_rfl)) (by unfold Func.isWrapper; first | (rw [if_pos (by decide +kernel)]; kernel_rfl) | (rw [if_neg (by decide +kernel)]; exact ⟨rfl, rfl⟩))
    (fun os started H enc _ => lifted os started H enc)
end InsStays

theorem insStays_card_holds : Rows.InsStaysCardSaid :=
  Claim7.holds_tied_plain_at .later [] _ true _ false
    InsStays.said (fun _ h => by cases h) (by kernel_rfl) (fun _ h => by cases h) insStays_row_tie rfl ⟨rfl, rfl⟩ (by kernel_rfl) rfl
    (fun f fn hf hfn => by
      obtain rfl : f = 5 := Option.some.inj ((show Tryd.prog.funcNamed "paling/palinglaw11.InsStays" = some 5 by kernel_rfl).symm.trans hf) |>.symm
      obtain rfl : fn = Tryd.f5 := (Option.some.inj (Tryd.func5.symm.trans hfn)).symm
      exact ⟨by kernel_rfl, fun j t ht => by
        rw [Tryd.params5] at ht
        have hm : t ∈ [32, 5, 5] := by simpa using Array.mem_of_getElem? ht
        have hall : ([32, 5, 5].all fun u => !Tryd.prog.wantsStandIn u) = true := by kernel_rfl
        exact (show Tryd.prog.wantsStandIn t = false by simpa using List.all_eq_true.1 hall t hm)⟩)
    (by kernel_rfl)
#print axioms insStays_card_holds
end Go.Proofs.YtjjjdghkeogljaaDoor
