/- InsReads comes out true for every two instructions: no condition but what the card itself says of the listed variables. -/
import Derived.Test.YtjjjdghkeogljaaDoorRds
import Derived.Test.YtjjjdghkeogljaaDoorLaidI
import Derived.Test.YtjjjdghkeogljaaDoorOpn
import Derived.Test.YtjjjdghkeogljaaDoorTie
import Derived.Test.YtjjjdghkeogljaaDoorCards
import Derived.SevenTiedAt
import Derived.Carry
namespace Go.Proofs.YtjjjdghkeogljaaDoor
set_option linter.unusedSimpArgs false
set_option linter.unusedVariables false
namespace InsReads
open Go Go.ChangeShapes Go.WideShapes Go.ChangeAt Go.WideMaps Go.WideElems Go.RowKit Go.Sort
open Go.ChangeMaps (open_string shut_string)

def bareK (x : Ic) : Bool := x.k == 6 || x.k == 8 || x.k == 13 || x.k == 12 || x.k == 9 || x.k == 10
set_option maxRecDepth 100000 in
set_option maxHeartbeats 4000000 in
theorem walk_in (x y : Ic) (hx : Hid (Ok6 x)) (hy : Hid (Ok6 y)) (W : World) (L : Hid (Laid W)) (ul : List Int) (U1 : Hid (usesM x = ul)) (dd : Int) (D1 : Hid (defM x = dd)) (st su : ByteArray) (hst : Hid (showM x = st)) (hsu : Hid (showM y = su)) (b1 b2 bk : Bool) (hb1 : Hid (checkB [x, hh] 60 8 = b1)) (hb2 : Hid (checkB [y, hh] 60 8 = b2)) (hbk : Hid (bareK x = bk)) : Calls Tryd.prog 6 #[.agg #[.int .i64 x.k, .int .i64 x.o, .int .i64 x.d, .int .i64 x.a, .int .i64 x.b, .int .i64 x.n, .int .i64 x.t], .agg #[.int .i64 y.k, .int .i64 y.o, .int .i64 y.d, .int .i64 y.a, .int .i64 y.b, .int .i64 y.n, .int .i64 y.t]] W fun e w' => e = .returned (.bool true) ∧ Below W.heap.size W w' := by
  have hull : ul.length ≤ 1000000 := by
    rw [← U1.out]
    unfold usesM
    split
    · unfold pos
      have h1 := List.length_filter_le (fun x => !decide (x < 0)) (srt [if kps x.k.toNat then x.d else -1, aTo x x.k.toNat 4, bTo x x.k.toNat 4])
      have h2 := srt_len [if kps x.k.toNat then x.d else -1, aTo x x.k.toNat 4, bTo x x.k.toNat 4]
      simp only [List.length_cons, List.length_nil] at h2
      omega
    · simp
  go_enter Tryd.func6, Tryd.ntmps6
  go_upto_region 4 with (go_at_call 7; (with_reducible refine (awake_any _ (Lib.hid (L.out.below (below_box _ _ _)))).mono ?_); rintro e' w1 ⟨rfl, hb1⟩; have HB1 := Lib.hid (below_ch (below_box _ _ _) hb1); have HX1 := Lib.hid (((Ib.new (X := W) rfl (.int .i64 x.k) (.int .i64 x.o) (.int .i64 x.d) (.int .i64 x.a) (.int .i64 x.b) (.int .i64 x.n) (.int .i64 x.t)).alloc _).stay hb1); have HY1 := Lib.hid ((Ib.new (X := W.alloc _) (m := W.heap.size + 1) (by simp) (.int .i64 y.k) (.int .i64 y.o) (.int .i64 y.d) (.int .i64 y.a) (.int .i64 y.b) (.int .i64 y.n) (.int .i64 y.t)).stay hb1); clear hb1)
  refine name_world ?_
  intro W1 hW1
  have HB2 : Hid (Below W.heap.size W W1) := Lib.hid (by rw [hW1]; exact HB1.out)
  have HX2 : Hid (Ib W1 W.heap.size (.int .i64 x.k) (.int .i64 x.o) (.int .i64 x.d) (.int .i64 x.a) (.int .i64 x.b) (.int .i64 x.n) (.int .i64 x.t)) := Lib.hid (by rw [hW1]; exact HX1.out)
  have HY2 : Hid (Ib W1 (W.heap.size + 1) (.int .i64 y.k) (.int .i64 y.o) (.int .i64 y.d) (.int .i64 y.a) (.int .i64 y.b) (.int .i64 y.n) (.int .i64 y.t)) := Lib.hid (by rw [hW1]; exact HY1.out)
  clear hW1 HB1 HX1 HY1
  obtain ⟨ib0, ix0, ix1, ix2, ix3, ix4, ix5, ix6, -⟩ := HX2.out.facts
  have HUS : Hid (Calls Tryd.prog 9 #[.agg #[.int .i64 x.k, .int .i64 x.o, .int .i64 x.d, .int .i64 x.a, .int .i64 x.b, .int .i64 x.n, .int .i64 x.t]] W1 (RowP W1 ul)) := Lib.hid (uses_is U1.out W1 (L.out.below HB2.out).kin)
  go_upto_region 5 with (go_at_call 9; (with_reducible refine (HUS.out.mono ?_)); rintro e3 w3 ⟨v3, rfl, hr3, hb3⟩; have HB3 := Lib.hid (below_ch HB2.out hb3); have HR3 := Lib.hid hr3; have HX3 := Lib.hid (HX2.out.stay hb3); have HY3 := Lib.hid (HY2.out.stay hb3); clear hr3 hb3)
  obtain ⟨p3, cp3, rfl, hc3⟩ := rw_len HR3.out
  have HC3 := Lib.hid hc3
  clear hc3 HR3 ib0 ix0 ix1 ix2 ix3 ix4 ix5 ix6
  obtain ⟨ib0, ix0, ix1, ix2, ix3, ix4, ix5, ix6, -⟩ := HX3.out.facts
  go_wp2
  go_loopw [7, 8] (fun o i X => ∃ (j m : Nat) (b : Bool), o = .bool b ∧ Hid (ownB ul x.d j = b) ∧ i = .int .i64 j ∧ j ≤ ul.length ∧ X = w3.drewN m) (fun _ i _ => ul.length - (intOf i).toNat)
  case atStart => exact ⟨0, 0, false, rfl, Lib.hid rfl, rfl, Nat.zero_le _, rfl⟩
  case round =>
    obtain ⟨j, m, b, rfl, HO, rfl, hj, rfl⟩ := hrel
    by_cases hjl : j < ul.length
    · obtain ⟨y0, hy0⟩ : ∃ y, ul[j]? = some y := ⟨_, List.getElem?_eq_getElem hjl⟩
      obtain ⟨gg, rfl, hgg, hcy⟩ := HC3.out j y0 hy0
      have HST := Lib.hid (ownB_step (d := x.d) hy0)
      have e1 : decide (y0 < 0) = false := by
        have := uses_pos (x := x) (y := y0) (by rw [U1.out]; exact List.mem_of_getElem? hy0)
        simp
        omega
      have hj2 : (j : Int) < (ul.length : Int) := by omega
      have hj3 : (0 : Int) ≤ j := by omega
      rcases Nat.eq_zero_or_pos j with rfl | hjp
      · clear hy0
        go_wp2
        go_quiet (fail)
        cases b
        all_goals
          go_wp2
          go_quiet (fail)
          go_wp2
          go_roundw
          case rel => exact ⟨1, _, _, rfl, Lib.hid (by rw [HST.out, HO.out]; first | rfl | simp), by go_num, by omega, rfl⟩
          case measure => first | omega | (simp [intOf]; done) | (simp [intOf]; omega)
      · obtain ⟨i, rfl⟩ : ∃ i, j = i + 1 := ⟨j - 1, by omega⟩
        obtain ⟨z0, hz0⟩ : ∃ z, ul[i]? = some z := ⟨_, List.getElem?_eq_getElem (by omega)⟩
        obtain ⟨gg', hgg', hgg2, hcz⟩ := HC3.out i z0 hz0
        obtain rfl : gg' = gg := by simpa using hgg'.symm
        have e2 : decide (y0 ≤ z0) = false := by
          have := up_at (by rw [← U1.out]; exact uses_up x) hz0 hy0
          simp
          omega
        have hjs : ((i + 1 : Nat) : Int) - 1 = (i : Int) := by omega
        have e3 : decide ((0 : Int) < ((i + 1 : Nat) : Int)) = true := by first | (simp; done) | (simp; omega)
        clear hy0 hz0 hgg'
        go_wp2
        go_quiet (fail)
        cases b
        all_goals
          go_wp2
          go_quiet (fail)
          go_wp2
          go_roundw
          case rel => exact ⟨i + 2, _, _, rfl, Lib.hid (by rw [HST.out, HO.out]; first | rfl | simp), by go_num, by omega, rfl⟩
          case measure => first | omega | (simp [intOf]; done) | (simp [intOf]; omega)
    · obtain rfl : j = ul.length := by omega
      go_upto_region 12 with (fail)
      refine name_world ?_
      intro W5 hW5
      have HB5 : Hid (Below W.heap.size W W5) := Lib.hid (by rw [hW5]; first | exact HB3.out | exact below_drewN HB3.out _)
      have HX5 : Hid (Ib W5 W.heap.size (.int .i64 x.k) (.int .i64 x.o) (.int .i64 x.d) (.int .i64 x.a) (.int .i64 x.b) (.int .i64 x.n) (.int .i64 x.t)) := Lib.hid (by rw [hW5]; exact HX3.out)
      have HY5 : Hid (Ib W5 (W.heap.size + 1) (.int .i64 y.k) (.int .i64 y.o) (.int .i64 y.d) (.int .i64 y.a) (.int .i64 y.b) (.int .i64 y.n) (.int .i64 y.t)) := Lib.hid (by rw [hW5]; exact HY3.out)
      clear hW5 HC3 HB3 HX3 HY3 ib0 ix0 ix1 ix2 ix3 ix4 ix5 ix6 HUS HB2 HX2 HY2
      obtain ⟨ib0, ix0, ix1, ix2, ix3, ix4, ix5, ix6, -⟩ := HX5.out.facts
      have HPK : Hid (x.k = 3 → 0 ≤ x.d → b = true) := Lib.hid (fun h1 h2 => by rw [← HO.out, ← U1.out]; exact own_pick h1 h2)
      have HBR : Hid (bk = true → ul.length = 0 ∧ dd = -1) := Lib.hid (fun h => by
        have h1 : x.k = 6 ∨ x.k = 8 ∨ x.k = 13 ∨ x.k = 12 ∨ x.k = 9 ∨ x.k = 10 := by
          have := hbk.out.trans h
          simpa [bareK, or_assoc] using this
        have h2 := bare_uses h1
        rw [← U1.out, ← D1.out, h2.1, h2.2]
        exact ⟨rfl, rfl⟩)
      go_cut [67] from 56 (fun v X => v = .bool false ∧ W5 = X)
      case first =>
        by_cases k3 : x.k = 3
        · by_cases d0 : 0 ≤ x.d
          · obtain rfl := HPK.out k3 d0
            have t3 : (x.k == 3) = true := by simp [k3]
            have td : decide (0 ≤ x.d) = true := by simpa using d0
            clear k3 d0
            go_wp2
            go_meet
            case rel => exact ⟨rfl, rfl⟩
          · have t3 : (x.k == 3) = true := by simp [k3]
            have td : decide (0 ≤ x.d) = false := by simpa using d0
            clear k3 d0
            go_wp2
            go_meet
            case rel => exact ⟨rfl, rfl⟩
        · have t3 : (x.k == 3) = false := by simp [k3]
          clear k3
          go_wp2
          go_meet
          case rel => exact ⟨rfl, rfl⟩
      case rest =>
        obtain ⟨rfl, rfl⟩ := hcut
        go_upto_region 14 with (fail)
        go_cut [9] from 68 (fun v X => v = .bool bk ∧ W5 = X)
        case first =>
          cases h6 : x.k == 6
          · cases h8 : x.k == 8
            · cases h13 : x.k == 13
              · cases h12 : x.k == 12
                · cases h9 : x.k == 9
                  · cases h10 : x.k == 10
                    · have hv : bk = false := by rw [← hbk.out]; simp [bareK, h6, h8, h13, h12, h9, h10]
                      go_wp2
                      go_meet
                      case rel => exact ⟨by rw [hv], rfl⟩
                    · have hv : bk = true := by rw [← hbk.out]; simp [bareK, h6, h8, h13, h12, h9, h10]
                      go_wp2
                      go_meet
                      case rel => exact ⟨by rw [hv], rfl⟩
                  · have hv : bk = true := by rw [← hbk.out]; simp [bareK, h6, h8, h13, h12, h9]
                    go_wp2
                    go_meet
                    case rel => exact ⟨by rw [hv], rfl⟩
                · have hv : bk = true := by rw [← hbk.out]; simp [bareK, h6, h8, h13, h12]
                  go_wp2
                  go_meet
                  case rel => exact ⟨by rw [hv], rfl⟩
              · have hv : bk = true := by rw [← hbk.out]; simp [bareK, h6, h8, h13]
                go_wp2
                go_meet
                case rel => exact ⟨by rw [hv], rfl⟩
            · have hv : bk = true := by rw [← hbk.out]; simp [bareK, h6, h8]
              go_wp2
              go_meet
              case rel => exact ⟨by rw [hv], rfl⟩
          · have hv : bk = true := by rw [← hbk.out]; simp [bareK, h6]
            go_wp2
            go_meet
            case rel => exact ⟨by rw [hv], rfl⟩
        case rest =>
          obtain ⟨rfl, rfl⟩ := hcut
          cases bk
          · go_upto_region 17 with (fail)
            refine name_world ?_
            intro W7 hW7
            have HB7 : Hid (Below W.heap.size W W7) := Lib.hid (by rw [hW7]; first | exact HB6.out | exact HB5.out)
            have HX7 : Hid (Ib W7 W.heap.size (.int .i64 x.k) (.int .i64 x.o) (.int .i64 x.d) (.int .i64 x.a) (.int .i64 x.b) (.int .i64 x.n) (.int .i64 x.t)) := Lib.hid (by rw [hW7]; first | exact HX6.out | exact HX5.out)
            have HY7 : Hid (Ib W7 (W.heap.size + 1) (.int .i64 y.k) (.int .i64 y.o) (.int .i64 y.d) (.int .i64 y.a) (.int .i64 y.b) (.int .i64 y.n) (.int .i64 y.t)) := Lib.hid (by rw [hW7]; first | exact HY6.out | exact HY5.out)
            clear hW7 ib0 ix0 ix1 ix2 ix3 ix4 ix5 ix6 HBR HPK
            obtain ⟨ib0, ix0, ix1, ix2, ix3, ix4, ix5, ix6, -⟩ := HX7.out.facts
            obtain ⟨jb0, iy0, iy1, iy2, iy3, iy4, iy5, iy6, -⟩ := HY7.out.facts
            go_upto_region 19 with (fail)
            refine name_world ?_
            intro W8 hW8
            have HB8 : Hid (Below W.heap.size W W8) := Lib.hid (by rw [hW8]; exact (HB7.out.alloc HB7.out.size _).alloc (Nat.le_trans HB7.out.size (by simp)) _)
            have HX8 : Hid (Ib W8 W.heap.size (.int .i64 x.k) (.int .i64 x.o) (.int .i64 x.d) (.int .i64 x.a) (.int .i64 x.b) (.int .i64 x.n) (.int .i64 x.t)) := Lib.hid (by rw [hW8]; exact (HX7.out.alloc _).alloc _)
            have HY8 : Hid (Ib W8 (W.heap.size + 1) (.int .i64 y.k) (.int .i64 y.o) (.int .i64 y.d) (.int .i64 y.a) (.int .i64 y.b) (.int .i64 y.n) (.int .i64 y.t)) := Lib.hid (by rw [hW8]; exact (HY7.out.alloc _).alloc _)
            have HC1 : Hid (CodeAt W8 (some ⟨W7.heap.size, 0, none⟩) [x, hh]) := Lib.hid (code_of x hx.out (by rw [hW8]; exact (Below.heap_alloc _ _ _ (by simp)).trans (heap_alloc_new _ _)))
            have HC2 : Hid (CodeAt W8 (some ⟨W7.heap.size + 1, 0, none⟩) [y, hh]) := Lib.hid (code_of y hy.out (by
              have h := heap_alloc_new (W7.alloc (.cells #[.int .i64 x.k, .int .i64 x.o, .int .i64 x.d, .int .i64 x.a, .int .i64 x.b, .int .i64 x.n, .int .i64 x.t, .int .i64 13, .int .i64 0, .int .i64 0, .int .i64 0, .int .i64 0, .int .i64 0, .int .i64 0] 23)) (.cells #[.int .i64 y.k, .int .i64 y.o, .int .i64 y.d, .int .i64 y.a, .int .i64 y.b, .int .i64 y.n, .int .i64 y.t, .int .i64 13, .int .i64 0, .int .i64 0, .int .i64 0, .int .i64 0, .int .i64 0, .int .i64 0] 23)
              rw [hW8]
              simpa using h))
            clear hW8 ib0 ix0 ix1 ix2 ix3 ix4 ix5 ix6 jb0 iy0 iy1 iy2 iy3 iy4 iy5 iy6
            obtain ⟨g, hg⟩ : ∃ g, W7.heap.size = g := ⟨_, rfl⟩
            rw [hg] at HC1 HC2
            rw [hg]
            clear hg
            have HL8 := Lib.hid (L.out.below HB8.out)
            have HK1 : Hid (Calls Tryd.prog 17 #[.slice (some ⟨g, 0, none⟩) 2 2, .agg #[.int .i64 60, .int .i64 8]] W8 fun e w' => e = .returned (.bool b1) ∧ Below W8.heap.size W8 w') := Lib.hid (check_is hb1.out rfl W8 HL8.out.kin HC1.out)
            have HK2 : Hid (∀ X, Below W8.heap.size W8 X → Calls Tryd.prog 17 #[.slice (some ⟨g + 1, 0, none⟩) 2 2, .agg #[.int .i64 60, .int .i64 8]] X fun e w' => e = .returned (.bool b2) ∧ Below X.heap.size X w') := Lib.hid (fun X hX => check_is hb2.out rfl X (HL8.out.below hX).kin (HC2.out.stay hX))
            go_upto_region 21 with (first
              | (go_at_call 17; (with_reducible refine HK1.out.mono ?_); rintro e9 w9 ⟨rfl, hb9⟩; have HB9 := Lib.hid hb9; clear hb9)
              | (go_at_call 17; (with_reducible refine (HK2.out _ HB9.out).mono ?_); rintro e10 w10 ⟨rfl, hb10⟩; have HB10 := Lib.hid (below_ch HB9.out hb10); clear hb10))
            have HZ := Lib.hid (below_ch HB8.out HB10.out)
            have HX10 := Lib.hid (HX8.out.stay HB10.out)
            have HY10 := Lib.hid (HY8.out.stay HB10.out)
            have HL10 := Lib.hid (L.out.below HZ.out)
            clear HB9 HB10 HK1 HK2 HX8 HY8 HL8 HB8 HC1 HC2 HX7 HY7 HB7
            cases b1
            · go_quiet (fail)
              go_wp2
              go_ret
              exact ⟨rfl, below_drewN HZ.out _⟩
            · cases b2
              · go_quiet (fail)
                go_wp2
                go_ret
                exact ⟨rfl, below_drewN HZ.out _⟩
              · have PX : rightB x 60 8 2 = true := (check_parts hb1.out).2.2.1 x (by simp)
                have PY : rightB y 60 8 2 = true := (check_parts hb2.out).2.2.1 y (by simp)
                have HSX : Hid (∀ X, Below w10.heap.size w10 X → Calls Tryd.prog 15 #[.agg #[.int .i64 x.k, .int .i64 x.o, .int .i64 x.d, .int .i64 x.a, .int .i64 x.b, .int .i64 x.n, .int .i64 x.t]] X fun e w' => e = .returned (.string st) ∧ Below X.heap.size X w') := Lib.hid (fun X hX => show_is hst.out X (Lib.hid (HL10.out.below hX)) hx)
                have HSY : Hid (∀ X, Below w10.heap.size w10 X → Calls Tryd.prog 15 #[.agg #[.int .i64 y.k, .int .i64 y.o, .int .i64 y.d, .int .i64 y.a, .int .i64 y.b, .int .i64 y.n, .int .i64 y.t]] X fun e w' => e = .returned (.string su) ∧ Below X.heap.size X w') := Lib.hid (fun X hX => show_is hsu.out X (Lib.hid (HL10.out.below hX)) hy)
                by_cases hxy : x = y
                · subst hxy
                  obtain rfl : st = su := hst.out.symm.trans hsu.out
                  clear PX PY
                  refine wp_region_quiet (C := fun w' => Below w10.heap.size w10 w') (by kernel_rfl) (by kernel_rfl) ((Below.refl _ _).drew) ?_
                  dsimp only
                  repeat (first
                    | go_big_quiet_skip
                    | (go_big_quiet_want; go_big_quiet_op; first
                      | go_big_quiet_on
                      | (refine ⟨_, fun _ _ => rfl, ?_⟩; go_big_quiet_on)
                      | (apply Exists.intro; refine ⟨fun ww hww => ?_, ?_⟩; (go_at_call 15; (with_reducible exact (HSX.out ww hww).mono fun e X ⟨h1, h2⟩ => ⟨h1, below_ch hww h2⟩)); go_big_quiet_on)
                      | (apply Exists.intro; refine ⟨fun ww hww => ?_, ?_⟩; (go_at_call 15; (with_reducible exact (HSY.out ww hww).mono fun e X ⟨h1, h2⟩ => ⟨h1, below_ch hww h2⟩)); go_big_quiet_on)
                      | (refine ⟨.agg #[.int .i64 x.k, .int .i64 x.o, .int .i64 x.d, .int .i64 x.a, .int .i64 x.b, .int .i64 x.n, .int .i64 x.t], fun ww hww => ?_, ?_⟩; (focus (obtain ⟨ql, q0, q1, q2, q3, q4, q5, q6, -⟩ := (HX10.out.stay hww).facts; go_simp; done)); go_big_quiet_on)
                      | (refine ⟨.agg #[.int .i64 y.k, .int .i64 y.o, .int .i64 y.d, .int .i64 y.a, .int .i64 y.b, .int .i64 y.n, .int .i64 y.t], fun ww hww => ?_, ?_⟩; (focus (obtain ⟨ql, q0, q1, q2, q3, q4, q5, q6, -⟩ := (HY10.out.stay hww).facts; go_simp; done)); go_big_quiet_on)
                      | (refine ⟨.agg #[.int .i64 x.k, .int .i64 x.o, .int .i64 x.d, .int .i64 x.a, .int .i64 x.b, .int .i64 x.n, .int .i64 x.t], fun ww hww => ?_, ?_⟩; (focus (obtain ⟨ql, q0, q1, q2, q3, q4, q5, q6, -⟩ := (HY10.out.stay hww).facts; go_simp; done)); go_big_quiet_on)
                      | (refine ⟨.bool true, fun ww hww => ?_, ?_⟩; (focus (go_simp; done)); go_big_quiet_on)))
                  refine wpQuiet_nil ?_
                  intro y8 hb9
                  have HZ8 := Lib.hid (below_ch HZ.out hb9)
                  clear hb9
                  go_wp2
                  go_ret
                  exact ⟨rfl, HZ8.out⟩
                · have hs0 : st ≠ su := fun e => hxy (same_of hx.out hy.out PX PY (by rw [hst.out, hsu.out, e]))
                  have hbe : eqB x y = false := by
                    cases h : eqB x y
                    · rfl
                    · exact absurd (eqB_iff.1 h) hxy
                  have hs2 : (st.toList == su.toList) = false := by
                    cases h : st.toList == su.toList
                    · rfl
                    · exact absurd (bytes_inj (by rw [← ByteArray.toList_eq, ← ByteArray.toList_eq]; exact eq_of_beq h)) hs0
                  have hs1 : (st == su) = false := by rw [beq_toListBytes]; exact hs2
                  have hs3 : decide (st = su) = false := by simpa using hs0
                  clear PX PY hxy hs0
                  refine wp_region_quiet (C := fun w' => Below w10.heap.size w10 w') (by kernel_rfl) (by kernel_rfl) ((Below.refl _ _).drew) ?_
                  dsimp only
                  repeat (first
                    | go_big_quiet_skip
                    | (go_big_quiet_want; go_big_quiet_op; first
                      | go_big_quiet_on
                      | (refine ⟨_, fun _ _ => rfl, ?_⟩; go_big_quiet_on)
                      | (apply Exists.intro; refine ⟨fun ww hww => ?_, ?_⟩; (go_at_call 15; (with_reducible exact (HSX.out ww hww).mono fun e X ⟨h1, h2⟩ => ⟨h1, below_ch hww h2⟩)); go_big_quiet_on)
                      | (apply Exists.intro; refine ⟨fun ww hww => ?_, ?_⟩; (go_at_call 15; (with_reducible exact (HSY.out ww hww).mono fun e X ⟨h1, h2⟩ => ⟨h1, below_ch hww h2⟩)); go_big_quiet_on)
                      | (refine ⟨.agg #[.int .i64 x.k, .int .i64 x.o, .int .i64 x.d, .int .i64 x.a, .int .i64 x.b, .int .i64 x.n, .int .i64 x.t], fun ww hww => ?_, ?_⟩; (focus (obtain ⟨ql, q0, q1, q2, q3, q4, q5, q6, -⟩ := (HX10.out.stay hww).facts; go_simp; done)); go_big_quiet_on)
                      | (refine ⟨.agg #[.int .i64 y.k, .int .i64 y.o, .int .i64 y.d, .int .i64 y.a, .int .i64 y.b, .int .i64 y.n, .int .i64 y.t], fun ww hww => ?_, ?_⟩; (focus (obtain ⟨ql, q0, q1, q2, q3, q4, q5, q6, -⟩ := (HY10.out.stay hww).facts; go_simp; done)); go_big_quiet_on)
                      | (refine ⟨.bool false, fun ww hww => ?_, ?_⟩; (focus (go_simp; rw [if_ne hbe]; exact ⟨rfl, rfl⟩)); go_big_quiet_on)))
                  refine wpQuiet_nil ?_
                  intro y8 hb9
                  have HZ8 := Lib.hid (below_ch HZ.out hb9)
                  clear hb9
                  go_wp2
                  go_ret
                  exact ⟨rfl, HZ8.out⟩
          · obtain ⟨hl0, rfl⟩ := HBR.out rfl
            have HD5 : Hid (Calls Tryd.prog 11 #[.agg #[.int .i64 x.k, .int .i64 x.o, .int .i64 x.d, .int .i64 x.a, .int .i64 x.b, .int .i64 x.n, .int .i64 x.t]] W5 fun e w' => e = .returned (.int .i64 (-1)) ∧ Below W5.heap.size W5 w') := Lib.hid (def_is D1.out W5 (L.out.below HB5.out).kin)
            go_upto_region 17 with (go_at_call 11; (with_reducible refine HD5.out.mono ?_); rintro e6 w6 ⟨rfl, hb6⟩; have HB6 := Lib.hid (below_ch HB5.out hb6); have HX6 := Lib.hid (HX5.out.stay hb6); have HY6 := Lib.hid (HY5.out.stay hb6); clear hb6)
            refine name_world ?_
            intro W7 hW7
            have HB7 : Hid (Below W.heap.size W W7) := Lib.hid (by rw [hW7]; first | exact HB6.out | exact HB5.out)
            have HX7 : Hid (Ib W7 W.heap.size (.int .i64 x.k) (.int .i64 x.o) (.int .i64 x.d) (.int .i64 x.a) (.int .i64 x.b) (.int .i64 x.n) (.int .i64 x.t)) := Lib.hid (by rw [hW7]; first | exact HX6.out | exact HX5.out)
            have HY7 : Hid (Ib W7 (W.heap.size + 1) (.int .i64 y.k) (.int .i64 y.o) (.int .i64 y.d) (.int .i64 y.a) (.int .i64 y.b) (.int .i64 y.n) (.int .i64 y.t)) := Lib.hid (by rw [hW7]; first | exact HY6.out | exact HY5.out)
            clear hW7 ib0 ix0 ix1 ix2 ix3 ix4 ix5 ix6 HBR HPK
            obtain ⟨ib0, ix0, ix1, ix2, ix3, ix4, ix5, ix6, -⟩ := HX7.out.facts
            obtain ⟨jb0, iy0, iy1, iy2, iy3, iy4, iy5, iy6, -⟩ := HY7.out.facts
            go_upto_region 19 with (fail)
            refine name_world ?_
            intro W8 hW8
            have HB8 : Hid (Below W.heap.size W W8) := Lib.hid (by rw [hW8]; exact (HB7.out.alloc HB7.out.size _).alloc (Nat.le_trans HB7.out.size (by simp)) _)
            have HX8 : Hid (Ib W8 W.heap.size (.int .i64 x.k) (.int .i64 x.o) (.int .i64 x.d) (.int .i64 x.a) (.int .i64 x.b) (.int .i64 x.n) (.int .i64 x.t)) := Lib.hid (by rw [hW8]; exact (HX7.out.alloc _).alloc _)
            have HY8 : Hid (Ib W8 (W.heap.size + 1) (.int .i64 y.k) (.int .i64 y.o) (.int .i64 y.d) (.int .i64 y.a) (.int .i64 y.b) (.int .i64 y.n) (.int .i64 y.t)) := Lib.hid (by rw [hW8]; exact (HY7.out.alloc _).alloc _)
            have HC1 : Hid (CodeAt W8 (some ⟨W7.heap.size, 0, none⟩) [x, hh]) := Lib.hid (code_of x hx.out (by rw [hW8]; exact (Below.heap_alloc _ _ _ (by simp)).trans (heap_alloc_new _ _)))
            have HC2 : Hid (CodeAt W8 (some ⟨W7.heap.size + 1, 0, none⟩) [y, hh]) := Lib.hid (code_of y hy.out (by
              have h := heap_alloc_new (W7.alloc (.cells #[.int .i64 x.k, .int .i64 x.o, .int .i64 x.d, .int .i64 x.a, .int .i64 x.b, .int .i64 x.n, .int .i64 x.t, .int .i64 13, .int .i64 0, .int .i64 0, .int .i64 0, .int .i64 0, .int .i64 0, .int .i64 0] 23)) (.cells #[.int .i64 y.k, .int .i64 y.o, .int .i64 y.d, .int .i64 y.a, .int .i64 y.b, .int .i64 y.n, .int .i64 y.t, .int .i64 13, .int .i64 0, .int .i64 0, .int .i64 0, .int .i64 0, .int .i64 0, .int .i64 0] 23)
              rw [hW8]
              simpa using h))
            clear hW8 ib0 ix0 ix1 ix2 ix3 ix4 ix5 ix6 jb0 iy0 iy1 iy2 iy3 iy4 iy5 iy6
            obtain ⟨g, hg⟩ : ∃ g, W7.heap.size = g := ⟨_, rfl⟩
            rw [hg] at HC1 HC2
            rw [hg]
            clear hg
            have HL8 := Lib.hid (L.out.below HB8.out)
            have HK1 : Hid (Calls Tryd.prog 17 #[.slice (some ⟨g, 0, none⟩) 2 2, .agg #[.int .i64 60, .int .i64 8]] W8 fun e w' => e = .returned (.bool b1) ∧ Below W8.heap.size W8 w') := Lib.hid (check_is hb1.out rfl W8 HL8.out.kin HC1.out)
            have HK2 : Hid (∀ X, Below W8.heap.size W8 X → Calls Tryd.prog 17 #[.slice (some ⟨g + 1, 0, none⟩) 2 2, .agg #[.int .i64 60, .int .i64 8]] X fun e w' => e = .returned (.bool b2) ∧ Below X.heap.size X w') := Lib.hid (fun X hX => check_is hb2.out rfl X (HL8.out.below hX).kin (HC2.out.stay hX))
            go_upto_region 21 with (first
              | (go_at_call 17; (with_reducible refine HK1.out.mono ?_); rintro e9 w9 ⟨rfl, hb9⟩; have HB9 := Lib.hid hb9; clear hb9)
              | (go_at_call 17; (with_reducible refine (HK2.out _ HB9.out).mono ?_); rintro e10 w10 ⟨rfl, hb10⟩; have HB10 := Lib.hid (below_ch HB9.out hb10); clear hb10))
            have HZ := Lib.hid (below_ch HB8.out HB10.out)
            have HX10 := Lib.hid (HX8.out.stay HB10.out)
            have HY10 := Lib.hid (HY8.out.stay HB10.out)
            have HL10 := Lib.hid (L.out.below HZ.out)
            clear HB9 HB10 HK1 HK2 HX8 HY8 HL8 HB8 HC1 HC2 HX7 HY7 HB7
            cases b1
            · go_quiet (fail)
              go_wp2
              go_ret
              exact ⟨rfl, below_drewN HZ.out _⟩
            · cases b2
              · go_quiet (fail)
                go_wp2
                go_ret
                exact ⟨rfl, below_drewN HZ.out _⟩
              · have PX : rightB x 60 8 2 = true := (check_parts hb1.out).2.2.1 x (by simp)
                have PY : rightB y 60 8 2 = true := (check_parts hb2.out).2.2.1 y (by simp)
                have HSX : Hid (∀ X, Below w10.heap.size w10 X → Calls Tryd.prog 15 #[.agg #[.int .i64 x.k, .int .i64 x.o, .int .i64 x.d, .int .i64 x.a, .int .i64 x.b, .int .i64 x.n, .int .i64 x.t]] X fun e w' => e = .returned (.string st) ∧ Below X.heap.size X w') := Lib.hid (fun X hX => show_is hst.out X (Lib.hid (HL10.out.below hX)) hx)
                have HSY : Hid (∀ X, Below w10.heap.size w10 X → Calls Tryd.prog 15 #[.agg #[.int .i64 y.k, .int .i64 y.o, .int .i64 y.d, .int .i64 y.a, .int .i64 y.b, .int .i64 y.n, .int .i64 y.t]] X fun e w' => e = .returned (.string su) ∧ Below X.heap.size X w') := Lib.hid (fun X hX => show_is hsu.out X (Lib.hid (HL10.out.below hX)) hy)
                by_cases hxy : x = y
                · subst hxy
                  obtain rfl : st = su := hst.out.symm.trans hsu.out
                  clear PX PY
                  refine wp_region_quiet (C := fun w' => Below w10.heap.size w10 w') (by kernel_rfl) (by kernel_rfl) ((Below.refl _ _).drew) ?_
                  dsimp only
                  repeat (first
                    | go_big_quiet_skip
                    | (go_big_quiet_want; go_big_quiet_op; first
                      | go_big_quiet_on
                      | (refine ⟨_, fun _ _ => rfl, ?_⟩; go_big_quiet_on)
                      | (apply Exists.intro; refine ⟨fun ww hww => ?_, ?_⟩; (go_at_call 15; (with_reducible exact (HSX.out ww hww).mono fun e X ⟨h1, h2⟩ => ⟨h1, below_ch hww h2⟩)); go_big_quiet_on)
                      | (apply Exists.intro; refine ⟨fun ww hww => ?_, ?_⟩; (go_at_call 15; (with_reducible exact (HSY.out ww hww).mono fun e X ⟨h1, h2⟩ => ⟨h1, below_ch hww h2⟩)); go_big_quiet_on)
                      | (refine ⟨.agg #[.int .i64 x.k, .int .i64 x.o, .int .i64 x.d, .int .i64 x.a, .int .i64 x.b, .int .i64 x.n, .int .i64 x.t], fun ww hww => ?_, ?_⟩; (focus (obtain ⟨ql, q0, q1, q2, q3, q4, q5, q6, -⟩ := (HX10.out.stay hww).facts; go_simp; done)); go_big_quiet_on)
                      | (refine ⟨.agg #[.int .i64 y.k, .int .i64 y.o, .int .i64 y.d, .int .i64 y.a, .int .i64 y.b, .int .i64 y.n, .int .i64 y.t], fun ww hww => ?_, ?_⟩; (focus (obtain ⟨ql, q0, q1, q2, q3, q4, q5, q6, -⟩ := (HY10.out.stay hww).facts; go_simp; done)); go_big_quiet_on)
                      | (refine ⟨.agg #[.int .i64 x.k, .int .i64 x.o, .int .i64 x.d, .int .i64 x.a, .int .i64 x.b, .int .i64 x.n, .int .i64 x.t], fun ww hww => ?_, ?_⟩; (focus (obtain ⟨ql, q0, q1, q2, q3, q4, q5, q6, -⟩ := (HY10.out.stay hww).facts; go_simp; done)); go_big_quiet_on)
                      | (refine ⟨.bool true, fun ww hww => ?_, ?_⟩; (focus (go_simp; done)); go_big_quiet_on)))
                  refine wpQuiet_nil ?_
                  intro y8 hb9
                  have HZ8 := Lib.hid (below_ch HZ.out hb9)
                  clear hb9
                  go_wp2
                  go_ret
                  exact ⟨rfl, HZ8.out⟩
                · have hs0 : st ≠ su := fun e => hxy (same_of hx.out hy.out PX PY (by rw [hst.out, hsu.out, e]))
                  have hbe : eqB x y = false := by
                    cases h : eqB x y
                    · rfl
                    · exact absurd (eqB_iff.1 h) hxy
                  have hs2 : (st.toList == su.toList) = false := by
                    cases h : st.toList == su.toList
                    · rfl
                    · exact absurd (bytes_inj (by rw [← ByteArray.toList_eq, ← ByteArray.toList_eq]; exact eq_of_beq h)) hs0
                  have hs1 : (st == su) = false := by rw [beq_toListBytes]; exact hs2
                  have hs3 : decide (st = su) = false := by simpa using hs0
                  clear PX PY hxy hs0
                  refine wp_region_quiet (C := fun w' => Below w10.heap.size w10 w') (by kernel_rfl) (by kernel_rfl) ((Below.refl _ _).drew) ?_
                  dsimp only
                  repeat (first
                    | go_big_quiet_skip
                    | (go_big_quiet_want; go_big_quiet_op; first
                      | go_big_quiet_on
                      | (refine ⟨_, fun _ _ => rfl, ?_⟩; go_big_quiet_on)
                      | (apply Exists.intro; refine ⟨fun ww hww => ?_, ?_⟩; (go_at_call 15; (with_reducible exact (HSX.out ww hww).mono fun e X ⟨h1, h2⟩ => ⟨h1, below_ch hww h2⟩)); go_big_quiet_on)
                      | (apply Exists.intro; refine ⟨fun ww hww => ?_, ?_⟩; (go_at_call 15; (with_reducible exact (HSY.out ww hww).mono fun e X ⟨h1, h2⟩ => ⟨h1, below_ch hww h2⟩)); go_big_quiet_on)
                      | (refine ⟨.agg #[.int .i64 x.k, .int .i64 x.o, .int .i64 x.d, .int .i64 x.a, .int .i64 x.b, .int .i64 x.n, .int .i64 x.t], fun ww hww => ?_, ?_⟩; (focus (obtain ⟨ql, q0, q1, q2, q3, q4, q5, q6, -⟩ := (HX10.out.stay hww).facts; go_simp; done)); go_big_quiet_on)
                      | (refine ⟨.agg #[.int .i64 y.k, .int .i64 y.o, .int .i64 y.d, .int .i64 y.a, .int .i64 y.b, .int .i64 y.n, .int .i64 y.t], fun ww hww => ?_, ?_⟩; (focus (obtain ⟨ql, q0, q1, q2, q3, q4, q5, q6, -⟩ := (HY10.out.stay hww).facts; go_simp; done)); go_big_quiet_on)
                      | (refine ⟨.bool false, fun ww hww => ?_, ?_⟩; (focus (go_simp; rw [if_ne hbe]; exact ⟨rfl, rfl⟩)); go_big_quiet_on)))
                  refine wpQuiet_nil ?_
                  intro y8 hb9
                  have HZ8 := Lib.hid (below_ch HZ.out hb9)
                  clear hb9
                  go_wp2
                  go_ret
                  exact ⟨rfl, HZ8.out⟩
theorem walk (x : Ic) (hx : Ok6 x) (y : Ic) (hy : Ok6 y) (W : World) (L : Laid W) : Calls Tryd.prog 6 #[.agg #[.int .i64 x.k, .int .i64 x.o, .int .i64 x.d, .int .i64 x.a, .int .i64 x.b, .int .i64 x.n, .int .i64 x.t], .agg #[.int .i64 y.k, .int .i64 y.o, .int .i64 y.d, .int .i64 y.a, .int .i64 y.b, .int .i64 y.n, .int .i64 y.t]] W fun e w' => e = .returned (.bool true) ∧ Below W.heap.size W w' :=
  walk_in x y (Lib.hid hx) (Lib.hid hy) W (Lib.hid L) _ (Lib.hid rfl) _ (Lib.hid rfl) _ _ (Lib.hid rfl) (Lib.hid rfl) _ _ _ (Lib.hid rfl) (Lib.hid rfl) (Lib.hid rfl)

theorem out_laid : laidOutB Tryd.prog = true := by kernel_rfl
set_option maxRecDepth 100000 in
theorem lifted (os : Os) (started : os.Started) (H : Type) (enc : TypeId × Value → H) :
    ReturnsInHanded {} Tryd.checked os 6 .any (fun w args => (Rows.insReadsSpec.pre enc Tryd.prog Tryd.f6 [] false w args ∧ laidMetH Tryd.prog laidL w) ∧ sizedMet enc Tryd.prog Tryd.f6 (OpenSpec.ofChange Rows.insReadsSpec) false w args)
      (Rows.insReadsSpec.post enc Tryd.prog Tryd.f6 false true false false) := by
  refine returnsInHanded_of_change_and (C := Tryd.checked) (X := fun w _ => laidMetH Tryd.prog laidL w) (fun _ _ _ hh h => h.of_heap hh) own started (by kernel_rfl) Tryd.func6
    (ChangeSpec.witness_shaped (enc := enc) (C := Tryd.checked) (os := os) (X := fun w _ => laidMetH Tryd.prog laidL w) false (World.doorLaid Tryd.prog 400 os) #[.agg #[.int .i64 0, .int .i64 0, .int .i64 0, .int .i64 0, .int .i64 0, .int .i64 0, .int .i64 0], .agg #[.int .i64 0, .int .i64 0, .int .i64 0, .int .i64 0, .int .i64 0, .int .i64 0, .int .i64 0]] 8 rfl (World.shaped_of_RefB (by kernel_rfl) (by kernel_rfl)) (by kernel_rfl) (by kernel_rfl) (by kernel_rfl) (door_met os _)) ?_
  intro W base args ds gs before hval0 hW _ _ hL _
  have hval : ∀ (j : Nat) t v, Tryd.f6.params[j]? = some t → args[j]? = some v → Value.okWide Tryd.prog W .any base t v := hval0
  have hW' := hW
  obtain ⟨p, q, hA0, hV, rfl, hfz, hnd⟩ := hW
  have hA : DataW.TrodAll enc Tryd.prog W 0 (fun _ => true) true Tryd.f6.params.toList args.toList ds p := hA0
  rw [Tryd.params6] at hA hval
  obtain ⟨v0, vs0, d0, ds0, p0, q0, hargs, rfl, rfl, h0, r0⟩ := trodAll_cons hA
  obtain ⟨v1, vs1, d1, ds1, p1, q1, rfl, rfl, rfl, h1, r1⟩ := trodAll_cons r0
  obtain ⟨rfl, rfl, rfl⟩ := trodAll_nil r1
  obtain rfl : args = #[v0, v1] := by cases args; simp_all
  obtain ⟨rfl, rfl⟩ := trodVars_none hV
  obtain ⟨x0, rfl, hx0⟩ := open_ins (hval 0 23 v0 rfl rfl) h0
  obtain ⟨x1, rfl, hx1⟩ := open_ins (hval 1 23 v1 rfl rfl) h1
  have hlt0 : ∀ x ∈ p0, x.block < W.heap.size := fun x hx => by simpa using hW'.lt x (by simp [hx])
  have hlt1 : ∀ x ∈ p1, x.block < W.heap.size := fun x hx => by simpa using hW'.lt x (by simp [hx])
  have hLaid := of_laid hL
  clear hA0 hval0
  simp only [List.append_nil] at hW'
  refine (walk x0 hx0 x1 hx1 W hLaid).mono fun e W' ⟨he, hb⟩ => ?_
  subst he
  exact ⟨_, rfl, _, _, _, [], _, [], hW', trodAll_mk1 (shut_bool Tryd.underlying4 _), (trodAll_cons_mk (Below.trod out_laid (by kernel_rfl) (of_decide_eq_true (by kernel_rfl)) h0 hb hlt0) (trodAll_cons_mk (Below.trod out_laid (by kernel_rfl) (of_decide_eq_true (by kernel_rfl)) h1 hb hlt1) trodAll_mk0)), rfl, hb.frame _, fun h => by cases h⟩

theorem said : Rows.InsReadsSaid :=
  OpenClaim.holds_of_wide 6 Tryd.f6 rfl rfl rfl rfl rfl rfl rfl ⟨rfl, rfl, rfl, rfl, rfl⟩ rfl rfl rfl rfl rfl (by kernel_rfl) Tryd.func6 (by kernel_rfl)
    (of_decide_eq_true (by kernel_rfl)) (by unfold Func.isWrapper; first | (rw [if_pos (by decide +kernel)]; kernel_rfl) | (rw [if_neg (by decide +kernel)]; exact ⟨rfl, rfl⟩))
    (fun os started H enc _ => lifted os started H enc)
end InsReads

theorem insReads_card_holds : Rows.InsReadsCardSaid :=
  Claim7.holds_tied_plain_at .later [] _ true _ false
    InsReads.said (fun _ h => by cases h) (by kernel_rfl) (fun _ h => by cases h) insReads_row_tie rfl ⟨rfl, rfl⟩ (by kernel_rfl) rfl
    (fun f fn hf hfn => by
      obtain rfl : f = 6 := Option.some.inj ((show Tryd.prog.funcNamed "paling/palinglaw11.InsReads" = some 6 by kernel_rfl).symm.trans hf) |>.symm
      obtain rfl : fn = Tryd.f6 := (Option.some.inj (Tryd.func6.symm.trans hfn)).symm
      exact ⟨by kernel_rfl, fun j t ht => by
        rw [Tryd.params6] at ht
        have hm : t ∈ [23, 23] := by simpa using Array.mem_of_getElem? ht
        have hall : ([23, 23].all fun u => !Tryd.prog.wantsStandIn u) = true := by kernel_rfl
        exact (show Tryd.prog.wantsStandIn t = false by simpa using List.all_eq_true.1 hall t hm)⟩)
    (by kernel_rfl)
#print axioms insReads_card_holds
end Go.Proofs.YtjjjdghkeogljaaDoor
