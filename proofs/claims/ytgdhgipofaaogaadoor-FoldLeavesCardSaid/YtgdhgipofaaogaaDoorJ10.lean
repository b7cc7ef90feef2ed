/- Lemmas for the laws of live (Flv Flx): each says its own conditions. -/
import Derived.Test.YtgdhgipofaaogaaDoorJ09
set_option linter.unusedSimpArgs false
set_option linter.unusedVariables false
namespace Go.Proofs.YtgdhgipofaaogaaDoor
open Go Go.RowKit Gm

/-- What stands where nothing that is known is left. -/
theorem one_left {f : Int → Option Int} {x : Ic} {at_ : Nat} : ((oneM f x at_).k = 2 → f (oneM f x at_).a = none ∨ f (oneM f x at_).b = none) ∧ ((oneM f x at_).k = 7 → f (oneM f x at_).a = none) ∧ ((oneM f x at_).k = 3 → f (oneM f x at_).a = none) := by
  unfold oneM
  split
  · exact ⟨fun h => by simp at h, fun h => by simp at h, fun h => by simp at h⟩
  rename_i h1
  split
  · exact ⟨fun h => by simp at h, fun h => by simp at h, fun h => by simp at h⟩
  rename_i h2
  split
  · exact ⟨fun h => by simp at h, fun h => by simp at h, fun h => by simp at h⟩
  rename_i h3
  split
  · exact ⟨fun h => by simp at h, fun h => by simp at h, fun h => by simp at h⟩
  rename_i h4
  split
  · exact ⟨fun h => by simp at h, fun h => by simp at h, fun h => by simp at h⟩
  rename_i h5
  split
  · exact ⟨fun h => by simp at h, fun h => by simp at h, fun h => by simp at h⟩
  rename_i h6
  refine ⟨fun h => ?_, fun h => ?_, fun h => ?_⟩
  · cases ha : f x.a with
    | none => exact .inl rfl
    | some a =>
      cases hb : f x.b with
      | none => exact .inr rfl
      | some b => exact absurd ⟨.inl h, by unfold vl; simp [h, ha, hb]⟩ h1
  · cases ha : f x.a with
    | none => rfl
    | some a => exact absurd ⟨h, by rw [ha]; rfl⟩ h6
  · cases ha : f x.a with
    | none => rfl
    | some a => exact absurd ⟨h, by rw [ha]; rfl⟩ h4
theorem one_same {f : Int → Option Int} {x : Ic} {at_ : Nat} (h : x.k ≠ 1 ∧ x.k ≠ 2 ∧ x.k ≠ 3 ∧ x.k ≠ 7) : oneM f x at_ = x := by
  obtain ⟨h1, h2, h3, h7⟩ := h
  unfold oneM
  simp [h1, h2, h3, h7]
/-- Of a place: what stands there. -/
def LvF (c : List Ic) (i : Nat) (x y : Ic) (r : Bool) : Prop := (r = true ↔ Rc c i) ∧ ((x.k ≠ 1 ∧ x.k ≠ 2 ∧ x.k ≠ 3 ∧ x.k ≠ 7) ∨ r = false → y = x) ∧ (r = true → ∀ (na nb : Int) (ba bb : Bool), KnF c i y.a na ba → KnF c i y.b nb bb → (y.k = 2 → ba = false ∨ bb = false) ∧ (y.k = 7 → ba = false) ∧ (y.k = 3 → ba = false))
theorem KnF.no {c : List Ic} {i : Nat} {r n : Int} {b : Bool} {f : Int → Option Int} (hf : ∀ r m, f r = some m ↔ Kn c i r m) (h : KnF c i r n b) (e : f r = none) : b = false := by
  cases b with
  | false => rfl
  | true =>
    obtain ⟨p, hp, hk⟩ := h.1 rfl
    obtain rfl : i = p := by omega
    rw [(hf r n).2 hk] at e
    cases e
theorem CodeR.lv {c D : List Ic} {i : Nat} {x y : Ic} {r : Bool} (h : CodeR c c.length D) (hx : c[i]? = some x) (hy : D[i]? = some y) (hr : r = true ↔ Rc c i) : LvF c i x y r := by
  obtain ⟨f, hf, h1, h2⟩ := h.2 i x (List.getElem?_eq_some_iff.1 hx).1 hx
  refine ⟨hr, fun hs => ?_, fun e na nb ba bb ka kb => ?_⟩
  · by_cases hc : Rc c i
    · have hn : x.k ≠ 1 ∧ x.k ≠ 2 ∧ x.k ≠ 3 ∧ x.k ≠ 7 := by
        rcases hs with hs | hs
        · exact hs
        · rw [hr.2 hc] at hs
          cases hs
      have := h1 hc
      rw [hy, one_same hn] at this
      exact Option.some.inj this
    · have := h2 hc
      rw [hy] at this
      exact Option.some.inj this
  · have := h1 (hr.1 e)
    rw [hy] at this
    have e2 := Option.some.inj this
    obtain ⟨l2, l7, l3⟩ := one_left (f := f) (x := x) (at_ := i)
    rw [← e2] at l2 l7 l3
    exact ⟨fun k => (l2 k).imp (ka.no hf) (kb.no hf), fun k => (ka.no hf) (l7 k), fun k => (ka.no hf) (l3 k)⟩
end Go.Proofs.YtgdhgipofaaogaaDoor
namespace Go.Proofs.YtgdhgipofaaogaaDoor
open Go Go.RowKit Gm

set_option maxRecDepth 100000 in
set_option maxHeartbeats 8000000 in
theorem fleaves_c {W : World} {p : Option Addr} {cap : Nat} {c : List Ic} (hc : Hid (CodeAt W p c)) (E : Hid (Kinds W)) : Calls Tryd.prog 6 #[.slice p c.length cap] W (TrueP W) := by
  have HAW := Lib.hid (fawake_c E)
  go_enter Tryd.func6, Tryd.ntmps6
  go_upto_region 4 with (go_at_call 7; (with_reducible refine HAW.out.mono ?_); rintro e1 w1 ⟨rfl, hb1⟩; have HB1 := Lib.hid hb1; clear hb1)
  have HC1 := Lib.hid (hc.out.stay HB1.out)
  by_cases h30 : 30 < c.length
  · have hd : decide ((30 : Int) < (c.length : Int)) = true := decide_eq_true (by omega)
    go_wp2_with (fail)
    go_ret
    exact ⟨rfl, HB1.out⟩
  have hd : decide ((30 : Int) < (c.length : Int)) = false := decide_eq_false (by omega)
  obtain ⟨bb, hbb⟩ : ∃ bb, checkB c 30 9 = bb := ⟨_, rfl⟩
  have HCK := Lib.hid (rchk_is (cap := cap) hbb rfl w1 HC1.out)
  cases bb with
  | false =>
    go_wp2_with (go_at_call 8; (with_reducible refine HCK.out.mono ?_); rintro e2 w2 ⟨rfl, hb2⟩; have HB2 := Lib.hid (below_ch HB1.out hb2); clear hb2)
    go_ret
    exact ⟨rfl, HB2.out⟩
  | true =>
    go_upto_region 6 with (go_at_call 8; (with_reducible refine HCK.out.mono ?_); rintro e2 w2 ⟨rfl, hb2⟩; have HB2 := Lib.hid (below_ch HB1.out hb2); clear hb2)
    have HOK := Lib.hid (okc_of hbb).2
    have h0 := (okc_of hbb).1
    clear hd hbb
    have hn5 : c.length ≤ 5000 := by omega
    have HCO := Lib.hid (code_c (cap := cap) (Lib.hid (E.out.below HB2.out)) (Lib.hid (hc.out.stay HB2.out)) rfl (by omega) h0 HOK)
    go_upto_region 7 with (go_at_call 12; (with_reducible refine HCO.out.mono ?_); rintro e3 w3 ⟨b, D, rfl, hD3, hl3, hr3, -, hb3⟩; have HD3 := Lib.hid hD3; have HL3 := Lib.hid hl3; have HR3 := Lib.hid hr3; have HB3 := Lib.hid (below_ch HB2.out hb3); have HAL := Lib.hid (all_c (cap := cap) (Lib.hid (hc.out.stay HB3.out)) hn5); clear hD3 hl3 hr3 hb3)
    go_upto_region 8 with (go_at_call 17; (with_reducible refine HAL.out.mono ?_); rintro e4 w4 ⟨ab, I, V, L, rfl, ha, hf⟩; have HA := Lib.hid ha; have HF := Lib.hid (hf h0); clear ha hf)
    clear HAL
    have HB4 := Lib.hid (below_ch HB3.out HA.out.bel)
    have HD4 := Lib.hid (HD3.out.stay HA.out.bel)
    go_wp2
    go_loopw [6] (fun a wr => ∃ i : Nat, a = .int .i64 i ∧ i ≤ c.length ∧ Hid (Below w4.heap.size w4 wr)) (fun a _ => c.length - (intOf a).toNat)
    case atStart => exact ⟨0, rfl, Nat.zero_le _, Lib.hid (Below.refl _ _)⟩
    case round =>
      obtain ⟨wo, rfl⟩ : ∃ wo : World, wo = wr := ⟨_, rfl⟩
      obtain ⟨i, rfl, hi, HR⟩ := hrel
      by_cases hlt : i < c.length
      · obtain ⟨x, hx⟩ : ∃ x, c[i]? = some x := ⟨_, List.getElem?_eq_getElem hlt⟩
        obtain ⟨y, hy⟩ : ∃ y, D[i]? = some y := ⟨_, List.getElem?_eq_getElem (by rw [HL3.out]; exact hlt)⟩
        have HLV := Lib.hid (HR3.out.lv hx hy (HF.out.1.rc_iff HF.out.2 i))
        have HLo := Lib.hid (below_ch HB4.out HR.out)
        obtain ⟨gc, oc, rfl, hgc, hx7, -⟩ := (hc.out.stay HLo.out) i x hx
        obtain ⟨gd, od, ed, hgd, hy7, hy6⟩ := (HD4.out.stay HR.out) i y hy
        cases ed
        have hy7 : At7 wo b (i * 7) y := by rw [Nat.zero_add] at hy7; exact hy7
        have c0 := (HA.out.stay HR.out).fv.cell (i := i * 2) (by omega)
        rw [Fs_0] at c0
        have hgab := (HA.out.stay HR.out).fv.lt
        have HX7 := Lib.hid hx7
        have HY7 := Lib.hid hy7
        have hya : In6 y.a ∧ In6 y.b := by
          unfold Ok6 at hy6
          exact ⟨hy6.2.2.2.1, hy6.2.2.2.2.1⟩
        have HY6 := Lib.hid hya
        have hkx := (HOK.out i x hx).1
        obtain ⟨r, hr⟩ : ∃ r, I i = r := ⟨_, rfl⟩
        rw [hr] at c0 HLV
        have C0 := Lib.hid c0
        have k0 := hx7.k
        have HKX := Lib.hid hkx
        clear hx7 hy7 hy6 hya hr c0 hx hy hkx
        go_upto_region 14 with (fail)
        clear k0
        go_cut [79] from 43 to 79 (fun v X => v = .bool false ∧ Below wo.heap.size wo X)
        case first =>
          have k0 := HX7.out.k
          have k1 := HX7.out.o
          have k2 := HX7.out.d
          have k3 := HX7.out.a
          have k4 := HX7.out.b
          have k5 := HX7.out.n
          have k6 := HX7.out.t
          have j0 := HY7.out.k
          have j1 := HY7.out.o
          have j2 := HY7.out.d
          have j3 := HY7.out.a
          have j4 := HY7.out.b
          have j5 := HY7.out.n
          have j6 := HY7.out.t
          have c0 := C0.out
          by_cases q4 : x.k = 4
          · obtain rfl := HLV.out.2.1 (.inl (by omega))
            have b4 : (y.k == 4) = true := by rw [q4]; rfl
            clear q4
            go_quiet (fail)
            go_wp2
            go_meet
            exact ⟨rfl, below_like (Below.refl _ _) rfl rfl rfl rfl⟩
          have b4 : (x.k == 4) = false := beq_eq_false_iff_ne.2 q4
          by_cases q5 : x.k = 5
          · obtain rfl := HLV.out.2.1 (.inl (by omega))
            have b5 : (y.k == 5) = true := by rw [q5]; rfl
            clear q5
            go_quiet (fail)
            go_wp2
            go_meet
            exact ⟨rfl, below_like (Below.refl _ _) rfl rfl rfl rfl⟩
          have b5 : (x.k == 5) = false := beq_eq_false_iff_ne.2 q5
          by_cases q8 : 8 ≤ x.k
          · obtain rfl := HLV.out.2.1 (.inl (by omega))
            have b8 : decide ((8 : Int) ≤ y.k) = true := decide_eq_true q8
            go_quiet (fail)
            go_wp2
            go_meet
            exact ⟨rfl, below_like (Below.refl _ _) rfl rfl rfl rfl⟩
          have b8 : decide ((8 : Int) ≤ x.k) = false := decide_eq_false q8
          by_cases q6 : x.k = 6
          · obtain rfl := HLV.out.2.1 (.inl (by omega))
            have b6 : (y.k == 6) = true := by rw [q6]; rfl
            clear q6
            go_quiet (fail)
            go_wp2
            go_meet
            exact ⟨rfl, below_like (Below.refl _ _) rfl rfl rfl rfl⟩
          have b6 : (x.k == 6) = false := beq_eq_false_iff_ne.2 q6
          by_cases q0 : x.k = 0
          · obtain rfl := HLV.out.2.1 (.inl (by omega))
            have b0 : (y.k == 0) = true := by rw [q0]; rfl
            clear q0
            go_quiet (fail)
            go_wp2
            go_meet
            exact ⟨rfl, below_like (Below.refl _ _) rfl rfl rfl rfl⟩
          have b0 : (x.k == 0) = false := beq_eq_false_iff_ne.2 q0
          cases r with
          | false =>
            obtain rfl := HLV.out.2.1 (.inr rfl)
            go_quiet (fail)
            go_wp2
            go_meet
            exact ⟨rfl, below_like (Below.refl _ _) rfl rfl rfl rfl⟩
          | true =>
            go_quiet (fail)
            go_wp2
            go_meet
            exact ⟨rfl, below_like (Below.refl _ _) rfl rfl rfl rfl⟩
        case rest =>
          obtain ⟨rfl, hb5⟩ := hcut
          have HB5 : Hid (Below w4.heap.size w4 wc) := Lib.hid (below_ch HR.out hb5)
          have hKN : Hid (∀ X (a : Int), In6 a → Below w4.heap.size w4 X → Calls Tryd.prog 9 #[.slice (some ⟨gc, oc, none⟩) c.length cap, .int .i64 i, .int .i64 a] X (KnP X c i a)) := Lib.hid fun X a ha hX => known_c (Lib.hid (E.out.below (below_ch HB4.out hX))) (Lib.hid (hc.out.stay (below_ch HB4.out hX))) rfl (by omega) HOK i a ha
          have hbo5 : b < wc.heap.size := Nat.lt_of_lt_of_le hgd hb5.size
          have j3 := (HY7.out.stay hgd hb5).a
          have HBc := Lib.hid hb5
          clear hb5
          go_upto_region 17 with (go_at_call 9; (with_reducible refine ((hKN.out _ _ HY6.out.1 HB5.out)).mono ?_); rintro e6 w6 hp; obtain ⟨n6, b6, rfl, hk6, hb6⟩ := hp.kf; have HK6 := Lib.hid hk6; have HB6 := Lib.hid (below_ch HB5.out hb6); have HO6 := Lib.hid hb6; clear hk6 hb6)
          clear j3
          have HYc := Lib.hid (HY7.out.stay hgd HBc.out)
          have hbo6 : b < w6.heap.size := Nat.lt_of_lt_of_le hbo5 HO6.out.size
          have j4 := (HYc.out.stay hbo5 HO6.out).b
          go_upto_region 18 with (go_at_call 9; (with_reducible refine ((hKN.out _ _ HY6.out.2 HB6.out)).mono ?_); rintro e7 w7 hp; obtain ⟨n7, b7, rfl, hk7, hb7⟩ := hp.kf; have HK7 := Lib.hid hk7; have HB7 := Lib.hid (below_ch HB6.out hb7); have HO7 := Lib.hid hb7; clear hk7 hb7)
          clear j4
          have h7o : Below wo.heap.size wo w7 := below_ch (below_ch HBc.out HO6.out) HO7.out
          have j0 := (HY7.out.stay hgd h7o).k
          have hbo7 : b < w7.heap.size := Nat.lt_of_lt_of_le hgd h7o.size
          have c0 := (h7o.cell (p := ⟨ab, i * 2, none⟩) hgab).trans C0.out
          have hab7 : ab < w7.heap.size := Nat.lt_of_lt_of_le hgab h7o.size
          clear h7o hbo5 hbo6
          cases r with
          | false =>
            go_wp2
            go_roundw
            case rel => exact ⟨i + 1, by go_num, by omega, Lib.hid (below_like HB7.out rfl rfl rfl rfl)⟩
            case measure => (simp [intOf]; try omega)
          | true =>
            obtain ⟨L2, L7, L3⟩ := HLV.out.2.2 rfl n6 n7 b6 b7 HK6.out HK7.out
            by_cases q2 : y.k = 2
            · have d2 : (y.k == 2) = true := by rw [q2]; rfl
              have d7 : (y.k == 7) = false := by rw [q2]; rfl
              have d3 : (y.k == 3) = false := by rw [q2]; rfl
              rcases L2 q2 with rfl | rfl
              · clear L2 L7 L3 q2
                go_wp2
                go_roundw
                case rel => exact ⟨i + 1, by go_num, by omega, Lib.hid (below_like HB7.out rfl rfl rfl rfl)⟩
                case measure => (simp [intOf]; try omega)
              · clear L2 L7 L3 q2
                cases b6
                · go_wp2
                  go_roundw
                  case rel => exact ⟨i + 1, by go_num, by omega, Lib.hid (below_like HB7.out rfl rfl rfl rfl)⟩
                  case measure => (simp [intOf]; try omega)
                · go_wp2
                  go_roundw
                  case rel => exact ⟨i + 1, by go_num, by omega, Lib.hid (below_like HB7.out rfl rfl rfl rfl)⟩
                  case measure => (simp [intOf]; try omega)
            have d2 : (y.k == 2) = false := beq_eq_false_iff_ne.2 q2
            by_cases q7 : y.k = 7
            · have d7 : (y.k == 7) = true := by rw [q7]; rfl
              have d3 : (y.k == 3) = false := by rw [q7]; rfl
              obtain rfl := L7 q7
              clear L2 L7 L3 q2 q7
              go_wp2
              go_roundw
              case rel => exact ⟨i + 1, by go_num, by omega, Lib.hid (below_like HB7.out rfl rfl rfl rfl)⟩
              case measure => (simp [intOf]; try omega)
            have d7 : (y.k == 7) = false := beq_eq_false_iff_ne.2 q7
            by_cases q3 : y.k = 3
            · have d3 : (y.k == 3) = true := by rw [q3]; rfl
              obtain rfl := L3 q3
              clear L2 L7 L3 q2 q7 q3
              go_wp2
              go_roundw
              case rel => exact ⟨i + 1, by go_num, by omega, Lib.hid (below_like HB7.out rfl rfl rfl rfl)⟩
              case measure => (simp [intOf]; try omega)
            have d3 : (y.k == 3) = false := beq_eq_false_iff_ne.2 q3
            clear L2 L7 L3 q2 q7 q3
            go_wp2
            go_roundw
            case rel => exact ⟨i + 1, by go_num, by omega, Lib.hid (below_like HB7.out rfl rfl rfl rfl)⟩
            case measure => (simp [intOf]; try omega)
      · obtain rfl : i = c.length := by omega
        go_wp2
        go_ret
        exact ⟨rfl, below_ch HB4.out HR.out⟩
end Go.Proofs.YtgdhgipofaaogaaDoor
