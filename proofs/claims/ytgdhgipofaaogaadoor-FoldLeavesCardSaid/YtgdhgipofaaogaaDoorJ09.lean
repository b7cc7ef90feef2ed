/- Lemmas for the laws of live (Flt): each says its own conditions. -/
import Derived.Test.YtgdhgipofaaogaaDoorJ08
set_option linter.unusedSimpArgs false
set_option linter.unusedVariables false
namespace Go.Proofs.YtgdhgipofaaogaaDoor
open Go Go.RowKit Gm

def TrueP (W : World) (e : Ending) (w' : World) : Prop := e = .returned (.bool true) ∧ Below W.heap.size W w'
set_option maxRecDepth 100000 in
set_option maxHeartbeats 8000000 in
theorem ftells_c {W : World} {p : Option Addr} {cap : Nat} {c : List Ic} (hc : Hid (CodeAt W p c)) (E : Hid (Kinds W)) (at_ reg : Int) (hr6 : In6 reg) : Calls Tryd.prog 3 #[.slice p c.length cap, .int .i64 at_, .int .i64 reg] W (TrueP W) := by
  have HAW := Lib.hid (fawake_c E)
  have HR6 := Lib.hid hr6
  clear hr6
  go_enter Tryd.func3, Tryd.ntmps3
  go_upto_region 4 with (go_at_call 7; (with_reducible refine HAW.out.mono ?_); rintro e1 w1 ⟨rfl, hb1⟩; have HB1 := Lib.hid hb1; clear hb1)
  have HC1 := Lib.hid (hc.out.stay HB1.out)
  by_cases h40 : 40 < c.length
  · have hd : decide ((40 : Int) < (c.length : Int)) = true := decide_eq_true (by omega)
    go_wp2_with (fail)
    go_ret
    exact ⟨rfl, HB1.out⟩
  have hd : decide ((40 : Int) < (c.length : Int)) = false := decide_eq_false (by omega)
  obtain ⟨bb, hbb⟩ : ∃ bb, checkB c 30 9 = bb := ⟨_, rfl⟩
  have HCK := Lib.hid (rchk_is (cap := cap) hbb rfl w1 HC1.out)
  cases bb with
  | false =>
    go_wp2_with (go_at_call 8; (with_reducible refine HCK.out.mono ?_); rintro e2 w2 ⟨rfl, hb2⟩; have HB2 := Lib.hid (below_ch HB1.out hb2); clear hb2)
    go_ret
    exact ⟨rfl, HB2.out⟩
  | true =>
    go_upto_region 6 with (go_at_call 8; (with_reducible refine HCK.out.mono ?_); rintro e2 w2 ⟨rfl, hb2⟩; have HB2 := Lib.hid (below_ch HB1.out hb2); clear hb2)
    have HOK := Lib.hid (okc_of hbb).2
    have h0 := (okc_of hbb).1
    clear hd hbb
    have hKN : Hid (∀ X (a : Int), Below W.heap.size W X → Calls Tryd.prog 9 #[.slice p c.length cap, .int .i64 a, .int .i64 reg] X (KnP X c a reg)) := Lib.hid fun X a hX => known_c (Lib.hid (E.out.below hX)) (Lib.hid (hc.out.stay hX)) rfl (by omega) HOK a reg HR6.out
    have hRN : Hid (∀ X (a : Int), Below W.heap.size W X → Calls Tryd.prog 10 #[.slice p c.length cap, .int .i64 a, .int .i64 reg] X (KnP X c a reg)) := Lib.hid fun X a hX => refknown_c (Lib.hid (hc.out.stay hX)) (by omega) a reg
    go_upto_region 7 with (go_at_call 9; (with_reducible refine ((hKN.out _ _ HB2.out)).mono ?_); rintro e3 w3 hp; obtain ⟨n3, b3, rfl, hk3, hb3⟩ := hp.kf; have HK3 := Lib.hid hk3; have HB3 := Lib.hid (below_ch HB2.out hb3); clear hk3 hb3)
    go_upto_region 8 with (go_at_call 10; (with_reducible refine ((hRN.out _ _ HB3.out)).mono ?_); rintro e4 w4 hp; obtain ⟨rfl, hb4⟩ := hp.same HK3.out; have HB4 := Lib.hid (below_ch HB3.out hb4); clear hb4)
    go_wp2
    go_loopw [12] (fun a wr => ∃ i : Nat, a = .int .i64 i ∧ i ≤ c.length ∧ Hid (Below W.heap.size W wr)) (fun a _ => c.length - (intOf a).toNat)
    case atStart => exact ⟨0, rfl, Nat.zero_le _, HB4⟩
    case round =>
      obtain ⟨wo, rfl⟩ : ∃ wo : World, wo = wr := ⟨_, rfl⟩
      obtain ⟨i, rfl, hi, HR⟩ := hrel
      by_cases hlt : i < c.length
      · go_upto_region 12 with (go_at_call 9; (with_reducible refine ((hKN.out _ _ HR.out)).mono ?_); rintro e5 w5 hp; obtain ⟨n5, b5, rfl, hk5, hb5⟩ := hp.kf; have HK5 := Lib.hid hk5; have HB5 := Lib.hid (below_ch HR.out hb5); clear hk5 hb5)
        go_upto_region 13 with (go_at_call 10; (with_reducible refine ((hRN.out _ _ HB5.out)).mono ?_); rintro e6 w6 hp; obtain ⟨rfl, hb6⟩ := hp.same HK5.out; have HB6 := Lib.hid (below_ch HB5.out hb6); clear hb6)
        go_wp2
        go_roundw
        case rel => exact ⟨i + 1, by go_num, by omega, Lib.hid HB6.out⟩
        case measure => (simp [intOf]; try omega)
      · obtain rfl : i = c.length := by omega
        have HCO := Lib.hid (code_c (cap := cap) (Lib.hid (E.out.below HR.out)) (Lib.hid (hc.out.stay HR.out)) rfl (by omega) h0 HOK)
        have hn5 : c.length ≤ 5000 := by omega
        go_wp2_with (first
          | (go_at_call 12; (with_reducible refine HCO.out.mono ?_); rintro e5 w5 ⟨b, D, rfl, hD5, hl5, hr5, -, hb5⟩; have HD5 := Lib.hid hD5; have HL5 := Lib.hid hl5; have HR5 := Lib.hid hr5; have HB5 := Lib.hid (below_ch HR.out hb5); have HRC := Lib.hid (refcode_c (cap := cap) (Lib.hid (hc.out.stay HB5.out)) hn5); clear hD5 hl5 hr5 hb5)
          | (go_at_call 13; (with_reducible refine HRC.out.mono ?_); rintro e6 w6 ⟨v6, D6, rfl, hv6, hr6, hb6⟩; obtain rfl := HR5.out.one hr6; obtain ⟨p6, c6, rfl, hp6⟩ := hv6.code (fun x hx => by
              obtain ⟨i, hi, e⟩ := List.getElem_of_mem hx
              obtain ⟨_, _, _, _, _, h6⟩ := HD5.out i x (by rw [List.getElem?_eq_getElem hi, e])
              exact h6); have HSA := Lib.hid (same_c (cp := c.length) (cq := c6) (Lib.hid (HD5.out.stay hb6)) (Lib.hid hp6) (by have := HL5.out; omega)); have HLE := Lib.hid HL5.out; have HB6 := Lib.hid (below_ch HB5.out hb6); clear hv6 hr6 hb6 hp6; rw [HL5.out] at HSA ⊢)
          | (go_at_call 11; (with_reducible refine HSA.out.mono ?_); rintro e7 w7 ⟨rfl, hb7⟩; have HB7 := Lib.hid (below_ch HB6.out hb7); clear hb7))
        go_ret
        exact ⟨rfl, HB7.out⟩
end Go.Proofs.YtgdhgipofaaogaaDoor
