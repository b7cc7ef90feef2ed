/- Lemmas for the laws of live (Lfl): each says its own conditions. -/
import Derived.Test.YthodpkcjdbkdnaaDoorJ08
import Derived.Test.YthodpkcjdbkdnaaDoorJ06
set_option linter.unusedSimpArgs false
set_option linter.unusedVariables false
namespace Go.Proofs.YthodpkcjdbkdnaaDoor
open Go Go.RowKit Gm

set_option maxRecDepth 100000 in
set_option maxHeartbeats 2000000 in
theorem lhas_q {W : World} {p : Option Addr} {cp : Nat} {l : List Int} (hp : Hid (RV W p l.length (ivl l))) (hl : l.length ≤ 1000000) (n : Int) :
    Calls Tryd.prog 20 #[.slice p l.length cp, .int .i64 n] W fun e w' => e = .returned (.bool (decide (n ∈ l))) ∧ w' = W := by
  obtain ⟨ans, hans⟩ : ∃ b, decide (n ∈ l) = b := ⟨_, rfl⟩
  rw [hans]
  have HA := Lib.hid hans
  clear hans
  go_enter Tryd.func20, Tryd.ntmps20
  go_wp2
  go_loop [5] (fun a => ∃ j : Nat, a = .int .i64 j ∧ j ≤ l.length ∧ Hid (∀ i, i < j → l.getD i 0 ≠ n)) (fun a => l.length - (intOf a).toNat)
  case atStart => exact ⟨0, rfl, Nat.zero_le _, Lib.hid fun i h => absurd h (Nat.not_lt_zero _)⟩
  case round =>
    obtain ⟨j, rfl, hj, HR⟩ := hrel
    by_cases hlt : j < l.length
    · obtain ⟨g, o, rfl, -, i1⟩ := hp.out j hlt
      simp only [ivl] at i1
      have hin := ivl_in hlt
      obtain ⟨z, hz⟩ : ∃ z, l.getD j 0 = z := ⟨_, rfl⟩
      rw [hz] at i1 hin
      by_cases he : z = n
      · subst he
        obtain rfl : ans = true := by rw [← HA.out]; exact decide_eq_true hin
        clear hz hin
        go_wp2
        go_ret
        exact ⟨rfl, rfl⟩
      · have HE : Hid (l.getD j 0 ≠ n) := Lib.hid (by rw [hz]; exact he)
        clear hz hin
        go_wp2
        go_round
        case rel => exact ⟨j + 1, by go_num, by omega, Lib.hid fun i hi => by
          by_cases e : i = j
          · rw [e]; exact HE.out
          · exact HR.out i (by omega)⟩
        case measure => (simp [intOf]; try omega)
    · obtain rfl : j = l.length := by omega
      obtain rfl : ans = false := by
        rw [← HA.out]
        refine decide_eq_false fun hm => ?_
        obtain ⟨j, hj, e⟩ := ivl_of hm
        exact HR.out j hj e
      go_wp2
      go_ret
      exact ⟨rfl, rfl⟩
/-- One of the first ranges is a register's, and holds a place. -/
def InR (L : List Rt) (n : Int) (i j : Nat) : Prop := ∃ k x, k < j ∧ L[k]? = some x ∧ x.1 = n ∧ x.2.1 ≤ i ∧ i ≤ x.2.2
theorem InR.succ {L : List Rt} {n : Int} {i j : Nat} {x : Rt} (hx : L[j]? = some x) : InR L n i (j + 1) ↔ InR L n i j ∨ (x.1 = n ∧ x.2.1 ≤ i ∧ i ≤ x.2.2) := by
  constructor
  · rintro ⟨k, y, hk, hy, h⟩
    by_cases e : k = j
    · subst e
      rw [hx] at hy
      cases hy
      exact .inr h
    · exact .inl ⟨k, y, by omega, hy, h⟩
  · rintro (⟨k, y, hk, hy, h⟩ | h)
    · exact ⟨k, y, by omega, hy, h⟩
    · exact ⟨j, x, by omega, hx, h⟩
theorem InR.all {c : List Ic} {L : List Rt} (h : IsRng c L) {n : Int} {i : Nat} (hn : Nd c n i) : InR L n i L.length := by
  obtain ⟨x, hx, rfl⟩ := List.mem_map.1 ((h.mem n).2 ⟨i, .inr hn⟩)
  have hp := (h.pl x hx).2.2 i (.inr hn)
  obtain ⟨k, hk, e⟩ := List.mem_iff_getElem.1 hx
  exact ⟨k, x, hk, by rw [List.getElem?_eq_getElem hk, e], rfl, hp⟩
theorem flow1 {c : List Ic} {i : Nat} {x : Ic} {n : Int} (hx : c[i]? = some x) (h : Nd c n i) (hu : n ∉ usesM x) : Bh c n i ∧ defM x ≠ n := by
  rcases (Nd.iff hx).1 h with h | h
  · exact absurd h hu
  · exact ⟨h.2, h.1⟩
theorem flow2 {c : List Ic} {i : Nat} {x : Ic} {n : Int} (hx : c[i]? = some x) (h : Bh c n i) (hd : n ≠ defM x) : Nd c n i := (Nd.iff hx).2 (.inr ⟨fun e => hd e.symm, h⟩)
theorem getD_in {l : List Int} {k : Nat} {z : Int} (hk : k < l.length) (h : l.getD k 0 = z) : z ∈ l := h ▸ ivl_in hk
set_option maxRecDepth 100000 in
set_option maxHeartbeats 8000000 in
theorem flows_c {W : World} {p : Option Addr} {cap : Nat} {c : List Ic} (hc : Hid (CodeAt W p c)) (E : Hid (En W)) (hn : c.length ≤ 9223372036854775807) : Calls Tryd.prog 4 #[.slice p c.length cap] W (TrueP W) := by
  have HAW := Lib.hid (awake_c E)
  go_enter Tryd.func4, Tryd.ntmps4
  go_upto_region 4 with (go_at_call 7; (with_reducible refine HAW.out.mono ?_); rintro e1 w1 ⟨rfl, hb1⟩; have HB1 := Lib.hid hb1; have HSM := Lib.hid (small_c (cap := cap) (Lib.hid (hc.out.stay hb1)) hn); clear hb1)
  go_upto_region 5 with (go_at_call 8; (with_reducible refine HSM.out.mono ?_); rintro e2 w2 ⟨bb, rfl, hbb, hb2⟩; have HB2 := Lib.hid (And.intro hbb hb2); clear hbb hb2)
  have h2 : Below W.heap.size W w2 := HB1.out.trans (HB2.out.2.mono HB1.out.size)
  have H2 := Lib.hid h2
  have HC2 := Lib.hid (hc.out.stay h2)
  have HE2 := Lib.hid (E.out.below h2)
  clear h2
  cases bb with
  | false =>
    go_wp2
    go_ret
    exact ⟨rfl, H2.out⟩
  | true =>
    obtain ⟨hsm, h30⟩ := HB2.out.1 rfl
    have HS := Lib.hid hsm
    have HLA := Lib.hid (lahead_c (cap := cap) HC2 HE2 HS (by omega))
    clear hsm
    go_upto_region 8 with (go_at_call 12; (with_reducible refine HLA.out.mono ?_); rintro e3 w3 ⟨v3, rfl, ⟨pa, ca, S, rfl, ra, na⟩, hb3⟩; have HV3 := Lib.hid (And.intro ra (And.intro na hb3)); have HLB := Lib.hid (lbehind_c (cap := cap) (Lib.hid (HC2.out.stay hb3)) (Lib.hid (HE2.out.below hb3)) HS (by omega)); clear ra na hb3)
    go_upto_region 9 with (go_at_call 14; (with_reducible refine HLB.out.mono ?_); rintro e4 w4 ⟨v4, rfl, ⟨pb, cb, T, rfl, rb, nb⟩, hb4⟩; have hb24 := HV3.out.2.2.trans (hb4.mono HV3.out.2.2.size); have HV4 := Lib.hid (And.intro rb (And.intro nb hb4)); have HLR := Lib.hid (lranges_c (cap := cap) (Lib.hid (HC2.out.stay hb24)) (Lib.hid (HE2.out.below hb24)) HS (by omega)); have HB24 := Lib.hid hb24; clear rb nb hb4 hb24)
    go_upto_region 10 with (go_at_call 9; (with_reducible refine HLR.out.mono ?_); rintro e5 w5 ⟨v5, L, rfl, hi5, hr5, hl5, hb5⟩; obtain ⟨p5, c5, rfl, hrc5⟩ := hr5.open; have HV5 := Lib.hid (And.intro hi5 (And.intro hrc5 hb5)); have hll := hl5; clear hi5 hr5 hrc5 hb5)
    have h45 : Below w4.heap.size w4 w5 := HV5.out.2.2
    have h35 : Below w3.heap.size w3 w5 := HV4.out.2.2.trans (h45.mono HV4.out.2.2.size)
    have h25 : Below w2.heap.size w2 w5 := HB24.out.trans (h45.mono HB24.out.size)
    have HRA := Lib.hid (HV3.out.1.stay h35)
    have HNA : Hid (∀ i, i < c.length → ∃ l pl cl, S i = .slice pl l.length cl ∧ RV w5 pl l.length (ivl l) ∧ l.length ≤ 1000000 ∧ ∀ t, t ∈ l ↔ Nd c t i) := Lib.hid fun i hi => by
      obtain ⟨l, ⟨pl, cl, e, h1⟩, h2, -, h3⟩ := (HV3.out.2.1 i hi).stay h35
      exact ⟨l, pl, cl, e, h1, h2, h3⟩
    have HRB := Lib.hid (HV4.out.1.stay h45)
    have HNB : Hid (∀ i, i < c.length → ∃ l pl cl, T i = .slice pl l.length cl ∧ RV w5 pl l.length (ivl l) ∧ l.length ≤ 1000000 ∧ ∀ t, t ∈ l ↔ Bh c t i) := Lib.hid fun i hi => by
      obtain ⟨l, ⟨pl, cl, e, h1⟩, h2, -, h3⟩ := (HV4.out.2.1 i hi).stay h45
      exact ⟨l, pl, cl, e, h1, h2, h3⟩
    have HRR := Lib.hid HV5.out.2.1
    have HIR := Lib.hid HV5.out.1
    have HC5 := Lib.hid (HC2.out.stay h25)
    have HE5 : Hid (Below W.heap.size W w5) := Lib.hid (H2.out.trans (h25.mono H2.out.size))
    clear h45 h35 h25
    clear HV3 HV4 HV5 HB24 HLA HLB HLR HSM HAW HB1 HB2 HC2 HE2 H2
    go_upto_region 11 with (fail)
    go_loopw [8] (fun a8 wr => ∃ i : Nat, a8 = .int .i64 i ∧ i ≤ c.length ∧ Hid (Below w5.heap.size w5 wr)) (fun a8 _ => c.length - (intOf a8).toNat)
    case atStart => exact ⟨0, rfl, Nat.zero_le _, Lib.hid (Below.refl _ _)⟩
    case round =>
      obtain ⟨wo, rfl⟩ : ∃ wo : World, wo = wr := ⟨_, rfl⟩
      obtain ⟨i, rfl, hi, HR⟩ := hrel
      by_cases hlt : i < c.length
      · obtain ⟨x, hx⟩ : ∃ x, c[i]? = some x := ⟨_, List.getElem?_eq_getElem hlt⟩
        obtain ⟨gc, oc, ep, hgc, hat7, -⟩ := (HC5.out.stay HR.out) i x hx
        have HX := Lib.hid hx
        have HA7 := Lib.hid (And.intro hgc hat7)
        have k0 := hat7.k
        have k1 := hat7.o
        have k2 := hat7.d
        have k3 := hat7.a
        have k4 := hat7.b
        have k5 := hat7.n
        have k6 := hat7.t
        have HNX : Hid (∀ w, Below w5.heap.size w5 w → Calls Tryd.prog 21 #[.slice p c.length cap, .int .i64 i] w fun e w' => ∃ v, e = .returned v ∧ GV 3 w.heap.size w' v (outs c i).length (lv (outs c i)) ∧ Below w.heap.size w w') := Lib.hid fun w hw => next_c (Lib.hid (HC5.out.stay hw)) (by omega) hlt
        subst ep
        clear hat7 hx
        have HUS : Hid (∀ w, Calls Tryd.prog 18 #[.agg #[.int .i64 x.k, .int .i64 x.o, .int .i64 x.d, .int .i64 x.a, .int .i64 x.b, .int .i64 x.n, .int .i64 x.t]] w (RowP w (usesM x))) := Lib.hid fun w => ruses_is x w
        have HDF : Hid (∀ w, Calls Tryd.prog 19 #[.agg #[.int .i64 x.k, .int .i64 x.o, .int .i64 x.d, .int .i64 x.a, .int .i64 x.b, .int .i64 x.n, .int .i64 x.t]] w fun e w' => e = .returned (.int .i64 (defM x)) ∧ Below w.heap.size w w') := Lib.hid fun w => rdef_any x w
        have hul := uses_len x
        obtain ⟨u, hu⟩ : ∃ u, usesM x = u := ⟨_, rfl⟩
        obtain ⟨dm, hdm⟩ : ∃ d, defM x = d := ⟨_, rfl⟩
        rw [hu] at HUS hul
        rw [hdm] at HDF
        have HU := Lib.hid hu
        have HDM := Lib.hid hdm
        clear hu hdm
        go_upto_region 14 with (go_at_call 18; (with_reducible refine (HUS.out _).mono ?_); rintro e6 w6 ⟨v6, rfl, hr6, hb6⟩; obtain ⟨q6, c6, rfl, hv6, -⟩ := GV.rv hr6.gv; have HV6 : Hid (RV w6 q6 u.length (ivl u)) := Lib.hid hv6; have HB6 := Lib.hid hb6; clear hr6 hb6 hv6)
        have h7 := HA7.out.2.stay HA7.out.1 HB6.out
        clear k0 k1 k2 k3 k4 k5 k6
        have k0 := h7.k
        have k1 := h7.o
        have k2 := h7.d
        have k3 := h7.a
        have k4 := h7.b
        have k5 := h7.n
        have k6 := h7.t
        have hgc2 := Nat.lt_of_lt_of_le HA7.out.1 HB6.out.size
        clear h7
        go_upto_region 15 with (go_at_call 19; (with_reducible refine (HDF.out _).mono ?_); rintro e7 w7 ⟨rfl, hb7⟩; have HU7 := Lib.hid (HV6.out.stay hb7); have H57 := Lib.hid (HR.out.trans ((HB6.out.trans (hb7.mono HB6.out.size)).mono HR.out.size)); clear hb7)
        clear k0 k1 k2 k3 k4 k5 k6 hgc2
        obtain ⟨la, pla, cla, ela, hla, hla1, hlam⟩ := HNA.out i hlt
        obtain ⟨lb, plb, clb, elb, hlb, hlb1, hlbm⟩ := HNB.out i hlt
        have HLA := Lib.hid (And.intro (hla.stay H57.out) hlam)
        have HLB := Lib.hid (And.intro (hlb.stay H57.out) hlbm)
        obtain ⟨ga, oa, rfl, hga, ia⟩ := (HRA.out.stay H57.out) i hlt
        obtain ⟨gb, ob, rfl, hgb, ib⟩ := (HRB.out.stay H57.out) i hlt
        rw [ela] at ia
        rw [elb] at ib
        have HGA := Lib.hid (And.intro hga ia)
        have HGB := Lib.hid (And.intro hgb ib)
        clear hla hlb hlam hlbm ela elb hga hgb ia ib HA7 HV6 HB6 HUS HDF
        have HUN : Hid (∀ t, t ∈ u → t ∈ la) := Lib.hid fun t ht => (HLA.out.2 t).2 (.use HX.out (by rw [HU.out]; exact ht))
        have HAS : Hid (∀ (X : World) (b : Bool) (z : Int), Below w7.heap.size w7 X → decide (z ∈ la) = b → Calls Tryd.prog 20 #[.slice pla la.length cla, .int .i64 z] X fun e w' => e = .returned (.bool b) ∧ w' = X) := Lib.hid fun X b z hX hb => hb ▸ lhas_q (Lib.hid (HLA.out.1.stay hX)) hla1 z
        have HBS : Hid (∀ (X : World) (b : Bool) (z : Int), Below w7.heap.size w7 X → decide (z ∈ lb) = b → Calls Tryd.prog 20 #[.slice plb lb.length clb, .int .i64 z] X fun e w' => e = .returned (.bool b) ∧ w' = X) := Lib.hid fun X b z hX hb => hb ▸ lhas_q (Lib.hid (HLB.out.1.stay hX)) hlb1 z
        have HUSH : Hid (∀ (X : World) (b : Bool) (z : Int), Below w7.heap.size w7 X → decide (z ∈ u) = b → Calls Tryd.prog 20 #[.slice q6 u.length c6, .int .i64 z] X fun e w' => e = .returned (.bool b) ∧ w' = X) := Lib.hid fun X b z hX hb => hb ▸ lhas_q (Lib.hid (HU7.out.stay hX)) (by omega) z
        go_upto_region 16 with (fail)
        go_loopw [11] (fun a11 wr => ∃ k : Nat, a11 = .int .i64 k ∧ k ≤ u.length ∧ Hid (Below w7.heap.size w7 wr)) (fun a11 _ => u.length - (intOf a11).toNat)
        case atStart => exact ⟨0, rfl, Nat.zero_le _, Lib.hid (Below.refl _ _)⟩
        case round =>
          obtain ⟨w8, rfl⟩ : ∃ wo : World, wo = wr := ⟨_, rfl⟩
          obtain ⟨k, rfl, hk, HK⟩ := hrel
          by_cases hku : k < u.length
          · obtain ⟨gu, ou, rfl, hgu, iu⟩ := (HU7.out.stay HK.out) k hku
            simp only [ivl] at iu
            have hin := ivl_in hku
            obtain ⟨z, hz⟩ : ∃ z, u.getD k 0 = z := ⟨_, rfl⟩
            rw [hz] at iu hin
            have HQ : Hid (∀ n, Calls Tryd.prog 20 #[.slice pla la.length cla, .int .i64 z] (w8.drewN n) fun e w' => e = .returned (.bool true) ∧ w' = w8.drewN n) := Lib.hid fun n => HAS.out _ true z (below_like HK.out rfl rfl rfl rfl) (decide_eq_true (HUN.out z hin))
            have ia := (HK.out.cell (p := ⟨ga, oa + i, none⟩) HGA.out.1).trans HGA.out.2
            clear hz hin
            go_wp2
            go_quiet ((go_at_call 20; exact Calls.quiet_of_same (HQ.out _)))
            go_wp2
            go_roundw
            case rel => exact ⟨k + 1, by go_num, by omega, Lib.hid (below_like HK.out rfl rfl rfl rfl)⟩
            case measure => (simp [intOf]; try omega)
          · obtain rfl : k = u.length := by omega
            go_upto_region 21 with (fail)
            go_loopw [12] (fun a12 wr => ∃ k : Nat, a12 = .int .i64 k ∧ k ≤ la.length ∧ Hid (Below w7.heap.size w7 wr)) (fun a12 _ => la.length - (intOf a12).toNat)
            case atStart => exact ⟨0, rfl, Nat.zero_le _, HK⟩
            case round =>
              obtain ⟨w9, rfl⟩ : ∃ wo : World, wo = wr := ⟨_, rfl⟩
              obtain ⟨k, rfl, hk, HK9⟩ := hrel
              have ia := (HK9.out.cell (p := ⟨ga, oa + i, none⟩) HGA.out.1).trans HGA.out.2
              by_cases hka : k < la.length
              · obtain ⟨gl, ol, rfl, hgl, il⟩ := (HLA.out.1.stay HK9.out) k hka
                simp only [ivl] at il
                have hin := ivl_in hka
                obtain ⟨z, hz⟩ : ∃ z, la.getD k 0 = z := ⟨_, rfl⟩
                rw [hz] at il hin
                have HND : Hid (Nd c z i) := Lib.hid ((HLA.out.2 z).1 hin)
                clear hz hin
                go_upto_region 26 with (fail)
                clear il
                go_loopw [14, 15] (fun a14 a15 wr => ∃ (tb : Bool) (j : Nat), a14 = .bool tb ∧ a15 = .int .i64 j ∧ j ≤ L.length ∧ Hid ((tb = true ↔ InR L z i j) ∧ Below w7.heap.size w7 wr)) (fun _ a15 _ => L.length - (intOf a15).toNat)
                case atStart => exact ⟨false, 0, rfl, rfl, Nat.zero_le _, Lib.hid ⟨⟨fun h => (by cases h), fun ⟨_, _, h, _⟩ => absurd h (Nat.not_lt_zero _)⟩, below_like HK9.out rfl rfl rfl rfl⟩⟩
                case round =>
                  obtain ⟨w10, rfl⟩ : ∃ wo : World, wo = wr := ⟨_, rfl⟩
                  obtain ⟨tb, j, rfl, rfl, hj, HJ⟩ := hrel
                  by_cases hjL : j < L.length
                  · obtain ⟨y, hy⟩ : ∃ y, L[j]? = some y := ⟨_, List.getElem?_eq_getElem hjL⟩
                    obtain ⟨g5, rfl, hg5, -, b0, b1, b2⟩ := HRR.out j y hy
                    have h5w : Below w5.heap.size w5 w10 := H57.out.trans (HJ.out.2.mono H57.out.size)
                    have b0 := (h5w.cell (p := ⟨g5, j * 3, none⟩) hg5).trans b0
                    have b1 := (h5w.cell (p := ⟨g5, j * 3 + 1, none⟩) hg5).trans b1
                    have b2 := (h5w.cell (p := ⟨g5, j * 3 + 2, none⟩) hg5).trans b2
                    have HSU := Lib.hid (InR.succ (n := z) (i := i) hy)
                    clear h5w hy ia
                    cases tb with
                    | true =>
                      clear b0 b1 b2
                      go_wp2
                      go_roundw
                      case rel => exact ⟨true, j + 1, rfl, by go_num, by omega, Lib.hid ⟨⟨fun _ => HSU.out.2 (.inl (HJ.out.1.1 rfl)), fun _ => rfl⟩, below_like HJ.out.2 rfl rfl rfl rfl⟩⟩
                      case measure => (simp [intOf]; try omega)
                    | false =>
                      have HNO : Hid (¬ InR L z i j) := Lib.hid fun h => by have := HJ.out.1.2 h; cases this
                      by_cases h0 : y.1 = z
                      · have he0 : (y.1 == z) = true := by simp [h0]
                        by_cases h1 : y.2.1 ≤ i
                        · by_cases h2 : i ≤ y.2.2
                          · go_wp2
                            go_roundw
                            case rel => exact ⟨true, j + 1, rfl, by go_num, by omega, Lib.hid ⟨⟨fun _ => HSU.out.2 (.inr ⟨h0, h1, h2⟩), fun _ => rfl⟩, below_like HJ.out.2 rfl rfl rfl rfl⟩⟩
                            case measure => (simp [intOf]; try omega)
                          · go_wp2
                            go_roundw
                            case rel => exact ⟨false, j + 1, rfl, by go_num, by omega, Lib.hid ⟨⟨fun h => (by cases h), fun h => ((HSU.out.1 h).elim HNO.out fun h => h2 h.2.2).elim⟩, below_like HJ.out.2 rfl rfl rfl rfl⟩⟩
                            case measure => (simp [intOf]; try omega)
                        · clear b2
                          go_wp2
                          go_roundw
                          case rel => exact ⟨false, j + 1, rfl, by go_num, by omega, Lib.hid ⟨⟨fun h => (by cases h), fun h => ((HSU.out.1 h).elim HNO.out fun h => h1 h.2.1).elim⟩, below_like HJ.out.2 rfl rfl rfl rfl⟩⟩
                          case measure => (simp [intOf]; try omega)
                      · have he0 : (y.1 == z) = false := by simp [h0]
                        clear b1 b2
                        go_wp2
                        go_roundw
                        case rel => exact ⟨false, j + 1, rfl, by go_num, by omega, Lib.hid ⟨⟨fun h => (by cases h), fun h => ((HSU.out.1 h).elim HNO.out fun h => h0 h.1).elim⟩, below_like HJ.out.2 rfl rfl rfl rfl⟩⟩
                        case measure => (simp [intOf]; try omega)
                  · obtain rfl : j = L.length := by omega
                    obtain rfl : tb = true := HJ.out.1.2 (InR.all HIR.out HND.out)
                    have ib := (HJ.out.2.cell (p := ⟨gb, ob + i, none⟩) HGB.out.1).trans HGB.out.2
                    clear ia
                    obtain ⟨d1, hd1⟩ : ∃ d, decide (z ∈ u) = d := ⟨_, rfl⟩
                    cases d1 with
                    | true =>
                      clear ib
                      have HQ1 := Lib.hid (HUSH.out w10 true z HJ.out.2 hd1)
                      clear hd1
                      go_wp2_with (go_at_call 20; (with_reducible refine HQ1.out.mono ?_); rintro e11 w11 ⟨rfl, rfl⟩)
                      go_roundw
                      case rel => exact ⟨k + 1, by go_num, by omega, Lib.hid (below_like HJ.out.2 rfl rfl rfl rfl)⟩
                      case measure => (simp [intOf]; try omega)
                    | false =>
                      have hnu : z ∉ usesM x := by rw [HU.out]; exact of_decide_eq_false hd1
                      obtain ⟨hB, hD⟩ := flow1 HX.out HND.out hnu
                      rw [HDM.out] at hD
                      have he1 : (dm == z) = false := by simp [hD]
                      have HQ1 := Lib.hid (HUSH.out w10 false z HJ.out.2 hd1)
                      have HQ2 := Lib.hid (HBS.out w10 true z HJ.out.2 (decide_eq_true ((HLB.out.2 z).2 hB)))
                      clear hd1 hnu hB
                      go_wp2_with (first
                        | (go_at_call 20; (with_reducible refine HQ1.out.mono ?_); rintro e11 w11 ⟨rfl, rfl⟩)
                        | (go_at_call 20; (with_reducible refine HQ2.out.mono ?_); rintro e12 w12 ⟨rfl, rfl⟩))
                      go_roundw
                      case rel => exact ⟨k + 1, by go_num, by omega, Lib.hid (below_like HJ.out.2 rfl rfl rfl rfl)⟩
                      case measure => (simp [intOf]; try omega)
              · obtain rfl : k = la.length := by omega
                go_upto_region 32 with (go_at_call 21; (with_reducible refine (HNX.out _ (H57.out.trans (HK9.out.mono H57.out.size))).mono ?_); rintro e10 w10 ⟨v10, rfl, hv10, hb10⟩; have HGN := Lib.hid hv10; obtain ⟨q10, c10, rfl, hr10, -⟩ := GV.rv hv10; have HN10 := Lib.hid hr10; have H710 := Lib.hid (HK9.out.trans (hb10.mono HK9.out.size)); clear hv10 hb10 hr10)
                clear ia HNX HGN
                obtain ⟨O, hO⟩ : ∃ O, outs c i = O := ⟨_, rfl⟩
                have HO := Lib.hid hO
                have hOl : O.length ≤ 2 := hO ▸ outs_len c i
                simp only [hO] at HN10 ⊢
                clear hO
                go_upto_region 33 with (fail)
                go_loopw [17] (fun a17 wr => ∃ k : Nat, a17 = .int .i64 k ∧ k ≤ lb.length ∧ Hid (Below w10.heap.size w10 wr)) (fun a17 _ => lb.length - (intOf a17).toNat)
                case atStart => exact ⟨0, rfl, Nat.zero_le _, Lib.hid (Below.refl _ _)⟩
                case round =>
                  obtain ⟨w11, rfl⟩ : ∃ wo : World, wo = wr := ⟨_, rfl⟩
                  obtain ⟨k, rfl, hk, HK11⟩ := hrel
                  have H711 : Hid (Below w7.heap.size w7 w11) := Lib.hid (H710.out.trans (HK11.out.mono H710.out.size))
                  have ib := (H711.out.cell (p := ⟨gb, ob + i, none⟩) HGB.out.1).trans HGB.out.2
                  by_cases hkb : k < lb.length
                  · obtain ⟨gl, ol, rfl, hgl, il⟩ := (HLB.out.1.stay H711.out) k hkb
                    simp only [ivl] at il
                    have hin := ivl_in hkb
                    obtain ⟨z, hz⟩ : ∃ z, lb.getD k 0 = z := ⟨_, rfl⟩
                    rw [hz] at il hin
                    have HBH : Hid (Bh c z i) := Lib.hid ((HLB.out.2 z).1 hin)
                    clear hz hin
                    go_upto_region 38 with (fail)
                    clear il
                    go_loopw [19, 20] (fun a19 a20 wr => ∃ (tb : Bool) (j : Nat), a19 = .bool tb ∧ a20 = .int .i64 j ∧ j ≤ O.length ∧ Hid ((tb = true ↔ Bk c z O j) ∧ Below w10.heap.size w10 wr)) (fun _ a20 _ => O.length - (intOf a20).toNat)
                    case atStart => exact ⟨false, 0, rfl, rfl, Nat.zero_le _, Lib.hid ⟨⟨fun h => (by cases h), fun h => absurd h Bk.zero⟩, below_like HK11.out rfl rfl rfl rfl⟩⟩
                    case round =>
                      obtain ⟨w12, rfl⟩ : ∃ wo : World, wo = wr := ⟨_, rfl⟩
                      obtain ⟨tb, j, rfl, rfl, hj, HJ⟩ := hrel
                      have H712 : Hid (Below w7.heap.size w7 w12) := Lib.hid (H710.out.trans (HJ.out.2.mono H710.out.size))
                      clear ib
                      by_cases hjO : j < O.length
                      · obtain ⟨y, hy⟩ : ∃ y, O[j]? = some y := ⟨_, List.getElem?_eq_getElem hjO⟩
                        have hyn : y < c.length := (outs_lt (c := c) (i := i) (by rw [HO.out]; exact List.mem_of_getElem? hy)).2
                        obtain ⟨gn, on, rfl, hgn, iO⟩ := (HN10.out.stay HJ.out.2) j hjO
                        have eO : lv O j = .int .i64 (y : Int) := by simp [lv, hy]
                        rw [eO] at iO
                        have HSU := Lib.hid (Bk.succ (c := c) (r := z) hy)
                        clear hy eO
                        obtain ⟨ly, ply, cly, ely, hly, hly1, hlym⟩ := HNA.out y hyn
                        have H512 : Hid (Below w5.heap.size w5 w12) := Lib.hid (H57.out.trans (H712.out.mono H57.out.size))
                        obtain ⟨ga', oa', e', hga', iy⟩ := (HRA.out.stay H512.out) y hyn
                        cases e'
                        rw [ely] at iy
                        have HLY := Lib.hid (And.intro (hly.stay H512.out) (hlym z))
                        clear hly hlym ely
                        cases tb with
                        | true =>
                          clear iO iy
                          go_wp2
                          go_roundw
                          case rel => exact ⟨true, j + 1, rfl, by go_num, by omega, Lib.hid ⟨⟨fun _ => HSU.out.2 (.inl (HJ.out.1.1 rfl)), fun _ => rfl⟩, below_like HJ.out.2 rfl rfl rfl rfl⟩⟩
                          case measure => (simp [intOf]; try omega)
                        | false =>
                          obtain ⟨tn, htn⟩ : ∃ t, decide (z ∈ ly) = t := ⟨_, rfl⟩
                          have HE : Hid (tn = true ↔ Bk c z O (j + 1)) := Lib.hid (by
                            rw [← htn, decide_eq_true_eq, HLY.out.2, HSU.out]
                            exact ⟨.inr, fun h => h.resolve_left fun h => by have := HJ.out.1.2 h; cases this⟩)
                          have HQ := Lib.hid (lhas_q (cp := cly) (Lib.hid HLY.out.1) hly1 z)
                          rw [htn] at HQ
                          clear htn
                          go_wp2_with (go_at_call 20; (with_reducible refine HQ.out.mono ?_); rintro e13 w13 ⟨rfl, rfl⟩)
                          go_roundw
                          case rel => exact ⟨tn, j + 1, rfl, by go_num, by omega, Lib.hid ⟨HE.out, below_like HJ.out.2 rfl rfl rfl rfl⟩⟩
                          case measure => (simp [intOf]; try omega)
                      · obtain rfl : j = O.length := by omega
                        obtain rfl : tb = true := HJ.out.1.2 (by rw [← HO.out]; exact Bk.all.2 HBH.out)
                        have ia := (H712.out.cell (p := ⟨ga, oa + i, none⟩) HGA.out.1).trans HGA.out.2
                        by_cases hzd : z = dm
                        · have he1 : (z == dm) = true := by simp [hzd]
                          clear ia
                          go_wp2
                          go_roundw
                          case rel => exact ⟨k + 1, by go_num, by omega, Lib.hid (below_like HJ.out.2 rfl rfl rfl rfl)⟩
                          case measure => (simp [intOf]; try omega)
                        · have he1 : (z == dm) = false := by simp [hzd]
                          have HQ := Lib.hid (HAS.out w12 true z H712.out (decide_eq_true ((HLA.out.2 z).2 (flow2 HX.out HBH.out (by rw [HDM.out]; exact hzd)))))
                          go_wp2_with (go_at_call 20; (with_reducible refine HQ.out.mono ?_); rintro e13 w13 ⟨rfl, rfl⟩)
                          go_roundw
                          case rel => exact ⟨k + 1, by go_num, by omega, Lib.hid (below_like HJ.out.2 rfl rfl rfl rfl)⟩
                          case measure => (simp [intOf]; try omega)
                  · obtain rfl : k = lb.length := by omega
                    have H511 : Hid (Below w5.heap.size w5 w11) := Lib.hid (H57.out.trans (H711.out.mono H57.out.size))
                    go_wp2
                    go_roundw
                    case rel => exact ⟨i + 1, by go_num, by omega, Lib.hid (below_like H511.out rfl rfl rfl rfl)⟩
                    case measure => (simp [intOf]; try omega)
      · obtain rfl : i = c.length := by omega
        go_wp2
        go_ret
        exact ⟨rfl, HE5.out.trans (HR.out.mono HE5.out.size)⟩
end Go.Proofs.YthodpkcjdbkdnaaDoor
