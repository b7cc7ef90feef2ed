/- Lemmas for the laws of live (Lmq Lmw): each says its own conditions. -/
import Derived.Test.YthodpkcjdbkdnaaDoorJ07
import Derived.Test.YthodpkcjdbkdnaaDoorJ03
set_option linter.unusedSimpArgs false
set_option linter.unusedVariables false
namespace Go.Proofs.YthodpkcjdbkdnaaDoor
open Go Go.RowKit Gm

theorem up_sub_len : ∀ (k l : List Int), l.Pairwise (· < ·) → k.Pairwise (· < ·) → (∀ t, t ∈ l → t ∈ k) → l.length ≤ k.length
  | _, [], _, _, _ => Nat.zero_le _
  | [], a :: l, _, _, h => absurd (h a (by simp)) (by simp)
  | b :: k, a :: l, hl, hk, h => by
    obtain ⟨a1, a2⟩ := List.pairwise_cons.1 hl
    obtain ⟨b1, b2⟩ := List.pairwise_cons.1 hk
    by_cases e : a = b
    · subst e
      have := up_sub_len k l a2 b2 fun t ht => by
        rcases List.mem_cons.1 (h t (by simp [ht])) with e | e
        · have := a1 t ht; omega
        · exact e
      simp only [List.length_cons]
      omega
    · have hb : b < a := by
        rcases List.mem_cons.1 (h a (by simp)) with e2 | e2
        · exact absurd e2 e
        · exact b1 a e2
      have := up_sub_len k (a :: l) hl b2 fun t ht => by
        rcases List.mem_cons.1 (h t ht) with e2 | e2
        · rcases List.mem_cons.1 ht with e3 | e3
          · omega
          · have := a1 t e3; omega
        · exact e2
      simp only [List.length_cons] at this ⊢
      omega
/-- How many of the first ranges hold a place. -/
def cntR (L : List Rt) (i : Nat) : Nat := (L.filter fun x => decide (x.2.1 ≤ i) && decide (i ≤ x.2.2)).length
theorem cntR_succ {L : List Rt} {k i : Nat} {x : Rt} (hx : L[k]? = some x) : cntR (L.take (k + 1)) i = cntR (L.take k) i + if x.2.1 ≤ i ∧ i ≤ x.2.2 then 1 else 0 := by
  unfold cntR
  rw [List.take_add_one, hx, List.filter_append, List.length_append]
  by_cases h : x.2.1 ≤ i ∧ i ≤ x.2.2
  · simp [h]
  · rw [if_neg h]
    have : (decide (x.2.1 ≤ i) && decide (i ≤ x.2.2)) = false := by
      simp
      omega
    simp [this]
theorem row_cnt {c : List Ic} {L : List Rt} {i : Nat} {l : List Int} (h : IsRng c L) (hl : IsRow (fun r => Nd c r i) l) : l.length ≤ cntR L i := by
  have h1 : ((L.filter fun x => decide (x.2.1 ≤ i) && decide (i ≤ x.2.2)).map (·.1)).Pairwise (· < ·) := h.up.sublist (List.filter_sublist.map _)
  have := up_sub_len _ l hl.1 h1 fun t ht => by
    have hn := (hl.2 t).1 ht
    obtain ⟨x, hx, rfl⟩ := List.mem_map.1 ((h.mem t).2 ⟨i, .inr hn⟩)
    have := (h.pl x hx).2.2 i (.inr hn)
    exact List.mem_map.2 ⟨x, List.mem_filter.2 ⟨hx, by simp [this.1, this.2]⟩, rfl⟩
  rwa [List.length_map] at this
/-- What the law asks of ranges themselves. -/
theorem rng_ok {c : List Ic} {L : List Rt} (h : IsRng c L) {k : Nat} {x : Rt} (hx : L[k]? = some x) : x.2.1 ≤ x.2.2 ∧ x.2.2 < c.length ∧ ∀ y, 0 < k → L[k - 1]? = some y → y.1 < x.1 := by
  have hm := List.mem_of_getElem? hx
  obtain ⟨a, b, d⟩ := h.pl x hm
  refine ⟨(d _ a).2, pl_lt b, fun y hk hy => ?_⟩
  have h1 := h.up
  rw [List.pairwise_map] at h1
  have i1 := (List.getElem?_eq_some_iff.1 hx)
  have i2 := (List.getElem?_eq_some_iff.1 hy)
  have := (List.pairwise_iff_getElem.1 h1) (k - 1) k i2.1 i1.1 (by omega)
  rw [i1.2, i2.2] at this
  exact this
end Go.Proofs.YthodpkcjdbkdnaaDoor
namespace Go.Proofs.YthodpkcjdbkdnaaDoor
open Go Go.RowKit Gm

/-- One of the first rows has so many. -/
def Any (c : List Ic) (m i : Nat) : Prop := m = 0 ∨ ∃ j l, j < i ∧ IsRow (fun r => Nd c r j) l ∧ l.length = m
theorem Any.succ {c : List Ic} {m i : Nat} {l : List Int} (hl : IsRow (fun r => Nd c r i) l) : Any c m (i + 1) ↔ Any c m i ∨ l.length = m := by
  constructor
  · rintro (h | ⟨j, k, h1, h2, h3⟩)
    · exact .inl (.inl h)
    · by_cases e : j = i
      · subst e; rw [hl.one h2]; exact .inr h3
      · exact .inl (.inr ⟨j, k, by omega, h2, h3⟩)
  · rintro ((h | ⟨j, k, h1, h2⟩) | h)
    · exact .inl h
    · exact .inr ⟨j, k, by omega, h2⟩
    · exact .inr ⟨i, l, by omega, hl, h⟩
set_option maxRecDepth 100000 in
set_option maxHeartbeats 4000000 in
theorem mostw_c {W : World} {p : Option Addr} {cap : Nat} {c : List Ic} (hc : Hid (CodeAt W p c)) (E : Hid (En W)) (hn : c.length ≤ 9223372036854775807) : Calls Tryd.prog 6 #[.slice p c.length cap] W (TrueP W) := by
  have HAW := Lib.hid (awake_c E)
  go_enter Tryd.func6, Tryd.ntmps6
  go_upto_region 4 with (go_at_call 7; (with_reducible refine HAW.out.mono ?_); rintro e1 w1 ⟨rfl, hb1⟩; have HB1 := Lib.hid hb1; have HSM := Lib.hid (small_c (cap := cap) (Lib.hid (hc.out.stay hb1)) hn); clear hb1)
  go_upto_region 5 with (go_at_call 8; (with_reducible refine HSM.out.mono ?_); rintro e2 w2 ⟨bb, rfl, hbb, hb2⟩; have HB2 := Lib.hid (And.intro hbb hb2); clear hbb hb2)
  have h2 : Below W.heap.size W w2 := HB1.out.trans (HB2.out.2.mono HB1.out.size)
  have H2 := Lib.hid h2
  have HC2 := Lib.hid (hc.out.stay h2)
  have HE2 := Lib.hid (E.out.below h2)
  clear h2
  cases bb with
  | false =>
    go_wp2
    go_ret
    exact ⟨rfl, H2.out⟩
  | true =>
    obtain ⟨hsm, h30⟩ := HB2.out.1 rfl
    have HS := Lib.hid hsm
    have HLA := Lib.hid (lahead_c (cap := cap) HC2 HE2 HS (by omega))
    clear hsm
    go_upto_region 8 with (go_at_call 12; (with_reducible refine HLA.out.mono ?_); rintro e3 w3 ⟨v3, rfl, ⟨pa, ca, S, rfl, ra, na⟩, hb3⟩; have HV3 := Lib.hid (And.intro ra (And.intro na hb3)); have HLR := Lib.hid (lranges_c (cap := cap) (Lib.hid (HC2.out.stay hb3)) (Lib.hid (HE2.out.below hb3)) HS (by omega)); clear ra na hb3)
    go_upto_region 9 with (go_at_call 9; (with_reducible refine HLR.out.mono ?_); rintro e4 w4 ⟨v4, L, rfl, hi4, hr4, hl4, hb4⟩; obtain ⟨p4, c4, rfl, hrc4⟩ := hr4.open; have hb24 := HV3.out.2.2.trans (hb4.mono HV3.out.2.2.size); have HV4 := Lib.hid (And.intro hi4 (And.intro hrc4 hb4)); have HLM := Lib.hid (lmost_c (cap := cap) (Lib.hid (HC2.out.stay hb24)) (Lib.hid (HE2.out.below hb24)) HS (by omega)); have HB24 := Lib.hid hb24; clear hi4 hr4 hrc4 hb4 hb24)
    go_upto_region 10 with (go_at_call 16; (with_reducible refine HLM.out.mono ?_); rintro e5 w5 ⟨m, rfl, hm, hb5⟩; have HV5 := Lib.hid (And.intro hm hb5); clear hm hb5)
    have HRW : Hid (∀ i, i < c.length → ∃ l pl cl, S i = .slice pl l.length cl ∧ IsRow (fun r => Nd c r i) l) := Lib.hid fun i hi => by
      obtain ⟨l, ⟨pl, cl, e, -⟩, -, hu, hm⟩ := HV3.out.2.1 i hi
      exact ⟨l, pl, cl, e, hu, hm⟩
    have h45 : Below w4.heap.size w4 w5 := HV5.out.2
    have h35 : Below w3.heap.size w3 w5 := HV4.out.2.2.trans (h45.mono HV4.out.2.2.size)
    have HRA := Lib.hid (HV3.out.1.stay h35)
    have H45 := Lib.hid h45
    have HE5 : Hid (Below W.heap.size W w5) := Lib.hid (H2.out.trans ((HB24.out.trans (h45.mono HB24.out.size)).mono H2.out.size))
    have hmb : m ≤ 64 := by
      rcases HV5.out.1.2 with h | ⟨j, l, -, hl, e⟩
      · omega
      · have := up_len64 hl.1 fun r hr => rg_sm HS.out ((hl.2 r).1 hr).rg
        omega
    clear h35 h45
    go_upto_region 12 with (fail)
    go_loopw [8, 9] (fun a8 a9 wr => ∃ (i : Nat) (ab : Bool), a8 = .bool ab ∧ a9 = .int .i64 i ∧ i ≤ c.length ∧ (ab = true ↔ Any c m i) ∧ Hid (Below w5.heap.size w5 wr)) (fun _ a9 _ => c.length - (intOf a9).toNat)
    case atStart => exact ⟨0, _, rfl, rfl, Nat.zero_le _, by unfold Any; simp, Lib.hid (Below.refl _ _)⟩
    case round =>
      obtain ⟨wo, rfl⟩ : ∃ wo : World, wo = wr := ⟨_, rfl⟩
      obtain ⟨i, ab, rfl, rfl, hi, hab, HR⟩ := hrel
      by_cases hlt : i < c.length
      · obtain ⟨l, pl, cl, el, hl⟩ := HRW.out i hlt
        obtain ⟨ga, oa, rfl, hga, ia⟩ := (HRA.out.stay HR.out) i hlt
        rw [el] at ia
        have hrow := row_cnt HV4.out.1 hl
        have hmx := HV5.out.1.1 i l hlt hl
        have HAB : Hid (Any c m (i + 1) ↔ Any c m i ∨ l.length = m) := Lib.hid (Any.succ hl)
        clear el hl
        go_wp2
        go_loopw [10, 11] (fun a10 a11 wr => ∃ k : Nat, a10 = .int .i64 (cntR (L.take k) i) ∧ a11 = .int .i64 k ∧ k ≤ L.length ∧ Hid (Below wo.heap.size wo wr)) (fun _ a11 _ => L.length - (intOf a11).toNat)
        case atStart => exact ⟨0, rfl, rfl, Nat.zero_le _, Lib.hid (Below.refl _ _)⟩
        case round =>
          obtain ⟨wi, rfl⟩ : ∃ wo : World, wo = wr := ⟨_, rfl⟩
          obtain ⟨k, rfl, rfl, hk, HK⟩ := hrel
          have h5i : Below w5.heap.size w5 wi := HR.out.trans (HK.out.mono HR.out.size)
          have h4i : Below w4.heap.size w4 wi := H45.out.trans (h5i.mono H45.out.size)
          by_cases hkl : k < L.length
          · obtain ⟨x, hx⟩ : ∃ x, L[k]? = some x := ⟨_, List.getElem?_eq_getElem hkl⟩
            obtain ⟨g4, rfl, hg4, -, b0, b1, b2⟩ := HV4.out.2.1 k x hx
            have b1 := (h4i.cell (p := ⟨g4, k * 3 + 1, none⟩) hg4).trans b1
            have b2 := (h4i.cell (p := ⟨g4, k * 3 + 2, none⟩) hg4).trans b2
            have HCN := Lib.hid (cntR_succ (i := i) hx)
            have hcb : cntR (L.take k) i ≤ 64 := Nat.le_trans (List.length_filter_le _ _) (by rw [List.length_take]; omega)
            clear b0 hx h5i h4i
            by_cases h1 : x.2.1 ≤ i
            · by_cases h3 : i ≤ x.2.2
              · go_wp2
                go_roundw
                case rel => exact ⟨k + 1, by rw [HCN.out, if_pos ⟨h1, h3⟩]; first | rfl | go_num, by go_num, by omega, HK⟩
                case measure => (simp [intOf]; try omega)
              · go_wp2
                go_roundw
                case rel => exact ⟨k + 1, by rw [HCN.out, if_neg fun h => h3 h.2]; rfl, by go_num, by omega, HK⟩
                case measure => (simp [intOf]; try omega)
            · go_wp2
              go_roundw
              case rel => exact ⟨k + 1, by rw [HCN.out, if_neg fun h => h1 h.1]; rfl, by go_num, by omega, HK⟩
              case measure => (simp [intOf]; try omega)
          · obtain rfl : k = L.length := by omega
            have ia5 := (HK.out.cell (p := ⟨ga, oa + i, none⟩) hga).trans ia
            rw [List.take_length]
            have hn1 : ¬ m < l.length := by omega
            have hn2 : ¬ cntR L i < l.length := by omega
            clear h5i h4i ia
            have HKW := Lib.hid (HR.out.trans (HK.out.mono HR.out.size))
            cases ab with
            | true =>
              go_wp2
              go_roundw
              case rel => exact ⟨i + 1, true, rfl, by go_num, by omega, ⟨fun _ => HAB.out.2 (.inl (hab.1 rfl)), fun _ => rfl⟩, HKW⟩
              case measure => (simp [intOf]; try omega)
            | false =>
              have hna : ¬ Any c m i := fun h => by have := hab.2 h; cases this
              by_cases he : l.length = m
              · go_wp2
                go_roundw
                case rel => exact ⟨i + 1, true, rfl, by go_num, by omega, ⟨fun _ => HAB.out.2 (.inr he), fun _ => rfl⟩, HKW⟩
                case measure => (simp [intOf]; try omega)
              · go_wp2
                go_roundw
                case rel => exact ⟨i + 1, false, congrArg Value.bool (by simp; omega), by go_num, by omega, ⟨fun h => (by cases h), fun h => absurd (HAB.out.1 h) (by rintro (h | h); exact hna h; exact he h)⟩, HKW⟩
                case measure => (simp [intOf]; try omega)
      · obtain rfl : i = c.length := by omega
        obtain rfl : ab = true := hab.2 HV5.out.1.2
        clear hab
        go_wp2
        go_loopw [12] (fun a wr => ∃ k : Nat, a = .int .i64 k ∧ k ≤ L.length ∧ Hid (Below w5.heap.size w5 wr)) (fun a _ => L.length - (intOf a).toNat)
        case atStart => exact ⟨0, rfl, Nat.zero_le _, HR⟩
        case round =>
          obtain ⟨wi, rfl⟩ : ∃ wo : World, wo = wr := ⟨_, rfl⟩
          obtain ⟨k, rfl, hk, HK⟩ := hrel
          have h4i : Below w4.heap.size w4 wi := H45.out.trans (HK.out.mono H45.out.size)
          by_cases hkl : k < L.length
          · obtain ⟨x, hx⟩ : ∃ x, L[k]? = some x := ⟨_, List.getElem?_eq_getElem hkl⟩
            obtain ⟨g4, rfl, hg4, -, b0, b1, b2⟩ := HV4.out.2.1 k x hx
            have b0 := (h4i.cell (p := ⟨g4, k * 3, none⟩) hg4).trans b0
            have b1 := (h4i.cell (p := ⟨g4, k * 3 + 1, none⟩) hg4).trans b1
            have b2 := (h4i.cell (p := ⟨g4, k * 3 + 2, none⟩) hg4).trans b2
            obtain ⟨o1, o2, o3⟩ := rng_ok HV4.out.1 hx
            have q0 : decide ((x.2.1 : Int) < 0) = false := by simp
            have q1 : decide (x.2.2 < x.2.1) = false := by simp; omega
            have q2 : decide (c.length ≤ x.2.2) = false := by simp; omega
            by_cases hk0 : k = 0
            · have q3 : decide (0 < k) = false := by simp [hk0]
              clear hx o3 h4i hk0
              go_upto_region 26 with (fail)
              go_quiet (fail)
              go_wp2
              go_roundw
              case rel => exact ⟨k + 1, by go_num, by omega, Lib.hid (below_like HK.out rfl rfl rfl rfl)⟩
              case measure => (simp [intOf]; try omega)
            · obtain ⟨y, hy⟩ : ∃ y, L[k - 1]? = some y := ⟨_, List.getElem?_eq_getElem (by omega)⟩
              obtain ⟨g4', e4, -, -, y0, -, -⟩ := HV4.out.2.1 (k - 1) y hy
              cases e4
              have y0 := (h4i.cell (p := ⟨g4, (k - 1) * 3, none⟩) hg4).trans y0
              have q3 : decide (x.1 ≤ y.1) = false := by have := o3 y (by omega) hy; simp; omega
              have q4 : decide (0 < k) = true := by simp; omega
              have q5 : ((k : Int) - 1) = ((k - 1 : Nat) : Int) := by omega
              clear hx hy o3 h4i
              go_upto_region 26 with (fail)
              go_quiet (fail)
              go_wp2
              go_roundw
              case rel => exact ⟨k + 1, by go_num, by omega, Lib.hid (below_like HK.out rfl rfl rfl rfl)⟩
              case measure => (simp [intOf]; try omega)
          · obtain rfl : k = L.length := by omega
            go_wp2
            go_ret
            exact ⟨rfl, HE5.out.trans (HK.out.mono HE5.out.size)⟩
end Go.Proofs.YthodpkcjdbkdnaaDoor
