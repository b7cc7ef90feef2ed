/- The document's own Show: zero, fence, take, give, out, trap, halt, no kind. -/
import Derived.Test.YtjjjdghkeogljaaDoorRsB
namespace Go.Proofs.YtjjjdghkeogljaaDoor
set_option linter.unusedSimpArgs false
set_option linter.unusedVariables false
open Go Go.RowKit Go.WideShapes

set_option maxRecDepth 100000 in
set_option maxHeartbeats 4000000 in
theorem rshow_7 (x : Ic) (w : World) (h : Hid (Ok6 x)) (hk : x.k = 7) : Calls Tryd.prog 16 #[.agg #[.int .i64 x.k, .int .i64 x.o, .int .i64 x.d, .int .i64 x.a, .int .i64 x.b, .int .i64 x.n, .int .i64 x.t]] w fun e w' => e = .returned (.string (showM x)) ∧ Below w.heap.size w w' := by
  obtain ⟨i0, i1, i2, i3, i4, i5, i6⟩ := h.out
  have sd := rt_size i2
  obtain ⟨Rd, hRd⟩ : ∃ t, ⟨#[32, 114]⟩ ++ dig x.d = t := ⟨_, rfl⟩
  rw [hRd] at sd
  have sa := rt_size i3
  obtain ⟨Ra, hRa⟩ : ∃ t, ⟨#[32, 114]⟩ ++ dig x.a = t := ⟨_, rfl⟩
  rw [hRa] at sa
  have sb := rt_size i4
  obtain ⟨Rb, hRb⟩ : ∃ t, ⟨#[32, 114]⟩ ++ dig x.b = t := ⟨_, rfl⟩
  rw [hRb] at sb
  have sn := (dig_size i5).1
  obtain ⟨Rn, hRn⟩ : ∃ t, dig x.n = t := ⟨_, rfl⟩
  rw [hRn] at sn
  have st := (dig_size i6).1
  obtain ⟨Rt, hRt⟩ : ∃ t, dig x.t = t := ⟨_, rfl⟩
  rw [hRt] at st
  have so : (oprT x.o).size ≤ 5 := opr_size x.o
  obtain ⟨G, hG⟩ : ∃ t, sgnZ x.o = t := ⟨_, rfl⟩
  obtain ⟨Ro, hRo⟩ : ∃ t, oprT x.o = t := ⟨_, rfl⟩
  have hog : (if G.toList.isEmpty then ⟨#[98, 101, 108, 111, 119]⟩ else G) = Ro := by rw [← hRo, ← hG]; rfl
  obtain ⟨At, hAt⟩ : ∃ t, atT x = t := ⟨_, rfl⟩
  have hat : (if x.a < 0 then ⟨#[]⟩ else Ra) = At := by rw [← hAt, ← hRa]; rfl
  have sA : At.size ≤ 22 := by
    rw [← hat]
    split
    · exact Nat.zero_le _
    · exact sa
  rw [hRo] at so
  have hsh := show_l7 hk h.out
  have HSH : Hid ((showM x).data.toList = _) := Lib.hid hsh
  clear hsh
  have q0 : (x.k == 0) = false := by simp; omega
  have q1 : (x.k == 1) = false := by simp; omega
  have q2 : (x.k == 2) = false := by simp; omega
  have q3 : (x.k == 3) = false := by simp; omega
  have q4 : (x.k == 4) = false := by simp; omega
  have q5 : (x.k == 5) = false := by simp; omega
  have q6 : (x.k == 6) = false := by simp; omega
  have q7 : (x.k == 7) = true := by simp; omega
  have HD := Lib.hid hRd
  have HA := Lib.hid hRa
  have HBb := Lib.hid hRb
  have HN := Lib.hid hRn
  have HT := Lib.hid hRt
  have HO := Lib.hid hRo
  have HG := Lib.hid hG
  have HOG := Lib.hid hog
  have HAt := Lib.hid hAt
  have HAT := Lib.hid hat
  have I2 := Lib.hid i2
  have I3 := Lib.hid i3
  have I4 := Lib.hid i4
  have I5 := Lib.hid i5
  have I6 := Lib.hid i6
  clear hRd hRa hRb hRn hRt hRo hG hog hAt hat i0 i1 i2 i3 i4 i5 i6 hk
  go_enter Tryd.func16, Tryd.ntmps16
  go_upto_if 17 with (first
    | (go_at_call 30; (with_reducible refine (rd_is HN.out I5 _).mono ?_); rintro e1 w1 ⟨rfl, rfl⟩)
    | (go_at_call 30; (with_reducible refine (rd_is HT.out I6 _).mono ?_); rintro e1 w1 ⟨rfl, rfl⟩))
  refine name_world ?_
  intro W1 hW1
  have HB1 : Hid (Below w.heap.size w W1) := Lib.hid (by rw [hW1]; exact below1 _ _)
  have HX1 : Hid (Ib W1 w.heap.size (.int .i64 x.k) (.int .i64 x.o) (.int .i64 x.d) (.int .i64 x.a) (.int .i64 x.b) (.int .i64 x.n) (.int .i64 x.t)) := Lib.hid (by rw [hW1]; exact Ib.new rfl _ _ _ _ _ _ _)
  clear hW1
  obtain ⟨bx, x0, x1, x2, x3, x4, x5, x6, -⟩ := HX1.out.facts
  go_cut [5] from 17 (fun t X => t = .string At ∧ X = W1)
  case first =>
    cases ha : decide (0 ≤ x.a)
    · have e : At = ⟨#[]⟩ := by
        rw [← HAT.out, if_pos (by simp at ha; omega)]
      go_wp2
      go_meet
      exact ⟨by rw [e], rfl⟩
    · have e : At = Ra := by
        rw [← HAT.out, if_neg (by simp at ha; omega)]
      have HE := Lib.hid e
      clear e
      go_wp2_with (go_at_call 31; (with_reducible refine (rr_is HA.out I3 _).mono ?_); rintro e1 w1 ⟨rfl, rfl⟩)
      go_meet
      exact ⟨by rw [HE.out], rfl⟩
  obtain ⟨rfl, rfl⟩ := hcut
  go_upto_if 25 with (go_at_call 32; (with_reducible refine (rs_is HG.out _).mono ?_); rintro e2 w2 ⟨rfl, hb2⟩; have HB2 := Lib.hid (below_ch HB1.out hb2); have HX2 := Lib.hid (HX1.out.stay hb2); clear hb2)
  obtain ⟨W2, hW2⟩ : ∃ z, z = w2 := ⟨_, rfl⟩
  rw [← hW2] at HB2 HX2 ⊢
  clear hW2 x0 x1 x2 x3 x4 x5 x6 bx
  obtain ⟨bx, x0, x1, x2, x3, x4, x5, x6, -⟩ := HX2.out.facts
  go_cut [6] from 25 (fun t X => t = .string Ro ∧ X = W2)
  case first =>
    cases hg : G.toList.isEmpty
    · have e : Ro = G := by rw [← HOG.out, hg]; rfl
      have HE := Lib.hid e
      clear e
      go_wp2
      go_meet
      exact ⟨by rw [HE.out], rfl⟩
    · have e : Ro = ⟨#[98, 101, 108, 111, 119]⟩ := by rw [← HOG.out, hg]; rfl
      have HE := Lib.hid e
      clear e
      go_wp2
      go_meet
      exact ⟨by rw [HE.out], rfl⟩
  obtain ⟨rfl, rfl⟩ := hcut
  go_wp2_with (first
    | (go_at_call 31; (with_reducible refine (rr_is HD.out I2 _).mono ?_); rintro e1 w1 ⟨rfl, rfl⟩)
    | (go_at_call 31; (with_reducible refine (rr_is HA.out I3 _).mono ?_); rintro e1 w1 ⟨rfl, rfl⟩)
    | (go_at_call 31; (with_reducible refine (rr_is HBb.out I4 _).mono ?_); rintro e1 w1 ⟨rfl, rfl⟩))
  go_ret
  refine ⟨ret_str (bytes_inj ?_), HB2.out⟩
  rw [HSH.out, ← HA.out, ← HT.out]
  simp [cat_list]
set_option maxRecDepth 100000 in
set_option maxHeartbeats 4000000 in
theorem rshow_8 (x : Ic) (w : World) (h : Hid (Ok6 x)) (hk : x.k = 8) : Calls Tryd.prog 16 #[.agg #[.int .i64 x.k, .int .i64 x.o, .int .i64 x.d, .int .i64 x.a, .int .i64 x.b, .int .i64 x.n, .int .i64 x.t]] w fun e w' => e = .returned (.string (showM x)) ∧ Below w.heap.size w w' := by
  obtain ⟨i0, i1, i2, i3, i4, i5, i6⟩ := h.out
  have sd := rt_size i2
  obtain ⟨Rd, hRd⟩ : ∃ t, ⟨#[32, 114]⟩ ++ dig x.d = t := ⟨_, rfl⟩
  rw [hRd] at sd
  have sa := rt_size i3
  obtain ⟨Ra, hRa⟩ : ∃ t, ⟨#[32, 114]⟩ ++ dig x.a = t := ⟨_, rfl⟩
  rw [hRa] at sa
  have sb := rt_size i4
  obtain ⟨Rb, hRb⟩ : ∃ t, ⟨#[32, 114]⟩ ++ dig x.b = t := ⟨_, rfl⟩
  rw [hRb] at sb
  have sn := (dig_size i5).1
  obtain ⟨Rn, hRn⟩ : ∃ t, dig x.n = t := ⟨_, rfl⟩
  rw [hRn] at sn
  have st := (dig_size i6).1
  obtain ⟨Rt, hRt⟩ : ∃ t, dig x.t = t := ⟨_, rfl⟩
  rw [hRt] at st
  have so : (oprT x.o).size ≤ 5 := opr_size x.o
  obtain ⟨G, hG⟩ : ∃ t, sgnZ x.o = t := ⟨_, rfl⟩
  obtain ⟨Ro, hRo⟩ : ∃ t, oprT x.o = t := ⟨_, rfl⟩
  have hog : (if G.toList.isEmpty then ⟨#[98, 101, 108, 111, 119]⟩ else G) = Ro := by rw [← hRo, ← hG]; rfl
  obtain ⟨At, hAt⟩ : ∃ t, atT x = t := ⟨_, rfl⟩
  have hat : (if x.a < 0 then ⟨#[]⟩ else Ra) = At := by rw [← hAt, ← hRa]; rfl
  have sA : At.size ≤ 22 := by
    rw [← hat]
    split
    · exact Nat.zero_le _
    · exact sa
  rw [hRo] at so
  have hsh := show_l8 hk h.out
  have HSH : Hid ((showM x).data.toList = _) := Lib.hid hsh
  clear hsh
  have q0 : (x.k == 0) = false := by simp; omega
  have q1 : (x.k == 1) = false := by simp; omega
  have q2 : (x.k == 2) = false := by simp; omega
  have q3 : (x.k == 3) = false := by simp; omega
  have q4 : (x.k == 4) = false := by simp; omega
  have q5 : (x.k == 5) = false := by simp; omega
  have q6 : (x.k == 6) = false := by simp; omega
  have q7 : (x.k == 7) = false := by simp; omega
  have q8 : (x.k == 8) = true := by simp; omega
  have HD := Lib.hid hRd
  have HA := Lib.hid hRa
  have HBb := Lib.hid hRb
  have HN := Lib.hid hRn
  have HT := Lib.hid hRt
  have HO := Lib.hid hRo
  have HG := Lib.hid hG
  have HOG := Lib.hid hog
  have HAt := Lib.hid hAt
  have HAT := Lib.hid hat
  have I2 := Lib.hid i2
  have I3 := Lib.hid i3
  have I4 := Lib.hid i4
  have I5 := Lib.hid i5
  have I6 := Lib.hid i6
  clear hRd hRa hRb hRn hRt hRo hG hog hAt hat i0 i1 i2 i3 i4 i5 i6 hk
  go_enter Tryd.func16, Tryd.ntmps16
  go_upto_if 17 with (first
    | (go_at_call 30; (with_reducible refine (rd_is HN.out I5 _).mono ?_); rintro e1 w1 ⟨rfl, rfl⟩)
    | (go_at_call 30; (with_reducible refine (rd_is HT.out I6 _).mono ?_); rintro e1 w1 ⟨rfl, rfl⟩))
  refine name_world ?_
  intro W1 hW1
  have HB1 : Hid (Below w.heap.size w W1) := Lib.hid (by rw [hW1]; exact below1 _ _)
  have HX1 : Hid (Ib W1 w.heap.size (.int .i64 x.k) (.int .i64 x.o) (.int .i64 x.d) (.int .i64 x.a) (.int .i64 x.b) (.int .i64 x.n) (.int .i64 x.t)) := Lib.hid (by rw [hW1]; exact Ib.new rfl _ _ _ _ _ _ _)
  clear hW1
  obtain ⟨bx, x0, x1, x2, x3, x4, x5, x6, -⟩ := HX1.out.facts
  go_cut [5] from 17 (fun t X => t = .string At ∧ X = W1)
  case first =>
    cases ha : decide (0 ≤ x.a)
    · have e : At = ⟨#[]⟩ := by
        rw [← HAT.out, if_pos (by simp at ha; omega)]
      go_wp2
      go_meet
      exact ⟨by rw [e], rfl⟩
    · have e : At = Ra := by
        rw [← HAT.out, if_neg (by simp at ha; omega)]
      have HE := Lib.hid e
      clear e
      go_wp2_with (go_at_call 31; (with_reducible refine (rr_is HA.out I3 _).mono ?_); rintro e1 w1 ⟨rfl, rfl⟩)
      go_meet
      exact ⟨by rw [HE.out], rfl⟩
  obtain ⟨rfl, rfl⟩ := hcut
  go_upto_if 25 with (go_at_call 32; (with_reducible refine (rs_is HG.out _).mono ?_); rintro e2 w2 ⟨rfl, hb2⟩; have HB2 := Lib.hid (below_ch HB1.out hb2); have HX2 := Lib.hid (HX1.out.stay hb2); clear hb2)
  obtain ⟨W2, hW2⟩ : ∃ z, z = w2 := ⟨_, rfl⟩
  rw [← hW2] at HB2 HX2 ⊢
  clear hW2 x0 x1 x2 x3 x4 x5 x6 bx
  obtain ⟨bx, x0, x1, x2, x3, x4, x5, x6, -⟩ := HX2.out.facts
  go_cut [6] from 25 (fun t X => t = .string Ro ∧ X = W2)
  case first =>
    cases hg : G.toList.isEmpty
    · have e : Ro = G := by rw [← HOG.out, hg]; rfl
      have HE := Lib.hid e
      clear e
      go_wp2
      go_meet
      exact ⟨by rw [HE.out], rfl⟩
    · have e : Ro = ⟨#[98, 101, 108, 111, 119]⟩ := by rw [← HOG.out, hg]; rfl
      have HE := Lib.hid e
      clear e
      go_wp2
      go_meet
      exact ⟨by rw [HE.out], rfl⟩
  obtain ⟨rfl, rfl⟩ := hcut
  go_wp2_with (first
    | (go_at_call 31; (with_reducible refine (rr_is HD.out I2 _).mono ?_); rintro e1 w1 ⟨rfl, rfl⟩)
    | (go_at_call 31; (with_reducible refine (rr_is HA.out I3 _).mono ?_); rintro e1 w1 ⟨rfl, rfl⟩)
    | (go_at_call 31; (with_reducible refine (rr_is HBb.out I4 _).mono ?_); rintro e1 w1 ⟨rfl, rfl⟩))
  go_ret
  refine ⟨ret_str (bytes_inj ?_), HB2.out⟩
  rw [HSH.out]
set_option maxRecDepth 100000 in
set_option maxHeartbeats 4000000 in
theorem rshow_9 (x : Ic) (w : World) (h : Hid (Ok6 x)) (hk : x.k = 9) : Calls Tryd.prog 16 #[.agg #[.int .i64 x.k, .int .i64 x.o, .int .i64 x.d, .int .i64 x.a, .int .i64 x.b, .int .i64 x.n, .int .i64 x.t]] w fun e w' => e = .returned (.string (showM x)) ∧ Below w.heap.size w w' := by
  obtain ⟨i0, i1, i2, i3, i4, i5, i6⟩ := h.out
  have sd := rt_size i2
  obtain ⟨Rd, hRd⟩ : ∃ t, ⟨#[32, 114]⟩ ++ dig x.d = t := ⟨_, rfl⟩
  rw [hRd] at sd
  have sa := rt_size i3
  obtain ⟨Ra, hRa⟩ : ∃ t, ⟨#[32, 114]⟩ ++ dig x.a = t := ⟨_, rfl⟩
  rw [hRa] at sa
  have sb := rt_size i4
  obtain ⟨Rb, hRb⟩ : ∃ t, ⟨#[32, 114]⟩ ++ dig x.b = t := ⟨_, rfl⟩
  rw [hRb] at sb
  have sn := (dig_size i5).1
  obtain ⟨Rn, hRn⟩ : ∃ t, dig x.n = t := ⟨_, rfl⟩
  rw [hRn] at sn
  have st := (dig_size i6).1
  obtain ⟨Rt, hRt⟩ : ∃ t, dig x.t = t := ⟨_, rfl⟩
  rw [hRt] at st
  have so : (oprT x.o).size ≤ 5 := opr_size x.o
  obtain ⟨G, hG⟩ : ∃ t, sgnZ x.o = t := ⟨_, rfl⟩
  obtain ⟨Ro, hRo⟩ : ∃ t, oprT x.o = t := ⟨_, rfl⟩
  have hog : (if G.toList.isEmpty then ⟨#[98, 101, 108, 111, 119]⟩ else G) = Ro := by rw [← hRo, ← hG]; rfl
  obtain ⟨At, hAt⟩ : ∃ t, atT x = t := ⟨_, rfl⟩
  have hat : (if x.a < 0 then ⟨#[]⟩ else Ra) = At := by rw [← hAt, ← hRa]; rfl
  have sA : At.size ≤ 22 := by
    rw [← hat]
    split
    · exact Nat.zero_le _
    · exact sa
  rw [hRo] at so
  have hsh := show_l9 hk h.out
  have HSH : Hid ((showM x).data.toList = _) := Lib.hid hsh
  clear hsh
  have q0 : (x.k == 0) = false := by simp; omega
  have q1 : (x.k == 1) = false := by simp; omega
  have q2 : (x.k == 2) = false := by simp; omega
  have q3 : (x.k == 3) = false := by simp; omega
  have q4 : (x.k == 4) = false := by simp; omega
  have q5 : (x.k == 5) = false := by simp; omega
  have q6 : (x.k == 6) = false := by simp; omega
  have q7 : (x.k == 7) = false := by simp; omega
  have q8 : (x.k == 8) = false := by simp; omega
  have q9 : (x.k == 9) = true := by simp; omega
  have HD := Lib.hid hRd
  have HA := Lib.hid hRa
  have HBb := Lib.hid hRb
  have HN := Lib.hid hRn
  have HT := Lib.hid hRt
  have HO := Lib.hid hRo
  have HG := Lib.hid hG
  have HOG := Lib.hid hog
  have HAt := Lib.hid hAt
  have HAT := Lib.hid hat
  have I2 := Lib.hid i2
  have I3 := Lib.hid i3
  have I4 := Lib.hid i4
  have I5 := Lib.hid i5
  have I6 := Lib.hid i6
  clear hRd hRa hRb hRn hRt hRo hG hog hAt hat i0 i1 i2 i3 i4 i5 i6 hk
  go_enter Tryd.func16, Tryd.ntmps16
  go_upto_if 17 with (first
    | (go_at_call 30; (with_reducible refine (rd_is HN.out I5 _).mono ?_); rintro e1 w1 ⟨rfl, rfl⟩)
    | (go_at_call 30; (with_reducible refine (rd_is HT.out I6 _).mono ?_); rintro e1 w1 ⟨rfl, rfl⟩))
  refine name_world ?_
  intro W1 hW1
  have HB1 : Hid (Below w.heap.size w W1) := Lib.hid (by rw [hW1]; exact below1 _ _)
  have HX1 : Hid (Ib W1 w.heap.size (.int .i64 x.k) (.int .i64 x.o) (.int .i64 x.d) (.int .i64 x.a) (.int .i64 x.b) (.int .i64 x.n) (.int .i64 x.t)) := Lib.hid (by rw [hW1]; exact Ib.new rfl _ _ _ _ _ _ _)
  clear hW1
  obtain ⟨bx, x0, x1, x2, x3, x4, x5, x6, -⟩ := HX1.out.facts
  go_cut [5] from 17 (fun t X => t = .string At ∧ X = W1)
  case first =>
    cases ha : decide (0 ≤ x.a)
    · have e : At = ⟨#[]⟩ := by
        rw [← HAT.out, if_pos (by simp at ha; omega)]
      go_wp2
      go_meet
      exact ⟨by rw [e], rfl⟩
    · have e : At = Ra := by
        rw [← HAT.out, if_neg (by simp at ha; omega)]
      have HE := Lib.hid e
      clear e
      go_wp2_with (go_at_call 31; (with_reducible refine (rr_is HA.out I3 _).mono ?_); rintro e1 w1 ⟨rfl, rfl⟩)
      go_meet
      exact ⟨by rw [HE.out], rfl⟩
  obtain ⟨rfl, rfl⟩ := hcut
  go_upto_if 25 with (go_at_call 32; (with_reducible refine (rs_is HG.out _).mono ?_); rintro e2 w2 ⟨rfl, hb2⟩; have HB2 := Lib.hid (below_ch HB1.out hb2); have HX2 := Lib.hid (HX1.out.stay hb2); clear hb2)
  obtain ⟨W2, hW2⟩ : ∃ z, z = w2 := ⟨_, rfl⟩
  rw [← hW2] at HB2 HX2 ⊢
  clear hW2 x0 x1 x2 x3 x4 x5 x6 bx
  obtain ⟨bx, x0, x1, x2, x3, x4, x5, x6, -⟩ := HX2.out.facts
  go_cut [6] from 25 (fun t X => t = .string Ro ∧ X = W2)
  case first =>
    cases hg : G.toList.isEmpty
    · have e : Ro = G := by rw [← HOG.out, hg]; rfl
      have HE := Lib.hid e
      clear e
      go_wp2
      go_meet
      exact ⟨by rw [HE.out], rfl⟩
    · have e : Ro = ⟨#[98, 101, 108, 111, 119]⟩ := by rw [← HOG.out, hg]; rfl
      have HE := Lib.hid e
      clear e
      go_wp2
      go_meet
      exact ⟨by rw [HE.out], rfl⟩
  obtain ⟨rfl, rfl⟩ := hcut
  go_wp2_with (first
    | (go_at_call 31; (with_reducible refine (rr_is HD.out I2 _).mono ?_); rintro e1 w1 ⟨rfl, rfl⟩)
    | (go_at_call 31; (with_reducible refine (rr_is HA.out I3 _).mono ?_); rintro e1 w1 ⟨rfl, rfl⟩)
    | (go_at_call 31; (with_reducible refine (rr_is HBb.out I4 _).mono ?_); rintro e1 w1 ⟨rfl, rfl⟩))
  go_ret
  refine ⟨ret_str (bytes_inj ?_), HB2.out⟩
  rw [HSH.out, ← HN.out]
  simp [cat_list]
set_option maxRecDepth 100000 in
set_option maxHeartbeats 4000000 in
theorem rshow_10 (x : Ic) (w : World) (h : Hid (Ok6 x)) (hk : x.k = 10) : Calls Tryd.prog 16 #[.agg #[.int .i64 x.k, .int .i64 x.o, .int .i64 x.d, .int .i64 x.a, .int .i64 x.b, .int .i64 x.n, .int .i64 x.t]] w fun e w' => e = .returned (.string (showM x)) ∧ Below w.heap.size w w' := by
  obtain ⟨i0, i1, i2, i3, i4, i5, i6⟩ := h.out
  have sd := rt_size i2
  obtain ⟨Rd, hRd⟩ : ∃ t, ⟨#[32, 114]⟩ ++ dig x.d = t := ⟨_, rfl⟩
  rw [hRd] at sd
  have sa := rt_size i3
  obtain ⟨Ra, hRa⟩ : ∃ t, ⟨#[32, 114]⟩ ++ dig x.a = t := ⟨_, rfl⟩
  rw [hRa] at sa
  have sb := rt_size i4
  obtain ⟨Rb, hRb⟩ : ∃ t, ⟨#[32, 114]⟩ ++ dig x.b = t := ⟨_, rfl⟩
  rw [hRb] at sb
  have sn := (dig_size i5).1
  obtain ⟨Rn, hRn⟩ : ∃ t, dig x.n = t := ⟨_, rfl⟩
  rw [hRn] at sn
  have st := (dig_size i6).1
  obtain ⟨Rt, hRt⟩ : ∃ t, dig x.t = t := ⟨_, rfl⟩
  rw [hRt] at st
  have so : (oprT x.o).size ≤ 5 := opr_size x.o
  obtain ⟨G, hG⟩ : ∃ t, sgnZ x.o = t := ⟨_, rfl⟩
  obtain ⟨Ro, hRo⟩ : ∃ t, oprT x.o = t := ⟨_, rfl⟩
  have hog : (if G.toList.isEmpty then ⟨#[98, 101, 108, 111, 119]⟩ else G) = Ro := by rw [← hRo, ← hG]; rfl
  obtain ⟨At, hAt⟩ : ∃ t, atT x = t := ⟨_, rfl⟩
  have hat : (if x.a < 0 then ⟨#[]⟩ else Ra) = At := by rw [← hAt, ← hRa]; rfl
  have sA : At.size ≤ 22 := by
    rw [← hat]
    split
    · exact Nat.zero_le _
    · exact sa
  rw [hRo] at so
  have hsh := show_l10 hk h.out
  have HSH : Hid ((showM x).data.toList = _) := Lib.hid hsh
  clear hsh
  have q0 : (x.k == 0) = false := by simp; omega
  have q1 : (x.k == 1) = false := by simp; omega
  have q2 : (x.k == 2) = false := by simp; omega
  have q3 : (x.k == 3) = false := by simp; omega
  have q4 : (x.k == 4) = false := by simp; omega
  have q5 : (x.k == 5) = false := by simp; omega
  have q6 : (x.k == 6) = false := by simp; omega
  have q7 : (x.k == 7) = false := by simp; omega
  have q8 : (x.k == 8) = false := by simp; omega
  have q9 : (x.k == 9) = false := by simp; omega
  have q10 : (x.k == 10) = true := by simp; omega
  have HD := Lib.hid hRd
  have HA := Lib.hid hRa
  have HBb := Lib.hid hRb
  have HN := Lib.hid hRn
  have HT := Lib.hid hRt
  have HO := Lib.hid hRo
  have HG := Lib.hid hG
  have HOG := Lib.hid hog
  have HAt := Lib.hid hAt
  have HAT := Lib.hid hat
  have I2 := Lib.hid i2
  have I3 := Lib.hid i3
  have I4 := Lib.hid i4
  have I5 := Lib.hid i5
  have I6 := Lib.hid i6
  clear hRd hRa hRb hRn hRt hRo hG hog hAt hat i0 i1 i2 i3 i4 i5 i6 hk
  go_enter Tryd.func16, Tryd.ntmps16
  go_upto_if 17 with (first
    | (go_at_call 30; (with_reducible refine (rd_is HN.out I5 _).mono ?_); rintro e1 w1 ⟨rfl, rfl⟩)
    | (go_at_call 30; (with_reducible refine (rd_is HT.out I6 _).mono ?_); rintro e1 w1 ⟨rfl, rfl⟩))
  refine name_world ?_
  intro W1 hW1
  have HB1 : Hid (Below w.heap.size w W1) := Lib.hid (by rw [hW1]; exact below1 _ _)
  have HX1 : Hid (Ib W1 w.heap.size (.int .i64 x.k) (.int .i64 x.o) (.int .i64 x.d) (.int .i64 x.a) (.int .i64 x.b) (.int .i64 x.n) (.int .i64 x.t)) := Lib.hid (by rw [hW1]; exact Ib.new rfl _ _ _ _ _ _ _)
  clear hW1
  obtain ⟨bx, x0, x1, x2, x3, x4, x5, x6, -⟩ := HX1.out.facts
  go_cut [5] from 17 (fun t X => t = .string At ∧ X = W1)
  case first =>
    cases ha : decide (0 ≤ x.a)
    · have e : At = ⟨#[]⟩ := by
        rw [← HAT.out, if_pos (by simp at ha; omega)]
      go_wp2
      go_meet
      exact ⟨by rw [e], rfl⟩
    · have e : At = Ra := by
        rw [← HAT.out, if_neg (by simp at ha; omega)]
      have HE := Lib.hid e
      clear e
      go_wp2_with (go_at_call 31; (with_reducible refine (rr_is HA.out I3 _).mono ?_); rintro e1 w1 ⟨rfl, rfl⟩)
      go_meet
      exact ⟨by rw [HE.out], rfl⟩
  obtain ⟨rfl, rfl⟩ := hcut
  go_upto_if 25 with (go_at_call 32; (with_reducible refine (rs_is HG.out _).mono ?_); rintro e2 w2 ⟨rfl, hb2⟩; have HB2 := Lib.hid (below_ch HB1.out hb2); have HX2 := Lib.hid (HX1.out.stay hb2); clear hb2)
  obtain ⟨W2, hW2⟩ : ∃ z, z = w2 := ⟨_, rfl⟩
  rw [← hW2] at HB2 HX2 ⊢
  clear hW2 x0 x1 x2 x3 x4 x5 x6 bx
  obtain ⟨bx, x0, x1, x2, x3, x4, x5, x6, -⟩ := HX2.out.facts
  go_cut [6] from 25 (fun t X => t = .string Ro ∧ X = W2)
  case first =>
    cases hg : G.toList.isEmpty
    · have e : Ro = G := by rw [← HOG.out, hg]; rfl
      have HE := Lib.hid e
      clear e
      go_wp2
      go_meet
      exact ⟨by rw [HE.out], rfl⟩
    · have e : Ro = ⟨#[98, 101, 108, 111, 119]⟩ := by rw [← HOG.out, hg]; rfl
      have HE := Lib.hid e
      clear e
      go_wp2
      go_meet
      exact ⟨by rw [HE.out], rfl⟩
  obtain ⟨rfl, rfl⟩ := hcut
  go_wp2_with (first
    | (go_at_call 31; (with_reducible refine (rr_is HD.out I2 _).mono ?_); rintro e1 w1 ⟨rfl, rfl⟩)
    | (go_at_call 31; (with_reducible refine (rr_is HA.out I3 _).mono ?_); rintro e1 w1 ⟨rfl, rfl⟩)
    | (go_at_call 31; (with_reducible refine (rr_is HBb.out I4 _).mono ?_); rintro e1 w1 ⟨rfl, rfl⟩))
  go_ret
  refine ⟨ret_str (bytes_inj ?_), HB2.out⟩
  rw [HSH.out, ← HN.out]
  simp [cat_list]
set_option maxRecDepth 100000 in
set_option maxHeartbeats 4000000 in
theorem rshow_11 (x : Ic) (w : World) (h : Hid (Ok6 x)) (hk : x.k = 11) : Calls Tryd.prog 16 #[.agg #[.int .i64 x.k, .int .i64 x.o, .int .i64 x.d, .int .i64 x.a, .int .i64 x.b, .int .i64 x.n, .int .i64 x.t]] w fun e w' => e = .returned (.string (showM x)) ∧ Below w.heap.size w w' := by
  obtain ⟨i0, i1, i2, i3, i4, i5, i6⟩ := h.out
  have sd := rt_size i2
  obtain ⟨Rd, hRd⟩ : ∃ t, ⟨#[32, 114]⟩ ++ dig x.d = t := ⟨_, rfl⟩
  rw [hRd] at sd
  have sa := rt_size i3
  obtain ⟨Ra, hRa⟩ : ∃ t, ⟨#[32, 114]⟩ ++ dig x.a = t := ⟨_, rfl⟩
  rw [hRa] at sa
  have sb := rt_size i4
  obtain ⟨Rb, hRb⟩ : ∃ t, ⟨#[32, 114]⟩ ++ dig x.b = t := ⟨_, rfl⟩
  rw [hRb] at sb
  have sn := (dig_size i5).1
  obtain ⟨Rn, hRn⟩ : ∃ t, dig x.n = t := ⟨_, rfl⟩
  rw [hRn] at sn
  have st := (dig_size i6).1
  obtain ⟨Rt, hRt⟩ : ∃ t, dig x.t = t := ⟨_, rfl⟩
  rw [hRt] at st
  have so : (oprT x.o).size ≤ 5 := opr_size x.o
  obtain ⟨G, hG⟩ : ∃ t, sgnZ x.o = t := ⟨_, rfl⟩
  obtain ⟨Ro, hRo⟩ : ∃ t, oprT x.o = t := ⟨_, rfl⟩
  have hog : (if G.toList.isEmpty then ⟨#[98, 101, 108, 111, 119]⟩ else G) = Ro := by rw [← hRo, ← hG]; rfl
  obtain ⟨At, hAt⟩ : ∃ t, atT x = t := ⟨_, rfl⟩
  have hat : (if x.a < 0 then ⟨#[]⟩ else Ra) = At := by rw [← hAt, ← hRa]; rfl
  have sA : At.size ≤ 22 := by
    rw [← hat]
    split
    · exact Nat.zero_le _
    · exact sa
  rw [hRo] at so
  have hsh := show_l11 hk h.out
  have HSH : Hid ((showM x).data.toList = _) := Lib.hid hsh
  clear hsh
  have q0 : (x.k == 0) = false := by simp; omega
  have q1 : (x.k == 1) = false := by simp; omega
  have q2 : (x.k == 2) = false := by simp; omega
  have q3 : (x.k == 3) = false := by simp; omega
  have q4 : (x.k == 4) = false := by simp; omega
  have q5 : (x.k == 5) = false := by simp; omega
  have q6 : (x.k == 6) = false := by simp; omega
  have q7 : (x.k == 7) = false := by simp; omega
  have q8 : (x.k == 8) = false := by simp; omega
  have q9 : (x.k == 9) = false := by simp; omega
  have q10 : (x.k == 10) = false := by simp; omega
  have q11 : (x.k == 11) = true := by simp; omega
  have HD := Lib.hid hRd
  have HA := Lib.hid hRa
  have HBb := Lib.hid hRb
  have HN := Lib.hid hRn
  have HT := Lib.hid hRt
  have HO := Lib.hid hRo
  have HG := Lib.hid hG
  have HOG := Lib.hid hog
  have HAt := Lib.hid hAt
  have HAT := Lib.hid hat
  have I2 := Lib.hid i2
  have I3 := Lib.hid i3
  have I4 := Lib.hid i4
  have I5 := Lib.hid i5
  have I6 := Lib.hid i6
  clear hRd hRa hRb hRn hRt hRo hG hog hAt hat i0 i1 i2 i3 i4 i5 i6 hk
  go_enter Tryd.func16, Tryd.ntmps16
  go_upto_if 17 with (first
    | (go_at_call 30; (with_reducible refine (rd_is HN.out I5 _).mono ?_); rintro e1 w1 ⟨rfl, rfl⟩)
    | (go_at_call 30; (with_reducible refine (rd_is HT.out I6 _).mono ?_); rintro e1 w1 ⟨rfl, rfl⟩))
  refine name_world ?_
  intro W1 hW1
  have HB1 : Hid (Below w.heap.size w W1) := Lib.hid (by rw [hW1]; exact below1 _ _)
  have HX1 : Hid (Ib W1 w.heap.size (.int .i64 x.k) (.int .i64 x.o) (.int .i64 x.d) (.int .i64 x.a) (.int .i64 x.b) (.int .i64 x.n) (.int .i64 x.t)) := Lib.hid (by rw [hW1]; exact Ib.new rfl _ _ _ _ _ _ _)
  clear hW1
  obtain ⟨bx, x0, x1, x2, x3, x4, x5, x6, -⟩ := HX1.out.facts
  go_cut [5] from 17 (fun t X => t = .string At ∧ X = W1)
  case first =>
    cases ha : decide (0 ≤ x.a)
    · have e : At = ⟨#[]⟩ := by
        rw [← HAT.out, if_pos (by simp at ha; omega)]
      go_wp2
      go_meet
      exact ⟨by rw [e], rfl⟩
    · have e : At = Ra := by
        rw [← HAT.out, if_neg (by simp at ha; omega)]
      have HE := Lib.hid e
      clear e
      go_wp2_with (go_at_call 31; (with_reducible refine (rr_is HA.out I3 _).mono ?_); rintro e1 w1 ⟨rfl, rfl⟩)
      go_meet
      exact ⟨by rw [HE.out], rfl⟩
  obtain ⟨rfl, rfl⟩ := hcut
  go_upto_if 25 with (go_at_call 32; (with_reducible refine (rs_is HG.out _).mono ?_); rintro e2 w2 ⟨rfl, hb2⟩; have HB2 := Lib.hid (below_ch HB1.out hb2); have HX2 := Lib.hid (HX1.out.stay hb2); clear hb2)
  obtain ⟨W2, hW2⟩ : ∃ z, z = w2 := ⟨_, rfl⟩
  rw [← hW2] at HB2 HX2 ⊢
  clear hW2 x0 x1 x2 x3 x4 x5 x6 bx
  obtain ⟨bx, x0, x1, x2, x3, x4, x5, x6, -⟩ := HX2.out.facts
  go_cut [6] from 25 (fun t X => t = .string Ro ∧ X = W2)
  case first =>
    cases hg : G.toList.isEmpty
    · have e : Ro = G := by rw [← HOG.out, hg]; rfl
      have HE := Lib.hid e
      clear e
      go_wp2
      go_meet
      exact ⟨by rw [HE.out], rfl⟩
    · have e : Ro = ⟨#[98, 101, 108, 111, 119]⟩ := by rw [← HOG.out, hg]; rfl
      have HE := Lib.hid e
      clear e
      go_wp2
      go_meet
      exact ⟨by rw [HE.out], rfl⟩
  obtain ⟨rfl, rfl⟩ := hcut
  go_wp2_with (first
    | (go_at_call 31; (with_reducible refine (rr_is HD.out I2 _).mono ?_); rintro e1 w1 ⟨rfl, rfl⟩)
    | (go_at_call 31; (with_reducible refine (rr_is HA.out I3 _).mono ?_); rintro e1 w1 ⟨rfl, rfl⟩)
    | (go_at_call 31; (with_reducible refine (rr_is HBb.out I4 _).mono ?_); rintro e1 w1 ⟨rfl, rfl⟩))
  go_ret
  refine ⟨ret_str (bytes_inj ?_), HB2.out⟩
  rw [HSH.out, ← HA.out]
  simp [cat_list]
set_option maxRecDepth 100000 in
set_option maxHeartbeats 4000000 in
theorem rshow_12 (x : Ic) (w : World) (h : Hid (Ok6 x)) (hk : x.k = 12) : Calls Tryd.prog 16 #[.agg #[.int .i64 x.k, .int .i64 x.o, .int .i64 x.d, .int .i64 x.a, .int .i64 x.b, .int .i64 x.n, .int .i64 x.t]] w fun e w' => e = .returned (.string (showM x)) ∧ Below w.heap.size w w' := by
  obtain ⟨i0, i1, i2, i3, i4, i5, i6⟩ := h.out
  have sd := rt_size i2
  obtain ⟨Rd, hRd⟩ : ∃ t, ⟨#[32, 114]⟩ ++ dig x.d = t := ⟨_, rfl⟩
  rw [hRd] at sd
  have sa := rt_size i3
  obtain ⟨Ra, hRa⟩ : ∃ t, ⟨#[32, 114]⟩ ++ dig x.a = t := ⟨_, rfl⟩
  rw [hRa] at sa
  have sb := rt_size i4
  obtain ⟨Rb, hRb⟩ : ∃ t, ⟨#[32, 114]⟩ ++ dig x.b = t := ⟨_, rfl⟩
  rw [hRb] at sb
  have sn := (dig_size i5).1
  obtain ⟨Rn, hRn⟩ : ∃ t, dig x.n = t := ⟨_, rfl⟩
  rw [hRn] at sn
  have st := (dig_size i6).1
  obtain ⟨Rt, hRt⟩ : ∃ t, dig x.t = t := ⟨_, rfl⟩
  rw [hRt] at st
  have so : (oprT x.o).size ≤ 5 := opr_size x.o
  obtain ⟨G, hG⟩ : ∃ t, sgnZ x.o = t := ⟨_, rfl⟩
  obtain ⟨Ro, hRo⟩ : ∃ t, oprT x.o = t := ⟨_, rfl⟩
  have hog : (if G.toList.isEmpty then ⟨#[98, 101, 108, 111, 119]⟩ else G) = Ro := by rw [← hRo, ← hG]; rfl
  obtain ⟨At, hAt⟩ : ∃ t, atT x = t := ⟨_, rfl⟩
  have hat : (if x.a < 0 then ⟨#[]⟩ else Ra) = At := by rw [← hAt, ← hRa]; rfl
  have sA : At.size ≤ 22 := by
    rw [← hat]
    split
    · exact Nat.zero_le _
    · exact sa
  rw [hRo] at so
  have hsh := show_l12 hk h.out
  have HSH : Hid ((showM x).data.toList = _) := Lib.hid hsh
  clear hsh
  have q0 : (x.k == 0) = false := by simp; omega
  have q1 : (x.k == 1) = false := by simp; omega
  have q2 : (x.k == 2) = false := by simp; omega
  have q3 : (x.k == 3) = false := by simp; omega
  have q4 : (x.k == 4) = false := by simp; omega
  have q5 : (x.k == 5) = false := by simp; omega
  have q6 : (x.k == 6) = false := by simp; omega
  have q7 : (x.k == 7) = false := by simp; omega
  have q8 : (x.k == 8) = false := by simp; omega
  have q9 : (x.k == 9) = false := by simp; omega
  have q10 : (x.k == 10) = false := by simp; omega
  have q11 : (x.k == 11) = false := by simp; omega
  have q12 : (x.k == 12) = true := by simp; omega
  have HD := Lib.hid hRd
  have HA := Lib.hid hRa
  have HBb := Lib.hid hRb
  have HN := Lib.hid hRn
  have HT := Lib.hid hRt
  have HO := Lib.hid hRo
  have HG := Lib.hid hG
  have HOG := Lib.hid hog
  have HAt := Lib.hid hAt
  have HAT := Lib.hid hat
  have I2 := Lib.hid i2
  have I3 := Lib.hid i3
  have I4 := Lib.hid i4
  have I5 := Lib.hid i5
  have I6 := Lib.hid i6
  clear hRd hRa hRb hRn hRt hRo hG hog hAt hat i0 i1 i2 i3 i4 i5 i6 hk
  go_enter Tryd.func16, Tryd.ntmps16
  go_upto_if 17 with (first
    | (go_at_call 30; (with_reducible refine (rd_is HN.out I5 _).mono ?_); rintro e1 w1 ⟨rfl, rfl⟩)
    | (go_at_call 30; (with_reducible refine (rd_is HT.out I6 _).mono ?_); rintro e1 w1 ⟨rfl, rfl⟩))
  refine name_world ?_
  intro W1 hW1
  have HB1 : Hid (Below w.heap.size w W1) := Lib.hid (by rw [hW1]; exact below1 _ _)
  have HX1 : Hid (Ib W1 w.heap.size (.int .i64 x.k) (.int .i64 x.o) (.int .i64 x.d) (.int .i64 x.a) (.int .i64 x.b) (.int .i64 x.n) (.int .i64 x.t)) := Lib.hid (by rw [hW1]; exact Ib.new rfl _ _ _ _ _ _ _)
  clear hW1
  obtain ⟨bx, x0, x1, x2, x3, x4, x5, x6, -⟩ := HX1.out.facts
  go_cut [5] from 17 (fun t X => t = .string At ∧ X = W1)
  case first =>
    cases ha : decide (0 ≤ x.a)
    · have e : At = ⟨#[]⟩ := by
        rw [← HAT.out, if_pos (by simp at ha; omega)]
      go_wp2
      go_meet
      exact ⟨by rw [e], rfl⟩
    · have e : At = Ra := by
        rw [← HAT.out, if_neg (by simp at ha; omega)]
      have HE := Lib.hid e
      clear e
      go_wp2_with (go_at_call 31; (with_reducible refine (rr_is HA.out I3 _).mono ?_); rintro e1 w1 ⟨rfl, rfl⟩)
      go_meet
      exact ⟨by rw [HE.out], rfl⟩
  obtain ⟨rfl, rfl⟩ := hcut
  go_upto_if 25 with (go_at_call 32; (with_reducible refine (rs_is HG.out _).mono ?_); rintro e2 w2 ⟨rfl, hb2⟩; have HB2 := Lib.hid (below_ch HB1.out hb2); have HX2 := Lib.hid (HX1.out.stay hb2); clear hb2)
  obtain ⟨W2, hW2⟩ : ∃ z, z = w2 := ⟨_, rfl⟩
  rw [← hW2] at HB2 HX2 ⊢
  clear hW2 x0 x1 x2 x3 x4 x5 x6 bx
  obtain ⟨bx, x0, x1, x2, x3, x4, x5, x6, -⟩ := HX2.out.facts
  go_cut [6] from 25 (fun t X => t = .string Ro ∧ X = W2)
  case first =>
    cases hg : G.toList.isEmpty
    · have e : Ro = G := by rw [← HOG.out, hg]; rfl
      have HE := Lib.hid e
      clear e
      go_wp2
      go_meet
      exact ⟨by rw [HE.out], rfl⟩
    · have e : Ro = ⟨#[98, 101, 108, 111, 119]⟩ := by rw [← HOG.out, hg]; rfl
      have HE := Lib.hid e
      clear e
      go_wp2
      go_meet
      exact ⟨by rw [HE.out], rfl⟩
  obtain ⟨rfl, rfl⟩ := hcut
  go_wp2_with (first
    | (go_at_call 31; (with_reducible refine (rr_is HD.out I2 _).mono ?_); rintro e1 w1 ⟨rfl, rfl⟩)
    | (go_at_call 31; (with_reducible refine (rr_is HA.out I3 _).mono ?_); rintro e1 w1 ⟨rfl, rfl⟩)
    | (go_at_call 31; (with_reducible refine (rr_is HBb.out I4 _).mono ?_); rintro e1 w1 ⟨rfl, rfl⟩))
  go_ret
  refine ⟨ret_str (bytes_inj ?_), HB2.out⟩
  rw [HSH.out, ← HN.out]
  simp [cat_list]
set_option maxRecDepth 100000 in
set_option maxHeartbeats 4000000 in
theorem rshow_13 (x : Ic) (w : World) (h : Hid (Ok6 x)) (hk : x.k = 13) : Calls Tryd.prog 16 #[.agg #[.int .i64 x.k, .int .i64 x.o, .int .i64 x.d, .int .i64 x.a, .int .i64 x.b, .int .i64 x.n, .int .i64 x.t]] w fun e w' => e = .returned (.string (showM x)) ∧ Below w.heap.size w w' := by
  obtain ⟨i0, i1, i2, i3, i4, i5, i6⟩ := h.out
  have sd := rt_size i2
  obtain ⟨Rd, hRd⟩ : ∃ t, ⟨#[32, 114]⟩ ++ dig x.d = t := ⟨_, rfl⟩
  rw [hRd] at sd
  have sa := rt_size i3
  obtain ⟨Ra, hRa⟩ : ∃ t, ⟨#[32, 114]⟩ ++ dig x.a = t := ⟨_, rfl⟩
  rw [hRa] at sa
  have sb := rt_size i4
  obtain ⟨Rb, hRb⟩ : ∃ t, ⟨#[32, 114]⟩ ++ dig x.b = t := ⟨_, rfl⟩
  rw [hRb] at sb
  have sn := (dig_size i5).1
  obtain ⟨Rn, hRn⟩ : ∃ t, dig x.n = t := ⟨_, rfl⟩
  rw [hRn] at sn
  have st := (dig_size i6).1
  obtain ⟨Rt, hRt⟩ : ∃ t, dig x.t = t := ⟨_, rfl⟩
  rw [hRt] at st
  have so : (oprT x.o).size ≤ 5 := opr_size x.o
  obtain ⟨G, hG⟩ : ∃ t, sgnZ x.o = t := ⟨_, rfl⟩
  obtain ⟨Ro, hRo⟩ : ∃ t, oprT x.o = t := ⟨_, rfl⟩
  have hog : (if G.toList.isEmpty then ⟨#[98, 101, 108, 111, 119]⟩ else G) = Ro := by rw [← hRo, ← hG]; rfl
  obtain ⟨At, hAt⟩ : ∃ t, atT x = t := ⟨_, rfl⟩
  have hat : (if x.a < 0 then ⟨#[]⟩ else Ra) = At := by rw [← hAt, ← hRa]; rfl
  have sA : At.size ≤ 22 := by
    rw [← hat]
    split
    · exact Nat.zero_le _
    · exact sa
  rw [hRo] at so
  have hsh := show_l13 hk h.out
  have HSH : Hid ((showM x).data.toList = _) := Lib.hid hsh
  clear hsh
  have q0 : (x.k == 0) = false := by simp; omega
  have q1 : (x.k == 1) = false := by simp; omega
  have q2 : (x.k == 2) = false := by simp; omega
  have q3 : (x.k == 3) = false := by simp; omega
  have q4 : (x.k == 4) = false := by simp; omega
  have q5 : (x.k == 5) = false := by simp; omega
  have q6 : (x.k == 6) = false := by simp; omega
  have q7 : (x.k == 7) = false := by simp; omega
  have q8 : (x.k == 8) = false := by simp; omega
  have q9 : (x.k == 9) = false := by simp; omega
  have q10 : (x.k == 10) = false := by simp; omega
  have q11 : (x.k == 11) = false := by simp; omega
  have q12 : (x.k == 12) = false := by simp; omega
  have q13 : (x.k == 13) = true := by simp; omega
  have HD := Lib.hid hRd
  have HA := Lib.hid hRa
  have HBb := Lib.hid hRb
  have HN := Lib.hid hRn
  have HT := Lib.hid hRt
  have HO := Lib.hid hRo
  have HG := Lib.hid hG
  have HOG := Lib.hid hog
  have HAt := Lib.hid hAt
  have HAT := Lib.hid hat
  have I2 := Lib.hid i2
  have I3 := Lib.hid i3
  have I4 := Lib.hid i4
  have I5 := Lib.hid i5
  have I6 := Lib.hid i6
  clear hRd hRa hRb hRn hRt hRo hG hog hAt hat i0 i1 i2 i3 i4 i5 i6 hk
  go_enter Tryd.func16, Tryd.ntmps16
  go_upto_if 17 with (first
    | (go_at_call 30; (with_reducible refine (rd_is HN.out I5 _).mono ?_); rintro e1 w1 ⟨rfl, rfl⟩)
    | (go_at_call 30; (with_reducible refine (rd_is HT.out I6 _).mono ?_); rintro e1 w1 ⟨rfl, rfl⟩))
  refine name_world ?_
  intro W1 hW1
  have HB1 : Hid (Below w.heap.size w W1) := Lib.hid (by rw [hW1]; exact below1 _ _)
  have HX1 : Hid (Ib W1 w.heap.size (.int .i64 x.k) (.int .i64 x.o) (.int .i64 x.d) (.int .i64 x.a) (.int .i64 x.b) (.int .i64 x.n) (.int .i64 x.t)) := Lib.hid (by rw [hW1]; exact Ib.new rfl _ _ _ _ _ _ _)
  clear hW1
  obtain ⟨bx, x0, x1, x2, x3, x4, x5, x6, -⟩ := HX1.out.facts
  go_cut [5] from 17 (fun t X => t = .string At ∧ X = W1)
  case first =>
    cases ha : decide (0 ≤ x.a)
    · have e : At = ⟨#[]⟩ := by
        rw [← HAT.out, if_pos (by simp at ha; omega)]
      go_wp2
      go_meet
      exact ⟨by rw [e], rfl⟩
    · have e : At = Ra := by
        rw [← HAT.out, if_neg (by simp at ha; omega)]
      have HE := Lib.hid e
      clear e
      go_wp2_with (go_at_call 31; (with_reducible refine (rr_is HA.out I3 _).mono ?_); rintro e1 w1 ⟨rfl, rfl⟩)
      go_meet
      exact ⟨by rw [HE.out], rfl⟩
  obtain ⟨rfl, rfl⟩ := hcut
  go_upto_if 25 with (go_at_call 32; (with_reducible refine (rs_is HG.out _).mono ?_); rintro e2 w2 ⟨rfl, hb2⟩; have HB2 := Lib.hid (below_ch HB1.out hb2); have HX2 := Lib.hid (HX1.out.stay hb2); clear hb2)
  obtain ⟨W2, hW2⟩ : ∃ z, z = w2 := ⟨_, rfl⟩
  rw [← hW2] at HB2 HX2 ⊢
  clear hW2 x0 x1 x2 x3 x4 x5 x6 bx
  obtain ⟨bx, x0, x1, x2, x3, x4, x5, x6, -⟩ := HX2.out.facts
  go_cut [6] from 25 (fun t X => t = .string Ro ∧ X = W2)
  case first =>
    cases hg : G.toList.isEmpty
    · have e : Ro = G := by rw [← HOG.out, hg]; rfl
      have HE := Lib.hid e
      clear e
      go_wp2
      go_meet
      exact ⟨by rw [HE.out], rfl⟩
    · have e : Ro = ⟨#[98, 101, 108, 111, 119]⟩ := by rw [← HOG.out, hg]; rfl
      have HE := Lib.hid e
      clear e
      go_wp2
      go_meet
      exact ⟨by rw [HE.out], rfl⟩
  obtain ⟨rfl, rfl⟩ := hcut
  go_wp2_with (first
    | (go_at_call 31; (with_reducible refine (rr_is HD.out I2 _).mono ?_); rintro e1 w1 ⟨rfl, rfl⟩)
    | (go_at_call 31; (with_reducible refine (rr_is HA.out I3 _).mono ?_); rintro e1 w1 ⟨rfl, rfl⟩)
    | (go_at_call 31; (with_reducible refine (rr_is HBb.out I4 _).mono ?_); rintro e1 w1 ⟨rfl, rfl⟩))
  go_ret
  refine ⟨ret_str (bytes_inj ?_), HB2.out⟩
  rw [HSH.out]
set_option maxRecDepth 100000 in
set_option maxHeartbeats 4000000 in
theorem rshow_un (x : Ic) (w : World) (h : Hid (Ok6 x)) (hk : ¬ (0 ≤ x.k ∧ x.k ≤ 13)) : Calls Tryd.prog 16 #[.agg #[.int .i64 x.k, .int .i64 x.o, .int .i64 x.d, .int .i64 x.a, .int .i64 x.b, .int .i64 x.n, .int .i64 x.t]] w fun e w' => e = .returned (.string (showM x)) ∧ Below w.heap.size w w' := by
  obtain ⟨i0, i1, i2, i3, i4, i5, i6⟩ := h.out
  have sd := rt_size i2
  obtain ⟨Rd, hRd⟩ : ∃ t, ⟨#[32, 114]⟩ ++ dig x.d = t := ⟨_, rfl⟩
  rw [hRd] at sd
  have sa := rt_size i3
  obtain ⟨Ra, hRa⟩ : ∃ t, ⟨#[32, 114]⟩ ++ dig x.a = t := ⟨_, rfl⟩
  rw [hRa] at sa
  have sb := rt_size i4
  obtain ⟨Rb, hRb⟩ : ∃ t, ⟨#[32, 114]⟩ ++ dig x.b = t := ⟨_, rfl⟩
  rw [hRb] at sb
  have sn := (dig_size i5).1
  obtain ⟨Rn, hRn⟩ : ∃ t, dig x.n = t := ⟨_, rfl⟩
  rw [hRn] at sn
  have st := (dig_size i6).1
  obtain ⟨Rt, hRt⟩ : ∃ t, dig x.t = t := ⟨_, rfl⟩
  rw [hRt] at st
  have so : (oprT x.o).size ≤ 5 := opr_size x.o
  obtain ⟨G, hG⟩ : ∃ t, sgnZ x.o = t := ⟨_, rfl⟩
  obtain ⟨Ro, hRo⟩ : ∃ t, oprT x.o = t := ⟨_, rfl⟩
  have hog : (if G.toList.isEmpty then ⟨#[98, 101, 108, 111, 119]⟩ else G) = Ro := by rw [← hRo, ← hG]; rfl
  obtain ⟨At, hAt⟩ : ∃ t, atT x = t := ⟨_, rfl⟩
  have hat : (if x.a < 0 then ⟨#[]⟩ else Ra) = At := by rw [← hAt, ← hRa]; rfl
  have sA : At.size ≤ 22 := by
    rw [← hat]
    split
    · exact Nat.zero_le _
    · exact sa
  rw [hRo] at so
  have HSH : Hid (showM x = ⟨#[]⟩) := Lib.hid (if_neg hk)
  have q0 : (x.k == 0) = false := by simp; omega
  have q1 : (x.k == 1) = false := by simp; omega
  have q2 : (x.k == 2) = false := by simp; omega
  have q3 : (x.k == 3) = false := by simp; omega
  have q4 : (x.k == 4) = false := by simp; omega
  have q5 : (x.k == 5) = false := by simp; omega
  have q6 : (x.k == 6) = false := by simp; omega
  have q7 : (x.k == 7) = false := by simp; omega
  have q8 : (x.k == 8) = false := by simp; omega
  have q9 : (x.k == 9) = false := by simp; omega
  have q10 : (x.k == 10) = false := by simp; omega
  have q11 : (x.k == 11) = false := by simp; omega
  have q12 : (x.k == 12) = false := by simp; omega
  have q13 : (x.k == 13) = false := by simp; omega
  have HD := Lib.hid hRd
  have HA := Lib.hid hRa
  have HBb := Lib.hid hRb
  have HN := Lib.hid hRn
  have HT := Lib.hid hRt
  have HO := Lib.hid hRo
  have HG := Lib.hid hG
  have HOG := Lib.hid hog
  have HAt := Lib.hid hAt
  have HAT := Lib.hid hat
  have I2 := Lib.hid i2
  have I3 := Lib.hid i3
  have I4 := Lib.hid i4
  have I5 := Lib.hid i5
  have I6 := Lib.hid i6
  clear hRd hRa hRb hRn hRt hRo hG hog hAt hat i0 i1 i2 i3 i4 i5 i6 hk
  go_enter Tryd.func16, Tryd.ntmps16
  go_upto_if 17 with (first
    | (go_at_call 30; (with_reducible refine (rd_is HN.out I5 _).mono ?_); rintro e1 w1 ⟨rfl, rfl⟩)
    | (go_at_call 30; (with_reducible refine (rd_is HT.out I6 _).mono ?_); rintro e1 w1 ⟨rfl, rfl⟩))
  refine name_world ?_
  intro W1 hW1
  have HB1 : Hid (Below w.heap.size w W1) := Lib.hid (by rw [hW1]; exact below1 _ _)
  have HX1 : Hid (Ib W1 w.heap.size (.int .i64 x.k) (.int .i64 x.o) (.int .i64 x.d) (.int .i64 x.a) (.int .i64 x.b) (.int .i64 x.n) (.int .i64 x.t)) := Lib.hid (by rw [hW1]; exact Ib.new rfl _ _ _ _ _ _ _)
  clear hW1
  obtain ⟨bx, x0, x1, x2, x3, x4, x5, x6, -⟩ := HX1.out.facts
  go_cut [5] from 17 (fun t X => t = .string At ∧ X = W1)
  case first =>
    cases ha : decide (0 ≤ x.a)
    · have e : At = ⟨#[]⟩ := by
        rw [← HAT.out, if_pos (by simp at ha; omega)]
      go_wp2
      go_meet
      exact ⟨by rw [e], rfl⟩
    · have e : At = Ra := by
        rw [← HAT.out, if_neg (by simp at ha; omega)]
      have HE := Lib.hid e
      clear e
      go_wp2_with (go_at_call 31; (with_reducible refine (rr_is HA.out I3 _).mono ?_); rintro e1 w1 ⟨rfl, rfl⟩)
      go_meet
      exact ⟨by rw [HE.out], rfl⟩
  obtain ⟨rfl, rfl⟩ := hcut
  go_upto_if 25 with (go_at_call 32; (with_reducible refine (rs_is HG.out _).mono ?_); rintro e2 w2 ⟨rfl, hb2⟩; have HB2 := Lib.hid (below_ch HB1.out hb2); have HX2 := Lib.hid (HX1.out.stay hb2); clear hb2)
  obtain ⟨W2, hW2⟩ : ∃ z, z = w2 := ⟨_, rfl⟩
  rw [← hW2] at HB2 HX2 ⊢
  clear hW2 x0 x1 x2 x3 x4 x5 x6 bx
  obtain ⟨bx, x0, x1, x2, x3, x4, x5, x6, -⟩ := HX2.out.facts
  go_cut [6] from 25 (fun t X => t = .string Ro ∧ X = W2)
  case first =>
    cases hg : G.toList.isEmpty
    · have e : Ro = G := by rw [← HOG.out, hg]; rfl
      have HE := Lib.hid e
      clear e
      go_wp2
      go_meet
      exact ⟨by rw [HE.out], rfl⟩
    · have e : Ro = ⟨#[98, 101, 108, 111, 119]⟩ := by rw [← HOG.out, hg]; rfl
      have HE := Lib.hid e
      clear e
      go_wp2
      go_meet
      exact ⟨by rw [HE.out], rfl⟩
  obtain ⟨rfl, rfl⟩ := hcut
  go_wp2_with (first
    | (go_at_call 31; (with_reducible refine (rr_is HD.out I2 _).mono ?_); rintro e1 w1 ⟨rfl, rfl⟩)
    | (go_at_call 31; (with_reducible refine (rr_is HA.out I3 _).mono ?_); rintro e1 w1 ⟨rfl, rfl⟩)
    | (go_at_call 31; (with_reducible refine (rr_is HBb.out I4 _).mono ?_); rintro e1 w1 ⟨rfl, rfl⟩))
  go_ret
  exact ⟨ret_str HSH.out.symm, HB2.out⟩
/-- The document's Show, of any instruction. -/
theorem rshow_any (x : Ic) (w : World) (h : Hid (Ok6 x)) : Calls Tryd.prog 16 #[.agg #[.int .i64 x.k, .int .i64 x.o, .int .i64 x.d, .int .i64 x.a, .int .i64 x.b, .int .i64 x.n, .int .i64 x.t]] w fun e w' => e = .returned (.string (showM x)) ∧ Below w.heap.size w w' := by
  by_cases hk : 0 ≤ x.k ∧ x.k ≤ 13
  · have e : x.k = 0 ∨ x.k = 1 ∨ x.k = 2 ∨ x.k = 3 ∨ x.k = 4 ∨ x.k = 5 ∨ x.k = 6 ∨ x.k = 7 ∨ x.k = 8 ∨ x.k = 9 ∨ x.k = 10 ∨ x.k = 11 ∨ x.k = 12 ∨ x.k = 13 := by omega
    rcases e with e | e | e | e | e | e | e | e | e | e | e | e | e | e
    · exact rshow_0 x w h e
    · exact rshow_1 x w h e
    · exact rshow_2 x w h e
    · exact rshow_3 x w h e
    · exact rshow_4 x w h e
    · exact rshow_5 x w h e
    · exact rshow_6 x w h e
    · exact rshow_7 x w h e
    · exact rshow_8 x w h e
    · exact rshow_9 x w h e
    · exact rshow_10 x w h e
    · exact rshow_11 x w h e
    · exact rshow_12 x w h e
    · exact rshow_13 x w h e
  · exact rshow_un x w h hk
end Go.Proofs.YtjjjdghkeogljaaDoor
