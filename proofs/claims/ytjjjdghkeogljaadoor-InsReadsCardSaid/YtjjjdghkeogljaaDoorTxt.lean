/- A code's text: ins.Text. -/
import Derived.Test.YtjjjdghkeogljaaDoorChk
namespace Go.Proofs.YtjjjdghkeogljaaDoor
set_option linter.unusedSimpArgs false
set_option linter.unusedVariables false
open Go Go.RowKit

theorem checks_any (c : List Ic) (p : Option Addr) (cap : Nat) (regs locks : Int) (w : World) (T : Kinds w) (hc : CodeAt w p c) : Calls Tryd.prog 17 #[.slice p c.length cap, .agg #[.int .i64 regs, .int .i64 locks]] w fun e w' => e = .returned (.bool (checkB c regs locks)) ∧ Below w.heap.size w w' := by
  by_cases h : c.length < 1 ∨ 4096 < c.length
  · have e : checkB c regs locks = false := if_pos h
    rw [e]
    rcases h with h | h
    · exact check_short c p cap regs locks w (by omega)
    · exact check_long c p cap regs locks w h
  · have e : checkB c regs locks = if c.all (fun x => rightB x regs locks c.length) then lastE c else false := if_neg h
    obtain ⟨m, hm⟩ : ∃ m, c.length = m + 1 := ⟨c.length - 1, by omega⟩
    have := check_mid m c hm p cap regs locks w (by omega) (Lib.hid T) (Lib.hid hc) _ (Lib.hid rfl)
    rw [e]
    rw [← hm] at this
    exact this
theorem check_is {c : List Ic} {p : Option Addr} {cap n : Nat} {regs locks : Int} {b : Bool} (h : checkB c regs locks = b) (hn : c.length = n) (w : World) (T : Kinds w) (hc : CodeAt w p c) : Calls Tryd.prog 17 #[.slice p n cap, .agg #[.int .i64 regs, .int .i64 locks]] w fun e w' => e = .returned (.bool b) ∧ Below w.heap.size w w' := h ▸ hn ▸ checks_any c p cap regs locks w T hc

/-- A row of a code's text, and that of so many. -/
def lineL (i : Nat) (x : Ic) : List UInt8 := (dig (i : Int)).data.toList ++ [32] ++ (showM x).data.toList ++ [10]
def textTo (c : List Ic) (k : Nat) : List UInt8 := (List.range k).flatMap fun i => match c[i]? with
  | some x => lineL i x
  | none => []
theorem textTo_step {c : List Ic} {k : Nat} {x : Ic} (h : c[k]? = some x) : textTo c (k + 1) = textTo c k ++ lineL k x := by
  unfold textTo
  rw [List.range_succ, List.flatMap_append]
  simp [h]
theorem line_len {k : Nat} {x : Ic} (hk : (k : Int) ≤ 9223372036854775807) (h : Ok6 x) : (lineL k x).length ≤ 115 := by
  have h1 := (dig_size (n := (k : Int)) ⟨by omega, hk⟩).1
  have h2 := show_size h
  unfold lineL
  simp only [List.length_append, List.length_cons, List.length_nil]
  rw [← size_list, ← size_list]
  omega
theorem show_is {x : Ic} {t : ByteArray} (e : showM x = t) (w : World) (L : Hid (Laid w)) (h : Hid (Ok6 x)) : Calls Tryd.prog 15 #[.agg #[.int .i64 x.k, .int .i64 x.o, .int .i64 x.d, .int .i64 x.a, .int .i64 x.b, .int .i64 x.n, .int .i64 x.t]] w fun e w' => e = .returned (.string t) ∧ Below w.heap.size w w' := e ▸ show_any x w L h
theorem idig_is {n : Int} {t : ByteArray} (e : dig n = t) (w : World) (L : Hid (Laid w)) (h : Hid (In6 n)) : Calls Tryd.prog 36 #[.int .i64 n] w fun e w' => e = .returned (.string t) ∧ Below w.heap.size w w' := e ▸ idigits_any n w L h

set_option maxRecDepth 100000 in
set_option maxHeartbeats 800000 in
theorem text_any (c : List Ic) (p : Option Addr) (n cap : Nat) (w : World) (hn : Hid (c.length = n)) (hl : n ≤ 5000) (L : Hid (Laid w)) (hc : Hid (CodeAt w p c)) : Calls Tryd.prog 19 #[.slice p n cap] w fun e w' => e = .returned (.string (bst (textTo c n))) ∧ Below w.heap.size w w' := by
  go_enter Tryd.func19, Tryd.ntmps19
  go_wp2
  go_loopw [8] (fun i wr => ∃ k : Nat, i = .int .i64 k ∧ k ≤ n ∧ Hid (∃ l, textTo c k = l ∧ l.length ≤ 115 * k ∧ Bld w.heap.size w.heap.size (Lib.byteCells l) wr) ∧ Hid (Below w.heap.size w wr) ∧ w.heap.size < wr.heap.size) (fun i _ => n - (intOf i).toNat)
  case atStart => exact ⟨0, rfl, Nat.zero_le _, Lib.hid ⟨[], rfl, Nat.le_refl _, bld_new w _ rfl⟩, Lib.hid (Below.alloc (Below.refl _ _) (Nat.le_refl _) _), by simp⟩
  case round =>
    obtain ⟨k, rfl, hk, HL, HB, hbw⟩ := hrel
    obtain ⟨l, hl1, hl2, hbld⟩ := HL.out
    have HE := Lib.hid hl1
    have HD := Lib.hid hbld
    clear hl1 hbld HL
    by_cases hlt : k < n
    · obtain ⟨x, hx⟩ : ∃ x, c[k]? = some x := ⟨_, List.getElem?_eq_getElem (by rw [hn.out]; exact hlt)⟩
      obtain ⟨g, o, rfl, hg, hat, hok⟩ := hc.out k x hx
      obtain ⟨y0, y1, y2, y3, y4, y5, y6⟩ := hat.stay hg HB.out
      have HS : Hid (textTo c (k + 1) = l ++ lineL k x) := Lib.hid (by rw [textTo_step hx, HE.out])
      have HLN : Hid ((lineL k x).length ≤ 115) := Lib.hid (line_len (by omega) hok)
      have HOK := Lib.hid hok
      have hwz : w.heap.size ≤ wr.heap.size := HB.out.size
      have hgw : g < wr.heap.size := by omega
      have hk2 : (k : Int) < (n : Int) := by omega
      have hk3 : (0 : Int) ≤ k := by omega
      have HI : Hid (In6 (k : Int)) := Lib.hid ⟨by omega, by omega⟩
      obtain ⟨t1, ht1⟩ : ∃ t, dig (k : Int) = t := ⟨_, rfl⟩
      obtain ⟨t2, ht2⟩ : ∃ t, showM x = t := ⟨_, rfl⟩
      obtain ⟨m1, hm1⟩ : ∃ m, t1.data.toList = m := ⟨_, rfl⟩
      obtain ⟨m2, hm2⟩ : ∃ m, t2.data.toList = m := ⟨_, rfl⟩
      have hq1 : m1.length ≤ 20 := by
        have := (dig_size HI.out).1
        rw [ht1, size_list, hm1] at this
        exact this
      have hq2 : m2.length ≤ 93 := by
        have := show_size hok
        rw [ht2, size_list, hm2] at this
        exact this
      have HLL : Hid (lineL k x = m1 ++ [32] ++ m2 ++ [10]) := Lib.hid (by unfold lineL; rw [ht1, hm1, ht2, hm2])
      have H1 := Lib.hid ht1
      have H2 := Lib.hid ht2
      have HM1 := Lib.hid hm1
      have HM2 := Lib.hid hm2
      clear hx hat hok ht1 ht2 hm1 hm2
      go_wp2_with (first
        | (go_at_call 36; refine (idig_is H1.out _ (Lib.hid (L.out.below (HB.out.alloc hwz _))) HI).mono ?_; rintro e1 w1 ⟨rfl, hb1⟩; have HB1 := Lib.hid (below_ch (HB.out.alloc hwz _) hb1); have HD1 := Lib.hid (bld_stay HD.out (below_ch (below1 _ _) hb1)); have HX1 := Lib.hid ((Ib.new rfl _ _ _ _ _ _ _).stay hb1); have hz1 := hb1.size; (simp at hz1); clear hb1)
        | (go_at_call 35; (with_reducible refine (write_is _ HD1 HM1 (by omega) (by omega)).mono ?_); rintro e2 w2 ⟨rfl, hd2, hb2, hk2⟩; have HB2 := Lib.hid (HB1.out.trans hb2); have HD2 := Lib.hid hd2; have HX2 := Lib.hid (HX1.out.others hk2 (by omega)); have hz2 := hb2.size; clear hd2 hb2 hk2)
        | (go_at_call 37; (with_reducible refine (wbyte_is 32 (by decide) _ HD2 (by simp; omega) (by omega)).mono ?_); rintro e3 w3 ⟨rfl, hd3, hb3, hk3'⟩; have HB3 := Lib.hid (HB2.out.trans hb3); have HD3 := Lib.hid hd3; have HX3 := Lib.hid (HX2.out.others hk3' (by omega)); have hz3 := hb3.size; clear hd3 hb3 hk3'; obtain ⟨bx3, u0, u1, u2, u3, u4, u5, u6, -⟩ := HX3.out.facts)
        | (go_at_call 15; (with_reducible refine (show_is H2.out _ (Lib.hid (L.out.below HB3.out)) HOK).mono ?_); rintro e4 w4 ⟨rfl, hb4⟩; have HB4 := Lib.hid (below_ch HB3.out hb4); have HD4 := Lib.hid (bld_stay HD3.out hb4); have hz4 := hb4.size; clear hb4)
        | (go_at_call 35; (with_reducible refine (write_is _ HD4 HM2 (by simp; omega) (by omega)).mono ?_); rintro e5 w5 ⟨rfl, hd5, hb5, -⟩; have HB5 := Lib.hid (HB4.out.trans hb5); have HD5 := Lib.hid hd5; have hz5 := hb5.size; clear hd5 hb5)
        | (go_at_call 37; (with_reducible refine (wbyte_is 10 (by decide) _ HD5 (by simp; omega) (by omega)).mono ?_); rintro e6 w6 ⟨rfl, hd6, hb6, -⟩; have HB6 := Lib.hid (HB5.out.trans hb6); have HD6 := Lib.hid hd6; have hz6 := hb6.size; clear hd6 hb6))
      go_roundw
      case rel =>
        refine ⟨k + 1, by go_num, by omega, Lib.hid ⟨_, HS.out, ?_, ?_⟩, HB6, by omega⟩
        · rw [List.length_append]
          have := HLN.out
          omega
        · rw [HLL.out]
          have := HD6.out
          simp only [List.append_assoc] at this ⊢
          exact this
      case measure => simp [intOf]; omega
    · obtain rfl : k = n := by omega
      go_wp2_with (go_at_call 38; (with_reducible refine (bld_text _ HD (by omega)).mono ?_); rintro e7 w7 ⟨rfl, hb7⟩; have HB7 := Lib.hid (HB.out.trans hb7); clear hb7)
      go_ret
      exact ⟨ret_str (by rw [HE.out]), HB7.out⟩
end Go.Proofs.YtjjjdghkeogljaaDoor
