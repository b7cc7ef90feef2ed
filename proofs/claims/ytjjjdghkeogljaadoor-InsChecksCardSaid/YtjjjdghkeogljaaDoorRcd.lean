/- The document's own Check and Text of any code. -/
import Derived.Test.YtjjjdghkeogljaaDoorRcm
import Derived.Deep.QuietTactic
import Derived.BigQuiet
namespace Go.Proofs.YtjjjdghkeogljaaDoor
set_option linter.unusedSimpArgs false
set_option linter.unusedVariables false
open Go Go.RowKit Go.WideShapes

theorem rone_any (x : Ic) (size regs locks : Int) (hs : 0 < size) (w : World) : Calls Tryd.prog 34 #[.agg #[.int .i64 x.k, .int .i64 x.o, .int .i64 x.d, .int .i64 x.a, .int .i64 x.b, .int .i64 x.n, .int .i64 x.t], .int .i64 size, .int .i64 regs, .int .i64 locks] w fun e w' => e = .returned (.bool (rightB x regs locks size)) ∧ Below w.heap.size w w' := by
  by_cases hk : 0 ≤ x.k ∧ x.k ≤ 13
  · refine (one_kn x size regs locks w hk _ _ rfl rfl).mono ?_
    rintro e w' ⟨b, rfl, hb, hw⟩
    refine ⟨?_, hw⟩
    have hz : fldZ x.k = fld x.k.toNat := if_pos hk
    have key : OneP x size regs locks (fldZ x.k) (x.k == 4 || x.k == 5) ↔ rightB x regs locks size = true := by
      have e : x.k = 0 ∨ x.k = 1 ∨ x.k = 2 ∨ x.k = 3 ∨ x.k = 4 ∨ x.k = 5 ∨ x.k = 6 ∨ x.k = 7 ∨ x.k = 8 ∨ x.k = 9 ∨ x.k = 10 ∨ x.k = 11 ∨ x.k = 12 ∨ x.k = 13 := by omega
      rcases e with e | e | e | e | e | e | e | e | e | e | e | e | e | e
      · rw [hz, e]
        exact one_eq0 x size regs locks hs e
      · rw [hz, e]
        exact one_eq1 x size regs locks hs e
      · rw [hz, e]
        exact one_eq2 x size regs locks hs e
      · rw [hz, e]
        exact one_eq3 x size regs locks hs e
      · rw [hz, e]
        exact one_eq4 x size regs locks hs e
      · rw [hz, e]
        exact one_eq5 x size regs locks hs e
      · rw [hz, e]
        exact one_eq6 x size regs locks hs e
      · rw [hz, e]
        exact one_eq7 x size regs locks hs e
      · rw [hz, e]
        exact one_eq8 x size regs locks hs e
      · rw [hz, e]
        exact one_eq9 x size regs locks hs e
      · rw [hz, e]
        exact one_eq10 x size regs locks hs e
      · rw [hz, e]
        exact one_eq11 x size regs locks hs e
      · rw [hz, e]
        exact one_eq12 x size regs locks hs e
      · rw [hz, e]
        exact one_eq13 x size regs locks hs e
    rw [key] at hb
    cases b <;> cases h : rightB x regs locks size
    · rfl
    · exact absurd (hb.2 h) (by decide)
    · exact absurd (hb.1 rfl) (by rw [h]; decide)
    · rfl
  · have e : rightB x regs locks size = false := if_neg hk
    rw [e]
    exact one_un x size regs locks w hk
theorem rone_is {x : Ic} {size regs locks : Int} {b : Bool} (h : rightB x regs locks size = b) (hs : 0 < size) (w : World) : Calls Tryd.prog 34 #[.agg #[.int .i64 x.k, .int .i64 x.o, .int .i64 x.d, .int .i64 x.a, .int .i64 x.b, .int .i64 x.n, .int .i64 x.t], .int .i64 size, .int .i64 regs, .int .i64 locks] w fun e w' => e = .returned (.bool b) ∧ Below w.heap.size w w' := h ▸ rone_any x size regs locks hs w
theorem rchk_short (c : List Ic) (p : Option Addr) (cap : Nat) (regs locks : Int) (w : World) (h : c.length = 0) : Calls Tryd.prog 18 #[.slice p c.length cap, .int .i64 regs, .int .i64 locks] w fun e w' => e = .returned (.bool false) ∧ Below w.heap.size w w' := by
  rw [h]
  go_enter Tryd.func18, Tryd.ntmps18
  go_wp2
  go_ret
  exact ⟨rfl, Below.refl _ _⟩
theorem rchk_long (c : List Ic) (p : Option Addr) (cap : Nat) (regs locks : Int) (w : World) (h : 4096 < c.length) : Calls Tryd.prog 18 #[.slice p c.length cap, .int .i64 regs, .int .i64 locks] w fun e w' => e = .returned (.bool false) ∧ Below w.heap.size w w' := by
  have h1 : decide ((c.length : Int) < 1) = false := by simp; omega
  have h2 : decide (4096 < (c.length : Int)) = true := by simp; omega
  go_enter Tryd.func18, Tryd.ntmps18
  go_wp2
  go_ret
  exact ⟨rfl, Below.refl _ _⟩
theorem last_kind {k : Int} (h0 : 0 ≤ k) (h1 : k ≤ 13) : ens k.toNat = (k == 6 || k == 12 || k == 13) := by
  obtain ⟨m, rfl⟩ := Int.eq_ofNat_of_zero_le h0
  have : ∀ m, m < 14 → ens m = (((m : Int) == 6) || ((m : Int) == 12) || ((m : Int) == 13)) := by decide
  exact this m (by omega)
set_option maxRecDepth 100000 in
set_option maxHeartbeats 4000000 in
theorem rchk_mid (m : Nat) (c : List Ic) (hm : c.length = m + 1) (p : Option Addr) (cap : Nat) (regs locks : Int) (w : World) (hl : m + 1 ≤ 4096) (hc : Hid (CodeAt w p c)) (r : Bool) (hr : Hid ((if c.all (fun x => rightB x regs locks c.length) then lastE c else false) = r)) : Calls Tryd.prog 18 #[.slice p (m + 1) cap, .int .i64 regs, .int .i64 locks] w fun e w' => e = .returned (.bool r) ∧ Below w.heap.size w w' := by
  have HM := Lib.hid hm
  clear hm
  have h1 : decide ((m : Int) + 1 < 1) = false := by simp; omega
  have h2 : decide (4096 < (m : Int) + 1) = false := by simp; omega
  go_enter Tryd.func18, Tryd.ntmps18
  go_wp2
  go_loopw [7] (fun i wr => ∃ k : Nat, i = .int .i64 k ∧ k ≤ m + 1 ∧ Hid (∀ j x, j < k → c[j]? = some x → rightB x regs locks c.length = true) ∧ Hid (Below w.heap.size w wr)) (fun i _ => m + 1 - (intOf i).toNat)
  case atStart => exact ⟨0, rfl, Nat.zero_le _, Lib.hid (fun j x h => absurd h (by omega)), Lib.hid (Below.refl _ _)⟩
  case round =>
    obtain ⟨k, rfl, hk, HN, HB⟩ := hrel
    by_cases hlt : k < m + 1
    · obtain ⟨x, hx⟩ : ∃ x, c[k]? = some x := ⟨_, List.getElem?_eq_getElem (by rw [HM.out]; exact hlt)⟩
      obtain ⟨g, o, rfl, hg, hat, hok⟩ := hc.out k x hx
      obtain ⟨y0, y1, y2, y3, y4, y5, y6⟩ := hat.stay hg HB.out
      have HX := Lib.hid hx
      have hwz : w.heap.size ≤ wr.heap.size := HB.out.size
      have hgw : g < wr.heap.size := by omega
      have hk2 : (k : Int) < (m : Int) + 1 := by omega
      have hk3 : (0 : Int) ≤ k := by omega
      have HQ : Hid (((m + 1 : Nat) : Int) = (c.length : Int)) := Lib.hid (by rw [HM.out])
      clear hx hat hok
      cases hq : rightB x regs locks ((m : Int) + 1)
      · have HR : Hid (r = false) := Lib.hid (by
          rw [← hr.out, if_neg]
          intro h
          have := List.all_eq_true.1 h x (List.mem_of_getElem? HX.out)
          rw [HM.out] at this
          rw [show (((m + 1 : Nat) : Int)) = (m : Int) + 1 by omega, hq] at this
          cases this)
        have HF := Lib.hid hq
        clear hq
        go_wp2_with (go_at_call 34; (with_reducible refine (rone_is HF.out (by omega) _).mono ?_); rintro e1 w1 ⟨rfl, hb1⟩; have HB1 := Lib.hid hb1; clear hb1)
        go_ret
        exact ⟨ret_bool HR.out.symm, below_ch HB.out HB1.out⟩
      · have HN2 : Hid (∀ j x, j < k + 1 → c[j]? = some x → rightB x regs locks c.length = true) := Lib.hid (fun j z hj hz => by
          by_cases e : j = k
          · subst e
            rw [HX.out] at hz
            cases hz
            rw [← HQ.out, show (((m + 1 : Nat) : Int)) = (m : Int) + 1 by omega]
            exact hq
          · exact HN.out j z (by omega) hz)
        have HF := Lib.hid hq
        clear hq
        go_wp2_with (go_at_call 34; (with_reducible refine (rone_is HF.out (by omega) _).mono ?_); rintro e1 w1 ⟨rfl, hb1⟩; have HB1 := Lib.hid hb1; clear hb1)
        go_roundw
        case rel => exact ⟨k + 1, by go_num, by omega, HN2, Lib.hid (below_ch HB.out HB1.out)⟩
        case measure => simp [intOf]; omega
    · obtain rfl : k = m + 1 := by omega
      obtain ⟨x, hx⟩ : ∃ x, c[m]? = some x := ⟨_, List.getElem?_eq_getElem (by rw [HM.out]; omega)⟩
      obtain ⟨g, o, rfl, hg, hat, hok⟩ := hc.out m x hx
      obtain ⟨y0, y1, y2, y3, y4, y5, y6⟩ := hat.stay hg HB.out
      have hwz : w.heap.size ≤ wr.heap.size := HB.out.size
      have hkd := right_kind (HN.out m x (by omega) hx)
      have hgw : g < wr.heap.size := by omega
      have HR : Hid (r = (x.k == 6 || x.k == 12 || x.k == 13)) := Lib.hid (by
        rw [← hr.out, if_pos (List.all_eq_true.2 (fun z hz => by
          obtain ⟨j, hj, e⟩ := List.getElem_of_mem hz
          exact HN.out j z (by rw [HM.out] at hj; exact hj) (by rw [List.getElem?_eq_getElem hj, e])))]
        unfold lastE
        rw [List.getLast?_eq_getElem?, HM.out, Nat.add_sub_cancel, hx]
        exact last_kind hkd.1 hkd.2)
      clear hkd hx hat hok
      cases q6 : (x.k == 6) <;> cases q12 : (x.k == 12) <;> cases q13 : (x.k == 13)
      all_goals
        have HR2 := Lib.hid (HR.out.trans (by rw [q6, q12, q13]))
        go_wp2
        go_ret
        exact ⟨ret_bool HR2.out.symm, HB.out⟩
theorem rchk_any (c : List Ic) (p : Option Addr) (cap : Nat) (regs locks : Int) (w : World) (hc : CodeAt w p c) : Calls Tryd.prog 18 #[.slice p c.length cap, .int .i64 regs, .int .i64 locks] w fun e w' => e = .returned (.bool (checkB c regs locks)) ∧ Below w.heap.size w w' := by
  by_cases h : c.length < 1 ∨ 4096 < c.length
  · have e : checkB c regs locks = false := if_pos h
    rw [e]
    rcases h with h | h
    · exact rchk_short c p cap regs locks w (by omega)
    · exact rchk_long c p cap regs locks w h
  · have e : checkB c regs locks = if c.all (fun x => rightB x regs locks c.length) then lastE c else false := if_neg h
    obtain ⟨m, hm⟩ : ∃ m, c.length = m + 1 := ⟨c.length - 1, by omega⟩
    have := rchk_mid m c hm p cap regs locks w (by omega) (Lib.hid hc) _ (Lib.hid rfl)
    rw [e]
    rw [← hm] at this
    exact this
theorem rchk_is {c : List Ic} {p : Option Addr} {cap n : Nat} {regs locks : Int} {b : Bool} (h : checkB c regs locks = b) (hn : c.length = n) (w : World) (hc : CodeAt w p c) : Calls Tryd.prog 18 #[.slice p n cap, .int .i64 regs, .int .i64 locks] w fun e w' => e = .returned (.bool b) ∧ Below w.heap.size w w' := h ▸ hn ▸ rchk_any c p cap regs locks w hc

theorem rshow_is {x : Ic} {t : ByteArray} (e : showM x = t) (w : World) (h : Hid (Ok6 x)) : Calls Tryd.prog 16 #[.agg #[.int .i64 x.k, .int .i64 x.o, .int .i64 x.d, .int .i64 x.a, .int .i64 x.b, .int .i64 x.n, .int .i64 x.t]] w fun e w' => e = .returned (.string t) ∧ Below w.heap.size w w' := e ▸ rshow_any x w h
set_option maxRecDepth 100000 in
set_option maxHeartbeats 4000000 in
theorem rtext_any (c : List Ic) (p : Option Addr) (n cap : Nat) (w : World) (hn : Hid (c.length = n)) (hl : n ≤ 5000) (hc : Hid (CodeAt w p c)) : Calls Tryd.prog 20 #[.slice p n cap] w fun e w' => e = .returned (.string (bst (textTo c n))) ∧ Below w.heap.size w w' := by
  go_enter Tryd.func20, Tryd.ntmps20
  go_wp2
  go_loopw [3, 4] (fun s i wr => ∃ (k : Nat) (t : ByteArray), i = .int .i64 k ∧ s = .string t ∧ k ≤ n ∧ t.size ≤ 115 * k ∧ Hid (t.data.toList = textTo c k) ∧ Hid (Below w.heap.size w wr)) (fun _ i _ => n - (intOf i).toNat)
  case atStart => exact ⟨0, ⟨#[]⟩, rfl, rfl, Nat.zero_le _, Nat.le_refl _, Lib.hid rfl, Lib.hid (Below.refl _ _)⟩
  case round =>
    obtain ⟨k, t, rfl, rfl, hk, hts, HE, HB⟩ := hrel
    by_cases hlt : k < n
    · obtain ⟨x, hx⟩ : ∃ x, c[k]? = some x := ⟨_, List.getElem?_eq_getElem (by rw [hn.out]; exact hlt)⟩
      obtain ⟨g, o, rfl, hg, hat, hok⟩ := hc.out k x hx
      obtain ⟨y0, y1, y2, y3, y4, y5, y6⟩ := hat.stay hg HB.out
      have HS : Hid (textTo c (k + 1) = textTo c k ++ lineL k x) := Lib.hid (textTo_step hx)
      have hat2 := hat
      have HOK := Lib.hid hok
      have hwz : w.heap.size ≤ wr.heap.size := HB.out.size
      have hgw : g < wr.heap.size := by omega
      have hk2 : (k : Int) < (n : Int) := by omega
      have hk3 : (0 : Int) ≤ k := by omega
      have HI : Hid (In6 (k : Int)) := Lib.hid ⟨by omega, by omega⟩
      obtain ⟨t1, ht1⟩ : ∃ t, dig (k : Int) = t := ⟨_, rfl⟩
      obtain ⟨t2, ht2⟩ : ∃ t, showM x = t := ⟨_, rfl⟩
      have hq1 : t1.size ≤ 20 := by
        have := (dig_size HI.out).1
        rw [ht1] at this
        exact this
      have hq2 : t2.size ≤ 93 := by
        have := show_size hok
        rw [ht2] at this
        exact this
      have HLL : Hid (lineL k x = t1.data.toList ++ [32] ++ t2.data.toList ++ [10]) := Lib.hid (by unfold lineL; rw [ht1, ht2])
      have H1 := Lib.hid ht1
      have H2 := Lib.hid ht2
      clear hx hat hok ht1 ht2
      have HAT := Lib.hid (hat2.stay hg HB.out)
      have HDG : Hid (∀ W : World, Calls Tryd.prog 30 #[.int .i64 (k : Int)] W fun e w' => e = .returned (.string t1) ∧ W = w') := Lib.hid (fun W => rd_is H1.out HI W)
      have HSW : Hid (∀ W : World, Calls Tryd.prog 16 #[.agg #[.int .i64 x.k, .int .i64 x.o, .int .i64 x.d, .int .i64 x.a, .int .i64 x.b, .int .i64 x.n, .int .i64 x.t]] W fun e w' => e = .returned (.string t2) ∧ Below W.heap.size W w') := Lib.hid (fun W => rshow_is H2.out W HOK)
      clear hat2 y0 y1 y2 y3 y4 y5 y6
      go_wp2_with (fail)
      refine wp_region_quiet (C := fun w' => Below wr.heap.size wr w') (by kernel_rfl) (by kernel_rfl) ((Below.refl _ _).drew) ?_
      dsimp only
      repeat (first
        | go_big_quiet_skip
        | (go_big_quiet_want; go_big_quiet_op; first
          | go_big_quiet_on
          | (refine ⟨_, fun _ _ => rfl, ?_⟩; go_big_quiet_on)
          | (apply Exists.intro; refine ⟨fun ww hww => ?_, ?_⟩; (go_at_call 30; exact (HDG.out ww).mono fun e X ⟨h1, h2⟩ => ⟨h1, h2 ▸ hww⟩); go_big_quiet_on)
          | (apply Exists.intro; refine ⟨fun ww hww => ?_, ?_⟩; (go_at_call 16; exact (HSW.out ww).mono fun e X ⟨h1, h2⟩ => ⟨h1, below_ch hww h2⟩); go_big_quiet_on)
          | (refine ⟨.agg #[.int .i64 x.k, .int .i64 x.o, .int .i64 x.d, .int .i64 x.a, .int .i64 x.b, .int .i64 x.n, .int .i64 x.t], fun ww hww => ?_, ?_⟩; (obtain ⟨q0, q1, q2, q3, q4, q5, q6⟩ := HAT.out.stay hgw hww; have ql := Nat.lt_of_lt_of_le hgw hww.size; go_simp); go_big_quiet_on)))
      refine wpQuiet_nil ?_
      intro y8 hb9
      have HB2 := Lib.hid (below_ch HB.out hb9)
      clear hb9
      go_wp2
      go_roundw
      case rel =>
        refine ⟨k + 1, _, by go_num, rfl, by omega, ?_, Lib.hid ?_, HB2⟩
        · simp only [ByteArray.size_append]
          have z1 : (⟨#[32]⟩ : ByteArray).size = 1 := rfl
          have z2 : (⟨#[10]⟩ : ByteArray).size = 1 := rfl
          omega
        · rw [HS.out, HLL.out, ← HE.out]
          simp [cat_list]
      case measure => simp [intOf]; omega
    · obtain rfl : k = n := by omega
      go_wp2
      go_ret
      refine ⟨ret_str (bytes_inj ?_), HB.out⟩
      rw [HE.out]
      rfl
end Go.Proofs.YtjjjdghkeogljaaDoor
