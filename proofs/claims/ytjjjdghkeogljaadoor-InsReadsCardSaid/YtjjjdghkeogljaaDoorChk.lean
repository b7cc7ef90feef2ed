/- Whether a code may be, and its text: ins.Check, ins.Text. -/
import Derived.Test.YtjjjdghkeogljaaDoorSho
import Derived.Test.YtjjjdghkeogljaaDoorBldI
namespace Go.Proofs.YtjjjdghkeogljaaDoor
set_option linter.unusedSimpArgs false
set_option linter.unusedVariables false
open Go Go.RowKit

/-- An instruction's seven cells, from one on. -/
structure At7 (w : World) (g q : Nat) (x : Ic) : Prop where
  k : w.cell? ⟨g, q, none⟩ = some (.int .i64 x.k)
  o : w.cell? ⟨g, q + 1, none⟩ = some (.int .i64 x.o)
  d : w.cell? ⟨g, q + 2, none⟩ = some (.int .i64 x.d)
  a : w.cell? ⟨g, q + 3, none⟩ = some (.int .i64 x.a)
  b : w.cell? ⟨g, q + 4, none⟩ = some (.int .i64 x.b)
  n : w.cell? ⟨g, q + 5, none⟩ = some (.int .i64 x.n)
  t : w.cell? ⟨g, q + 6, none⟩ = some (.int .i64 x.t)
theorem At7.stay {W W' : World} {g q B : Nat} {x : Ic} (h : At7 W g q x) (hg : g < B) (hb : Below B W W') : At7 W' g q x where
  k := (hb.cell (p := ⟨g, q, none⟩) hg).trans h.k
  o := (hb.cell (p := ⟨g, q + 1, none⟩) hg).trans h.o
  d := (hb.cell (p := ⟨g, q + 2, none⟩) hg).trans h.d
  a := (hb.cell (p := ⟨g, q + 3, none⟩) hg).trans h.a
  b := (hb.cell (p := ⟨g, q + 4, none⟩) hg).trans h.b
  n := (hb.cell (p := ⟨g, q + 5, none⟩) hg).trans h.n
  t := (hb.cell (p := ⟨g, q + 6, none⟩) hg).trans h.t
/-- A code in memory. -/
def CodeAt (w : World) (p : Option Addr) (c : List Ic) : Prop := ∀ i x, c[i]? = some x → ∃ g o, p = some ⟨g, o, none⟩ ∧ g < w.heap.size ∧ At7 w g (o + i * 7) x ∧ Ok6 x
theorem CodeAt.stay {W W' : World} {p : Option Addr} {c : List Ic} (h : CodeAt W p c) (hb : Below W.heap.size W W') : CodeAt W' p c := fun i x hx => by
  obtain ⟨g, o, h1, h2, h3, h4⟩ := h i x hx
  exact ⟨g, o, h1, Nat.lt_of_lt_of_le h2 hb.size, h3.stay h2 hb, h4⟩

def lastE (c : List Ic) : Bool := match c.getLast? with
  | some x => ens x.k.toNat
  | none => false
/-- Whether a code may be. -/
def checkB (c : List Ic) (regs locks : Int) : Bool := if c.length < 1 ∨ 4096 < c.length then false else if c.all (fun x => rightB x regs locks c.length) then lastE c else false
theorem right_is {x : Ic} {regs locks many : Int} {b : Bool} (h : rightB x regs locks many = b) (w : World) (T : Kinds w) : Calls Tryd.prog 33 #[.agg #[.int .i64 x.k, .int .i64 x.o, .int .i64 x.d, .int .i64 x.a, .int .i64 x.b, .int .i64 x.n, .int .i64 x.t], .agg #[.int .i64 regs, .int .i64 locks], .int .i64 many] w fun e w' => e = .returned (.bool b) ∧ Below w.heap.size w w' := h ▸ right_any x regs locks many w T
theorem right_kind {x : Ic} {regs locks many : Int} (h : rightB x regs locks many = true) : 0 ≤ x.k ∧ x.k ≤ 13 := by
  unfold rightB at h
  split at h
  · assumption
  · cases h

theorem check_short (c : List Ic) (p : Option Addr) (cap : Nat) (regs locks : Int) (w : World) (h : c.length = 0) : Calls Tryd.prog 17 #[.slice p c.length cap, .agg #[.int .i64 regs, .int .i64 locks]] w fun e w' => e = .returned (.bool false) ∧ Below w.heap.size w w' := by
  rw [h]
  go_enter Tryd.func17, Tryd.ntmps17
  go_wp2
  go_ret
  exact ⟨rfl, below1 _ _⟩
theorem check_long (c : List Ic) (p : Option Addr) (cap : Nat) (regs locks : Int) (w : World) (h : 4096 < c.length) : Calls Tryd.prog 17 #[.slice p c.length cap, .agg #[.int .i64 regs, .int .i64 locks]] w fun e w' => e = .returned (.bool false) ∧ Below w.heap.size w w' := by
  have h1 : decide ((c.length : Int) < 1) = false := by simp; omega
  have h2 : decide (4096 < (c.length : Int)) = true := by simp; omega
  go_enter Tryd.func17, Tryd.ntmps17
  go_wp2
  go_ret
  exact ⟨rfl, below1 _ _⟩

set_option maxRecDepth 100000 in
set_option maxHeartbeats 4000000 in
theorem check_mid (m : Nat) (c : List Ic) (hm : c.length = m + 1) (p : Option Addr) (cap : Nat) (regs locks : Int) (w : World) (hl : m + 1 ≤ 4096) (T : Hid (Kinds w)) (hc : Hid (CodeAt w p c)) (r : Bool) (hr : Hid ((if c.all (fun x => rightB x regs locks c.length) then lastE c else false) = r)) : Calls Tryd.prog 17 #[.slice p (m + 1) cap, .agg #[.int .i64 regs, .int .i64 locks]] w fun e w' => e = .returned (.bool r) ∧ Below w.heap.size w w' := by
  have HM := Lib.hid hm
  clear hm
  have h1 : decide ((m : Int) + 1 < 1) = false := by simp; omega
  have h2 : decide (4096 < (m : Int) + 1) = false := by simp; omega
  go_enter Tryd.func17, Tryd.ntmps17
  go_wp2
  go_loopw [17] (fun i wr => ∃ k : Nat, i = .int .i64 k ∧ k ≤ m + 1 ∧ Hid (∀ j x, j < k → c[j]? = some x → rightB x regs locks c.length = true) ∧ Hid (Below w.heap.size w wr) ∧ Hid (Bb wr w.heap.size (.int .i64 regs) (.int .i64 locks))) (fun i _ => m + 1 - (intOf i).toNat)
  case atStart => exact ⟨0, rfl, Nat.zero_le _, Lib.hid (fun j x h => absurd h (by omega)), Lib.hid (below1 _ _), Lib.hid (Bb.new rfl _ _)⟩
  case round =>
    obtain ⟨k, rfl, hk, HN, HB, HD⟩ := hrel
    by_cases hlt : k < m + 1
    · obtain ⟨x, hx⟩ : ∃ x, c[k]? = some x := ⟨_, List.getElem?_eq_getElem (by rw [HM.out]; exact hlt)⟩
      obtain ⟨g, o, rfl, hg, hat, hok⟩ := hc.out k x hx
      obtain ⟨y0, y1, y2, y3, y4, y5, y6⟩ := hat.stay hg HB.out
      have HX := Lib.hid hx
      have hwz : w.heap.size ≤ wr.heap.size := HB.out.size
      have HK := Lib.hid (T.out.below HB.out)
      obtain ⟨bd, d0, d1⟩ := HD.out.facts
      have hgw : g < wr.heap.size := by omega
      have hk2 : (k : Int) < (m : Int) + 1 := by omega
      have hk3 : (0 : Int) ≤ k := by omega
      have HQ : Hid (((m + 1 : Nat) : Int) = (c.length : Int)) := Lib.hid (by rw [HM.out])
      clear hx hat hok
      cases hq : rightB x regs locks ((m : Int) + 1)
      · have HR : Hid (r = false) := Lib.hid (by
          rw [← hr.out, if_neg]
          intro h
          have := List.all_eq_true.1 h x (List.mem_of_getElem? HX.out)
          rw [HM.out] at this
          rw [show (((m + 1 : Nat) : Int)) = (m : Int) + 1 by omega, hq] at this
          cases this)
        have HF := Lib.hid hq
        clear hq
        go_wp2_with (go_at_call 33; refine (right_is HF.out _ (HK.out.below (below1 _ _))).mono ?_; rintro e1 w1 ⟨rfl, hb1⟩; have HB1 := Lib.hid hb1; clear hb1)
        go_ret
        exact ⟨ret_bool HR.out.symm, below_ch (HB.out.alloc hwz _) HB1.out⟩
      · have HN2 : Hid (∀ j x, j < k + 1 → c[j]? = some x → rightB x regs locks c.length = true) := Lib.hid (fun j z hj hz => by
          by_cases e : j = k
          · subst e
            rw [HX.out] at hz
            cases hz
            rw [← HQ.out, show (((m + 1 : Nat) : Int)) = (m : Int) + 1 by omega]
            exact hq
          · exact HN.out j z (by omega) hz)
        have HF := Lib.hid hq
        clear hq
        go_wp2_with (go_at_call 33; refine (right_is HF.out _ (HK.out.below (below1 _ _))).mono ?_; rintro e1 w1 ⟨rfl, hb1⟩; have HB1 := Lib.hid hb1; clear hb1)
        go_roundw
        case rel => exact ⟨k + 1, by go_num, by omega, HN2, Lib.hid (below_ch (HB.out.alloc hwz _) HB1.out), Lib.hid ((HD.out.alloc _).stay HB1.out)⟩
        case measure => simp [intOf]; omega
    · obtain rfl : k = m + 1 := by omega
      obtain ⟨x, hx⟩ : ∃ x, c[m]? = some x := ⟨_, List.getElem?_eq_getElem (by rw [HM.out]; omega)⟩
      obtain ⟨g, o, rfl, hg, hat, hok⟩ := hc.out m x hx
      obtain ⟨y0, y1, y2, y3, y4, y5, y6⟩ := hat.stay hg HB.out
      have hwz : w.heap.size ≤ wr.heap.size := HB.out.size
      have hkd := right_kind (HN.out m x (by omega) hx)
      have hk0 := hkd.1
      have hk13 := hkd.2
      have HK := T.out.below HB.out
      have ce := HK.ends x.k.toNat (by omega)
      have hsz := HK.size
      have hgw : g < wr.heap.size := by omega
      have hx13 : x.k < 14 := by omega
      have HR : Hid (r = ens x.k.toNat) := Lib.hid (by
        rw [← hr.out, if_pos (List.all_eq_true.2 (fun z hz => by
          obtain ⟨j, hj, e⟩ := List.getElem_of_mem hz
          exact HN.out j z (by rw [HM.out] at hj; exact hj) (by rw [List.getElem?_eq_getElem hj, e])))]
        unfold lastE
        rw [List.getLast?_eq_getElem?, HM.out, Nat.add_sub_cancel, hx])
      clear hkd hx hat hok HK
      go_wp2
      go_ret
      exact ⟨ret_bool HR.out.symm, HB.out⟩
end Go.Proofs.YtjjjdghkeogljaaDoor
