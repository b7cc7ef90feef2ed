/- Are two expressions the same: plain mathematics, and the document's own function. -/
import Derived.Test.YtngfbpmabdmkeaaGreatDoorEx
import Derived.Test.YtngfbpmabdmkeaaGreatDoorEqv
import Derived.Deep.RegionWith
import Derived.Deep.Cut
namespace Go.Proofs.YtngfbpmabdmkeaaGreatDoor
open Go Go.RowKit

theorem bstr_ne {a b : List UInt8} (h : a ≠ b) : ((bstr a).toList == (bstr b).toList) = false := by rw [bstr_eq]; simp [h]
theorem bstr_same {a b : List UInt8} (h : a = b) : ((bstr a).toList == (bstr b).toList) = true := by rw [bstr_eq]; simp [h]

/-- What the call is handed, and what it says. -/
def SameGoal (f : Nat) (N : Nat) : Prop := ∀ (x y : Ex) (u v : Value) (w : World), x.cnt < N ∧ x.cnt < 1000000000 → IsEx 0 w x u → IsEx 0 w y v →
  Calls Tryz.prog f #[.agg #[.int .i64 x.k, .int .i64 x.op, .int .i64 x.n, .string (bstr x.nm), u, .int .i64 x.a], .agg #[.int .i64 y.k, .int .i64 y.op, .int .i64 y.n, .string (bstr y.nm), v, .int .i64 y.a]] w fun e w' => e = .returned (.bool (x.eqv y)) ∧ Below w.heap.size w w'

set_option maxRecDepth 100000 in
set_option maxHeartbeats 4000000 in
theorem sameR_step (N : Nat) (IH : Hid (SameGoal 11 N)) : SameGoal 11 (N + 1) := by
  intro x y u v w hN hx hy
  obtain ⟨p, cp, rfl⟩ := hx.form
  obtain ⟨q, cq, rfl⟩ := hy.form
  obtain ⟨R, hR⟩ : ∃ R, R = x.eqv y := ⟨_, rfl⟩
  rw [← hR]
  rw [eqv_parts] at hR
  have HR := Lib.hid hR
  have HX := Lib.hid hx
  have HY := Lib.hid hy
  have HN := Lib.hid hN
  have hks := ks_lt x
  have hn9 : x.ks.length < 1000000000 := by omega
  clear hx hy hN hks
  by_cases hk : x.k = y.k
  case neg =>
    have hb : (x.k == y.k) = false := by simpa using hk
    have hb2 : (x.k != y.k) = true := by (show (! _) = _; rw [hb]; rfl)
    have hF : R = false := by (rw [HR.out]; simp [hb])
    subst hF
    clear hk hR
    go_enter Tryz.func11, Tryz.ntmps11
    go_wp2
    go_ret
    exact ⟨rfl, by (refine Fr.below ?_; (repeat (first | (with_reducible exact Fr.refl _ _) | (with_reducible refine Fr.alloc ?_ _) | (with_reducible refine Fr.drewN ?_ _) | (with_reducible refine Fr.drew ?_) | (with_reducible refine Fr.set ?_ ?_ _ _; rotate_left; first | exact .inl rfl | (right; simp; done) | (right; simp; omega) | (right; omega)) | (with_reducible refine Fr.step ?_ (by assumption)) | (with_reducible refine Fr.stepB ?_ (by assumption)))))⟩
  have hbk : (x.k == y.k) = true := by simpa using hk
  have hck : (x.k != y.k) = false := by (show (! _) = _; rw [hbk]; rfl)
  by_cases ho : x.op = y.op
  case neg =>
    have hb : (x.op == y.op) = false := by simpa using ho
    have hb2 : (x.op != y.op) = true := by (show (! _) = _; rw [hb]; rfl)
    have hF : R = false := by (rw [HR.out]; simp [hb])
    subst hF
    clear ho hR
    go_enter Tryz.func11, Tryz.ntmps11
    go_wp2
    go_ret
    exact ⟨rfl, by (refine Fr.below ?_; (repeat (first | (with_reducible exact Fr.refl _ _) | (with_reducible refine Fr.alloc ?_ _) | (with_reducible refine Fr.drewN ?_ _) | (with_reducible refine Fr.drew ?_) | (with_reducible refine Fr.set ?_ ?_ _ _; rotate_left; first | exact .inl rfl | (right; simp; done) | (right; simp; omega) | (right; omega)) | (with_reducible refine Fr.step ?_ (by assumption)) | (with_reducible refine Fr.stepB ?_ (by assumption)))))⟩
  have hbo : (x.op == y.op) = true := by simpa using ho
  have hco : (x.op != y.op) = false := by (show (! _) = _; rw [hbo]; rfl)
  by_cases hn : x.n = y.n
  case neg =>
    have hb : (x.n == y.n) = false := by simpa using hn
    have hb2 : (x.n != y.n) = true := by (show (! _) = _; rw [hb]; rfl)
    have hF : R = false := by (rw [HR.out]; simp [hb])
    subst hF
    clear hn hR
    go_enter Tryz.func11, Tryz.ntmps11
    go_wp2
    go_ret
    exact ⟨rfl, by (refine Fr.below ?_; (repeat (first | (with_reducible exact Fr.refl _ _) | (with_reducible refine Fr.alloc ?_ _) | (with_reducible refine Fr.drewN ?_ _) | (with_reducible refine Fr.drew ?_) | (with_reducible refine Fr.set ?_ ?_ _ _; rotate_left; first | exact .inl rfl | (right; simp; done) | (right; simp; omega) | (right; omega)) | (with_reducible refine Fr.step ?_ (by assumption)) | (with_reducible refine Fr.stepB ?_ (by assumption)))))⟩
  have hbn : (x.n == y.n) = true := by simpa using hn
  have hcn : (x.n != y.n) = false := by (show (! _) = _; rw [hbn]; rfl)
  by_cases ht : x.nm = y.nm
  case neg =>
    have hb := bstr_ne ht
    have hb2 : ((bstr x.nm).toList != (bstr y.nm).toList) = true := by (show (! _) = _; rw [hb]; rfl)
    have hF : R = false := by (rw [HR.out]; simp [ht])
    subst hF
    clear ht hk ho hn hR
    go_enter Tryz.func11, Tryz.ntmps11
    go_wp2
    go_ret
    exact ⟨rfl, by (refine Fr.below ?_; (repeat (first | (with_reducible exact Fr.refl _ _) | (with_reducible refine Fr.alloc ?_ _) | (with_reducible refine Fr.drewN ?_ _) | (with_reducible refine Fr.drew ?_) | (with_reducible refine Fr.set ?_ ?_ _ _; rotate_left; first | exact .inl rfl | (right; simp; done) | (right; simp; omega) | (right; omega)) | (with_reducible refine Fr.step ?_ (by assumption)) | (with_reducible refine Fr.stepB ?_ (by assumption)))))⟩
  have hbt := bstr_same ht
  have hct : ((bstr x.nm).toList != (bstr y.nm).toList) = false := by (show (! _) = _; rw [hbt]; rfl)
  by_cases hl : x.ks.length = y.ks.length
  case neg =>
    have hb : ((x.ks.length : Int) == (y.ks.length : Int)) = false := by (simp; omega)
    have hb2 : ((x.ks.length : Int) != (y.ks.length : Int)) = true := by (show (! _) = _; rw [hb]; rfl)
    have hF : R = false := by (rw [HR.out]; simp [eqvL_len _ _ hl])
    subst hF
    clear ht hk ho hn hR hl
    go_enter Tryz.func11, Tryz.ntmps11
    go_wp2
    go_ret
    exact ⟨rfl, by (refine Fr.below ?_; (repeat (first | (with_reducible exact Fr.refl _ _) | (with_reducible refine Fr.alloc ?_ _) | (with_reducible refine Fr.drewN ?_ _) | (with_reducible refine Fr.drew ?_) | (with_reducible refine Fr.set ?_ ?_ _ _; rotate_left; first | exact .inl rfl | (right; simp; done) | (right; simp; omega) | (right; omega)) | (with_reducible refine Fr.step ?_ (by assumption)) | (with_reducible refine Fr.stepB ?_ (by assumption)))))⟩
  obtain ⟨n, hn'⟩ : ∃ n, n = x.ks.length := ⟨_, rfl⟩
  have hL1 : Hid (x.ks.length = n) := Lib.hid hn'.symm
  have hL2 : Hid (y.ks.length = n) := Lib.hid (hl.symm.trans hn'.symm)
  have hT : Hid (R = Ex.eqvL x.ks y.ks) := Lib.hid (by rw [HR.out]; simp [hk, ho, hn, ht])
  rw [← hl, ← hn']
  rw [← hn'] at hn9
  clear hR hk ho hn ht hl hn' HR
  go_enter Tryz.func11, Tryz.ntmps11
  go_wp2
  obtain ⟨w0, hw0⟩ : ∃ w0, w0 = ((w.alloc (.cells #[.int .i64 x.k, .int .i64 x.op, .int .i64 x.n, .string (bstr x.nm), .slice p n cp, .int .i64 x.a] 25)).alloc (.cells #[.int .i64 y.k, .int .i64 y.op, .int .i64 y.n, .string (bstr y.nm), .slice q n cq, .int .i64 y.a] 25)) := ⟨_, rfl⟩
  rw [← hw0]
  have hz0 : w.heap.size < w0.heap.size := by (rw [hw0]; simp; omega)
  have hz0' : w.heap.size + 1 < w0.heap.size := by (rw [hw0]; simp)
  have hB0 : Hid (Below w.heap.size w w0) := Lib.hid (by rw [hw0]; (refine Fr.below ?_; (repeat (first | (with_reducible exact Fr.refl _ _) | (with_reducible refine Fr.alloc ?_ _) | (with_reducible refine Fr.drewN ?_ _) | (with_reducible refine Fr.drew ?_) | (with_reducible refine Fr.set ?_ ?_ _ _; rotate_left; first | exact .inl rfl | (right; simp; done) | (right; simp; omega) | (right; omega)) | (with_reducible refine Fr.step ?_ (by assumption)) | (with_reducible refine Fr.stepB ?_ (by assumption))))))
  have BX0 : Hid (Blk w0 w.heap.size (.int .i64 x.k) (.int .i64 x.op) (.int .i64 x.n) (.string (bstr x.nm)) (.slice p n cp) (.int .i64 x.a)) := Lib.hid (by rw [hw0]; exact (Blk.new rfl _ _ _ _ _ _).alloc _)
  have BY0 : Hid (Blk w0 (w.heap.size + 1) (.int .i64 y.k) (.int .i64 y.op) (.int .i64 y.n) (.string (bstr y.nm)) (.slice q n cq) (.int .i64 y.a)) := Lib.hid (by rw [hw0]; exact Blk.new (by simp) _ _ _ _ _ _)
  clear hw0
  go_loopw [5] (fun iv wr => ∃ i : Nat, iv = .int .i64 i ∧ i ≤ n ∧ Below w0.heap.size w0 wr ∧ Hid (R = Ex.eqvL (x.ks.drop i) (y.ks.drop i))) (fun iv _ => n - (intOf iv).toNat)
  case atStart => exact ⟨0, rfl, Nat.zero_le _, Below.refl _ _, Lib.hid (by simpa using hT.out)⟩
  case round =>
    obtain ⟨i, rfl, hi, hB, hRi⟩ := hrel
    have hBw : Below w.heap.size w wr := by (have hb0 := hB0.out; (refine Fr.below ?_; (repeat (first | (with_reducible exact Fr.refl _ _) | (with_reducible refine Fr.alloc ?_ _) | (with_reducible refine Fr.drewN ?_ _) | (with_reducible refine Fr.drew ?_) | (with_reducible refine Fr.set ?_ ?_ _ _; rotate_left; first | exact .inl rfl | (right; simp; done) | (right; simp; omega) | (right; omega)) | (with_reducible refine Fr.step ?_ (by assumption)) | (with_reducible refine Fr.stepB ?_ (by assumption))))))
    have HBw := Lib.hid hBw
    have BX := Lib.hid (BX0.out.stay hB)
    have BY := Lib.hid (BY0.out.stay hB)
    have hzr := hB.size
    obtain ⟨blx, c0x, c1x, c2x, c3x, c4x, c5x, f0x, f1x, f2x, f3x, f4x, f5x⟩ := (BX.out).facts
    obtain ⟨bly, c0y, c1y, c2y, c3y, c4y, c5y, f0y, f1y, f2y, f3y, f4y, f5y⟩ := (BY.out).facts
    by_cases hin : i < n
    · have hin2 : (i : Int) < n := by omega
      obtain ⟨a, ha⟩ : ∃ a, x.ks[i]? = some a := ⟨_, List.getElem?_eq_getElem (by rw [hL1.out]; exact hin)⟩
      obtain ⟨b, hb⟩ : ∃ b, y.ks[i]? = some b := ⟨_, List.getElem?_eq_getElem (by rw [hL2.out]; exact hin)⟩
      obtain ⟨g, cap, ua, hp, -, hg, hxa, d0, d1, d2, d3, d4, d5⟩ := (HX.out.stay hBw).kid ha
      obtain ⟨g2, cap2, ub, hq, -, hg2, hyb, e0, e1, e2, e3, e4, e5⟩ := (HY.out.stay hBw).kid hb
      obtain ⟨rfl, rfl⟩ : p = some ⟨g, 0, none⟩ ∧ cp = cap := by simpa using hp
      obtain ⟨rfl, rfl⟩ : q = some ⟨g2, 0, none⟩ ∧ cq = cap2 := by simpa using hq
      obtain ⟨pa, ca, rfl⟩ := hxa.form
      obtain ⟨pb, cb, rfl⟩ := hyb.form
      have hst := eqvL_step ha hb
      have hka := kid_lt ha
      have HA := Lib.hid hxa
      have HBb := Lib.hid hyb
      obtain ⟨bb, hbb⟩ : ∃ bb, bb = a.eqv b := ⟨_, rfl⟩
      rw [← hRi.out, ← hbb] at hst
      have HST := Lib.hid hst
      have hI : Hid (∀ W, IsEx 0 W a (.slice pa a.ks.length ca) → IsEx 0 W b (.slice pb b.ks.length cb) → Calls Tryz.prog 11 #[.agg #[.int .i64 a.k, .int .i64 a.op, .int .i64 a.n, .string (bstr a.nm), .slice pa a.ks.length ca, .int .i64 a.a], .agg #[.int .i64 b.k, .int .i64 b.op, .int .i64 b.n, .string (bstr b.nm), .slice pb b.ks.length cb, .int .i64 b.a]] W fun e w' => e = .returned (.bool bb) ∧ Below W.heap.size W w') := Lib.hid (by rw [hbb]; exact fun W h1 h2 => IH.out a b _ _ W (by have := HN.out; omega) h1 h2)
      clear hxa hyb hp hq ha hb hst hka hbb hRi
      cases bb with
      | false =>
        obtain rfl : R = false := by simpa using HST.out
        go_wp2
        go_region_with (go_at_call 11; (with_reducible refine (hI.out _ (by (repeat (first | (with_reducible exact HA.out) | (with_reducible refine IsEx.alloc ?_ _) | (with_reducible refine IsEx.drewN ?_ _) | (with_reducible refine IsEx.drew ?_) | (with_reducible refine IsEx.set ?_ ?_ _ _; rotate_left; first | omega | (simp; done) | (simp; omega)) | (with_reducible refine IsEx.fr ?_ (by assumption) (by omega)) | (with_reducible refine IsEx.stay ?_ (by assumption))))) (by (repeat (first | (with_reducible exact HBb.out) | (with_reducible refine IsEx.alloc ?_ _) | (with_reducible refine IsEx.drewN ?_ _) | (with_reducible refine IsEx.drew ?_) | (with_reducible refine IsEx.set ?_ ?_ _ _; rotate_left; first | omega | (simp; done) | (simp; omega)) | (with_reducible refine IsEx.fr ?_ (by assumption) (by omega)) | (with_reducible refine IsEx.stay ?_ (by assumption)))))).mono ?_); rintro e' w3 ⟨rfl, hb3⟩)
        all_goals go_wp2
        all_goals go_ret
        all_goals clear hB
        all_goals exact ⟨rfl, by (refine Fr.below ?_; (repeat (first | (with_reducible exact Fr.refl _ _) | (with_reducible refine Fr.alloc ?_ _) | (with_reducible refine Fr.drewN ?_ _) | (with_reducible refine Fr.drew ?_) | (with_reducible refine Fr.set ?_ ?_ _ _; rotate_left; first | exact .inl rfl | (right; simp; done) | (right; simp; omega) | (right; omega)) | (with_reducible refine Fr.step ?_ (by assumption)) | (with_reducible refine Fr.stepB ?_ (by assumption)))))⟩
      | true =>
        have hT2 : Hid (R = Ex.eqvL (x.ks.drop (i + 1)) (y.ks.drop (i + 1))) := Lib.hid (by simpa using HST.out)
        go_wp2
        go_region_with (go_at_call 11; (with_reducible refine (hI.out _ (by (repeat (first | (with_reducible exact HA.out) | (with_reducible refine IsEx.alloc ?_ _) | (with_reducible refine IsEx.drewN ?_ _) | (with_reducible refine IsEx.drew ?_) | (with_reducible refine IsEx.set ?_ ?_ _ _; rotate_left; first | omega | (simp; done) | (simp; omega)) | (with_reducible refine IsEx.fr ?_ (by assumption) (by omega)) | (with_reducible refine IsEx.stay ?_ (by assumption))))) (by (repeat (first | (with_reducible exact HBb.out) | (with_reducible refine IsEx.alloc ?_ _) | (with_reducible refine IsEx.drewN ?_ _) | (with_reducible refine IsEx.drew ?_) | (with_reducible refine IsEx.set ?_ ?_ _ _; rotate_left; first | omega | (simp; done) | (simp; omega)) | (with_reducible refine IsEx.fr ?_ (by assumption) (by omega)) | (with_reducible refine IsEx.stay ?_ (by assumption)))))).mono ?_); rintro e' w3 ⟨rfl, hb3⟩)
        all_goals go_wp2
        all_goals clear hBw
        all_goals exact ⟨⟨i + 1, by simp, by omega, by (refine Fr.below ?_; (repeat (first | (with_reducible exact Fr.refl _ _) | (with_reducible refine Fr.alloc ?_ _) | (with_reducible refine Fr.drewN ?_ _) | (with_reducible refine Fr.drew ?_) | (with_reducible refine Fr.set ?_ ?_ _ _; rotate_left; first | exact .inl rfl | (right; simp; done) | (right; simp; omega) | (right; omega)) | (with_reducible refine Fr.step ?_ (by assumption)) | (with_reducible refine Fr.stepB ?_ (by assumption))))), hT2⟩, by simp [intOf]; omega⟩
    · obtain rfl : i = n := by omega
      obtain rfl : R = true := by
        rw [hRi.out, List.drop_of_length_le (by rw [hL1.out]; exact Nat.le_refl _), List.drop_of_length_le (by rw [hL2.out]; exact Nat.le_refl _)]
        rfl
      go_wp2
      go_ret
      exact ⟨rfl, HBw.out⟩

/-- palingref03.Same says whether two expressions are the same. -/
theorem sameR_any : ∀ N, SameGoal 11 N
  | 0 => fun _ _ _ _ _ h => absurd h.1 (by omega)
  | N + 1 => sameR_step N (Lib.hid (sameR_any N))
end Go.Proofs.YtngfbpmabdmkeaaGreatDoor
