/- ExprJoins comes out true for every two texts and every byte: no condition but what the card itself says of the listed variables. -/
import Derived.Test.YtngfbpmabdmkeaaGreatDoorPD
import Derived.Test.YtngfbpmabdmkeaaGreatDoorRnumB
import Derived.Test.YtngfbpmabdmkeaaGreatDoorLaid
import Derived.Test.YtngfbpmabdmkeaaGreatDoorTie
import Derived.Test.YtngfbpmabdmkeaaGreatDoorCards
import Derived.SevenTiedAt
import Derived.Carry
import Derived.Test.YtngfbpmabdmkeaaGreatDoorPA

namespace Go.Proofs.YtngfbpmabdmkeaaGreatDoor
open Go

theorem tok_op40 (tl : List UInt8) : ∀ j : Nat, j < 19 → j ≠ 16 → tok numO (sgB j ++ 40 :: tl) = .word 2 (sgB j).length 0
  | 0, _, _ | 1, _, _ | 2, _, _ | 3, _, _ | 4, _, _ | 5, _, _ | 6, _, _ | 7, _, _ | 8, _, _ | 9, _, _ | 10, _, _ | 11, _, _ | 12, _, _ | 13, _, _ | 14, _, _ | 15, _, _ | 17, _, _ | 18, _, _ => rfl
  | 16, _, h => absurd rfl h
  | j + 19, h, _ => absurd h (by omega)
/-- What an expression's text is, in brackets, ahead of whatever follows. -/
theorem OfR.inBrackets {s : List UInt8} {a : Ex} (h : OfR s (.ok a)) (b : Nat) : ∃ W : List Wd, ∀ rest wr, Sc numO rest (b + 1 + s.length + 2) wr none →
    Sc numO (40 :: (s ++ 10 :: 41 :: rest)) b (⟨2, [40], 0, b⟩ :: (W ++ ⟨2, [41], 0, b + 1 + s.length + 1⟩ :: wr)) none ∧
      ((∃ a', a'.eqv a = true ∧ P 0 .thing (⟨2, [40], 0, b⟩ :: (W ++ ⟨2, [41], 0, b + 1 + s.length + 1⟩ :: wr)) (.ok a' wr)) ∨ ∃ n, P 0 .thing (⟨2, [40], 0, b⟩ :: (W ++ ⟨2, [41], 0, b + 1 + s.length + 1⟩ :: wr)) (.bad 2 n)) := by
  cases h with
  | @ok ws ts d e hS hP hd =>
    obtain ⟨ws0, hw, hj⟩ := (hS.shift (b + 1)).join rfl
    obtain ⟨u0, ue, hu, hue, hun⟩ := hS.ends rfl
    have hx : u0.map (fun w : Wd => (⟨w.k, w.t, w.n, w.a + (b + 1)⟩ : Wd)) = ws0 := by
      rw [hu, List.map_append] at hw
      exact (List.append_inj' hw rfl).1
    refine ⟨ws0, fun rest wr hr => ?_⟩
    have h41 : Sc numO (41 :: rest) (b + 1 + s.length + 1) (⟨2, [41], 0, b + 1 + s.length + 1⟩ :: wr) none := Sc.one (by decide) hr
    have h10 : Sc numO (10 :: 41 :: rest) (b + 1 + s.length) (⟨2, [41], 0, b + 1 + s.length + 1⟩ :: wr) none := .gap _ _ 1 _ _ (by simp) (tok_sep (.inr rfl) numO _) h41
    have h11 := hj (41 :: rest) _ none (by rw [show 0 + (b + 1) + s.length = b + 1 + s.length by omega]; exact h10)
    rw [show 0 + (b + 1) = b + 1 by omega] at h11
    refine ⟨Sc.one (by decide) h11, ?_⟩
    have hH : Halt ⟨2, [41], 0, b + 1 + s.length + 1⟩ := ⟨rk_rb _ _, ⟨sg_ne (by decide), sg_ne (by decide)⟩, sg_ne (by decide)⟩
    have hsw := sw_make (⟨2, [41], 0, b + 1 + s.length + 1⟩ :: wr) (fun w : Wd => (⟨w.k, w.t, w.n, w.a + (b + 1)⟩ : Wd)) (fun w => ⟨rfl, rfl, rfl⟩) hue u0 hun
    rw [← hu, hx] at hsw
    have hend := end_alone hun (by rw [← hu]; exact hP.suf) hd
    obtain ⟨rfl, rfl⟩ := hend
    rcases sw_any hH hP _ hsw (by decide) with ⟨e', ts2, he, hs2, hp2⟩ | ⟨n, hp2⟩
    · obtain rfl := hs2.fin_inv hd
      exact .inl ⟨e', he, .par (sg_of _ _ _) (.wthOk (by decide) hp2 (sg_of _ _ _))⟩
    · exact .inr ⟨n, .par (sg_of _ _ _) (.wthBad (by decide) hp2)⟩

/-- Two of them, with an operator between. -/
theorem OfR.joins {s t : List UInt8} {a b : Ex} (h : OfR s (.ok a)) (h2 : OfR t (.ok b)) {j : Nat} (hj : j < 19) (h16 : j ≠ 16) :
    (∃ c, OfR (40 :: (s ++ 10 :: 41 :: (sgB j ++ 40 :: (t ++ [10, 41])))) (.ok c) ∧ c.eqv (.mk 6 j 0 [] [a, b] 0) = true) ∨ ∃ n, OfR (40 :: (s ++ 10 :: 41 :: (sgB j ++ 40 :: (t ++ [10, 41])))) (.bad 2 n) := by
  obtain ⟨W, hW⟩ := h.inBrackets 0
  obtain ⟨V, hV⟩ := h2.inBrackets (0 + 1 + s.length + 2 + (sgB j).length)
  obtain ⟨v1, v2⟩ := hV [] _ (.done _)
  have hne : sgB j ≠ [] := by
    have : ∀ j, j < 19 → j ≠ 16 → sgB j ≠ [] := by decide
    exact this j hj h16
  obtain ⟨w1, w2⟩ := hW (sgB j ++ 40 :: (t ++ [10, 41])) _ (Sc.push hne (tok_op40 _ j hj h16) v1)
  have hr1 : 1 ≤ rkW ⟨2, sgB j, 0, 0 + 1 + s.length + 2⟩ := by
    rw [rk_op hj h16]
    have : ∀ j : Nat, j < 19 → j ≠ 16 → 1 ≤ rnkZ j := by decide
    exact this j hj h16
  rcases w2 with ⟨a', ha, hp⟩ | ⟨n, hp⟩
  · rcases v2 with ⟨b', hb, hq⟩ | ⟨n, hq⟩
    · refine .inl ⟨_, .ok w1 (.expr hp (.loopMore hr1 (.expr hq (.loopEnd (by rw [rk_end]; omega))) (.loopEnd (by rw [rk_end]; decide)))) rfl, ?_⟩
      rw [show opB (sgB j) = (j : Int) from opB_of j hj h16]
      exact eqv_mk (eqvL_two ha hb) _ _
    · exact .inr ⟨n, .bad w1 (.expr hp (.loopBad hr1 (.exprBad hq)))⟩
  · exact .inr ⟨n, .bad w1 (.exprBad hp)⟩
end Go.Proofs.YtngfbpmabdmkeaaGreatDoor
namespace Go.Proofs.YtngfbpmabdmkeaaGreatDoor
namespace ExprJoins
open Go Go.ChangeShapes Go.WideShapes Go.ChangeAt Go.WideMaps Go.WideElems Go.RowKit Go.Sort
open Go.ChangeMaps (open_string shut_string)


def signsC : Array Value := #[.string ⟨#[43]⟩, .string ⟨#[45]⟩, .string ⟨#[42]⟩, .string ⟨#[47]⟩, .string ⟨#[37]⟩, .string ⟨#[38]⟩, .string ⟨#[124]⟩, .string ⟨#[94]⟩, .string ⟨#[60, 60]⟩, .string ⟨#[62, 62]⟩, .string ⟨#[61, 61]⟩, .string ⟨#[33, 61]⟩, .string ⟨#[60]⟩, .string ⟨#[60, 61]⟩, .string ⟨#[62]⟩, .string ⟨#[62, 61]⟩, .string ⟨#[]⟩, .string ⟨#[38, 38]⟩, .string ⟨#[124, 124]⟩]
theorem signs_at : ∀ k : Nat, k < 19 → signsC[k]? = some (.string (bstr (sgB k)))
  | 0, _ | 1, _ | 2, _ | 3, _ | 4, _ | 5, _ | 6, _ | 7, _ | 8, _ | 9, _ | 10, _ | 11, _ | 12, _ | 13, _ | 14, _ | 15, _ | 16, _ | 17, _ | 18, _ => rfl
  | k + 19, h => absurd h (by omega)
theorem sameR_two (x3 x1 x2 : Ex) (k : Nat) (p1 p2 p3 : Option Addr) (c1 c2 c3 : Nat) (w5 : World) (h : x3.cnt < 100000) (h3 : IsEx 0 w5 x3 (.slice p3 x3.ks.length c3)) (h1 : IsEx 0 w5 x1 (.slice p1 x1.ks.length c1)) (h2 : IsEx 0 w5 x2 (.slice p2 x2.ks.length c2)) (g : Nat) (w : World)
    (hg : g = (w5.alloc (.cells #[.int .i64 x3.k, .int .i64 x3.op, .int .i64 x3.n, .string (bstr x3.nm), .slice p3 x3.ks.length c3, .int .i64 x3.a] 25)).heap.size)
    (hw : w = (w5.alloc (.cells #[.int .i64 x3.k, .int .i64 x3.op, .int .i64 x3.n, .string (bstr x3.nm), .slice p3 x3.ks.length c3, .int .i64 x3.a] 25)).alloc (.cells #[.int .i64 x1.k, .int .i64 x1.op, .int .i64 x1.n, .string (bstr x1.nm), .slice p1 x1.ks.length c1, .int .i64 x1.a, .int .i64 x2.k, .int .i64 x2.op, .int .i64 x2.n, .string (bstr x2.nm), .slice p2 x2.ks.length c2, .int .i64 x2.a] 25)) :
    Calls Tryz.prog 11 #[.agg #[.int .i64 x3.k, .int .i64 x3.op, .int .i64 x3.n, .string (bstr x3.nm), .slice p3 x3.ks.length c3, .int .i64 x3.a], .agg #[.int .i64 6, .int .i64 k, .int .i64 0, .string ⟨#[]⟩, .slice (some ⟨g, 0, none⟩) 2 2, .int .i64 0]] w
      fun e w' => e = .returned (.bool (x3.eqv (.mk 6 k 0 [] [x1, x2] 0))) ∧ Below w.heap.size w w' := by
  subst hg
  rw [hw]
  exact sameR_any 100000 x3 (.mk 6 k 0 [] [x1, x2] 0) _ _ _ ⟨by omega, by omega⟩ ((h3.alloc _).alloc _) (IsEx.two (h1.alloc _) (h2.alloc _) (Nat.zero_le _) 6 k 0 [] 0)
set_option maxRecDepth 100000 in
set_option maxHeartbeats 1500000 in
theorem walk (s : ByteArray) (_ : s.size ≤ maxLen) (t : ByteArray) (_ : t.size ≤ maxLen) (q : Int) (wq : (Lit.int .u8 q).wf = true) (W : World) (L0 : Laid W) : Calls Tryz.prog 3 #[.string s, .string t, .int .u8 q] W fun e w' => e = .returned (.bool true) ∧ Below W.heap.size W w' := by
  have L := Lib.hid L0
  clear L0
  go_enter Tryz.func3, Tryz.ntmps3
  by_cases h : 500 < s.size
  · go_wp2_with (go_at_call 9; (with_reducible refine (awake_any _ L).mono ?_); rintro e' w1 ⟨rfl, hb1⟩)
    go_ret
    exact ⟨rfl, by (refine Fr.below ?_; (repeat (first | (with_reducible exact Fr.refl _ _) | (with_reducible refine Fr.alloc ?_ _) | (with_reducible refine Fr.drewN ?_ _) | (with_reducible refine Fr.drew ?_) | (with_reducible refine Fr.set ?_ ?_ _ _; rotate_left; first | exact .inl rfl | (right; simp; done) | (right; simp; omega) | (right; omega)) | (with_reducible refine Fr.step ?_ (by assumption)) | (with_reducible refine Fr.stepB ?_ (by assumption)))))⟩
  by_cases h' : 500 < t.size
  · go_wp2_with (go_at_call 9; (with_reducible refine (awake_any _ L).mono ?_); rintro e' w1 ⟨rfl, hb1⟩)
    go_ret
    exact ⟨rfl, by (refine Fr.below ?_; (repeat (first | (with_reducible exact Fr.refl _ _) | (with_reducible refine Fr.alloc ?_ _) | (with_reducible refine Fr.drewN ?_ _) | (with_reducible refine Fr.drew ?_) | (with_reducible refine Fr.set ?_ ?_ _ _; rotate_left; first | exact .inl rfl | (right; simp; done) | (right; simp; omega) | (right; omega)) | (with_reducible refine Fr.step ?_ (by assumption)) | (with_reducible refine Fr.stepB ?_ (by assumption)))))⟩
  have hs : s.size ≤ 16384 := by omega
  have ht : t.size ≤ 16384 := by omega
  obtain ⟨r, hr⟩ := OfR.total s.data.toList
  obtain ⟨r2, hr2⟩ := OfR.total t.data.toList
  have HR := Lib.hid hr
  have HT := Lib.hid hr2
  cases r with
  | bad c n =>
    have hc0 : c ≠ 0 := by (have := hr.at_le.2; omega)
    clear hr
    cases r2 with
    | bad c' n' =>
      clear hr2
      go_wp2_with (first
        | (go_at_call 9; (with_reducible refine (awake_any _ L).mono ?_); rintro e' w1 ⟨rfl, hb1⟩)
        | (go_at_call 10; (with_reducible refine (of_bad s hs c n _ (L.out.below (by (refine Fr.below ?_; (repeat (first | (with_reducible exact Fr.refl _ _) | (with_reducible refine Fr.alloc ?_ _) | (with_reducible refine Fr.drewN ?_ _) | (with_reducible refine Fr.drew ?_) | (with_reducible refine Fr.set ?_ ?_ _ _; rotate_left; first | exact .inl rfl | (right; simp; done) | (right; simp; omega) | (right; omega)) | (with_reducible refine Fr.step ?_ (by assumption)) | (with_reducible refine Fr.stepB ?_ (by assumption))))))) HR.out).mono ?_); rintro e2 w2 ⟨rfl, hb2⟩; have hz2 := hb2.size; (try simp at hz2))
        | (go_at_call 10; (with_reducible refine (of_bad t ht c' n' _ (L.out.below (by (refine Fr.below ?_; (repeat (first | (with_reducible exact Fr.refl _ _) | (with_reducible refine Fr.alloc ?_ _) | (with_reducible refine Fr.drewN ?_ _) | (with_reducible refine Fr.drew ?_) | (with_reducible refine Fr.set ?_ ?_ _ _; rotate_left; first | exact .inl rfl | (right; simp; done) | (right; simp; omega) | (right; omega)) | (with_reducible refine Fr.step ?_ (by assumption)) | (with_reducible refine Fr.stepB ?_ (by assumption))))))) HT.out).mono ?_); rintro e3 w3 ⟨rfl, hb3⟩; have hz3 := hb3.size; (try simp at hz3)))
      go_ret
      exact ⟨by first | rfl | simp, by (refine Fr.below ?_; (repeat (first | (with_reducible exact Fr.refl _ _) | (with_reducible refine Fr.alloc ?_ _) | (with_reducible refine Fr.drewN ?_ _) | (with_reducible refine Fr.drew ?_) | (with_reducible refine Fr.set ?_ ?_ _ _; rotate_left; first | exact .inl rfl | (right; simp; done) | (right; simp; omega) | (right; omega)) | (with_reducible refine Fr.step ?_ (by assumption)) | (with_reducible refine Fr.stepB ?_ (by assumption)))))⟩
    | ok x2 =>
      clear hr2
      go_wp2_with (first
        | (go_at_call 9; (with_reducible refine (awake_any _ L).mono ?_); rintro e' w1 ⟨rfl, hb1⟩)
        | (go_at_call 10; (with_reducible refine (of_bad s hs c n _ (L.out.below (by (refine Fr.below ?_; (repeat (first | (with_reducible exact Fr.refl _ _) | (with_reducible refine Fr.alloc ?_ _) | (with_reducible refine Fr.drewN ?_ _) | (with_reducible refine Fr.drew ?_) | (with_reducible refine Fr.set ?_ ?_ _ _; rotate_left; first | exact .inl rfl | (right; simp; done) | (right; simp; omega) | (right; omega)) | (with_reducible refine Fr.step ?_ (by assumption)) | (with_reducible refine Fr.stepB ?_ (by assumption))))))) HR.out).mono ?_); rintro e2 w2 ⟨rfl, hb2⟩; have hz2 := hb2.size; (try simp at hz2))
        | (go_at_call 10; (with_reducible refine (of_ok t ht x2 x2.ks.length rfl _ (L.out.below (by (refine Fr.below ?_; (repeat (first | (with_reducible exact Fr.refl _ _) | (with_reducible refine Fr.alloc ?_ _) | (with_reducible refine Fr.drewN ?_ _) | (with_reducible refine Fr.drew ?_) | (with_reducible refine Fr.set ?_ ?_ _ _; rotate_left; first | exact .inl rfl | (right; simp; done) | (right; simp; omega) | (right; omega)) | (with_reducible refine Fr.step ?_ (by assumption)) | (with_reducible refine Fr.stepB ?_ (by assumption))))))) HT.out).mono ?_); rintro e3 w3 ⟨p2, c2, rfl, hx2, hb3⟩; have hz3 := hb3.size; (try simp at hz3)))
      go_ret
      exact ⟨by first | rfl | simp, by (refine Fr.below ?_; (repeat (first | (with_reducible exact Fr.refl _ _) | (with_reducible refine Fr.alloc ?_ _) | (with_reducible refine Fr.drewN ?_ _) | (with_reducible refine Fr.drew ?_) | (with_reducible refine Fr.set ?_ ?_ _ _; rotate_left; first | exact .inl rfl | (right; simp; done) | (right; simp; omega) | (right; omega)) | (with_reducible refine Fr.step ?_ (by assumption)) | (with_reducible refine Fr.stepB ?_ (by assumption)))))⟩
  | ok x1 =>
    clear hr
    cases r2 with
    | bad c' n' =>
      have hc0 : c' ≠ 0 := by (have := hr2.at_le.2; omega)
      clear hr2
      go_wp2_with (first
        | (go_at_call 9; (with_reducible refine (awake_any _ L).mono ?_); rintro e' w1 ⟨rfl, hb1⟩)
        | (go_at_call 10; (with_reducible refine (of_ok s hs x1 x1.ks.length rfl _ (L.out.below (by (refine Fr.below ?_; (repeat (first | (with_reducible exact Fr.refl _ _) | (with_reducible refine Fr.alloc ?_ _) | (with_reducible refine Fr.drewN ?_ _) | (with_reducible refine Fr.drew ?_) | (with_reducible refine Fr.set ?_ ?_ _ _; rotate_left; first | exact .inl rfl | (right; simp; done) | (right; simp; omega) | (right; omega)) | (with_reducible refine Fr.step ?_ (by assumption)) | (with_reducible refine Fr.stepB ?_ (by assumption))))))) HR.out).mono ?_); rintro e2 w2 ⟨p1, c1, rfl, hx1, hb2⟩; have hz2 := hb2.size; (try simp at hz2))
        | (go_at_call 10; (with_reducible refine (of_bad t ht c' n' _ (L.out.below (by (refine Fr.below ?_; (repeat (first | (with_reducible exact Fr.refl _ _) | (with_reducible refine Fr.alloc ?_ _) | (with_reducible refine Fr.drewN ?_ _) | (with_reducible refine Fr.drew ?_) | (with_reducible refine Fr.set ?_ ?_ _ _; rotate_left; first | exact .inl rfl | (right; simp; done) | (right; simp; omega) | (right; omega)) | (with_reducible refine Fr.step ?_ (by assumption)) | (with_reducible refine Fr.stepB ?_ (by assumption))))))) HT.out).mono ?_); rintro e3 w3 ⟨rfl, hb3⟩; have hz3 := hb3.size; (try simp at hz3)))
      go_ret
      exact ⟨by first | rfl | simp, by (refine Fr.below ?_; (repeat (first | (with_reducible exact Fr.refl _ _) | (with_reducible refine Fr.alloc ?_ _) | (with_reducible refine Fr.drewN ?_ _) | (with_reducible refine Fr.drew ?_) | (with_reducible refine Fr.set ?_ ?_ _ _; rotate_left; first | exact .inl rfl | (right; simp; done) | (right; simp; omega) | (right; omega)) | (with_reducible refine Fr.step ?_ (by assumption)) | (with_reducible refine Fr.stepB ?_ (by assumption)))))⟩
    | ok x2 =>
      clear hr2
      go_upto_region 10 with (first
        | (go_at_call 9; (with_reducible refine (awake_any _ L).mono ?_); rintro e' w1 ⟨rfl, hb1⟩)
        | (go_at_call 10; (with_reducible refine (of_ok s hs x1 x1.ks.length rfl _ (L.out.below (by (refine Fr.below ?_; (repeat (first | (with_reducible exact Fr.refl _ _) | (with_reducible refine Fr.alloc ?_ _) | (with_reducible refine Fr.drewN ?_ _) | (with_reducible refine Fr.drew ?_) | (with_reducible refine Fr.set ?_ ?_ _ _; rotate_left; first | exact .inl rfl | (right; simp; done) | (right; simp; omega) | (right; omega)) | (with_reducible refine Fr.step ?_ (by assumption)) | (with_reducible refine Fr.stepB ?_ (by assumption))))))) HR.out).mono ?_); rintro e2 w2 ⟨p1, c1, rfl, hx1, hb2⟩; have hz2 := hb2.size; (try simp at hz2))
        | (go_at_call 10; (with_reducible refine (of_ok t ht x2 x2.ks.length rfl _ (L.out.below (by (refine Fr.below ?_; (repeat (first | (with_reducible exact Fr.refl _ _) | (with_reducible refine Fr.alloc ?_ _) | (with_reducible refine Fr.drewN ?_ _) | (with_reducible refine Fr.drew ?_) | (with_reducible refine Fr.set ?_ ?_ _ _; rotate_left; first | exact .inl rfl | (right; simp; done) | (right; simp; omega) | (right; omega)) | (with_reducible refine Fr.step ?_ (by assumption)) | (with_reducible refine Fr.stepB ?_ (by assumption))))))) HT.out).mono ?_); rintro e3 w3 ⟨p2, c2, rfl, hx2, hb3⟩; have hz3 := hb3.size; (try simp at hz3)))
      obtain ⟨k, hk19, hk⟩ : ∃ k : Nat, k < 19 ∧ (wrap64 q).tmod 19 = (k : Int) := by
        have hb : 0 ≤ q ∧ q ≤ 255 := by (simp [Lit.wf, IntKind.min, IntKind.max, IntKind.bits, IntKind.signed] at wq; omega)
        have e : wrap64 q = q := w64 (by omega) (by omega)
        refine ⟨q.toNat % 19, Nat.mod_lt _ (by decide), ?_⟩
        rw [e, Int.tmod_eq_emod_of_nonneg hb.1]
        omega
      rw [hk]
      refine name_world ?_
      intro W4 hW4
      have hBS : W4.heap[w3.heap.size + 1]? = some (.cells signsC 9 (0, 0)) := by (rw [hW4]; exact heap_alloc2_new w3 _ _)
      have B2 : Blk W4 w3.heap.size (.int .i64 x2.k) (.int .i64 x2.op) (.int .i64 x2.n) (.string (bstr x2.nm)) (.slice p2 x2.ks.length c2) (.int .i64 x2.a) := by (rw [hW4]; exact (Blk.new rfl _ _ _ _ _ _).alloc _)
      have B1 : Blk W4 w2.heap.size (.int .i64 x1.k) (.int .i64 x1.op) (.int .i64 x1.n) (.string (bstr x1.nm)) (.slice p1 x1.ks.length c1) (.int .i64 x1.a) := by (rw [hW4]; exact ((((Blk.new rfl _ _ _ _ _ _).stay hb3).alloc _).alloc _))
      have X1 : IsEx 0 W4 x1 (.slice p1 x1.ks.length c1) := by (rw [hW4]; exact ((((hx1.alloc _).stay hb3).alloc _).alloc _))
      have X2 : IsEx 0 W4 x2 (.slice p2 x2.ks.length c2) := by (rw [hW4]; exact (hx2.alloc _).alloc _)
      have hB4 : Below W.heap.size W W4 := by (rw [hW4]; (refine Fr.below ?_; (repeat (first | (with_reducible exact Fr.refl _ _) | (with_reducible refine Fr.alloc ?_ _) | (with_reducible refine Fr.drewN ?_ _) | (with_reducible refine Fr.drew ?_) | (with_reducible refine Fr.set ?_ ?_ _ _; rotate_left; first | exact .inl rfl | (right; simp; done) | (right; simp; omega) | (right; omega)) | (with_reducible refine Fr.step ?_ (by assumption)) | (with_reducible refine Fr.stepB ?_ (by assumption))))))
      have hz4 : w3.heap.size + 1 < W4.heap.size := by (rw [hW4]; simp)
      have cS : W4.cell? ⟨w3.heap.size + 1, k, none⟩ = some (.string (bstr (sgB k))) := (cell_of_row _ _ _ _ _ _ hBS).trans (signs_at k hk19)
      have L4 := Lib.hid (L.out.below hB4)
      have hki : (k : Int) < 19 := by omega
      clear hW4 hBS hk wq hb1 hb2 hb3 hx1 hx2 hz2 hz3
      by_cases h16 : k = 16
      · have cS2 : W4.cell? ⟨w3.heap.size + 1, k, none⟩ = some (.string ⟨#[]⟩) := by (rw [cS, h16]; rfl)
        clear cS h16
        go_wp2
        go_ret
        exact ⟨by first | rfl | simp, hB4⟩
      · obtain ⟨sg, hsg⟩ : ∃ sg, sg = bstr (sgB k) := ⟨_, rfl⟩
        rw [← hsg] at cS
        have hne : ¬ sg = (⟨#[]⟩ : ByteArray) := by (rw [hsg]; have this : ∀ k, k < 19 → k ≠ 16 → sgB k ≠ [] := (by decide); intro e; exact this k hk19 h16 (congrArg (fun b : ByteArray => b.data.toList) e))
        have hsl : sg.size ≤ 2 := by (rw [hsg, bs_size]; have this : ∀ k, k < 19 → (sgB k).length ≤ 2 := (by decide); exact this k hk19)
        have hsgE : decide (sg = (⟨#[]⟩ : ByteArray)) = false := decide_eq_false hne
        have hsgL : sg.toList.isEmpty = false := by (rw [ByteArray.toList_eq]; cases hl : sg.data.toList with | nil => exact absurd (by (obtain ⟨d⟩ := sg; obtain ⟨l⟩ := d; simp at hl; subst hl; rfl)) hne | cons a r => rfl)
        have hzl : ((⟨#[40]⟩ : ByteArray) ++ s ++ ⟨#[10, 41]⟩ ++ sg ++ ⟨#[40]⟩ ++ t ++ ⟨#[10, 41]⟩).data.toList = 40 :: (s.data.toList ++ 10 :: 41 :: (sgB k ++ 40 :: (t.data.toList ++ [10, 41]))) := by
          rw [cat_list, cat_list, cat_list, cat_list, cat_list, cat_list, hsg]
          simp [bstr]
        have hzs : ((⟨#[40]⟩ : ByteArray) ++ s ++ ⟨#[10, 41]⟩ ++ sg ++ ⟨#[40]⟩ ++ t ++ ⟨#[10, 41]⟩).size ≤ 16384 := by
          simp only [ByteArray.size_append]
          have e1 : (⟨#[40]⟩ : ByteArray).size = 1 := rfl
          have e2 : (⟨#[10, 41]⟩ : ByteArray).size = 2 := rfl
          omega
        have HJ := Lib.hid (HR.out.joins HT.out hk19 h16)
        rw [← hzl] at HJ
        clear hsg h16 hzl hne
        rcases HJ.out with ⟨x3, hO, hE⟩ | ⟨n3, hO⟩
        · have HO := Lib.hid hO
          have HE := Lib.hid hE
          clear hO hE HJ
          have hcn3 : x3.cnt < 100000 := by (have h5 := HO.out.facts.2.1; have e5 := hzs; rw [Array.length_toList] at h5; have e6 : ∀ b : ByteArray, b.size = b.data.size := fun _ => rfl; rw [e6] at e5; omega)
          go_wp2_with (first
            | (go_at_call 10; (with_reducible refine (of_ok _ hzs x3 x3.ks.length rfl _ (L4.out.below (by (refine Fr.below ?_; (repeat (first | (with_reducible exact Fr.refl _ _) | (with_reducible refine Fr.alloc ?_ _) | (with_reducible refine Fr.drewN ?_ _) | (with_reducible refine Fr.drew ?_) | (with_reducible refine Fr.set ?_ ?_ _ _; rotate_left; first | exact .inl rfl | (right; simp; done) | (right; simp; omega) | (right; omega)) | (with_reducible refine Fr.step ?_ (by assumption)) | (with_reducible refine Fr.stepB ?_ (by assumption))))))) HO.out).mono ?_); rintro e5 w5 ⟨p3, c3, rfl, hx3, hb5⟩; have hz5 := hb5.size; (try simp at hz5); obtain ⟨bla, c0a, c1a, c2a, c3a, c4a, c5a, f0a, f1a, f2a, f3a, f4a, f5a⟩ := ((B1.stay hb5)).facts; obtain ⟨blb, c0b, c1b, c2b, c3b, c4b, c5b, f0b, f1b, f2b, f3b, f4b, f5b⟩ := ((B2.stay hb5)).facts)
            | (go_at_call 11; (with_reducible refine (sameR_two x3 x1 x2 k p1 p2 p3 c1 c2 c3 w5 hcn3 hx3 (X1.stay hb5) (X2.stay hb5) _ _ (by first | rfl | simp) (by first | rfl | simp)).mono ?_); rintro e6 w6 ⟨rfl, hb6⟩))
          go_ret
          exact ⟨by first | (rw [HE.out]; done) | (rw [HE.out]; rfl) | (simp [HE.out]; done), hB4.trans ((show Below W4.heap.size W4 _ by (refine Fr.below ?_; (repeat (first | (with_reducible exact Fr.refl _ _) | (with_reducible refine Fr.alloc ?_ _) | (with_reducible refine Fr.drewN ?_ _) | (with_reducible refine Fr.drew ?_) | (with_reducible refine Fr.set ?_ ?_ _ _; rotate_left; first | exact .inl rfl | (right; simp; done) | (right; simp; omega) | (right; omega)) | (with_reducible refine Fr.step ?_ (by assumption)) | (with_reducible refine Fr.stepB ?_ (by assumption)))))).mono hB4.size)⟩
        · have HO := Lib.hid hO
          clear hO HJ
          go_wp2_with (go_at_call 10; (with_reducible refine (of_bad _ hzs 2 n3 _ (L4.out.below (by (refine Fr.below ?_; (repeat (first | (with_reducible exact Fr.refl _ _) | (with_reducible refine Fr.alloc ?_ _) | (with_reducible refine Fr.drewN ?_ _) | (with_reducible refine Fr.drew ?_) | (with_reducible refine Fr.set ?_ ?_ _ _; rotate_left; first | exact .inl rfl | (right; simp; done) | (right; simp; omega) | (right; omega)) | (with_reducible refine Fr.step ?_ (by assumption)) | (with_reducible refine Fr.stepB ?_ (by assumption))))))) HO.out).mono ?_); rintro e5 w5 ⟨rfl, hb5⟩; have hz5 := hb5.size; (try simp at hz5))
          go_ret
          exact ⟨by first | rfl | simp, hB4.trans ((show Below W4.heap.size W4 _ by (refine Fr.below ?_; (repeat (first | (with_reducible exact Fr.refl _ _) | (with_reducible refine Fr.alloc ?_ _) | (with_reducible refine Fr.drewN ?_ _) | (with_reducible refine Fr.drew ?_) | (with_reducible refine Fr.set ?_ ?_ _ _; rotate_left; first | exact .inl rfl | (right; simp; done) | (right; simp; omega) | (right; omega)) | (with_reducible refine Fr.step ?_ (by assumption)) | (with_reducible refine Fr.stepB ?_ (by assumption)))))).mono hB4.size)⟩

set_option maxRecDepth 100000 in
theorem lifted (os : Os) (started : os.Started) (H : Type) (enc : TypeId × Value → H) :
    ReturnsInHanded {} Tryz.checked os 3 .any (fun w args => (Rows.exprJoinsSpec.pre enc Tryz.prog Tryz.f3 [] false w args ∧ laidMetH Tryz.prog laidL w) ∧ sizedMet enc Tryz.prog Tryz.f3 (OpenSpec.ofChange Rows.exprJoinsSpec) false w args)
      (Rows.exprJoinsSpec.post enc Tryz.prog Tryz.f3 false true false false) := by
  refine returnsInHanded_of_change_and (C := Tryz.checked) (X := fun w _ => laidMetH Tryz.prog laidL w) (fun _ _ _ hh h => h.of_heap hh) own started (by kernel_rfl) Tryz.func3
    (ChangeSpec.witness_shaped (enc := enc) (C := Tryz.checked) (os := os) (X := fun w _ => laidMetH Tryz.prog laidL w) false (World.doorLaid Tryz.prog 400 os) #[.string ByteArray.empty, .string ByteArray.empty, .int .u8 0] 8 rfl (World.shaped_of_RefB (by kernel_rfl) (by kernel_rfl)) (by kernel_rfl) (by kernel_rfl) (by kernel_rfl) (door_met os _)) ?_
  intro W base args ds gs before hval0 hW _ _ hL _
  have hval : ∀ (j : Nat) t v, Tryz.f3.params[j]? = some t → args[j]? = some v → Value.okWide Tryz.prog W .any base t v := hval0
  have hW' := hW
  obtain ⟨p, q, hA0, hV, rfl, hfz, hnd⟩ := hW
  have hA : DataW.TrodAll enc Tryz.prog W 0 (fun _ => true) true Tryz.f3.params.toList args.toList ds p := hA0
  rw [Tryz.params3] at hA hval
  obtain ⟨v0, v1, v2, d0, d1, d2, p0, p1, p2, rfl, rfl, rfl, h0, h1, h2⟩ := trodAll_three hA
  obtain ⟨rfl, rfl⟩ := trodVars_none hV
  obtain ⟨s, rfl, rfl, rfl, wx0⟩ := open_string Tryz.underlying9 (hval 0 9 _ rfl rfl) h0
  obtain ⟨t, rfl, rfl, rfl, wx1⟩ := open_string Tryz.underlying9 (hval 1 9 _ rfl rfl) h1
  obtain ⟨q, rfl, rfl, rfl, wx2⟩ := open_int Tryz.underlying5 (hval 2 5 _ rfl rfl) h2
  have hLaid := of_laid hL
  clear hA0 hval0
  simp only [List.append_nil] at hW'
  refine (walk s wx0 t wx1 q wx2 W hLaid).mono fun e W' ⟨he, hb⟩ => ?_
  subst he
  exact ⟨_, rfl, _, _, _, [], [], [], hW', trodAll_mk1 (shut_bool Tryz.underlying4 _), trodAll_mk3 (shut_string Tryz.underlying9 wx0) (shut_string Tryz.underlying9 wx1) (shut_int Tryz.underlying5 wx2), rfl, hb.frame _, fun h => by cases h⟩

theorem said : Rows.ExprJoinsSaid :=
  OpenClaim.holds_of_wide 3 Tryz.f3 rfl rfl rfl rfl rfl rfl rfl ⟨rfl, rfl, rfl, rfl, rfl⟩ rfl rfl rfl rfl rfl (by kernel_rfl) Tryz.func3 (by kernel_rfl)
    (of_decide_eq_true (by kernel_rfl)) (by unfold Func.isWrapper; first | (rw [if_pos (by decide +kernel)]; kernel_rfl) | (rw [if_neg (by decide +kernel)]; exact ⟨rfl, rfl⟩))
    (fun os started H enc _ => lifted os started H enc)
end ExprJoins

theorem exprJoins_card_holds : Rows.ExprJoinsCardSaid :=
  Claim7.holds_tied_plain_at .later [] _ true _ true
    ExprJoins.said (fun _ h => by cases h) (by kernel_rfl) (fun _ h => by cases h) exprJoins_row_tie rfl ⟨rfl, rfl⟩ (by kernel_rfl) rfl
    (fun f fn hf hfn => by
      obtain rfl : f = 3 := Option.some.inj ((show Tryz.prog.funcNamed "paling/palinglaw03.ExprJoins" = some 3 by kernel_rfl).symm.trans hf) |>.symm
      obtain rfl : fn = Tryz.f3 := (Option.some.inj (Tryz.func3.symm.trans hfn)).symm
      exact ⟨by kernel_rfl, fun j t ht => by
        rw [Tryz.params3] at ht
        have hm : t ∈ [9, 9, 5] := by simpa using Array.mem_of_getElem? ht
        have hall : ([9, 9, 5].all fun u => !Tryz.prog.wantsStandIn u) = true := by kernel_rfl
        exact (show Tryz.prog.wantsStandIn t = false by simpa using List.all_eq_true.1 hall t hm)⟩)
    (by kernel_rfl)
#print axioms exprJoins_card_holds
end Go.Proofs.YtngfbpmabdmkeaaGreatDoor
