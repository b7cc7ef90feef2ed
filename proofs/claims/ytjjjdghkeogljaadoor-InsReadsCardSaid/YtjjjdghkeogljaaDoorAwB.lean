/- The statements' own example (awake) comes out true. -/
import Derived.Test.YtjjjdghkeogljaaDoorAwA
import Derived.Test.YtjjjdghkeogljaaDoorRsC
import Derived.Test.YtjjjdghkeogljaaDoorRu
namespace Go.Proofs.YtjjjdghkeogljaaDoor
set_option linter.unusedSimpArgs false
set_option linter.unusedVariables false
open Go Go.RowKit Go.WideShapes

def i0 : Ic := ⟨4, 0, 2, 0, 0, 17, 0⟩
def z0 : Ic := ⟨7, 0, 0, 2, 0, 0, 0⟩
def h0 : Ic := ⟨13, 0, 0, 0, 0, 0, 0⟩
/-- What stands in memory while the example is tried. -/
structure AwS (w W : World) (p q : Nat) : Prop where
  below : Below w.heap.size w W
  ib : Ib W p (.int .i64 4) (.int .i64 0) (.int .i64 2) (.int .i64 0) (.int .i64 0) (.int .i64 17) (.int .i64 0)
  cd : W.heap[q]? = some (.cells #[.int .i64 4, .int .i64 0, .int .i64 2, .int .i64 0, .int .i64 0, .int .i64 17, .int .i64 0, .int .i64 7, .int .i64 0, .int .i64 0, .int .i64 2, .int .i64 0, .int .i64 0, .int .i64 0, .int .i64 13, .int .i64 0, .int .i64 0, .int .i64 0, .int .i64 0, .int .i64 0, .int .i64 0] 23 (0, 0))
theorem AwS.stay {w W W' : World} {p q : Nat} (h : AwS w W p q) (hb : Below W.heap.size W W') : AwS w W' p q :=
  ⟨below_ch h.below hb, h.ib.stay hb, (hb.block q (Array.getElem?_eq_some_iff.1 h.cd).1).trans h.cd⟩
theorem AwS.alloc {w W : World} {p q : Nat} (h : AwS w W p q) (o : Obj) : AwS w (W.alloc o) p q := h.stay (below1 _ _)
theorem AwS.facts {w W : World} {p q : Nat} (h : AwS w W p q) : p < W.heap.size ∧ q < W.heap.size ∧ w.heap.size ≤ W.heap.size ∧ W.cell? ⟨p, 0, none⟩ = some (.int .i64 4) ∧ W.cell? ⟨p, 1, none⟩ = some (.int .i64 0) ∧ W.cell? ⟨p, 2, none⟩ = some (.int .i64 2) ∧ W.cell? ⟨p, 3, none⟩ = some (.int .i64 0) ∧ W.cell? ⟨p, 4, none⟩ = some (.int .i64 0) ∧ W.cell? ⟨p, 5, none⟩ = some (.int .i64 17) ∧ W.cell? ⟨p, 6, none⟩ = some (.int .i64 0) ∧ W.cell? ⟨q, 7, none⟩ = some (.int .i64 7) ∧ W.cell? ⟨q, 8, none⟩ = some (.int .i64 0) ∧ W.cell? ⟨q, 9, none⟩ = some (.int .i64 0) ∧ W.cell? ⟨q, 10, none⟩ = some (.int .i64 2) ∧ W.cell? ⟨q, 11, none⟩ = some (.int .i64 0) ∧ W.cell? ⟨q, 12, none⟩ = some (.int .i64 0) ∧ W.cell? ⟨q, 13, none⟩ = some (.int .i64 0) := by
  obtain ⟨b, c0, c1, c2, c3, c4, c5, c6, _⟩ := h.ib.facts
  refine ⟨b, (Array.getElem?_eq_some_iff.1 h.cd).1, h.below.size, c0, c1, c2, c3, c4, c5, c6, ?_, ?_, ?_, ?_, ?_, ?_, ?_⟩ <;> rw [cell_of_row _ _ _ _ _ _ h.cd] <;> rfl
theorem at7_of {W : World} {q : Nat} (cd : W.heap[q]? = some (.cells #[.int .i64 4, .int .i64 0, .int .i64 2, .int .i64 0, .int .i64 0, .int .i64 17, .int .i64 0, .int .i64 7, .int .i64 0, .int .i64 0, .int .i64 2, .int .i64 0, .int .i64 0, .int .i64 0, .int .i64 13, .int .i64 0, .int .i64 0, .int .i64 0, .int .i64 0, .int .i64 0, .int .i64 0] 23 (0, 0))) : At7 W q 0 i0 ∧ At7 W q 7 z0 ∧ At7 W q 14 h0 := by
  refine ⟨⟨?_, ?_, ?_, ?_, ?_, ?_, ?_⟩, ⟨?_, ?_, ?_, ?_, ?_, ?_, ?_⟩, ⟨?_, ?_, ?_, ?_, ?_, ?_, ?_⟩⟩ <;> rw [cell_of_row _ _ _ _ _ _ cd] <;> rfl
theorem ok_i0 : Ok6 i0 := by unfold Ok6 In6 i0; decide
theorem ok_z0 : Ok6 z0 := by unfold Ok6 In6 z0; decide
theorem ok_h0 : Ok6 h0 := by unfold Ok6 In6 h0; decide
theorem AwS.code {w W : World} {p q : Nat} (h : AwS w W p q) : CodeAt W (some ⟨q, 0, none⟩) [i0, z0, h0] := by
  obtain ⟨h1, h2, h3⟩ := at7_of h.cd
  have hq := (Array.getElem?_eq_some_iff.1 h.cd).1
  intro i x hx
  match i, hx with
  | 0, hx => cases hx; exact ⟨q, 0, rfl, hq, h1, ok_i0⟩
  | 1, hx => cases hx; exact ⟨q, 0, rfl, hq, h2, ok_z0⟩
  | 2, hx => cases hx; exact ⟨q, 0, rfl, hq, h3, ok_h0⟩
  | k + 3, hx => simp at hx
theorem AwS.code2 {w W : World} {p q : Nat} (h : AwS w W p q) : CodeAt W (some ⟨q, 0, none⟩) [i0, z0] := by
  obtain ⟨h1, h2, h3⟩ := at7_of h.cd
  have hq := (Array.getElem?_eq_some_iff.1 h.cd).1
  intro i x hx
  match i, hx with
  | 0, hx => cases hx; exact ⟨q, 0, rfl, hq, h1, ok_i0⟩
  | 1, hx => cases hx; exact ⟨q, 0, rfl, hq, h2, ok_z0⟩
  | k + 2, hx => simp at hx
theorem AwS.code1 {w W : World} {p q : Nat} (h : AwS w W p q) : CodeAt W (some ⟨q, 14, none⟩) [h0] := by
  obtain ⟨h1, h2, h3⟩ := at7_of h.cd
  have hq := (Array.getElem?_eq_some_iff.1 h.cd).1
  intro i x hx
  match i, hx with
  | 0, hx => cases hx; exact ⟨q, 14, rfl, hq, h3, ok_h0⟩
  | k + 1, hx => simp at hx
theorem dig2 : dig 2 = ⟨#[50]⟩ := by simp [dig, Lib.itoa, Lib.decDigits]
theorem dig0 : dig 0 = ⟨#[48]⟩ := by simp [dig, Lib.itoa, Lib.decDigits]
theorem dig17 : dig 17 = ⟨#[49, 55]⟩ := by simp [dig, Lib.itoa, Lib.decDigits]
theorem show_i0 : showM i0 = ⟨#[108, 111, 97, 100, 32, 114, 50, 32, 49, 55, 32, 114, 48]⟩ := by
  apply bytes_inj
  rw [show_l4 (x := i0) rfl ok_i0]
  have e1 : dig i0.d = ⟨#[50]⟩ := dig2
  have e2 : dig i0.n = ⟨#[49, 55]⟩ := dig17
  have e3 : atT i0 = ⟨#[32, 114]⟩ ++ ⟨#[48]⟩ := by
    have e : atT i0 = if i0.a < 0 then ⟨#[]⟩ else ⟨#[32, 114]⟩ ++ dig i0.a := rfl
    rw [e, if_neg (by decide)]
    exact congrArg _ dig0
  rw [e1, e2, e3]
  rfl
theorem text_h0 : bst (textTo [h0] 1) = ⟨#[48, 32, 104, 97, 108, 116, 10]⟩ := by
  have e : textTo [h0] 1 = lineL 0 h0 := by
    rw [textTo_step (c := [h0]) (k := 0) rfl]
    rfl
  have e2 : (showM h0).data.toList = [104, 97, 108, 116] := show_l13 (x := h0) rfl ok_h0
  rw [e]
  unfold lineL
  rw [e2, show ((0 : Nat) : Int) = 0 from rfl, dig0]
  rfl
theorem check_a : checkB [i0, z0, h0] 3 0 = true := by decide
theorem aw_check_a (p : Option Addr) (cap : Nat) (w : World) (T : Kinds w) (hc : CodeAt w p [i0, z0, h0]) : Calls Tryd.prog 17 #[.slice p 3 cap, .agg #[.int .i64 3, .int .i64 0]] w fun e w' => e = .returned (.bool true) ∧ Below w.heap.size w w' := check_is check_a rfl w T hc
theorem check_b : checkB [i0, z0, h0] 2 0 = false := by decide
theorem aw_check_b (p : Option Addr) (cap : Nat) (w : World) (T : Kinds w) (hc : CodeAt w p [i0, z0, h0]) : Calls Tryd.prog 17 #[.slice p 3 cap, .agg #[.int .i64 2, .int .i64 0]] w fun e w' => e = .returned (.bool false) ∧ Below w.heap.size w w' := check_is check_b rfl w T hc
theorem check_c : checkB [i0, z0] 3 0 = false := by decide
theorem aw_check_c (p : Option Addr) (cap : Nat) (w : World) (T : Kinds w) (hc : CodeAt w p [i0, z0]) : Calls Tryd.prog 17 #[.slice p 2 cap, .agg #[.int .i64 3, .int .i64 0]] w fun e w' => e = .returned (.bool false) ∧ Below w.heap.size w w' := check_is check_c rfl w T hc

theorem aw_show (w : World) (L : Laid w) : Calls Tryd.prog 15 #[.agg #[.int .i64 4, .int .i64 0, .int .i64 2, .int .i64 0, .int .i64 0, .int .i64 17, .int .i64 0]] w fun e w' => e = .returned (.string ⟨#[108, 111, 97, 100, 32, 114, 50, 32, 49, 55, 32, 114, 48]⟩) ∧ Below w.heap.size w w' := by
  have h := show_any i0 w (Lib.hid L) (Lib.hid ok_i0)
  rw [show_i0] at h
  exact h
theorem aw_text (p : Option Addr) (cap : Nat) (w : World) (L : Laid w) (hc : CodeAt w p [h0]) : Calls Tryd.prog 19 #[.slice p 1 cap] w fun e w' => e = .returned (.string ⟨#[48, 32, 104, 97, 108, 116, 10]⟩) ∧ Below w.heap.size w w' := by
  have h := text_any [h0] p 1 cap w (Lib.hid rfl) (by omega) (Lib.hid L) (Lib.hid hc)
  rw [text_h0] at h
  exact h
theorem aw_uses (w : World) (T : Kinds w) : Calls Tryd.prog 9 #[.agg #[.int .i64 3, .int .i64 0, .int .i64 3, .int .i64 1, .int .i64 3, .int .i64 0, .int .i64 0]] w (RowP w [1, 3]) := by
  have h := uses_any ⟨3, 0, 3, 1, 3, 0, 0⟩ w T
  rw [show usesM ⟨3, 0, 3, 1, 3, 0, 0⟩ = [1, 3] by decide] at h
  exact h
theorem aw_def1 (w : World) (T : Kinds w) : Calls Tryd.prog 11 #[.agg #[.int .i64 4, .int .i64 0, .int .i64 2, .int .i64 0, .int .i64 0, .int .i64 17, .int .i64 0]] w fun e w' => e = .returned (.int .i64 2) ∧ Below w.heap.size w w' := by
  have h := def_any i0 w T
  rw [show defM i0 = 2 by decide] at h
  exact h
theorem aw_def2 (w : World) (T : Kinds w) : Calls Tryd.prog 11 #[.agg #[.int .i64 7, .int .i64 0, .int .i64 0, .int .i64 2, .int .i64 0, .int .i64 0, .int .i64 0]] w fun e w' => e = .returned (.int .i64 (-1)) ∧ Below w.heap.size w w' := by
  have h := def_any z0 w T
  rw [show defM z0 = -1 by decide] at h
  exact h
theorem aw_next (w : World) (T : Kinds w) : Calls Tryd.prog 13 #[.agg #[.int .i64 7, .int .i64 0, .int .i64 0, .int .i64 2, .int .i64 0, .int .i64 0, .int .i64 0], .int .i64 1] w (RowP w [0, 2]) := by
  have h := next_any z0 1 w (by omega) (by omega) T
  rw [show nextM z0 1 = [0, 2] by decide] at h
  exact h
theorem aw_ints {B : Nat} {w : World} {v : Value} {a b : Int} (h : Hid (Rw B w v [a, b])) : Calls Tryd.prog 8 #[v, .slice (some ⟨w.heap.size, 0, none⟩) 2 2] (w.alloc (.cells #[.int .i64 a, .int .i64 b] 3)) fun e w' => e = .returned (.bool true) ∧ Below (w.alloc (.cells #[.int .i64 a, .int .i64 b] 3)).heap.size (w.alloc (.cells #[.int .i64 a, .int .i64 b] 3)) w' :=
  ints_yes (h.out.alloc _) (Rw.new 0 w [a, b] _ _ rfl (by omega) (by omega) rfl) (by simp) rfl
set_option maxRecDepth 100000 in
set_option maxHeartbeats 1000000 in
theorem awake_any (w : World) (L : Hid (Laid w)) : Calls Tryd.prog 7 #[] w fun e w' => e = .returned (.bool true) ∧ Below w.heap.size w w' := by
  go_enter Tryd.func7, Tryd.ntmps7
  go_upto_region 3 with (fail)
  refine name_world ?_
  intro W1 hW1
  have HS0 : Hid (AwS w W1 w.heap.size (w.heap.size + 1)) := Lib.hid (by
    rw [hW1]
    refine ⟨?_, ?_, ?_⟩
    · exact below2 _ _ _
    · exact (Ib.new rfl _ _ _ _ _ _ _).alloc _
    · have := heap_alloc_new (w.alloc (.cells #[.int .i64 4, .int .i64 0, .int .i64 2, .int .i64 0, .int .i64 0, .int .i64 17, .int .i64 0] 23)) (.cells #[.int .i64 4, .int .i64 0, .int .i64 2, .int .i64 0, .int .i64 0, .int .i64 17, .int .i64 0, .int .i64 7, .int .i64 0, .int .i64 0, .int .i64 2, .int .i64 0, .int .i64 0, .int .i64 0, .int .i64 13, .int .i64 0, .int .i64 0, .int .i64 0, .int .i64 0, .int .i64 0, .int .i64 0] 23)
      simpa using this)
  clear hW1
  obtain ⟨b0, b1, b2, c0, c1, c2, c3, c4, c5, c6, d0, d1, d2, d3, d4, d5, d6⟩ := HS0.out.facts
  go_wp2_with (first
    | (go_at_call 15; (with_reducible refine (aw_show _ (L.out.below HS0.out.below)).mono ?_); rintro e1 w1 ⟨rfl, hb1⟩; have HS1 := Lib.hid (HS0.out.stay hb1); clear hb1)
    | (go_at_call 17; (with_reducible refine (aw_check_a _ _ _ (L.out.below HS1.out.below).kin HS1.out.code).mono ?_); rintro e2 w2 ⟨rfl, hb2⟩; have HS2 := Lib.hid (HS1.out.stay hb2); clear hb2)
    | (go_at_call 17; (with_reducible refine (aw_check_b _ _ _ (L.out.below HS2.out.below).kin HS2.out.code).mono ?_); rintro e3 w3 ⟨rfl, hb3⟩; have HS3 := Lib.hid (HS2.out.stay hb3); clear hb3)
    | (go_at_call 17; (with_reducible refine (aw_check_c _ _ _ (L.out.below HS3.out.below).kin HS3.out.code2).mono ?_); rintro e4 w4 ⟨rfl, hb4⟩; have HS4 := Lib.hid (HS3.out.stay hb4); clear hb4)
    | (go_at_call 9; (with_reducible refine (aw_uses _ (L.out.below HS4.out.below).kin).mono ?_); rintro e5 w5 ⟨v5, rfl, hr5, hb5⟩; have HR5 := Lib.hid hr5; have HS5 := Lib.hid (HS4.out.stay hb5); clear hr5 hb5)
    | (go_at_call 8; (with_reducible refine (aw_ints HR5).mono ?_); rintro e6 w6 ⟨rfl, hb6⟩; have HS6 := Lib.hid ((HS5.out.alloc _).stay hb6); clear hb6; obtain ⟨b0', b1', b2', c0', c1', c2', c3', c4', c5', c6', -⟩ := HS6.out.facts)
    | (go_at_call 11; (with_reducible refine (aw_def1 _ (L.out.below HS6.out.below).kin).mono ?_); rintro e7 w7 ⟨rfl, hb7⟩; have HS7 := Lib.hid (HS6.out.stay hb7); clear hb7; obtain ⟨p0, p1, p2, -, -, -, -, -, -, -, p3, p4, p5, p6, p7, p8, p9⟩ := HS7.out.facts)
    | (go_at_call 11; (with_reducible refine (aw_def2 _ (L.out.below HS7.out.below).kin).mono ?_); rintro e8 w8 ⟨rfl, hb8⟩; have HS8 := Lib.hid (HS7.out.stay hb8); clear hb8; obtain ⟨r0, r1, r2, -, -, -, -, -, -, -, r3, r4, r5, r6, r7, r8, r9⟩ := HS8.out.facts)
    | (go_at_call 13; (with_reducible refine (aw_next _ (L.out.below HS8.out.below).kin).mono ?_); rintro e9 w9 ⟨v9, rfl, hr9, hb9⟩; have HR9 := Lib.hid hr9; have HS9 := Lib.hid (HS8.out.stay hb9); clear hr9 hb9)
    | (go_at_call 8; (with_reducible refine (aw_ints HR9).mono ?_); rintro e10 w10 ⟨rfl, hb10⟩; have HS10 := Lib.hid ((HS9.out.alloc _).stay hb10); clear hb10)
    | (go_at_call 19; (with_reducible refine (aw_text _ _ _ (L.out.below HS10.out.below) HS10.out.code1).mono ?_); rintro e11 w11 ⟨rfl, hb11⟩; have HS11 := Lib.hid (HS10.out.stay hb11); clear hb11))
  go_ret
  exact ⟨rfl, HS11.out.below⟩
end Go.Proofs.YtjjjdghkeogljaaDoor
