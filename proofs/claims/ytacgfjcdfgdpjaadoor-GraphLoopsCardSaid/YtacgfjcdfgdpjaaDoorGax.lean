/- awake, walked. -/
import Derived.Test.YtacgfjcdfgdpjaaDoorGaw
namespace Go.Proofs.YtacgfjcdfgdpjaaDoor
set_option linter.unusedSimpArgs false
set_option linter.unusedVariables false
open Go Go.RowKit Gm

theorem rv_cells {W : World} {g k : Nat} {cs : Array Value} {T : TypeId} {F : Nat → Value} (h : W.heap[g]? = some (.cells cs T (0, 0))) (hF : ∀ i, i < k → cs[i]? = some (F i)) : RV W (some ⟨g, 0, none⟩) k F := fun i hi => by
  refine ⟨g, 0, rfl, (Array.getElem?_eq_some_iff.1 h).1, ?_⟩
  rw [Nat.zero_add, cell_of_row _ _ _ _ _ _ h]
  exact hF i hi
theorem code5 {W : World} {g : Nat} (h : W.heap[g]? = some (.cells #[.int .i64 7, .int .i64 0, .int .i64 0, .int .i64 0, .int .i64 0, .int .i64 0, .int .i64 3, .int .i64 0, .int .i64 0, .int .i64 0, .int .i64 0, .int .i64 0, .int .i64 0, .int .i64 0, .int .i64 6, .int .i64 0, .int .i64 0, .int .i64 0, .int .i64 0, .int .i64 0, .int .i64 0, .int .i64 13, .int .i64 0, .int .i64 0, .int .i64 0, .int .i64 0, .int .i64 0, .int .i64 0, .int .i64 0, .int .i64 0, .int .i64 0, .int .i64 0, .int .i64 0, .int .i64 0, .int .i64 0] 37 (0, 0))) : CodeAt W (some ⟨g, 0, none⟩) c0 := fun i x hx => by
  have hl : g < W.heap.size := (Array.getElem?_eq_some_iff.1 h).1
  have hi : i < 5 := (List.getElem?_eq_some_iff.1 hx).1
  have hc : i = 0 ∨ i = 1 ∨ i = 2 ∨ i = 3 ∨ i = 4 := by omega
  rcases hc with rfl | rfl | rfl | rfl | rfl <;> (cases hx; refine ⟨g, 0, rfl, hl, ⟨?_, ?_, ?_, ?_, ?_, ?_, ?_⟩, by unfold Ok6 In6; decide⟩ <;> rw [cell_of_row _ _ _ _ _ _ h] <;> rfl)
section
variable {w : World} {q : Option Addr} {cq : Nat} {S : Nat → Value}
theorem aw_rows1 (h : Hid (RV w q 1 S ∧ RowIn w (S 0) [0, 1, 2])) : Calls Tryd.prog 11 #[.slice q 1 cq, .slice (some ⟨w.heap.size + 1, 0, none⟩) 1 1] ((w.alloc (.cells #[.int .i64 0, .int .i64 1, .int .i64 2] 3)).alloc (.cells #[.slice (some ⟨w.heap.size, 0, none⟩) 3 3] 34)) fun e w' => e = .returned (.bool true) ∧ Below w.heap.size w w' := by
  obtain ⟨X, hX⟩ : ∃ X, (w.alloc (.cells #[.int .i64 0, .int .i64 1, .int .i64 2] 3)).alloc (.cells #[.slice (some ⟨w.heap.size, 0, none⟩) 3 3] 34) = X := ⟨_, rfl⟩
  have hb : Below w.heap.size w X := hX ▸ ((Below.refl _ _).alloc (Nat.le_refl _) _).alloc (by simp) _
  have h1 : X.heap[w.heap.size]? = some (.cells #[.int .i64 0, .int .i64 1, .int .i64 2] 3 (0, 0)) := hX ▸ (Below.heap_alloc _ _ _ (by simp)).trans (heap_alloc_new w _)
  have h2 : X.heap[w.heap.size + 1]? = some (.cells #[.slice (some ⟨w.heap.size, 0, none⟩) 3 3] 34 (0, 0)) := by
    have := heap_alloc_new (w.alloc (.cells #[.int .i64 0, .int .i64 1, .int .i64 2] 3)) (.cells #[.slice (some ⟨w.heap.size, 0, none⟩) 3 3] 34)
    rw [hX] at this
    simpa using this
  rw [hX]
  have k1 : RV X (some ⟨w.heap.size + 1, 0, none⟩) 1 (fun _ => .slice (some ⟨w.heap.size, 0, none⟩) 3 3) := rv_cells h2 fun i hi => by
    have e : i = 0 := by omega
    subst e
    rfl
  have k2 : ∀ i, i < 1 → RowIn X (S i) [0, 1, 2] := fun i hi => by
    have e : i = 0 := by omega
    subst e
    exact h.out.2.stay hb
  refine (rowsS_any (S' := fun _ => .slice (some ⟨w.heap.size, 0, none⟩) 3 3) (A := fun _ => [0, 1, 2]) (B := fun _ => [0, 1, 2]) (Lib.hid (h.out.1.stay hb)) (Lib.hid k1) (Lib.hid fun i hi => ⟨k2 i hi, by decide⟩) (Lib.hid fun i hi => ⟨_, 3, rfl, rv_cells h1 fun i hi => ?_⟩) (by decide)).mono ?_
  · have : i = 0 ∨ i = 1 ∨ i = 2 := by (try simp at hi); omega
    rcases this with rfl | rfl | rfl <;> rfl
  · rintro e w' ⟨b, rfl, h3, h4⟩
    exact ⟨by rw [h3.2 ⟨rfl, fun _ _ => rfl⟩], hb.trans (h4.mono hb.size)⟩
theorem aw_ints (h : Hid (RV w q 5 (lv [1, 1, 1, 0, 0]))) : Calls Tryd.prog 18 #[.slice q 5 cq, .slice (some ⟨w.heap.size, 0, none⟩) 5 5] (w.alloc (.cells #[.int .i64 1, .int .i64 1, .int .i64 1, .int .i64 0, .int .i64 0] 3)) fun e w' => e = .returned (.bool true) ∧ Below w.heap.size w w' := by
  have hb := below1 w (.cells #[.int .i64 1, .int .i64 1, .int .i64 1, .int .i64 0, .int .i64 0] 3)
  refine (ints_any (l := [1, 1, 1, 0, 0]) (k := [1, 1, 1, 0, 0]) (Lib.hid (h.out.stay hb)) (Lib.hid (rv_cells (heap_alloc_new w _) fun i hi => ?_)) (by decide)).mono ?_
  · have : i = 0 ∨ i = 1 ∨ i = 2 ∨ i = 3 ∨ i = 4 := by (try simp at hi); omega
    rcases this with rfl | rfl | rfl | rfl | rfl <;> rfl
  · rintro e w' ⟨b, rfl, h3, h4⟩
    exact ⟨by rw [h3.2 rfl], hb.trans (h4.mono hb.size)⟩
theorem aw_bools1 (h : Hid (RV w q 5 (bv fun j => decide (j ≤ 3)))) : Calls Tryd.prog 8 #[.slice q 5 cq, .slice (some ⟨w.heap.size, 0, none⟩) 5 5] (w.alloc (.cells #[.bool true, .bool true, .bool true, .bool true, .bool false] 4)) fun e w' => e = .returned (.bool true) ∧ Below w.heap.size w w' := by
  have hb := below1 w (.cells #[.bool true, .bool true, .bool true, .bool true, .bool false] 4)
  refine (bools_any (k := fun j => decide (j ≤ 3)) (Lib.hid (h.out.stay hb)) (Lib.hid (rv_cells (heap_alloc_new w _) fun i hi => ?_)) (by decide)).mono ?_
  · have : i = 0 ∨ i = 1 ∨ i = 2 ∨ i = 3 ∨ i = 4 := by (try simp at hi); omega
    rcases this with rfl | rfl | rfl | rfl | rfl <;> rfl
  · rintro e w' ⟨b, rfl, h3, h4⟩
    exact ⟨by rw [h3.2 ⟨rfl, fun _ _ => rfl⟩], hb.trans (h4.mono hb.size)⟩
theorem aw_bools2 (h : Hid (RV w q 5 (bv fun j => decide (j ≤ 2)))) : Calls Tryd.prog 8 #[.slice q 5 cq, .slice (some ⟨w.heap.size, 0, none⟩) 5 5] (w.alloc (.cells #[.bool true, .bool true, .bool true, .bool false, .bool false] 4)) fun e w' => e = .returned (.bool true) ∧ Below w.heap.size w w' := by
  have hb := below1 w (.cells #[.bool true, .bool true, .bool true, .bool false, .bool false] 4)
  refine (bools_any (k := fun j => decide (j ≤ 2)) (Lib.hid (h.out.stay hb)) (Lib.hid (rv_cells (heap_alloc_new w _) fun i hi => ?_)) (by decide)).mono ?_
  · have : i = 0 ∨ i = 1 ∨ i = 2 ∨ i = 3 ∨ i = 4 := by (try simp at hi); omega
    rcases this with rfl | rfl | rfl | rfl | rfl <;> rfl
  · rintro e w' ⟨b, rfl, h3, h4⟩
    exact ⟨by rw [h3.2 ⟨rfl, fun _ _ => rfl⟩], hb.trans (h4.mono hb.size)⟩
theorem at5 (w : World) (a b c d e : Obj) : (((((w.alloc a).alloc b).alloc c).alloc d).alloc e).heap[w.heap.size]? = some a ∧ (((((w.alloc a).alloc b).alloc c).alloc d).alloc e).heap[w.heap.size + 1]? = some b ∧ (((((w.alloc a).alloc b).alloc c).alloc d).alloc e).heap[w.heap.size + 1 + 1]? = some c ∧ (((((w.alloc a).alloc b).alloc c).alloc d).alloc e).heap[w.heap.size + 1 + 1 + 1]? = some d ∧ (((((w.alloc a).alloc b).alloc c).alloc d).alloc e).heap[w.heap.size + 1 + 1 + 1 + 1]? = some e := by
  refine ⟨?_, ?_, ?_, ?_, ?_⟩ <;> simp only [al_heap, Array.getElem?_push, Array.size_push] <;> repeat (first | rw [if_pos rfl] | rw [if_pos trivial] | rw [if_neg (by omega)])
theorem aw_rows2 (h : Hid (RV w q 5 S ∧ ∀ i, i < 5 → RowIn w (S i) ([[2], [0], [1], [0], []].getD i []))) : Calls Tryd.prog 11 #[.slice q 5 cq, .slice (some ⟨w.heap.size + 1 + 1 + 1 + 1, 0, none⟩) 5 5] (((((w.alloc (.cells #[.int .i64 2] 3)).alloc (.cells #[.int .i64 0] 3)).alloc (.cells #[.int .i64 1] 3)).alloc (.cells #[.int .i64 0] 3)).alloc (.cells #[.slice (some ⟨w.heap.size, 0, none⟩) 1 1, .slice (some ⟨w.heap.size + 1, 0, none⟩) 1 1, .slice (some ⟨w.heap.size + 1 + 1, 0, none⟩) 1 1, .slice (some ⟨w.heap.size + 1 + 1 + 1, 0, none⟩) 1 1, .slice none 0 0] 34)) fun e w' => e = .returned (.bool true) ∧ Below w.heap.size w w' := by
  obtain ⟨h0, h1, h2, h3, h4⟩ := at5 w (.cells #[.int .i64 2] 3) (.cells #[.int .i64 0] 3) (.cells #[.int .i64 1] 3) (.cells #[.int .i64 0] 3) (.cells #[.slice (some ⟨w.heap.size, 0, none⟩) 1 1, .slice (some ⟨w.heap.size + 1, 0, none⟩) 1 1, .slice (some ⟨w.heap.size + 1 + 1, 0, none⟩) 1 1, .slice (some ⟨w.heap.size + 1 + 1 + 1, 0, none⟩) 1 1, .slice none 0 0] 34)
  obtain ⟨X, hX⟩ : ∃ X, (((((w.alloc (.cells #[.int .i64 2] 3)).alloc (.cells #[.int .i64 0] 3)).alloc (.cells #[.int .i64 1] 3)).alloc (.cells #[.int .i64 0] 3)).alloc (.cells #[.slice (some ⟨w.heap.size, 0, none⟩) 1 1, .slice (some ⟨w.heap.size + 1, 0, none⟩) 1 1, .slice (some ⟨w.heap.size + 1 + 1, 0, none⟩) 1 1, .slice (some ⟨w.heap.size + 1 + 1 + 1, 0, none⟩) 1 1, .slice none 0 0] 34)) = X := ⟨_, rfl⟩
  have hb : Below w.heap.size w X := hX ▸ ((((((Below.refl _ _).alloc (Nat.le_refl _) _).alloc (by simp) _).alloc (by simp; omega) _).alloc (by simp; omega) _).alloc (by simp; omega) _)
  rw [hX] at h0 h1 h2 h3 h4 ⊢
  have one : ∀ (g : Nat) (z : Nat), X.heap[g]? = some (.cells #[.int .i64 (z : Int)] 3 (0, 0)) → RowIn X (.slice (some ⟨g, 0, none⟩) 1 1) [z] := fun g z hg => ⟨_, 1, rfl, rv_cells hg fun i hi => by
    have e : i = 0 := by simp at hi; omega
    subst e
    rfl⟩
  have k1 : RV X (some ⟨w.heap.size + 1 + 1 + 1 + 1, 0, none⟩) 5 (fun i => (#[.slice (some ⟨w.heap.size, 0, none⟩) 1 1, .slice (some ⟨w.heap.size + 1, 0, none⟩) 1 1, .slice (some ⟨w.heap.size + 1 + 1, 0, none⟩) 1 1, .slice (some ⟨w.heap.size + 1 + 1 + 1, 0, none⟩) 1 1, .slice none 0 0] : Array Value).getD i undef) := rv_cells h4 fun i hi => by
    have : i = 0 ∨ i = 1 ∨ i = 2 ∨ i = 3 ∨ i = 4 := by omega
    rcases this with rfl | rfl | rfl | rfl | rfl <;> rfl
  refine (rowsS_any (A := fun i => [[2], [0], [1], [0], []].getD i []) (B := fun i => [[2], [0], [1], [0], []].getD i []) (Lib.hid (h.out.1.stay hb)) (Lib.hid k1) (Lib.hid fun i hi => ⟨(h.out.2 i hi).stay hb, ?_⟩) (Lib.hid fun i hi => ?_) (by decide)).mono ?_
  · have : i = 0 ∨ i = 1 ∨ i = 2 ∨ i = 3 ∨ i = 4 := by omega
    rcases this with rfl | rfl | rfl | rfl | rfl <;> decide
  · have : i = 0 ∨ i = 1 ∨ i = 2 ∨ i = 3 ∨ i = 4 := by omega
    rcases this with rfl | rfl | rfl | rfl | rfl
    · exact one _ 2 h0
    · exact one _ 0 h1
    · exact one _ 1 h2
    · exact one _ 0 h3
    · exact ⟨none, 0, rfl, RV.none _ _ _⟩
  · rintro e w' ⟨b, rfl, h3, h4⟩
    exact ⟨by rw [h3.2 ⟨rfl, fun _ _ => rfl⟩], hb.trans (h4.mono hb.size)⟩
end
set_option maxRecDepth 100000 in
set_option maxHeartbeats 8000000 in
theorem awake_any {W : World} (T : Hid (Kinds W)) : Calls Tryd.prog 7 #[] W fun e w' => e = .returned (.bool true) ∧ Below W.heap.size W w' := by
  go_enter Tryd.func7, Tryd.ntmps7
  go_upto_region 2 with (fail)
  refine name_world ?_
  intro V hV
  obtain ⟨g, hg⟩ : ∃ g, W.heap.size = g := ⟨_, rfl⟩
  have HV : Hid (Below W.heap.size W V ∧ CodeAt V (some ⟨g, 0, none⟩) c0 ∧ Kinds V) := Lib.hid (by
    rw [hV, ← hg]
    exact ⟨below1 _ _, code5 (heap_alloc_new W _), T.out.below (below1 _ _)⟩)
  try rw [hg]
  clear hV hg
  have C0 := Lib.hid HV.out.2.1
  have T0 := Lib.hid HV.out.2.2
  go_upto_region 3 with (go_at_call 14; ((with_reducible refine (aw_domin C0 T0).mono ?_); rintro e1 w1 ⟨q1, cq1, S1, rfl, h1, ⟨q2, c2, e2, h2⟩, hb1⟩; have H1 := Lib.hid (And.intro h1 (And.intro h2 hb1)); have HE := Lib.hid e2; have C1 := Lib.hid (C0.out.stay hb1); have T1 := Lib.hid (T0.out.below hb1); clear h1 h2 e2 hb1))
  go_wp2_with (first
    | (go_at_call 16; ((with_reducible refine (aw_loops C1 T1).mono ?_); rintro e2 w2 ⟨q3, cq3, S3, rfl, h3, h4, hb2⟩; have H2 := Lib.hid (And.intro h3 h4); have HB2 := Lib.hid hb2; have C2 := Lib.hid (C1.out.stay hb2); have T2 := Lib.hid (T1.out.below hb2); clear h3 h4 hb2))
    | (go_at_call 11; ((with_reducible refine (aw_rows1 H2).mono ?_); rintro e3 w3 ⟨rfl, hb3⟩; have HB3 := Lib.hid hb3; have C3 := Lib.hid (C2.out.stay hb3); have T3 := Lib.hid (T2.out.below hb3); clear hb3))
    | (go_at_call 19; ((with_reducible refine (aw_depth C3 T3).mono ?_); rintro e4 w4 ⟨q4, cq4, rfl, h4, hb4⟩; have H4 := Lib.hid h4; have HB4 := Lib.hid hb4; have C4 := Lib.hid (C3.out.stay hb4); have T4 := Lib.hid (T3.out.below hb4); clear h4 hb4))
    | (go_at_call 18; ((with_reducible refine (aw_ints H4).mono ?_); rintro e5 w5 ⟨rfl, hb5⟩; have HB5 := Lib.hid hb5; have C5 := Lib.hid (C4.out.stay hb5); have T5 := Lib.hid (T4.out.below hb5); clear hb5))
    | (go_at_call 9; ((with_reducible refine (aw_reach C5 T5).mono ?_); rintro e6 w6 ⟨q6, cq6, rfl, h6, hb6⟩; have H6 := Lib.hid h6; have HB6 := Lib.hid hb6; have C6 := Lib.hid (C5.out.stay hb6); have T6 := Lib.hid (T5.out.below hb6); clear h6 hb6))
    | (go_at_call 8; ((with_reducible refine (aw_bools1 H6).mono ?_); rintro e7 w7 ⟨rfl, hb7⟩; have HB7 := Lib.hid hb7; have C7 := Lib.hid (C6.out.stay hb7); have T7 := Lib.hid (T6.out.below hb7); clear hb7))
    | (go_at_call 12; ((with_reducible refine (aw_preds C7 T7).mono ?_); rintro e8 w8 ⟨q8, cq8, S8, rfl, h8, h8b, hb8⟩; have H8 := Lib.hid (And.intro h8 h8b); have HB8 := Lib.hid hb8; have C8 := Lib.hid (C7.out.stay hb8); have T8 := Lib.hid (T7.out.below hb8); clear h8 h8b hb8))
    | (go_at_call 11; ((with_reducible refine (aw_rows2 H8).mono ?_); rintro e9 w9 ⟨rfl, hb9⟩; have HB9 := Lib.hid (below_ch (below_ch (below_ch (below_ch (below_ch (below_ch (below_ch HB2.out HB3.out) HB4.out) HB5.out) HB6.out) HB7.out) HB8.out) hb9); have hrd := (H1.out.1.stay HB9.out) 2 (by decide); obtain ⟨gd, od, rfl, hgd, id2⟩ := hrd; rw [HE.out] at id2; have HD := Lib.hid (H1.out.2.1.stay HB9.out); clear hb9))
    | (go_at_call 8; ((with_reducible refine (aw_bools2 HD).mono ?_); rintro e10 w10 ⟨rfl, hb10⟩; have HB10 := Lib.hid hb10; clear hb10)))
  go_ret
  exact ⟨rfl, HV.out.1.trans ((below_ch H1.out.2.2 (below_ch HB9.out HB10.out)).mono HV.out.1.size)⟩
end Go.Proofs.YtacgfjcdfgdpjaaDoor
