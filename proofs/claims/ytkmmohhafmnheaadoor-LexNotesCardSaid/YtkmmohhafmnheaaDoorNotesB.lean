/- LexNotes' walk where both texts have words. -/
import Derived.Test.YtkmmohhafmnheaaDoorNotesA
namespace Go.Proofs.YtkmmohhafmnheaaDoor
namespace LexNotes
open Go Go.RowKit Go.Sort

/-- What is known of the three rows of words. -/
structure Three (X Y V : List Wd) : Prop where
  fst : ∀ k, k + 1 < X.length → ∃ x v, X[k]? = some x ∧ V[k]? = some v ∧ v.k = x.k ∧ v.t = x.t ∧ v.n = x.n
  snd : ∀ k, X.length ≤ k + 1 → k < V.length → ∃ y v, Y[k + 1 - X.length]? = some y ∧ V[k]? = some v ∧ v.k = y.k ∧ v.t = y.t ∧ v.n = y.n

theorem three_of {X0 Y : List Wd} {E : Wd} {d : Nat} : Three (X0 ++ [E]) Y (X0 ++ Y.map fun w => ⟨w.k, w.t, w.n, w.a + d⟩) := by
  constructor
  · intro k hk
    have hk2 : k < X0.length := by simpa using hk
    refine ⟨X0[k], X0[k], ?_, ?_, rfl, rfl, rfl⟩
    · rw [List.getElem?_append_left hk2, List.getElem?_eq_getElem hk2]
    · rw [List.getElem?_append_left hk2, List.getElem?_eq_getElem hk2]
  · intro k hk hv
    have hk2 : X0.length ≤ k := by simpa using hk
    have hv2 : k - X0.length < Y.length := by simp at hv; omega
    have e : k + 1 - (X0 ++ [E]).length = k - X0.length := by simp
    refine ⟨Y[k - X0.length], ⟨Y[k - X0.length].k, Y[k - X0.length].t, Y[k - X0.length].n, Y[k - X0.length].a + d⟩, ?_, ?_, rfl, rfl, rfl⟩
    · rw [e, List.getElem?_eq_getElem hv2]
    · rw [List.getElem?_append_right hk2, List.getElem?_map, List.getElem?_eq_getElem hv2]
      rfl

def COk (s nt t : ByteArray) (V : List Wd) (n : Nat) : Prop :=
  ∀ w : World, Laid w → Calls Tryd.prog 9 #[.string (s ++ ⟨#[10, 47, 47]⟩ ++ nt ++ ⟨#[10]⟩ ++ t)] w fun e w' =>
    (∃ g cap, e = .returned (.tuple #[.slice (some ⟨g, 0, none⟩) n cap, .int .i64 0, .int .i64 0]) ∧ w'.ownsRow w.heap.size 37 4 (.slice (some ⟨g, 0, none⟩) n cap) V.length (cellsW V)) ∧ Below w.heap.size w w'
theorem COk.get {s nt t : ByteArray} {V : List Wd} {n : Nat} (h : COk s nt t V n) (w : World) (L : Laid w) : Calls Tryd.prog 9 #[.string (s ++ ⟨#[10, 47, 47]⟩ ++ nt ++ ⟨#[10]⟩ ++ t)] w fun e w' =>
    (∃ g cap, e = .returned (.tuple #[.slice (some ⟨g, 0, none⟩) n cap, .int .i64 0, .int .i64 0]) ∧ w'.ownsRow w.heap.size 37 4 (.slice (some ⟨g, 0, none⟩) n cap) V.length (cellsW V)) ∧ Below w.heap.size w w' := h w L

theorem wrap_id {a : Int} (h0 : -9223372036854775808 ≤ a) (h1 : a ≤ 9223372036854775807) : IntKind.i64.wrap a = a := IntWalk.i64_in _ (by omega)

set_option maxRecDepth 100000 in
set_option maxHeartbeats 4000000 in
theorem walk_ok (s nt t : ByteArray) (X Y V : List Wd) (n : Nat) (h1 : s.size ≤ 1000) (h2 : nt.size ≤ 100) (h3 : t.size ≤ 1000) (hN : Hid (hasB nt.data.toList 10 = false)) (hX0 : 0 < X.length) (hX : X.length ≤ 1001) (hY0 : 0 < Y.length) (hY : Y.length ≤ 1001)
    (hn1 : n + 1 ≤ X.length + Y.length) (hn2 : X.length + Y.length ≤ n + 1) (hV : Hid (V.length = n)) (h3V : Hid (Three X Y V)) (hS : Hid (Sc numO s.data.toList 0 X none)) (hT : Hid (Sc numO t.data.toList 0 Y none)) (hC : Hid (COk s nt t V n)) (W : World) (L : Hid (Laid W)) :
    Calls Tryd.prog 6 #[.string s, .string nt, .string t] W fun e w' => e = .returned (.bool true) ∧ Below W.heap.size W w' := by
  have hq0 : ((n : Int) != (X.length : Int) + (Y.length : Int) - 1) = false := by
    rw [bne_eq_false_iff_eq]
    omega
  go_enter Tryd.func6, Tryd.ntmps6
  go_wp2_with (first
    | (go_at_call 8; refine (awake_any _ L).mono ?_; rintro e' w1 ⟨rfl, hb1⟩; have hB := hb1; clear hb1)
    | (go_at_call 17; (with_reducible refine (in10 hN.out (by omega) _).mono ?_); rintro e' w' ⟨rfl, rfl⟩)
    | (go_at_call 9; (with_reducible refine (words_ok s _ (Lib.hid (L.out.below hB)) (by omega) X hS).mono ?_); rintro e' w2 ⟨⟨g, cap, rfl, ho⟩, hb2⟩; have hB2 := hB.trans (hb2.mono hB.size); have HO := Lib.hid ho; clear ho)
    | (go_at_call 9; (with_reducible refine (words_ok t _ (Lib.hid (L.out.below hB2)) (by omega) Y hT).mono ?_); rintro e' w3 ⟨⟨h, cap2, rfl, ho⟩, hb3⟩; have hB3 := hB2.trans (hb3.mono hB2.size); have HO2 := Lib.hid ho; clear ho)
    | (go_at_call 9; (with_reducible refine (hC.out.get _ (L.out.below hB3)).mono ?_); rintro e' w4 ⟨⟨q, cap3, rfl, ho⟩, hb4⟩; have hB4 := hB3.trans (hb4.mono hB3.size); have HO3 := Lib.hid ho; clear ho))
  have HXO := Lib.hid (own_below (own_below HO.out hb3) hb4)
  have HYO := Lib.hid (own_below HO2.out hb4)
  have HVO : Hid (w4.ownsRow w3.heap.size 37 4 (.slice (some ⟨q, 0, none⟩) n cap3) V.length (cellsW V)) := HO3
  have hg := (HXO.out.lt g rfl).2
  have hh := (HYO.out.lt h rfl).2
  have hq := (HVO.out.lt q rfl).2
  clear hb2 hb3 hb4 HO HO2 HO3
  go_loopw [17] (fun i wr => ∃ k : Nat, i = .int .i64 k ∧ k + 1 ≤ n ∧ Below w4.heap.size w4 wr) (fun i _ => n - (intOf i).toNat)
  case atStart => exact ⟨0, rfl, by omega, Below.refl _ _⟩
  case round =>
    obtain ⟨k, rfl, hk, hbw⟩ := hrel
    have hsz := hbw.size
    have hg2 : g < wr.heap.size := by omega
    have hh2 : h < wr.heap.size := by omega
    have hq2 : q < wr.heap.size := by omega
    by_cases hlt : k + 1 < n
    · by_cases hfs : k + 1 < X.length
      · obtain ⟨x, v, hx, hv, e1, e2, e3⟩ := h3V.out.fst k hfs
        obtain ⟨c0, c1, c2, c3⟩ := row_at HXO.out hx
        obtain ⟨d0, d1, d2, _⟩ := row_at HVO.out hv
        rw [← hbw.cell (p := ⟨g, _, none⟩) hg] at c0 c1 c2 c3
        rw [← hbw.cell (p := ⟨q, _, none⟩) hq] at d0 d1 d2
        rw [e1] at d0
        rw [e2] at d1
        rw [e3] at d2
        clear hx hv e1 e2 e3
        obtain ⟨xk, xt, xn, xa⟩ := x
        simp only at c0 c1 c2 c3 d0 d1 d2
        obtain ⟨Z, hZ⟩ : ∃ Z : ByteArray, Z = ⟨xt.toArray⟩ := ⟨_, rfl⟩
        rw [← hZ] at c1 d1
        clear hZ
        have hk0 : (0 : Int) ≤ (k : Int) := Int.natCast_nonneg _
        have hk1 : (k : Int) < (n : Int) := by omega
        have hk2 : (k : Int) < (X.length : Int) := by omega
        go_wp2
        go_quiet (fail)
        go_wp2
        go_roundw
        case rel => exact ⟨k + 1, by go_num, by omega, below_drewN (hbw.alloc hsz _) _⟩
        case measure => simp [intOf]; omega
      · obtain ⟨x, v, hx, hv, e1, e2, e3⟩ := h3V.out.snd k (by omega) (by rw [hV.out]; omega)
        obtain ⟨c0, c1, c2, c3⟩ := row_at HYO.out hx
        obtain ⟨d0, d1, d2, _⟩ := row_at HVO.out hv
        rw [← hbw.cell (p := ⟨h, _, none⟩) hh] at c0 c1 c2 c3
        rw [← hbw.cell (p := ⟨q, _, none⟩) hq] at d0 d1 d2
        rw [e1] at d0
        rw [e2] at d1
        rw [e3] at d2
        clear hx hv e1 e2 e3
        obtain ⟨xk, xt, xn, xa⟩ := x
        simp only at c0 c1 c2 c3 d0 d1 d2
        obtain ⟨Z, hZ⟩ : ∃ Z : ByteArray, Z = ⟨xt.toArray⟩ := ⟨_, rfl⟩
        rw [← hZ] at c1 d1
        clear hZ
        have hk0 : (0 : Int) ≤ (k : Int) := Int.natCast_nonneg _
        have hk1 : (k : Int) < (n : Int) := by omega
        have hk2 : (0 : Int) ≤ (k : Int) - (X.length : Int) + 1 := by omega
        have hk3 : (k : Int) - (X.length : Int) + 1 < (Y.length : Int) := by omega
        have g4 : ((k : Int) - (X.length : Int) + 1).toNat = k + 1 - X.length := by omega
        go_wp2
        go_quiet (fail)
        clear g4
        go_wp2
        go_roundw
        case rel => exact ⟨k + 1, by go_num, by omega, below_drewN (hbw.alloc hsz _) _⟩
        case measure => simp [intOf]; omega
    · go_wp2
      go_ret
      exact ⟨rfl, hB4.trans (hbw.mono hB4.size)⟩
end LexNotes
end Go.Proofs.YtkmmohhafmnheaaDoor
