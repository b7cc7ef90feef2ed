/- LexBack's walk: words joined with spaces or newlines are the same words again. -/
import Derived.Test.YtkmmohhafmnheaaDoorLexAw
import Derived.Test.YtkmmohhafmnheaaDoorRsgn
import Derived.Test.YtkmmohhafmnheaaDoorTokAt
import Derived.IntWalk
namespace Go.Proofs.YtkmmohhafmnheaaDoor
namespace LexBack
open Go Go.RowKit Go.Sort

set_option maxRecDepth 100000 in
theorem walk_long (s : ByteArray) (b : Bool) (hl : 2000 < s.size) (hm : s.size ≤ 9223372036854775807) (W : World) (L : Hid (Laid W)) : Calls Tryd.prog 5 #[.string s, .bool b] W fun e w' => e = .returned (.bool true) ∧ Below W.heap.size W w' := by
  go_enter Tryd.func5, Tryd.ntmps5
  go_wp2_with (go_at_call 8; refine (awake_any _ L).mono ?_; rintro e' w1 ⟨rfl, hb1⟩; have hB := hb1; clear hb1)
  go_ret
  exact ⟨rfl, hB⟩
set_option maxRecDepth 100000 in
theorem walk_err (s : ByteArray) (b : Bool) (X : List Wd) (e0 : Int) (a0 : Nat) (hl : s.size ≤ 2000) (he : (e0 != 0) = true) (ha : a0 < s.size) (hS : Hid (Sc numO s.data.toList 0 X (some (e0, a0)))) (W : World) (L : Hid (Laid W)) : Calls Tryd.prog 5 #[.string s, .bool b] W fun e w' => e = .returned (.bool true) ∧ Below W.heap.size W w' := by
  go_enter Tryd.func5, Tryd.ntmps5
  go_wp2_with (first
    | (go_at_call 8; refine (awake_any _ L).mono ?_; rintro e' w1 ⟨rfl, hb1⟩; have hB := hb1; clear hb1)
    | (go_at_call 9; (with_reducible refine (words_err s _ (Lib.hid (L.out.below hB)) (by omega) X e0 a0 hS).mono ?_); rintro e' w2 ⟨rfl, hb2⟩; have hB2 := hB.trans (hb2.mono hB.size)))
  go_ret
  exact ⟨rfl, hB2⟩

/-- What a round of the first loop knows of its word. -/
theorem round_facts {s : ByteArray} {X : List Wd} {k : Nat} {x : Wd} (hP : Placed s.data.toList 0 X) (hx : X[k]? = some x) :
    x.a + x.t.length ≤ s.size ∧ ((s.extract x.a (x.a + x.t.length)).toList == (⟨x.t.toArray⟩ : ByteArray).toList) = true ∧ ∃ b : Bool, (x.k == 3) = b ∧ ((k : Int) == (X.length : Int) - 1) = b := by
  obtain ⟨_, h1, h2, h3⟩ := hP.get X 0 k x hx
  refine ⟨h1, ?_, _, rfl, ?_⟩
  · rw [ByteArray.toList_eq, ByteArray.toList_eq, Lib.extract_data, Nat.add_sub_cancel_left, h2]
    simp
  · rw [Bool.eq_iff_iff, beq_iff_eq, beq_iff_eq, h3]
    omega

/-- One word more. -/
theorem joined {X : List Wd} {k : Nat} {x : Wd} {T Y : ByteArray} {c : UInt8} (h : T.data.toList = joinT c (X.take k)) (hx : X[k]? = some x) (hY : Y = ⟨x.t.toArray⟩) : (T ++ Y ++ ⟨#[c]⟩).data.toList = joinT c (X.take (k + 1)) := by
  rw [joinT_take hx, cat_list, cat_list, h, hY]
  simp
theorem joined_size {X : List Wd} {k : Nat} {x : Wd} {T Y : ByteArray} {c : UInt8} (h : T.data.toList = joinT c (X.take k)) (hx : X[k]? = some x) (hY : Y = ⟨x.t.toArray⟩) (hl : (joinT c X).length ≤ 5000) : (T ++ Y ++ ⟨#[c]⟩).size ≤ 5000 := by
  rw [size_list, joined h hx hY]
  exact Nat.le_trans (joinT_le c X _) hl

theorem words_len (s : ByteArray) (w : World) (L : Hid (Laid w)) (hs : s.size ≤ 16384) (V : List Wd) (n : Nat) (hn : V.length = n) (hS : Hid (Sc numO s.data.toList 0 V none)) :
    Calls Tryd.prog 9 #[.string s] w fun e w' => (∃ g cap, e = .returned (.tuple #[.slice (some ⟨g, 0, none⟩) n cap, .int .i64 0, .int .i64 0]) ∧ w'.ownsRow w.heap.size 37 4 (.slice (some ⟨g, 0, none⟩) n cap) n (cellsW V)) ∧ Below w.heap.size w w' := by
  subst hn
  exact words_ok s w L hs V hS
theorem both_at {X V : List Wd} {k : Nat} (h : V.map Wd.key = X.map Wd.key) (hk : k < X.length) : ∃ x y, X[k]? = some x ∧ V[k]? = some y ∧ x.k = y.k ∧ x.t = y.t ∧ x.n = y.n := by
  have hl : V.length = X.length := by simpa using congrArg List.length h
  have h1 : X[k]? = some X[k] := List.getElem?_eq_getElem hk
  have h2 : V[k]? = some (V[k]'(by omega)) := List.getElem?_eq_getElem (by omega)
  refine ⟨_, _, h1, h2, ?_⟩
  have h3 := congrArg (·[k]?) h
  simp only [List.getElem?_map, h1, h2, Option.map_some, Option.some.injEq, Wd.key, Prod.mk.injEq] at h3
  exact ⟨h3.1.symm, h3.2.1.symm, h3.2.2.symm⟩

theorem wrap_id {a : Int} (h0 : -9223372036854775808 ≤ a) (h1 : a ≤ 9223372036854775807) : IntKind.i64.wrap a = a := IntWalk.i64_in _ (by omega)

set_option maxRecDepth 100000 in
set_option maxHeartbeats 4000000 in
theorem walk_ok (s : ByteArray) (X : List Wd) (hl : s.size ≤ 2000) (h0 : 0 < X.length) (hX : X.length ≤ 2001) (hS : Hid (Sc numO s.data.toList 0 X none)) (HP : Hid (Placed s.data.toList 0 X)) (HJ : Hid ((joinT 10 X).length ≤ 5000)) (V : List Wd) (HV : Hid (Sc numO (joinT 10 X) 0 V none ∧ V.length = X.length ∧ V.map Wd.key = X.map Wd.key)) (W : World) (L : Hid (Laid W)) :
    Calls Tryd.prog 5 #[.string s, .bool true] W fun e w' => e = .returned (.bool true) ∧ Below W.heap.size W w' := by
  go_enter Tryd.func5, Tryd.ntmps5
  go_wp2_with (first
    | (go_at_call 8; refine (awake_any _ L).mono ?_; rintro e' w1 ⟨rfl, hb1⟩; have hB := hb1; clear hb1)
    | (go_at_call 9; (with_reducible refine (words_ok s _ (Lib.hid (L.out.below hB)) (by omega) X hS).mono ?_); rintro e' w2 ⟨⟨g, cap, rfl, ho⟩, hb2⟩; have hB2 := hB.trans (hb2.mono hB.size)))
  have hg := (ho.lt g rfl).2
  have HO := Lib.hid ho
  clear ho hb2
  go_loopw [9, 10] (fun t i wr => ∃ (k : Nat) (T : ByteArray), i = .int .i64 k ∧ t = .string T ∧ k ≤ X.length ∧ T.size ≤ 5000 ∧ Below w2.heap.size w2 wr ∧ Hid (T.data.toList = joinT 10 (X.take k))) (fun _ i _ => X.length - (intOf i).toNat)
  case atStart => exact ⟨0, ⟨#[]⟩, rfl, rfl, Nat.zero_le _, by decide, Below.refl _ _, Lib.hid rfl⟩
  case round =>
    obtain ⟨k, T, rfl, rfl, hk, hT, hbw, HT⟩ := hrel
    by_cases hlt : k < X.length
    · obtain ⟨x, hx⟩ : ∃ x, X[k]? = some x := ⟨_, List.getElem?_eq_getElem hlt⟩
      obtain ⟨c0, c1, c2, c3⟩ := row_at HO.out hx
      rw [← hbw.cell (p := ⟨g, _, none⟩) hg] at c0 c1 c2 c3
      obtain ⟨f1, f2, lst, f3, f4⟩ := round_facts HP.out hx
      have HX := Lib.hid hx
      clear hx
      obtain ⟨xk, xt, xn, xa⟩ := x
      simp only at c0 c1 c2 c3 f1 f2 f3 f4
      obtain ⟨Y, hY⟩ : ∃ Y : ByteArray, Y = ⟨xt.toArray⟩ := ⟨_, rfl⟩
      have hYs : xt.length = Y.size := by rw [hY]; rfl
      rw [← hY] at c1 f2
      rw [hYs] at f1 f2
      have HY := Lib.hid hY
      clear hY hYs
      have hsz := hbw.size
      have hg2 : g < wr.heap.size := by omega
      by_cases hk0 : k = 0
      · have hq3 : decide (0 < k) = false := by simpa using hk0
        have hq1 : decide ((s.size : Int) < (xa : Int) + (Y.size : Int)) = false := by simp; omega
        clear hk0
        have hq4 : (0 : Int) ≤ xa := by omega
        have hq5 : (xa : Int) ≤ (xa : Int) + (Y.size : Int) := by omega
        have hq6 : (xa : Int) + (Y.size : Int) ≤ s.size := by omega
        go_wp2
        have g2 : IntKind.i64.wrap ((X.length : Int) - 1) = (X.length : Int) - 1 := wrap_id (by omega) (by omega)
        have g1 : IntKind.i64.wrap (↑xa + ↑Y.size) = ↑xa + ↑Y.size := wrap_id (by omega) (by omega)
        go_quiet (fail)
        go_wp2
        go_roundw
        case rel =>
          exact ⟨k + 1, _, by go_num, rfl, by omega, joined_size HT.out HX.out HY.out HJ.out, below_drewN (hbw.alloc hsz _) _, Lib.hid (joined HT.out HX.out HY.out)⟩
        case measure => simp [intOf]; omega
      · obtain ⟨z, hz⟩ : ∃ z, X[k - 1]? = some z := ⟨_, List.getElem?_eq_getElem (by omega)⟩
        obtain ⟨_, d1, _, d3⟩ := row_at HO.out hz
        rw [← hbw.cell (p := ⟨g, _, none⟩) hg] at d1 d3
        have hzx := HP.out.next X 0 (k - 1) z _ hz (by rw [show k - 1 + 1 = k by omega]; exact HX.out)
        clear hz
        obtain ⟨zk, zt, zn, za⟩ := z
        simp only at d1 d3 hzx
        obtain ⟨Z, hZ⟩ : ∃ Z : ByteArray, Z = ⟨zt.toArray⟩ := ⟨_, rfl⟩
        have hZs : zt.length = Z.size := by rw [hZ]; rfl
        rw [← hZ] at d1
        rw [hZs] at hzx
        clear hZ hZs
        have hk1 : 0 < k := by omega
        have hq3 : decide (0 < k) = true := by simpa using hk1
        have hq1 : decide ((s.size : Int) < (xa : Int) + (Y.size : Int)) = false := by simp; omega
        have hq2 : decide ((xa : Int) < (za : Int) + (Z.size : Int)) = false := by simp; omega
        clear hk0
        have hq4 : (0 : Int) ≤ xa := by omega
        have hq5 : (xa : Int) ≤ (xa : Int) + (Y.size : Int) := by omega
        have hq6 : (xa : Int) + (Y.size : Int) ≤ s.size := by omega
        have hq7 : (0 : Int) ≤ (k : Int) - 1 := by omega
        have hq8 : (k : Int) - 1 < (X.length : Int) := by omega
        go_wp2
        have g4 : ((k : Int) - 1).toNat = k - 1 := by omega
        have g3 : IntKind.i64.wrap ((k : Int) - 1) = (k : Int) - 1 := wrap_id (by omega) (by omega)
        have g5 : IntKind.i64.wrap (↑za + ↑Z.size) = ↑za + ↑Z.size := wrap_id (by omega) (by omega)
        have g2 : IntKind.i64.wrap ((X.length : Int) - 1) = (X.length : Int) - 1 := wrap_id (by omega) (by omega)
        have g1 : IntKind.i64.wrap (↑xa + ↑Y.size) = ↑xa + ↑Y.size := wrap_id (by omega) (by omega)
        go_quiet (fail)
        clear g1 g2 g3 g4 g5
        go_wp2
        go_roundw
        case rel =>
          exact ⟨k + 1, _, by go_num, rfl, by omega, joined_size HT.out HX.out HY.out HJ.out, below_drewN (hbw.alloc hsz _) _, Lib.hid (joined HT.out HX.out HY.out)⟩
        case measure => simp [intOf]; omega
    · obtain rfl : k = X.length := by omega
      have hBr := hB2.trans (hbw.mono hB2.size)
      have hsz := hbw.size
      have HT2 : Hid (Sc numO T.data.toList 0 V none) := Lib.hid (by rw [HT.out, List.take_length]; exact HV.out.1)
      have hTs : T.size ≤ 16384 := by omega
      go_wp2_with (go_at_call 9; (with_reducible refine (words_len T _ (Lib.hid (L.out.below hBr)) hTs V X.length HV.out.2.1 HT2).mono ?_); rintro e' w3 ⟨⟨h, cap2, rfl, hv⟩, hb3⟩; have hB3 := hBr.trans (hb3.mono hBr.size))
      have HVO := Lib.hid hv
      clear hv
      have HXO := Lib.hid (own_below (own_below HO.out hbw) hb3)
      go_loopw [15] (fun i wx => ∃ j n : Nat, i = .int .i64 j ∧ j ≤ X.length ∧ wx = w3.drewN n) (fun i _ => X.length - (intOf i).toNat)
      case atStart => exact ⟨0, 0, rfl, Nat.zero_le _, rfl⟩
      case round =>
        obtain ⟨j, n, rfl, hj, rfl⟩ := hrel
        by_cases hjt : j < X.length
        · obtain ⟨x, y, hx, hy, e1, e2, e3⟩ := both_at HV.out.2.2 hjt
          obtain ⟨c0, c1, c2, _⟩ := row_at HXO.out hx
          obtain ⟨d0, d1, d2, _⟩ := row_at (n := X.length) (W := V) (by have := HVO.out; have e := HV.out.2.1; rw [← e] at this ⊢; exact this) hy
          rw [← e1] at d0
          rw [← e2] at d1
          rw [← e3] at d2
          clear hx hy e1 e2 e3
          obtain ⟨Y, hY⟩ : ∃ Y : ByteArray, Y = ⟨x.t.toArray⟩ := ⟨_, rfl⟩
          rw [← hY] at c1 d1
          clear hY
          have hj0 : (0 : Int) ≤ (j : Int) := Int.natCast_nonneg _
          have hj1 : (j : Int) < (X.length : Int) := by omega
          go_wp2
          go_quiet (fail)
          go_wp2
          go_roundw
          case rel => exact ⟨j + 1, _, by go_num, by omega, rfl⟩
          case measure => simp [intOf]; omega
        · obtain rfl : j = X.length := by omega
          go_wp2
          go_ret
          exact ⟨rfl, below_drewN hB3 _⟩
end LexBack
end Go.Proofs.YtkmmohhafmnheaaDoor
