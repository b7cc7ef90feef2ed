/- The statements' plain: a row of words copied; the document's Same of two rows that hold the same words. -/
import Derived.Test.YtkmmohhafmnheaaDoorRwords
import Derived.Test.YtkmmohhafmnheaaDoorLexAw
import Derived.Deep.RegionHeld3
import Derived.Deep.AppendLies
namespace Go.Proofs.YtkmmohhafmnheaaDoor
open Go Go.RowKit

set_option maxRecDepth 100000 in
set_option maxHeartbeats 1000000 in
theorem plain_some (g cap B : Nat) (W : List Wd) (w : World) (hlen : W.length ≤ 20000) (hown : w.ownsRow B 37 4 (.slice (some ⟨g, 0, none⟩) W.length cap) W.length (cellsW W)) :
    Calls Tryd.prog 12 #[.slice (some ⟨g, 0, none⟩) W.length cap] w fun e w' => (∃ v, e = .returned v ∧ w'.ownsRow w.heap.size 46 4 v W.length (cellsW W)) ∧ Below w.heap.size w w' := by
  obtain ⟨i0, hi, hz0, hz1, hz2⟩ := info_parts infoW
  have hg := (hown.lt g rfl).2
  go_enter Tryd.func12, Tryd.ntmps12
  go_wp2
  go_loopw [3, 4] (fun v q wr => ∃ k : Nat, q = .int .i64 k ∧ k ≤ W.length ∧ wr.ownsRow w.heap.size 46 4 v k (cellsW (W.take k)) ∧ Below w.heap.size w wr) (fun _ q _ => W.length - (intOf q).toNat)
  case atStart => exact ⟨0, rfl, Nat.zero_le _, ⟨rfl, .inl ⟨rfl, rfl⟩⟩, Below.refl _ _⟩
  case round =>
    obtain ⟨k, rfl, hk, hown2, hbw⟩ := hrel
    by_cases hlt : k < W.length
    · obtain ⟨x, hx⟩ : ∃ x, W[k]? = some x := ⟨_, List.getElem?_eq_getElem hlt⟩
      obtain ⟨c0, c1, c2, c3⟩ := row_at hown hx
      rw [← hbw.cell (p := ⟨g, _, none⟩) hg] at c0 c1 c2 c3
      have HX := Lib.hid hx
      clear hx
      have hk0 : (0 : Int) ≤ (k : Int) := Int.natCast_nonneg _
      have hk1 : (k : Int) < (W.length : Int) := by omega
      have hsz := hbw.size
      have lg : g < wr.heap.size := by omega
      have ag : u3.ownBlock ≠ some g := fun h => by have := (hown2.lt g h).1; omega
      go_wp2
      go_region_held3 (fun w' => w'.cell? ⟨g, k * 4, none⟩ = some (.int .i64 x.k) ∧ w'.cell? ⟨g, k * 4 + 1, none⟩ = some (.string ⟨x.t.toArray⟩) ∧ w'.cell? ⟨g, k * 4 + 2, none⟩ = some (.int .i64 x.n) ∧ w'.cell? ⟨g, k * 4 + 3, none⟩ = some (.int .i64 x.a))
        (first
          | go_keep
          | (go_split_ands
             refine ⟨?_, ?_, ?_, ?_⟩
             · (rw [hgrow.cell_far _ (by simp; omega) (Ne.symm ag)]; assumption)
             · (rw [hgrow.cell_far _ (by simp; omega) (Ne.symm ag)]; assumption)
             · (rw [hgrow.cell_far _ (by simp; omega) (Ne.symm ag)]; assumption)
             · (rw [hgrow.cell_far _ (by simp; omega) (Ne.symm ag)]; assumption)))
        ((refine step_append_lies _ (by rfl) _ _ _ (by rfl) w.heap.size 46 i0 _ 4 40 Tryd.underlying27 hi hz0 hz1 hz2 rfl (by omega) _ k (cellsW (W.take k)) (by rfl) ((hown2.alloc _).drew)
            ⟨wr.heap.size, 0, none⟩ 1 1 [.int .i64 x.k, .string ⟨x.t.toArray⟩, .int .i64 x.n, .int .i64 x.a] (by rfl) (by rfl) (World.news_of_block (cs := #[.int .i64 x.k, .string ⟨x.t.toArray⟩, .int .i64 x.n, .int .i64 x.a]) (t := 46) (fr := (0, 0)) (heap_alloc_new wr _)) (four_one _ _ _ _)
            (by omega) (by unfold maxLen; omega) (by omega) (by simp; omega) (wr.heap.size + 1) (by simp) ?_; intro gg cap2 w1 hown3 hgrow hat hlt3))
      go_wp2
      go_roundw
      case rel =>
        refine ⟨k + 1, by go_num, by omega, ?_, (((hbw.alloc hsz _).drew).grown hgrow (by simp; omega) (fun j hj => (hown2.lt j hj).1))⟩
        have e : W.take (k + 1) = W.take k ++ [x] := by rw [List.take_add_one, HX.out]; rfl
        rw [e, cellsW_snoc]
        exact hown3
      case measure => simp [intOf]; omega
    · obtain rfl : k = W.length := by omega
      have HT := Lib.hid (List.take_length (l := W))
      go_wp2
      go_ret
      exact ⟨⟨_, rfl, by rw [HT.out] at hown2; exact hown2⟩, hbw⟩

theorem plain_none (w : World) : Calls Tryd.prog 12 #[.slice none 0 0] w fun e w' => e = .returned (.slice none 0 0) ∧ w = w' := by
  go_enter Tryd.func12, Tryd.ntmps12
  go_wp2
  go_loop [3, 4] (fun v q => v = .slice none 0 0 ∧ q = .int .i64 0) (fun _ _ => 0)
  case atStart => exact ⟨rfl, rfl⟩
  case round =>
    obtain ⟨rfl, rfl⟩ := hrel
    go_wp2
    go_ret
    exact ⟨rfl, rfl⟩

theorem same_none (w : World) : Calls Tryd.prog 11 #[.slice none 0 0, .slice none 0 0] w fun e w' => e = .returned (.bool true) ∧ Below w.heap.size w w' := by
  go_enter Tryd.func11, Tryd.ntmps11
  go_wp2
  go_loop [5] (fun q => q = .int .i64 0) (fun _ => 0)
  case atStart => rfl
  case round =>
    subst hrel
    go_wp2
    go_ret
    exact ⟨rfl, Below.refl _ _⟩

set_option maxRecDepth 100000 in
theorem same_some (g cap g2 cap2 B B2 : Nat) (W : List Wd) (w : World) (hlen : W.length ≤ 20000) (hown : w.ownsRow B 46 4 (.slice (some ⟨g, 0, none⟩) W.length cap) W.length (cellsW W)) (hown2 : w.ownsRow B2 46 4 (.slice (some ⟨g2, 0, none⟩) W.length cap2) W.length (cellsW W)) :
    Calls Tryd.prog 11 #[.slice (some ⟨g, 0, none⟩) W.length cap, .slice (some ⟨g2, 0, none⟩) W.length cap2] w fun e w' => e = .returned (.bool true) ∧ Below w.heap.size w w' := by
  go_enter Tryd.func11, Tryd.ntmps11
  go_wp2
  go_loopw [5] (fun q wr => ∃ k n : Nat, q = .int .i64 k ∧ k ≤ W.length ∧ wr = w.drewN n) (fun q _ => W.length - (intOf q).toNat)
  case atStart => exact ⟨0, 0, rfl, Nat.zero_le _, rfl⟩
  case round =>
    obtain ⟨k, n, rfl, hk, rfl⟩ := hrel
    by_cases hlt : k < W.length
    · obtain ⟨x, hx⟩ : ∃ x, W[k]? = some x := ⟨_, List.getElem?_eq_getElem hlt⟩
      obtain ⟨c0, c1, c2, c3⟩ := row_at hown hx
      obtain ⟨d0, d1, d2, d3⟩ := row_at hown2 hx
      clear hx
      have hk0 : (0 : Int) ≤ (k : Int) := Int.natCast_nonneg _
      have hk1 : (k : Int) < (W.length : Int) := by omega
      go_wp2
      go_quiet (fail)
      go_wp2
      go_roundw
      case rel => exact ⟨k + 1, _, by go_num, by omega, rfl⟩
      case measure => simp [intOf]; omega
    · obtain rfl : k = W.length := by omega
      go_wp2
      go_ret
      exact ⟨rfl, below_drewN (Below.refl _ _) _⟩
theorem rwords_ok (s : ByteArray) (w : World) (hs : s.size ≤ 16384) (W : List Wd) (hS : Hid (Sc numO s.data.toList 0 W none)) :
    Calls Tryd.prog 10 #[.string s] w fun e w' => OkEnd 46 w.heap.size W e w' ∧ Below w.heap.size w w' :=
  (rwords_any s w hs W none hS).mono fun e w' ⟨h1, h2⟩ => by
    obtain ⟨v, e1, e2⟩ := h1
    obtain ⟨g, cap, e3, _⟩ := e2.form (hS.out.some_words rfl)
    subst e3
    exact ⟨⟨g, cap, e1, e2⟩, h2⟩
theorem rwords_err (s : ByteArray) (w : World) (hs : s.size ≤ 16384) (W : List Wd) (e0 : Int) (a0 : Nat) (hS : Hid (Sc numO s.data.toList 0 W (some (e0, a0)))) :
    Calls Tryd.prog 10 #[.string s] w fun e w' => e = .returned (.tuple #[.slice none 0 0, .int .i64 e0, .int .i64 a0]) ∧ Below w.heap.size w w' :=
  rwords_any s w hs W _ hS
theorem rwords_big (s : ByteArray) (w : World) (hs : 16384 < s.size) (hm : s.size ≤ 9223372036854775807) :
    Calls Tryd.prog 10 #[.string s] w fun e w' => e = .returned (.tuple #[.slice none 0 0, .int .i64 2, .int .i64 0]) ∧ Below w.heap.size w w' := by
  go_enter Tryd.func10, Tryd.ntmps10
  go_wp2
  go_ret3
  exact ⟨rfl, Below.refl _ _⟩

end Go.Proofs.YtkmmohhafmnheaaDoor
