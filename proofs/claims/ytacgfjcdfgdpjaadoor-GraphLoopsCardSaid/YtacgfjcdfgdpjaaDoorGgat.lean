/- Some numbers, rising, each once: ins.gather. -/
import Derived.Test.YtacgfjcdfgdpjaaDoorGnr
import Derived.Test.YtacgfjcdfgdpjaaDoorGkn
import Derived.LoopTactic
namespace Go.Proofs.YtacgfjcdfgdpjaaDoor
set_option linter.unusedSimpArgs false
set_option linter.unusedVariables false
open Go Go.RowKit

theorem Rw.alloc {B : Nat} {W : World} {v : Value} {l : List Int} (h : Rw B W v l) (o : Obj) : Rw B (W.alloc o) v l := World.ownsRow.alloc h o
theorem Rw.drewN {B : Nat} {W : World} {v : Value} {l : List Int} (h : Rw B W v l) (n : Nat) : Rw B (W.drewN n) v l := h
theorem Rw.old {B : Nat} {W : World} {v : Value} {l : List Int} (h : Rw B W v l) : v.ownBlock ≠ some W.heap.size := fun e => by
  have := (World.ownsRow.lt h _ e).2
  omega
/-- A row of numbers that came in. -/
def Ga (w : World) (g : Nat) (l : List Int) : Prop := g < w.heap.size ∧ ∀ j x, l[j]? = some x → w.cell? ⟨g, j, none⟩ = some (.int .i64 x)
theorem Ga.stay {W W' : World} {g : Nat} {l : List Int} (h : Ga W g l) (hb : Below W.heap.size W W') : Ga W' g l :=
  ⟨Nat.lt_of_lt_of_le h.1 hb.size, fun j x hx => (hb.cell (p := ⟨g, j, none⟩) h.1).trans (h.2 j x hx)⟩
theorem Ga.new (w : World) (l : List Int) (g : Nat) (hg : g = w.heap.size) (cs : Array Value) (T : TypeId) (hc : cs.toList = l.map (Value.int .i64)) : Ga (w.alloc (.cells cs T)) g l := by
  subst hg
  refine ⟨by simp, fun j x hx => ?_⟩
  rw [cell_of_row _ _ j cs T (0, 0) (heap_alloc_new w _), ← Array.getElem?_toList, hc, List.getElem?_map, hx]
  rfl
/-- What hands back a row of its own. -/
def RowP (w : World) (l : List Int) (e : Ending) (w' : World) : Prop := ∃ v, e = .returned v ∧ Rw w.heap.size w' v l ∧ Below w.heap.size w w'

set_option maxRecDepth 100000 in
set_option maxHeartbeats 1000000 in
theorem gather_any (zs : List Int) (g c : Nat) (w : World) (hg : Ga w g zs) (hl : zs.length ≤ 1000000) : Calls Tryd.prog 68 #[.slice (some ⟨g, 0, none⟩) zs.length c] w (RowP w (srt zs)) := by
  have HG := Lib.hid hg
  clear hg
  go_enter Tryd.func68, Tryd.ntmps68
  go_wp2
  go_loopw [3, 10] (fun v i wr => ∃ (k : Nat) (v0 : Value), v0 = v ∧ i = .int .i64 k ∧ k ≤ zs.length ∧ Hid (Rw w.heap.size wr v0 (srt (zs.take k))) ∧ Hid (Below w.heap.size w wr)) (fun _ i _ => zs.length - (intOf i).toNat)
  case atStart => exact ⟨0, _, rfl, rfl, Nat.zero_le _, Lib.hid (Rw.nil _ _), Lib.hid (Below.refl _ _)⟩
  case round =>
    obtain ⟨k, v, rfl, rfl, hk, HR, HB⟩ := hrel
    by_cases hlt : k < zs.length
    · obtain ⟨x, hx⟩ : ∃ x, zs[k]? = some x := ⟨_, List.getElem?_eq_getElem hlt⟩
      have hc := (HG.out.stay HB.out).2 k x hx
      obtain ⟨l, hl2⟩ : ∃ l, srt (zs.take k) = l := ⟨_, rfl⟩
      have hlk : l.length ≤ 1000000 := by
        have := srt_len (zs.take k)
        rw [hl2, List.length_take] at this
        omega
      have HU : Hid (Up l) := Lib.hid (hl2 ▸ up_srt _)
      rw [hl2] at HR
      have HN : Hid (srt (zs.take (k + 1)) = if l.contains x then l else l.take (l.countP (· < x)) ++ x :: l.drop (l.countP (· < x))) := Lib.hid (by rw [srt_take zs k x hx, hl2]; exact insG_at HU.out)
      have HX := Lib.hid hx
      clear hl2 hx
      have hcp : l.countP (· < x) ≤ l.length := List.countP_le_length
      obtain ⟨m, hm⟩ : ∃ m, l.countP (· < x) = m := ⟨_, rfl⟩
      rw [hm] at hcp
      rw [hm] at HN
      cases hq : l.contains x
      · have HN2 : Hid (srt (zs.take (k + 1)) = l.take m ++ x :: l.drop m) := Lib.hid (by rw [HN.out, hq]; rfl)
        have hse : ∀ W, Rw w.heap.size W v l → Calls Tryd.prog 75 #[v, .int .i64 x] W fun e w' => e = .returned (.tuple #[.int .i64 (m : Int), .bool false]) ∧ ∃ q, w' = W.drewN q := fun W h => by
          have := search_own x h HU.out hlk
          rw [hm, hq] at this
          exact this
        have HS := Lib.hid hse
        clear hse hm hq HN
        go_wp2_with (first
          | (go_at_call 75; refine (HS.out _ HR.out).mono ?_; rintro e1 w1 ⟨rfl, q, rfl⟩)
          | (go_at_call 76; refine (insert_own m x _ ((HR.out.alloc _).drewN q) hcp hlk (heap_alloc_new _ _) HR.out.old (by have := HB.out.size; simp; omega)).mono ?_; rintro e2 w2 ⟨v', rfl, hr2, hg2⟩; have HR2 := Lib.hid hr2; have HG2 := Lib.hid hg2; clear hr2 hg2))
        go_roundw
        case rel =>
          refine ⟨k + 1, v', rfl, by go_num, by omega, Lib.hid (by rw [HN2.out]; exact HR2.out), Lib.hid ?_⟩
          exact ((below_drewN (HB.out.alloc (by have := HB.out.size; omega) _) q).grown HG2.out (by have := HB.out.size; simp; omega) (fun j hj => (World.ownsRow.lt HR.out j hj).1))
        case measure => simp [intOf]; omega
      · have HN2 : Hid (srt (zs.take (k + 1)) = l) := Lib.hid (by rw [HN.out, hq]; rfl)
        have hse : ∀ W, Rw w.heap.size W v l → Calls Tryd.prog 75 #[v, .int .i64 x] W fun e w' => e = .returned (.tuple #[.int .i64 (m : Int), .bool true]) ∧ ∃ q, w' = W.drewN q := fun W h => by
          have := search_own x h HU.out hlk
          rw [hm, hq] at this
          exact this
        have HS := Lib.hid hse
        clear hse hm hq HN
        go_wp2_with (first
          | (go_at_call 75; refine (HS.out _ HR.out).mono ?_; rintro e1 w1 ⟨rfl, q, rfl⟩))
        go_roundw
        case rel => exact ⟨k + 1, v, rfl, by go_num, by omega, Lib.hid (by rw [HN2.out]; exact HR.out), Lib.hid (below_drewN HB.out q)⟩
        case measure => simp [intOf]; omega
    · obtain rfl : k = zs.length := by omega
      rw [List.take_length] at HR
      go_wp2
      go_ret
      exact ⟨v, rfl, HR.out, HB.out⟩
end Go.Proofs.YtacgfjcdfgdpjaaDoor
