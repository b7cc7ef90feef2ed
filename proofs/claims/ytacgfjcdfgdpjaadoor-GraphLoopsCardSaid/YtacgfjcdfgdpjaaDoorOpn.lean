/- An instruction, and a row of them, opened cell by cell. -/
import Derived.Test.YtacgfjcdfgdpjaaDoorGax
import Derived.Test.YtacgfjcdfgdpjaaDoorRows
import Derived.ProofKit
import Derived.OpenShut
import Derived.Deep.Strs
import Derived.SizedLaws
namespace Go.Proofs.YtacgfjcdfgdpjaaDoor
set_option linter.unusedSimpArgs false
set_option linter.unusedVariables false
open Go Go.ChangeShapes Go.WideShapes Go.ChangeAt Go.RowKit Go.Deep

theorem seven {α : Type} {l : List α} (h : l.length = 7) : ∃ a b c d e f g, l = [a, b, c, d, e, f, g] := by
  match l, h with
  | [a, b, c, d, e, f, g], _ => exact ⟨a, b, c, d, e, f, g, rfl⟩
theorem cell_in {w : World} {a : Addr} {v : Value} (h : w.cell? a = some v) : a.block < w.heap.size := by
  unfold World.cell? at h
  split at h
  · rename_i e
    exact (Array.getElem?_eq_some_iff.1 e).1
  · cases h
theorem c_ins : Tryd.prog.cellsOf 37 = 7 := by kernel_rfl
theorem c_int : Tryd.prog.cellsOf 3 = 1 := by kernel_rfl
theorem c_i64 : Tryd.prog.cellsOf 2 = 1 := by kernel_rfl
set_option maxRecDepth 100000 in
theorem ins_of {H : Type} {enc : TypeId × Value → H} {W : World} {b0 : Nat} {sp : Nat → Bool} {held : Bool} {fuel : Nat} {cs : List Value} {y : DataW H × List MemPlace} (h : DataW.trod enc Tryd.prog W b0 sp held fuel 37 cs = some y) :
    ∃ x : Ic, cs = [.int .i64 x.k, .int .i64 x.o, .int .i64 x.d, .int .i64 x.a, .int .i64 x.b, .int .i64 x.n, .int .i64 x.t] ∧ Ok6 x := by
  obtain ⟨xs, n, _, rfl, hl, hlen, hf⟩ := DataW.trod_struct Tryd.underlying37 h
  rw [c_ins] at hl
  obtain ⟨c0, c1, c2, c3, c4, c5, c6, rfl⟩ := seven hl
  obtain ⟨y0, y1, y2, y3, y4, y5, y6, rfl⟩ := seven hlen
  have g0 := hf 0 _ rfl
  have g1 := hf 1 _ rfl
  have g2 := hf 2 _ rfl
  have g3 := hf 3 _ rfl
  have g4 := hf 4 _ rfl
  have g5 := hf 5 _ rfl
  have g6 := hf 6 _ rfl
  simp [c_int, c_i64] at g0 g1 g2 g3 g4 g5 g6
  obtain ⟨k, e0, _, w0⟩ := DataW.trod_int Tryd.underlying3 g0
  obtain ⟨o, e1, _, w1⟩ := DataW.trod_int Tryd.underlying3 g1
  obtain ⟨d, e2, _, w2⟩ := DataW.trod_int Tryd.underlying3 g2
  obtain ⟨a, e3, _, w3⟩ := DataW.trod_int Tryd.underlying3 g3
  obtain ⟨b, e4, _, w4⟩ := DataW.trod_int Tryd.underlying3 g4
  obtain ⟨n, e5, _, w5⟩ := DataW.trod_int Tryd.underlying2 g5
  obtain ⟨t, e6, _, w6⟩ := DataW.trod_int Tryd.underlying3 g6
  simp at e0 e1 e2 e3 e4 e5 e6
  subst e0 e1 e2 e3 e4 e5 e6
  exact ⟨⟨k, o, d, a, b, n, t⟩, rfl, bounds_i64 w0, bounds_i64 w1, bounds_i64 w2, bounds_i64 w3, bounds_i64 w4, bounds_i64 w5, bounds_i64 w6⟩
set_option maxRecDepth 100000 in
theorem open_ins {H : Type} {enc : TypeId × Value → H} {W : World} {b0 b1 : Nat} {sp : Nat → Bool} {held : Bool} {v : Value} {d : DataW H} {ps : List MemPlace} {r : Reach} (hv : Value.okWide Tryd.prog W r b1 37 v) (h : DataW.Trod enc Tryd.prog W b0 sp held 37 v d ps) :
    ∃ x : Ic, v = .agg #[.int .i64 x.k, .int .i64 x.o, .int .i64 x.d, .int .i64 x.a, .int .i64 x.b, .int .i64 x.n, .int .i64 x.t] ∧ Ok6 x := by
  obtain ⟨cs, rfl, hsz⟩ := okWide_struct Tryd.underlying37 hv
  obtain ⟨fuel, hf⟩ := h
  obtain ⟨x, hx, hok⟩ := ins_of hf
  refine ⟨x, ?_, hok⟩
  have e : cs.toList = [.int .i64 x.k, .int .i64 x.o, .int .i64 x.d, .int .i64 x.a, .int .i64 x.b, .int .i64 x.n, .int .i64 x.t] := by simpa [Value.cells] using hx
  rw [← Array.toArray_toList (xs := cs), e]
set_option maxRecDepth 100000 in
theorem open_code {H : Type} {enc : TypeId × Value → H} {W : World} {a0 : Option Addr} {n c : Nat} {d : DataW H} {ps : List MemPlace} (h : DataW.Trod enc Tryd.prog W 0 (fun _ => true) true 22 (.slice a0 n c) d ps) : ∃ l : List Ic, l.length = n ∧ CodeAt W a0 l := by
  obtain ⟨fuel, hf⟩ := h
  rcases open_slice Tryd.underlying22 hf with ⟨hcs, _⟩ | ⟨a, len, cap, m, k, D, Pl, hcs, _, hl, _, hm, hx, hcell⟩
  · simp [Value.cells] at hcs
    exact ⟨[], by simp [hcs], fun i x hx => by simp at hx⟩
  · simp [Value.cells] at hcs
    obtain ⟨rfl, rfl, rfl⟩ := hcs
    simp only [if_true] at hm
    obtain ⟨b, off, spot⟩ := a
    have key : ∀ i, i < n → ∃ x : Ic, Ok6 x ∧ spot = none ∧ b < W.heap.size ∧ At7 W b (off + i * 7) x := by
      intro i hi
      obtain ⟨cs', hc, ht⟩ := hcell i (by omega)
      rw [c_ins] at hc
      obtain ⟨_, hlen, hcc⟩ := World.cells?_some hc
      obtain ⟨x, rfl, hok⟩ := ins_of ht
      have e0 := hcc 0 (by omega)
      have e1 := hcc 1 (by omega)
      have e2 := hcc 2 (by omega)
      have e3 := hcc 3 (by omega)
      have e4 := hcc 4 (by omega)
      have e5 := hcc 5 (by omega)
      have e6 := hcc 6 (by omega)
      rw [Deep.add_add] at e0 e1 e2 e3 e4 e5 e6
      simp only [List.getElem?_cons_zero, List.getElem?_cons_succ] at e0 e1 e2 e3 e4 e5 e6
      have hspot : spot = none := by
        obtain ⟨cs0, hc0, ht0⟩ := hcell 0 (by omega)
        rw [c_ins] at hc0
        obtain ⟨_, hl0, hcc0⟩ := World.cells?_some hc0
        obtain ⟨x0, rfl, _⟩ := ins_of ht0
        have := hcc0 0 (by omega)
        simp only [List.getElem?_cons_zero] at this
        simpa [Addr.add] using World.cell?_spot this
      subst hspot
      rw [add_plain] at e0 e1 e2 e3 e4 e5 e6
      exact ⟨x, hok, rfl, cell_in e0, ⟨e0, e1, e2, e3, e4, e5, e6⟩⟩
    have hall : ∀ i, ∃ x : Ic, i < n → Ok6 x ∧ spot = none ∧ b < W.heap.size ∧ At7 W b (off + i * 7) x := fun i => by
      by_cases hi : i < n
      · obtain ⟨x, hx⟩ := key i hi
        exact ⟨x, fun _ => hx⟩
      · exact ⟨⟨0, 0, 0, 0, 0, 0, 0⟩, fun h => absurd h hi⟩
    let f : Nat → Ic := fun i => Classical.choose (hall i)
    refine ⟨(List.range n).map f, by simp, fun i x hx => ?_⟩
    have hi : i < n := by
      have := (List.getElem?_eq_some_iff.1 hx).1
      simpa using this
    have hfx : f i = x := by
      rw [List.getElem?_map, List.getElem?_range hi] at hx
      simpa using hx
    obtain ⟨hok, hsp, hb, hat⟩ := Classical.choose_spec (hall i) hi
    exact ⟨b, off, by rw [hsp], hb, hfx ▸ hat, hfx ▸ hok⟩
end Go.Proofs.YtacgfjcdfgdpjaaDoor
