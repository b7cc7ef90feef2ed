/- What the rows' condition on the listed variables gives the walks. -/
import Derived.Test.YtacgfjcdfgdpjaaDoorGax
import Derived.Test.YtacgfjcdfgdpjaaDoorRows
import Derived.ProofKit
import Derived.LaidMore
import Derived.OpenShut
import Derived.Stop.Joined
import Derived.Stop.LaidErr
import Derived.LaidLaws
import Derived.Lib.SmallJoins
namespace Go.Proofs.YtacgfjcdfgdpjaaDoor
set_option linter.unusedSimpArgs false
set_option linter.unusedVariables false
open Go Go.ChangeShapes Go.WideShapes Go.ChangeAt Go.WideMaps Go.WideElems Go.RowKit Go.Sort

theorem own : ownKnob Tryd.prog.godebug = none := by kernel_rfl
theorem lt_of_var {w : World} {n : String} {g : Nat} {cs : Array Value} (hg : Tryd.prog.globalNamed n = some g) (h : w.var? Tryd.prog n = some cs) : g < w.heap.size := by
  unfold World.var? at h
  simp only [hg, Option.bind_some] at h
  cases hh : w.heap[g]? with
  | none => simp [hh] at h
  | some o => exact (Array.getElem?_eq_some_iff.1 hh).1

theorem gKinds : Tryd.prog.globalNamed "paling/ins.kinds" = some 0 := by kernel_rfl
theorem tKinds : (Tryd.prog.globals[0]?).map (·.type) = some 101 := by kernel_rfl
theorem cMade : Tryd.prog.cellsOf 100 = 7 := by kernel_rfl
theorem cPart : Tryd.prog.cellsOf 97 = 1 := by kernel_rfl
theorem cParts : Tryd.prog.cellsOf 98 = 4 := by kernel_rfl
theorem cBool : Tryd.prog.cellsOf 4 = 1 := by kernel_rfl
theorem kinds_eq : (Rows.laid_paling_ins_kinds : DataW Unit) = .agg ((List.range 14).map fun i => .agg [.lit (.string (nam i).data.toList), .agg ((List.range 4).map fun j => .lit (.int .i64 (prt i j))), .lit (.bool (kps i)), .lit (.bool (ens i))]) := by rfl
theorem list_four {α : Type} {l : List α} (h : l.length = 4) : ∃ a b c d, l = [a, b, c, d] := by
  match l, h with
  | [a, b, c, d], _ => exact ⟨a, b, c, d, rfl⟩
set_option maxRecDepth 100000 in
theorem kinds_of {W : World} {r : List (String × DataW Unit)} (h : laidMet Tryd.prog (("paling/ins.kinds", Rows.laid_paling_ins_kinds) :: r) W) : Kinds W := by
  obtain ⟨ps, ⟨g0, t0, cs0, f0, p0, q0, hg0, ht0, hv0, hd0, _, _⟩, _⟩ := h
  obtain rfl := Option.some.inj (gKinds.symm.trans hg0)
  obtain rfl := Option.some.inj (tKinds.symm.trans ht0)
  obtain ⟨xs, m, rfl, hx, hlen, hn, hel⟩ := DataW.trod_array Tryd.underlying101 hd0
  rw [kinds_eq] at hx
  simp only [Prod.mk.injEq, DataW.agg.injEq] at hx
  have key : ∀ n, n < 14 → cs0.toList[n * 7]? = some (.string (nam n)) ∧ (∀ j, j < 4 → cs0.toList[n * 7 + 1 + j]? = some (.int .i64 (prt n j))) ∧ cs0.toList[n * 7 + 5]? = some (.bool (kps n)) ∧ cs0.toList[n * 7 + 6]? = some (.bool (ens n)) := by
    intro n hn14
    have h0 := hel n hn14
    have hxs : xs[n]? = some xs[n] := List.getElem?_eq_getElem (by omega)
    rw [hxs] at h0
    have hx1 : (xs.map (·.1))[n]? = some xs[n].1 := by rw [List.getElem?_map, hxs]; rfl
    rw [← hx.1, List.getElem?_map, List.getElem?_range hn14] at hx1
    simp only [Option.map_some, Option.some.injEq] at hx1
    obtain ⟨ys, k, _, e0, _, hys, hfs⟩ := DataW.trod_struct Tryd.underlying100 h0
    obtain ⟨y0, y1, y2, y3, rfl⟩ := list_four hys
    have e1 := hfs 0 _ rfl
    have e2 := hfs 1 _ rfl
    have e3 := hfs 2 _ rfl
    have e4 := hfs 3 _ rfl
    simp only [List.getElem?_cons_zero, List.getElem?_cons_succ] at e1 e2 e3 e4
    obtain ⟨s, c1, d1, _⟩ := DataW.trod_string Tryd.underlying9 e1
    obtain ⟨zs, m2, _, d2, hzl, _, hze⟩ := DataW.trod_array Tryd.underlying98 e2
    obtain ⟨b3, c3, d3⟩ := DataW.trod_bool Tryd.underlying4 e3
    obtain ⟨b4, c4, d4⟩ := DataW.trod_bool Tryd.underlying4 e4
    rw [e0] at hx1
    simp only [List.map_cons, List.map_nil, d1, d2, d3, d4, DataW.agg.injEq, List.cons.injEq, DataW.lit.injEq, Lit.string.injEq, Lit.bool.injEq, and_true] at hx1
    obtain ⟨q1, q2, q3, q4⟩ := hx1
    rw [cMade] at c1 c3 c4 hze
    have get : ∀ i (v : Value) (o z : Nat), (List.take z (List.drop o (List.take 7 (List.drop (n * 7) cs0.toList))))[i]? = some v → cs0.toList[n * 7 + (o + i)]? = some v := by
      intro i v o z h
      simp only [List.getElem?_take, List.getElem?_drop] at h
      split at h
      · split at h
        · exact h
        · cases h
      · cases h
    refine ⟨?_, fun j hj => ?_, ?_, ?_⟩
    · have c5 := congrArg (·[0]?) c1
      have := get 0 _ _ _ c5
      rw [bytes_inj q1]
      simpa using this
    · have hzs : zs[j]? = some zs[j] := List.getElem?_eq_getElem (by omega)
      have h5 := hze j hj
      rw [hzs] at h5
      obtain ⟨v, c5, d5, _⟩ := DataW.trod_int Tryd.underlying97 h5
      have h6 : (zs.map (·.1))[j]? = some zs[j].1 := by rw [List.getElem?_map, hzs]; rfl
      rw [← q2, List.getElem?_map, List.getElem?_range hj, d5] at h6
      simp only [Option.map_some, Option.some.injEq, DataW.lit.injEq, Lit.int.injEq, true_and] at h6
      have c6 := congrArg (·[0]?) c5
      simp only [cPart, List.getElem?_take, List.getElem?_drop, Nat.mul_one] at c6
      rw [h6]
      simp [cParts, hj, show 1 + j < 7 by omega] at c6
      simpa [Nat.add_assoc] using c6
    · have c5 := congrArg (·[0]?) c3
      have := get 0 _ _ _ c5
      rw [q3]
      simpa using this
    · have c5 := congrArg (·[0]?) c4
      have := get 0 _ _ _ c5
      rw [q4]
      simpa using this
  refine ⟨lt_of_var gKinds hv0, fun n hn => ?_, fun n j hn hj => ?_, fun n hn => ?_, fun n hn => ?_⟩
  · rw [World.var?_cell gKinds hv0]
    simpa using (key n hn).1
  · rw [World.var?_cell gKinds hv0]
    simpa using (key n hn).2.1 j hj
  · rw [World.var?_cell gKinds hv0]
    simpa using (key n hn).2.2.1
  · rw [World.var?_cell gKinds hv0]
    simpa using (key n hn).2.2.2

def laidL : List (String × DataW Unit) := Rows.graphReachesRow.laid

theorem of_laid {W : World} (h : laidMetH Tryd.prog laidL W) : Kinds W := by
  rw [MakeChecks.laidMetH_plain _ _ _ (by kernel_rfl)] at h
  exact kinds_of h

/-- The door's own heap meets the condition: three closed facts. -/
theorem door_met (os : Os) (args : Array Value) : laidMetH Tryd.prog laidL ((World.doorLaid Tryd.prog 400 os).forCall (fun _ _ => 0) ⟨#[], args, []⟩).memory :=
  laidMetH_of_parts3 (fuel := 8) (laidMet_of_run' 8 (by kernel_rfl) (by kernel_rfl)) (by kernel_rfl) (by kernel_rfl)
end Go.Proofs.YtacgfjcdfgdpjaaDoor
