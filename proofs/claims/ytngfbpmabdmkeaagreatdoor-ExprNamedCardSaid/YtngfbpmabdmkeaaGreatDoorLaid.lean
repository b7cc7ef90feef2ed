/- What the rows' condition on the listed variables gives the walks. -/
import Derived.Test.YtngfbpmabdmkeaaGreatDoorNumB
import Derived.Test.YtngfbpmabdmkeaaGreatDoorRows
import Derived.ProofKit
import Derived.LaidMore
import Derived.OpenShut
import Derived.Stop.Joined
import Derived.Stop.LaidErr
import Derived.LaidLaws
namespace Go.Proofs.YtngfbpmabdmkeaaGreatDoor
open Go Go.ChangeShapes Go.WideShapes Go.ChangeAt Go.WideMaps Go.WideElems Go.RowKit Go.Sort

theorem own : ownKnob Tryz.prog.godebug = none := by kernel_rfl
theorem gSigns : Tryz.prog.globalNamed "paling/calc.signs" = some 0 := by kernel_rfl
theorem tSigns : (Tryz.prog.globals[0]?).map (·.type) = some 173 := by kernel_rfl
theorem tPow : (Tryz.prog.globals[1]?).map (·.type) = some 190 := by kernel_rfl
theorem tSyn : (Tryz.prog.globals[3]?).map (·.type) = some 137 := by kernel_rfl
theorem tRng : (Tryz.prog.globals[4]?).map (·.type) = some 137 := by kernel_rfl
theorem rowErr : ∀ u, Tryz.prog.typeName? 3 u = some "*errors.errorString" → u = 208 := fun u hu => typeName_ptr_named (nm := "errors.errorString") (by kernel_rfl) (by kernel_rfl) (by decide) u hu
theorem cPow : Tryz.prog.cellsOf 190 = 20 := by kernel_rfl
theorem cU64 : Tryz.prog.cellsOf 183 = 1 := by kernel_rfl
theorem cErr : Tryz.prog.cellsOf 210 = 1 := by kernel_rfl
theorem cStr : Tryz.prog.cellsOf 9 = 1 := by kernel_rfl
theorem cInt : Tryz.prog.cellsOf 3 = 1 := by kernel_rfl
theorem cWritten : Tryz.prog.cellsOf 172 = 2 := by kernel_rfl

theorem signs_eq : (Rows.laid_paling_calc_signs : DataW Unit) = .agg ((List.range 19).map fun i => .agg [.lit (.string (sgn i).data.toList), .lit (.int .i64 (rnk i))]) := by rfl

theorem lt_of_var {w : World} {n : String} {g : Nat} {cs : Array Value} (hg : Tryz.prog.globalNamed n = some g) (h : w.var? Tryz.prog n = some cs) : g < w.heap.size := by
  unfold World.var? at h
  simp only [hg, Option.bind_some] at h
  cases hh : w.heap[g]? with
  | none => simp [hh] at h
  | some o => exact (Array.getElem?_eq_some_iff.1 hh).1

theorem table_of {W : World} {r : List (String × DataW Unit)} (h : laidMet Tryz.prog (("paling/calc.signs", Rows.laid_paling_calc_signs) :: r) W) : Table W := by
  obtain ⟨ps, ⟨g0, t0, cs0, f0, p0, q0, hg0, ht0, hv0, hd0, _, _⟩, _⟩ := h
  obtain rfl := Option.some.inj (gSigns.symm.trans hg0)
  obtain rfl := Option.some.inj (tSigns.symm.trans ht0)
  obtain ⟨xs, m, rfl, hx, hlen, hn, hel⟩ := DataW.trod_array Tryz.underlying173 hd0
  rw [signs_eq] at hx
  simp only [Prod.mk.injEq, DataW.agg.injEq] at hx
  have key : ∀ n, n < 19 → cs0.toList[n * 2]? = some (.string (sgn n)) ∧ cs0.toList[n * 2 + 1]? = some (.int .i64 (rnk n)) := by
    intro n hn19
    have h0 := hel n hn19
    have hxs : xs[n]? = some xs[n] := List.getElem?_eq_getElem (by omega)
    rw [hxs] at h0
    have hx1 : (xs.map (·.1))[n]? = some xs[n].1 := by rw [List.getElem?_map, hxs]; rfl
    rw [← hx.1, List.getElem?_map, List.getElem?_range hn19] at hx1
    simp only [Option.map_some, Option.some.injEq] at hx1
    obtain ⟨y0, y1, k, e0, _, e1, e2⟩ := trod_struct2 Tryz.underlying172 h0
    obtain ⟨s, c1, d1, _⟩ := DataW.trod_string Tryz.underlying9 e1
    obtain ⟨v, c2, d2, _⟩ := DataW.trod_int Tryz.underlying3 e2
    rw [e0, d1, d2] at hx1
    simp only [DataW.agg.injEq, List.cons.injEq, DataW.lit.injEq, Lit.string.injEq, Lit.int.injEq, true_and, and_true] at hx1
    rw [cWritten] at c1 c2
    constructor
    · have := bytes_inj hx1.1
      rw [this]
      have c3 := congrArg (·[0]?) c1
      simpa [List.getElem?_take, List.getElem?_drop, cStr] using c3
    · rw [hx1.2]
      have c3 := congrArg (·[0]?) c2
      simpa [List.getElem?_take, List.getElem?_drop, cInt, Nat.add_assoc] using c3
  refine ⟨lt_of_var gSigns hv0, fun n hn => ?_, fun n hn => ?_⟩
  · rw [World.var?_cell gSigns hv0]
    simpa using (key n hn).1
  · rw [World.var?_cell gSigns hv0]
    simpa using (key n hn).2

def laidL : List (String × DataW Unit) := Rows.exprJoinsRow.laid

theorem of_laid {W : World} (h : laidMetH Tryz.prog laidL W) : Laid W := by
  rw [MakeChecks.laidMetH_plain _ _ _ (by kernel_rfl)] at h
  have hp := h.tail.tail
  have hr := hp.tail
  have hs := hr.tail
  have ht := table_of hs.tail
  have hpow : Lib.TabIs Tryz.prog W "internal/strconv.uint64pow10" .u64 Lib.pow10Tab := Lib.tabIs_of_head gPow tPow Tryz.underlying190 Tryz.underlying183 cU64 cPow hp
  obtain ⟨a0, s0, v0, _⟩ := laid_sentinel hr gRng tRng Tryz.underlying137 rowErr Tryz.underlying208 Tryz.underlying210 rfl rfl Tryz.underlying9 cErr cStr
  obtain ⟨a1, s1, v1, _⟩ := laid_sentinel hs gSyn tSyn Tryz.underlying137 rowErr Tryz.underlying208 Tryz.underlying210 rfl rfl Tryz.underlying9 cErr cStr
  exact ⟨ht, lt_of_var gPow hpow, lt_of_var gSyn v1, lt_of_var gRng v0, hpow, ⟨_, _, v1⟩, ⟨_, _, v0⟩⟩

/-- The door's own heap meets the condition: three closed facts. -/
theorem door_met (os : Os) (args : Array Value) : laidMetH Tryz.prog laidL ((World.doorLaid Tryz.prog 400 os).forCall (fun _ _ => 0) ⟨#[], args, []⟩).memory :=
  laidMetH_of_parts3 (fuel := 8) (laidMet_of_run' 8 (by kernel_rfl) (by kernel_rfl)) (by kernel_rfl) (by kernel_rfl)
end Go.Proofs.YtngfbpmabdmkeaaGreatDoor
