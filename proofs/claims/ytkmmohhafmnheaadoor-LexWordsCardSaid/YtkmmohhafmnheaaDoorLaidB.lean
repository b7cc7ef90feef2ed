/- What the rows' condition on the listed variables gives the walks. -/
import Derived.Test.YtkmmohhafmnheaaDoorNumB
import Derived.Test.YtkmmohhafmnheaaDoorRows
import Derived.ProofKit
import Derived.LaidMore
import Derived.OpenShut
import Derived.Stop.Joined
import Derived.Stop.LaidErr
import Derived.LaidLaws
namespace Go.Proofs.YtkmmohhafmnheaaDoor
open Go Go.ChangeShapes Go.WideShapes Go.ChangeAt Go.WideMaps Go.WideElems Go.RowKit Go.Sort

theorem own : ownKnob Tryd.prog.godebug = none := by kernel_rfl
theorem tPow : (Tryd.prog.globals[3]?).map (·.type) = some 95 := by kernel_rfl
theorem tSyn : (Tryd.prog.globals[1]?).map (·.type) = some 64 := by kernel_rfl
theorem tRng : (Tryd.prog.globals[2]?).map (·.type) = some 64 := by kernel_rfl
theorem rowErr : ∀ u, Tryd.prog.typeName? 3 u = some "*errors.errorString" → u = 91 := fun u hu => typeName_ptr_named (nm := "errors.errorString") (by kernel_rfl) (by kernel_rfl) (by decide) u hu
theorem cPow : Tryd.prog.cellsOf 95 = 20 := by kernel_rfl
theorem cU64 : Tryd.prog.cellsOf 75 = 1 := by kernel_rfl
theorem cErr : Tryd.prog.cellsOf 93 = 1 := by kernel_rfl
theorem cStr : Tryd.prog.cellsOf 9 = 1 := by kernel_rfl

theorem lt_of_var {w : World} {n : String} {g : Nat} {cs : Array Value} (hg : Tryd.prog.globalNamed n = some g) (h : w.var? Tryd.prog n = some cs) : g < w.heap.size := by
  unfold World.var? at h
  simp only [hg, Option.bind_some] at h
  cases hh : w.heap[g]? with
  | none => simp [hh] at h
  | some o => exact (Array.getElem?_eq_some_iff.1 hh).1

def laidL : List (String × DataW Unit) := Rows.lexWordsRow.laid

theorem of_laid {W : World} (h : laidMetH Tryd.prog laidL W) : Laid W := by
  rw [MakeChecks.laidMetH_plain _ _ _ (by kernel_rfl)] at h
  have hp := h.tail.tail
  have hr := hp.tail
  have hs := hr.tail
  have hpow : Lib.TabIs Tryd.prog W "internal/strconv.uint64pow10" .u64 Lib.pow10Tab := Lib.tabIs_of_head gPow tPow Tryd.underlying95 Tryd.underlying75 cU64 cPow hp
  obtain ⟨a0, s0, v0, _⟩ := laid_sentinel hr gRng tRng Tryd.underlying64 rowErr Tryd.underlying91 Tryd.underlying93 rfl rfl Tryd.underlying9 cErr cStr
  obtain ⟨a1, s1, v1, _⟩ := laid_sentinel hs gSyn tSyn Tryd.underlying64 rowErr Tryd.underlying91 Tryd.underlying93 rfl rfl Tryd.underlying9 cErr cStr
  exact ⟨lt_of_var gPow hpow, lt_of_var gSyn v1, lt_of_var gRng v0, hpow, ⟨_, _, v1⟩, ⟨_, _, v0⟩⟩

/-- The door's own heap meets the condition: three closed facts. -/
theorem door_met (os : Os) (args : Array Value) : laidMetH Tryd.prog laidL ((World.doorLaid Tryd.prog 400 os).forCall (fun _ _ => 0) ⟨#[], args, []⟩).memory :=
  laidMetH_of_parts3 (fuel := 8) (laidMet_of_run' 8 (by kernel_rfl) (by kernel_rfl)) (by kernel_rfl) (by kernel_rfl)
end Go.Proofs.YtkmmohhafmnheaaDoor
