/- A call of calc.Eval at given numbers, as one word, for the statements' walks; what operators come to, in plain numbers. -/
import Derived.Test.YtibbmacoofgmoaaDoorAwake
namespace Go.Proofs.YtibbmacoofgmoaaDoor
open Go Go.RowKit

/-- calc.Eval of these comes to r, in whatever memory, and leaves what was there. -/
def EvC (o a b r : Int) : Prop := ∀ w : World, Calls Tryd.prog 11 #[.int .i64 o, .int .i64 a, .int .i64 b] w fun e w' => e = .returned (.int .i64 r) ∧ Below w.heap.size w w'
theorem EvC.out {o a b r : Int} (h : EvC o a b r) (w : World) : Calls Tryd.prog 11 #[.int .i64 o, .int .i64 a, .int .i64 b] w fun e w' => e = .returned (.int .i64 r) ∧ Below w.heap.size w w' := h w
theorem EvC.mk {o a b r : Int} (h : ev o a b = r) (hw : (Lit.int .i64 o).wf = true) : EvC o a b r := fun w => h ▸ eval_any o a b w hw

theorem bd_of {a : Int} (h : (Lit.int .i64 a).wf = true) : -9223372036854775808 ≤ a ∧ a ≤ 9223372036854775807 := by
  simp [Lit.wf, IntKind.min, IntKind.max, IntKind.bits, IntKind.signed] at h
  omega
theorem wf_of {a : Int} (h0 : -9223372036854775808 ≤ a) (h1 : a ≤ 9223372036854775807) : (Lit.int .i64 a).wf = true := by
  simp [Lit.wf, IntKind.min, IntKind.max, IntKind.bits, IntKind.signed]
  omega

theorem wrap_id {a : Int} (h0 : -9223372036854775808 ≤ a) (h1 : a ≤ 9223372036854775807) : wrap64 a = a := by unfold wrap64; omega
theorem wrap_bd (a : Int) : -9223372036854775808 ≤ wrap64 a ∧ wrap64 a ≤ 9223372036854775807 := by unfold wrap64; omega
theorem wrap_add_l (a b : Int) : wrap64 (wrap64 a + b) = wrap64 (a + b) := by unfold wrap64; omega
theorem wrap_add_r (a b : Int) : wrap64 (a + wrap64 b) = wrap64 (a + b) := by unfold wrap64; omega
theorem wrap_sub_l (a b : Int) : wrap64 (wrap64 a - b) = wrap64 (a - b) := by unfold wrap64; omega
theorem wrap_sub_r (a b : Int) : wrap64 (a - wrap64 b) = wrap64 (a - b) := by unfold wrap64; omega
theorem tr_01 (t : Bool) : tr t = 0 ∨ tr t = 1 := by cases t <;> simp [tr]
end Go.Proofs.YtibbmacoofgmoaaDoor
