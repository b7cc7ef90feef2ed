/- calc.Digits of any number; what the listed variables hold. -/
import Derived.Test.YtjjjdghkeogljaaDoorShelf
import Derived.Test.YtjjjdghkeogljaaDoorSgI
import Derived.WalkSmall
import Derived.Lib.ParseIntBTie
namespace Go.Proofs.YtjjjdghkeogljaaDoor
set_option linter.unusedSimpArgs false
set_option linter.unusedVariables false
open Go Go.RowKit Go.Sort

/-- What the listed variables hold when a call begins. -/
structure Laid (w : World) : Prop where
  tab : Table w
  kin : Kinds w
  rPow : 2 < w.heap.size
  pow : Lib.TabIs Tryd.prog w "internal/strconv.uint64pow10" .u64 Lib.pow10Tab

theorem gPow : Tryd.prog.globalNamed "internal/strconv.uint64pow10" = some 2 := by kernel_rfl

theorem Laid.below {w w' : World} (L : Laid w) (hb : Below w.heap.size w w') : Laid w' where
  tab := L.tab.below hb
  kin := L.kin.below hb
  rPow := Nat.lt_of_lt_of_le L.rPow hb.size
  pow := var?_below hb gPow L.rPow L.pow

theorem below_grow (w : World) (k : Nat) (os : Array Obj) : Below w.heap.size w (grow (w.drewN k) os) := by
  have h1 : Below w.heap.size w (w.drewN k) := below_drewN (Below.refl _ _) k
  refine ⟨h1.os, h1.tape, h1.output, ?_, fun j hj => ?_⟩
  · have := h1.size
    simp [grow]
  · rw [← h1.block j hj]
    simp only [grow]
    rw [Array.getElem?_append_left (by have := h1.size; omega)]

/-- A number's digits. -/
def dig (n : Int) : ByteArray := ⟨(Lib.itoa n).toArray⟩

/-- calc.Digits, of any number. -/
theorem digits_any (n : Int) (w : World) (L : Hid (Laid w)) (h0 : -9223372036854775808 ≤ n) (h1 : n ≤ 9223372036854775807) : Calls Tryd.prog 44 #[.int .i64 n] w fun e w' => e = .returned (.string (dig n)) ∧ Below w.heap.size w w' := by
  go_enter Tryd.func44, Tryd.ntmps44
  go_wp2_with (go_at_call 55; refine (Tryd.strconv_FormatInt_10 n h0 h1 _ L.out.pow).mono ?_; rintro e w' ⟨rfl, k, os, rfl⟩)
  go_ret
  exact ⟨rfl, below_grow w k os⟩

end Go.Proofs.YtjjjdghkeogljaaDoor
