/-
  No cell of these rows narrows 'for every input' (looked for: loops, veiled, ifaces, maps, wideKeys, modest, calm, conditions, laid).
  DERIVED. THE GIVEN ROWS OF THIS SEAT. 3 by the template 'for every input the law returns true; each argument reads behind the call as it read before'; 0 by the template 'total and deterministic' (their statements: YtbmmjomcjlpnlaaTotals.lean).
  GIVEN WITH THE SEED: the statements are not yours to turn. If you find one false, say at which input.
  Laid BY PROGRAM, IN A SANDBOX (cutbox-rows.mjs): the forced cells as the released guide's own fill.sh prints them over the translation 1bea127a7ba20907… (all of the seat's roots in one cut). By AI agents, Wed Nov 11 2026. No macro, syntax, notation, axiom, sorry.
-/
import Derived.Test.YtbmmjomcjlpnlaaChecked
import GoSem.Claim
import GoSem.ClaimJoined
import GoSem.ClaimMapViews
import Derived.JoinedTies
import Derived.KernelRfl
namespace Go.Proofs.Ytbmmjomcjlpnlaa
/- THE CELL 'sum', in the pinned program and in every row, IS THE sha256 OF THE DUMP (.gsa) THAT YtbmmjomcjlpnlaaProg.lean LOADS. Nothing in Lean hashes anything: it is a label: what it is worth is what the hold of that sum in a sandbox is worth. -/
noncomputable def Try.pinned : Pinned := { name := "ytbmmjomcjlpnlaa", sum := "1bea127a7ba20907645ee4c92e97ac20c195bc5f9060bb5702e7fa6007a09107", checked := Try.checked }
namespace Rows
def none {H : Type} : Left H := { results := [], args := [] }

/-- 'palinglaw06.NamesTell': WHATEVER THE INPUT: true; the input reads as it did. -/
def namesTellSpec : ChangeSpec := { name := "namesTell", fn := fun _ => fun
  | [d1, d2] => { results := [.lit (.bool true)], args := [d1, d2] }
  | _ => none }
def namesTellRow : OpenClaim := { program := "ytbmmjomcjlpnlaa", sum := "1bea127a7ba20907645ee4c92e97ac20c195bc5f9060bb5702e7fa6007a09107", func := "paling/palinglaw06.NamesTell", spec := "namesTell", unfollowed := true, recurses := true, apart := false }
def NamesTellSaid : Prop := namesTellRow.holds Try.pinned (OpenSpec.ofChange namesTellSpec)

/-- ITS FALSE NEIGHBOUR: 'it returns false'. Refute it at one input. -/
def namesTellWrong : ChangeSpec := { name := "namesTell", fn := fun _ => fun
  | [d1, d2] => { results := [.lit (.bool false)], args := [d1, d2] }
  | _ => none }
def NamesTellWrongFalsely : Prop := namesTellRow.holds Try.pinned (OpenSpec.ofChange namesTellWrong)

/-- 'palinglaw06.NamesLeave': WHATEVER THE INPUT: true; the input reads as it did. -/
def namesLeaveSpec : ChangeSpec := { name := "namesLeave", fn := fun _ => fun
  | [d1, d2, d3] => { results := [.lit (.bool true)], args := [d1, d2, d3] }
  | _ => none }
def namesLeaveRow : OpenClaim := { program := "ytbmmjomcjlpnlaa", sum := "1bea127a7ba20907645ee4c92e97ac20c195bc5f9060bb5702e7fa6007a09107", func := "paling/palinglaw06.NamesLeave", spec := "namesLeave", unfollowed := true, recurses := true, apart := false }
def NamesLeaveSaid : Prop := namesLeaveRow.holds Try.pinned (OpenSpec.ofChange namesLeaveSpec)

/-- ITS FALSE NEIGHBOUR: 'it returns false'. Refute it at one input. -/
def namesLeaveWrong : ChangeSpec := { name := "namesLeave", fn := fun _ => fun
  | [d1, d2, d3] => { results := [.lit (.bool false)], args := [d1, d2, d3] }
  | _ => none }
def NamesLeaveWrongFalsely : Prop := namesLeaveRow.holds Try.pinned (OpenSpec.ofChange namesLeaveWrong)

/-- 'palinglaw06.NamesAnew': WHATEVER THE INPUT: true; the input reads as it did. -/
def namesAnewSpec : ChangeSpec := { name := "namesAnew", fn := fun _ => fun
  | [d1, d2, d3] => { results := [.lit (.bool true)], args := [d1, d2, d3] }
  | _ => none }
def namesAnewRow : OpenClaim := { program := "ytbmmjomcjlpnlaa", sum := "1bea127a7ba20907645ee4c92e97ac20c195bc5f9060bb5702e7fa6007a09107", func := "paling/palinglaw06.NamesAnew", spec := "namesAnew", unfollowed := true, recurses := true, apart := false }
def NamesAnewSaid : Prop := namesAnewRow.holds Try.pinned (OpenSpec.ofChange namesAnewSpec)

/-- ITS FALSE NEIGHBOUR: 'it returns false'. Refute it at one input. -/
def namesAnewWrong : ChangeSpec := { name := "namesAnew", fn := fun _ => fun
  | [d1, d2, d3] => { results := [.lit (.bool false)], args := [d1, d2, d3] }
  | _ => none }
def NamesAnewWrongFalsely : Prop := namesAnewRow.holds Try.pinned (OpenSpec.ofChange namesAnewWrong)

/- THE SECOND FORM. 'bulk': how many values and letters a reading holds, each counted each time it is reached (what is shared counts as often as it is met; a slice's spare places count too). A statement '..UptoSaid' is the law's where the arguments, and the package variables that the reading takes, are together of bulk at most 1048576: NARROWER than '..Said'. Prove '..Said' where nothing that the law and all that it calls make is longer than what came in: it says more and counts as full. Else prove '..UptoSaid'. A law counts once. -/
mutual
def uptoBulk {H : Type} : DataW H → Nat
  | .lit (.string bytes) => bytes.length + 1
  | .lit _ => 1
  | .nil => 1
  | .ptr d => uptoBulk d + 1
  | .slice elems spare => uptoBulkAll elems + uptoBulkAll spare + 1
  | .agg parts => uptoBulkAll parts + 1
  | .iface _ d => uptoBulk d + 1
  | .map entries => uptoBulkEntries entries + 1
  | .held _ => 1
def uptoBulkAll {H : Type} : List (DataW H) → Nat
  | [] => 0
  | d :: r => uptoBulk d + uptoBulkAll r
def uptoBulkEntries {H : Type} : List (Lit × DataW H) → Nat
  | [] => 0
  | x :: r => uptoBulkEntry x + uptoBulkEntries r
def uptoBulkEntry {H : Type} : Lit × DataW H → Nat
  | (.string bytes, d) => bytes.length + uptoBulk d + 1
  | (_, d) => uptoBulk d + 1
 end
def uptoSmall : (H : Type) → List (DataW H) → Bool := fun _ ds => decide (uptoBulkAll ds ≤ 1048576)
def OpenSpec.upto (s : _root_.Go.ChangeSpec) : _root_.Go.OpenSpec := { _root_.Go.OpenSpec.ofChange s with cond := some uptoSmall }

/-- 'palinglaw06.NamesTell', WHERE WHAT IT READS IS OF BULK AT MOST 1048576: true; the input reads as it did. -/
def namesTellUptoRow : OpenClaim := { program := "ytbmmjomcjlpnlaa", sum := "1bea127a7ba20907645ee4c92e97ac20c195bc5f9060bb5702e7fa6007a09107", func := "paling/palinglaw06.NamesTell", spec := "namesTell", unfollowed := true, recurses := true, apart := false, narrowed := true }
def NamesTellUptoSaid : Prop := namesTellUptoRow.holds Try.pinned (OpenSpec.upto namesTellSpec)

/-- 'palinglaw06.NamesLeave', WHERE WHAT IT READS IS OF BULK AT MOST 1048576: true; the input reads as it did. -/
def namesLeaveUptoRow : OpenClaim := { program := "ytbmmjomcjlpnlaa", sum := "1bea127a7ba20907645ee4c92e97ac20c195bc5f9060bb5702e7fa6007a09107", func := "paling/palinglaw06.NamesLeave", spec := "namesLeave", unfollowed := true, recurses := true, apart := false, narrowed := true }
def NamesLeaveUptoSaid : Prop := namesLeaveUptoRow.holds Try.pinned (OpenSpec.upto namesLeaveSpec)

/-- 'palinglaw06.NamesAnew', WHERE WHAT IT READS IS OF BULK AT MOST 1048576: true; the input reads as it did. -/
def namesAnewUptoRow : OpenClaim := { program := "ytbmmjomcjlpnlaa", sum := "1bea127a7ba20907645ee4c92e97ac20c195bc5f9060bb5702e7fa6007a09107", func := "paling/palinglaw06.NamesAnew", spec := "namesAnew", unfollowed := true, recurses := true, apart := false, narrowed := true }
def NamesAnewUptoSaid : Prop := namesAnewUptoRow.holds Try.pinned (OpenSpec.upto namesAnewSpec)

end Rows
end Go.Proofs.Ytbmmjomcjlpnlaa
