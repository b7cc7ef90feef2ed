/-
  DERIVED. GIVEN WITH THE SEED: THE CARDS: each row of YtngfbpmabdmkeaaGreatDoorRows.lean that lists a variable, with what it lists TIED to the program's text (the seventh form; the later family's looks); each row that meets fmt, with fmt's text TOLD by the authors' own Lean function (tested against real Go, not proved from fmt's source: count such statements apart). THE CARD IS WHAT COUNTS. Prove the row's statement (the work); the ties are given (YtngfbpmabdmkeaaGreatDoorTie.lean); close each card by the builder's one call (the guide's Derived/Test/ToyasCard.lean, 'card_holds'). Laid BY PROGRAM, IN A SANDBOX (cutbox-door.mjs). By AI agents, Wed Nov 11 2026. No macro, syntax, notation, axiom, sorry.
-/
import Derived.Test.YtngfbpmabdmkeaaGreatDoorRows
import GoSem.ClaimSeven
namespace Go.Proofs.YtngfbpmabdmkeaaGreatDoor
namespace Rows

/-- THE TIED CARD OF 'palinglaw03.ExprJoins'. -/
def exprJoinsCard : Claim7 := { stood := { row := exprJoinsRow, standIns := [], harness := (true, "f2b725d75c69dc7cb65d567d2f3c1d7a65a8b635b3477de2bd0fc9113e563462"), looks := true }, kinds := [], alts := [], laidByText := true, laidKinds := [.data, .data, .data, .sentinel, .sentinel, .data], laidTests := true, laidLooks := .later }
def ExprJoinsCardSaid : Prop := Claim7.holds Tryz.pinned (.plain (OpenSpec.ofChange exprJoinsSpec)) exprJoinsCard

/-- THE TIED CARD OF 'palinglaw03.ExprNamed'. -/
def exprNamedCard : Claim7 := { stood := { row := exprNamedRow, standIns := [], harness := (true, "f2b725d75c69dc7cb65d567d2f3c1d7a65a8b635b3477de2bd0fc9113e563462"), looks := true }, kinds := [], alts := [], laidByText := true, laidKinds := [.data, .data, .data, .sentinel, .sentinel, .data], laidTests := true, laidLooks := .later }
def ExprNamedCardSaid : Prop := Claim7.holds Tryz.pinned (.plain (OpenSpec.ofChange exprNamedSpec)) exprNamedCard

/-- THE TIED CARD OF 'palinglaw04.ProgSame'. -/
def progSameCard : Claim7 := { stood := { row := progSameRow, standIns := [], harness := (true, "f2b725d75c69dc7cb65d567d2f3c1d7a65a8b635b3477de2bd0fc9113e563462"), looks := true }, kinds := [], alts := [], laidByText := true, laidKinds := [.data, .data, .data, .sentinel, .sentinel, .data], laidTests := true, laidLooks := .later }
def ProgSameCardSaid : Prop := Claim7.holds Tryz.pinned (.plain (OpenSpec.ofChange progSameSpec)) progSameCard

/-- THE TIED CARD OF 'palinglaw04.ProgJoins'. -/
def progJoinsCard : Claim7 := { stood := { row := progJoinsRow, standIns := [], harness := (true, "f2b725d75c69dc7cb65d567d2f3c1d7a65a8b635b3477de2bd0fc9113e563462"), looks := true }, kinds := [], alts := [], laidByText := true, laidKinds := [.data, .data, .data, .sentinel, .sentinel, .data], laidTests := true, laidLooks := .later }
def ProgJoinsCardSaid : Prop := Claim7.holds Tryz.pinned (.plain (OpenSpec.ofChange progJoinsSpec)) progJoinsCard

/-- THE TIED CARD OF 'palinglaw04.ProgDeep'. -/
def progDeepCard : Claim7 := { stood := { row := progDeepRow, standIns := [], harness := (true, "f2b725d75c69dc7cb65d567d2f3c1d7a65a8b635b3477de2bd0fc9113e563462"), looks := true }, kinds := [], alts := [], laidByText := true, laidKinds := [.data, .data, .data, .sentinel, .sentinel, .data], laidTests := true, laidLooks := .later }
def ProgDeepCardSaid : Prop := Claim7.holds Tryz.pinned (.plain (OpenSpec.ofChange progDeepSpec)) progDeepCard

/-- THE TIED CARD OF 'palinglaw04.ProgMany'. -/
def progManyCard : Claim7 := { stood := { row := progManyRow, standIns := [], harness := (true, "f2b725d75c69dc7cb65d567d2f3c1d7a65a8b635b3477de2bd0fc9113e563462"), looks := true }, kinds := [], alts := [], laidByText := true, laidKinds := [.data, .data, .data, .sentinel, .sentinel, .data], laidTests := true, laidLooks := .later }
def ProgManyCardSaid : Prop := Claim7.holds Tryz.pinned (.plain (OpenSpec.ofChange progManySpec)) progManyCard

/-- THE SECOND FORM's CARD OF 'palinglaw03.ExprJoins'. -/
def exprJoinsUptoCard : Claim7 := { stood := { row := exprJoinsUptoRow, standIns := [], harness := (true, "f2b725d75c69dc7cb65d567d2f3c1d7a65a8b635b3477de2bd0fc9113e563462"), looks := true }, kinds := [], alts := [], laidByText := true, laidKinds := [.data, .data, .data, .sentinel, .sentinel, .data], laidTests := true, laidLooks := .later }
def ExprJoinsUptoCardSaid : Prop := Claim7.holds Tryz.pinned (.plain (OpenSpec.upto exprJoinsSpec)) exprJoinsUptoCard

/-- THE SECOND FORM's CARD OF 'palinglaw03.ExprNamed'. -/
def exprNamedUptoCard : Claim7 := { stood := { row := exprNamedUptoRow, standIns := [], harness := (true, "f2b725d75c69dc7cb65d567d2f3c1d7a65a8b635b3477de2bd0fc9113e563462"), looks := true }, kinds := [], alts := [], laidByText := true, laidKinds := [.data, .data, .data, .sentinel, .sentinel, .data], laidTests := true, laidLooks := .later }
def ExprNamedUptoCardSaid : Prop := Claim7.holds Tryz.pinned (.plain (OpenSpec.upto exprNamedSpec)) exprNamedUptoCard

/-- THE SECOND FORM's CARD OF 'palinglaw04.ProgSame'. -/
def progSameUptoCard : Claim7 := { stood := { row := progSameUptoRow, standIns := [], harness := (true, "f2b725d75c69dc7cb65d567d2f3c1d7a65a8b635b3477de2bd0fc9113e563462"), looks := true }, kinds := [], alts := [], laidByText := true, laidKinds := [.data, .data, .data, .sentinel, .sentinel, .data], laidTests := true, laidLooks := .later }
def ProgSameUptoCardSaid : Prop := Claim7.holds Tryz.pinned (.plain (OpenSpec.upto progSameSpec)) progSameUptoCard

/-- THE SECOND FORM's CARD OF 'palinglaw04.ProgJoins'. -/
def progJoinsUptoCard : Claim7 := { stood := { row := progJoinsUptoRow, standIns := [], harness := (true, "f2b725d75c69dc7cb65d567d2f3c1d7a65a8b635b3477de2bd0fc9113e563462"), looks := true }, kinds := [], alts := [], laidByText := true, laidKinds := [.data, .data, .data, .sentinel, .sentinel, .data], laidTests := true, laidLooks := .later }
def ProgJoinsUptoCardSaid : Prop := Claim7.holds Tryz.pinned (.plain (OpenSpec.upto progJoinsSpec)) progJoinsUptoCard

/-- THE SECOND FORM's CARD OF 'palinglaw04.ProgDeep'. -/
def progDeepUptoCard : Claim7 := { stood := { row := progDeepUptoRow, standIns := [], harness := (true, "f2b725d75c69dc7cb65d567d2f3c1d7a65a8b635b3477de2bd0fc9113e563462"), looks := true }, kinds := [], alts := [], laidByText := true, laidKinds := [.data, .data, .data, .sentinel, .sentinel, .data], laidTests := true, laidLooks := .later }
def ProgDeepUptoCardSaid : Prop := Claim7.holds Tryz.pinned (.plain (OpenSpec.upto progDeepSpec)) progDeepUptoCard

/-- THE SECOND FORM's CARD OF 'palinglaw04.ProgMany'. -/
def progManyUptoCard : Claim7 := { stood := { row := progManyUptoRow, standIns := [], harness := (true, "f2b725d75c69dc7cb65d567d2f3c1d7a65a8b635b3477de2bd0fc9113e563462"), looks := true }, kinds := [], alts := [], laidByText := true, laidKinds := [.data, .data, .data, .sentinel, .sentinel, .data], laidTests := true, laidLooks := .later }
def ProgManyUptoCardSaid : Prop := Claim7.holds Tryz.pinned (.plain (OpenSpec.upto progManySpec)) progManyUptoCard
end Rows
end Go.Proofs.YtngfbpmabdmkeaaGreatDoor
