/-
  DERIVED. GIVEN WITH THE SEED: THE CARDS: each row of YtkhbbapocamlmaaDoorRows.lean that lists a variable, with what it lists TIED to the program's text (the seventh form; the later family's looks); each row that meets fmt, with fmt's text TOLD by the authors' own Lean function (tested against real Go, not proved from fmt's source: count such statements apart). THE CARD IS WHAT COUNTS. Prove the row's statement (the work); the ties are given (YtkhbbapocamlmaaDoorTie.lean); close each card by the builder's one call (the guide's Derived/Test/ToyasCard.lean, 'card_holds'). Laid BY PROGRAM, IN A SANDBOX (cutbox-door.mjs). By AI agents, Wed Nov 11 2026. No macro, syntax, notation, axiom, sorry.
-/
import Derived.Test.YtkhbbapocamlmaaDoorRows
import GoSem.ClaimSeven
namespace Go.Proofs.YtkhbbapocamlmaaDoor
namespace Rows

/-- THE TIED CARD OF 'palinglaw05.ShowTells'. -/
def showTellsCard : Claim7 := { stood := { row := showTellsRow, standIns := [], harness := (true, "b189ce5d44b6d48218d6699a4741d673481c2f0c3a635826812884c929eea3eb"), looks := false }, kinds := [], alts := [], laidByText := true, laidKinds := [.data, .data, .data, .data], laidTests := true, laidLooks := .later }
def ShowTellsCardSaid : Prop := Claim7.holds Tryd.pinned (.plain (OpenSpec.ofChange showTellsSpec)) showTellsCard

/-- THE TIED CARD OF 'palinglaw05.ShowBack'. -/
def showBackCard : Claim7 := { stood := { row := showBackRow, standIns := [], harness := (true, "b189ce5d44b6d48218d6699a4741d673481c2f0c3a635826812884c929eea3eb"), looks := false }, kinds := [], alts := [], laidByText := true, laidKinds := [.data, .data, .data, .data], laidTests := true, laidLooks := .later }
def ShowBackCardSaid : Prop := Claim7.holds Tryd.pinned (.plain (OpenSpec.ofChange showBackSpec)) showBackCard

/-- THE TIED CARD OF 'palinglaw05.ShowTabs'. -/
def showTabsCard : Claim7 := { stood := { row := showTabsRow, standIns := [], harness := (true, "b189ce5d44b6d48218d6699a4741d673481c2f0c3a635826812884c929eea3eb"), looks := false }, kinds := [], alts := [], laidByText := true, laidKinds := [.data, .data, .data, .data], laidTests := true, laidLooks := .later }
def ShowTabsCardSaid : Prop := Claim7.holds Tryd.pinned (.plain (OpenSpec.ofChange showTabsSpec)) showTabsCard

/-- THE TIED CARD OF 'palinglaw05.ShowOrder'. -/
def showOrderCard : Claim7 := { stood := { row := showOrderRow, standIns := [], harness := (true, "b189ce5d44b6d48218d6699a4741d673481c2f0c3a635826812884c929eea3eb"), looks := false }, kinds := [], alts := [], laidByText := true, laidKinds := [.data, .data, .data, .data], laidTests := true, laidLooks := .later }
def ShowOrderCardSaid : Prop := Claim7.holds Tryd.pinned (.plain (OpenSpec.ofChange showOrderSpec)) showOrderCard

/-- THE SECOND FORM's CARD OF 'palinglaw05.ShowTells'. -/
def showTellsUptoCard : Claim7 := { stood := { row := showTellsUptoRow, standIns := [], harness := (true, "b189ce5d44b6d48218d6699a4741d673481c2f0c3a635826812884c929eea3eb"), looks := false }, kinds := [], alts := [], laidByText := true, laidKinds := [.data, .data, .data, .data], laidTests := true, laidLooks := .later }
def ShowTellsUptoCardSaid : Prop := Claim7.holds Tryd.pinned (.plain (OpenSpec.upto showTellsSpec)) showTellsUptoCard

/-- THE SECOND FORM's CARD OF 'palinglaw05.ShowBack'. -/
def showBackUptoCard : Claim7 := { stood := { row := showBackUptoRow, standIns := [], harness := (true, "b189ce5d44b6d48218d6699a4741d673481c2f0c3a635826812884c929eea3eb"), looks := false }, kinds := [], alts := [], laidByText := true, laidKinds := [.data, .data, .data, .data], laidTests := true, laidLooks := .later }
def ShowBackUptoCardSaid : Prop := Claim7.holds Tryd.pinned (.plain (OpenSpec.upto showBackSpec)) showBackUptoCard

/-- THE SECOND FORM's CARD OF 'palinglaw05.ShowTabs'. -/
def showTabsUptoCard : Claim7 := { stood := { row := showTabsUptoRow, standIns := [], harness := (true, "b189ce5d44b6d48218d6699a4741d673481c2f0c3a635826812884c929eea3eb"), looks := false }, kinds := [], alts := [], laidByText := true, laidKinds := [.data, .data, .data, .data], laidTests := true, laidLooks := .later }
def ShowTabsUptoCardSaid : Prop := Claim7.holds Tryd.pinned (.plain (OpenSpec.upto showTabsSpec)) showTabsUptoCard

/-- THE SECOND FORM's CARD OF 'palinglaw05.ShowOrder'. -/
def showOrderUptoCard : Claim7 := { stood := { row := showOrderUptoRow, standIns := [], harness := (true, "b189ce5d44b6d48218d6699a4741d673481c2f0c3a635826812884c929eea3eb"), looks := false }, kinds := [], alts := [], laidByText := true, laidKinds := [.data, .data, .data, .data], laidTests := true, laidLooks := .later }
def ShowOrderUptoCardSaid : Prop := Claim7.holds Tryd.pinned (.plain (OpenSpec.upto showOrderSpec)) showOrderUptoCard
end Rows
end Go.Proofs.YtkhbbapocamlmaaDoor
