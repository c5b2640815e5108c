/-
  DERIVED. GIVEN WITH THE SEED: THE CARDS: each row of YtgmangikcfakgaaGreatDoorRows.lean that lists a variable, with what it lists TIED to the program's text (the seventh form; the later family's looks); each row that meets fmt, with fmt's text TOLD by the authors' own Lean function (tested against real Go, not proved from fmt's source: count such statements apart). THE CARD IS WHAT COUNTS. Prove the row's statement (the work); the ties are given (YtgmangikcfakgaaGreatDoorTie.lean); close each card by the builder's one call (the guide's Derived/Test/ToyasCard.lean, 'card_holds'). Laid BY PROGRAM, IN A SANDBOX (cutbox-door.mjs). By AI agents, Wed Nov 11 2026. No macro, syntax, notation, axiom, sorry.
-/
import Derived.Test.YtgmangikcfakgaaGreatDoorRows
import GoSem.ClaimSeven
namespace Go.Proofs.YtgmangikcfakgaaGreatDoor
namespace Rows

/-- THE TIED CARD OF 'onionskinlaw14.ConfigParses'. -/
def configParsesCard : Claim7 := { stood := { row := configParsesRow, standIns := [], harness := (true, "f447078f1f37bee22773f4bea759de322d27deb5706fca1b86abcbc943a089e4"), looks := true }, kinds := [], alts := [], laidByText := true, laidKinds := [.data, .data, .data, .data, .sentinel, .sentinel, .data, .pinned], laidTests := true, laidLooks := .later }
def ConfigParsesCardSaid : Prop := Claim7.holds Tryz.pinned (.plain (OpenSpec.ofChange configParsesSpec)) configParsesCard

/-- THE TIED CARD OF 'onionskinlaw14.ConfigPrints'. -/
def configPrintsCard : Claim7 := { stood := { row := configPrintsRow, standIns := [], harness := (true, "f447078f1f37bee22773f4bea759de322d27deb5706fca1b86abcbc943a089e4"), looks := true }, kinds := [], alts := [], laidByText := true, laidKinds := [.data, .data, .data, .data, .sentinel, .sentinel, .data, .pinned], laidTests := true, laidLooks := .later }
def ConfigPrintsCardSaid : Prop := Claim7.holds Tryz.pinned (.plain (OpenSpec.ofChange configPrintsSpec)) configPrintsCard

/-- THE TIED CARD OF 'onionskinlaw14.ConfigBack'. -/
def configBackCard : Claim7 := { stood := { row := configBackRow, standIns := [], harness := (true, "f447078f1f37bee22773f4bea759de322d27deb5706fca1b86abcbc943a089e4"), looks := true }, kinds := [], alts := [], laidByText := true, laidKinds := [.data, .data, .data, .data, .sentinel, .sentinel, .data, .pinned], laidTests := true, laidLooks := .later }
def ConfigBackCardSaid : Prop := Claim7.holds Tryz.pinned (.plain (OpenSpec.ofChange configBackSpec)) configBackCard

/-- THE TIED CARD OF 'onionskinlaw14.ConfigLayers'. -/
def configLayersCard : Claim7 := { stood := { row := configLayersRow, standIns := [], harness := (true, "f447078f1f37bee22773f4bea759de322d27deb5706fca1b86abcbc943a089e4"), looks := true }, kinds := [], alts := [], laidByText := true, laidKinds := [.data, .data, .data, .data, .sentinel, .sentinel, .data, .pinned], laidTests := true, laidLooks := .later }
def ConfigLayersCardSaid : Prop := Claim7.holds Tryz.pinned (.plain (OpenSpec.ofChange configLayersSpec)) configLayersCard

/-- THE TIED CARD OF 'onionskinlaw14.ConfigRest'. -/
def configRestCard : Claim7 := { stood := { row := configRestRow, standIns := [], harness := (true, "f447078f1f37bee22773f4bea759de322d27deb5706fca1b86abcbc943a089e4"), looks := true }, kinds := [], alts := [], laidByText := true, laidKinds := [.data, .data, .data, .data, .sentinel, .sentinel, .data, .pinned], laidTests := true, laidLooks := .later }
def ConfigRestCardSaid : Prop := Claim7.holds Tryz.pinned (.plain (OpenSpec.ofChange configRestSpec)) configRestCard

/-- THE SECOND FORM's CARD OF 'onionskinlaw14.ConfigParses'. -/
def configParsesUptoCard : Claim7 := { stood := { row := configParsesUptoRow, standIns := [], harness := (true, "f447078f1f37bee22773f4bea759de322d27deb5706fca1b86abcbc943a089e4"), looks := true }, kinds := [], alts := [], laidByText := true, laidKinds := [.data, .data, .data, .data, .sentinel, .sentinel, .data, .pinned], laidTests := true, laidLooks := .later }
def ConfigParsesUptoCardSaid : Prop := Claim7.holds Tryz.pinned (.plain (OpenSpec.upto configParsesSpec)) configParsesUptoCard

/-- THE SECOND FORM's CARD OF 'onionskinlaw14.ConfigPrints'. -/
def configPrintsUptoCard : Claim7 := { stood := { row := configPrintsUptoRow, standIns := [], harness := (true, "f447078f1f37bee22773f4bea759de322d27deb5706fca1b86abcbc943a089e4"), looks := true }, kinds := [], alts := [], laidByText := true, laidKinds := [.data, .data, .data, .data, .sentinel, .sentinel, .data, .pinned], laidTests := true, laidLooks := .later }
def ConfigPrintsUptoCardSaid : Prop := Claim7.holds Tryz.pinned (.plain (OpenSpec.upto configPrintsSpec)) configPrintsUptoCard

/-- THE SECOND FORM's CARD OF 'onionskinlaw14.ConfigBack'. -/
def configBackUptoCard : Claim7 := { stood := { row := configBackUptoRow, standIns := [], harness := (true, "f447078f1f37bee22773f4bea759de322d27deb5706fca1b86abcbc943a089e4"), looks := true }, kinds := [], alts := [], laidByText := true, laidKinds := [.data, .data, .data, .data, .sentinel, .sentinel, .data, .pinned], laidTests := true, laidLooks := .later }
def ConfigBackUptoCardSaid : Prop := Claim7.holds Tryz.pinned (.plain (OpenSpec.upto configBackSpec)) configBackUptoCard

/-- THE SECOND FORM's CARD OF 'onionskinlaw14.ConfigLayers'. -/
def configLayersUptoCard : Claim7 := { stood := { row := configLayersUptoRow, standIns := [], harness := (true, "f447078f1f37bee22773f4bea759de322d27deb5706fca1b86abcbc943a089e4"), looks := true }, kinds := [], alts := [], laidByText := true, laidKinds := [.data, .data, .data, .data, .sentinel, .sentinel, .data, .pinned], laidTests := true, laidLooks := .later }
def ConfigLayersUptoCardSaid : Prop := Claim7.holds Tryz.pinned (.plain (OpenSpec.upto configLayersSpec)) configLayersUptoCard

/-- THE SECOND FORM's CARD OF 'onionskinlaw14.ConfigRest'. -/
def configRestUptoCard : Claim7 := { stood := { row := configRestUptoRow, standIns := [], harness := (true, "f447078f1f37bee22773f4bea759de322d27deb5706fca1b86abcbc943a089e4"), looks := true }, kinds := [], alts := [], laidByText := true, laidKinds := [.data, .data, .data, .data, .sentinel, .sentinel, .data, .pinned], laidTests := true, laidLooks := .later }
def ConfigRestUptoCardSaid : Prop := Claim7.holds Tryz.pinned (.plain (OpenSpec.upto configRestSpec)) configRestUptoCard
end Rows
end Go.Proofs.YtgmangikcfakgaaGreatDoor
