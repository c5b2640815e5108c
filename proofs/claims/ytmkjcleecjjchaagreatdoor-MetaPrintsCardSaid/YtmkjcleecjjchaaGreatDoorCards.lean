/-
  DERIVED. GIVEN WITH THE SEED: THE CARDS: each row of YtmkjcleecjjchaaGreatDoorRows.lean that lists a variable, with what it lists TIED to the program's text (the seventh form; the later family's looks); each row that meets fmt, with fmt's text TOLD by the authors' own Lean function (tested against real Go, not proved from fmt's source: count such statements apart). THE CARD IS WHAT COUNTS. Prove the row's statement (the work); the ties are given (YtmkjcleecjjchaaGreatDoorTie.lean); close each card by the builder's one call (the guide's Derived/Test/ToyasCard.lean, 'card_holds'). Laid BY PROGRAM, IN A SANDBOX (cutbox-door.mjs). By AI agents, Wed Nov 11 2026. No macro, syntax, notation, axiom, sorry.
-/
import Derived.Test.YtmkjcleecjjchaaGreatDoorRows
import GoSem.ClaimSeven
namespace Go.Proofs.YtmkjcleecjjchaaGreatDoor
namespace Rows

/-- THE TIED CARD OF 'onionskinlaw13.MetaParses'. -/
def metaParsesCard : Claim7 := { stood := { row := metaParsesRow, standIns := [], harness := (true, "3910b90ca4762d5451e46b5ad12700399f33eedac39e7a57228ecb8f8c3a31d1"), looks := true }, kinds := [], alts := [], laidByText := true, laidKinds := [.data, .data, .data, .data, .sentinel, .sentinel, .data, .pinned], laidTests := true, laidLooks := .later }
def MetaParsesCardSaid : Prop := Claim7.holds Tryz.pinned (.plain (OpenSpec.ofChange metaParsesSpec)) metaParsesCard

/-- THE TIED CARD OF 'onionskinlaw13.MetaPrints'. -/
def metaPrintsCard : Claim7 := { stood := { row := metaPrintsRow, standIns := [], harness := (true, "3910b90ca4762d5451e46b5ad12700399f33eedac39e7a57228ecb8f8c3a31d1"), looks := true }, kinds := [], alts := [], laidByText := true, laidKinds := [.data, .data, .data, .data, .sentinel, .sentinel, .data, .pinned], laidTests := true, laidLooks := .later }
def MetaPrintsCardSaid : Prop := Claim7.holds Tryz.pinned (.plain (OpenSpec.ofChange metaPrintsSpec)) metaPrintsCard

/-- THE TIED CARD OF 'onionskinlaw13.MetaBack'. -/
def metaBackCard : Claim7 := { stood := { row := metaBackRow, standIns := [], harness := (true, "3910b90ca4762d5451e46b5ad12700399f33eedac39e7a57228ecb8f8c3a31d1"), looks := true }, kinds := [], alts := [], laidByText := true, laidKinds := [.data, .data, .data, .data, .sentinel, .sentinel, .data, .pinned], laidTests := true, laidLooks := .later }
def MetaBackCardSaid : Prop := Claim7.holds Tryz.pinned (.plain (OpenSpec.ofChange metaBackSpec)) metaBackCard

/-- THE TIED CARD OF 'onionskinlaw13.MetaOrder'. -/
def metaOrderCard : Claim7 := { stood := { row := metaOrderRow, standIns := [], harness := (true, "3910b90ca4762d5451e46b5ad12700399f33eedac39e7a57228ecb8f8c3a31d1"), looks := true }, kinds := [], alts := [], laidByText := true, laidKinds := [.data, .data, .data, .data, .sentinel, .sentinel, .data, .pinned], laidTests := true, laidLooks := .later }
def MetaOrderCardSaid : Prop := Claim7.holds Tryz.pinned (.plain (OpenSpec.ofChange metaOrderSpec)) metaOrderCard

/-- THE TIED CARD OF 'onionskinlaw13.MetaMany'. -/
def metaManyCard : Claim7 := { stood := { row := metaManyRow, standIns := [], harness := (true, "3910b90ca4762d5451e46b5ad12700399f33eedac39e7a57228ecb8f8c3a31d1"), looks := true }, kinds := [], alts := [], laidByText := true, laidKinds := [.data, .data, .data, .data, .sentinel, .sentinel, .data, .pinned], laidTests := true, laidLooks := .later }
def MetaManyCardSaid : Prop := Claim7.holds Tryz.pinned (.plain (OpenSpec.ofChange metaManySpec)) metaManyCard

/-- THE SECOND FORM's CARD OF 'onionskinlaw13.MetaParses'. -/
def metaParsesUptoCard : Claim7 := { stood := { row := metaParsesUptoRow, standIns := [], harness := (true, "3910b90ca4762d5451e46b5ad12700399f33eedac39e7a57228ecb8f8c3a31d1"), looks := true }, kinds := [], alts := [], laidByText := true, laidKinds := [.data, .data, .data, .data, .sentinel, .sentinel, .data, .pinned], laidTests := true, laidLooks := .later }
def MetaParsesUptoCardSaid : Prop := Claim7.holds Tryz.pinned (.plain (OpenSpec.upto metaParsesSpec)) metaParsesUptoCard

/-- THE SECOND FORM's CARD OF 'onionskinlaw13.MetaPrints'. -/
def metaPrintsUptoCard : Claim7 := { stood := { row := metaPrintsUptoRow, standIns := [], harness := (true, "3910b90ca4762d5451e46b5ad12700399f33eedac39e7a57228ecb8f8c3a31d1"), looks := true }, kinds := [], alts := [], laidByText := true, laidKinds := [.data, .data, .data, .data, .sentinel, .sentinel, .data, .pinned], laidTests := true, laidLooks := .later }
def MetaPrintsUptoCardSaid : Prop := Claim7.holds Tryz.pinned (.plain (OpenSpec.upto metaPrintsSpec)) metaPrintsUptoCard

/-- THE SECOND FORM's CARD OF 'onionskinlaw13.MetaBack'. -/
def metaBackUptoCard : Claim7 := { stood := { row := metaBackUptoRow, standIns := [], harness := (true, "3910b90ca4762d5451e46b5ad12700399f33eedac39e7a57228ecb8f8c3a31d1"), looks := true }, kinds := [], alts := [], laidByText := true, laidKinds := [.data, .data, .data, .data, .sentinel, .sentinel, .data, .pinned], laidTests := true, laidLooks := .later }
def MetaBackUptoCardSaid : Prop := Claim7.holds Tryz.pinned (.plain (OpenSpec.upto metaBackSpec)) metaBackUptoCard

/-- THE SECOND FORM's CARD OF 'onionskinlaw13.MetaOrder'. -/
def metaOrderUptoCard : Claim7 := { stood := { row := metaOrderUptoRow, standIns := [], harness := (true, "3910b90ca4762d5451e46b5ad12700399f33eedac39e7a57228ecb8f8c3a31d1"), looks := true }, kinds := [], alts := [], laidByText := true, laidKinds := [.data, .data, .data, .data, .sentinel, .sentinel, .data, .pinned], laidTests := true, laidLooks := .later }
def MetaOrderUptoCardSaid : Prop := Claim7.holds Tryz.pinned (.plain (OpenSpec.upto metaOrderSpec)) metaOrderUptoCard

/-- THE SECOND FORM's CARD OF 'onionskinlaw13.MetaMany'. -/
def metaManyUptoCard : Claim7 := { stood := { row := metaManyUptoRow, standIns := [], harness := (true, "3910b90ca4762d5451e46b5ad12700399f33eedac39e7a57228ecb8f8c3a31d1"), looks := true }, kinds := [], alts := [], laidByText := true, laidKinds := [.data, .data, .data, .data, .sentinel, .sentinel, .data, .pinned], laidTests := true, laidLooks := .later }
def MetaManyUptoCardSaid : Prop := Claim7.holds Tryz.pinned (.plain (OpenSpec.upto metaManySpec)) metaManyUptoCard
end Rows
end Go.Proofs.YtmkjcleecjjchaaGreatDoor
