/-
  DERIVED. GIVEN WITH THE SEED: THE CARDS: each row of YthakeahpaogikaaDoorRows.lean that lists a variable, with what it lists TIED to the program's text (the seventh form; the later family's looks); each row that meets fmt, with fmt's text TOLD by the authors' own Lean function (tested against real Go, not proved from fmt's source: count such statements apart). THE CARD IS WHAT COUNTS. Prove the row's statement (the work); the ties are given (YthakeahpaogikaaDoorTie.lean); close each card by the builder's one call (the guide's Derived/Test/ToyasCard.lean, 'card_holds'). Laid BY PROGRAM, IN A SANDBOX (cutbox-door.mjs). By AI agents, Wed Nov 11 2026. No macro, syntax, notation, axiom, sorry.
-/
import Derived.Test.YthakeahpaogikaaDoorRows
import GoSem.ClaimSeven
namespace Go.Proofs.YthakeahpaogikaaDoor
namespace Rows

/-- THE TIED CARD OF 'onionskinlaw06.HeaderParses'. -/
def headerParsesCard : Claim7 := { stood := { row := headerParsesRow, standIns := [], harness := (true, "fbe9dccb02314f4480b6c42988cac9f447ae4924c115d2a378465323e5963ba0"), looks := false }, kinds := [], alts := [], laidByText := true, laidKinds := [.data, .wider, .pinned], laidTests := true, laidLooks := .later }
def HeaderParsesCardSaid : Prop := Claim7.holds Tryd.pinned (.plain (OpenSpec.ofChange headerParsesSpec)) headerParsesCard

/-- THE TIED CARD OF 'onionskinlaw06.HeaderPrints'. -/
def headerPrintsCard : Claim7 := { stood := { row := headerPrintsRow, standIns := [], harness := (true, "fbe9dccb02314f4480b6c42988cac9f447ae4924c115d2a378465323e5963ba0"), looks := false }, kinds := [], alts := [], laidByText := true, laidKinds := [.data, .wider, .pinned], laidTests := true, laidLooks := .later }
def HeaderPrintsCardSaid : Prop := Claim7.holds Tryd.pinned (.plain (OpenSpec.ofChange headerPrintsSpec)) headerPrintsCard

/-- THE TIED CARD OF 'onionskinlaw06.HeaderBack'. -/
def headerBackCard : Claim7 := { stood := { row := headerBackRow, standIns := [], harness := (true, "fbe9dccb02314f4480b6c42988cac9f447ae4924c115d2a378465323e5963ba0"), looks := false }, kinds := [], alts := [], laidByText := true, laidKinds := [.data, .wider, .pinned], laidTests := true, laidLooks := .later }
def HeaderBackCardSaid : Prop := Claim7.holds Tryd.pinned (.plain (OpenSpec.ofChange headerBackSpec)) headerBackCard

/-- THE TIED CARD OF 'onionskinlaw06.HeaderSum'. -/
def headerSumCard : Claim7 := { stood := { row := headerSumRow, standIns := [], harness := (true, "fbe9dccb02314f4480b6c42988cac9f447ae4924c115d2a378465323e5963ba0"), looks := false }, kinds := [], alts := [], laidByText := true, laidKinds := [.data, .wider, .pinned], laidTests := true, laidLooks := .later }
def HeaderSumCardSaid : Prop := Claim7.holds Tryd.pinned (.plain (OpenSpec.ofChange headerSumSpec)) headerSumCard

/-- THE TIED CARD OF 'onionskinlaw06.HeaderPrefix'. -/
def headerPrefixCard : Claim7 := { stood := { row := headerPrefixRow, standIns := [], harness := (true, "fbe9dccb02314f4480b6c42988cac9f447ae4924c115d2a378465323e5963ba0"), looks := false }, kinds := [], alts := [], laidByText := true, laidKinds := [.data, .wider, .pinned], laidTests := true, laidLooks := .later }
def HeaderPrefixCardSaid : Prop := Claim7.holds Tryd.pinned (.plain (OpenSpec.ofChange headerPrefixSpec)) headerPrefixCard

/-- THE SECOND FORM's CARD OF 'onionskinlaw06.HeaderParses'. -/
def headerParsesUptoCard : Claim7 := { stood := { row := headerParsesUptoRow, standIns := [], harness := (true, "fbe9dccb02314f4480b6c42988cac9f447ae4924c115d2a378465323e5963ba0"), looks := false }, kinds := [], alts := [], laidByText := true, laidKinds := [.data, .wider, .pinned], laidTests := true, laidLooks := .later }
def HeaderParsesUptoCardSaid : Prop := Claim7.holds Tryd.pinned (.plain (OpenSpec.upto headerParsesSpec)) headerParsesUptoCard

/-- THE SECOND FORM's CARD OF 'onionskinlaw06.HeaderPrints'. -/
def headerPrintsUptoCard : Claim7 := { stood := { row := headerPrintsUptoRow, standIns := [], harness := (true, "fbe9dccb02314f4480b6c42988cac9f447ae4924c115d2a378465323e5963ba0"), looks := false }, kinds := [], alts := [], laidByText := true, laidKinds := [.data, .wider, .pinned], laidTests := true, laidLooks := .later }
def HeaderPrintsUptoCardSaid : Prop := Claim7.holds Tryd.pinned (.plain (OpenSpec.upto headerPrintsSpec)) headerPrintsUptoCard

/-- THE SECOND FORM's CARD OF 'onionskinlaw06.HeaderBack'. -/
def headerBackUptoCard : Claim7 := { stood := { row := headerBackUptoRow, standIns := [], harness := (true, "fbe9dccb02314f4480b6c42988cac9f447ae4924c115d2a378465323e5963ba0"), looks := false }, kinds := [], alts := [], laidByText := true, laidKinds := [.data, .wider, .pinned], laidTests := true, laidLooks := .later }
def HeaderBackUptoCardSaid : Prop := Claim7.holds Tryd.pinned (.plain (OpenSpec.upto headerBackSpec)) headerBackUptoCard

/-- THE SECOND FORM's CARD OF 'onionskinlaw06.HeaderSum'. -/
def headerSumUptoCard : Claim7 := { stood := { row := headerSumUptoRow, standIns := [], harness := (true, "fbe9dccb02314f4480b6c42988cac9f447ae4924c115d2a378465323e5963ba0"), looks := false }, kinds := [], alts := [], laidByText := true, laidKinds := [.data, .wider, .pinned], laidTests := true, laidLooks := .later }
def HeaderSumUptoCardSaid : Prop := Claim7.holds Tryd.pinned (.plain (OpenSpec.upto headerSumSpec)) headerSumUptoCard

/-- THE SECOND FORM's CARD OF 'onionskinlaw06.HeaderPrefix'. -/
def headerPrefixUptoCard : Claim7 := { stood := { row := headerPrefixUptoRow, standIns := [], harness := (true, "fbe9dccb02314f4480b6c42988cac9f447ae4924c115d2a378465323e5963ba0"), looks := false }, kinds := [], alts := [], laidByText := true, laidKinds := [.data, .wider, .pinned], laidTests := true, laidLooks := .later }
def HeaderPrefixUptoCardSaid : Prop := Claim7.holds Tryd.pinned (.plain (OpenSpec.upto headerPrefixSpec)) headerPrefixUptoCard
end Rows
end Go.Proofs.YthakeahpaogikaaDoor
