/-
  DERIVED. GIVEN WITH THE SEED: THE CARDS: each row of YtpgaejalkbpbhaaGreatDoorRows.lean that lists a variable, with what it lists TIED to the program's text (the seventh form; the later family's looks); each row that meets fmt, with fmt's text TOLD by the authors' own Lean function (tested against real Go, not proved from fmt's source: count such statements apart). THE CARD IS WHAT COUNTS. Prove the row's statement (the work); the ties are given (YtpgaejalkbpbhaaGreatDoorTie.lean); close each card by the builder's one call (the guide's Derived/Test/ToyasCard.lean, 'card_holds'). Laid BY PROGRAM, IN A SANDBOX (cutbox-door.mjs). By AI agents, Wed Nov 11 2026. No macro, syntax, notation, axiom, sorry.
-/
import Derived.Test.YtpgaejalkbpbhaaGreatDoorRows
import GoSem.ClaimSeven
namespace Go.Proofs.YtpgaejalkbpbhaaGreatDoor
namespace Rows

/-- THE TIED CARD OF 'onionskinlaw09.MktarWrites'. -/
def mktarWritesCard : Claim7 := { stood := { row := mktarWritesRow, standIns := [], harness := (true, "f0b798e9ce1cd641886da5a1e97e7213c9b8391b1a7c4a8a437c4d5cafee41b8"), looks := true }, kinds := [], alts := [], laidByText := true, laidKinds := [.data, .data, .data, .data, .sentinel, .sentinel, .wider, .pinned], laidTests := true, laidLooks := .later }
def MktarWritesCardSaid : Prop := Claim7.holds Tryz.pinned (.plain (OpenSpec.ofChange mktarWritesSpec)) mktarWritesCard

/-- THE TIED CARD OF 'onionskinlaw09.MktarBack'. -/
def mktarBackCard : Claim7 := { stood := { row := mktarBackRow, standIns := [], harness := (true, "f0b798e9ce1cd641886da5a1e97e7213c9b8391b1a7c4a8a437c4d5cafee41b8"), looks := true }, kinds := [], alts := [], laidByText := true, laidKinds := [.data, .data, .data, .data, .sentinel, .sentinel, .wider, .pinned], laidTests := true, laidLooks := .later }
def MktarBackCardSaid : Prop := Claim7.holds Tryz.pinned (.plain (OpenSpec.ofChange mktarBackSpec)) mktarBackCard

/-- THE TIED CARD OF 'onionskinlaw09.MktarOnce'. -/
def mktarOnceCard : Claim7 := { stood := { row := mktarOnceRow, standIns := [], harness := (true, "f0b798e9ce1cd641886da5a1e97e7213c9b8391b1a7c4a8a437c4d5cafee41b8"), looks := true }, kinds := [], alts := [], laidByText := true, laidKinds := [.data, .data, .data, .data, .sentinel, .sentinel, .wider, .pinned], laidTests := true, laidLooks := .later }
def MktarOnceCardSaid : Prop := Claim7.holds Tryz.pinned (.plain (OpenSpec.ofChange mktarOnceSpec)) mktarOnceCard

/-- THE TIED CARD OF 'onionskinlaw09.MktarParts'. -/
def mktarPartsCard : Claim7 := { stood := { row := mktarPartsRow, standIns := [], harness := (true, "f0b798e9ce1cd641886da5a1e97e7213c9b8391b1a7c4a8a437c4d5cafee41b8"), looks := true }, kinds := [], alts := [], laidByText := true, laidKinds := [.data, .data, .data, .data, .sentinel, .sentinel, .wider, .pinned], laidTests := true, laidLooks := .later }
def MktarPartsCardSaid : Prop := Claim7.holds Tryz.pinned (.plain (OpenSpec.ofChange mktarPartsSpec)) mktarPartsCard

/-- THE TIED CARD OF 'onionskinlaw09.MktarMany'. -/
def mktarManyCard : Claim7 := { stood := { row := mktarManyRow, standIns := [], harness := (true, "f0b798e9ce1cd641886da5a1e97e7213c9b8391b1a7c4a8a437c4d5cafee41b8"), looks := true }, kinds := [], alts := [], laidByText := true, laidKinds := [.data, .data, .data, .data, .sentinel, .sentinel, .wider, .pinned], laidTests := true, laidLooks := .later }
def MktarManyCardSaid : Prop := Claim7.holds Tryz.pinned (.plain (OpenSpec.ofChange mktarManySpec)) mktarManyCard

/-- THE SECOND FORM's CARD OF 'onionskinlaw09.MktarWrites'. -/
def mktarWritesUptoCard : Claim7 := { stood := { row := mktarWritesUptoRow, standIns := [], harness := (true, "f0b798e9ce1cd641886da5a1e97e7213c9b8391b1a7c4a8a437c4d5cafee41b8"), looks := true }, kinds := [], alts := [], laidByText := true, laidKinds := [.data, .data, .data, .data, .sentinel, .sentinel, .wider, .pinned], laidTests := true, laidLooks := .later }
def MktarWritesUptoCardSaid : Prop := Claim7.holds Tryz.pinned (.plain (OpenSpec.upto mktarWritesSpec)) mktarWritesUptoCard

/-- THE SECOND FORM's CARD OF 'onionskinlaw09.MktarBack'. -/
def mktarBackUptoCard : Claim7 := { stood := { row := mktarBackUptoRow, standIns := [], harness := (true, "f0b798e9ce1cd641886da5a1e97e7213c9b8391b1a7c4a8a437c4d5cafee41b8"), looks := true }, kinds := [], alts := [], laidByText := true, laidKinds := [.data, .data, .data, .data, .sentinel, .sentinel, .wider, .pinned], laidTests := true, laidLooks := .later }
def MktarBackUptoCardSaid : Prop := Claim7.holds Tryz.pinned (.plain (OpenSpec.upto mktarBackSpec)) mktarBackUptoCard

/-- THE SECOND FORM's CARD OF 'onionskinlaw09.MktarOnce'. -/
def mktarOnceUptoCard : Claim7 := { stood := { row := mktarOnceUptoRow, standIns := [], harness := (true, "f0b798e9ce1cd641886da5a1e97e7213c9b8391b1a7c4a8a437c4d5cafee41b8"), looks := true }, kinds := [], alts := [], laidByText := true, laidKinds := [.data, .data, .data, .data, .sentinel, .sentinel, .wider, .pinned], laidTests := true, laidLooks := .later }
def MktarOnceUptoCardSaid : Prop := Claim7.holds Tryz.pinned (.plain (OpenSpec.upto mktarOnceSpec)) mktarOnceUptoCard

/-- THE SECOND FORM's CARD OF 'onionskinlaw09.MktarParts'. -/
def mktarPartsUptoCard : Claim7 := { stood := { row := mktarPartsUptoRow, standIns := [], harness := (true, "f0b798e9ce1cd641886da5a1e97e7213c9b8391b1a7c4a8a437c4d5cafee41b8"), looks := true }, kinds := [], alts := [], laidByText := true, laidKinds := [.data, .data, .data, .data, .sentinel, .sentinel, .wider, .pinned], laidTests := true, laidLooks := .later }
def MktarPartsUptoCardSaid : Prop := Claim7.holds Tryz.pinned (.plain (OpenSpec.upto mktarPartsSpec)) mktarPartsUptoCard

/-- THE SECOND FORM's CARD OF 'onionskinlaw09.MktarMany'. -/
def mktarManyUptoCard : Claim7 := { stood := { row := mktarManyUptoRow, standIns := [], harness := (true, "f0b798e9ce1cd641886da5a1e97e7213c9b8391b1a7c4a8a437c4d5cafee41b8"), looks := true }, kinds := [], alts := [], laidByText := true, laidKinds := [.data, .data, .data, .data, .sentinel, .sentinel, .wider, .pinned], laidTests := true, laidLooks := .later }
def MktarManyUptoCardSaid : Prop := Claim7.holds Tryz.pinned (.plain (OpenSpec.upto mktarManySpec)) mktarManyUptoCard
end Rows
end Go.Proofs.YtpgaejalkbpbhaaGreatDoor
