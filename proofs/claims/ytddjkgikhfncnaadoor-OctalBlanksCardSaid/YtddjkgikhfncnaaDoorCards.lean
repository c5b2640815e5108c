/-
  DERIVED. GIVEN WITH THE SEED: THE CARDS: each row of YtddjkgikhfncnaaDoorRows.lean that lists a variable, with what it lists TIED to the program's text (the seventh form; the later family's looks); each row that meets fmt, with fmt's text TOLD by the authors' own Lean function (tested against real Go, not proved from fmt's source: count such statements apart). THE CARD IS WHAT COUNTS. Prove the row's statement (the work); the ties are given (YtddjkgikhfncnaaDoorTie.lean); close each card by the builder's one call (the guide's Derived/Test/ToyasCard.lean, 'card_holds'). Laid BY PROGRAM, IN A SANDBOX (cutbox-door.mjs). By AI agents, Wed Nov 11 2026. No macro, syntax, notation, axiom, sorry.
-/
import Derived.Test.YtddjkgikhfncnaaDoorRows
import GoSem.ClaimSeven
namespace Go.Proofs.YtddjkgikhfncnaaDoor
namespace Rows

/-- THE TIED CARD OF 'onionskinlaw05.OctalReads'. -/
def octalReadsCard : Claim7 := { stood := { row := octalReadsRow, standIns := [], harness := (true, "2093e20d1e267a0e3988782bb6bd5aaee7ec53fe4483fd97add264a7ab9e7912"), looks := false }, kinds := [], alts := [], laidByText := true, laidKinds := [.data, .pinned], laidTests := true, laidLooks := .later }
def OctalReadsCardSaid : Prop := Claim7.holds Tryd.pinned (.plain (OpenSpec.ofChange octalReadsSpec)) octalReadsCard

/-- THE TIED CARD OF 'onionskinlaw05.OctalWrites'. -/
def octalWritesCard : Claim7 := { stood := { row := octalWritesRow, standIns := [], harness := (true, "2093e20d1e267a0e3988782bb6bd5aaee7ec53fe4483fd97add264a7ab9e7912"), looks := false }, kinds := [], alts := [], laidByText := true, laidKinds := [.data, .pinned], laidTests := true, laidLooks := .later }
def OctalWritesCardSaid : Prop := Claim7.holds Tryd.pinned (.plain (OpenSpec.ofChange octalWritesSpec)) octalWritesCard

/-- THE TIED CARD OF 'onionskinlaw05.OctalBack'. -/
def octalBackCard : Claim7 := { stood := { row := octalBackRow, standIns := [], harness := (true, "2093e20d1e267a0e3988782bb6bd5aaee7ec53fe4483fd97add264a7ab9e7912"), looks := false }, kinds := [], alts := [], laidByText := true, laidKinds := [.data, .pinned], laidTests := true, laidLooks := .later }
def OctalBackCardSaid : Prop := Claim7.holds Tryd.pinned (.plain (OpenSpec.ofChange octalBackSpec)) octalBackCard

/-- THE TIED CARD OF 'onionskinlaw05.OctalBlanks'. -/
def octalBlanksCard : Claim7 := { stood := { row := octalBlanksRow, standIns := [], harness := (true, "2093e20d1e267a0e3988782bb6bd5aaee7ec53fe4483fd97add264a7ab9e7912"), looks := false }, kinds := [], alts := [], laidByText := true, laidKinds := [.data, .pinned], laidTests := true, laidLooks := .later }
def OctalBlanksCardSaid : Prop := Claim7.holds Tryd.pinned (.plain (OpenSpec.ofChange octalBlanksSpec)) octalBlanksCard

/-- THE TIED CARD OF 'onionskinlaw05.OctalSum'. -/
def octalSumCard : Claim7 := { stood := { row := octalSumRow, standIns := [], harness := (true, "2093e20d1e267a0e3988782bb6bd5aaee7ec53fe4483fd97add264a7ab9e7912"), looks := false }, kinds := [], alts := [], laidByText := true, laidKinds := [.data, .pinned], laidTests := true, laidLooks := .later }
def OctalSumCardSaid : Prop := Claim7.holds Tryd.pinned (.plain (OpenSpec.ofChange octalSumSpec)) octalSumCard

/-- THE SECOND FORM's CARD OF 'onionskinlaw05.OctalReads'. -/
def octalReadsUptoCard : Claim7 := { stood := { row := octalReadsUptoRow, standIns := [], harness := (true, "2093e20d1e267a0e3988782bb6bd5aaee7ec53fe4483fd97add264a7ab9e7912"), looks := false }, kinds := [], alts := [], laidByText := true, laidKinds := [.data, .pinned], laidTests := true, laidLooks := .later }
def OctalReadsUptoCardSaid : Prop := Claim7.holds Tryd.pinned (.plain (OpenSpec.upto octalReadsSpec)) octalReadsUptoCard

/-- THE SECOND FORM's CARD OF 'onionskinlaw05.OctalWrites'. -/
def octalWritesUptoCard : Claim7 := { stood := { row := octalWritesUptoRow, standIns := [], harness := (true, "2093e20d1e267a0e3988782bb6bd5aaee7ec53fe4483fd97add264a7ab9e7912"), looks := false }, kinds := [], alts := [], laidByText := true, laidKinds := [.data, .pinned], laidTests := true, laidLooks := .later }
def OctalWritesUptoCardSaid : Prop := Claim7.holds Tryd.pinned (.plain (OpenSpec.upto octalWritesSpec)) octalWritesUptoCard

/-- THE SECOND FORM's CARD OF 'onionskinlaw05.OctalBack'. -/
def octalBackUptoCard : Claim7 := { stood := { row := octalBackUptoRow, standIns := [], harness := (true, "2093e20d1e267a0e3988782bb6bd5aaee7ec53fe4483fd97add264a7ab9e7912"), looks := false }, kinds := [], alts := [], laidByText := true, laidKinds := [.data, .pinned], laidTests := true, laidLooks := .later }
def OctalBackUptoCardSaid : Prop := Claim7.holds Tryd.pinned (.plain (OpenSpec.upto octalBackSpec)) octalBackUptoCard

/-- THE SECOND FORM's CARD OF 'onionskinlaw05.OctalBlanks'. -/
def octalBlanksUptoCard : Claim7 := { stood := { row := octalBlanksUptoRow, standIns := [], harness := (true, "2093e20d1e267a0e3988782bb6bd5aaee7ec53fe4483fd97add264a7ab9e7912"), looks := false }, kinds := [], alts := [], laidByText := true, laidKinds := [.data, .pinned], laidTests := true, laidLooks := .later }
def OctalBlanksUptoCardSaid : Prop := Claim7.holds Tryd.pinned (.plain (OpenSpec.upto octalBlanksSpec)) octalBlanksUptoCard

/-- THE SECOND FORM's CARD OF 'onionskinlaw05.OctalSum'. -/
def octalSumUptoCard : Claim7 := { stood := { row := octalSumUptoRow, standIns := [], harness := (true, "2093e20d1e267a0e3988782bb6bd5aaee7ec53fe4483fd97add264a7ab9e7912"), looks := false }, kinds := [], alts := [], laidByText := true, laidKinds := [.data, .pinned], laidTests := true, laidLooks := .later }
def OctalSumUptoCardSaid : Prop := Claim7.holds Tryd.pinned (.plain (OpenSpec.upto octalSumSpec)) octalSumUptoCard
end Rows
end Go.Proofs.YtddjkgikhfncnaaDoor
