/-
  DERIVED. GIVEN WITH THE SEED: THE CARDS: each row of YtpcmhollibaklaaGreatDoorRows.lean that lists a variable, with what it lists TIED to the program's text (the seventh form; the later family's looks); each row that meets fmt, with fmt's text TOLD by the authors' own Lean function (tested against real Go, not proved from fmt's source: count such statements apart). THE CARD IS WHAT COUNTS. Prove the row's statement (the work); the ties are given (YtpcmhollibaklaaGreatDoorTie.lean); close each card by the builder's one call (the guide's Derived/Test/ToyasCard.lean, 'card_holds'). Laid BY PROGRAM, IN A SANDBOX (cutbox-door.mjs). By AI agents, Wed Nov 11 2026. No macro, syntax, notation, axiom, sorry.
-/
import Derived.Test.YtpcmhollibaklaaGreatDoorRows
import GoSem.ClaimSeven
namespace Go.Proofs.YtpcmhollibaklaaGreatDoor
namespace Rows

/-- THE TIED CARD OF 'onionskinlaw08.UntarAttrs'. -/
def untarAttrsCard : Claim7 := { stood := { row := untarAttrsRow, standIns := [], harness := (true, "885af3a7ab29ce3870e195fb4b469b1b4c5205396eb82e7e505d4f3a58890c6e"), looks := true }, kinds := [], alts := [], laidByText := true, laidKinds := [.data, .data, .data, .data, .sentinel, .sentinel, .wider, .pinned], laidTests := true, laidLooks := .later }
def UntarAttrsCardSaid : Prop := Claim7.holds Tryz.pinned (.plain (OpenSpec.ofChange untarAttrsSpec)) untarAttrsCard

/-- THE TIED CARD OF 'onionskinlaw08.UntarEnd'. -/
def untarEndCard : Claim7 := { stood := { row := untarEndRow, standIns := [], harness := (true, "885af3a7ab29ce3870e195fb4b469b1b4c5205396eb82e7e505d4f3a58890c6e"), looks := true }, kinds := [], alts := [], laidByText := true, laidKinds := [.data, .data, .data, .data, .sentinel, .sentinel, .wider, .pinned], laidTests := true, laidLooks := .later }
def UntarEndCardSaid : Prop := Claim7.holds Tryz.pinned (.plain (OpenSpec.ofChange untarEndSpec)) untarEndCard

/-- THE TIED CARD OF 'onionskinlaw08.UntarPad'. -/
def untarPadCard : Claim7 := { stood := { row := untarPadRow, standIns := [], harness := (true, "885af3a7ab29ce3870e195fb4b469b1b4c5205396eb82e7e505d4f3a58890c6e"), looks := true }, kinds := [], alts := [], laidByText := true, laidKinds := [.data, .data, .data, .data, .sentinel, .sentinel, .wider, .pinned], laidTests := true, laidLooks := .later }
def UntarPadCardSaid : Prop := Claim7.holds Tryz.pinned (.plain (OpenSpec.ofChange untarPadSpec)) untarPadCard

/-- THE TIED CARD OF 'onionskinlaw08.UntarExtras'. -/
def untarExtrasCard : Claim7 := { stood := { row := untarExtrasRow, standIns := [], harness := (true, "885af3a7ab29ce3870e195fb4b469b1b4c5205396eb82e7e505d4f3a58890c6e"), looks := true }, kinds := [], alts := [], laidByText := true, laidKinds := [.data, .data, .data, .data, .sentinel, .sentinel, .wider, .pinned], laidTests := true, laidLooks := .later }
def UntarExtrasCardSaid : Prop := Claim7.holds Tryz.pinned (.plain (OpenSpec.ofChange untarExtrasSpec)) untarExtrasCard

/-- THE SECOND FORM's CARD OF 'onionskinlaw08.UntarAttrs'. -/
def untarAttrsUptoCard : Claim7 := { stood := { row := untarAttrsUptoRow, standIns := [], harness := (true, "885af3a7ab29ce3870e195fb4b469b1b4c5205396eb82e7e505d4f3a58890c6e"), looks := true }, kinds := [], alts := [], laidByText := true, laidKinds := [.data, .data, .data, .data, .sentinel, .sentinel, .wider, .pinned], laidTests := true, laidLooks := .later }
def UntarAttrsUptoCardSaid : Prop := Claim7.holds Tryz.pinned (.plain (OpenSpec.upto untarAttrsSpec)) untarAttrsUptoCard

/-- THE SECOND FORM's CARD OF 'onionskinlaw08.UntarEnd'. -/
def untarEndUptoCard : Claim7 := { stood := { row := untarEndUptoRow, standIns := [], harness := (true, "885af3a7ab29ce3870e195fb4b469b1b4c5205396eb82e7e505d4f3a58890c6e"), looks := true }, kinds := [], alts := [], laidByText := true, laidKinds := [.data, .data, .data, .data, .sentinel, .sentinel, .wider, .pinned], laidTests := true, laidLooks := .later }
def UntarEndUptoCardSaid : Prop := Claim7.holds Tryz.pinned (.plain (OpenSpec.upto untarEndSpec)) untarEndUptoCard

/-- THE SECOND FORM's CARD OF 'onionskinlaw08.UntarPad'. -/
def untarPadUptoCard : Claim7 := { stood := { row := untarPadUptoRow, standIns := [], harness := (true, "885af3a7ab29ce3870e195fb4b469b1b4c5205396eb82e7e505d4f3a58890c6e"), looks := true }, kinds := [], alts := [], laidByText := true, laidKinds := [.data, .data, .data, .data, .sentinel, .sentinel, .wider, .pinned], laidTests := true, laidLooks := .later }
def UntarPadUptoCardSaid : Prop := Claim7.holds Tryz.pinned (.plain (OpenSpec.upto untarPadSpec)) untarPadUptoCard

/-- THE SECOND FORM's CARD OF 'onionskinlaw08.UntarExtras'. -/
def untarExtrasUptoCard : Claim7 := { stood := { row := untarExtrasUptoRow, standIns := [], harness := (true, "885af3a7ab29ce3870e195fb4b469b1b4c5205396eb82e7e505d4f3a58890c6e"), looks := true }, kinds := [], alts := [], laidByText := true, laidKinds := [.data, .data, .data, .data, .sentinel, .sentinel, .wider, .pinned], laidTests := true, laidLooks := .later }
def UntarExtrasUptoCardSaid : Prop := Claim7.holds Tryz.pinned (.plain (OpenSpec.upto untarExtrasSpec)) untarExtrasUptoCard
end Rows
end Go.Proofs.YtpcmhollibaklaaGreatDoor
