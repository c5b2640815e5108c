/-
  DERIVED. GIVEN WITH THE SEED: THE CARDS: each row of YtokficfpgppaeaaDoorRows.lean that lists a variable, with what it lists TIED to the program's text (the seventh form; the later family's looks); each row that meets fmt, with fmt's text TOLD by the authors' own Lean function (tested against real Go, not proved from fmt's source: count such statements apart). THE CARD IS WHAT COUNTS. Prove the row's statement (the work); the ties are given (YtokficfpgppaeaaDoorTie.lean); close each card by the builder's one call (the guide's Derived/Test/ToyasCard.lean, 'card_holds'). Laid BY PROGRAM, IN A SANDBOX (cutbox-door.mjs). By AI agents, Wed Nov 11 2026. No macro, syntax, notation, axiom, sorry.
-/
import Derived.Test.YtokficfpgppaeaaDoorRows
import GoSem.ClaimSeven
namespace Go.Proofs.YtokficfpgppaeaaDoor
namespace Rows

/-- THE TIED CARD OF 'onionskinlaw04.BatchPlays'. -/
def batchPlaysCard : Claim7 := { stood := { row := batchPlaysRow, standIns := [], harness := (true, "ef859acd56532fa220530636410867ecd0020ee71564dae82c55be709746052e"), looks := false }, kinds := [], alts := [], laidByText := true, laidKinds := [.data], laidTests := true, laidLooks := .later }
def BatchPlaysCardSaid : Prop := Claim7.holds Tryd.pinned (.plain (OpenSpec.ofChange batchPlaysSpec)) batchPlaysCard

/-- THE TIED CARD OF 'onionskinlaw04.BatchAll'. -/
def batchAllCard : Claim7 := { stood := { row := batchAllRow, standIns := [], harness := (true, "ef859acd56532fa220530636410867ecd0020ee71564dae82c55be709746052e"), looks := false }, kinds := [], alts := [], laidByText := true, laidKinds := [.data], laidTests := true, laidLooks := .later }
def BatchAllCardSaid : Prop := Claim7.holds Tryd.pinned (.plain (OpenSpec.ofChange batchAllSpec)) batchAllCard

/-- THE TIED CARD OF 'onionskinlaw04.BatchStore'. -/
def batchStoreCard : Claim7 := { stood := { row := batchStoreRow, standIns := [], harness := (true, "ef859acd56532fa220530636410867ecd0020ee71564dae82c55be709746052e"), looks := false }, kinds := [], alts := [], laidByText := true, laidKinds := [.data], laidTests := true, laidLooks := .later }
def BatchStoreCardSaid : Prop := Claim7.holds Tryd.pinned (.plain (OpenSpec.ofChange batchStoreSpec)) batchStoreCard

/-- THE TIED CARD OF 'onionskinlaw04.BatchFull'. -/
def batchFullCard : Claim7 := { stood := { row := batchFullRow, standIns := [], harness := (true, "ef859acd56532fa220530636410867ecd0020ee71564dae82c55be709746052e"), looks := false }, kinds := [], alts := [], laidByText := true, laidKinds := [.data], laidTests := true, laidLooks := .later }
def BatchFullCardSaid : Prop := Claim7.holds Tryd.pinned (.plain (OpenSpec.ofChange batchFullSpec)) batchFullCard

/-- THE TIED CARD OF 'onionskinlaw04.BatchOver'. -/
def batchOverCard : Claim7 := { stood := { row := batchOverRow, standIns := [], harness := (true, "ef859acd56532fa220530636410867ecd0020ee71564dae82c55be709746052e"), looks := false }, kinds := [], alts := [], laidByText := true, laidKinds := [.data], laidTests := true, laidLooks := .later }
def BatchOverCardSaid : Prop := Claim7.holds Tryd.pinned (.plain (OpenSpec.ofChange batchOverSpec)) batchOverCard

/-- THE SECOND FORM's CARD OF 'onionskinlaw04.BatchPlays'. -/
def batchPlaysUptoCard : Claim7 := { stood := { row := batchPlaysUptoRow, standIns := [], harness := (true, "ef859acd56532fa220530636410867ecd0020ee71564dae82c55be709746052e"), looks := false }, kinds := [], alts := [], laidByText := true, laidKinds := [.data], laidTests := true, laidLooks := .later }
def BatchPlaysUptoCardSaid : Prop := Claim7.holds Tryd.pinned (.plain (OpenSpec.upto batchPlaysSpec)) batchPlaysUptoCard

/-- THE SECOND FORM's CARD OF 'onionskinlaw04.BatchAll'. -/
def batchAllUptoCard : Claim7 := { stood := { row := batchAllUptoRow, standIns := [], harness := (true, "ef859acd56532fa220530636410867ecd0020ee71564dae82c55be709746052e"), looks := false }, kinds := [], alts := [], laidByText := true, laidKinds := [.data], laidTests := true, laidLooks := .later }
def BatchAllUptoCardSaid : Prop := Claim7.holds Tryd.pinned (.plain (OpenSpec.upto batchAllSpec)) batchAllUptoCard

/-- THE SECOND FORM's CARD OF 'onionskinlaw04.BatchStore'. -/
def batchStoreUptoCard : Claim7 := { stood := { row := batchStoreUptoRow, standIns := [], harness := (true, "ef859acd56532fa220530636410867ecd0020ee71564dae82c55be709746052e"), looks := false }, kinds := [], alts := [], laidByText := true, laidKinds := [.data], laidTests := true, laidLooks := .later }
def BatchStoreUptoCardSaid : Prop := Claim7.holds Tryd.pinned (.plain (OpenSpec.upto batchStoreSpec)) batchStoreUptoCard

/-- THE SECOND FORM's CARD OF 'onionskinlaw04.BatchFull'. -/
def batchFullUptoCard : Claim7 := { stood := { row := batchFullUptoRow, standIns := [], harness := (true, "ef859acd56532fa220530636410867ecd0020ee71564dae82c55be709746052e"), looks := false }, kinds := [], alts := [], laidByText := true, laidKinds := [.data], laidTests := true, laidLooks := .later }
def BatchFullUptoCardSaid : Prop := Claim7.holds Tryd.pinned (.plain (OpenSpec.upto batchFullSpec)) batchFullUptoCard

/-- THE SECOND FORM's CARD OF 'onionskinlaw04.BatchOver'. -/
def batchOverUptoCard : Claim7 := { stood := { row := batchOverUptoRow, standIns := [], harness := (true, "ef859acd56532fa220530636410867ecd0020ee71564dae82c55be709746052e"), looks := false }, kinds := [], alts := [], laidByText := true, laidKinds := [.data], laidTests := true, laidLooks := .later }
def BatchOverUptoCardSaid : Prop := Claim7.holds Tryd.pinned (.plain (OpenSpec.upto batchOverSpec)) batchOverUptoCard
end Rows
end Go.Proofs.YtokficfpgppaeaaDoor
