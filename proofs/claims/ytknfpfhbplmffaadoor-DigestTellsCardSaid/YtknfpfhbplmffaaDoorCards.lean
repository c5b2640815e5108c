/-
  DERIVED. GIVEN WITH THE SEED: THE CARDS: each row of YtknfpfhbplmffaaDoorRows.lean that lists a variable, with what it lists TIED to the program's text (the seventh form; the later family's looks); each row that meets fmt, with fmt's text TOLD by the authors' own Lean function (tested against real Go, not proved from fmt's source: count such statements apart). THE CARD IS WHAT COUNTS. Prove the row's statement (the work); the ties are given (YtknfpfhbplmffaaDoorTie.lean); close each card by the builder's one call (the guide's Derived/Test/ToyasCard.lean, 'card_holds'). Laid BY PROGRAM, IN A SANDBOX (cutbox-door.mjs). By AI agents, Wed Nov 11 2026. No macro, syntax, notation, axiom, sorry.
-/
import Derived.Test.YtknfpfhbplmffaaDoorRows
import GoSem.ClaimSeven
namespace Go.Proofs.YtknfpfhbplmffaaDoor
namespace Rows

/-- THE TIED CARD OF 'onionskinlaw01.ShaSums'. -/
def shaSumsCard : Claim7 := { stood := { row := shaSumsRow, standIns := [], harness := (true, "baecf8ff3955e03bc8ea2db66c8d00d5b465ad368eefce85dfd8bbcc5b5fbf72"), looks := false }, kinds := [], alts := [], laidByText := true, laidKinds := [.data], laidTests := true, laidLooks := .later }
def ShaSumsCardSaid : Prop := Claim7.holds Tryd.pinned (.plain (OpenSpec.ofChange shaSumsSpec)) shaSumsCard

/-- THE TIED CARD OF 'onionskinlaw01.ShaPieces'. -/
def shaPiecesCard : Claim7 := { stood := { row := shaPiecesRow, standIns := [], harness := (true, "baecf8ff3955e03bc8ea2db66c8d00d5b465ad368eefce85dfd8bbcc5b5fbf72"), looks := false }, kinds := [], alts := [], laidByText := true, laidKinds := [.data], laidTests := true, laidLooks := .later }
def ShaPiecesCardSaid : Prop := Claim7.holds Tryd.pinned (.plain (OpenSpec.ofChange shaPiecesSpec)) shaPiecesCard

/-- THE TIED CARD OF 'onionskinlaw01.ShaLong'. -/
def shaLongCard : Claim7 := { stood := { row := shaLongRow, standIns := [], harness := (true, "baecf8ff3955e03bc8ea2db66c8d00d5b465ad368eefce85dfd8bbcc5b5fbf72"), looks := false }, kinds := [], alts := [], laidByText := true, laidKinds := [.data], laidTests := true, laidLooks := .later }
def ShaLongCardSaid : Prop := Claim7.holds Tryd.pinned (.plain (OpenSpec.ofChange shaLongSpec)) shaLongCard

/-- THE TIED CARD OF 'onionskinlaw01.ShaTwo'. -/
def shaTwoCard : Claim7 := { stood := { row := shaTwoRow, standIns := [], harness := (true, "baecf8ff3955e03bc8ea2db66c8d00d5b465ad368eefce85dfd8bbcc5b5fbf72"), looks := false }, kinds := [], alts := [], laidByText := true, laidKinds := [.data], laidTests := true, laidLooks := .later }
def ShaTwoCardSaid : Prop := Claim7.holds Tryd.pinned (.plain (OpenSpec.ofChange shaTwoSpec)) shaTwoCard

/-- THE TIED CARD OF 'onionskinlaw02.DigestTells'. -/
def digestTellsCard : Claim7 := { stood := { row := digestTellsRow, standIns := [], harness := (true, "baecf8ff3955e03bc8ea2db66c8d00d5b465ad368eefce85dfd8bbcc5b5fbf72"), looks := false }, kinds := [], alts := [], laidByText := true, laidKinds := [.data], laidTests := true, laidLooks := .later }
def DigestTellsCardSaid : Prop := Claim7.holds Tryd.pinned (.plain (OpenSpec.ofChange digestTellsSpec)) digestTellsCard

/-- THE TIED CARD OF 'onionskinlaw02.DigestBack'. -/
def digestBackCard : Claim7 := { stood := { row := digestBackRow, standIns := [], harness := (true, "baecf8ff3955e03bc8ea2db66c8d00d5b465ad368eefce85dfd8bbcc5b5fbf72"), looks := false }, kinds := [], alts := [], laidByText := true, laidKinds := [.data], laidTests := true, laidLooks := .later }
def DigestBackCardSaid : Prop := Claim7.holds Tryd.pinned (.plain (OpenSpec.ofChange digestBackSpec)) digestBackCard

/-- THE TIED CARD OF 'onionskinlaw02.DigestOrder'. -/
def digestOrderCard : Claim7 := { stood := { row := digestOrderRow, standIns := [], harness := (true, "baecf8ff3955e03bc8ea2db66c8d00d5b465ad368eefce85dfd8bbcc5b5fbf72"), looks := false }, kinds := [], alts := [], laidByText := true, laidKinds := [.data], laidTests := true, laidLooks := .later }
def DigestOrderCardSaid : Prop := Claim7.holds Tryd.pinned (.plain (OpenSpec.ofChange digestOrderSpec)) digestOrderCard

/-- THE TIED CARD OF 'onionskinlaw02.DigestLetters'. -/
def digestLettersCard : Claim7 := { stood := { row := digestLettersRow, standIns := [], harness := (true, "baecf8ff3955e03bc8ea2db66c8d00d5b465ad368eefce85dfd8bbcc5b5fbf72"), looks := false }, kinds := [], alts := [], laidByText := true, laidKinds := [.data], laidTests := true, laidLooks := .later }
def DigestLettersCardSaid : Prop := Claim7.holds Tryd.pinned (.plain (OpenSpec.ofChange digestLettersSpec)) digestLettersCard

/-- THE TIED CARD OF 'onionskinlaw02.DigestOf'. -/
def digestOfCard : Claim7 := { stood := { row := digestOfRow, standIns := [], harness := (true, "baecf8ff3955e03bc8ea2db66c8d00d5b465ad368eefce85dfd8bbcc5b5fbf72"), looks := false }, kinds := [], alts := [], laidByText := true, laidKinds := [.data], laidTests := true, laidLooks := .later }
def DigestOfCardSaid : Prop := Claim7.holds Tryd.pinned (.plain (OpenSpec.ofChange digestOfSpec)) digestOfCard

/-- THE SECOND FORM's CARD OF 'onionskinlaw01.ShaSums'. -/
def shaSumsUptoCard : Claim7 := { stood := { row := shaSumsUptoRow, standIns := [], harness := (true, "baecf8ff3955e03bc8ea2db66c8d00d5b465ad368eefce85dfd8bbcc5b5fbf72"), looks := false }, kinds := [], alts := [], laidByText := true, laidKinds := [.data], laidTests := true, laidLooks := .later }
def ShaSumsUptoCardSaid : Prop := Claim7.holds Tryd.pinned (.plain (OpenSpec.upto shaSumsSpec)) shaSumsUptoCard

/-- THE SECOND FORM's CARD OF 'onionskinlaw01.ShaPieces'. -/
def shaPiecesUptoCard : Claim7 := { stood := { row := shaPiecesUptoRow, standIns := [], harness := (true, "baecf8ff3955e03bc8ea2db66c8d00d5b465ad368eefce85dfd8bbcc5b5fbf72"), looks := false }, kinds := [], alts := [], laidByText := true, laidKinds := [.data], laidTests := true, laidLooks := .later }
def ShaPiecesUptoCardSaid : Prop := Claim7.holds Tryd.pinned (.plain (OpenSpec.upto shaPiecesSpec)) shaPiecesUptoCard

/-- THE SECOND FORM's CARD OF 'onionskinlaw01.ShaLong'. -/
def shaLongUptoCard : Claim7 := { stood := { row := shaLongUptoRow, standIns := [], harness := (true, "baecf8ff3955e03bc8ea2db66c8d00d5b465ad368eefce85dfd8bbcc5b5fbf72"), looks := false }, kinds := [], alts := [], laidByText := true, laidKinds := [.data], laidTests := true, laidLooks := .later }
def ShaLongUptoCardSaid : Prop := Claim7.holds Tryd.pinned (.plain (OpenSpec.upto shaLongSpec)) shaLongUptoCard

/-- THE SECOND FORM's CARD OF 'onionskinlaw01.ShaTwo'. -/
def shaTwoUptoCard : Claim7 := { stood := { row := shaTwoUptoRow, standIns := [], harness := (true, "baecf8ff3955e03bc8ea2db66c8d00d5b465ad368eefce85dfd8bbcc5b5fbf72"), looks := false }, kinds := [], alts := [], laidByText := true, laidKinds := [.data], laidTests := true, laidLooks := .later }
def ShaTwoUptoCardSaid : Prop := Claim7.holds Tryd.pinned (.plain (OpenSpec.upto shaTwoSpec)) shaTwoUptoCard

/-- THE SECOND FORM's CARD OF 'onionskinlaw02.DigestTells'. -/
def digestTellsUptoCard : Claim7 := { stood := { row := digestTellsUptoRow, standIns := [], harness := (true, "baecf8ff3955e03bc8ea2db66c8d00d5b465ad368eefce85dfd8bbcc5b5fbf72"), looks := false }, kinds := [], alts := [], laidByText := true, laidKinds := [.data], laidTests := true, laidLooks := .later }
def DigestTellsUptoCardSaid : Prop := Claim7.holds Tryd.pinned (.plain (OpenSpec.upto digestTellsSpec)) digestTellsUptoCard

/-- THE SECOND FORM's CARD OF 'onionskinlaw02.DigestBack'. -/
def digestBackUptoCard : Claim7 := { stood := { row := digestBackUptoRow, standIns := [], harness := (true, "baecf8ff3955e03bc8ea2db66c8d00d5b465ad368eefce85dfd8bbcc5b5fbf72"), looks := false }, kinds := [], alts := [], laidByText := true, laidKinds := [.data], laidTests := true, laidLooks := .later }
def DigestBackUptoCardSaid : Prop := Claim7.holds Tryd.pinned (.plain (OpenSpec.upto digestBackSpec)) digestBackUptoCard

/-- THE SECOND FORM's CARD OF 'onionskinlaw02.DigestOrder'. -/
def digestOrderUptoCard : Claim7 := { stood := { row := digestOrderUptoRow, standIns := [], harness := (true, "baecf8ff3955e03bc8ea2db66c8d00d5b465ad368eefce85dfd8bbcc5b5fbf72"), looks := false }, kinds := [], alts := [], laidByText := true, laidKinds := [.data], laidTests := true, laidLooks := .later }
def DigestOrderUptoCardSaid : Prop := Claim7.holds Tryd.pinned (.plain (OpenSpec.upto digestOrderSpec)) digestOrderUptoCard

/-- THE SECOND FORM's CARD OF 'onionskinlaw02.DigestLetters'. -/
def digestLettersUptoCard : Claim7 := { stood := { row := digestLettersUptoRow, standIns := [], harness := (true, "baecf8ff3955e03bc8ea2db66c8d00d5b465ad368eefce85dfd8bbcc5b5fbf72"), looks := false }, kinds := [], alts := [], laidByText := true, laidKinds := [.data], laidTests := true, laidLooks := .later }
def DigestLettersUptoCardSaid : Prop := Claim7.holds Tryd.pinned (.plain (OpenSpec.upto digestLettersSpec)) digestLettersUptoCard

/-- THE SECOND FORM's CARD OF 'onionskinlaw02.DigestOf'. -/
def digestOfUptoCard : Claim7 := { stood := { row := digestOfUptoRow, standIns := [], harness := (true, "baecf8ff3955e03bc8ea2db66c8d00d5b465ad368eefce85dfd8bbcc5b5fbf72"), looks := false }, kinds := [], alts := [], laidByText := true, laidKinds := [.data], laidTests := true, laidLooks := .later }
def DigestOfUptoCardSaid : Prop := Claim7.holds Tryd.pinned (.plain (OpenSpec.upto digestOfSpec)) digestOfUptoCard
end Rows
end Go.Proofs.YtknfpfhbplmffaaDoor
