/-
  DERIVED. GIVEN WITH THE SEED: THE CARDS: each row of YtdbikeohobgebaaDoorRows.lean that lists a variable, with what it lists TIED to the program's text (the seventh form; the later family's looks); each row that meets fmt, with fmt's text TOLD by the authors' own Lean function (tested against real Go, not proved from fmt's source: count such statements apart). THE CARD IS WHAT COUNTS. Prove the row's statement (the work); the ties are given (YtdbikeohobgebaaDoorTie.lean); close each card by the builder's one call (the guide's Derived/Test/ToyasCard.lean, 'card_holds'). Laid BY PROGRAM, IN A SANDBOX (cutbox-door.mjs). By AI agents, Wed Nov 11 2026. No macro, syntax, notation, axiom, sorry.
-/
import Derived.Test.YtdbikeohobgebaaDoorRows
import GoSem.ClaimSeven
namespace Go.Proofs.YtdbikeohobgebaaDoor
namespace Rows

/-- THE TIED CARD OF 'onionskinlaw12.JobjLooks'. -/
def jobjLooksCard : Claim7 := { stood := { row := jobjLooksRow, standIns := [], harness := (true, "94062b6e6de4f3cec605b5f2ebda514686cf3ec99dbcf898871c10c4acb48474"), looks := false }, kinds := [], alts := [], laidByText := true, laidKinds := [.data, .data, .data, .data, .pinned], laidTests := true, laidLooks := .later }
def JobjLooksCardSaid : Prop := Claim7.holds Tryd.pinned (.plain (OpenSpec.ofChange jobjLooksSpec)) jobjLooksCard

/-- THE TIED CARD OF 'onionskinlaw12.JobjSets'. -/
def jobjSetsCard : Claim7 := { stood := { row := jobjSetsRow, standIns := [], harness := (true, "94062b6e6de4f3cec605b5f2ebda514686cf3ec99dbcf898871c10c4acb48474"), looks := false }, kinds := [], alts := [], laidByText := true, laidKinds := [.data, .data, .data, .data, .pinned], laidTests := true, laidLooks := .later }
def JobjSetsCardSaid : Prop := Claim7.holds Tryd.pinned (.plain (OpenSpec.ofChange jobjSetsSpec)) jobjSetsCard

/-- THE TIED CARD OF 'onionskinlaw12.JobjMakes'. -/
def jobjMakesCard : Claim7 := { stood := { row := jobjMakesRow, standIns := [], harness := (true, "94062b6e6de4f3cec605b5f2ebda514686cf3ec99dbcf898871c10c4acb48474"), looks := false }, kinds := [], alts := [], laidByText := true, laidKinds := [.data, .data, .data, .data, .pinned], laidTests := true, laidLooks := .later }
def JobjMakesCardSaid : Prop := Claim7.holds Tryd.pinned (.plain (OpenSpec.ofChange jobjMakesSpec)) jobjMakesCard

/-- THE TIED CARD OF 'onionskinlaw12.JobjBack'. -/
def jobjBackCard : Claim7 := { stood := { row := jobjBackRow, standIns := [], harness := (true, "94062b6e6de4f3cec605b5f2ebda514686cf3ec99dbcf898871c10c4acb48474"), looks := false }, kinds := [], alts := [], laidByText := true, laidKinds := [.data, .data, .data, .data, .pinned], laidTests := true, laidLooks := .later }
def JobjBackCardSaid : Prop := Claim7.holds Tryd.pinned (.plain (OpenSpec.ofChange jobjBackSpec)) jobjBackCard

/-- THE TIED CARD OF 'onionskinlaw12.JobjItems'. -/
def jobjItemsCard : Claim7 := { stood := { row := jobjItemsRow, standIns := [], harness := (true, "94062b6e6de4f3cec605b5f2ebda514686cf3ec99dbcf898871c10c4acb48474"), looks := false }, kinds := [], alts := [], laidByText := true, laidKinds := [.data, .data, .data, .data, .pinned], laidTests := true, laidLooks := .later }
def JobjItemsCardSaid : Prop := Claim7.holds Tryd.pinned (.plain (OpenSpec.ofChange jobjItemsSpec)) jobjItemsCard

/-- THE SECOND FORM's CARD OF 'onionskinlaw12.JobjLooks'. -/
def jobjLooksUptoCard : Claim7 := { stood := { row := jobjLooksUptoRow, standIns := [], harness := (true, "94062b6e6de4f3cec605b5f2ebda514686cf3ec99dbcf898871c10c4acb48474"), looks := false }, kinds := [], alts := [], laidByText := true, laidKinds := [.data, .data, .data, .data, .pinned], laidTests := true, laidLooks := .later }
def JobjLooksUptoCardSaid : Prop := Claim7.holds Tryd.pinned (.plain (OpenSpec.upto jobjLooksSpec)) jobjLooksUptoCard

/-- THE SECOND FORM's CARD OF 'onionskinlaw12.JobjSets'. -/
def jobjSetsUptoCard : Claim7 := { stood := { row := jobjSetsUptoRow, standIns := [], harness := (true, "94062b6e6de4f3cec605b5f2ebda514686cf3ec99dbcf898871c10c4acb48474"), looks := false }, kinds := [], alts := [], laidByText := true, laidKinds := [.data, .data, .data, .data, .pinned], laidTests := true, laidLooks := .later }
def JobjSetsUptoCardSaid : Prop := Claim7.holds Tryd.pinned (.plain (OpenSpec.upto jobjSetsSpec)) jobjSetsUptoCard

/-- THE SECOND FORM's CARD OF 'onionskinlaw12.JobjMakes'. -/
def jobjMakesUptoCard : Claim7 := { stood := { row := jobjMakesUptoRow, standIns := [], harness := (true, "94062b6e6de4f3cec605b5f2ebda514686cf3ec99dbcf898871c10c4acb48474"), looks := false }, kinds := [], alts := [], laidByText := true, laidKinds := [.data, .data, .data, .data, .pinned], laidTests := true, laidLooks := .later }
def JobjMakesUptoCardSaid : Prop := Claim7.holds Tryd.pinned (.plain (OpenSpec.upto jobjMakesSpec)) jobjMakesUptoCard

/-- THE SECOND FORM's CARD OF 'onionskinlaw12.JobjBack'. -/
def jobjBackUptoCard : Claim7 := { stood := { row := jobjBackUptoRow, standIns := [], harness := (true, "94062b6e6de4f3cec605b5f2ebda514686cf3ec99dbcf898871c10c4acb48474"), looks := false }, kinds := [], alts := [], laidByText := true, laidKinds := [.data, .data, .data, .data, .pinned], laidTests := true, laidLooks := .later }
def JobjBackUptoCardSaid : Prop := Claim7.holds Tryd.pinned (.plain (OpenSpec.upto jobjBackSpec)) jobjBackUptoCard

/-- THE SECOND FORM's CARD OF 'onionskinlaw12.JobjItems'. -/
def jobjItemsUptoCard : Claim7 := { stood := { row := jobjItemsUptoRow, standIns := [], harness := (true, "94062b6e6de4f3cec605b5f2ebda514686cf3ec99dbcf898871c10c4acb48474"), looks := false }, kinds := [], alts := [], laidByText := true, laidKinds := [.data, .data, .data, .data, .pinned], laidTests := true, laidLooks := .later }
def JobjItemsUptoCardSaid : Prop := Claim7.holds Tryd.pinned (.plain (OpenSpec.upto jobjItemsSpec)) jobjItemsUptoCard
end Rows
end Go.Proofs.YtdbikeohobgebaaDoor
