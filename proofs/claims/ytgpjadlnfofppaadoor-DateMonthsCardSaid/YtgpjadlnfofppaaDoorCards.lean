/-
  DERIVED. GIVEN WITH THE SEED: THE CARDS: each row of YtgpjadlnfofppaaDoorRows.lean that lists a variable, with what it lists TIED to the program's text (the seventh form; the later family's looks); each row that meets fmt, with fmt's text TOLD by the authors' own Lean function (tested against real Go, not proved from fmt's source: count such statements apart). THE CARD IS WHAT COUNTS. Prove the row's statement (the work); the ties are given (YtgpjadlnfofppaaDoorTie.lean); close each card by the builder's one call (the guide's Derived/Test/ToyasCard.lean, 'card_holds'). Laid BY PROGRAM, IN A SANDBOX (cutbox-door.mjs). By AI agents, Wed Nov 11 2026. No macro, syntax, notation, axiom, sorry.
-/
import Derived.Test.YtgpjadlnfofppaaDoorRows
import GoSem.ClaimSeven
namespace Go.Proofs.YtgpjadlnfofppaaDoor
namespace Rows

/-- THE TIED CARD OF 'tranchelaw06.DateParts'. -/
def datePartsCard : Claim7 := { stood := { row := datePartsRow, standIns := [], harness := (true, "452b0d945a214f406fa0916b57e6cfd9206bd3e3c3a3d8cc7482f52a0f391f7f"), looks := false }, kinds := [], alts := [], laidByText := true, laidKinds := [.data, .data, .data, .data], laidTests := true, laidLooks := .later }
def DatePartsCardSaid : Prop := Claim7.holds Tryd.pinned (.plain (OpenSpec.ofChange datePartsSpec)) datePartsCard

/-- THE TIED CARD OF 'tranchelaw06.DateShifts'. -/
def dateShiftsCard : Claim7 := { stood := { row := dateShiftsRow, standIns := [], harness := (true, "452b0d945a214f406fa0916b57e6cfd9206bd3e3c3a3d8cc7482f52a0f391f7f"), looks := false }, kinds := [], alts := [], laidByText := true, laidKinds := [.data, .data, .data, .data], laidTests := true, laidLooks := .later }
def DateShiftsCardSaid : Prop := Claim7.holds Tryd.pinned (.plain (OpenSpec.ofChange dateShiftsSpec)) dateShiftsCard

/-- THE TIED CARD OF 'tranchelaw06.DateTexts'. -/
def dateTextsCard : Claim7 := { stood := { row := dateTextsRow, standIns := [], harness := (true, "452b0d945a214f406fa0916b57e6cfd9206bd3e3c3a3d8cc7482f52a0f391f7f"), looks := false }, kinds := [], alts := [], laidByText := true, laidKinds := [.data, .data, .data, .data], laidTests := true, laidLooks := .later }
def DateTextsCardSaid : Prop := Claim7.holds Tryd.pinned (.plain (OpenSpec.ofChange dateTextsSpec)) dateTextsCard

/-- THE TIED CARD OF 'tranchelaw06.DateThereAndBack'. -/
def dateThereAndBackCard : Claim7 := { stood := { row := dateThereAndBackRow, standIns := [], harness := (true, "452b0d945a214f406fa0916b57e6cfd9206bd3e3c3a3d8cc7482f52a0f391f7f"), looks := false }, kinds := [], alts := [], laidByText := true, laidKinds := [.data, .data, .data, .data], laidTests := true, laidLooks := .later }
def DateThereAndBackCardSaid : Prop := Claim7.holds Tryd.pinned (.plain (OpenSpec.ofChange dateThereAndBackSpec)) dateThereAndBackCard

/-- THE TIED CARD OF 'tranchelaw06.DateWeeks'. -/
def dateWeeksCard : Claim7 := { stood := { row := dateWeeksRow, standIns := [], harness := (true, "452b0d945a214f406fa0916b57e6cfd9206bd3e3c3a3d8cc7482f52a0f391f7f"), looks := false }, kinds := [], alts := [], laidByText := true, laidKinds := [.data, .data, .data, .data], laidTests := true, laidLooks := .later }
def DateWeeksCardSaid : Prop := Claim7.holds Tryd.pinned (.plain (OpenSpec.ofChange dateWeeksSpec)) dateWeeksCard

/-- THE TIED CARD OF 'tranchelaw06.DateYears'. -/
def dateYearsCard : Claim7 := { stood := { row := dateYearsRow, standIns := [], harness := (true, "452b0d945a214f406fa0916b57e6cfd9206bd3e3c3a3d8cc7482f52a0f391f7f"), looks := false }, kinds := [], alts := [], laidByText := true, laidKinds := [.data, .data, .data, .data], laidTests := true, laidLooks := .later }
def DateYearsCardSaid : Prop := Claim7.holds Tryd.pinned (.plain (OpenSpec.ofChange dateYearsSpec)) dateYearsCard

/-- THE TIED CARD OF 'tranchelaw06.DateMonths'. -/
def dateMonthsCard : Claim7 := { stood := { row := dateMonthsRow, standIns := [], harness := (true, "452b0d945a214f406fa0916b57e6cfd9206bd3e3c3a3d8cc7482f52a0f391f7f"), looks := false }, kinds := [], alts := [], laidByText := true, laidKinds := [.data, .data, .data, .data], laidTests := true, laidLooks := .later }
def DateMonthsCardSaid : Prop := Claim7.holds Tryd.pinned (.plain (OpenSpec.ofChange dateMonthsSpec)) dateMonthsCard

/-- THE TIED CARD OF 'tranchelaw06.DateWhole'. -/
def dateWholeCard : Claim7 := { stood := { row := dateWholeRow, standIns := [], harness := (true, "452b0d945a214f406fa0916b57e6cfd9206bd3e3c3a3d8cc7482f52a0f391f7f"), looks := false }, kinds := [], alts := [], laidByText := true, laidKinds := [.data, .data, .data, .data], laidTests := true, laidLooks := .later }
def DateWholeCardSaid : Prop := Claim7.holds Tryd.pinned (.plain (OpenSpec.ofChange dateWholeSpec)) dateWholeCard

/-- THE TIED CARD OF 'tranchelaw06.DateRoundTrip'. -/
def dateRoundTripCard : Claim7 := { stood := { row := dateRoundTripRow, standIns := [], harness := (true, "452b0d945a214f406fa0916b57e6cfd9206bd3e3c3a3d8cc7482f52a0f391f7f"), looks := false }, kinds := [], alts := [], laidByText := true, laidKinds := [.data, .data, .data, .data], laidTests := true, laidLooks := .later }
def DateRoundTripCardSaid : Prop := Claim7.holds Tryd.pinned (.plain (OpenSpec.ofChange dateRoundTripSpec)) dateRoundTripCard

/-- THE SECOND FORM's CARD OF 'tranchelaw06.DateParts'. -/
def datePartsUptoCard : Claim7 := { stood := { row := datePartsUptoRow, standIns := [], harness := (true, "452b0d945a214f406fa0916b57e6cfd9206bd3e3c3a3d8cc7482f52a0f391f7f"), looks := false }, kinds := [], alts := [], laidByText := true, laidKinds := [.data, .data, .data, .data], laidTests := true, laidLooks := .later }
def DatePartsUptoCardSaid : Prop := Claim7.holds Tryd.pinned (.plain (OpenSpec.upto datePartsSpec)) datePartsUptoCard

/-- THE SECOND FORM's CARD OF 'tranchelaw06.DateShifts'. -/
def dateShiftsUptoCard : Claim7 := { stood := { row := dateShiftsUptoRow, standIns := [], harness := (true, "452b0d945a214f406fa0916b57e6cfd9206bd3e3c3a3d8cc7482f52a0f391f7f"), looks := false }, kinds := [], alts := [], laidByText := true, laidKinds := [.data, .data, .data, .data], laidTests := true, laidLooks := .later }
def DateShiftsUptoCardSaid : Prop := Claim7.holds Tryd.pinned (.plain (OpenSpec.upto dateShiftsSpec)) dateShiftsUptoCard

/-- THE SECOND FORM's CARD OF 'tranchelaw06.DateTexts'. -/
def dateTextsUptoCard : Claim7 := { stood := { row := dateTextsUptoRow, standIns := [], harness := (true, "452b0d945a214f406fa0916b57e6cfd9206bd3e3c3a3d8cc7482f52a0f391f7f"), looks := false }, kinds := [], alts := [], laidByText := true, laidKinds := [.data, .data, .data, .data], laidTests := true, laidLooks := .later }
def DateTextsUptoCardSaid : Prop := Claim7.holds Tryd.pinned (.plain (OpenSpec.upto dateTextsSpec)) dateTextsUptoCard

/-- THE SECOND FORM's CARD OF 'tranchelaw06.DateThereAndBack'. -/
def dateThereAndBackUptoCard : Claim7 := { stood := { row := dateThereAndBackUptoRow, standIns := [], harness := (true, "452b0d945a214f406fa0916b57e6cfd9206bd3e3c3a3d8cc7482f52a0f391f7f"), looks := false }, kinds := [], alts := [], laidByText := true, laidKinds := [.data, .data, .data, .data], laidTests := true, laidLooks := .later }
def DateThereAndBackUptoCardSaid : Prop := Claim7.holds Tryd.pinned (.plain (OpenSpec.upto dateThereAndBackSpec)) dateThereAndBackUptoCard

/-- THE SECOND FORM's CARD OF 'tranchelaw06.DateWeeks'. -/
def dateWeeksUptoCard : Claim7 := { stood := { row := dateWeeksUptoRow, standIns := [], harness := (true, "452b0d945a214f406fa0916b57e6cfd9206bd3e3c3a3d8cc7482f52a0f391f7f"), looks := false }, kinds := [], alts := [], laidByText := true, laidKinds := [.data, .data, .data, .data], laidTests := true, laidLooks := .later }
def DateWeeksUptoCardSaid : Prop := Claim7.holds Tryd.pinned (.plain (OpenSpec.upto dateWeeksSpec)) dateWeeksUptoCard

/-- THE SECOND FORM's CARD OF 'tranchelaw06.DateYears'. -/
def dateYearsUptoCard : Claim7 := { stood := { row := dateYearsUptoRow, standIns := [], harness := (true, "452b0d945a214f406fa0916b57e6cfd9206bd3e3c3a3d8cc7482f52a0f391f7f"), looks := false }, kinds := [], alts := [], laidByText := true, laidKinds := [.data, .data, .data, .data], laidTests := true, laidLooks := .later }
def DateYearsUptoCardSaid : Prop := Claim7.holds Tryd.pinned (.plain (OpenSpec.upto dateYearsSpec)) dateYearsUptoCard

/-- THE SECOND FORM's CARD OF 'tranchelaw06.DateMonths'. -/
def dateMonthsUptoCard : Claim7 := { stood := { row := dateMonthsUptoRow, standIns := [], harness := (true, "452b0d945a214f406fa0916b57e6cfd9206bd3e3c3a3d8cc7482f52a0f391f7f"), looks := false }, kinds := [], alts := [], laidByText := true, laidKinds := [.data, .data, .data, .data], laidTests := true, laidLooks := .later }
def DateMonthsUptoCardSaid : Prop := Claim7.holds Tryd.pinned (.plain (OpenSpec.upto dateMonthsSpec)) dateMonthsUptoCard

/-- THE SECOND FORM's CARD OF 'tranchelaw06.DateWhole'. -/
def dateWholeUptoCard : Claim7 := { stood := { row := dateWholeUptoRow, standIns := [], harness := (true, "452b0d945a214f406fa0916b57e6cfd9206bd3e3c3a3d8cc7482f52a0f391f7f"), looks := false }, kinds := [], alts := [], laidByText := true, laidKinds := [.data, .data, .data, .data], laidTests := true, laidLooks := .later }
def DateWholeUptoCardSaid : Prop := Claim7.holds Tryd.pinned (.plain (OpenSpec.upto dateWholeSpec)) dateWholeUptoCard

/-- THE SECOND FORM's CARD OF 'tranchelaw06.DateRoundTrip'. -/
def dateRoundTripUptoCard : Claim7 := { stood := { row := dateRoundTripUptoRow, standIns := [], harness := (true, "452b0d945a214f406fa0916b57e6cfd9206bd3e3c3a3d8cc7482f52a0f391f7f"), looks := false }, kinds := [], alts := [], laidByText := true, laidKinds := [.data, .data, .data, .data], laidTests := true, laidLooks := .later }
def DateRoundTripUptoCardSaid : Prop := Claim7.holds Tryd.pinned (.plain (OpenSpec.upto dateRoundTripSpec)) dateRoundTripUptoCard
end Rows
end Go.Proofs.YtgpjadlnfofppaaDoor
