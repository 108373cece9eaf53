/-
  DERIVED. GIVEN WITH THE SEED: THE CARDS: each row of YtlonbfddhfacmaaGreatDoorRows.lean that lists a variable, with what it lists TIED to the program's text (the seventh form; the later family's looks); each row that meets fmt, with fmt's text TOLD by the authors' own Lean function (tested against real Go, not proved from fmt's source: count such statements apart). THE CARD IS WHAT COUNTS. Prove the row's statement (the work); the ties are given (YtlonbfddhfacmaaGreatDoorTie.lean); close each card by the builder's one call (the guide's Derived/Test/ToyasCard.lean, 'card_holds'). Laid BY PROGRAM, IN A SANDBOX (cutbox-door.mjs). By AI agents, Wed Nov 11 2026. No macro, syntax, notation, axiom, sorry.
-/
import Derived.Test.YtlonbfddhfacmaaGreatDoorRows
import GoSem.ClaimSeven
namespace Go.Proofs.YtlonbfddhfacmaaGreatDoor
namespace Rows

/-- THE TIED CARD OF 'tranchelaw03.DecimalRound'. -/
def decimalRoundCard : Claim7 := { stood := { row := decimalRoundRow, standIns := [], harness := (true, "22801a51c4ab4d0a2ec7764f9a4a1b5484690647260c17ce792237dca2f8fd73"), looks := false }, kinds := [], alts := [], laidByText := true, laidKinds := [.data, .data, .data, .data, .pinned], laidTests := true, laidLooks := .later }
def DecimalRoundCardSaid : Prop := Claim7.holds Tryz.pinned (.plain (OpenSpec.ofChange decimalRoundSpec)) decimalRoundCard

/-- THE TIED CARD OF 'tranchelaw03.DecimalTexts'. -/
def decimalTextsCard : Claim7 := { stood := { row := decimalTextsRow, standIns := [], harness := (true, "22801a51c4ab4d0a2ec7764f9a4a1b5484690647260c17ce792237dca2f8fd73"), looks := false }, kinds := [], alts := [], laidByText := true, laidKinds := [.data, .data, .data, .data, .pinned], laidTests := true, laidLooks := .later }
def DecimalTextsCardSaid : Prop := Claim7.holds Tryz.pinned (.plain (OpenSpec.ofChange decimalTextsSpec)) decimalTextsCard

/-- THE TIED CARD OF 'tranchelaw03.DecimalFinite'. -/
def decimalFiniteCard : Claim7 := { stood := { row := decimalFiniteRow, standIns := [], harness := (true, "22801a51c4ab4d0a2ec7764f9a4a1b5484690647260c17ce792237dca2f8fd73"), looks := false }, kinds := [], alts := [], laidByText := true, laidKinds := [.data, .data, .data, .data, .pinned], laidTests := true, laidLooks := .later }
def DecimalFiniteCardSaid : Prop := Claim7.holds Tryz.pinned (.plain (OpenSpec.ofChange decimalFiniteSpec)) decimalFiniteCard

/-- THE TIED CARD OF 'tranchelaw03.DecimalDistance'. -/
def decimalDistanceCard : Claim7 := { stood := { row := decimalDistanceRow, standIns := [], harness := (true, "22801a51c4ab4d0a2ec7764f9a4a1b5484690647260c17ce792237dca2f8fd73"), looks := false }, kinds := [], alts := [], laidByText := true, laidKinds := [.data, .data, .data, .data, .pinned], laidTests := true, laidLooks := .later }
def DecimalDistanceCardSaid : Prop := Claim7.holds Tryz.pinned (.plain (OpenSpec.ofChange decimalDistanceSpec)) decimalDistanceCard

/-- THE TIED CARD OF 'tranchelaw03.DecimalModes'. -/
def decimalModesCard : Claim7 := { stood := { row := decimalModesRow, standIns := [], harness := (true, "22801a51c4ab4d0a2ec7764f9a4a1b5484690647260c17ce792237dca2f8fd73"), looks := false }, kinds := [], alts := [], laidByText := true, laidKinds := [.data, .data, .data, .data, .pinned], laidTests := true, laidLooks := .later }
def DecimalModesCardSaid : Prop := Claim7.holds Tryz.pinned (.plain (OpenSpec.ofChange decimalModesSpec)) decimalModesCard

/-- THE TIED CARD OF 'tranchelaw03.DecimalOrder'. -/
def decimalOrderCard : Claim7 := { stood := { row := decimalOrderRow, standIns := [], harness := (true, "22801a51c4ab4d0a2ec7764f9a4a1b5484690647260c17ce792237dca2f8fd73"), looks := false }, kinds := [], alts := [], laidByText := true, laidKinds := [.data, .data, .data, .data, .pinned], laidTests := true, laidLooks := .later }
def DecimalOrderCardSaid : Prop := Claim7.holds Tryz.pinned (.plain (OpenSpec.ofChange decimalOrderSpec)) decimalOrderCard

/-- THE TIED CARD OF 'tranchelaw03.DecimalRoundTrip'. -/
def decimalRoundTripCard : Claim7 := { stood := { row := decimalRoundTripRow, standIns := [], harness := (true, "22801a51c4ab4d0a2ec7764f9a4a1b5484690647260c17ce792237dca2f8fd73"), looks := false }, kinds := [], alts := [], laidByText := true, laidKinds := [.data, .data, .data, .data, .pinned], laidTests := true, laidLooks := .later }
def DecimalRoundTripCardSaid : Prop := Claim7.holds Tryz.pinned (.plain (OpenSpec.ofChange decimalRoundTripSpec)) decimalRoundTripCard

/-- THE TIED CARD OF 'tranchelaw03.DecimalAccepted'. -/
def decimalAcceptedCard : Claim7 := { stood := { row := decimalAcceptedRow, standIns := [], harness := (true, "22801a51c4ab4d0a2ec7764f9a4a1b5484690647260c17ce792237dca2f8fd73"), looks := false }, kinds := [], alts := [], laidByText := true, laidKinds := [.data, .data, .data, .data, .pinned], laidTests := true, laidLooks := .later }
def DecimalAcceptedCardSaid : Prop := Claim7.holds Tryz.pinned (.plain (OpenSpec.ofChange decimalAcceptedSpec)) decimalAcceptedCard

/-- THE SECOND FORM's CARD OF 'tranchelaw03.DecimalRound'. -/
def decimalRoundUptoCard : Claim7 := { stood := { row := decimalRoundUptoRow, standIns := [], harness := (true, "22801a51c4ab4d0a2ec7764f9a4a1b5484690647260c17ce792237dca2f8fd73"), looks := false }, kinds := [], alts := [], laidByText := true, laidKinds := [.data, .data, .data, .data, .pinned], laidTests := true, laidLooks := .later }
def DecimalRoundUptoCardSaid : Prop := Claim7.holds Tryz.pinned (.plain (OpenSpec.upto decimalRoundSpec)) decimalRoundUptoCard

/-- THE SECOND FORM's CARD OF 'tranchelaw03.DecimalTexts'. -/
def decimalTextsUptoCard : Claim7 := { stood := { row := decimalTextsUptoRow, standIns := [], harness := (true, "22801a51c4ab4d0a2ec7764f9a4a1b5484690647260c17ce792237dca2f8fd73"), looks := false }, kinds := [], alts := [], laidByText := true, laidKinds := [.data, .data, .data, .data, .pinned], laidTests := true, laidLooks := .later }
def DecimalTextsUptoCardSaid : Prop := Claim7.holds Tryz.pinned (.plain (OpenSpec.upto decimalTextsSpec)) decimalTextsUptoCard

/-- THE SECOND FORM's CARD OF 'tranchelaw03.DecimalFinite'. -/
def decimalFiniteUptoCard : Claim7 := { stood := { row := decimalFiniteUptoRow, standIns := [], harness := (true, "22801a51c4ab4d0a2ec7764f9a4a1b5484690647260c17ce792237dca2f8fd73"), looks := false }, kinds := [], alts := [], laidByText := true, laidKinds := [.data, .data, .data, .data, .pinned], laidTests := true, laidLooks := .later }
def DecimalFiniteUptoCardSaid : Prop := Claim7.holds Tryz.pinned (.plain (OpenSpec.upto decimalFiniteSpec)) decimalFiniteUptoCard

/-- THE SECOND FORM's CARD OF 'tranchelaw03.DecimalDistance'. -/
def decimalDistanceUptoCard : Claim7 := { stood := { row := decimalDistanceUptoRow, standIns := [], harness := (true, "22801a51c4ab4d0a2ec7764f9a4a1b5484690647260c17ce792237dca2f8fd73"), looks := false }, kinds := [], alts := [], laidByText := true, laidKinds := [.data, .data, .data, .data, .pinned], laidTests := true, laidLooks := .later }
def DecimalDistanceUptoCardSaid : Prop := Claim7.holds Tryz.pinned (.plain (OpenSpec.upto decimalDistanceSpec)) decimalDistanceUptoCard

/-- THE SECOND FORM's CARD OF 'tranchelaw03.DecimalModes'. -/
def decimalModesUptoCard : Claim7 := { stood := { row := decimalModesUptoRow, standIns := [], harness := (true, "22801a51c4ab4d0a2ec7764f9a4a1b5484690647260c17ce792237dca2f8fd73"), looks := false }, kinds := [], alts := [], laidByText := true, laidKinds := [.data, .data, .data, .data, .pinned], laidTests := true, laidLooks := .later }
def DecimalModesUptoCardSaid : Prop := Claim7.holds Tryz.pinned (.plain (OpenSpec.upto decimalModesSpec)) decimalModesUptoCard

/-- THE SECOND FORM's CARD OF 'tranchelaw03.DecimalOrder'. -/
def decimalOrderUptoCard : Claim7 := { stood := { row := decimalOrderUptoRow, standIns := [], harness := (true, "22801a51c4ab4d0a2ec7764f9a4a1b5484690647260c17ce792237dca2f8fd73"), looks := false }, kinds := [], alts := [], laidByText := true, laidKinds := [.data, .data, .data, .data, .pinned], laidTests := true, laidLooks := .later }
def DecimalOrderUptoCardSaid : Prop := Claim7.holds Tryz.pinned (.plain (OpenSpec.upto decimalOrderSpec)) decimalOrderUptoCard

/-- THE SECOND FORM's CARD OF 'tranchelaw03.DecimalRoundTrip'. -/
def decimalRoundTripUptoCard : Claim7 := { stood := { row := decimalRoundTripUptoRow, standIns := [], harness := (true, "22801a51c4ab4d0a2ec7764f9a4a1b5484690647260c17ce792237dca2f8fd73"), looks := false }, kinds := [], alts := [], laidByText := true, laidKinds := [.data, .data, .data, .data, .pinned], laidTests := true, laidLooks := .later }
def DecimalRoundTripUptoCardSaid : Prop := Claim7.holds Tryz.pinned (.plain (OpenSpec.upto decimalRoundTripSpec)) decimalRoundTripUptoCard

/-- THE SECOND FORM's CARD OF 'tranchelaw03.DecimalAccepted'. -/
def decimalAcceptedUptoCard : Claim7 := { stood := { row := decimalAcceptedUptoRow, standIns := [], harness := (true, "22801a51c4ab4d0a2ec7764f9a4a1b5484690647260c17ce792237dca2f8fd73"), looks := false }, kinds := [], alts := [], laidByText := true, laidKinds := [.data, .data, .data, .data, .pinned], laidTests := true, laidLooks := .later }
def DecimalAcceptedUptoCardSaid : Prop := Claim7.holds Tryz.pinned (.plain (OpenSpec.upto decimalAcceptedSpec)) decimalAcceptedUptoCard
end Rows
end Go.Proofs.YtlonbfddhfacmaaGreatDoor
