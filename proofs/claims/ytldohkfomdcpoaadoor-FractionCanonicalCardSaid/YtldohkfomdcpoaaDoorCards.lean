/-
  DERIVED. GIVEN WITH THE SEED: THE CARDS: each row of YtldohkfomdcpoaaDoorRows.lean that lists a variable, with what it lists TIED to the program's text (the seventh form; the later family's looks); each row that meets fmt, with fmt's text TOLD by the authors' own Lean function (tested against real Go, not proved from fmt's source: count such statements apart). THE CARD IS WHAT COUNTS. Prove the row's statement (the work); the ties are given (YtldohkfomdcpoaaDoorTie.lean); close each card by the builder's one call (the guide's Derived/Test/ToyasCard.lean, 'card_holds'). Laid BY PROGRAM, IN A SANDBOX (cutbox-door.mjs). By AI agents, Wed Nov 11 2026. No macro, syntax, notation, axiom, sorry.
-/
import Derived.Test.YtldohkfomdcpoaaDoorRows
import GoSem.ClaimSeven
namespace Go.Proofs.YtldohkfomdcpoaaDoor
namespace Rows

/-- THE TIED CARD OF 'tranchelaw02.FractionField'. -/
def fractionFieldCard : Claim7 := { stood := { row := fractionFieldRow, standIns := [], harness := (true, "6f8091ea65fe69222a1b90a6dad711a0f187e5487bccf4008b736909e95088c4"), looks := false }, kinds := [], alts := [], laidByText := true, laidKinds := [.data, .data, .data, .data, .pinned], laidTests := true, laidLooks := .later }
def FractionFieldCardSaid : Prop := Claim7.holds Tryd.pinned (.plain (OpenSpec.ofChange fractionFieldSpec)) fractionFieldCard

/-- THE TIED CARD OF 'tranchelaw02.FractionOrder'. -/
def fractionOrderCard : Claim7 := { stood := { row := fractionOrderRow, standIns := [], harness := (true, "6f8091ea65fe69222a1b90a6dad711a0f187e5487bccf4008b736909e95088c4"), looks := false }, kinds := [], alts := [], laidByText := true, laidKinds := [.data, .data, .data, .data, .pinned], laidTests := true, laidLooks := .later }
def FractionOrderCardSaid : Prop := Claim7.holds Tryd.pinned (.plain (OpenSpec.ofChange fractionOrderSpec)) fractionOrderCard

/-- THE TIED CARD OF 'tranchelaw02.FractionFloor'. -/
def fractionFloorCard : Claim7 := { stood := { row := fractionFloorRow, standIns := [], harness := (true, "6f8091ea65fe69222a1b90a6dad711a0f187e5487bccf4008b736909e95088c4"), looks := false }, kinds := [], alts := [], laidByText := true, laidKinds := [.data, .data, .data, .data, .pinned], laidTests := true, laidLooks := .later }
def FractionFloorCardSaid : Prop := Claim7.holds Tryd.pinned (.plain (OpenSpec.ofChange fractionFloorSpec)) fractionFloorCard

/-- THE TIED CARD OF 'tranchelaw02.FractionCanonical'. -/
def fractionCanonicalCard : Claim7 := { stood := { row := fractionCanonicalRow, standIns := [], harness := (true, "6f8091ea65fe69222a1b90a6dad711a0f187e5487bccf4008b736909e95088c4"), looks := false }, kinds := [], alts := [], laidByText := true, laidKinds := [.data, .data, .data, .data, .pinned], laidTests := true, laidLooks := .later }
def FractionCanonicalCardSaid : Prop := Claim7.holds Tryd.pinned (.plain (OpenSpec.ofChange fractionCanonicalSpec)) fractionCanonicalCard

/-- THE TIED CARD OF 'tranchelaw02.FractionPowers'. -/
def fractionPowersCard : Claim7 := { stood := { row := fractionPowersRow, standIns := [], harness := (true, "6f8091ea65fe69222a1b90a6dad711a0f187e5487bccf4008b736909e95088c4"), looks := false }, kinds := [], alts := [], laidByText := true, laidKinds := [.data, .data, .data, .data, .pinned], laidTests := true, laidLooks := .later }
def FractionPowersCardSaid : Prop := Claim7.holds Tryd.pinned (.plain (OpenSpec.ofChange fractionPowersSpec)) fractionPowersCard

/-- THE TIED CARD OF 'tranchelaw02.FractionRoundTrip'. -/
def fractionRoundTripCard : Claim7 := { stood := { row := fractionRoundTripRow, standIns := [], harness := (true, "6f8091ea65fe69222a1b90a6dad711a0f187e5487bccf4008b736909e95088c4"), looks := false }, kinds := [], alts := [], laidByText := true, laidKinds := [.data, .data, .data, .data, .pinned], laidTests := true, laidLooks := .later }
def FractionRoundTripCardSaid : Prop := Claim7.holds Tryd.pinned (.plain (OpenSpec.ofChange fractionRoundTripSpec)) fractionRoundTripCard

/-- THE SECOND FORM's CARD OF 'tranchelaw02.FractionField'. -/
def fractionFieldUptoCard : Claim7 := { stood := { row := fractionFieldUptoRow, standIns := [], harness := (true, "6f8091ea65fe69222a1b90a6dad711a0f187e5487bccf4008b736909e95088c4"), looks := false }, kinds := [], alts := [], laidByText := true, laidKinds := [.data, .data, .data, .data, .pinned], laidTests := true, laidLooks := .later }
def FractionFieldUptoCardSaid : Prop := Claim7.holds Tryd.pinned (.plain (OpenSpec.upto fractionFieldSpec)) fractionFieldUptoCard

/-- THE SECOND FORM's CARD OF 'tranchelaw02.FractionOrder'. -/
def fractionOrderUptoCard : Claim7 := { stood := { row := fractionOrderUptoRow, standIns := [], harness := (true, "6f8091ea65fe69222a1b90a6dad711a0f187e5487bccf4008b736909e95088c4"), looks := false }, kinds := [], alts := [], laidByText := true, laidKinds := [.data, .data, .data, .data, .pinned], laidTests := true, laidLooks := .later }
def FractionOrderUptoCardSaid : Prop := Claim7.holds Tryd.pinned (.plain (OpenSpec.upto fractionOrderSpec)) fractionOrderUptoCard

/-- THE SECOND FORM's CARD OF 'tranchelaw02.FractionFloor'. -/
def fractionFloorUptoCard : Claim7 := { stood := { row := fractionFloorUptoRow, standIns := [], harness := (true, "6f8091ea65fe69222a1b90a6dad711a0f187e5487bccf4008b736909e95088c4"), looks := false }, kinds := [], alts := [], laidByText := true, laidKinds := [.data, .data, .data, .data, .pinned], laidTests := true, laidLooks := .later }
def FractionFloorUptoCardSaid : Prop := Claim7.holds Tryd.pinned (.plain (OpenSpec.upto fractionFloorSpec)) fractionFloorUptoCard

/-- THE SECOND FORM's CARD OF 'tranchelaw02.FractionCanonical'. -/
def fractionCanonicalUptoCard : Claim7 := { stood := { row := fractionCanonicalUptoRow, standIns := [], harness := (true, "6f8091ea65fe69222a1b90a6dad711a0f187e5487bccf4008b736909e95088c4"), looks := false }, kinds := [], alts := [], laidByText := true, laidKinds := [.data, .data, .data, .data, .pinned], laidTests := true, laidLooks := .later }
def FractionCanonicalUptoCardSaid : Prop := Claim7.holds Tryd.pinned (.plain (OpenSpec.upto fractionCanonicalSpec)) fractionCanonicalUptoCard

/-- THE SECOND FORM's CARD OF 'tranchelaw02.FractionPowers'. -/
def fractionPowersUptoCard : Claim7 := { stood := { row := fractionPowersUptoRow, standIns := [], harness := (true, "6f8091ea65fe69222a1b90a6dad711a0f187e5487bccf4008b736909e95088c4"), looks := false }, kinds := [], alts := [], laidByText := true, laidKinds := [.data, .data, .data, .data, .pinned], laidTests := true, laidLooks := .later }
def FractionPowersUptoCardSaid : Prop := Claim7.holds Tryd.pinned (.plain (OpenSpec.upto fractionPowersSpec)) fractionPowersUptoCard

/-- THE SECOND FORM's CARD OF 'tranchelaw02.FractionRoundTrip'. -/
def fractionRoundTripUptoCard : Claim7 := { stood := { row := fractionRoundTripUptoRow, standIns := [], harness := (true, "6f8091ea65fe69222a1b90a6dad711a0f187e5487bccf4008b736909e95088c4"), looks := false }, kinds := [], alts := [], laidByText := true, laidKinds := [.data, .data, .data, .data, .pinned], laidTests := true, laidLooks := .later }
def FractionRoundTripUptoCardSaid : Prop := Claim7.holds Tryd.pinned (.plain (OpenSpec.upto fractionRoundTripSpec)) fractionRoundTripUptoCard
end Rows
end Go.Proofs.YtldohkfomdcpoaaDoor
