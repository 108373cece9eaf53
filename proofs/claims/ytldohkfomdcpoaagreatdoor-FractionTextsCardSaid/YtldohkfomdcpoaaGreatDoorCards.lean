/-
  DERIVED. GIVEN WITH THE SEED: THE CARDS: each row of YtldohkfomdcpoaaGreatDoorRows.lean that lists a variable, with what it lists TIED to the program's text (the seventh form; the later family's looks); each row that meets fmt, with fmt's text TOLD by the authors' own Lean function (tested against real Go, not proved from fmt's source: count such statements apart). THE CARD IS WHAT COUNTS. Prove the row's statement (the work); the ties are given (YtldohkfomdcpoaaGreatDoorTie.lean); close each card by the builder's one call (the guide's Derived/Test/ToyasCard.lean, 'card_holds'). Laid BY PROGRAM, IN A SANDBOX (cutbox-door.mjs). By AI agents, Wed Nov 11 2026. No macro, syntax, notation, axiom, sorry.
-/
import Derived.Test.YtldohkfomdcpoaaGreatDoorRows
import GoSem.ClaimSeven
namespace Go.Proofs.YtldohkfomdcpoaaGreatDoor
namespace Rows

/-- THE TIED CARD OF 'tranchelaw02.FractionReads'. -/
def fractionReadsCard : Claim7 := { stood := { row := fractionReadsRow, standIns := [], harness := (true, "8537267487844df2c49425102579bedb9892de2b1becb6ed87cde90c58e468e3"), looks := false }, kinds := [], alts := [], laidByText := true, laidKinds := [.data, .data, .data, .data, .pinned], laidTests := true, laidLooks := .later }
def FractionReadsCardSaid : Prop := Claim7.holds Tryz.pinned (.plain (OpenSpec.ofChange fractionReadsSpec)) fractionReadsCard

/-- THE TIED CARD OF 'tranchelaw02.FractionArithmetic'. -/
def fractionArithmeticCard : Claim7 := { stood := { row := fractionArithmeticRow, standIns := [], harness := (true, "8537267487844df2c49425102579bedb9892de2b1becb6ed87cde90c58e468e3"), looks := false }, kinds := [], alts := [], laidByText := true, laidKinds := [.data, .data, .data, .data, .pinned], laidTests := true, laidLooks := .later }
def FractionArithmeticCardSaid : Prop := Claim7.holds Tryz.pinned (.plain (OpenSpec.ofChange fractionArithmeticSpec)) fractionArithmeticCard

/-- THE TIED CARD OF 'tranchelaw02.FractionTexts'. -/
def fractionTextsCard : Claim7 := { stood := { row := fractionTextsRow, standIns := [], harness := (true, "8537267487844df2c49425102579bedb9892de2b1becb6ed87cde90c58e468e3"), looks := false }, kinds := [], alts := [], laidByText := true, laidKinds := [.data, .data, .data, .data, .pinned], laidTests := true, laidLooks := .later }
def FractionTextsCardSaid : Prop := Claim7.holds Tryz.pinned (.plain (OpenSpec.ofChange fractionTextsSpec)) fractionTextsCard

/-- THE SECOND FORM's CARD OF 'tranchelaw02.FractionReads'. -/
def fractionReadsUptoCard : Claim7 := { stood := { row := fractionReadsUptoRow, standIns := [], harness := (true, "8537267487844df2c49425102579bedb9892de2b1becb6ed87cde90c58e468e3"), looks := false }, kinds := [], alts := [], laidByText := true, laidKinds := [.data, .data, .data, .data, .pinned], laidTests := true, laidLooks := .later }
def FractionReadsUptoCardSaid : Prop := Claim7.holds Tryz.pinned (.plain (OpenSpec.upto fractionReadsSpec)) fractionReadsUptoCard

/-- THE SECOND FORM's CARD OF 'tranchelaw02.FractionArithmetic'. -/
def fractionArithmeticUptoCard : Claim7 := { stood := { row := fractionArithmeticUptoRow, standIns := [], harness := (true, "8537267487844df2c49425102579bedb9892de2b1becb6ed87cde90c58e468e3"), looks := false }, kinds := [], alts := [], laidByText := true, laidKinds := [.data, .data, .data, .data, .pinned], laidTests := true, laidLooks := .later }
def FractionArithmeticUptoCardSaid : Prop := Claim7.holds Tryz.pinned (.plain (OpenSpec.upto fractionArithmeticSpec)) fractionArithmeticUptoCard

/-- THE SECOND FORM's CARD OF 'tranchelaw02.FractionTexts'. -/
def fractionTextsUptoCard : Claim7 := { stood := { row := fractionTextsUptoRow, standIns := [], harness := (true, "8537267487844df2c49425102579bedb9892de2b1becb6ed87cde90c58e468e3"), looks := false }, kinds := [], alts := [], laidByText := true, laidKinds := [.data, .data, .data, .data, .pinned], laidTests := true, laidLooks := .later }
def FractionTextsUptoCardSaid : Prop := Claim7.holds Tryz.pinned (.plain (OpenSpec.upto fractionTextsSpec)) fractionTextsUptoCard
end Rows
end Go.Proofs.YtldohkfomdcpoaaGreatDoor
