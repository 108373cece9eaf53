/-
  DERIVED. GIVEN WITH THE SEED: THE CARDS: each row of YtahnkmkmoalbhaaGreatDoorRows.lean that lists a variable, with what it lists TIED to the program's text (the seventh form; the later family's looks); each row that meets fmt, with fmt's text TOLD by the authors' own Lean function (tested against real Go, not proved from fmt's source: count such statements apart). THE CARD IS WHAT COUNTS. Prove the row's statement (the work); the ties are given (YtahnkmkmoalbhaaGreatDoorTie.lean); close each card by the builder's one call (the guide's Derived/Test/ToyasCard.lean, 'card_holds'). Laid BY PROGRAM, IN A SANDBOX (cutbox-door.mjs). By AI agents, Wed Nov 11 2026. No macro, syntax, notation, axiom, sorry.
-/
import Derived.Test.YtahnkmkmoalbhaaGreatDoorRows
import GoSem.ClaimSeven
namespace Go.Proofs.YtahnkmkmoalbhaaGreatDoor
namespace Rows

/-- THE TIED CARD OF 'tranchelaw05.MoneyTables'. -/
def moneyTablesCard : Claim7 := { stood := { row := moneyTablesRow, standIns := [], harness := (true, "9c88ab06f048ac61de1c7675a325b28948a48c568467b3bbdd8b38af9966051e"), looks := false }, kinds := [], alts := [], laidByText := true, laidKinds := [.data, .data, .data, .data, .pinned], laidTests := true, laidLooks := .later }
def MoneyTablesCardSaid : Prop := Claim7.holds Tryz.pinned (.plain (OpenSpec.ofChange moneyTablesSpec)) moneyTablesCard

/-- THE TIED CARD OF 'tranchelaw05.MoneyBags'. -/
def moneyBagsCard : Claim7 := { stood := { row := moneyBagsRow, standIns := [], harness := (true, "9c88ab06f048ac61de1c7675a325b28948a48c568467b3bbdd8b38af9966051e"), looks := false }, kinds := [], alts := [], laidByText := true, laidKinds := [.data, .data, .data, .data, .pinned], laidTests := true, laidLooks := .later }
def MoneyBagsCardSaid : Prop := Claim7.holds Tryz.pinned (.plain (OpenSpec.ofChange moneyBagsSpec)) moneyBagsCard

/-- THE TIED CARD OF 'tranchelaw05.MoneySums'. -/
def moneySumsCard : Claim7 := { stood := { row := moneySumsRow, standIns := [], harness := (true, "9c88ab06f048ac61de1c7675a325b28948a48c568467b3bbdd8b38af9966051e"), looks := false }, kinds := [], alts := [], laidByText := true, laidKinds := [.data, .data, .data, .data, .pinned], laidTests := true, laidLooks := .later }
def MoneySumsCardSaid : Prop := Claim7.holds Tryz.pinned (.plain (OpenSpec.ofChange moneySumsSpec)) moneySumsCard

/-- THE TIED CARD OF 'tranchelaw05.MoneyReads'. -/
def moneyReadsCard : Claim7 := { stood := { row := moneyReadsRow, standIns := [], harness := (true, "9c88ab06f048ac61de1c7675a325b28948a48c568467b3bbdd8b38af9966051e"), looks := false }, kinds := [], alts := [], laidByText := true, laidKinds := [.data, .data, .data, .data, .pinned], laidTests := true, laidLooks := .later }
def MoneyReadsCardSaid : Prop := Claim7.holds Tryz.pinned (.plain (OpenSpec.ofChange moneyReadsSpec)) moneyReadsCard

/-- THE TIED CARD OF 'tranchelaw05.MoneyGroup'. -/
def moneyGroupCard : Claim7 := { stood := { row := moneyGroupRow, standIns := [], harness := (true, "9c88ab06f048ac61de1c7675a325b28948a48c568467b3bbdd8b38af9966051e"), looks := false }, kinds := [], alts := [], laidByText := true, laidKinds := [.data, .data, .data, .data, .pinned], laidTests := true, laidLooks := .later }
def MoneyGroupCardSaid : Prop := Claim7.holds Tryz.pinned (.plain (OpenSpec.ofChange moneyGroupSpec)) moneyGroupCard

/-- THE TIED CARD OF 'tranchelaw05.MoneyAmounts'. -/
def moneyAmountsCard : Claim7 := { stood := { row := moneyAmountsRow, standIns := [], harness := (true, "9c88ab06f048ac61de1c7675a325b28948a48c568467b3bbdd8b38af9966051e"), looks := false }, kinds := [], alts := [], laidByText := true, laidKinds := [.data, .data, .data, .data, .pinned], laidTests := true, laidLooks := .later }
def MoneyAmountsCardSaid : Prop := Claim7.holds Tryz.pinned (.plain (OpenSpec.ofChange moneyAmountsSpec)) moneyAmountsCard

/-- THE TIED CARD OF 'tranchelaw05.MoneyPuts'. -/
def moneyPutsCard : Claim7 := { stood := { row := moneyPutsRow, standIns := [], harness := (true, "9c88ab06f048ac61de1c7675a325b28948a48c568467b3bbdd8b38af9966051e"), looks := false }, kinds := [], alts := [], laidByText := true, laidKinds := [.data, .data, .data, .data, .pinned], laidTests := true, laidLooks := .later }
def MoneyPutsCardSaid : Prop := Claim7.holds Tryz.pinned (.plain (OpenSpec.ofChange moneyPutsSpec)) moneyPutsCard

/-- THE TIED CARD OF 'tranchelaw05.MoneyTexts'. -/
def moneyTextsCard : Claim7 := { stood := { row := moneyTextsRow, standIns := [], harness := (true, "9c88ab06f048ac61de1c7675a325b28948a48c568467b3bbdd8b38af9966051e"), looks := false }, kinds := [], alts := [], laidByText := true, laidKinds := [.data, .data, .data, .data, .pinned], laidTests := true, laidLooks := .later }
def MoneyTextsCardSaid : Prop := Claim7.holds Tryz.pinned (.plain (OpenSpec.ofChange moneyTextsSpec)) moneyTextsCard

/-- THE TIED CARD OF 'tranchelaw05.MoneyFound'. -/
def moneyFoundCard : Claim7 := { stood := { row := moneyFoundRow, standIns := [], harness := (true, "9c88ab06f048ac61de1c7675a325b28948a48c568467b3bbdd8b38af9966051e"), looks := false }, kinds := [], alts := [], laidByText := true, laidKinds := [.data, .data, .data, .data, .pinned], laidTests := true, laidLooks := .later }
def MoneyFoundCardSaid : Prop := Claim7.holds Tryz.pinned (.plain (OpenSpec.ofChange moneyFoundSpec)) moneyFoundCard

/-- THE SECOND FORM's CARD OF 'tranchelaw05.MoneyTables'. -/
def moneyTablesUptoCard : Claim7 := { stood := { row := moneyTablesUptoRow, standIns := [], harness := (true, "9c88ab06f048ac61de1c7675a325b28948a48c568467b3bbdd8b38af9966051e"), looks := false }, kinds := [], alts := [], laidByText := true, laidKinds := [.data, .data, .data, .data, .pinned], laidTests := true, laidLooks := .later }
def MoneyTablesUptoCardSaid : Prop := Claim7.holds Tryz.pinned (.plain (OpenSpec.upto moneyTablesSpec)) moneyTablesUptoCard

/-- THE SECOND FORM's CARD OF 'tranchelaw05.MoneyBags'. -/
def moneyBagsUptoCard : Claim7 := { stood := { row := moneyBagsUptoRow, standIns := [], harness := (true, "9c88ab06f048ac61de1c7675a325b28948a48c568467b3bbdd8b38af9966051e"), looks := false }, kinds := [], alts := [], laidByText := true, laidKinds := [.data, .data, .data, .data, .pinned], laidTests := true, laidLooks := .later }
def MoneyBagsUptoCardSaid : Prop := Claim7.holds Tryz.pinned (.plain (OpenSpec.upto moneyBagsSpec)) moneyBagsUptoCard

/-- THE SECOND FORM's CARD OF 'tranchelaw05.MoneySums'. -/
def moneySumsUptoCard : Claim7 := { stood := { row := moneySumsUptoRow, standIns := [], harness := (true, "9c88ab06f048ac61de1c7675a325b28948a48c568467b3bbdd8b38af9966051e"), looks := false }, kinds := [], alts := [], laidByText := true, laidKinds := [.data, .data, .data, .data, .pinned], laidTests := true, laidLooks := .later }
def MoneySumsUptoCardSaid : Prop := Claim7.holds Tryz.pinned (.plain (OpenSpec.upto moneySumsSpec)) moneySumsUptoCard

/-- THE SECOND FORM's CARD OF 'tranchelaw05.MoneyReads'. -/
def moneyReadsUptoCard : Claim7 := { stood := { row := moneyReadsUptoRow, standIns := [], harness := (true, "9c88ab06f048ac61de1c7675a325b28948a48c568467b3bbdd8b38af9966051e"), looks := false }, kinds := [], alts := [], laidByText := true, laidKinds := [.data, .data, .data, .data, .pinned], laidTests := true, laidLooks := .later }
def MoneyReadsUptoCardSaid : Prop := Claim7.holds Tryz.pinned (.plain (OpenSpec.upto moneyReadsSpec)) moneyReadsUptoCard

/-- THE SECOND FORM's CARD OF 'tranchelaw05.MoneyGroup'. -/
def moneyGroupUptoCard : Claim7 := { stood := { row := moneyGroupUptoRow, standIns := [], harness := (true, "9c88ab06f048ac61de1c7675a325b28948a48c568467b3bbdd8b38af9966051e"), looks := false }, kinds := [], alts := [], laidByText := true, laidKinds := [.data, .data, .data, .data, .pinned], laidTests := true, laidLooks := .later }
def MoneyGroupUptoCardSaid : Prop := Claim7.holds Tryz.pinned (.plain (OpenSpec.upto moneyGroupSpec)) moneyGroupUptoCard

/-- THE SECOND FORM's CARD OF 'tranchelaw05.MoneyAmounts'. -/
def moneyAmountsUptoCard : Claim7 := { stood := { row := moneyAmountsUptoRow, standIns := [], harness := (true, "9c88ab06f048ac61de1c7675a325b28948a48c568467b3bbdd8b38af9966051e"), looks := false }, kinds := [], alts := [], laidByText := true, laidKinds := [.data, .data, .data, .data, .pinned], laidTests := true, laidLooks := .later }
def MoneyAmountsUptoCardSaid : Prop := Claim7.holds Tryz.pinned (.plain (OpenSpec.upto moneyAmountsSpec)) moneyAmountsUptoCard

/-- THE SECOND FORM's CARD OF 'tranchelaw05.MoneyPuts'. -/
def moneyPutsUptoCard : Claim7 := { stood := { row := moneyPutsUptoRow, standIns := [], harness := (true, "9c88ab06f048ac61de1c7675a325b28948a48c568467b3bbdd8b38af9966051e"), looks := false }, kinds := [], alts := [], laidByText := true, laidKinds := [.data, .data, .data, .data, .pinned], laidTests := true, laidLooks := .later }
def MoneyPutsUptoCardSaid : Prop := Claim7.holds Tryz.pinned (.plain (OpenSpec.upto moneyPutsSpec)) moneyPutsUptoCard

/-- THE SECOND FORM's CARD OF 'tranchelaw05.MoneyTexts'. -/
def moneyTextsUptoCard : Claim7 := { stood := { row := moneyTextsUptoRow, standIns := [], harness := (true, "9c88ab06f048ac61de1c7675a325b28948a48c568467b3bbdd8b38af9966051e"), looks := false }, kinds := [], alts := [], laidByText := true, laidKinds := [.data, .data, .data, .data, .pinned], laidTests := true, laidLooks := .later }
def MoneyTextsUptoCardSaid : Prop := Claim7.holds Tryz.pinned (.plain (OpenSpec.upto moneyTextsSpec)) moneyTextsUptoCard

/-- THE SECOND FORM's CARD OF 'tranchelaw05.MoneyFound'. -/
def moneyFoundUptoCard : Claim7 := { stood := { row := moneyFoundUptoRow, standIns := [], harness := (true, "9c88ab06f048ac61de1c7675a325b28948a48c568467b3bbdd8b38af9966051e"), looks := false }, kinds := [], alts := [], laidByText := true, laidKinds := [.data, .data, .data, .data, .pinned], laidTests := true, laidLooks := .later }
def MoneyFoundUptoCardSaid : Prop := Claim7.holds Tryz.pinned (.plain (OpenSpec.upto moneyFoundSpec)) moneyFoundUptoCard
end Rows
end Go.Proofs.YtahnkmkmoalbhaaGreatDoor
