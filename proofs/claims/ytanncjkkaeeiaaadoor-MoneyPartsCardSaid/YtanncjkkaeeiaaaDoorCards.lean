/-
  DERIVED. GIVEN WITH THE SEED: THE CARDS: each row of YtanncjkkaeeiaaaDoorRows.lean that lists a variable, with what it lists TIED to the program's text (the seventh form; the later family's looks); each row that meets fmt, with fmt's text TOLD by the authors' own Lean function (tested against real Go, not proved from fmt's source: count such statements apart). THE CARD IS WHAT COUNTS. Prove the row's statement (the work); the ties are given (YtanncjkkaeeiaaaDoorTie.lean); close each card by the builder's one call (the guide's Derived/Test/ToyasCard.lean, 'card_holds'). Laid BY PROGRAM, IN A SANDBOX (cutbox-door.mjs). By AI agents, Wed Nov 11 2026. No macro, syntax, notation, axiom, sorry.
-/
import Derived.Test.YtanncjkkaeeiaaaDoorRows
import GoSem.ClaimSeven
namespace Go.Proofs.YtanncjkkaeeiaaaDoor
namespace Rows

/-- THE TIED CARD OF 'barcarolelaw02.MoneyAdds'. -/
def moneyAddsCard : Claim7 := { stood := { row := moneyAddsRow, standIns := [], harness := (true, "dc4aecbd2b6451d8d0965358f6307a864042af35f9fc8b07ad5395073ff6d7b7"), looks := true }, kinds := [], alts := [], laidByText := true, laidKinds := [.data, .data, .data, .data], laidTests := true, laidLooks := .later }
def MoneyAddsCardSaid : Prop := Claim7.holds Tryd.pinned (.plain (OpenSpec.ofChange moneyAddsSpec)) moneyAddsCard

/-- THE TIED CARD OF 'barcarolelaw02.MoneyRounds'. -/
def moneyRoundsCard : Claim7 := { stood := { row := moneyRoundsRow, standIns := [], harness := (true, "dc4aecbd2b6451d8d0965358f6307a864042af35f9fc8b07ad5395073ff6d7b7"), looks := true }, kinds := [], alts := [], laidByText := true, laidKinds := [.data, .data, .data, .data], laidTests := true, laidLooks := .later }
def MoneyRoundsCardSaid : Prop := Claim7.holds Tryd.pinned (.plain (OpenSpec.ofChange moneyRoundsSpec)) moneyRoundsCard

/-- THE TIED CARD OF 'barcarolelaw02.MoneyMonotone'. -/
def moneyMonotoneCard : Claim7 := { stood := { row := moneyMonotoneRow, standIns := [], harness := (true, "dc4aecbd2b6451d8d0965358f6307a864042af35f9fc8b07ad5395073ff6d7b7"), looks := true }, kinds := [], alts := [], laidByText := true, laidKinds := [.data, .data, .data, .data], laidTests := true, laidLooks := .later }
def MoneyMonotoneCardSaid : Prop := Claim7.holds Tryd.pinned (.plain (OpenSpec.ofChange moneyMonotoneSpec)) moneyMonotoneCard

/-- THE TIED CARD OF 'barcarolelaw02.MoneyParts'. -/
def moneyPartsCard : Claim7 := { stood := { row := moneyPartsRow, standIns := [], harness := (true, "dc4aecbd2b6451d8d0965358f6307a864042af35f9fc8b07ad5395073ff6d7b7"), looks := true }, kinds := [], alts := [], laidByText := true, laidKinds := [.data, .data, .data, .data], laidTests := true, laidLooks := .later }
def MoneyPartsCardSaid : Prop := Claim7.holds Tryd.pinned (.plain (OpenSpec.ofChange moneyPartsSpec)) moneyPartsCard

/-- THE TIED CARD OF 'barcarolelaw02.MoneyRemainders'. -/
def moneyRemaindersCard : Claim7 := { stood := { row := moneyRemaindersRow, standIns := [], harness := (true, "dc4aecbd2b6451d8d0965358f6307a864042af35f9fc8b07ad5395073ff6d7b7"), looks := true }, kinds := [], alts := [], laidByText := true, laidKinds := [.data, .data, .data, .data], laidTests := true, laidLooks := .later }
def MoneyRemaindersCardSaid : Prop := Claim7.holds Tryd.pinned (.plain (OpenSpec.ofChange moneyRemaindersSpec)) moneyRemaindersCard

/-- THE TIED CARD OF 'barcarolelaw02.MoneyTexts'. -/
def moneyTextsCard : Claim7 := { stood := { row := moneyTextsRow, standIns := [], harness := (true, "dc4aecbd2b6451d8d0965358f6307a864042af35f9fc8b07ad5395073ff6d7b7"), looks := true }, kinds := [], alts := [], laidByText := true, laidKinds := [.data, .data, .data, .sentinel, .sentinel, .data], laidTests := true, laidLooks := .later }
def MoneyTextsCardSaid : Prop := Claim7.holds Tryd.pinned (.plain (OpenSpec.ofChange moneyTextsSpec)) moneyTextsCard

/-- THE TIED CARD OF 'barcarolelaw02.MoneyExchanges'. -/
def moneyExchangesCard : Claim7 := { stood := { row := moneyExchangesRow, standIns := [], harness := (true, "dc4aecbd2b6451d8d0965358f6307a864042af35f9fc8b07ad5395073ff6d7b7"), looks := true }, kinds := [], alts := [], laidByText := true, laidKinds := [.data, .data, .data, .data], laidTests := true, laidLooks := .later }
def MoneyExchangesCardSaid : Prop := Claim7.holds Tryd.pinned (.plain (OpenSpec.ofChange moneyExchangesSpec)) moneyExchangesCard

/-- THE SECOND FORM's CARD OF 'barcarolelaw02.MoneyAdds'. -/
def moneyAddsUptoCard : Claim7 := { stood := { row := moneyAddsUptoRow, standIns := [], harness := (true, "dc4aecbd2b6451d8d0965358f6307a864042af35f9fc8b07ad5395073ff6d7b7"), looks := true }, kinds := [], alts := [], laidByText := true, laidKinds := [.data, .data, .data, .data], laidTests := true, laidLooks := .later }
def MoneyAddsUptoCardSaid : Prop := Claim7.holds Tryd.pinned (.plain (OpenSpec.upto moneyAddsSpec)) moneyAddsUptoCard

/-- THE SECOND FORM's CARD OF 'barcarolelaw02.MoneyRounds'. -/
def moneyRoundsUptoCard : Claim7 := { stood := { row := moneyRoundsUptoRow, standIns := [], harness := (true, "dc4aecbd2b6451d8d0965358f6307a864042af35f9fc8b07ad5395073ff6d7b7"), looks := true }, kinds := [], alts := [], laidByText := true, laidKinds := [.data, .data, .data, .data], laidTests := true, laidLooks := .later }
def MoneyRoundsUptoCardSaid : Prop := Claim7.holds Tryd.pinned (.plain (OpenSpec.upto moneyRoundsSpec)) moneyRoundsUptoCard

/-- THE SECOND FORM's CARD OF 'barcarolelaw02.MoneyMonotone'. -/
def moneyMonotoneUptoCard : Claim7 := { stood := { row := moneyMonotoneUptoRow, standIns := [], harness := (true, "dc4aecbd2b6451d8d0965358f6307a864042af35f9fc8b07ad5395073ff6d7b7"), looks := true }, kinds := [], alts := [], laidByText := true, laidKinds := [.data, .data, .data, .data], laidTests := true, laidLooks := .later }
def MoneyMonotoneUptoCardSaid : Prop := Claim7.holds Tryd.pinned (.plain (OpenSpec.upto moneyMonotoneSpec)) moneyMonotoneUptoCard

/-- THE SECOND FORM's CARD OF 'barcarolelaw02.MoneyParts'. -/
def moneyPartsUptoCard : Claim7 := { stood := { row := moneyPartsUptoRow, standIns := [], harness := (true, "dc4aecbd2b6451d8d0965358f6307a864042af35f9fc8b07ad5395073ff6d7b7"), looks := true }, kinds := [], alts := [], laidByText := true, laidKinds := [.data, .data, .data, .data], laidTests := true, laidLooks := .later }
def MoneyPartsUptoCardSaid : Prop := Claim7.holds Tryd.pinned (.plain (OpenSpec.upto moneyPartsSpec)) moneyPartsUptoCard

/-- THE SECOND FORM's CARD OF 'barcarolelaw02.MoneyRemainders'. -/
def moneyRemaindersUptoCard : Claim7 := { stood := { row := moneyRemaindersUptoRow, standIns := [], harness := (true, "dc4aecbd2b6451d8d0965358f6307a864042af35f9fc8b07ad5395073ff6d7b7"), looks := true }, kinds := [], alts := [], laidByText := true, laidKinds := [.data, .data, .data, .data], laidTests := true, laidLooks := .later }
def MoneyRemaindersUptoCardSaid : Prop := Claim7.holds Tryd.pinned (.plain (OpenSpec.upto moneyRemaindersSpec)) moneyRemaindersUptoCard

/-- THE SECOND FORM's CARD OF 'barcarolelaw02.MoneyTexts'. -/
def moneyTextsUptoCard : Claim7 := { stood := { row := moneyTextsUptoRow, standIns := [], harness := (true, "dc4aecbd2b6451d8d0965358f6307a864042af35f9fc8b07ad5395073ff6d7b7"), looks := true }, kinds := [], alts := [], laidByText := true, laidKinds := [.data, .data, .data, .sentinel, .sentinel, .data], laidTests := true, laidLooks := .later }
def MoneyTextsUptoCardSaid : Prop := Claim7.holds Tryd.pinned (.plain (OpenSpec.upto moneyTextsSpec)) moneyTextsUptoCard

/-- THE SECOND FORM's CARD OF 'barcarolelaw02.MoneyExchanges'. -/
def moneyExchangesUptoCard : Claim7 := { stood := { row := moneyExchangesUptoRow, standIns := [], harness := (true, "dc4aecbd2b6451d8d0965358f6307a864042af35f9fc8b07ad5395073ff6d7b7"), looks := true }, kinds := [], alts := [], laidByText := true, laidKinds := [.data, .data, .data, .data], laidTests := true, laidLooks := .later }
def MoneyExchangesUptoCardSaid : Prop := Claim7.holds Tryd.pinned (.plain (OpenSpec.upto moneyExchangesSpec)) moneyExchangesUptoCard
end Rows
end Go.Proofs.YtanncjkkaeeiaaaDoor
