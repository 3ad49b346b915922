/-
  DERIVED. GIVEN WITH THE SEED: THE CARDS: each row of YtpplpnmammpkpaaDoorRows.lean that lists a variable, with what it lists TIED to the program's text (the seventh form; the later family's looks); each row that meets fmt, with fmt's text TOLD by the authors' own Lean function (tested against real Go, not proved from fmt's source: count such statements apart). THE CARD IS WHAT COUNTS. Prove the row's statement (the work); the ties are given (YtpplpnmammpkpaaDoorTie.lean); close each card by the builder's one call (the guide's Derived/Test/ToyasCard.lean, 'card_holds'). Laid BY PROGRAM, IN A SANDBOX (cutbox-door.mjs). By AI agents, Wed Nov 11 2026. No macro, syntax, notation, axiom, sorry.
-/
import Derived.Test.YtpplpnmammpkpaaDoorRows
import GoSem.ClaimSeven
namespace Go.Proofs.YtpplpnmammpkpaaDoor
namespace Rows

/-- THE TIED CARD OF 'barcarolelaw05.DigestMatchesReference'. -/
def digestMatchesReferenceCard : Claim7 := { stood := { row := digestMatchesReferenceRow, standIns := [], harness := (true, "34ba538062ad92692c91a891ea4f600e7d515d9a16907ac9babfc737502cb6d8"), looks := false }, kinds := [], alts := [], laidByText := true, laidKinds := [.data, .data, .data], laidTests := true, laidLooks := .later }
def DigestMatchesReferenceCardSaid : Prop := Claim7.holds Tryd.pinned (.plain (OpenSpec.ofChange digestMatchesReferenceSpec)) digestMatchesReferenceCard

/-- THE TIED CARD OF 'barcarolelaw05.DigestOneByte'. -/
def digestOneByteCard : Claim7 := { stood := { row := digestOneByteRow, standIns := [], harness := (true, "34ba538062ad92692c91a891ea4f600e7d515d9a16907ac9babfc737502cb6d8"), looks := false }, kinds := [], alts := [], laidByText := true, laidKinds := [.data, .data, .data], laidTests := true, laidLooks := .later }
def DigestOneByteCardSaid : Prop := Claim7.holds Tryd.pinned (.plain (OpenSpec.ofChange digestOneByteSpec)) digestOneByteCard

/-- THE TIED CARD OF 'barcarolelaw05.DigestNumbers'. -/
def digestNumbersCard : Claim7 := { stood := { row := digestNumbersRow, standIns := [], harness := (true, "34ba538062ad92692c91a891ea4f600e7d515d9a16907ac9babfc737502cb6d8"), looks := false }, kinds := [], alts := [], laidByText := true, laidKinds := [.data, .data, .data], laidTests := true, laidLooks := .later }
def DigestNumbersCardSaid : Prop := Claim7.holds Tryd.pinned (.plain (OpenSpec.ofChange digestNumbersSpec)) digestNumbersCard

/-- THE TIED CARD OF 'barcarolelaw05.DigestTree'. -/
def digestTreeCard : Claim7 := { stood := { row := digestTreeRow, standIns := [], harness := (true, "34ba538062ad92692c91a891ea4f600e7d515d9a16907ac9babfc737502cb6d8"), looks := false }, kinds := [], alts := [], laidByText := true, laidKinds := [.data, .data, .data], laidTests := true, laidLooks := .later }
def DigestTreeCardSaid : Prop := Claim7.holds Tryd.pinned (.plain (OpenSpec.ofChange digestTreeSpec)) digestTreeCard

/-- THE TIED CARD OF 'barcarolelaw05.DigestPath'. -/
def digestPathCard : Claim7 := { stood := { row := digestPathRow, standIns := [], harness := (true, "34ba538062ad92692c91a891ea4f600e7d515d9a16907ac9babfc737502cb6d8"), looks := false }, kinds := [], alts := [], laidByText := true, laidKinds := [.data, .data, .data], laidTests := true, laidLooks := .later }
def DigestPathCardSaid : Prop := Claim7.holds Tryd.pinned (.plain (OpenSpec.ofChange digestPathSpec)) digestPathCard

/-- THE TIED CARD OF 'barcarolelaw05.DigestBinding'. -/
def digestBindingCard : Claim7 := { stood := { row := digestBindingRow, standIns := [], harness := (true, "34ba538062ad92692c91a891ea4f600e7d515d9a16907ac9babfc737502cb6d8"), looks := false }, kinds := [], alts := [], laidByText := true, laidKinds := [.data, .data, .data], laidTests := true, laidLooks := .later }
def DigestBindingCardSaid : Prop := Claim7.holds Tryd.pinned (.plain (OpenSpec.ofChange digestBindingSpec)) digestBindingCard

/-- THE TIED CARD OF 'barcarolelaw05.DigestShape'. -/
def digestShapeCard : Claim7 := { stood := { row := digestShapeRow, standIns := [], harness := (true, "34ba538062ad92692c91a891ea4f600e7d515d9a16907ac9babfc737502cb6d8"), looks := false }, kinds := [], alts := [], laidByText := true, laidKinds := [.data, .data, .data], laidTests := true, laidLooks := .later }
def DigestShapeCardSaid : Prop := Claim7.holds Tryd.pinned (.plain (OpenSpec.ofChange digestShapeSpec)) digestShapeCard

/-- THE SECOND FORM's CARD OF 'barcarolelaw05.DigestMatchesReference'. -/
def digestMatchesReferenceUptoCard : Claim7 := { stood := { row := digestMatchesReferenceUptoRow, standIns := [], harness := (true, "34ba538062ad92692c91a891ea4f600e7d515d9a16907ac9babfc737502cb6d8"), looks := false }, kinds := [], alts := [], laidByText := true, laidKinds := [.data, .data, .data], laidTests := true, laidLooks := .later }
def DigestMatchesReferenceUptoCardSaid : Prop := Claim7.holds Tryd.pinned (.plain (OpenSpec.upto digestMatchesReferenceSpec)) digestMatchesReferenceUptoCard

/-- THE SECOND FORM's CARD OF 'barcarolelaw05.DigestOneByte'. -/
def digestOneByteUptoCard : Claim7 := { stood := { row := digestOneByteUptoRow, standIns := [], harness := (true, "34ba538062ad92692c91a891ea4f600e7d515d9a16907ac9babfc737502cb6d8"), looks := false }, kinds := [], alts := [], laidByText := true, laidKinds := [.data, .data, .data], laidTests := true, laidLooks := .later }
def DigestOneByteUptoCardSaid : Prop := Claim7.holds Tryd.pinned (.plain (OpenSpec.upto digestOneByteSpec)) digestOneByteUptoCard

/-- THE SECOND FORM's CARD OF 'barcarolelaw05.DigestNumbers'. -/
def digestNumbersUptoCard : Claim7 := { stood := { row := digestNumbersUptoRow, standIns := [], harness := (true, "34ba538062ad92692c91a891ea4f600e7d515d9a16907ac9babfc737502cb6d8"), looks := false }, kinds := [], alts := [], laidByText := true, laidKinds := [.data, .data, .data], laidTests := true, laidLooks := .later }
def DigestNumbersUptoCardSaid : Prop := Claim7.holds Tryd.pinned (.plain (OpenSpec.upto digestNumbersSpec)) digestNumbersUptoCard

/-- THE SECOND FORM's CARD OF 'barcarolelaw05.DigestTree'. -/
def digestTreeUptoCard : Claim7 := { stood := { row := digestTreeUptoRow, standIns := [], harness := (true, "34ba538062ad92692c91a891ea4f600e7d515d9a16907ac9babfc737502cb6d8"), looks := false }, kinds := [], alts := [], laidByText := true, laidKinds := [.data, .data, .data], laidTests := true, laidLooks := .later }
def DigestTreeUptoCardSaid : Prop := Claim7.holds Tryd.pinned (.plain (OpenSpec.upto digestTreeSpec)) digestTreeUptoCard

/-- THE SECOND FORM's CARD OF 'barcarolelaw05.DigestPath'. -/
def digestPathUptoCard : Claim7 := { stood := { row := digestPathUptoRow, standIns := [], harness := (true, "34ba538062ad92692c91a891ea4f600e7d515d9a16907ac9babfc737502cb6d8"), looks := false }, kinds := [], alts := [], laidByText := true, laidKinds := [.data, .data, .data], laidTests := true, laidLooks := .later }
def DigestPathUptoCardSaid : Prop := Claim7.holds Tryd.pinned (.plain (OpenSpec.upto digestPathSpec)) digestPathUptoCard

/-- THE SECOND FORM's CARD OF 'barcarolelaw05.DigestBinding'. -/
def digestBindingUptoCard : Claim7 := { stood := { row := digestBindingUptoRow, standIns := [], harness := (true, "34ba538062ad92692c91a891ea4f600e7d515d9a16907ac9babfc737502cb6d8"), looks := false }, kinds := [], alts := [], laidByText := true, laidKinds := [.data, .data, .data], laidTests := true, laidLooks := .later }
def DigestBindingUptoCardSaid : Prop := Claim7.holds Tryd.pinned (.plain (OpenSpec.upto digestBindingSpec)) digestBindingUptoCard

/-- THE SECOND FORM's CARD OF 'barcarolelaw05.DigestShape'. -/
def digestShapeUptoCard : Claim7 := { stood := { row := digestShapeUptoRow, standIns := [], harness := (true, "34ba538062ad92692c91a891ea4f600e7d515d9a16907ac9babfc737502cb6d8"), looks := false }, kinds := [], alts := [], laidByText := true, laidKinds := [.data, .data, .data], laidTests := true, laidLooks := .later }
def DigestShapeUptoCardSaid : Prop := Claim7.holds Tryd.pinned (.plain (OpenSpec.upto digestShapeSpec)) digestShapeUptoCard
end Rows
end Go.Proofs.YtpplpnmammpkpaaDoor
