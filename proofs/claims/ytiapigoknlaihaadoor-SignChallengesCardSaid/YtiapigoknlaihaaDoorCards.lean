/-
  DERIVED. GIVEN WITH THE SEED: THE CARDS: each row of YtiapigoknlaihaaDoorRows.lean that lists a variable, with what it lists TIED to the program's text (the seventh form; the later family's looks); each row that meets fmt, with fmt's text TOLD by the authors' own Lean function (tested against real Go, not proved from fmt's source: count such statements apart). THE CARD IS WHAT COUNTS. Prove the row's statement (the work); the ties are given (YtiapigoknlaihaaDoorTie.lean); close each card by the builder's one call (the guide's Derived/Test/ToyasCard.lean, 'card_holds'). Laid BY PROGRAM, IN A SANDBOX (cutbox-door.mjs). By AI agents, Wed Nov 11 2026. No macro, syntax, notation, axiom, sorry.
-/
import Derived.Test.YtiapigoknlaihaaDoorRows
import GoSem.ClaimSeven
namespace Go.Proofs.YtiapigoknlaihaaDoor
namespace Rows

/-- THE TIED CARD OF 'barcarolelaw06.SignMatchesReference'. -/
def signMatchesReferenceCard : Claim7 := { stood := { row := signMatchesReferenceRow, standIns := [], harness := (true, "c926c8c5c7b96bf2f1df4d6dae30572ee5eda27a0cb03b69d7a41b42e98ce972"), looks := false }, kinds := [], alts := [], laidByText := true, laidKinds := [.data, .data, .data], laidTests := true, laidLooks := .later }
def SignMatchesReferenceCardSaid : Prop := Claim7.holds Tryd.pinned (.plain (OpenSpec.ofChange signMatchesReferenceSpec)) signMatchesReferenceCard

/-- THE TIED CARD OF 'barcarolelaw06.SignRight'. -/
def signRightCard : Claim7 := { stood := { row := signRightRow, standIns := [], harness := (true, "c926c8c5c7b96bf2f1df4d6dae30572ee5eda27a0cb03b69d7a41b42e98ce972"), looks := false }, kinds := [], alts := [], laidByText := true, laidKinds := [.data, .data, .data], laidTests := true, laidLooks := .later }
def SignRightCardSaid : Prop := Claim7.holds Tryd.pinned (.plain (OpenSpec.ofChange signRightSpec)) signRightCard

/-- THE TIED CARD OF 'barcarolelaw06.SignChallenges'. -/
def signChallengesCard : Claim7 := { stood := { row := signChallengesRow, standIns := [], harness := (true, "c926c8c5c7b96bf2f1df4d6dae30572ee5eda27a0cb03b69d7a41b42e98ce972"), looks := false }, kinds := [], alts := [], laidByText := true, laidKinds := [.data, .data, .data], laidTests := true, laidLooks := .later }
def SignChallengesCardSaid : Prop := Claim7.holds Tryd.pinned (.plain (OpenSpec.ofChange signChallengesSpec)) signChallengesCard

/-- THE TIED CARD OF 'barcarolelaw06.SignOnce'. -/
def signOnceCard : Claim7 := { stood := { row := signOnceRow, standIns := [], harness := (true, "c926c8c5c7b96bf2f1df4d6dae30572ee5eda27a0cb03b69d7a41b42e98ce972"), looks := false }, kinds := [], alts := [], laidByText := true, laidKinds := [.data, .data, .data], laidTests := true, laidLooks := .later }
def SignOnceCardSaid : Prop := Claim7.holds Tryd.pinned (.plain (OpenSpec.ofChange signOnceSpec)) signOnceCard

/-- THE TIED CARD OF 'barcarolelaw06.SignSecrets'. -/
def signSecretsCard : Claim7 := { stood := { row := signSecretsRow, standIns := [], harness := (true, "c926c8c5c7b96bf2f1df4d6dae30572ee5eda27a0cb03b69d7a41b42e98ce972"), looks := false }, kinds := [], alts := [], laidByText := true, laidKinds := [.data, .data, .data], laidTests := true, laidLooks := .later }
def SignSecretsCardSaid : Prop := Claim7.holds Tryd.pinned (.plain (OpenSpec.ofChange signSecretsSpec)) signSecretsCard

/-- THE TIED CARD OF 'barcarolelaw06.SignSums'. -/
def signSumsCard : Claim7 := { stood := { row := signSumsRow, standIns := [], harness := (true, "c926c8c5c7b96bf2f1df4d6dae30572ee5eda27a0cb03b69d7a41b42e98ce972"), looks := false }, kinds := [], alts := [], laidByText := true, laidKinds := [.data, .data, .data], laidTests := true, laidLooks := .later }
def SignSumsCardSaid : Prop := Claim7.holds Tryd.pinned (.plain (OpenSpec.ofChange signSumsSpec)) signSumsCard

/-- THE TIED CARD OF 'barcarolelaw06.SignNumbers'. -/
def signNumbersCard : Claim7 := { stood := { row := signNumbersRow, standIns := [], harness := (true, "c926c8c5c7b96bf2f1df4d6dae30572ee5eda27a0cb03b69d7a41b42e98ce972"), looks := false }, kinds := [], alts := [], laidByText := true, laidKinds := [.data, .data, .data], laidTests := true, laidLooks := .later }
def SignNumbersCardSaid : Prop := Claim7.holds Tryd.pinned (.plain (OpenSpec.ofChange signNumbersSpec)) signNumbersCard

/-- THE SECOND FORM's CARD OF 'barcarolelaw06.SignMatchesReference'. -/
def signMatchesReferenceUptoCard : Claim7 := { stood := { row := signMatchesReferenceUptoRow, standIns := [], harness := (true, "c926c8c5c7b96bf2f1df4d6dae30572ee5eda27a0cb03b69d7a41b42e98ce972"), looks := false }, kinds := [], alts := [], laidByText := true, laidKinds := [.data, .data, .data], laidTests := true, laidLooks := .later }
def SignMatchesReferenceUptoCardSaid : Prop := Claim7.holds Tryd.pinned (.plain (OpenSpec.upto signMatchesReferenceSpec)) signMatchesReferenceUptoCard

/-- THE SECOND FORM's CARD OF 'barcarolelaw06.SignRight'. -/
def signRightUptoCard : Claim7 := { stood := { row := signRightUptoRow, standIns := [], harness := (true, "c926c8c5c7b96bf2f1df4d6dae30572ee5eda27a0cb03b69d7a41b42e98ce972"), looks := false }, kinds := [], alts := [], laidByText := true, laidKinds := [.data, .data, .data], laidTests := true, laidLooks := .later }
def SignRightUptoCardSaid : Prop := Claim7.holds Tryd.pinned (.plain (OpenSpec.upto signRightSpec)) signRightUptoCard

/-- THE SECOND FORM's CARD OF 'barcarolelaw06.SignChallenges'. -/
def signChallengesUptoCard : Claim7 := { stood := { row := signChallengesUptoRow, standIns := [], harness := (true, "c926c8c5c7b96bf2f1df4d6dae30572ee5eda27a0cb03b69d7a41b42e98ce972"), looks := false }, kinds := [], alts := [], laidByText := true, laidKinds := [.data, .data, .data], laidTests := true, laidLooks := .later }
def SignChallengesUptoCardSaid : Prop := Claim7.holds Tryd.pinned (.plain (OpenSpec.upto signChallengesSpec)) signChallengesUptoCard

/-- THE SECOND FORM's CARD OF 'barcarolelaw06.SignOnce'. -/
def signOnceUptoCard : Claim7 := { stood := { row := signOnceUptoRow, standIns := [], harness := (true, "c926c8c5c7b96bf2f1df4d6dae30572ee5eda27a0cb03b69d7a41b42e98ce972"), looks := false }, kinds := [], alts := [], laidByText := true, laidKinds := [.data, .data, .data], laidTests := true, laidLooks := .later }
def SignOnceUptoCardSaid : Prop := Claim7.holds Tryd.pinned (.plain (OpenSpec.upto signOnceSpec)) signOnceUptoCard

/-- THE SECOND FORM's CARD OF 'barcarolelaw06.SignSecrets'. -/
def signSecretsUptoCard : Claim7 := { stood := { row := signSecretsUptoRow, standIns := [], harness := (true, "c926c8c5c7b96bf2f1df4d6dae30572ee5eda27a0cb03b69d7a41b42e98ce972"), looks := false }, kinds := [], alts := [], laidByText := true, laidKinds := [.data, .data, .data], laidTests := true, laidLooks := .later }
def SignSecretsUptoCardSaid : Prop := Claim7.holds Tryd.pinned (.plain (OpenSpec.upto signSecretsSpec)) signSecretsUptoCard

/-- THE SECOND FORM's CARD OF 'barcarolelaw06.SignSums'. -/
def signSumsUptoCard : Claim7 := { stood := { row := signSumsUptoRow, standIns := [], harness := (true, "c926c8c5c7b96bf2f1df4d6dae30572ee5eda27a0cb03b69d7a41b42e98ce972"), looks := false }, kinds := [], alts := [], laidByText := true, laidKinds := [.data, .data, .data], laidTests := true, laidLooks := .later }
def SignSumsUptoCardSaid : Prop := Claim7.holds Tryd.pinned (.plain (OpenSpec.upto signSumsSpec)) signSumsUptoCard

/-- THE SECOND FORM's CARD OF 'barcarolelaw06.SignNumbers'. -/
def signNumbersUptoCard : Claim7 := { stood := { row := signNumbersUptoRow, standIns := [], harness := (true, "c926c8c5c7b96bf2f1df4d6dae30572ee5eda27a0cb03b69d7a41b42e98ce972"), looks := false }, kinds := [], alts := [], laidByText := true, laidKinds := [.data, .data, .data], laidTests := true, laidLooks := .later }
def SignNumbersUptoCardSaid : Prop := Claim7.holds Tryd.pinned (.plain (OpenSpec.upto signNumbersSpec)) signNumbersUptoCard
end Rows
end Go.Proofs.YtiapigoknlaihaaDoor
