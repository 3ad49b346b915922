/-
  No cell of these rows narrows 'for every input' (looked for: loops, veiled, ifaces, maps, wideKeys, modest, calm, conditions, laid).
  DERIVED. THE GIVEN ROWS OF THIS SEAT. 6 by the template 'for every input the law returns true; each argument reads behind the call as it read before'; 0 by the template 'total and deterministic' (their statements: YtdkofonneebciaaTotals.lean).
  GIVEN WITH THE SEED: the statements are not yours to turn. If you find one false, say at which input.
  Laid BY PROGRAM, IN A SANDBOX (cutbox-rows.mjs): the forced cells as the released guide's own fill.sh prints them over the translation b8116348149b7799… (all of the seat's roots in one cut). By AI agents, Wed Nov 11 2026. No macro, syntax, notation, axiom, sorry.
-/
import Derived.Test.YtdkofonneebciaaChecked
import GoSem.Claim
import GoSem.ClaimJoined
import GoSem.ClaimMapViews
import Derived.JoinedTies
import Derived.KernelRfl
namespace Go.Proofs.Ytdkofonneebciaa
/- THE CELL 'sum', in the pinned program and in every row, IS THE sha256 OF THE DUMP (.gsa) THAT YtdkofonneebciaaProg.lean LOADS. Nothing in Lean hashes anything: it is a label: what it is worth is what the hold of that sum in a sandbox is worth. -/
noncomputable def Try.pinned : Pinned := { name := "ytdkofonneebciaa", sum := "b8116348149b7799b71cf8d8c2bd212d4d41515d71e2ff8770cf1ae70080139d", checked := Try.checked }
namespace Rows
def none {H : Type} : Left H := { results := [], args := [] }

/-- 'barcarolelaw07.VectorMatchesReference': WHATEVER THE INPUT: true; the input reads as it did. -/
def vectorMatchesReferenceSpec : ChangeSpec := { name := "vectorMatchesReference", fn := fun _ => fun
  | [d1, d2, d3, d4, d5, d6] => { results := [.lit (.bool true)], args := [d1, d2, d3, d4, d5, d6] }
  | _ => none }
def vectorMatchesReferenceRow : OpenClaim := { program := "ytdkofonneebciaa", sum := "b8116348149b7799b71cf8d8c2bd212d4d41515d71e2ff8770cf1ae70080139d", func := "barcarole/barcarolelaw07.VectorMatchesReference", spec := "vectorMatchesReference", unfollowed := true, recurses := true, apart := false }
def VectorMatchesReferenceSaid : Prop := vectorMatchesReferenceRow.holds Try.pinned (OpenSpec.ofChange vectorMatchesReferenceSpec)

/-- ITS FALSE NEIGHBOUR: 'it returns false'. Refute it at one input. -/
def vectorMatchesReferenceWrong : ChangeSpec := { name := "vectorMatchesReference", fn := fun _ => fun
  | [d1, d2, d3, d4, d5, d6] => { results := [.lit (.bool false)], args := [d1, d2, d3, d4, d5, d6] }
  | _ => none }
def VectorMatchesReferenceWrongFalsely : Prop := vectorMatchesReferenceRow.holds Try.pinned (OpenSpec.ofChange vectorMatchesReferenceWrong)

/-- 'barcarolelaw07.VectorSums': WHATEVER THE INPUT: true; the input reads as it did. -/
def vectorSumsSpec : ChangeSpec := { name := "vectorSums", fn := fun _ => fun
  | [d1, d2, d3] => { results := [.lit (.bool true)], args := [d1, d2, d3] }
  | _ => none }
def vectorSumsRow : OpenClaim := { program := "ytdkofonneebciaa", sum := "b8116348149b7799b71cf8d8c2bd212d4d41515d71e2ff8770cf1ae70080139d", func := "barcarole/barcarolelaw07.VectorSums", spec := "vectorSums", unfollowed := true, recurses := true, apart := false }
def VectorSumsSaid : Prop := vectorSumsRow.holds Try.pinned (OpenSpec.ofChange vectorSumsSpec)

/-- ITS FALSE NEIGHBOUR: 'it returns false'. Refute it at one input. -/
def vectorSumsWrong : ChangeSpec := { name := "vectorSums", fn := fun _ => fun
  | [d1, d2, d3] => { results := [.lit (.bool false)], args := [d1, d2, d3] }
  | _ => none }
def VectorSumsWrongFalsely : Prop := vectorSumsRow.holds Try.pinned (OpenSpec.ofChange vectorSumsWrong)

/-- 'barcarolelaw07.VectorDot': WHATEVER THE INPUT: true; the input reads as it did. -/
def vectorDotSpec : ChangeSpec := { name := "vectorDot", fn := fun _ => fun
  | [d1, d2, d3] => { results := [.lit (.bool true)], args := [d1, d2, d3] }
  | _ => none }
def vectorDotRow : OpenClaim := { program := "ytdkofonneebciaa", sum := "b8116348149b7799b71cf8d8c2bd212d4d41515d71e2ff8770cf1ae70080139d", func := "barcarole/barcarolelaw07.VectorDot", spec := "vectorDot", unfollowed := true, recurses := true, apart := false }
def VectorDotSaid : Prop := vectorDotRow.holds Try.pinned (OpenSpec.ofChange vectorDotSpec)

/-- ITS FALSE NEIGHBOUR: 'it returns false'. Refute it at one input. -/
def vectorDotWrong : ChangeSpec := { name := "vectorDot", fn := fun _ => fun
  | [d1, d2, d3] => { results := [.lit (.bool false)], args := [d1, d2, d3] }
  | _ => none }
def VectorDotWrongFalsely : Prop := vectorDotRow.holds Try.pinned (OpenSpec.ofChange vectorDotWrong)

/-- 'barcarolelaw07.VectorTurns': WHATEVER THE INPUT: true; the input reads as it did. -/
def vectorTurnsSpec : ChangeSpec := { name := "vectorTurns", fn := fun _ => fun
  | [d1, d2, d3, d4, d5] => { results := [.lit (.bool true)], args := [d1, d2, d3, d4, d5] }
  | _ => none }
def vectorTurnsRow : OpenClaim := { program := "ytdkofonneebciaa", sum := "b8116348149b7799b71cf8d8c2bd212d4d41515d71e2ff8770cf1ae70080139d", func := "barcarole/barcarolelaw07.VectorTurns", spec := "vectorTurns", unfollowed := true, recurses := true, apart := false }
def VectorTurnsSaid : Prop := vectorTurnsRow.holds Try.pinned (OpenSpec.ofChange vectorTurnsSpec)

/-- ITS FALSE NEIGHBOUR: 'it returns false'. Refute it at one input. -/
def vectorTurnsWrong : ChangeSpec := { name := "vectorTurns", fn := fun _ => fun
  | [d1, d2, d3, d4, d5] => { results := [.lit (.bool false)], args := [d1, d2, d3, d4, d5] }
  | _ => none }
def VectorTurnsWrongFalsely : Prop := vectorTurnsRow.holds Try.pinned (OpenSpec.ofChange vectorTurnsWrong)

/-- 'barcarolelaw07.VectorPlane': WHATEVER THE INPUT: true; the input reads as it did. -/
def vectorPlaneSpec : ChangeSpec := { name := "vectorPlane", fn := fun _ => fun
  | [d1, d2, d3, d4] => { results := [.lit (.bool true)], args := [d1, d2, d3, d4] }
  | _ => none }
def vectorPlaneRow : OpenClaim := { program := "ytdkofonneebciaa", sum := "b8116348149b7799b71cf8d8c2bd212d4d41515d71e2ff8770cf1ae70080139d", func := "barcarole/barcarolelaw07.VectorPlane", spec := "vectorPlane", unfollowed := true, recurses := true, apart := false }
def VectorPlaneSaid : Prop := vectorPlaneRow.holds Try.pinned (OpenSpec.ofChange vectorPlaneSpec)

/-- ITS FALSE NEIGHBOUR: 'it returns false'. Refute it at one input. -/
def vectorPlaneWrong : ChangeSpec := { name := "vectorPlane", fn := fun _ => fun
  | [d1, d2, d3, d4] => { results := [.lit (.bool false)], args := [d1, d2, d3, d4] }
  | _ => none }
def VectorPlaneWrongFalsely : Prop := vectorPlaneRow.holds Try.pinned (OpenSpec.ofChange vectorPlaneWrong)

/-- 'barcarolelaw07.VectorNear': WHATEVER THE INPUT: true; the input reads as it did. -/
def vectorNearSpec : ChangeSpec := { name := "vectorNear", fn := fun _ => fun
  | [d1, d2, d3, d4, d5, d6] => { results := [.lit (.bool true)], args := [d1, d2, d3, d4, d5, d6] }
  | _ => none }
def vectorNearRow : OpenClaim := { program := "ytdkofonneebciaa", sum := "b8116348149b7799b71cf8d8c2bd212d4d41515d71e2ff8770cf1ae70080139d", func := "barcarole/barcarolelaw07.VectorNear", spec := "vectorNear", unfollowed := true, recurses := true, apart := false }
def VectorNearSaid : Prop := vectorNearRow.holds Try.pinned (OpenSpec.ofChange vectorNearSpec)

/-- ITS FALSE NEIGHBOUR: 'it returns false'. Refute it at one input. -/
def vectorNearWrong : ChangeSpec := { name := "vectorNear", fn := fun _ => fun
  | [d1, d2, d3, d4, d5, d6] => { results := [.lit (.bool false)], args := [d1, d2, d3, d4, d5, d6] }
  | _ => none }
def VectorNearWrongFalsely : Prop := vectorNearRow.holds Try.pinned (OpenSpec.ofChange vectorNearWrong)

/- THE SECOND FORM. 'bulk': how many values and letters a reading holds, each counted each time it is reached (what is shared counts as often as it is met; a slice's spare places count too). A statement '..UptoSaid' is the law's where the arguments, and the package variables that the reading takes, are together of bulk at most 1048576: NARROWER than '..Said'. Prove '..Said' where nothing that the law and all that it calls make is longer than what came in: it says more and counts as full. Else prove '..UptoSaid'. A law counts once. -/
mutual
def uptoBulk {H : Type} : DataW H → Nat
  | .lit (.string bytes) => bytes.length + 1
  | .lit _ => 1
  | .nil => 1
  | .ptr d => uptoBulk d + 1
  | .slice elems spare => uptoBulkAll elems + uptoBulkAll spare + 1
  | .agg parts => uptoBulkAll parts + 1
  | .iface _ d => uptoBulk d + 1
  | .map entries => uptoBulkEntries entries + 1
  | .held _ => 1
def uptoBulkAll {H : Type} : List (DataW H) → Nat
  | [] => 0
  | d :: r => uptoBulk d + uptoBulkAll r
def uptoBulkEntries {H : Type} : List (Lit × DataW H) → Nat
  | [] => 0
  | x :: r => uptoBulkEntry x + uptoBulkEntries r
def uptoBulkEntry {H : Type} : Lit × DataW H → Nat
  | (.string bytes, d) => bytes.length + uptoBulk d + 1
  | (_, d) => uptoBulk d + 1
 end
def uptoSmall : (H : Type) → List (DataW H) → Bool := fun _ ds => decide (uptoBulkAll ds ≤ 1048576)
def OpenSpec.upto (s : _root_.Go.ChangeSpec) : _root_.Go.OpenSpec := { _root_.Go.OpenSpec.ofChange s with cond := some uptoSmall }

/-- 'barcarolelaw07.VectorMatchesReference', WHERE WHAT IT READS IS OF BULK AT MOST 1048576: true; the input reads as it did. -/
def vectorMatchesReferenceUptoRow : OpenClaim := { program := "ytdkofonneebciaa", sum := "b8116348149b7799b71cf8d8c2bd212d4d41515d71e2ff8770cf1ae70080139d", func := "barcarole/barcarolelaw07.VectorMatchesReference", spec := "vectorMatchesReference", unfollowed := true, recurses := true, apart := false, narrowed := true }
def VectorMatchesReferenceUptoSaid : Prop := vectorMatchesReferenceUptoRow.holds Try.pinned (OpenSpec.upto vectorMatchesReferenceSpec)

/-- 'barcarolelaw07.VectorSums', WHERE WHAT IT READS IS OF BULK AT MOST 1048576: true; the input reads as it did. -/
def vectorSumsUptoRow : OpenClaim := { program := "ytdkofonneebciaa", sum := "b8116348149b7799b71cf8d8c2bd212d4d41515d71e2ff8770cf1ae70080139d", func := "barcarole/barcarolelaw07.VectorSums", spec := "vectorSums", unfollowed := true, recurses := true, apart := false, narrowed := true }
def VectorSumsUptoSaid : Prop := vectorSumsUptoRow.holds Try.pinned (OpenSpec.upto vectorSumsSpec)

/-- 'barcarolelaw07.VectorDot', WHERE WHAT IT READS IS OF BULK AT MOST 1048576: true; the input reads as it did. -/
def vectorDotUptoRow : OpenClaim := { program := "ytdkofonneebciaa", sum := "b8116348149b7799b71cf8d8c2bd212d4d41515d71e2ff8770cf1ae70080139d", func := "barcarole/barcarolelaw07.VectorDot", spec := "vectorDot", unfollowed := true, recurses := true, apart := false, narrowed := true }
def VectorDotUptoSaid : Prop := vectorDotUptoRow.holds Try.pinned (OpenSpec.upto vectorDotSpec)

/-- 'barcarolelaw07.VectorTurns', WHERE WHAT IT READS IS OF BULK AT MOST 1048576: true; the input reads as it did. -/
def vectorTurnsUptoRow : OpenClaim := { program := "ytdkofonneebciaa", sum := "b8116348149b7799b71cf8d8c2bd212d4d41515d71e2ff8770cf1ae70080139d", func := "barcarole/barcarolelaw07.VectorTurns", spec := "vectorTurns", unfollowed := true, recurses := true, apart := false, narrowed := true }
def VectorTurnsUptoSaid : Prop := vectorTurnsUptoRow.holds Try.pinned (OpenSpec.upto vectorTurnsSpec)

/-- 'barcarolelaw07.VectorPlane', WHERE WHAT IT READS IS OF BULK AT MOST 1048576: true; the input reads as it did. -/
def vectorPlaneUptoRow : OpenClaim := { program := "ytdkofonneebciaa", sum := "b8116348149b7799b71cf8d8c2bd212d4d41515d71e2ff8770cf1ae70080139d", func := "barcarole/barcarolelaw07.VectorPlane", spec := "vectorPlane", unfollowed := true, recurses := true, apart := false, narrowed := true }
def VectorPlaneUptoSaid : Prop := vectorPlaneUptoRow.holds Try.pinned (OpenSpec.upto vectorPlaneSpec)

/-- 'barcarolelaw07.VectorNear', WHERE WHAT IT READS IS OF BULK AT MOST 1048576: true; the input reads as it did. -/
def vectorNearUptoRow : OpenClaim := { program := "ytdkofonneebciaa", sum := "b8116348149b7799b71cf8d8c2bd212d4d41515d71e2ff8770cf1ae70080139d", func := "barcarole/barcarolelaw07.VectorNear", spec := "vectorNear", unfollowed := true, recurses := true, apart := false, narrowed := true }
def VectorNearUptoSaid : Prop := vectorNearUptoRow.holds Try.pinned (OpenSpec.upto vectorNearSpec)

end Rows
end Go.Proofs.Ytdkofonneebciaa
