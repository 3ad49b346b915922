/-
  No cell of these rows narrows 'for every input' (looked for: loops, veiled, ifaces, maps, wideKeys, modest, calm, conditions, laid).
  DERIVED. THE GIVEN ROWS OF THIS SEAT. 7 by the template 'for every input the law returns true; each argument reads behind the call as it read before'; 0 by the template 'total and deterministic' (their statements: YtnjhepkfjohdnaaTotals.lean).
  GIVEN WITH THE SEED: the statements are not yours to turn. If you find one false, say at which input.
  Laid BY PROGRAM, IN A SANDBOX (cutbox-rows.mjs): the forced cells as the released guide's own fill.sh prints them over the translation e75a4017a8d251ed… (all of the seat's roots in one cut). By AI agents, Wed Nov 11 2026. No macro, syntax, notation, axiom, sorry.
-/
import Derived.Test.YtnjhepkfjohdnaaChecked
import GoSem.Claim
import GoSem.ClaimJoined
import GoSem.ClaimMapViews
import Derived.JoinedTies
import Derived.KernelRfl
namespace Go.Proofs.Ytnjhepkfjohdnaa
/- THE CELL 'sum', in the pinned program and in every row, IS THE sha256 OF THE DUMP (.gsa) THAT YtnjhepkfjohdnaaProg.lean LOADS. Nothing in Lean hashes anything: it is a label: what it is worth is what the hold of that sum in a sandbox is worth. -/
noncomputable def Try.pinned : Pinned := { name := "ytnjhepkfjohdnaa", sum := "e75a4017a8d251ed8e30fbcc346c28e53835174e1fbc6eb9ae6ba9b0a2b30fe8", checked := Try.checked }
namespace Rows
def none {H : Type} : Left H := { results := [], args := [] }

/-- 'barcarolelaw04.ClockMatchesReference': WHATEVER THE INPUT: true; the input reads as it did. -/
def clockMatchesReferenceSpec : ChangeSpec := { name := "clockMatchesReference", fn := fun _ => fun
  | [d1, d2, d3, d4, d5, d6] => { results := [.lit (.bool true)], args := [d1, d2, d3, d4, d5, d6] }
  | _ => none }
def clockMatchesReferenceRow : OpenClaim := { program := "ytnjhepkfjohdnaa", sum := "e75a4017a8d251ed8e30fbcc346c28e53835174e1fbc6eb9ae6ba9b0a2b30fe8", func := "barcarole/barcarolelaw04.ClockMatchesReference", spec := "clockMatchesReference", unfollowed := true, recurses := true, apart := false }
def ClockMatchesReferenceSaid : Prop := clockMatchesReferenceRow.holds Try.pinned (OpenSpec.ofChange clockMatchesReferenceSpec)

/-- ITS FALSE NEIGHBOUR: 'it returns false'. Refute it at one input. -/
def clockMatchesReferenceWrong : ChangeSpec := { name := "clockMatchesReference", fn := fun _ => fun
  | [d1, d2, d3, d4, d5, d6] => { results := [.lit (.bool false)], args := [d1, d2, d3, d4, d5, d6] }
  | _ => none }
def ClockMatchesReferenceWrongFalsely : Prop := clockMatchesReferenceRow.holds Try.pinned (OpenSpec.ofChange clockMatchesReferenceWrong)

/-- 'barcarolelaw04.ClockTruth': WHATEVER THE INPUT: true; the input reads as it did. -/
def clockTruthSpec : ChangeSpec := { name := "clockTruth", fn := fun _ => fun
  | [d1, d2, d3, d4, d5] => { results := [.lit (.bool true)], args := [d1, d2, d3, d4, d5] }
  | _ => none }
def clockTruthRow : OpenClaim := { program := "ytnjhepkfjohdnaa", sum := "e75a4017a8d251ed8e30fbcc346c28e53835174e1fbc6eb9ae6ba9b0a2b30fe8", func := "barcarole/barcarolelaw04.ClockTruth", spec := "clockTruth", unfollowed := true, recurses := true, apart := false }
def ClockTruthSaid : Prop := clockTruthRow.holds Try.pinned (OpenSpec.ofChange clockTruthSpec)

/-- ITS FALSE NEIGHBOUR: 'it returns false'. Refute it at one input. -/
def clockTruthWrong : ChangeSpec := { name := "clockTruth", fn := fun _ => fun
  | [d1, d2, d3, d4, d5] => { results := [.lit (.bool false)], args := [d1, d2, d3, d4, d5] }
  | _ => none }
def ClockTruthWrongFalsely : Prop := clockTruthRow.holds Try.pinned (OpenSpec.ofChange clockTruthWrong)

/-- 'barcarolelaw04.ClockProgress': WHATEVER THE INPUT: true; the input reads as it did. -/
def clockProgressSpec : ChangeSpec := { name := "clockProgress", fn := fun _ => fun
  | [d1, d2, d3] => { results := [.lit (.bool true)], args := [d1, d2, d3] }
  | _ => none }
def clockProgressRow : OpenClaim := { program := "ytnjhepkfjohdnaa", sum := "e75a4017a8d251ed8e30fbcc346c28e53835174e1fbc6eb9ae6ba9b0a2b30fe8", func := "barcarole/barcarolelaw04.ClockProgress", spec := "clockProgress", unfollowed := true, recurses := true, apart := false }
def ClockProgressSaid : Prop := clockProgressRow.holds Try.pinned (OpenSpec.ofChange clockProgressSpec)

/-- ITS FALSE NEIGHBOUR: 'it returns false'. Refute it at one input. -/
def clockProgressWrong : ChangeSpec := { name := "clockProgress", fn := fun _ => fun
  | [d1, d2, d3] => { results := [.lit (.bool false)], args := [d1, d2, d3] }
  | _ => none }
def ClockProgressWrongFalsely : Prop := clockProgressRow.holds Try.pinned (OpenSpec.ofChange clockProgressWrong)

/-- 'barcarolelaw04.ClockPassed': WHATEVER THE INPUT: true; the input reads as it did. -/
def clockPassedSpec : ChangeSpec := { name := "clockPassed", fn := fun _ => fun
  | [d1, d2, d3, d4, d5] => { results := [.lit (.bool true)], args := [d1, d2, d3, d4, d5] }
  | _ => none }
def clockPassedRow : OpenClaim := { program := "ytnjhepkfjohdnaa", sum := "e75a4017a8d251ed8e30fbcc346c28e53835174e1fbc6eb9ae6ba9b0a2b30fe8", func := "barcarole/barcarolelaw04.ClockPassed", spec := "clockPassed", unfollowed := true, recurses := true, apart := false }
def ClockPassedSaid : Prop := clockPassedRow.holds Try.pinned (OpenSpec.ofChange clockPassedSpec)

/-- ITS FALSE NEIGHBOUR: 'it returns false'. Refute it at one input. -/
def clockPassedWrong : ChangeSpec := { name := "clockPassed", fn := fun _ => fun
  | [d1, d2, d3, d4, d5] => { results := [.lit (.bool false)], args := [d1, d2, d3, d4, d5] }
  | _ => none }
def ClockPassedWrongFalsely : Prop := clockPassedRow.holds Try.pinned (OpenSpec.ofChange clockPassedWrong)

/-- 'barcarolelaw04.ClockOrder': WHATEVER THE INPUT: true; the input reads as it did. -/
def clockOrderSpec : ChangeSpec := { name := "clockOrder", fn := fun _ => fun
  | [d1, d2, d3, d4, d5, d6] => { results := [.lit (.bool true)], args := [d1, d2, d3, d4, d5, d6] }
  | _ => none }
def clockOrderRow : OpenClaim := { program := "ytnjhepkfjohdnaa", sum := "e75a4017a8d251ed8e30fbcc346c28e53835174e1fbc6eb9ae6ba9b0a2b30fe8", func := "barcarole/barcarolelaw04.ClockOrder", spec := "clockOrder", unfollowed := true, recurses := true, apart := false }
def ClockOrderSaid : Prop := clockOrderRow.holds Try.pinned (OpenSpec.ofChange clockOrderSpec)

/-- ITS FALSE NEIGHBOUR: 'it returns false'. Refute it at one input. -/
def clockOrderWrong : ChangeSpec := { name := "clockOrder", fn := fun _ => fun
  | [d1, d2, d3, d4, d5, d6] => { results := [.lit (.bool false)], args := [d1, d2, d3, d4, d5, d6] }
  | _ => none }
def ClockOrderWrongFalsely : Prop := clockOrderRow.holds Try.pinned (OpenSpec.ofChange clockOrderWrong)

/-- 'barcarolelaw04.ClockSet': WHATEVER THE INPUT: true; the input reads as it did. -/
def clockSetSpec : ChangeSpec := { name := "clockSet", fn := fun _ => fun
  | [d1, d2, d3] => { results := [.lit (.bool true)], args := [d1, d2, d3] }
  | _ => none }
def clockSetRow : OpenClaim := { program := "ytnjhepkfjohdnaa", sum := "e75a4017a8d251ed8e30fbcc346c28e53835174e1fbc6eb9ae6ba9b0a2b30fe8", func := "barcarole/barcarolelaw04.ClockSet", spec := "clockSet", unfollowed := true, recurses := true, apart := false }
def ClockSetSaid : Prop := clockSetRow.holds Try.pinned (OpenSpec.ofChange clockSetSpec)

/-- ITS FALSE NEIGHBOUR: 'it returns false'. Refute it at one input. -/
def clockSetWrong : ChangeSpec := { name := "clockSet", fn := fun _ => fun
  | [d1, d2, d3] => { results := [.lit (.bool false)], args := [d1, d2, d3] }
  | _ => none }
def ClockSetWrongFalsely : Prop := clockSetRow.holds Try.pinned (OpenSpec.ofChange clockSetWrong)

/-- 'barcarolelaw04.ClockWider': WHATEVER THE INPUT: true; the input reads as it did. -/
def clockWiderSpec : ChangeSpec := { name := "clockWider", fn := fun _ => fun
  | [d1, d2, d3, d4, d5, d6] => { results := [.lit (.bool true)], args := [d1, d2, d3, d4, d5, d6] }
  | _ => none }
def clockWiderRow : OpenClaim := { program := "ytnjhepkfjohdnaa", sum := "e75a4017a8d251ed8e30fbcc346c28e53835174e1fbc6eb9ae6ba9b0a2b30fe8", func := "barcarole/barcarolelaw04.ClockWider", spec := "clockWider", unfollowed := true, recurses := true, apart := false }
def ClockWiderSaid : Prop := clockWiderRow.holds Try.pinned (OpenSpec.ofChange clockWiderSpec)

/-- ITS FALSE NEIGHBOUR: 'it returns false'. Refute it at one input. -/
def clockWiderWrong : ChangeSpec := { name := "clockWider", fn := fun _ => fun
  | [d1, d2, d3, d4, d5, d6] => { results := [.lit (.bool false)], args := [d1, d2, d3, d4, d5, d6] }
  | _ => none }
def ClockWiderWrongFalsely : Prop := clockWiderRow.holds Try.pinned (OpenSpec.ofChange clockWiderWrong)

/- THE SECOND FORM. 'bulk': how many values and letters a reading holds, each counted each time it is reached (what is shared counts as often as it is met; a slice's spare places count too). A statement '..UptoSaid' is the law's where the arguments, and the package variables that the reading takes, are together of bulk at most 1048576: NARROWER than '..Said'. Prove '..Said' where nothing that the law and all that it calls make is longer than what came in: it says more and counts as full. Else prove '..UptoSaid'. A law counts once. -/
mutual
def uptoBulk {H : Type} : DataW H → Nat
  | .lit (.string bytes) => bytes.length + 1
  | .lit _ => 1
  | .nil => 1
  | .ptr d => uptoBulk d + 1
  | .slice elems spare => uptoBulkAll elems + uptoBulkAll spare + 1
  | .agg parts => uptoBulkAll parts + 1
  | .iface _ d => uptoBulk d + 1
  | .map entries => uptoBulkEntries entries + 1
  | .held _ => 1
def uptoBulkAll {H : Type} : List (DataW H) → Nat
  | [] => 0
  | d :: r => uptoBulk d + uptoBulkAll r
def uptoBulkEntries {H : Type} : List (Lit × DataW H) → Nat
  | [] => 0
  | x :: r => uptoBulkEntry x + uptoBulkEntries r
def uptoBulkEntry {H : Type} : Lit × DataW H → Nat
  | (.string bytes, d) => bytes.length + uptoBulk d + 1
  | (_, d) => uptoBulk d + 1
 end
def uptoSmall : (H : Type) → List (DataW H) → Bool := fun _ ds => decide (uptoBulkAll ds ≤ 1048576)
def OpenSpec.upto (s : _root_.Go.ChangeSpec) : _root_.Go.OpenSpec := { _root_.Go.OpenSpec.ofChange s with cond := some uptoSmall }

/-- 'barcarolelaw04.ClockMatchesReference', WHERE WHAT IT READS IS OF BULK AT MOST 1048576: true; the input reads as it did. -/
def clockMatchesReferenceUptoRow : OpenClaim := { program := "ytnjhepkfjohdnaa", sum := "e75a4017a8d251ed8e30fbcc346c28e53835174e1fbc6eb9ae6ba9b0a2b30fe8", func := "barcarole/barcarolelaw04.ClockMatchesReference", spec := "clockMatchesReference", unfollowed := true, recurses := true, apart := false, narrowed := true }
def ClockMatchesReferenceUptoSaid : Prop := clockMatchesReferenceUptoRow.holds Try.pinned (OpenSpec.upto clockMatchesReferenceSpec)

/-- 'barcarolelaw04.ClockTruth', WHERE WHAT IT READS IS OF BULK AT MOST 1048576: true; the input reads as it did. -/
def clockTruthUptoRow : OpenClaim := { program := "ytnjhepkfjohdnaa", sum := "e75a4017a8d251ed8e30fbcc346c28e53835174e1fbc6eb9ae6ba9b0a2b30fe8", func := "barcarole/barcarolelaw04.ClockTruth", spec := "clockTruth", unfollowed := true, recurses := true, apart := false, narrowed := true }
def ClockTruthUptoSaid : Prop := clockTruthUptoRow.holds Try.pinned (OpenSpec.upto clockTruthSpec)

/-- 'barcarolelaw04.ClockProgress', WHERE WHAT IT READS IS OF BULK AT MOST 1048576: true; the input reads as it did. -/
def clockProgressUptoRow : OpenClaim := { program := "ytnjhepkfjohdnaa", sum := "e75a4017a8d251ed8e30fbcc346c28e53835174e1fbc6eb9ae6ba9b0a2b30fe8", func := "barcarole/barcarolelaw04.ClockProgress", spec := "clockProgress", unfollowed := true, recurses := true, apart := false, narrowed := true }
def ClockProgressUptoSaid : Prop := clockProgressUptoRow.holds Try.pinned (OpenSpec.upto clockProgressSpec)

/-- 'barcarolelaw04.ClockPassed', WHERE WHAT IT READS IS OF BULK AT MOST 1048576: true; the input reads as it did. -/
def clockPassedUptoRow : OpenClaim := { program := "ytnjhepkfjohdnaa", sum := "e75a4017a8d251ed8e30fbcc346c28e53835174e1fbc6eb9ae6ba9b0a2b30fe8", func := "barcarole/barcarolelaw04.ClockPassed", spec := "clockPassed", unfollowed := true, recurses := true, apart := false, narrowed := true }
def ClockPassedUptoSaid : Prop := clockPassedUptoRow.holds Try.pinned (OpenSpec.upto clockPassedSpec)

/-- 'barcarolelaw04.ClockOrder', WHERE WHAT IT READS IS OF BULK AT MOST 1048576: true; the input reads as it did. -/
def clockOrderUptoRow : OpenClaim := { program := "ytnjhepkfjohdnaa", sum := "e75a4017a8d251ed8e30fbcc346c28e53835174e1fbc6eb9ae6ba9b0a2b30fe8", func := "barcarole/barcarolelaw04.ClockOrder", spec := "clockOrder", unfollowed := true, recurses := true, apart := false, narrowed := true }
def ClockOrderUptoSaid : Prop := clockOrderUptoRow.holds Try.pinned (OpenSpec.upto clockOrderSpec)

/-- 'barcarolelaw04.ClockSet', WHERE WHAT IT READS IS OF BULK AT MOST 1048576: true; the input reads as it did. -/
def clockSetUptoRow : OpenClaim := { program := "ytnjhepkfjohdnaa", sum := "e75a4017a8d251ed8e30fbcc346c28e53835174e1fbc6eb9ae6ba9b0a2b30fe8", func := "barcarole/barcarolelaw04.ClockSet", spec := "clockSet", unfollowed := true, recurses := true, apart := false, narrowed := true }
def ClockSetUptoSaid : Prop := clockSetUptoRow.holds Try.pinned (OpenSpec.upto clockSetSpec)

/-- 'barcarolelaw04.ClockWider', WHERE WHAT IT READS IS OF BULK AT MOST 1048576: true; the input reads as it did. -/
def clockWiderUptoRow : OpenClaim := { program := "ytnjhepkfjohdnaa", sum := "e75a4017a8d251ed8e30fbcc346c28e53835174e1fbc6eb9ae6ba9b0a2b30fe8", func := "barcarole/barcarolelaw04.ClockWider", spec := "clockWider", unfollowed := true, recurses := true, apart := false, narrowed := true }
def ClockWiderUptoSaid : Prop := clockWiderUptoRow.holds Try.pinned (OpenSpec.upto clockWiderSpec)

end Rows
end Go.Proofs.Ytnjhepkfjohdnaa
