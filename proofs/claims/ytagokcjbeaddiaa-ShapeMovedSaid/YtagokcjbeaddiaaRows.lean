/-
  No cell of these rows narrows 'for every input' (looked for: loops, veiled, ifaces, maps, wideKeys, modest, calm, conditions, laid).
  DERIVED. THE GIVEN ROWS OF THIS SEAT. 7 by the template 'for every input the law returns true; each argument reads behind the call as it read before'; 0 by the template 'total and deterministic' (their statements: YtagokcjbeaddiaaTotals.lean).
  GIVEN WITH THE SEED: the statements are not yours to turn. If you find one false, say at which input.
  Laid BY PROGRAM, IN A SANDBOX (cutbox-rows.mjs): the forced cells as the released guide's own fill.sh prints them over the translation ce7f7c54c5ea4aa3… (all of the seat's roots in one cut). By AI agents, Wed Nov 11 2026. No macro, syntax, notation, axiom, sorry.
-/
import Derived.Test.YtagokcjbeaddiaaChecked
import GoSem.Claim
import GoSem.ClaimJoined
import GoSem.ClaimMapViews
import Derived.JoinedTies
import Derived.KernelRfl
namespace Go.Proofs.Ytagokcjbeaddiaa
/- THE CELL 'sum', in the pinned program and in every row, IS THE sha256 OF THE DUMP (.gsa) THAT YtagokcjbeaddiaaProg.lean LOADS. Nothing in Lean hashes anything: it is a label: what it is worth is what the hold of that sum in a sandbox is worth. -/
noncomputable def Try.pinned : Pinned := { name := "ytagokcjbeaddiaa", sum := "ce7f7c54c5ea4aa3efc9e6241676ff546d10695880b4a027a2e9346b6745f0fa", checked := Try.checked }
namespace Rows
def none {H : Type} : Left H := { results := [], args := [] }

/-- 'barcarolelaw08.ShapeMatchesReference': WHATEVER THE INPUT: true; the input reads as it did. -/
def shapeMatchesReferenceSpec : ChangeSpec := { name := "shapeMatchesReference", fn := fun _ => fun
  | [d1, d2, d3, d4] => { results := [.lit (.bool true)], args := [d1, d2, d3, d4] }
  | _ => none }
def shapeMatchesReferenceRow : OpenClaim := { program := "ytagokcjbeaddiaa", sum := "ce7f7c54c5ea4aa3efc9e6241676ff546d10695880b4a027a2e9346b6745f0fa", func := "barcarole/barcarolelaw08.ShapeMatchesReference", spec := "shapeMatchesReference", unfollowed := true, recurses := true, apart := false }
def ShapeMatchesReferenceSaid : Prop := shapeMatchesReferenceRow.holds Try.pinned (OpenSpec.ofChange shapeMatchesReferenceSpec)

/-- ITS FALSE NEIGHBOUR: 'it returns false'. Refute it at one input. -/
def shapeMatchesReferenceWrong : ChangeSpec := { name := "shapeMatchesReference", fn := fun _ => fun
  | [d1, d2, d3, d4] => { results := [.lit (.bool false)], args := [d1, d2, d3, d4] }
  | _ => none }
def ShapeMatchesReferenceWrongFalsely : Prop := shapeMatchesReferenceRow.holds Try.pinned (OpenSpec.ofChange shapeMatchesReferenceWrong)

/-- 'barcarolelaw08.ShapeConvex': WHATEVER THE INPUT: true; the input reads as it did. -/
def shapeConvexSpec : ChangeSpec := { name := "shapeConvex", fn := fun _ => fun
  | [d1, d2, d3] => { results := [.lit (.bool true)], args := [d1, d2, d3] }
  | _ => none }
def shapeConvexRow : OpenClaim := { program := "ytagokcjbeaddiaa", sum := "ce7f7c54c5ea4aa3efc9e6241676ff546d10695880b4a027a2e9346b6745f0fa", func := "barcarole/barcarolelaw08.ShapeConvex", spec := "shapeConvex", unfollowed := true, recurses := true, apart := false }
def ShapeConvexSaid : Prop := shapeConvexRow.holds Try.pinned (OpenSpec.ofChange shapeConvexSpec)

/-- ITS FALSE NEIGHBOUR: 'it returns false'. Refute it at one input. -/
def shapeConvexWrong : ChangeSpec := { name := "shapeConvex", fn := fun _ => fun
  | [d1, d2, d3] => { results := [.lit (.bool false)], args := [d1, d2, d3] }
  | _ => none }
def ShapeConvexWrongFalsely : Prop := shapeConvexRow.holds Try.pinned (OpenSpec.ofChange shapeConvexWrong)

/-- 'barcarolelaw08.ShapePoints': WHATEVER THE INPUT: true; the input reads as it did. -/
def shapePointsSpec : ChangeSpec := { name := "shapePoints", fn := fun _ => fun
  | [d1, d2, d3, d4] => { results := [.lit (.bool true)], args := [d1, d2, d3, d4] }
  | _ => none }
def shapePointsRow : OpenClaim := { program := "ytagokcjbeaddiaa", sum := "ce7f7c54c5ea4aa3efc9e6241676ff546d10695880b4a027a2e9346b6745f0fa", func := "barcarole/barcarolelaw08.ShapePoints", spec := "shapePoints", unfollowed := true, recurses := true, apart := false }
def ShapePointsSaid : Prop := shapePointsRow.holds Try.pinned (OpenSpec.ofChange shapePointsSpec)

/-- ITS FALSE NEIGHBOUR: 'it returns false'. Refute it at one input. -/
def shapePointsWrong : ChangeSpec := { name := "shapePoints", fn := fun _ => fun
  | [d1, d2, d3, d4] => { results := [.lit (.bool false)], args := [d1, d2, d3, d4] }
  | _ => none }
def ShapePointsWrongFalsely : Prop := shapePointsRow.holds Try.pinned (OpenSpec.ofChange shapePointsWrong)

/-- 'barcarolelaw08.ShapeBack': WHATEVER THE INPUT: true; the input reads as it did. -/
def shapeBackSpec : ChangeSpec := { name := "shapeBack", fn := fun _ => fun
  | [d1, d2, d3] => { results := [.lit (.bool true)], args := [d1, d2, d3] }
  | _ => none }
def shapeBackRow : OpenClaim := { program := "ytagokcjbeaddiaa", sum := "ce7f7c54c5ea4aa3efc9e6241676ff546d10695880b4a027a2e9346b6745f0fa", func := "barcarole/barcarolelaw08.ShapeBack", spec := "shapeBack", unfollowed := true, recurses := true, apart := false }
def ShapeBackSaid : Prop := shapeBackRow.holds Try.pinned (OpenSpec.ofChange shapeBackSpec)

/-- ITS FALSE NEIGHBOUR: 'it returns false'. Refute it at one input. -/
def shapeBackWrong : ChangeSpec := { name := "shapeBack", fn := fun _ => fun
  | [d1, d2, d3] => { results := [.lit (.bool false)], args := [d1, d2, d3] }
  | _ => none }
def ShapeBackWrongFalsely : Prop := shapeBackRow.holds Try.pinned (OpenSpec.ofChange shapeBackWrong)

/-- 'barcarolelaw08.ShapeMoved': WHATEVER THE INPUT: true; the input reads as it did. -/
def shapeMovedSpec : ChangeSpec := { name := "shapeMoved", fn := fun _ => fun
  | [d1, d2, d3, d4] => { results := [.lit (.bool true)], args := [d1, d2, d3, d4] }
  | _ => none }
def shapeMovedRow : OpenClaim := { program := "ytagokcjbeaddiaa", sum := "ce7f7c54c5ea4aa3efc9e6241676ff546d10695880b4a027a2e9346b6745f0fa", func := "barcarole/barcarolelaw08.ShapeMoved", spec := "shapeMoved", unfollowed := true, recurses := true, apart := false }
def ShapeMovedSaid : Prop := shapeMovedRow.holds Try.pinned (OpenSpec.ofChange shapeMovedSpec)

/-- ITS FALSE NEIGHBOUR: 'it returns false'. Refute it at one input. -/
def shapeMovedWrong : ChangeSpec := { name := "shapeMoved", fn := fun _ => fun
  | [d1, d2, d3, d4] => { results := [.lit (.bool false)], args := [d1, d2, d3, d4] }
  | _ => none }
def ShapeMovedWrongFalsely : Prop := shapeMovedRow.holds Try.pinned (OpenSpec.ofChange shapeMovedWrong)

/-- 'barcarolelaw08.ShapeApart': WHATEVER THE INPUT: true; the input reads as it did. -/
def shapeApartSpec : ChangeSpec := { name := "shapeApart", fn := fun _ => fun
  | [d1, d2, d3, d4] => { results := [.lit (.bool true)], args := [d1, d2, d3, d4] }
  | _ => none }
def shapeApartRow : OpenClaim := { program := "ytagokcjbeaddiaa", sum := "ce7f7c54c5ea4aa3efc9e6241676ff546d10695880b4a027a2e9346b6745f0fa", func := "barcarole/barcarolelaw08.ShapeApart", spec := "shapeApart", unfollowed := true, recurses := true, apart := false }
def ShapeApartSaid : Prop := shapeApartRow.holds Try.pinned (OpenSpec.ofChange shapeApartSpec)

/-- ITS FALSE NEIGHBOUR: 'it returns false'. Refute it at one input. -/
def shapeApartWrong : ChangeSpec := { name := "shapeApart", fn := fun _ => fun
  | [d1, d2, d3, d4] => { results := [.lit (.bool false)], args := [d1, d2, d3, d4] }
  | _ => none }
def ShapeApartWrongFalsely : Prop := shapeApartRow.holds Try.pinned (OpenSpec.ofChange shapeApartWrong)

/-- 'barcarolelaw08.ShapeCorners': WHATEVER THE INPUT: true; the input reads as it did. -/
def shapeCornersSpec : ChangeSpec := { name := "shapeCorners", fn := fun _ => fun
  | [d1, d2, d3] => { results := [.lit (.bool true)], args := [d1, d2, d3] }
  | _ => none }
def shapeCornersRow : OpenClaim := { program := "ytagokcjbeaddiaa", sum := "ce7f7c54c5ea4aa3efc9e6241676ff546d10695880b4a027a2e9346b6745f0fa", func := "barcarole/barcarolelaw08.ShapeCorners", spec := "shapeCorners", unfollowed := true, recurses := true, apart := false }
def ShapeCornersSaid : Prop := shapeCornersRow.holds Try.pinned (OpenSpec.ofChange shapeCornersSpec)

/-- ITS FALSE NEIGHBOUR: 'it returns false'. Refute it at one input. -/
def shapeCornersWrong : ChangeSpec := { name := "shapeCorners", fn := fun _ => fun
  | [d1, d2, d3] => { results := [.lit (.bool false)], args := [d1, d2, d3] }
  | _ => none }
def ShapeCornersWrongFalsely : Prop := shapeCornersRow.holds Try.pinned (OpenSpec.ofChange shapeCornersWrong)

/- THE SECOND FORM. 'bulk': how many values and letters a reading holds, each counted each time it is reached (what is shared counts as often as it is met; a slice's spare places count too). A statement '..UptoSaid' is the law's where the arguments, and the package variables that the reading takes, are together of bulk at most 1048576: NARROWER than '..Said'. Prove '..Said' where nothing that the law and all that it calls make is longer than what came in: it says more and counts as full. Else prove '..UptoSaid'. A law counts once. -/
mutual
def uptoBulk {H : Type} : DataW H → Nat
  | .lit (.string bytes) => bytes.length + 1
  | .lit _ => 1
  | .nil => 1
  | .ptr d => uptoBulk d + 1
  | .slice elems spare => uptoBulkAll elems + uptoBulkAll spare + 1
  | .agg parts => uptoBulkAll parts + 1
  | .iface _ d => uptoBulk d + 1
  | .map entries => uptoBulkEntries entries + 1
  | .held _ => 1
def uptoBulkAll {H : Type} : List (DataW H) → Nat
  | [] => 0
  | d :: r => uptoBulk d + uptoBulkAll r
def uptoBulkEntries {H : Type} : List (Lit × DataW H) → Nat
  | [] => 0
  | x :: r => uptoBulkEntry x + uptoBulkEntries r
def uptoBulkEntry {H : Type} : Lit × DataW H → Nat
  | (.string bytes, d) => bytes.length + uptoBulk d + 1
  | (_, d) => uptoBulk d + 1
 end
def uptoSmall : (H : Type) → List (DataW H) → Bool := fun _ ds => decide (uptoBulkAll ds ≤ 1048576)
def OpenSpec.upto (s : _root_.Go.ChangeSpec) : _root_.Go.OpenSpec := { _root_.Go.OpenSpec.ofChange s with cond := some uptoSmall }

/-- 'barcarolelaw08.ShapeMatchesReference', WHERE WHAT IT READS IS OF BULK AT MOST 1048576: true; the input reads as it did. -/
def shapeMatchesReferenceUptoRow : OpenClaim := { program := "ytagokcjbeaddiaa", sum := "ce7f7c54c5ea4aa3efc9e6241676ff546d10695880b4a027a2e9346b6745f0fa", func := "barcarole/barcarolelaw08.ShapeMatchesReference", spec := "shapeMatchesReference", unfollowed := true, recurses := true, apart := false, narrowed := true }
def ShapeMatchesReferenceUptoSaid : Prop := shapeMatchesReferenceUptoRow.holds Try.pinned (OpenSpec.upto shapeMatchesReferenceSpec)

/-- 'barcarolelaw08.ShapeConvex', WHERE WHAT IT READS IS OF BULK AT MOST 1048576: true; the input reads as it did. -/
def shapeConvexUptoRow : OpenClaim := { program := "ytagokcjbeaddiaa", sum := "ce7f7c54c5ea4aa3efc9e6241676ff546d10695880b4a027a2e9346b6745f0fa", func := "barcarole/barcarolelaw08.ShapeConvex", spec := "shapeConvex", unfollowed := true, recurses := true, apart := false, narrowed := true }
def ShapeConvexUptoSaid : Prop := shapeConvexUptoRow.holds Try.pinned (OpenSpec.upto shapeConvexSpec)

/-- 'barcarolelaw08.ShapePoints', WHERE WHAT IT READS IS OF BULK AT MOST 1048576: true; the input reads as it did. -/
def shapePointsUptoRow : OpenClaim := { program := "ytagokcjbeaddiaa", sum := "ce7f7c54c5ea4aa3efc9e6241676ff546d10695880b4a027a2e9346b6745f0fa", func := "barcarole/barcarolelaw08.ShapePoints", spec := "shapePoints", unfollowed := true, recurses := true, apart := false, narrowed := true }
def ShapePointsUptoSaid : Prop := shapePointsUptoRow.holds Try.pinned (OpenSpec.upto shapePointsSpec)

/-- 'barcarolelaw08.ShapeBack', WHERE WHAT IT READS IS OF BULK AT MOST 1048576: true; the input reads as it did. -/
def shapeBackUptoRow : OpenClaim := { program := "ytagokcjbeaddiaa", sum := "ce7f7c54c5ea4aa3efc9e6241676ff546d10695880b4a027a2e9346b6745f0fa", func := "barcarole/barcarolelaw08.ShapeBack", spec := "shapeBack", unfollowed := true, recurses := true, apart := false, narrowed := true }
def ShapeBackUptoSaid : Prop := shapeBackUptoRow.holds Try.pinned (OpenSpec.upto shapeBackSpec)

/-- 'barcarolelaw08.ShapeMoved', WHERE WHAT IT READS IS OF BULK AT MOST 1048576: true; the input reads as it did. -/
def shapeMovedUptoRow : OpenClaim := { program := "ytagokcjbeaddiaa", sum := "ce7f7c54c5ea4aa3efc9e6241676ff546d10695880b4a027a2e9346b6745f0fa", func := "barcarole/barcarolelaw08.ShapeMoved", spec := "shapeMoved", unfollowed := true, recurses := true, apart := false, narrowed := true }
def ShapeMovedUptoSaid : Prop := shapeMovedUptoRow.holds Try.pinned (OpenSpec.upto shapeMovedSpec)

/-- 'barcarolelaw08.ShapeApart', WHERE WHAT IT READS IS OF BULK AT MOST 1048576: true; the input reads as it did. -/
def shapeApartUptoRow : OpenClaim := { program := "ytagokcjbeaddiaa", sum := "ce7f7c54c5ea4aa3efc9e6241676ff546d10695880b4a027a2e9346b6745f0fa", func := "barcarole/barcarolelaw08.ShapeApart", spec := "shapeApart", unfollowed := true, recurses := true, apart := false, narrowed := true }
def ShapeApartUptoSaid : Prop := shapeApartUptoRow.holds Try.pinned (OpenSpec.upto shapeApartSpec)

/-- 'barcarolelaw08.ShapeCorners', WHERE WHAT IT READS IS OF BULK AT MOST 1048576: true; the input reads as it did. -/
def shapeCornersUptoRow : OpenClaim := { program := "ytagokcjbeaddiaa", sum := "ce7f7c54c5ea4aa3efc9e6241676ff546d10695880b4a027a2e9346b6745f0fa", func := "barcarole/barcarolelaw08.ShapeCorners", spec := "shapeCorners", unfollowed := true, recurses := true, apart := false, narrowed := true }
def ShapeCornersUptoSaid : Prop := shapeCornersUptoRow.holds Try.pinned (OpenSpec.upto shapeCornersSpec)

end Rows
end Go.Proofs.Ytagokcjbeaddiaa
