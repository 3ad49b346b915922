/-
  No cell of these rows narrows 'for every input' (looked for: loops, veiled, ifaces, maps, wideKeys, modest, calm, conditions, laid).
  DERIVED. THE GIVEN ROWS OF THIS SEAT. 11 by the template 'for every input the law returns true; each argument reads behind the call as it read before'; 0 by the template 'total and deterministic' (their statements: YtehlplejcaofoaaTotals.lean).
  GIVEN WITH THE SEED: the statements are not yours to turn. If you find one false, say at which input.
  Laid BY PROGRAM, IN A SANDBOX (cutbox-rows.mjs): the forced cells as the released guide's own fill.sh prints them over the translation 4e5da01ddcf0a5cb… (all of the seat's roots in one cut). By AI agents, Wed Nov 11 2026. No macro, syntax, notation, axiom, sorry.
-/
import Derived.Test.YtehlplejcaofoaaChecked
import GoSem.Claim
import GoSem.ClaimJoined
import GoSem.ClaimMapViews
import Derived.JoinedTies
import Derived.KernelRfl
namespace Go.Proofs.Ytehlplejcaofoaa
/- THE CELL 'sum', in the pinned program and in every row, IS THE sha256 OF THE DUMP (.gsa) THAT YtehlplejcaofoaaProg.lean LOADS. Nothing in Lean hashes anything: it is a label: what it is worth is what the hold of that sum in a sandbox is worth. -/
noncomputable def Try.pinned : Pinned := { name := "ytehlplejcaofoaa", sum := "4e5da01ddcf0a5cbd6d84708aa8003590345b6d63f7026854698c94714308a1f", checked := Try.checked }
namespace Rows
def none {H : Type} : Left H := { results := [], args := [] }

/-- 'barcarolelaw08.ShapeMatchesReference': WHATEVER THE INPUT: true; the input reads as it did. -/
def shapeMatchesReferenceSpec : ChangeSpec := { name := "shapeMatchesReference", fn := fun _ => fun
  | [d1, d2, d3, d4] => { results := [.lit (.bool true)], args := [d1, d2, d3, d4] }
  | _ => none }
def shapeMatchesReferenceRow : OpenClaim := { program := "ytehlplejcaofoaa", sum := "4e5da01ddcf0a5cbd6d84708aa8003590345b6d63f7026854698c94714308a1f", func := "barcarole/barcarolelaw08.ShapeMatchesReference", spec := "shapeMatchesReference", unfollowed := true, recurses := true, apart := false }
def ShapeMatchesReferenceSaid : Prop := shapeMatchesReferenceRow.holds Try.pinned (OpenSpec.ofChange shapeMatchesReferenceSpec)

/-- ITS FALSE NEIGHBOUR: 'it returns false'. Refute it at one input. -/
def shapeMatchesReferenceWrong : ChangeSpec := { name := "shapeMatchesReference", fn := fun _ => fun
  | [d1, d2, d3, d4] => { results := [.lit (.bool false)], args := [d1, d2, d3, d4] }
  | _ => none }
def ShapeMatchesReferenceWrongFalsely : Prop := shapeMatchesReferenceRow.holds Try.pinned (OpenSpec.ofChange shapeMatchesReferenceWrong)

/-- 'barcarolelaw08.ShapeCorners': WHATEVER THE INPUT: true; the input reads as it did. -/
def shapeCornersSpec : ChangeSpec := { name := "shapeCorners", fn := fun _ => fun
  | [d1, d2, d3] => { results := [.lit (.bool true)], args := [d1, d2, d3] }
  | _ => none }
def shapeCornersRow : OpenClaim := { program := "ytehlplejcaofoaa", sum := "4e5da01ddcf0a5cbd6d84708aa8003590345b6d63f7026854698c94714308a1f", func := "barcarole/barcarolelaw08.ShapeCorners", spec := "shapeCorners", unfollowed := true, recurses := true, apart := false }
def ShapeCornersSaid : Prop := shapeCornersRow.holds Try.pinned (OpenSpec.ofChange shapeCornersSpec)

/-- ITS FALSE NEIGHBOUR: 'it returns false'. Refute it at one input. -/
def shapeCornersWrong : ChangeSpec := { name := "shapeCorners", fn := fun _ => fun
  | [d1, d2, d3] => { results := [.lit (.bool false)], args := [d1, d2, d3] }
  | _ => none }
def ShapeCornersWrongFalsely : Prop := shapeCornersRow.holds Try.pinned (OpenSpec.ofChange shapeCornersWrong)

/-- 'barcarolelaw09.SightMatchesReference': WHATEVER THE INPUT: true; the input reads as it did. -/
def sightMatchesReferenceSpec : ChangeSpec := { name := "sightMatchesReference", fn := fun _ => fun
  | [d1, d2, d3, d4, d5] => { results := [.lit (.bool true)], args := [d1, d2, d3, d4, d5] }
  | _ => none }
def sightMatchesReferenceRow : OpenClaim := { program := "ytehlplejcaofoaa", sum := "4e5da01ddcf0a5cbd6d84708aa8003590345b6d63f7026854698c94714308a1f", func := "barcarole/barcarolelaw09.SightMatchesReference", spec := "sightMatchesReference", unfollowed := true, recurses := true, apart := false }
def SightMatchesReferenceSaid : Prop := sightMatchesReferenceRow.holds Try.pinned (OpenSpec.ofChange sightMatchesReferenceSpec)

/-- ITS FALSE NEIGHBOUR: 'it returns false'. Refute it at one input. -/
def sightMatchesReferenceWrong : ChangeSpec := { name := "sightMatchesReference", fn := fun _ => fun
  | [d1, d2, d3, d4, d5] => { results := [.lit (.bool false)], args := [d1, d2, d3, d4, d5] }
  | _ => none }
def SightMatchesReferenceWrongFalsely : Prop := sightMatchesReferenceRow.holds Try.pinned (OpenSpec.ofChange sightMatchesReferenceWrong)

/-- 'barcarolelaw09.SightCertificates': WHATEVER THE INPUT: true; the input reads as it did. -/
def sightCertificatesSpec : ChangeSpec := { name := "sightCertificates", fn := fun _ => fun
  | [d1, d2, d3, d4] => { results := [.lit (.bool true)], args := [d1, d2, d3, d4] }
  | _ => none }
def sightCertificatesRow : OpenClaim := { program := "ytehlplejcaofoaa", sum := "4e5da01ddcf0a5cbd6d84708aa8003590345b6d63f7026854698c94714308a1f", func := "barcarole/barcarolelaw09.SightCertificates", spec := "sightCertificates", unfollowed := true, recurses := true, apart := false }
def SightCertificatesSaid : Prop := sightCertificatesRow.holds Try.pinned (OpenSpec.ofChange sightCertificatesSpec)

/-- ITS FALSE NEIGHBOUR: 'it returns false'. Refute it at one input. -/
def sightCertificatesWrong : ChangeSpec := { name := "sightCertificates", fn := fun _ => fun
  | [d1, d2, d3, d4] => { results := [.lit (.bool false)], args := [d1, d2, d3, d4] }
  | _ => none }
def SightCertificatesWrongFalsely : Prop := sightCertificatesRow.holds Try.pinned (OpenSpec.ofChange sightCertificatesWrong)

/-- 'barcarolelaw09.SightBack': WHATEVER THE INPUT: true; the input reads as it did. -/
def sightBackSpec : ChangeSpec := { name := "sightBack", fn := fun _ => fun
  | [d1, d2, d3] => { results := [.lit (.bool true)], args := [d1, d2, d3] }
  | _ => none }
def sightBackRow : OpenClaim := { program := "ytehlplejcaofoaa", sum := "4e5da01ddcf0a5cbd6d84708aa8003590345b6d63f7026854698c94714308a1f", func := "barcarole/barcarolelaw09.SightBack", spec := "sightBack", unfollowed := true, recurses := true, apart := false }
def SightBackSaid : Prop := sightBackRow.holds Try.pinned (OpenSpec.ofChange sightBackSpec)

/-- ITS FALSE NEIGHBOUR: 'it returns false'. Refute it at one input. -/
def sightBackWrong : ChangeSpec := { name := "sightBack", fn := fun _ => fun
  | [d1, d2, d3] => { results := [.lit (.bool false)], args := [d1, d2, d3] }
  | _ => none }
def SightBackWrongFalsely : Prop := sightBackRow.holds Try.pinned (OpenSpec.ofChange sightBackWrong)

/-- 'barcarolelaw09.SightBodies': WHATEVER THE INPUT: true; the input reads as it did. -/
def sightBodiesSpec : ChangeSpec := { name := "sightBodies", fn := fun _ => fun
  | [d1, d2, d3, d4] => { results := [.lit (.bool true)], args := [d1, d2, d3, d4] }
  | _ => none }
def sightBodiesRow : OpenClaim := { program := "ytehlplejcaofoaa", sum := "4e5da01ddcf0a5cbd6d84708aa8003590345b6d63f7026854698c94714308a1f", func := "barcarole/barcarolelaw09.SightBodies", spec := "sightBodies", unfollowed := true, recurses := true, apart := false }
def SightBodiesSaid : Prop := sightBodiesRow.holds Try.pinned (OpenSpec.ofChange sightBodiesSpec)

/-- ITS FALSE NEIGHBOUR: 'it returns false'. Refute it at one input. -/
def sightBodiesWrong : ChangeSpec := { name := "sightBodies", fn := fun _ => fun
  | [d1, d2, d3, d4] => { results := [.lit (.bool false)], args := [d1, d2, d3, d4] }
  | _ => none }
def SightBodiesWrongFalsely : Prop := sightBodiesRow.holds Try.pinned (OpenSpec.ofChange sightBodiesWrong)

/-- 'barcarolelaw09.SightOrder': WHATEVER THE INPUT: true; the input reads as it did. -/
def sightOrderSpec : ChangeSpec := { name := "sightOrder", fn := fun _ => fun
  | [d1, d2, d3] => { results := [.lit (.bool true)], args := [d1, d2, d3] }
  | _ => none }
def sightOrderRow : OpenClaim := { program := "ytehlplejcaofoaa", sum := "4e5da01ddcf0a5cbd6d84708aa8003590345b6d63f7026854698c94714308a1f", func := "barcarole/barcarolelaw09.SightOrder", spec := "sightOrder", unfollowed := true, recurses := true, apart := false }
def SightOrderSaid : Prop := sightOrderRow.holds Try.pinned (OpenSpec.ofChange sightOrderSpec)

/-- ITS FALSE NEIGHBOUR: 'it returns false'. Refute it at one input. -/
def sightOrderWrong : ChangeSpec := { name := "sightOrder", fn := fun _ => fun
  | [d1, d2, d3] => { results := [.lit (.bool false)], args := [d1, d2, d3] }
  | _ => none }
def SightOrderWrongFalsely : Prop := sightOrderRow.holds Try.pinned (OpenSpec.ofChange sightOrderWrong)

/-- 'barcarolelaw09.SightMoves': WHATEVER THE INPUT: true; the input reads as it did. -/
def sightMovesSpec : ChangeSpec := { name := "sightMoves", fn := fun _ => fun
  | [d1, d2, d3, d4] => { results := [.lit (.bool true)], args := [d1, d2, d3, d4] }
  | _ => none }
def sightMovesRow : OpenClaim := { program := "ytehlplejcaofoaa", sum := "4e5da01ddcf0a5cbd6d84708aa8003590345b6d63f7026854698c94714308a1f", func := "barcarole/barcarolelaw09.SightMoves", spec := "sightMoves", unfollowed := true, recurses := true, apart := false }
def SightMovesSaid : Prop := sightMovesRow.holds Try.pinned (OpenSpec.ofChange sightMovesSpec)

/-- ITS FALSE NEIGHBOUR: 'it returns false'. Refute it at one input. -/
def sightMovesWrong : ChangeSpec := { name := "sightMoves", fn := fun _ => fun
  | [d1, d2, d3, d4] => { results := [.lit (.bool false)], args := [d1, d2, d3, d4] }
  | _ => none }
def SightMovesWrongFalsely : Prop := sightMovesRow.holds Try.pinned (OpenSpec.ofChange sightMovesWrong)

/-- 'barcarolelaw09.SightHalves': WHATEVER THE INPUT: true; the input reads as it did. -/
def sightHalvesSpec : ChangeSpec := { name := "sightHalves", fn := fun _ => fun
  | [d1, d2, d3] => { results := [.lit (.bool true)], args := [d1, d2, d3] }
  | _ => none }
def sightHalvesRow : OpenClaim := { program := "ytehlplejcaofoaa", sum := "4e5da01ddcf0a5cbd6d84708aa8003590345b6d63f7026854698c94714308a1f", func := "barcarole/barcarolelaw09.SightHalves", spec := "sightHalves", unfollowed := true, recurses := true, apart := false }
def SightHalvesSaid : Prop := sightHalvesRow.holds Try.pinned (OpenSpec.ofChange sightHalvesSpec)

/-- ITS FALSE NEIGHBOUR: 'it returns false'. Refute it at one input. -/
def sightHalvesWrong : ChangeSpec := { name := "sightHalves", fn := fun _ => fun
  | [d1, d2, d3] => { results := [.lit (.bool false)], args := [d1, d2, d3] }
  | _ => none }
def SightHalvesWrongFalsely : Prop := sightHalvesRow.holds Try.pinned (OpenSpec.ofChange sightHalvesWrong)

/-- 'barcarolelaw09.SightShares': WHATEVER THE INPUT: true; the input reads as it did. -/
def sightSharesSpec : ChangeSpec := { name := "sightShares", fn := fun _ => fun
  | [d1, d2, d3, d4] => { results := [.lit (.bool true)], args := [d1, d2, d3, d4] }
  | _ => none }
def sightSharesRow : OpenClaim := { program := "ytehlplejcaofoaa", sum := "4e5da01ddcf0a5cbd6d84708aa8003590345b6d63f7026854698c94714308a1f", func := "barcarole/barcarolelaw09.SightShares", spec := "sightShares", unfollowed := true, recurses := true, apart := false }
def SightSharesSaid : Prop := sightSharesRow.holds Try.pinned (OpenSpec.ofChange sightSharesSpec)

/-- ITS FALSE NEIGHBOUR: 'it returns false'. Refute it at one input. -/
def sightSharesWrong : ChangeSpec := { name := "sightShares", fn := fun _ => fun
  | [d1, d2, d3, d4] => { results := [.lit (.bool false)], args := [d1, d2, d3, d4] }
  | _ => none }
def SightSharesWrongFalsely : Prop := sightSharesRow.holds Try.pinned (OpenSpec.ofChange sightSharesWrong)

/-- 'barcarolelaw09.SightInside': WHATEVER THE INPUT: true; the input reads as it did. -/
def sightInsideSpec : ChangeSpec := { name := "sightInside", fn := fun _ => fun
  | [d1, d2, d3] => { results := [.lit (.bool true)], args := [d1, d2, d3] }
  | _ => none }
def sightInsideRow : OpenClaim := { program := "ytehlplejcaofoaa", sum := "4e5da01ddcf0a5cbd6d84708aa8003590345b6d63f7026854698c94714308a1f", func := "barcarole/barcarolelaw09.SightInside", spec := "sightInside", unfollowed := true, recurses := true, apart := false }
def SightInsideSaid : Prop := sightInsideRow.holds Try.pinned (OpenSpec.ofChange sightInsideSpec)

/-- ITS FALSE NEIGHBOUR: 'it returns false'. Refute it at one input. -/
def sightInsideWrong : ChangeSpec := { name := "sightInside", fn := fun _ => fun
  | [d1, d2, d3] => { results := [.lit (.bool false)], args := [d1, d2, d3] }
  | _ => none }
def SightInsideWrongFalsely : Prop := sightInsideRow.holds Try.pinned (OpenSpec.ofChange sightInsideWrong)

/- THE SECOND FORM. 'bulk': how many values and letters a reading holds, each counted each time it is reached (what is shared counts as often as it is met; a slice's spare places count too). A statement '..UptoSaid' is the law's where the arguments, and the package variables that the reading takes, are together of bulk at most 1048576: NARROWER than '..Said'. Prove '..Said' where nothing that the law and all that it calls make is longer than what came in: it says more and counts as full. Else prove '..UptoSaid'. A law counts once. -/
mutual
def uptoBulk {H : Type} : DataW H → Nat
  | .lit (.string bytes) => bytes.length + 1
  | .lit _ => 1
  | .nil => 1
  | .ptr d => uptoBulk d + 1
  | .slice elems spare => uptoBulkAll elems + uptoBulkAll spare + 1
  | .agg parts => uptoBulkAll parts + 1
  | .iface _ d => uptoBulk d + 1
  | .map entries => uptoBulkEntries entries + 1
  | .held _ => 1
def uptoBulkAll {H : Type} : List (DataW H) → Nat
  | [] => 0
  | d :: r => uptoBulk d + uptoBulkAll r
def uptoBulkEntries {H : Type} : List (Lit × DataW H) → Nat
  | [] => 0
  | x :: r => uptoBulkEntry x + uptoBulkEntries r
def uptoBulkEntry {H : Type} : Lit × DataW H → Nat
  | (.string bytes, d) => bytes.length + uptoBulk d + 1
  | (_, d) => uptoBulk d + 1
 end
def uptoSmall : (H : Type) → List (DataW H) → Bool := fun _ ds => decide (uptoBulkAll ds ≤ 1048576)
def OpenSpec.upto (s : _root_.Go.ChangeSpec) : _root_.Go.OpenSpec := { _root_.Go.OpenSpec.ofChange s with cond := some uptoSmall }

/-- 'barcarolelaw08.ShapeMatchesReference', WHERE WHAT IT READS IS OF BULK AT MOST 1048576: true; the input reads as it did. -/
def shapeMatchesReferenceUptoRow : OpenClaim := { program := "ytehlplejcaofoaa", sum := "4e5da01ddcf0a5cbd6d84708aa8003590345b6d63f7026854698c94714308a1f", func := "barcarole/barcarolelaw08.ShapeMatchesReference", spec := "shapeMatchesReference", unfollowed := true, recurses := true, apart := false, narrowed := true }
def ShapeMatchesReferenceUptoSaid : Prop := shapeMatchesReferenceUptoRow.holds Try.pinned (OpenSpec.upto shapeMatchesReferenceSpec)

/-- 'barcarolelaw08.ShapeCorners', WHERE WHAT IT READS IS OF BULK AT MOST 1048576: true; the input reads as it did. -/
def shapeCornersUptoRow : OpenClaim := { program := "ytehlplejcaofoaa", sum := "4e5da01ddcf0a5cbd6d84708aa8003590345b6d63f7026854698c94714308a1f", func := "barcarole/barcarolelaw08.ShapeCorners", spec := "shapeCorners", unfollowed := true, recurses := true, apart := false, narrowed := true }
def ShapeCornersUptoSaid : Prop := shapeCornersUptoRow.holds Try.pinned (OpenSpec.upto shapeCornersSpec)

/-- 'barcarolelaw09.SightMatchesReference', WHERE WHAT IT READS IS OF BULK AT MOST 1048576: true; the input reads as it did. -/
def sightMatchesReferenceUptoRow : OpenClaim := { program := "ytehlplejcaofoaa", sum := "4e5da01ddcf0a5cbd6d84708aa8003590345b6d63f7026854698c94714308a1f", func := "barcarole/barcarolelaw09.SightMatchesReference", spec := "sightMatchesReference", unfollowed := true, recurses := true, apart := false, narrowed := true }
def SightMatchesReferenceUptoSaid : Prop := sightMatchesReferenceUptoRow.holds Try.pinned (OpenSpec.upto sightMatchesReferenceSpec)

/-- 'barcarolelaw09.SightCertificates', WHERE WHAT IT READS IS OF BULK AT MOST 1048576: true; the input reads as it did. -/
def sightCertificatesUptoRow : OpenClaim := { program := "ytehlplejcaofoaa", sum := "4e5da01ddcf0a5cbd6d84708aa8003590345b6d63f7026854698c94714308a1f", func := "barcarole/barcarolelaw09.SightCertificates", spec := "sightCertificates", unfollowed := true, recurses := true, apart := false, narrowed := true }
def SightCertificatesUptoSaid : Prop := sightCertificatesUptoRow.holds Try.pinned (OpenSpec.upto sightCertificatesSpec)

/-- 'barcarolelaw09.SightBack', WHERE WHAT IT READS IS OF BULK AT MOST 1048576: true; the input reads as it did. -/
def sightBackUptoRow : OpenClaim := { program := "ytehlplejcaofoaa", sum := "4e5da01ddcf0a5cbd6d84708aa8003590345b6d63f7026854698c94714308a1f", func := "barcarole/barcarolelaw09.SightBack", spec := "sightBack", unfollowed := true, recurses := true, apart := false, narrowed := true }
def SightBackUptoSaid : Prop := sightBackUptoRow.holds Try.pinned (OpenSpec.upto sightBackSpec)

/-- 'barcarolelaw09.SightBodies', WHERE WHAT IT READS IS OF BULK AT MOST 1048576: true; the input reads as it did. -/
def sightBodiesUptoRow : OpenClaim := { program := "ytehlplejcaofoaa", sum := "4e5da01ddcf0a5cbd6d84708aa8003590345b6d63f7026854698c94714308a1f", func := "barcarole/barcarolelaw09.SightBodies", spec := "sightBodies", unfollowed := true, recurses := true, apart := false, narrowed := true }
def SightBodiesUptoSaid : Prop := sightBodiesUptoRow.holds Try.pinned (OpenSpec.upto sightBodiesSpec)

/-- 'barcarolelaw09.SightOrder', WHERE WHAT IT READS IS OF BULK AT MOST 1048576: true; the input reads as it did. -/
def sightOrderUptoRow : OpenClaim := { program := "ytehlplejcaofoaa", sum := "4e5da01ddcf0a5cbd6d84708aa8003590345b6d63f7026854698c94714308a1f", func := "barcarole/barcarolelaw09.SightOrder", spec := "sightOrder", unfollowed := true, recurses := true, apart := false, narrowed := true }
def SightOrderUptoSaid : Prop := sightOrderUptoRow.holds Try.pinned (OpenSpec.upto sightOrderSpec)

/-- 'barcarolelaw09.SightMoves', WHERE WHAT IT READS IS OF BULK AT MOST 1048576: true; the input reads as it did. -/
def sightMovesUptoRow : OpenClaim := { program := "ytehlplejcaofoaa", sum := "4e5da01ddcf0a5cbd6d84708aa8003590345b6d63f7026854698c94714308a1f", func := "barcarole/barcarolelaw09.SightMoves", spec := "sightMoves", unfollowed := true, recurses := true, apart := false, narrowed := true }
def SightMovesUptoSaid : Prop := sightMovesUptoRow.holds Try.pinned (OpenSpec.upto sightMovesSpec)

/-- 'barcarolelaw09.SightHalves', WHERE WHAT IT READS IS OF BULK AT MOST 1048576: true; the input reads as it did. -/
def sightHalvesUptoRow : OpenClaim := { program := "ytehlplejcaofoaa", sum := "4e5da01ddcf0a5cbd6d84708aa8003590345b6d63f7026854698c94714308a1f", func := "barcarole/barcarolelaw09.SightHalves", spec := "sightHalves", unfollowed := true, recurses := true, apart := false, narrowed := true }
def SightHalvesUptoSaid : Prop := sightHalvesUptoRow.holds Try.pinned (OpenSpec.upto sightHalvesSpec)

/-- 'barcarolelaw09.SightShares', WHERE WHAT IT READS IS OF BULK AT MOST 1048576: true; the input reads as it did. -/
def sightSharesUptoRow : OpenClaim := { program := "ytehlplejcaofoaa", sum := "4e5da01ddcf0a5cbd6d84708aa8003590345b6d63f7026854698c94714308a1f", func := "barcarole/barcarolelaw09.SightShares", spec := "sightShares", unfollowed := true, recurses := true, apart := false, narrowed := true }
def SightSharesUptoSaid : Prop := sightSharesUptoRow.holds Try.pinned (OpenSpec.upto sightSharesSpec)

/-- 'barcarolelaw09.SightInside', WHERE WHAT IT READS IS OF BULK AT MOST 1048576: true; the input reads as it did. -/
def sightInsideUptoRow : OpenClaim := { program := "ytehlplejcaofoaa", sum := "4e5da01ddcf0a5cbd6d84708aa8003590345b6d63f7026854698c94714308a1f", func := "barcarole/barcarolelaw09.SightInside", spec := "sightInside", unfollowed := true, recurses := true, apart := false, narrowed := true }
def SightInsideUptoSaid : Prop := sightInsideUptoRow.holds Try.pinned (OpenSpec.upto sightInsideSpec)

end Rows
end Go.Proofs.Ytehlplejcaofoaa
