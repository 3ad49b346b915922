/-
  No cell of these rows narrows 'for every input' (looked for: loops, veiled, ifaces, maps, wideKeys, modest, calm, conditions, laid).
  DERIVED. THE GIVEN ROWS OF THIS SEAT. 9 by the template 'for every input the law returns true; each argument reads behind the call as it read before'; 0 by the template 'total and deterministic' (their statements: YtgjcmolocoijiaaTotals.lean).
  GIVEN WITH THE SEED: the statements are not yours to turn. If you find one false, say at which input.
  Laid BY PROGRAM, IN A SANDBOX (cutbox-rows.mjs): the forced cells as the released guide's own fill.sh prints them over the translation 84a01d6f8537877e… (all of the seat's roots in one cut). By AI agents, Wed Nov 11 2026. No macro, syntax, notation, axiom, sorry.
-/
import Derived.Test.YtgjcmolocoijiaaChecked
import GoSem.Claim
import GoSem.ClaimJoined
import GoSem.ClaimMapViews
import Derived.JoinedTies
import Derived.KernelRfl
namespace Go.Proofs.Ytgjcmolocoijiaa
/- THE CELL 'sum', in the pinned program and in every row, IS THE sha256 OF THE DUMP (.gsa) THAT YtgjcmolocoijiaaProg.lean LOADS. Nothing in Lean hashes anything: it is a label: what it is worth is what the hold of that sum in a sandbox is worth. -/
noncomputable def Try.pinned : Pinned := { name := "ytgjcmolocoijiaa", sum := "84a01d6f8537877e8721a3302403b707018d3e47b268fa7453e8ecb80225b075", checked := Try.checked }
namespace Rows
def none {H : Type} : Left H := { results := [], args := [] }

/-- 'barcarolelaw11.SceneBounds': WHATEVER THE INPUT: true; the input reads as it did. -/
def sceneBoundsSpec : ChangeSpec := { name := "sceneBounds", fn := fun _ => fun
  | [d1, d2, d3] => { results := [.lit (.bool true)], args := [d1, d2, d3] }
  | _ => none }
def sceneBoundsRow : OpenClaim := { program := "ytgjcmolocoijiaa", sum := "84a01d6f8537877e8721a3302403b707018d3e47b268fa7453e8ecb80225b075", func := "barcarole/barcarolelaw11.SceneBounds", spec := "sceneBounds", unfollowed := true, recurses := true, apart := false }
def SceneBoundsSaid : Prop := sceneBoundsRow.holds Try.pinned (OpenSpec.ofChange sceneBoundsSpec)

/-- ITS FALSE NEIGHBOUR: 'it returns false'. Refute it at one input. -/
def sceneBoundsWrong : ChangeSpec := { name := "sceneBounds", fn := fun _ => fun
  | [d1, d2, d3] => { results := [.lit (.bool false)], args := [d1, d2, d3] }
  | _ => none }
def SceneBoundsWrongFalsely : Prop := sceneBoundsRow.holds Try.pinned (OpenSpec.ofChange sceneBoundsWrong)

/-- 'barcarolelaw11.SceneBodies': WHATEVER THE INPUT: true; the input reads as it did. -/
def sceneBodiesSpec : ChangeSpec := { name := "sceneBodies", fn := fun _ => fun
  | [d1, d2, d3, d4] => { results := [.lit (.bool true)], args := [d1, d2, d3, d4] }
  | _ => none }
def sceneBodiesRow : OpenClaim := { program := "ytgjcmolocoijiaa", sum := "84a01d6f8537877e8721a3302403b707018d3e47b268fa7453e8ecb80225b075", func := "barcarole/barcarolelaw11.SceneBodies", spec := "sceneBodies", unfollowed := true, recurses := true, apart := false }
def SceneBodiesSaid : Prop := sceneBodiesRow.holds Try.pinned (OpenSpec.ofChange sceneBodiesSpec)

/-- ITS FALSE NEIGHBOUR: 'it returns false'. Refute it at one input. -/
def sceneBodiesWrong : ChangeSpec := { name := "sceneBodies", fn := fun _ => fun
  | [d1, d2, d3, d4] => { results := [.lit (.bool false)], args := [d1, d2, d3, d4] }
  | _ => none }
def SceneBodiesWrongFalsely : Prop := sceneBodiesRow.holds Try.pinned (OpenSpec.ofChange sceneBodiesWrong)

/-- 'barcarolelaw11.SceneDivided': WHATEVER THE INPUT: true; the input reads as it did. -/
def sceneDividedSpec : ChangeSpec := { name := "sceneDivided", fn := fun _ => fun
  | [d1, d2, d3, d4, d5] => { results := [.lit (.bool true)], args := [d1, d2, d3, d4, d5] }
  | _ => none }
def sceneDividedRow : OpenClaim := { program := "ytgjcmolocoijiaa", sum := "84a01d6f8537877e8721a3302403b707018d3e47b268fa7453e8ecb80225b075", func := "barcarole/barcarolelaw11.SceneDivided", spec := "sceneDivided", unfollowed := true, recurses := true, apart := false }
def SceneDividedSaid : Prop := sceneDividedRow.holds Try.pinned (OpenSpec.ofChange sceneDividedSpec)

/-- ITS FALSE NEIGHBOUR: 'it returns false'. Refute it at one input. -/
def sceneDividedWrong : ChangeSpec := { name := "sceneDivided", fn := fun _ => fun
  | [d1, d2, d3, d4, d5] => { results := [.lit (.bool false)], args := [d1, d2, d3, d4, d5] }
  | _ => none }
def SceneDividedWrongFalsely : Prop := sceneDividedRow.holds Try.pinned (OpenSpec.ofChange sceneDividedWrong)

/-- 'barcarolelaw11.SceneMoved': WHATEVER THE INPUT: true; the input reads as it did. -/
def sceneMovedSpec : ChangeSpec := { name := "sceneMoved", fn := fun _ => fun
  | [d1, d2, d3, d4] => { results := [.lit (.bool true)], args := [d1, d2, d3, d4] }
  | _ => none }
def sceneMovedRow : OpenClaim := { program := "ytgjcmolocoijiaa", sum := "84a01d6f8537877e8721a3302403b707018d3e47b268fa7453e8ecb80225b075", func := "barcarole/barcarolelaw11.SceneMoved", spec := "sceneMoved", unfollowed := true, recurses := true, apart := false }
def SceneMovedSaid : Prop := sceneMovedRow.holds Try.pinned (OpenSpec.ofChange sceneMovedSpec)

/-- ITS FALSE NEIGHBOUR: 'it returns false'. Refute it at one input. -/
def sceneMovedWrong : ChangeSpec := { name := "sceneMoved", fn := fun _ => fun
  | [d1, d2, d3, d4] => { results := [.lit (.bool false)], args := [d1, d2, d3, d4] }
  | _ => none }
def SceneMovedWrongFalsely : Prop := sceneMovedRow.holds Try.pinned (OpenSpec.ofChange sceneMovedWrong)

/-- 'barcarolelaw11.SceneInside': WHATEVER THE INPUT: true; the input reads as it did. -/
def sceneInsideSpec : ChangeSpec := { name := "sceneInside", fn := fun _ => fun
  | [d1, d2, d3] => { results := [.lit (.bool true)], args := [d1, d2, d3] }
  | _ => none }
def sceneInsideRow : OpenClaim := { program := "ytgjcmolocoijiaa", sum := "84a01d6f8537877e8721a3302403b707018d3e47b268fa7453e8ecb80225b075", func := "barcarole/barcarolelaw11.SceneInside", spec := "sceneInside", unfollowed := true, recurses := true, apart := false }
def SceneInsideSaid : Prop := sceneInsideRow.holds Try.pinned (OpenSpec.ofChange sceneInsideSpec)

/-- ITS FALSE NEIGHBOUR: 'it returns false'. Refute it at one input. -/
def sceneInsideWrong : ChangeSpec := { name := "sceneInside", fn := fun _ => fun
  | [d1, d2, d3] => { results := [.lit (.bool false)], args := [d1, d2, d3] }
  | _ => none }
def SceneInsideWrongFalsely : Prop := sceneInsideRow.holds Try.pinned (OpenSpec.ofChange sceneInsideWrong)

/-- 'barcarolelaw11.SceneKept': WHATEVER THE INPUT: true; the input reads as it did. -/
def sceneKeptSpec : ChangeSpec := { name := "sceneKept", fn := fun _ => fun
  | [d1, d2, d3, d4] => { results := [.lit (.bool true)], args := [d1, d2, d3, d4] }
  | _ => none }
def sceneKeptRow : OpenClaim := { program := "ytgjcmolocoijiaa", sum := "84a01d6f8537877e8721a3302403b707018d3e47b268fa7453e8ecb80225b075", func := "barcarole/barcarolelaw11.SceneKept", spec := "sceneKept", unfollowed := true, recurses := true, apart := false }
def SceneKeptSaid : Prop := sceneKeptRow.holds Try.pinned (OpenSpec.ofChange sceneKeptSpec)

/-- ITS FALSE NEIGHBOUR: 'it returns false'. Refute it at one input. -/
def sceneKeptWrong : ChangeSpec := { name := "sceneKept", fn := fun _ => fun
  | [d1, d2, d3, d4] => { results := [.lit (.bool false)], args := [d1, d2, d3, d4] }
  | _ => none }
def SceneKeptWrongFalsely : Prop := sceneKeptRow.holds Try.pinned (OpenSpec.ofChange sceneKeptWrong)

/-- 'barcarolelaw08.ShapeCorners': WHATEVER THE INPUT: true; the input reads as it did. -/
def shapeCornersSpec : ChangeSpec := { name := "shapeCorners", fn := fun _ => fun
  | [d1, d2, d3] => { results := [.lit (.bool true)], args := [d1, d2, d3] }
  | _ => none }
def shapeCornersRow : OpenClaim := { program := "ytgjcmolocoijiaa", sum := "84a01d6f8537877e8721a3302403b707018d3e47b268fa7453e8ecb80225b075", func := "barcarole/barcarolelaw08.ShapeCorners", spec := "shapeCorners", unfollowed := true, recurses := true, apart := false }
def ShapeCornersSaid : Prop := shapeCornersRow.holds Try.pinned (OpenSpec.ofChange shapeCornersSpec)

/-- ITS FALSE NEIGHBOUR: 'it returns false'. Refute it at one input. -/
def shapeCornersWrong : ChangeSpec := { name := "shapeCorners", fn := fun _ => fun
  | [d1, d2, d3] => { results := [.lit (.bool false)], args := [d1, d2, d3] }
  | _ => none }
def ShapeCornersWrongFalsely : Prop := shapeCornersRow.holds Try.pinned (OpenSpec.ofChange shapeCornersWrong)

/-- 'barcarolelaw09.SightMatchesReference': WHATEVER THE INPUT: true; the input reads as it did. -/
def sightMatchesReferenceSpec : ChangeSpec := { name := "sightMatchesReference", fn := fun _ => fun
  | [d1, d2, d3, d4, d5] => { results := [.lit (.bool true)], args := [d1, d2, d3, d4, d5] }
  | _ => none }
def sightMatchesReferenceRow : OpenClaim := { program := "ytgjcmolocoijiaa", sum := "84a01d6f8537877e8721a3302403b707018d3e47b268fa7453e8ecb80225b075", func := "barcarole/barcarolelaw09.SightMatchesReference", spec := "sightMatchesReference", unfollowed := true, recurses := true, apart := false }
def SightMatchesReferenceSaid : Prop := sightMatchesReferenceRow.holds Try.pinned (OpenSpec.ofChange sightMatchesReferenceSpec)

/-- ITS FALSE NEIGHBOUR: 'it returns false'. Refute it at one input. -/
def sightMatchesReferenceWrong : ChangeSpec := { name := "sightMatchesReference", fn := fun _ => fun
  | [d1, d2, d3, d4, d5] => { results := [.lit (.bool false)], args := [d1, d2, d3, d4, d5] }
  | _ => none }
def SightMatchesReferenceWrongFalsely : Prop := sightMatchesReferenceRow.holds Try.pinned (OpenSpec.ofChange sightMatchesReferenceWrong)

/-- 'barcarolelaw10.SunGlare': WHATEVER THE INPUT: true; the input reads as it did. -/
def sunGlareSpec : ChangeSpec := { name := "sunGlare", fn := fun _ => fun
  | [d1, d2, d3, d4, d5, d6, d7, d8] => { results := [.lit (.bool true)], args := [d1, d2, d3, d4, d5, d6, d7, d8] }
  | _ => none }
def sunGlareRow : OpenClaim := { program := "ytgjcmolocoijiaa", sum := "84a01d6f8537877e8721a3302403b707018d3e47b268fa7453e8ecb80225b075", func := "barcarole/barcarolelaw10.SunGlare", spec := "sunGlare", unfollowed := true, recurses := true, apart := false }
def SunGlareSaid : Prop := sunGlareRow.holds Try.pinned (OpenSpec.ofChange sunGlareSpec)

/-- ITS FALSE NEIGHBOUR: 'it returns false'. Refute it at one input. -/
def sunGlareWrong : ChangeSpec := { name := "sunGlare", fn := fun _ => fun
  | [d1, d2, d3, d4, d5, d6, d7, d8] => { results := [.lit (.bool false)], args := [d1, d2, d3, d4, d5, d6, d7, d8] }
  | _ => none }
def SunGlareWrongFalsely : Prop := sunGlareRow.holds Try.pinned (OpenSpec.ofChange sunGlareWrong)

/- THE SECOND FORM. 'bulk': how many values and letters a reading holds, each counted each time it is reached (what is shared counts as often as it is met; a slice's spare places count too). A statement '..UptoSaid' is the law's where the arguments, and the package variables that the reading takes, are together of bulk at most 1048576: NARROWER than '..Said'. Prove '..Said' where nothing that the law and all that it calls make is longer than what came in: it says more and counts as full. Else prove '..UptoSaid'. A law counts once. -/
mutual
def uptoBulk {H : Type} : DataW H → Nat
  | .lit (.string bytes) => bytes.length + 1
  | .lit _ => 1
  | .nil => 1
  | .ptr d => uptoBulk d + 1
  | .slice elems spare => uptoBulkAll elems + uptoBulkAll spare + 1
  | .agg parts => uptoBulkAll parts + 1
  | .iface _ d => uptoBulk d + 1
  | .map entries => uptoBulkEntries entries + 1
  | .held _ => 1
def uptoBulkAll {H : Type} : List (DataW H) → Nat
  | [] => 0
  | d :: r => uptoBulk d + uptoBulkAll r
def uptoBulkEntries {H : Type} : List (Lit × DataW H) → Nat
  | [] => 0
  | x :: r => uptoBulkEntry x + uptoBulkEntries r
def uptoBulkEntry {H : Type} : Lit × DataW H → Nat
  | (.string bytes, d) => bytes.length + uptoBulk d + 1
  | (_, d) => uptoBulk d + 1
 end
def uptoSmall : (H : Type) → List (DataW H) → Bool := fun _ ds => decide (uptoBulkAll ds ≤ 1048576)
def OpenSpec.upto (s : _root_.Go.ChangeSpec) : _root_.Go.OpenSpec := { _root_.Go.OpenSpec.ofChange s with cond := some uptoSmall }

/-- 'barcarolelaw11.SceneBounds', WHERE WHAT IT READS IS OF BULK AT MOST 1048576: true; the input reads as it did. -/
def sceneBoundsUptoRow : OpenClaim := { program := "ytgjcmolocoijiaa", sum := "84a01d6f8537877e8721a3302403b707018d3e47b268fa7453e8ecb80225b075", func := "barcarole/barcarolelaw11.SceneBounds", spec := "sceneBounds", unfollowed := true, recurses := true, apart := false, narrowed := true }
def SceneBoundsUptoSaid : Prop := sceneBoundsUptoRow.holds Try.pinned (OpenSpec.upto sceneBoundsSpec)

/-- 'barcarolelaw11.SceneBodies', WHERE WHAT IT READS IS OF BULK AT MOST 1048576: true; the input reads as it did. -/
def sceneBodiesUptoRow : OpenClaim := { program := "ytgjcmolocoijiaa", sum := "84a01d6f8537877e8721a3302403b707018d3e47b268fa7453e8ecb80225b075", func := "barcarole/barcarolelaw11.SceneBodies", spec := "sceneBodies", unfollowed := true, recurses := true, apart := false, narrowed := true }
def SceneBodiesUptoSaid : Prop := sceneBodiesUptoRow.holds Try.pinned (OpenSpec.upto sceneBodiesSpec)

/-- 'barcarolelaw11.SceneDivided', WHERE WHAT IT READS IS OF BULK AT MOST 1048576: true; the input reads as it did. -/
def sceneDividedUptoRow : OpenClaim := { program := "ytgjcmolocoijiaa", sum := "84a01d6f8537877e8721a3302403b707018d3e47b268fa7453e8ecb80225b075", func := "barcarole/barcarolelaw11.SceneDivided", spec := "sceneDivided", unfollowed := true, recurses := true, apart := false, narrowed := true }
def SceneDividedUptoSaid : Prop := sceneDividedUptoRow.holds Try.pinned (OpenSpec.upto sceneDividedSpec)

/-- 'barcarolelaw11.SceneMoved', WHERE WHAT IT READS IS OF BULK AT MOST 1048576: true; the input reads as it did. -/
def sceneMovedUptoRow : OpenClaim := { program := "ytgjcmolocoijiaa", sum := "84a01d6f8537877e8721a3302403b707018d3e47b268fa7453e8ecb80225b075", func := "barcarole/barcarolelaw11.SceneMoved", spec := "sceneMoved", unfollowed := true, recurses := true, apart := false, narrowed := true }
def SceneMovedUptoSaid : Prop := sceneMovedUptoRow.holds Try.pinned (OpenSpec.upto sceneMovedSpec)

/-- 'barcarolelaw11.SceneInside', WHERE WHAT IT READS IS OF BULK AT MOST 1048576: true; the input reads as it did. -/
def sceneInsideUptoRow : OpenClaim := { program := "ytgjcmolocoijiaa", sum := "84a01d6f8537877e8721a3302403b707018d3e47b268fa7453e8ecb80225b075", func := "barcarole/barcarolelaw11.SceneInside", spec := "sceneInside", unfollowed := true, recurses := true, apart := false, narrowed := true }
def SceneInsideUptoSaid : Prop := sceneInsideUptoRow.holds Try.pinned (OpenSpec.upto sceneInsideSpec)

/-- 'barcarolelaw11.SceneKept', WHERE WHAT IT READS IS OF BULK AT MOST 1048576: true; the input reads as it did. -/
def sceneKeptUptoRow : OpenClaim := { program := "ytgjcmolocoijiaa", sum := "84a01d6f8537877e8721a3302403b707018d3e47b268fa7453e8ecb80225b075", func := "barcarole/barcarolelaw11.SceneKept", spec := "sceneKept", unfollowed := true, recurses := true, apart := false, narrowed := true }
def SceneKeptUptoSaid : Prop := sceneKeptUptoRow.holds Try.pinned (OpenSpec.upto sceneKeptSpec)

/-- 'barcarolelaw08.ShapeCorners', WHERE WHAT IT READS IS OF BULK AT MOST 1048576: true; the input reads as it did. -/
def shapeCornersUptoRow : OpenClaim := { program := "ytgjcmolocoijiaa", sum := "84a01d6f8537877e8721a3302403b707018d3e47b268fa7453e8ecb80225b075", func := "barcarole/barcarolelaw08.ShapeCorners", spec := "shapeCorners", unfollowed := true, recurses := true, apart := false, narrowed := true }
def ShapeCornersUptoSaid : Prop := shapeCornersUptoRow.holds Try.pinned (OpenSpec.upto shapeCornersSpec)

/-- 'barcarolelaw09.SightMatchesReference', WHERE WHAT IT READS IS OF BULK AT MOST 1048576: true; the input reads as it did. -/
def sightMatchesReferenceUptoRow : OpenClaim := { program := "ytgjcmolocoijiaa", sum := "84a01d6f8537877e8721a3302403b707018d3e47b268fa7453e8ecb80225b075", func := "barcarole/barcarolelaw09.SightMatchesReference", spec := "sightMatchesReference", unfollowed := true, recurses := true, apart := false, narrowed := true }
def SightMatchesReferenceUptoSaid : Prop := sightMatchesReferenceUptoRow.holds Try.pinned (OpenSpec.upto sightMatchesReferenceSpec)

/-- 'barcarolelaw10.SunGlare', WHERE WHAT IT READS IS OF BULK AT MOST 1048576: true; the input reads as it did. -/
def sunGlareUptoRow : OpenClaim := { program := "ytgjcmolocoijiaa", sum := "84a01d6f8537877e8721a3302403b707018d3e47b268fa7453e8ecb80225b075", func := "barcarole/barcarolelaw10.SunGlare", spec := "sunGlare", unfollowed := true, recurses := true, apart := false, narrowed := true }
def SunGlareUptoSaid : Prop := sunGlareUptoRow.holds Try.pinned (OpenSpec.upto sunGlareSpec)

end Rows
end Go.Proofs.Ytgjcmolocoijiaa
