/-
  No cell of these rows narrows 'for every input' (looked for: loops, veiled, ifaces, maps, wideKeys, modest, calm, conditions, laid).
  DERIVED. THE GIVEN ROWS OF THIS SEAT. 11 by the template 'for every input the law returns true; each argument reads behind the call as it read before'; 0 by the template 'total and deterministic' (their statements: YtjjimbaogpmbmaaTotals.lean).
  GIVEN WITH THE SEED: the statements are not yours to turn. If you find one false, say at which input.
  Laid BY PROGRAM, IN A SANDBOX (cutbox-rows.mjs): the forced cells as the released guide's own fill.sh prints them over the translation bdbbb1e120a840ba… (all of the seat's roots in one cut). By AI agents, Wed Nov 11 2026. No macro, syntax, notation, axiom, sorry.
-/
import Derived.Test.YtjjimbaogpmbmaaChecked
import GoSem.Claim
import GoSem.ClaimJoined
import GoSem.ClaimMapViews
import Derived.JoinedTies
import Derived.KernelRfl
namespace Go.Proofs.Ytjjimbaogpmbmaa
/- THE CELL 'sum', in the pinned program and in every row, IS THE sha256 OF THE DUMP (.gsa) THAT YtjjimbaogpmbmaaProg.lean LOADS. Nothing in Lean hashes anything: it is a label: what it is worth is what the hold of that sum in a sandbox is worth. -/
noncomputable def Try.pinned : Pinned := { name := "ytjjimbaogpmbmaa", sum := "bdbbb1e120a840ba2f5f80e61783000b40a36f13be62ff7dad0f192baf1f0c62", checked := Try.checked }
namespace Rows
def none {H : Type} : Left H := { results := [], args := [] }

/-- 'barcarolelaw10.SunDays': WHATEVER THE INPUT: true; the input reads as it did. -/
def sunDaysSpec : ChangeSpec := { name := "sunDays", fn := fun _ => fun
  | [d1, d2] => { results := [.lit (.bool true)], args := [d1, d2] }
  | _ => none }
def sunDaysRow : OpenClaim := { program := "ytjjimbaogpmbmaa", sum := "bdbbb1e120a840ba2f5f80e61783000b40a36f13be62ff7dad0f192baf1f0c62", func := "barcarole/barcarolelaw10.SunDays", spec := "sunDays", unfollowed := true, recurses := true, apart := false }
def SunDaysSaid : Prop := sunDaysRow.holds Try.pinned (OpenSpec.ofChange sunDaysSpec)

/-- ITS FALSE NEIGHBOUR: 'it returns false'. Refute it at one input. -/
def sunDaysWrong : ChangeSpec := { name := "sunDays", fn := fun _ => fun
  | [d1, d2] => { results := [.lit (.bool false)], args := [d1, d2] }
  | _ => none }
def SunDaysWrongFalsely : Prop := sunDaysRow.holds Try.pinned (OpenSpec.ofChange sunDaysWrong)

/-- 'barcarolelaw10.SunShade': WHATEVER THE INPUT: true; the input reads as it did. -/
def sunShadeSpec : ChangeSpec := { name := "sunShade", fn := fun _ => fun
  | [d1, d2, d3, d4, d5] => { results := [.lit (.bool true)], args := [d1, d2, d3, d4, d5] }
  | _ => none }
def sunShadeRow : OpenClaim := { program := "ytjjimbaogpmbmaa", sum := "bdbbb1e120a840ba2f5f80e61783000b40a36f13be62ff7dad0f192baf1f0c62", func := "barcarole/barcarolelaw10.SunShade", spec := "sunShade", unfollowed := true, recurses := true, apart := false }
def SunShadeSaid : Prop := sunShadeRow.holds Try.pinned (OpenSpec.ofChange sunShadeSpec)

/-- ITS FALSE NEIGHBOUR: 'it returns false'. Refute it at one input. -/
def sunShadeWrong : ChangeSpec := { name := "sunShade", fn := fun _ => fun
  | [d1, d2, d3, d4, d5] => { results := [.lit (.bool false)], args := [d1, d2, d3, d4, d5] }
  | _ => none }
def SunShadeWrongFalsely : Prop := sunShadeRow.holds Try.pinned (OpenSpec.ofChange sunShadeWrong)

/-- 'barcarolelaw10.SunGlare': WHATEVER THE INPUT: true; the input reads as it did. -/
def sunGlareSpec : ChangeSpec := { name := "sunGlare", fn := fun _ => fun
  | [d1, d2, d3, d4, d5, d6, d7, d8] => { results := [.lit (.bool true)], args := [d1, d2, d3, d4, d5, d6, d7, d8] }
  | _ => none }
def sunGlareRow : OpenClaim := { program := "ytjjimbaogpmbmaa", sum := "bdbbb1e120a840ba2f5f80e61783000b40a36f13be62ff7dad0f192baf1f0c62", func := "barcarole/barcarolelaw10.SunGlare", spec := "sunGlare", unfollowed := true, recurses := true, apart := false }
def SunGlareSaid : Prop := sunGlareRow.holds Try.pinned (OpenSpec.ofChange sunGlareSpec)

/-- ITS FALSE NEIGHBOUR: 'it returns false'. Refute it at one input. -/
def sunGlareWrong : ChangeSpec := { name := "sunGlare", fn := fun _ => fun
  | [d1, d2, d3, d4, d5, d6, d7, d8] => { results := [.lit (.bool false)], args := [d1, d2, d3, d4, d5, d6, d7, d8] }
  | _ => none }
def SunGlareWrongFalsely : Prop := sunGlareRow.holds Try.pinned (OpenSpec.ofChange sunGlareWrong)

/-- 'barcarolelaw10.SunMoves': WHATEVER THE INPUT: true; the input reads as it did. -/
def sunMovesSpec : ChangeSpec := { name := "sunMoves", fn := fun _ => fun
  | [d1, d2, d3, d4, d5, d6, d7] => { results := [.lit (.bool true)], args := [d1, d2, d3, d4, d5, d6, d7] }
  | _ => none }
def sunMovesRow : OpenClaim := { program := "ytjjimbaogpmbmaa", sum := "bdbbb1e120a840ba2f5f80e61783000b40a36f13be62ff7dad0f192baf1f0c62", func := "barcarole/barcarolelaw10.SunMoves", spec := "sunMoves", unfollowed := true, recurses := true, apart := false }
def SunMovesSaid : Prop := sunMovesRow.holds Try.pinned (OpenSpec.ofChange sunMovesSpec)

/-- ITS FALSE NEIGHBOUR: 'it returns false'. Refute it at one input. -/
def sunMovesWrong : ChangeSpec := { name := "sunMoves", fn := fun _ => fun
  | [d1, d2, d3, d4, d5, d6, d7] => { results := [.lit (.bool false)], args := [d1, d2, d3, d4, d5, d6, d7] }
  | _ => none }
def SunMovesWrongFalsely : Prop := sunMovesRow.holds Try.pinned (OpenSpec.ofChange sunMovesWrong)

/-- 'barcarolelaw10.SunRepeats': WHATEVER THE INPUT: true; the input reads as it did. -/
def sunRepeatsSpec : ChangeSpec := { name := "sunRepeats", fn := fun _ => fun
  | [d1, d2, d3] => { results := [.lit (.bool true)], args := [d1, d2, d3] }
  | _ => none }
def sunRepeatsRow : OpenClaim := { program := "ytjjimbaogpmbmaa", sum := "bdbbb1e120a840ba2f5f80e61783000b40a36f13be62ff7dad0f192baf1f0c62", func := "barcarole/barcarolelaw10.SunRepeats", spec := "sunRepeats", unfollowed := true, recurses := true, apart := false }
def SunRepeatsSaid : Prop := sunRepeatsRow.holds Try.pinned (OpenSpec.ofChange sunRepeatsSpec)

/-- ITS FALSE NEIGHBOUR: 'it returns false'. Refute it at one input. -/
def sunRepeatsWrong : ChangeSpec := { name := "sunRepeats", fn := fun _ => fun
  | [d1, d2, d3] => { results := [.lit (.bool false)], args := [d1, d2, d3] }
  | _ => none }
def SunRepeatsWrongFalsely : Prop := sunRepeatsRow.holds Try.pinned (OpenSpec.ofChange sunRepeatsWrong)

/-- 'barcarolelaw08.ShapeCorners': WHATEVER THE INPUT: true; the input reads as it did. -/
def shapeCornersSpec : ChangeSpec := { name := "shapeCorners", fn := fun _ => fun
  | [d1, d2, d3] => { results := [.lit (.bool true)], args := [d1, d2, d3] }
  | _ => none }
def shapeCornersRow : OpenClaim := { program := "ytjjimbaogpmbmaa", sum := "bdbbb1e120a840ba2f5f80e61783000b40a36f13be62ff7dad0f192baf1f0c62", func := "barcarole/barcarolelaw08.ShapeCorners", spec := "shapeCorners", unfollowed := true, recurses := true, apart := false }
def ShapeCornersSaid : Prop := shapeCornersRow.holds Try.pinned (OpenSpec.ofChange shapeCornersSpec)

/-- ITS FALSE NEIGHBOUR: 'it returns false'. Refute it at one input. -/
def shapeCornersWrong : ChangeSpec := { name := "shapeCorners", fn := fun _ => fun
  | [d1, d2, d3] => { results := [.lit (.bool false)], args := [d1, d2, d3] }
  | _ => none }
def ShapeCornersWrongFalsely : Prop := shapeCornersRow.holds Try.pinned (OpenSpec.ofChange shapeCornersWrong)

/-- 'barcarolelaw09.SightMatchesReference': WHATEVER THE INPUT: true; the input reads as it did. -/
def sightMatchesReferenceSpec : ChangeSpec := { name := "sightMatchesReference", fn := fun _ => fun
  | [d1, d2, d3, d4, d5] => { results := [.lit (.bool true)], args := [d1, d2, d3, d4, d5] }
  | _ => none }
def sightMatchesReferenceRow : OpenClaim := { program := "ytjjimbaogpmbmaa", sum := "bdbbb1e120a840ba2f5f80e61783000b40a36f13be62ff7dad0f192baf1f0c62", func := "barcarole/barcarolelaw09.SightMatchesReference", spec := "sightMatchesReference", unfollowed := true, recurses := true, apart := false }
def SightMatchesReferenceSaid : Prop := sightMatchesReferenceRow.holds Try.pinned (OpenSpec.ofChange sightMatchesReferenceSpec)

/-- ITS FALSE NEIGHBOUR: 'it returns false'. Refute it at one input. -/
def sightMatchesReferenceWrong : ChangeSpec := { name := "sightMatchesReference", fn := fun _ => fun
  | [d1, d2, d3, d4, d5] => { results := [.lit (.bool false)], args := [d1, d2, d3, d4, d5] }
  | _ => none }
def SightMatchesReferenceWrongFalsely : Prop := sightMatchesReferenceRow.holds Try.pinned (OpenSpec.ofChange sightMatchesReferenceWrong)

/-- 'barcarolelaw09.SightBodies': WHATEVER THE INPUT: true; the input reads as it did. -/
def sightBodiesSpec : ChangeSpec := { name := "sightBodies", fn := fun _ => fun
  | [d1, d2, d3, d4] => { results := [.lit (.bool true)], args := [d1, d2, d3, d4] }
  | _ => none }
def sightBodiesRow : OpenClaim := { program := "ytjjimbaogpmbmaa", sum := "bdbbb1e120a840ba2f5f80e61783000b40a36f13be62ff7dad0f192baf1f0c62", func := "barcarole/barcarolelaw09.SightBodies", spec := "sightBodies", unfollowed := true, recurses := true, apart := false }
def SightBodiesSaid : Prop := sightBodiesRow.holds Try.pinned (OpenSpec.ofChange sightBodiesSpec)

/-- ITS FALSE NEIGHBOUR: 'it returns false'. Refute it at one input. -/
def sightBodiesWrong : ChangeSpec := { name := "sightBodies", fn := fun _ => fun
  | [d1, d2, d3, d4] => { results := [.lit (.bool false)], args := [d1, d2, d3, d4] }
  | _ => none }
def SightBodiesWrongFalsely : Prop := sightBodiesRow.holds Try.pinned (OpenSpec.ofChange sightBodiesWrong)

/-- 'barcarolelaw09.SightOrder': WHATEVER THE INPUT: true; the input reads as it did. -/
def sightOrderSpec : ChangeSpec := { name := "sightOrder", fn := fun _ => fun
  | [d1, d2, d3] => { results := [.lit (.bool true)], args := [d1, d2, d3] }
  | _ => none }
def sightOrderRow : OpenClaim := { program := "ytjjimbaogpmbmaa", sum := "bdbbb1e120a840ba2f5f80e61783000b40a36f13be62ff7dad0f192baf1f0c62", func := "barcarole/barcarolelaw09.SightOrder", spec := "sightOrder", unfollowed := true, recurses := true, apart := false }
def SightOrderSaid : Prop := sightOrderRow.holds Try.pinned (OpenSpec.ofChange sightOrderSpec)

/-- ITS FALSE NEIGHBOUR: 'it returns false'. Refute it at one input. -/
def sightOrderWrong : ChangeSpec := { name := "sightOrder", fn := fun _ => fun
  | [d1, d2, d3] => { results := [.lit (.bool false)], args := [d1, d2, d3] }
  | _ => none }
def SightOrderWrongFalsely : Prop := sightOrderRow.holds Try.pinned (OpenSpec.ofChange sightOrderWrong)

/-- 'barcarolelaw09.SightMoves': WHATEVER THE INPUT: true; the input reads as it did. -/
def sightMovesSpec : ChangeSpec := { name := "sightMoves", fn := fun _ => fun
  | [d1, d2, d3, d4] => { results := [.lit (.bool true)], args := [d1, d2, d3, d4] }
  | _ => none }
def sightMovesRow : OpenClaim := { program := "ytjjimbaogpmbmaa", sum := "bdbbb1e120a840ba2f5f80e61783000b40a36f13be62ff7dad0f192baf1f0c62", func := "barcarole/barcarolelaw09.SightMoves", spec := "sightMoves", unfollowed := true, recurses := true, apart := false }
def SightMovesSaid : Prop := sightMovesRow.holds Try.pinned (OpenSpec.ofChange sightMovesSpec)

/-- ITS FALSE NEIGHBOUR: 'it returns false'. Refute it at one input. -/
def sightMovesWrong : ChangeSpec := { name := "sightMoves", fn := fun _ => fun
  | [d1, d2, d3, d4] => { results := [.lit (.bool false)], args := [d1, d2, d3, d4] }
  | _ => none }
def SightMovesWrongFalsely : Prop := sightMovesRow.holds Try.pinned (OpenSpec.ofChange sightMovesWrong)

/-- 'barcarolelaw09.SightShares': WHATEVER THE INPUT: true; the input reads as it did. -/
def sightSharesSpec : ChangeSpec := { name := "sightShares", fn := fun _ => fun
  | [d1, d2, d3, d4] => { results := [.lit (.bool true)], args := [d1, d2, d3, d4] }
  | _ => none }
def sightSharesRow : OpenClaim := { program := "ytjjimbaogpmbmaa", sum := "bdbbb1e120a840ba2f5f80e61783000b40a36f13be62ff7dad0f192baf1f0c62", func := "barcarole/barcarolelaw09.SightShares", spec := "sightShares", unfollowed := true, recurses := true, apart := false }
def SightSharesSaid : Prop := sightSharesRow.holds Try.pinned (OpenSpec.ofChange sightSharesSpec)

/-- ITS FALSE NEIGHBOUR: 'it returns false'. Refute it at one input. -/
def sightSharesWrong : ChangeSpec := { name := "sightShares", fn := fun _ => fun
  | [d1, d2, d3, d4] => { results := [.lit (.bool false)], args := [d1, d2, d3, d4] }
  | _ => none }
def SightSharesWrongFalsely : Prop := sightSharesRow.holds Try.pinned (OpenSpec.ofChange sightSharesWrong)

/- THE SECOND FORM. 'bulk': how many values and letters a reading holds, each counted each time it is reached (what is shared counts as often as it is met; a slice's spare places count too). A statement '..UptoSaid' is the law's where the arguments, and the package variables that the reading takes, are together of bulk at most 1048576: NARROWER than '..Said'. Prove '..Said' where nothing that the law and all that it calls make is longer than what came in: it says more and counts as full. Else prove '..UptoSaid'. A law counts once. -/
mutual
def uptoBulk {H : Type} : DataW H → Nat
  | .lit (.string bytes) => bytes.length + 1
  | .lit _ => 1
  | .nil => 1
  | .ptr d => uptoBulk d + 1
  | .slice elems spare => uptoBulkAll elems + uptoBulkAll spare + 1
  | .agg parts => uptoBulkAll parts + 1
  | .iface _ d => uptoBulk d + 1
  | .map entries => uptoBulkEntries entries + 1
  | .held _ => 1
def uptoBulkAll {H : Type} : List (DataW H) → Nat
  | [] => 0
  | d :: r => uptoBulk d + uptoBulkAll r
def uptoBulkEntries {H : Type} : List (Lit × DataW H) → Nat
  | [] => 0
  | x :: r => uptoBulkEntry x + uptoBulkEntries r
def uptoBulkEntry {H : Type} : Lit × DataW H → Nat
  | (.string bytes, d) => bytes.length + uptoBulk d + 1
  | (_, d) => uptoBulk d + 1
 end
def uptoSmall : (H : Type) → List (DataW H) → Bool := fun _ ds => decide (uptoBulkAll ds ≤ 1048576)
def OpenSpec.upto (s : _root_.Go.ChangeSpec) : _root_.Go.OpenSpec := { _root_.Go.OpenSpec.ofChange s with cond := some uptoSmall }

/-- 'barcarolelaw10.SunDays', WHERE WHAT IT READS IS OF BULK AT MOST 1048576: true; the input reads as it did. -/
def sunDaysUptoRow : OpenClaim := { program := "ytjjimbaogpmbmaa", sum := "bdbbb1e120a840ba2f5f80e61783000b40a36f13be62ff7dad0f192baf1f0c62", func := "barcarole/barcarolelaw10.SunDays", spec := "sunDays", unfollowed := true, recurses := true, apart := false, narrowed := true }
def SunDaysUptoSaid : Prop := sunDaysUptoRow.holds Try.pinned (OpenSpec.upto sunDaysSpec)

/-- 'barcarolelaw10.SunShade', WHERE WHAT IT READS IS OF BULK AT MOST 1048576: true; the input reads as it did. -/
def sunShadeUptoRow : OpenClaim := { program := "ytjjimbaogpmbmaa", sum := "bdbbb1e120a840ba2f5f80e61783000b40a36f13be62ff7dad0f192baf1f0c62", func := "barcarole/barcarolelaw10.SunShade", spec := "sunShade", unfollowed := true, recurses := true, apart := false, narrowed := true }
def SunShadeUptoSaid : Prop := sunShadeUptoRow.holds Try.pinned (OpenSpec.upto sunShadeSpec)

/-- 'barcarolelaw10.SunGlare', WHERE WHAT IT READS IS OF BULK AT MOST 1048576: true; the input reads as it did. -/
def sunGlareUptoRow : OpenClaim := { program := "ytjjimbaogpmbmaa", sum := "bdbbb1e120a840ba2f5f80e61783000b40a36f13be62ff7dad0f192baf1f0c62", func := "barcarole/barcarolelaw10.SunGlare", spec := "sunGlare", unfollowed := true, recurses := true, apart := false, narrowed := true }
def SunGlareUptoSaid : Prop := sunGlareUptoRow.holds Try.pinned (OpenSpec.upto sunGlareSpec)

/-- 'barcarolelaw10.SunMoves', WHERE WHAT IT READS IS OF BULK AT MOST 1048576: true; the input reads as it did. -/
def sunMovesUptoRow : OpenClaim := { program := "ytjjimbaogpmbmaa", sum := "bdbbb1e120a840ba2f5f80e61783000b40a36f13be62ff7dad0f192baf1f0c62", func := "barcarole/barcarolelaw10.SunMoves", spec := "sunMoves", unfollowed := true, recurses := true, apart := false, narrowed := true }
def SunMovesUptoSaid : Prop := sunMovesUptoRow.holds Try.pinned (OpenSpec.upto sunMovesSpec)

/-- 'barcarolelaw10.SunRepeats', WHERE WHAT IT READS IS OF BULK AT MOST 1048576: true; the input reads as it did. -/
def sunRepeatsUptoRow : OpenClaim := { program := "ytjjimbaogpmbmaa", sum := "bdbbb1e120a840ba2f5f80e61783000b40a36f13be62ff7dad0f192baf1f0c62", func := "barcarole/barcarolelaw10.SunRepeats", spec := "sunRepeats", unfollowed := true, recurses := true, apart := false, narrowed := true }
def SunRepeatsUptoSaid : Prop := sunRepeatsUptoRow.holds Try.pinned (OpenSpec.upto sunRepeatsSpec)

/-- 'barcarolelaw08.ShapeCorners', WHERE WHAT IT READS IS OF BULK AT MOST 1048576: true; the input reads as it did. -/
def shapeCornersUptoRow : OpenClaim := { program := "ytjjimbaogpmbmaa", sum := "bdbbb1e120a840ba2f5f80e61783000b40a36f13be62ff7dad0f192baf1f0c62", func := "barcarole/barcarolelaw08.ShapeCorners", spec := "shapeCorners", unfollowed := true, recurses := true, apart := false, narrowed := true }
def ShapeCornersUptoSaid : Prop := shapeCornersUptoRow.holds Try.pinned (OpenSpec.upto shapeCornersSpec)

/-- 'barcarolelaw09.SightMatchesReference', WHERE WHAT IT READS IS OF BULK AT MOST 1048576: true; the input reads as it did. -/
def sightMatchesReferenceUptoRow : OpenClaim := { program := "ytjjimbaogpmbmaa", sum := "bdbbb1e120a840ba2f5f80e61783000b40a36f13be62ff7dad0f192baf1f0c62", func := "barcarole/barcarolelaw09.SightMatchesReference", spec := "sightMatchesReference", unfollowed := true, recurses := true, apart := false, narrowed := true }
def SightMatchesReferenceUptoSaid : Prop := sightMatchesReferenceUptoRow.holds Try.pinned (OpenSpec.upto sightMatchesReferenceSpec)

/-- 'barcarolelaw09.SightBodies', WHERE WHAT IT READS IS OF BULK AT MOST 1048576: true; the input reads as it did. -/
def sightBodiesUptoRow : OpenClaim := { program := "ytjjimbaogpmbmaa", sum := "bdbbb1e120a840ba2f5f80e61783000b40a36f13be62ff7dad0f192baf1f0c62", func := "barcarole/barcarolelaw09.SightBodies", spec := "sightBodies", unfollowed := true, recurses := true, apart := false, narrowed := true }
def SightBodiesUptoSaid : Prop := sightBodiesUptoRow.holds Try.pinned (OpenSpec.upto sightBodiesSpec)

/-- 'barcarolelaw09.SightOrder', WHERE WHAT IT READS IS OF BULK AT MOST 1048576: true; the input reads as it did. -/
def sightOrderUptoRow : OpenClaim := { program := "ytjjimbaogpmbmaa", sum := "bdbbb1e120a840ba2f5f80e61783000b40a36f13be62ff7dad0f192baf1f0c62", func := "barcarole/barcarolelaw09.SightOrder", spec := "sightOrder", unfollowed := true, recurses := true, apart := false, narrowed := true }
def SightOrderUptoSaid : Prop := sightOrderUptoRow.holds Try.pinned (OpenSpec.upto sightOrderSpec)

/-- 'barcarolelaw09.SightMoves', WHERE WHAT IT READS IS OF BULK AT MOST 1048576: true; the input reads as it did. -/
def sightMovesUptoRow : OpenClaim := { program := "ytjjimbaogpmbmaa", sum := "bdbbb1e120a840ba2f5f80e61783000b40a36f13be62ff7dad0f192baf1f0c62", func := "barcarole/barcarolelaw09.SightMoves", spec := "sightMoves", unfollowed := true, recurses := true, apart := false, narrowed := true }
def SightMovesUptoSaid : Prop := sightMovesUptoRow.holds Try.pinned (OpenSpec.upto sightMovesSpec)

/-- 'barcarolelaw09.SightShares', WHERE WHAT IT READS IS OF BULK AT MOST 1048576: true; the input reads as it did. -/
def sightSharesUptoRow : OpenClaim := { program := "ytjjimbaogpmbmaa", sum := "bdbbb1e120a840ba2f5f80e61783000b40a36f13be62ff7dad0f192baf1f0c62", func := "barcarole/barcarolelaw09.SightShares", spec := "sightShares", unfollowed := true, recurses := true, apart := false, narrowed := true }
def SightSharesUptoSaid : Prop := sightSharesUptoRow.holds Try.pinned (OpenSpec.upto sightSharesSpec)

end Rows
end Go.Proofs.Ytjjimbaogpmbmaa
