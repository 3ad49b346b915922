/-
  No cell of these rows narrows 'for every input' (looked for: loops, veiled, ifaces, maps, wideKeys, modest, calm, conditions, laid).
  DERIVED. THE GIVEN ROWS OF THIS SEAT. 6 by the template 'for every input the law returns true; each argument reads behind the call as it read before'; 0 by the template 'total and deterministic' (their statements: YtgikpcoaennkgaaTotals.lean).
  GIVEN WITH THE SEED: the statements are not yours to turn. If you find one false, say at which input.
  Laid BY PROGRAM, IN A SANDBOX (cutbox-rows.mjs): the forced cells as the released guide's own fill.sh prints them over the translation 95a710c9edf29e14… (all of the seat's roots in one cut). By AI agents, Wed Nov 11 2026. No macro, syntax, notation, axiom, sorry.
-/
import Derived.Test.YtgikpcoaennkgaaChecked
import GoSem.Claim
import GoSem.ClaimJoined
import GoSem.ClaimMapViews
import Derived.JoinedTies
import Derived.KernelRfl
namespace Go.Proofs.Ytgikpcoaennkgaa
/- THE CELL 'sum', in the pinned program and in every row, IS THE sha256 OF THE DUMP (.gsa) THAT YtgikpcoaennkgaaProg.lean LOADS. Nothing in Lean hashes anything: it is a label: what it is worth is what the hold of that sum in a sandbox is worth. -/
noncomputable def Try.pinned : Pinned := { name := "ytgikpcoaennkgaa", sum := "95a710c9edf29e142bf801f354441f721045e45b9d4a26ba164a25d14cb6bf6d", checked := Try.checked }
namespace Rows
def none {H : Type} : Left H := { results := [], args := [] }

/-- 'barcarolelaw12.TiersFind': WHATEVER THE INPUT: true; the input reads as it did. -/
def tiersFindSpec : ChangeSpec := { name := "tiersFind", fn := fun _ => fun
  | [d1, d2] => { results := [.lit (.bool true)], args := [d1, d2] }
  | _ => none }
def tiersFindRow : OpenClaim := { program := "ytgikpcoaennkgaa", sum := "95a710c9edf29e142bf801f354441f721045e45b9d4a26ba164a25d14cb6bf6d", func := "barcarole/barcarolelaw12.TiersFind", spec := "tiersFind", unfollowed := true, recurses := true, apart := false }
def TiersFindSaid : Prop := tiersFindRow.holds Try.pinned (OpenSpec.ofChange tiersFindSpec)

/-- ITS FALSE NEIGHBOUR: 'it returns false'. Refute it at one input. -/
def tiersFindWrong : ChangeSpec := { name := "tiersFind", fn := fun _ => fun
  | [d1, d2] => { results := [.lit (.bool false)], args := [d1, d2] }
  | _ => none }
def TiersFindWrongFalsely : Prop := tiersFindRow.holds Try.pinned (OpenSpec.ofChange tiersFindWrong)

/-- 'barcarolelaw12.TiersBeside': WHATEVER THE INPUT: true; the input reads as it did. -/
def tiersBesideSpec : ChangeSpec := { name := "tiersBeside", fn := fun _ => fun
  | [d] => { results := [.lit (.bool true)], args := [d] }
  | _ => none }
def tiersBesideRow : OpenClaim := { program := "ytgikpcoaennkgaa", sum := "95a710c9edf29e142bf801f354441f721045e45b9d4a26ba164a25d14cb6bf6d", func := "barcarole/barcarolelaw12.TiersBeside", spec := "tiersBeside", unfollowed := true, recurses := true, apart := false }
def TiersBesideSaid : Prop := tiersBesideRow.holds Try.pinned (OpenSpec.ofChange tiersBesideSpec)

/-- ITS FALSE NEIGHBOUR: 'it returns false'. Refute it at one input. -/
def tiersBesideWrong : ChangeSpec := { name := "tiersBeside", fn := fun _ => fun
  | [d] => { results := [.lit (.bool false)], args := [d] }
  | _ => none }
def TiersBesideWrongFalsely : Prop := tiersBesideRow.holds Try.pinned (OpenSpec.ofChange tiersBesideWrong)

/-- 'barcarolelaw12.TiersParts': WHATEVER THE INPUT: true; the input reads as it did. -/
def tiersPartsSpec : ChangeSpec := { name := "tiersParts", fn := fun _ => fun
  | [d1, d2] => { results := [.lit (.bool true)], args := [d1, d2] }
  | _ => none }
def tiersPartsRow : OpenClaim := { program := "ytgikpcoaennkgaa", sum := "95a710c9edf29e142bf801f354441f721045e45b9d4a26ba164a25d14cb6bf6d", func := "barcarole/barcarolelaw12.TiersParts", spec := "tiersParts", unfollowed := true, recurses := true, apart := false }
def TiersPartsSaid : Prop := tiersPartsRow.holds Try.pinned (OpenSpec.ofChange tiersPartsSpec)

/-- ITS FALSE NEIGHBOUR: 'it returns false'. Refute it at one input. -/
def tiersPartsWrong : ChangeSpec := { name := "tiersParts", fn := fun _ => fun
  | [d1, d2] => { results := [.lit (.bool false)], args := [d1, d2] }
  | _ => none }
def TiersPartsWrongFalsely : Prop := tiersPartsRow.holds Try.pinned (OpenSpec.ofChange tiersPartsWrong)

/-- 'barcarolelaw12.TiersOrder': WHATEVER THE INPUT: true; the input reads as it did. -/
def tiersOrderSpec : ChangeSpec := { name := "tiersOrder", fn := fun _ => fun
  | [d1, d2, d3] => { results := [.lit (.bool true)], args := [d1, d2, d3] }
  | _ => none }
def tiersOrderRow : OpenClaim := { program := "ytgikpcoaennkgaa", sum := "95a710c9edf29e142bf801f354441f721045e45b9d4a26ba164a25d14cb6bf6d", func := "barcarole/barcarolelaw12.TiersOrder", spec := "tiersOrder", unfollowed := true, recurses := true, apart := false }
def TiersOrderSaid : Prop := tiersOrderRow.holds Try.pinned (OpenSpec.ofChange tiersOrderSpec)

/-- ITS FALSE NEIGHBOUR: 'it returns false'. Refute it at one input. -/
def tiersOrderWrong : ChangeSpec := { name := "tiersOrder", fn := fun _ => fun
  | [d1, d2, d3] => { results := [.lit (.bool false)], args := [d1, d2, d3] }
  | _ => none }
def TiersOrderWrongFalsely : Prop := tiersOrderRow.holds Try.pinned (OpenSpec.ofChange tiersOrderWrong)

/-- 'barcarolelaw12.TiersFurther': WHATEVER THE INPUT: true; the input reads as it did. -/
def tiersFurtherSpec : ChangeSpec := { name := "tiersFurther", fn := fun _ => fun
  | [d1, d2, d3] => { results := [.lit (.bool true)], args := [d1, d2, d3] }
  | _ => none }
def tiersFurtherRow : OpenClaim := { program := "ytgikpcoaennkgaa", sum := "95a710c9edf29e142bf801f354441f721045e45b9d4a26ba164a25d14cb6bf6d", func := "barcarole/barcarolelaw12.TiersFurther", spec := "tiersFurther", unfollowed := true, recurses := true, apart := false }
def TiersFurtherSaid : Prop := tiersFurtherRow.holds Try.pinned (OpenSpec.ofChange tiersFurtherSpec)

/-- ITS FALSE NEIGHBOUR: 'it returns false'. Refute it at one input. -/
def tiersFurtherWrong : ChangeSpec := { name := "tiersFurther", fn := fun _ => fun
  | [d1, d2, d3] => { results := [.lit (.bool false)], args := [d1, d2, d3] }
  | _ => none }
def TiersFurtherWrongFalsely : Prop := tiersFurtherRow.holds Try.pinned (OpenSpec.ofChange tiersFurtherWrong)

/-- 'barcarolelaw12.TiersHeads': WHATEVER THE INPUT: true; the input reads as it did. -/
def tiersHeadsSpec : ChangeSpec := { name := "tiersHeads", fn := fun _ => fun
  | [d1, d2, d3, d4] => { results := [.lit (.bool true)], args := [d1, d2, d3, d4] }
  | _ => none }
def tiersHeadsRow : OpenClaim := { program := "ytgikpcoaennkgaa", sum := "95a710c9edf29e142bf801f354441f721045e45b9d4a26ba164a25d14cb6bf6d", func := "barcarole/barcarolelaw12.TiersHeads", spec := "tiersHeads", unfollowed := true, recurses := true, apart := false }
def TiersHeadsSaid : Prop := tiersHeadsRow.holds Try.pinned (OpenSpec.ofChange tiersHeadsSpec)

/-- ITS FALSE NEIGHBOUR: 'it returns false'. Refute it at one input. -/
def tiersHeadsWrong : ChangeSpec := { name := "tiersHeads", fn := fun _ => fun
  | [d1, d2, d3, d4] => { results := [.lit (.bool false)], args := [d1, d2, d3, d4] }
  | _ => none }
def TiersHeadsWrongFalsely : Prop := tiersHeadsRow.holds Try.pinned (OpenSpec.ofChange tiersHeadsWrong)

/- THE SECOND FORM. 'bulk': how many values and letters a reading holds, each counted each time it is reached (what is shared counts as often as it is met; a slice's spare places count too). A statement '..UptoSaid' is the law's where the arguments, and the package variables that the reading takes, are together of bulk at most 1048576: NARROWER than '..Said'. Prove '..Said' where nothing that the law and all that it calls make is longer than what came in: it says more and counts as full. Else prove '..UptoSaid'. A law counts once. -/
mutual
def uptoBulk {H : Type} : DataW H → Nat
  | .lit (.string bytes) => bytes.length + 1
  | .lit _ => 1
  | .nil => 1
  | .ptr d => uptoBulk d + 1
  | .slice elems spare => uptoBulkAll elems + uptoBulkAll spare + 1
  | .agg parts => uptoBulkAll parts + 1
  | .iface _ d => uptoBulk d + 1
  | .map entries => uptoBulkEntries entries + 1
  | .held _ => 1
def uptoBulkAll {H : Type} : List (DataW H) → Nat
  | [] => 0
  | d :: r => uptoBulk d + uptoBulkAll r
def uptoBulkEntries {H : Type} : List (Lit × DataW H) → Nat
  | [] => 0
  | x :: r => uptoBulkEntry x + uptoBulkEntries r
def uptoBulkEntry {H : Type} : Lit × DataW H → Nat
  | (.string bytes, d) => bytes.length + uptoBulk d + 1
  | (_, d) => uptoBulk d + 1
 end
def uptoSmall : (H : Type) → List (DataW H) → Bool := fun _ ds => decide (uptoBulkAll ds ≤ 1048576)
def OpenSpec.upto (s : _root_.Go.ChangeSpec) : _root_.Go.OpenSpec := { _root_.Go.OpenSpec.ofChange s with cond := some uptoSmall }

/-- 'barcarolelaw12.TiersFind', WHERE WHAT IT READS IS OF BULK AT MOST 1048576: true; the input reads as it did. -/
def tiersFindUptoRow : OpenClaim := { program := "ytgikpcoaennkgaa", sum := "95a710c9edf29e142bf801f354441f721045e45b9d4a26ba164a25d14cb6bf6d", func := "barcarole/barcarolelaw12.TiersFind", spec := "tiersFind", unfollowed := true, recurses := true, apart := false, narrowed := true }
def TiersFindUptoSaid : Prop := tiersFindUptoRow.holds Try.pinned (OpenSpec.upto tiersFindSpec)

/-- 'barcarolelaw12.TiersBeside', WHERE WHAT IT READS IS OF BULK AT MOST 1048576: true; the input reads as it did. -/
def tiersBesideUptoRow : OpenClaim := { program := "ytgikpcoaennkgaa", sum := "95a710c9edf29e142bf801f354441f721045e45b9d4a26ba164a25d14cb6bf6d", func := "barcarole/barcarolelaw12.TiersBeside", spec := "tiersBeside", unfollowed := true, recurses := true, apart := false, narrowed := true }
def TiersBesideUptoSaid : Prop := tiersBesideUptoRow.holds Try.pinned (OpenSpec.upto tiersBesideSpec)

/-- 'barcarolelaw12.TiersParts', WHERE WHAT IT READS IS OF BULK AT MOST 1048576: true; the input reads as it did. -/
def tiersPartsUptoRow : OpenClaim := { program := "ytgikpcoaennkgaa", sum := "95a710c9edf29e142bf801f354441f721045e45b9d4a26ba164a25d14cb6bf6d", func := "barcarole/barcarolelaw12.TiersParts", spec := "tiersParts", unfollowed := true, recurses := true, apart := false, narrowed := true }
def TiersPartsUptoSaid : Prop := tiersPartsUptoRow.holds Try.pinned (OpenSpec.upto tiersPartsSpec)

/-- 'barcarolelaw12.TiersOrder', WHERE WHAT IT READS IS OF BULK AT MOST 1048576: true; the input reads as it did. -/
def tiersOrderUptoRow : OpenClaim := { program := "ytgikpcoaennkgaa", sum := "95a710c9edf29e142bf801f354441f721045e45b9d4a26ba164a25d14cb6bf6d", func := "barcarole/barcarolelaw12.TiersOrder", spec := "tiersOrder", unfollowed := true, recurses := true, apart := false, narrowed := true }
def TiersOrderUptoSaid : Prop := tiersOrderUptoRow.holds Try.pinned (OpenSpec.upto tiersOrderSpec)

/-- 'barcarolelaw12.TiersFurther', WHERE WHAT IT READS IS OF BULK AT MOST 1048576: true; the input reads as it did. -/
def tiersFurtherUptoRow : OpenClaim := { program := "ytgikpcoaennkgaa", sum := "95a710c9edf29e142bf801f354441f721045e45b9d4a26ba164a25d14cb6bf6d", func := "barcarole/barcarolelaw12.TiersFurther", spec := "tiersFurther", unfollowed := true, recurses := true, apart := false, narrowed := true }
def TiersFurtherUptoSaid : Prop := tiersFurtherUptoRow.holds Try.pinned (OpenSpec.upto tiersFurtherSpec)

/-- 'barcarolelaw12.TiersHeads', WHERE WHAT IT READS IS OF BULK AT MOST 1048576: true; the input reads as it did. -/
def tiersHeadsUptoRow : OpenClaim := { program := "ytgikpcoaennkgaa", sum := "95a710c9edf29e142bf801f354441f721045e45b9d4a26ba164a25d14cb6bf6d", func := "barcarole/barcarolelaw12.TiersHeads", spec := "tiersHeads", unfollowed := true, recurses := true, apart := false, narrowed := true }
def TiersHeadsUptoSaid : Prop := tiersHeadsUptoRow.holds Try.pinned (OpenSpec.upto tiersHeadsSpec)

end Rows
end Go.Proofs.Ytgikpcoaennkgaa
