/-
  The reference of layer 9: Same, Few.
-/
import Derived.Test.YtgikpcoaennkgaaZSgtZB
import Derived.Test.YtgikpcoaennkgaaZShpPH
import Derived.Laws.MakeOwn
import Derived.Test.YtgikpcoaennkgaaZShpM
namespace Go.Proofs.Ytgikpcoaennkgaa
open Go.RowKit Go.Sort
open Go.RowKit (Below)
set_option linter.unusedVariables false
set_option linter.unusedSimpArgs false
/-- At most 12 targets and 12 bodies, with at most 12 corners each. -/
def Few (n : Nat) (L : List Bv) : Prop := n ≤ 12 ∧ L.length ≤ 12 ∧ ∀ k, k < L.length → (gdB L k).xs.length ≤ 12
end Go.Proofs.Ytgikpcoaennkgaa
