/-
  Plain facts for layer 8: what package shape's clip narrows, against the ranges of the reference.
-/
import Derived.Test.YtgikpcoaennkgaaZShpS
import Derived.Test.YtgikpcoaennkgaaZShpC
namespace Go.Proofs.Ytgikpcoaennkgaa
set_option linter.unusedVariables false
set_option linter.unusedSimpArgs false

















/-! ### The sides of a body, one by one -/
def dep (xs : List (Int × Int)) (lo hi : Int) (k : Nat) (a b c : Int) : Int :=
  if k < xs.length then crs (px xs k) (py xs k) (px xs (nx xs.length k)) (py xs (nx xs.length k)) a b else if k = xs.length then c - lo else hi - c












end Go.Proofs.Ytgikpcoaennkgaa
