/-
  The reference of layer 8: Valid.
-/
import Derived.Test.YtgikpcoaennkgaaZShpF
namespace Go.Proofs.Ytgikpcoaennkgaa
open Go.RowKit Go.Sort
open Go.RowKit (Below)



theorem bok_co {xs : List (Int × Int)} {lo hi : Int} (b : Bok xs lo hi) {j : Nat} (hj : j < xs.length) : co (px xs j) ∧ co (py xs j) := ⟨b.rx j hj, b.ry j hj⟩
end Go.Proofs.Ytgikpcoaennkgaa
