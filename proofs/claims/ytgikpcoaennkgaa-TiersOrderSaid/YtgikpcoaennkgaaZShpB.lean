/-
  Plain facts for layer 8, no function of the program: fractions, ranges that are narrowed, clips; the way back; points of a way.
-/
import Derived.Test.YtgikpcoaennkgaaZShpA
namespace Go.Proofs.Ytgikpcoaennkgaa
set_option linter.unusedVariables false
set_option linter.unusedSimpArgs false

/-! ### Quotients -/
def gq (a b : Int) : Int := (Nat.gcd a.natAbs b.natAbs : Nat)





















/-! ### Ranges -/
structure Rg where
  ln : Int
  ld : Int
  hn : Int
  hd : Int
  e : Bool






def r0 : Rg := ⟨0, 1, 1, 1, false⟩














end Go.Proofs.Ytgikpcoaennkgaa
