/-
  Package sight: the iterator of the bodies that block.
-/
import Derived.Test.YtgikpcoaennkgaaZSgtZA
import Derived.Test.YtgikpcoaennkgaaZShpPA
import Derived.Test.YtgikpcoaennkgaaZShpPH
import Derived.Test.YtgikpcoaennkgaaZShpPK
import Derived.Test.YtgikpcoaennkgaaZGenQ
import Derived.Laws.EntriesVeiled
import Derived.LoopN
import Derived.Test.YtgikpcoaennkgaaZShpPS
import Derived.Test.YtgikpcoaennkgaaZShpPC
namespace Go.Proofs.Ytgikpcoaennkgaa
open Go.RowKit Go.Sort Go.Shelf
open Go.RowKit (Below)
set_option linter.unusedVariables false
set_option linter.unusedSimpArgs false

attribute [local go_sem] Oper.semAt_some

/-- A way between two points. -/
structure Wy (ex ey ez x y z : Int) : Prop where
  e : V3 ex ey ez
  p : V3 x y z
  n : ¬ (ex = x ∧ ey = y ∧ ez = z)






end Go.Proofs.Ytgikpcoaennkgaa
