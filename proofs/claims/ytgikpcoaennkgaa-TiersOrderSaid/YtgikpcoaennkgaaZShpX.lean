/-
  The laws: head, comparisons of rational numbers, vectors that come in.
-/
import Derived.Test.YtgikpcoaennkgaaZShpPH
import Derived.Test.YtgikpcoaennkgaaZShpPK
import Derived.Test.YtgikpcoaennkgaaZGenQ
import Derived.Laws.EntriesVeiled
import Derived.Test.YtgikpcoaennkgaaZShpPG
import Derived.Test.YtgikpcoaennkgaaZShpPS
import Derived.Laws.CopyRow
import Derived.Laws.CopyOwn
import Derived.Laws.MakeOwn
import Derived.StillTailTactics
import Derived.Deep.SlicePairs
import Derived.Test.YtgikpcoaennkgaaZShpPN
import Derived.Test.YtgikpcoaennkgaaZShpM
import Derived.Test.YtgikpcoaennkgaaZShpD
import Derived.Deep.RegionHeld3
import Derived.Test.YtgikpcoaennkgaaZShpW
namespace Go.Proofs.Ytgikpcoaennkgaa
open Go.RowKit Go.Sort
open Go.RowKit (Below)
set_option linter.unusedVariables false
set_option linter.unusedSimpArgs false
/-- The square of the chapter's examples, and where it is moved. -/
def sq : List (Int × Int) := [(0, 0), (10, 0), (10, 10), (0, 10)]


theorem four {P : Nat → Prop} (h0 : P 0) (h1 : P 1) (h2 : P 2) (h3 : P 3) : ∀ i, i < 4 → P i := by
  intro i hi
  have : i = 0 ∨ i = 1 ∨ i = 2 ∨ i = 3 := by omega
  rcases this with rfl | rfl | rfl | rfl <;> assumption
theorem cvx4 {X Y : Nat → Int} (h : ∀ i, i < 4 → ∀ j, j < 4 → j ≠ i → j ≠ nx 4 i → 0 < tr X Y i (nx 4 i) j) : Cvx 4 X Y := fun i j hi hj a b => h i hi j hj a b
theorem bok_sq : Bok sq 0 10 := by
  constructor
  · decide
  · decide
  · exact four (by unfold co; decide) (by unfold co; decide) (by unfold co; decide) (by unfold co; decide)
  · exact four (by unfold co; decide) (by unfold co; decide) (by unfold co; decide) (by unfold co; decide)
  · unfold co; decide
  · unfold co; decide
  · decide
  · exact fun i h0 h => four (P := fun i => 0 < i → px sq 0 < px sq i ∨ (px sq 0 = px sq i ∧ py sq 0 < py sq i)) (by decide) (by decide) (by decide) (by decide) i h h0
  · exact cvx4 (four (four (by decide) (by decide) (by decide) (by decide)) (four (by decide) (by decide) (by decide) (by decide)) (four (by decide) (by decide) (by decide) (by decide)) (four (by decide) (by decide) (by decide) (by decide)))
















section
variable (g : Nat) (C : Nat) (w : World)




theorem hval (h : SlS w (some ⟨g, 0, none⟩) sq) : Calls Try.prog 33 #[.agg #[.slice (some ⟨g, 0, none⟩) 4 C, .int .i64 0, .int .i64 10]] w fun e_ w' => e_ = .returned (.bool true) ∧ Below w.heap.size w w' := pvalid_is _ C sq 0 10 (by decide) true (iff_of_true rfl bok_sq) w h
end


section
open Go.ChangeShapes Go.WideShapes Go.ChangeAt Go.Joins

variable {H : Type} {enc : TypeId × Value → H}


end
end Go.Proofs.Ytgikpcoaennkgaa
