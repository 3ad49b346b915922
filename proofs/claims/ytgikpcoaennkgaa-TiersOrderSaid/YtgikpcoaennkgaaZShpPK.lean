/-
  Package shape: the closure that narrows a clip.
-/
import Derived.Test.YtgikpcoaennkgaaZShpPA
import Derived.LoopN
import Derived.Test.YtgikpcoaennkgaaZShpPJ
import Derived.Test.YtgikpcoaennkgaaZShpR
import Derived.Deep.RegionWith
namespace Go.Proofs.Ytgikpcoaennkgaa
open Go.RowKit Go.Sort
open Go.RowKit (Below)
set_option linter.unusedVariables false
set_option linter.unusedSimpArgs false

theorem set_cells {W : World} {g : Nat} {cs : Array Value} {t : TypeId} {fz : Nat × Nat} (h : W.heap[g]? = some (.cells cs t fz)) (i : Nat) (u : Value) : (W.setCell ⟨g, i, none⟩ u).heap[g]? = some (.cells (cs.setIfInBounds i u) t fz) := by
  obtain ⟨hlt, hk⟩ := Array.getElem?_eq_some_iff.1 h
  show (W.heap.modify g _)[g]? = _
  rw [Array.getElem?_eq_getElem (by rw [Array.size_modify]; exact hlt), Array.getElem_modify_self, hk]
  rfl








section
variable {b gl gh : Nat} {s : Rg} {w w1 : World}





end
end Go.Proofs.Ytgikpcoaennkgaa
