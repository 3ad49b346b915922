/-
  The laws: boxes that are made, bodies cut to 20 corners.
-/
import Derived.Test.YtiffgcipdamngaaZShpX
import Derived.Test.YtiffgcipdamngaaZShpD
import Derived.Deep.RegionHeld3
import Derived.Test.YtiffgcipdamngaaZShpW
namespace Go.Proofs.Ytiffgcipdamngaa
open Go.RowKit Go.Sort
open Go.RowKit (Below)
set_option linter.unusedVariables false
set_option linter.unusedSimpArgs false

theorem boxes2 (W : World) (o0 o1 : Obj) {V : World} (hV : ((W.alloc o0).alloc o1) = V) : Below W.heap.size W V ∧ V.heap[W.heap.size]? = some o0 ∧ V.heap[W.heap.size + 1]? = some o1 := by
  subst hV
  have nb : ∀ (U : World) (k : Nat) (o : Obj), U.heap.size = k → (U.alloc o).heap[k]? = some o := fun U k o h => by subst h; exact World.alloc_heap_new U o
  refine ⟨(((Below.refl _ W).alloc (Nat.le_refl _) _).alloc (by simp) _), ?_, ?_⟩
  · refine blk_new ?_ _; exact nb _ _ _ (by simp)
  · exact nb _ _ _ (by simp)
theorem boxes3 (W : World) (o0 o1 o2 : Obj) {V : World} (hV : (((W.alloc o0).alloc o1).alloc o2) = V) : Below W.heap.size W V ∧ V.heap[W.heap.size]? = some o0 ∧ V.heap[W.heap.size + 1]? = some o1 ∧ V.heap[W.heap.size + 1 + 1]? = some o2 := by
  subst hV
  have nb : ∀ (U : World) (k : Nat) (o : Obj), U.heap.size = k → (U.alloc o).heap[k]? = some o := fun U k o h => by subst h; exact World.alloc_heap_new U o
  refine ⟨((((Below.refl _ W).alloc (Nat.le_refl _) _).alloc (by simp) _).alloc (by simp <;> omega) _), ?_, ?_, ?_⟩
  · refine blk_new ?_ _; refine blk_new ?_ _; exact nb _ _ _ (by simp)
  · refine blk_new ?_ _; exact nb _ _ _ (by simp)
  · exact nb _ _ _ (by simp)


end Go.Proofs.Ytiffgcipdamngaa
