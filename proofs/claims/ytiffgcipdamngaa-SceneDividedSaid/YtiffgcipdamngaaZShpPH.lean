/-
  Package shape: Inside.
-/
import Derived.Test.YtiffgcipdamngaaZShpPS
import Derived.Test.YtiffgcipdamngaaZShpPG
namespace Go.Proofs.Ytiffgcipdamngaa
open Go.RowKit Go.Sort Go.Shelf
open Go.RowKit (Below)
set_option linter.unusedVariables false
set_option linter.unusedSimpArgs false

attribute [local go_sem] Oper.semAt_some
theorem blk_on {W W' : World} {g : Nat} {o : Obj} (h : W.heap[g]? = some o) (hb : Below W.heap.size W W') : W'.heap[g]? = some o := by rw [hb.block g (Array.getElem?_eq_some_iff.1 h).1]; exact h
theorem blk_row {W W' : World} {row : Option Nat} {g : Nat} {cs : Array Value} {t : TypeId} {fz : Nat × Nat} (h : W.heap[g]? = some (.cells cs t fz)) (hg : W.grownBy W' row) (hr : ∀ r, row = some r → ∃ o : Obj, W.heap[r]? = some o ∧ o.isCells = false) : W'.heap[g]? = some (.cells cs t fz) := by
  rw [hg.block g (Array.getElem?_eq_some_iff.1 h).1 (fun e => by obtain ⟨o, ho, hc⟩ := hr g e.symm; rw [h] at ho; cases ho; cases hc)]; exact h
theorem blk_far {W : World} {g g' i : Nat} {o : Obj} {u : Value} (h : W.heap[g]? = some o) (hne : g ≠ g') : (W.setCell ⟨g', i, none⟩ u).heap[g]? = some o := by rw [Below.heap_setCell W ⟨g', i, none⟩ u g hne]; exact h
theorem blk_new {W : World} {g : Nat} {o : Obj} (h : W.heap[g]? = some o) (o' : Obj) : (W.alloc o').heap[g]? = some o := (Below.heap_alloc _ _ _ (Array.getElem?_eq_some_iff.1 h).1).trans h
theorem allocs4 (W : World) (o0 o1 o2 o3 : Obj) {V : World} (hV : (((W.alloc o0).alloc o1).alloc o2).alloc o3 = V) :
    Below W.heap.size W V ∧ V.heap.size = W.heap.size + 4 ∧ V.heap[W.heap.size]? = some o0 ∧ V.heap[W.heap.size + 1]? = some o1 ∧ V.heap[W.heap.size + 2]? = some o2 ∧ V.heap[W.heap.size + 3]? = some o3 := by
  subst hV
  have nb : ∀ (U : World) (k : Nat) (o : Obj), U.heap.size = k → (U.alloc o).heap[k]? = some o := fun U k o h => by subst h; exact World.alloc_heap_new U o
  refine ⟨((((Below.refl _ W).alloc (Nat.le_refl _) _).alloc (by simp) _).alloc (by simp; omega) _).alloc (by simp; omega) _, by simp, ?_, ?_, ?_, ?_⟩
  · exact blk_new (blk_new (blk_new (nb _ _ _ rfl) _) _) _
  · exact blk_new (blk_new (nb _ _ _ (by simp)) _) _
  · exact blk_new (nb _ _ _ (by simp)) _
  · exact nb _ _ _ (by simp)
theorem sides_enter (args : Array Value) (W : World) : (callFunc 93 args).run Try.prog W = .ok (.enter 93 args) W := by simp [go_sem]

section
variable {g : Nat} {a b c : Int} {R R' : Bool} {E E' : Int} {w0 : World} {p q : Prop} {W W' : World}





end

end Go.Proofs.Ytiffgcipdamngaa
