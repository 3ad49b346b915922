/-
  The reference of layer 8, the leaves: in, Point, side, gcd, quotient, less.
-/
import Derived.Test.YtgikpcoaennkgaaZShpC
import Derived.Test.YtgikpcoaennkgaaZVecC
namespace Go.Proofs.Ytgikpcoaennkgaa
open Go.RowKit Go.Sort
open Go.RowKit (Below)
set_option linter.unusedVariables false
set_option linter.unusedSimpArgs false

theorem below_new (w : World) (o : Obj) : Below w.heap.size w (w.alloc o) := (Below.refl _ _).alloc (Nat.le_refl _) _
theorem keepc {w w' : World} {g k : Nat} {v : Value} (hb : Below w.heap.size w w') (h : w.cell? ⟨g, k, none⟩ = some v) : w'.cell? ⟨g, k, none⟩ = some v := by rw [hb.cell (block_lt h)]; exact h
theorem keepf {w w' : World} {g k : Nat} (hb : Below w.heap.size w w') (hl : g < w.heap.size) (h : w.frozen? ⟨g, k, none⟩ = false) : w'.frozen? ⟨g, k, none⟩ = false := (hb.frozen (p := ⟨g, k, none⟩) hl).trans h

end Go.Proofs.Ytgikpcoaennkgaa
