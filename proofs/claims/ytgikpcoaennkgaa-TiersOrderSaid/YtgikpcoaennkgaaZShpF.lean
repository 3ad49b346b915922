/-
  The reference of layer 8: beyond, parted.
-/
import Derived.Test.YtgikpcoaennkgaaZShpD
import Derived.Deep.RegionHeld3
import Derived.Test.YtgikpcoaennkgaaZShpW
import Derived.Deep.LoopGhost
namespace Go.Proofs.Ytgikpcoaennkgaa
open Go.RowKit Go.Sort
open Go.RowKit (Below)
set_option linter.unusedVariables false
set_option linter.unusedSimpArgs false

theorem false_of {r : Bool} (h : ¬ r = true) : false = r := by cases r <;> simp_all
theorem true_of {r : Bool} (h : r = true) : true = r := h.symm
theorem int_of {a b : Int} (h : a = b) : Value.int .i64 a = .int .i64 b := by rw [h]

theorem sl_two {w : World} {b o : Nat} {xs : List (Int × Int)} (h : SlS w (some ⟨b, o, none⟩) xs) {k : Nat} (hk : k < xs.length) : w.cell? ⟨b, o + k * 2, none⟩ = some (.int .i64 (gdS xs k).1) ∧ w.cell? ⟨b, o + k * 2 + 1, none⟩ = some (.int .i64 (gdS xs k).2) := by
  obtain ⟨b1, o1, e, h1, h2⟩ := h k hk
  injection e with e
  injection e with e1 e2
  subst e1 e2
  exact ⟨h1, h2⟩
theorem nx_tmod {n k : Nat} (h : k < n) : ((k : Int) + 1).tmod n = (nx n k : Nat) := by
  rw [← nx_mod h, Int.tmod_eq_emod_of_nonneg (by omega)]; norm_cast
theorem nx_emod {n k : Nat} (h : k < n) : ((k : Int) + 1) % n = (nx n k : Nat) := by
  rw [← nx_mod h]; norm_cast
end Go.Proofs.Ytgikpcoaennkgaa
