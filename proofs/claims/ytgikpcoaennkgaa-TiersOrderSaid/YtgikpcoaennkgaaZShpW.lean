/-
  Slices of points and bodies that come in.
-/
import Derived.Test.YtgikpcoaennkgaaZGenP
import Derived.Test.YtgikpcoaennkgaaZShpC
import Derived.Deep.SlicePairs
import Derived.Lib.SmallJoins
import Derived.ProofKit
import Derived.OpenShut
namespace Go.Proofs.Ytgikpcoaennkgaa
open Go.ChangeShapes Go.WideShapes Go.ChangeAt Go.RowKit Go.Joins Go.Deep
open Go.RowKit (Below)
set_option linter.unusedVariables false
set_option linter.unusedSimpArgs false


theorem add_plain (b o i : Nat) : (⟨b, o, none⟩ : Addr).add i = ⟨b, o + i, none⟩ := by unfold Addr.add; split <;> simp_all
theorem cellsInt : Try.prog.cellsOf 3 = 1 := by kernel_rfl


theorem int_back {H : Type} {enc : TypeId × Value → H} {W W' : World} {sp sp' : Nat → Bool} {n : Nat} {v : Value} {x : DataW H × List MemPlace} (h : DataW.trod enc Try.prog W 0 sp true n 3 [v] = some x) :
    ∃ a : Int, v = .int .i64 a ∧ x = (.lit (.int .i64 a), []) ∧ (Lit.int .i64 a).wf = true ∧ ∃ n, DataW.trod enc Try.prog W' 0 sp' true n 3 [v] = some x := by
  obtain ⟨a, e0, rfl, wa⟩ := DataW.trod_int Try.underlying3 h
  simp at e0
  subst e0
  exact ⟨a, rfl, rfl, wa, 1, by simp [DataW.trod, Try.underlying3, wa]⟩




end Go.Proofs.Ytgikpcoaennkgaa
