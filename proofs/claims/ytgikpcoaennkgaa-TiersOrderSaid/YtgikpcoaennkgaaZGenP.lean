/-
  Plain tools, no function of the program: rows that a call has made, as slices of ints and of pairs of ints; slices of pairs that come in.
-/
import Derived.Test.YtgikpcoaennkgaaZGenA
import Derived.Deep.Slices
import Derived.Deep.Fields
import Derived.ChangeSame
import Derived.Carry
import Derived.ProofKit
import Derived.OpenShut
import Derived.ChangeSlices
import Derived.Lib.SmallJoins
namespace Go.Proofs.Ytgikpcoaennkgaa
open Go.ChangeShapes Go.WideShapes Go.ChangeAt Go.RowKit Go.Joins Go.Deep
open Go.RowKit (Below)
set_option linter.unusedVariables false

theorem wf_i {x : Int} (h : (Lit.int .i64 x).wf = true) : I64 x := by
  have e1 : IntKind.i64.min = -9223372036854775808 := rfl
  have e2 : IntKind.i64.max = 9223372036854775807 := rfl
  simp [Lit.wf, e1, e2] at h
  exact h


/-- An element of a list of pairs. -/
def gdS (xs : List (Int × Int)) (k : Nat) : Int × Int := xs.getD k (0, 0)
theorem gdS_at {xs : List (Int × Int)} {k : Nat} (h : k < xs.length) : gdS xs k = xs[k] := by simp [gdS, List.getD_eq_getElem?_getD, h]

/-- The slice at A reads as the pairs xs. -/
def SlS (w : World) (A : Option Addr) (xs : List (Int × Int)) : Prop := ∀ k, k < xs.length → ∃ b o, A = some ⟨b, o, none⟩ ∧ w.cell? ⟨b, o + k * 2, none⟩ = some (.int .i64 (gdS xs k).1) ∧ w.cell? ⟨b, o + k * 2 + 1, none⟩ = some (.int .i64 (gdS xs k).2)
theorem SlS.same {w w' : World} {A : Option Addr} {xs : List (Int × Int)} (h : SlS w A xs) (hb : ∀ b o, A = some ⟨b, o, none⟩ → b < w.heap.size → w'.heap[b]? = w.heap[b]?) : SlS w' A xs := by
  intro k hk
  obtain ⟨b, o, e, hc, hd⟩ := h k hk
  refine ⟨b, o, e, ?_, ?_⟩
  · rw [World.cell?_of_block (a := ⟨b, o + k * 2, none⟩) (hb b o e (block_lt hc))]; exact hc
  · rw [World.cell?_of_block (a := ⟨b, o + k * 2 + 1, none⟩) (hb b o e (block_lt hc))]; exact hd
theorem SlS.below {w w' : World} {A : Option Addr} {xs : List (Int × Int)} (h : SlS w A xs) (hb : Below w.heap.size w w') : SlS w' A xs :=
  h.same fun b _ _ hlt => hb.block b hlt
theorem SlS.nil (w : World) (A : Option Addr) : SlS w A [] := fun k hk => absurd hk (Nat.not_lt_zero k)









end Go.Proofs.Ytgikpcoaennkgaa
