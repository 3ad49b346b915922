/-
  Plain facts: what the functions of layer 7 answer, as functions of the numbers.
-/
import Derived.Test.YtgikpcoaennkgaaZVecA
namespace Go.Proofs.Ytgikpcoaennkgaa
set_option linter.unusedVariables false
set_option linter.unusedSimpArgs false

/-- A coordinate in range, a valid vector, a valid point. -/
def inr (n : Int) : Bool := decide (-2000 ≤ n) && decide (n ≤ 2000)
def vv (a b c : Int) : Bool := inr a && inr b && inr c
def pp (a b : Int) : Bool := inr a && inr b
theorem inr_iff {n : Int} : inr n = true ↔ co n := by simp [inr, co]

theorem vv_iff {a b c : Int} : vv a b c = true ↔ V3 a b c := by
  simp only [vv, Bool.and_eq_true, inr_iff]
  exact ⟨fun h => ⟨h.1.1, h.1.2, h.2⟩, fun h => ⟨⟨h.x, h.y⟩, h.z⟩⟩
theorem pp_iff {a b : Int} : pp a b = true ↔ co a ∧ co b := by simp only [pp, Bool.and_eq_true, inr_iff]
theorem inr_zero : inr 0 = true := by decide
theorem vv_zero (a b : Int) : vv a b 0 = pp a b := by unfold vv pp; rw [inr_zero, Bool.and_true]



def kp (E u : Int) : Int := if E = 0 then u else 0





/-- ErrArg, if not. -/
def aE (t : Bool) : Int := if t then 0 else 1



end Go.Proofs.Ytgikpcoaennkgaa
