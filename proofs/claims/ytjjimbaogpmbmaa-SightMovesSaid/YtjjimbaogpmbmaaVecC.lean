/-
  Plain facts: what the functions of layer 7 answer, as functions of the numbers.
-/
import Derived.Test.YtjjimbaogpmbmaaVecA
namespace Go.Proofs.Ytjjimbaogpmbmaa
set_option linter.unusedVariables false
set_option linter.unusedSimpArgs false

/-- A coordinate in range, a valid vector, a valid point. -/
def inr (n : Int) : Bool := decide (-2000 ≤ n) && decide (n ≤ 2000)
def vv (a b c : Int) : Bool := inr a && inr b && inr c
def pp (a b : Int) : Bool := inr a && inr b
theorem inr_iff {n : Int} : inr n = true ↔ co n := by simp [inr, co]
theorem inr_f {n : Int} : inr n = false ↔ n < -2000 ∨ 2000 < n := by simp [inr]; omega
theorem vv_iff {a b c : Int} : vv a b c = true ↔ V3 a b c := by
  simp only [vv, Bool.and_eq_true, inr_iff]
  exact ⟨fun h => ⟨h.1.1, h.1.2, h.2⟩, fun h => ⟨⟨h.x, h.y⟩, h.z⟩⟩
theorem pp_iff {a b : Int} : pp a b = true ↔ co a ∧ co b := by simp only [pp, Bool.and_eq_true, inr_iff]
theorem inr_zero : inr 0 = true := by decide
theorem vv_zero (a b : Int) : vv a b 0 = pp a b := by unfold vv pp; rw [inr_zero, Bool.and_true]
theorem inr_neg (n : Int) : inr (-n) = inr n := by rw [Bool.eq_iff_iff, inr_iff, inr_iff]; unfold co; omega
theorem vv_neg (a b c : Int) : vv (-a) (-b) (-c) = vv a b c := by unfold vv; rw [inr_neg, inr_neg, inr_neg]
/-- What a sum or a difference comes to: its error out of three validities, and a coordinate. -/
def sE (p q r : Bool) : Int := if p && q then if r then 0 else 3 else 1
def kp (E u : Int) : Int := if E = 0 then u else 0
theorem sE_ok {p q r : Bool} : sE p q r = 0 ↔ p = true ∧ q = true ∧ r = true := by cases p <;> cases q <;> cases r <;> decide
theorem sE_tt (r : Bool) : sE true true r = if r then 0 else 3 := rfl
theorem sE_comm (p q r : Bool) : sE q p r = sE p q r := by cases p <;> cases q <;> rfl
theorem kp_ok {E u : Int} (h : E = 0) : kp E u = u := if_pos h
theorem kp_no {E u : Int} (h : E ≠ 0) : kp E u = 0 := if_neg h
/-- ErrArg, if not. -/
def aE (t : Bool) : Int := if t then 0 else 1
/-- A direction, a share of an angle. -/
def zv (a b c : Int) : Bool := decide (a = 0 ∧ b = 0 ∧ c = 0)
theorem zv_iff {a b c : Int} : zv a b c = true ↔ a = 0 ∧ b = 0 ∧ c = 0 := decide_eq_true_iff
theorem zv_f {a b c : Int} : zv a b c = false ↔ ¬ (a = 0 ∧ b = 0 ∧ c = 0) := decide_eq_false_iff_not
end Go.Proofs.Ytjjimbaogpmbmaa
