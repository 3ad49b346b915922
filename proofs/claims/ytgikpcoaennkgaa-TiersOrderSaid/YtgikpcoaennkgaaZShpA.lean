/-
  Plain facts for layer 8, no function of the program: strictly convex bases, points strictly inside, bases without a corner, lines that part two bases.
-/
import Derived.Test.YtgikpcoaennkgaaZVecA
namespace Go.Proofs.Ytgikpcoaennkgaa
set_option linter.unusedVariables false
set_option linter.unusedSimpArgs false

/-- The turn over three corners. -/
def tr (X Y : Nat → Int) (i j k : Nat) : Int := crs (X i) (Y i) (X j) (Y j) (X k) (Y k)
theorem tr_rot (X Y : Nat → Int) (i j k : Nat) : tr X Y j k i = tr X Y i j k := crs_rot _ _ _ _ _ _
/-- The corner behind. -/
def nx (n i : Nat) : Nat := if i + 1 = n then 0 else i + 1
theorem nx_mod {n i : Nat} (h : i < n) : (i + 1) % n = nx n i := by
  unfold nx
  split
  · rename_i e; rw [e, Nat.mod_self]
  · exact Nat.mod_eq_of_lt (by omega)
theorem nx_lt {n i : Nat} (h : i < n) : nx n i < n := by unfold nx; split <;> omega
/-- Strictly convex and counterclockwise. -/
def Cvx (n : Nat) (X Y : Nat → Int) : Prop := ∀ i j, i < n → j < n → j ≠ i → j ≠ nx n i → 0 < tr X Y i (nx n i) j
theorem cvx_step {n : Nat} {X Y : Nat → Int} (h : Cvx n X Y) {i j : Nat} (hi : i + 1 < n) (hj : j < n) (h1 : j ≠ i) (h2 : j ≠ i + 1) : 0 < tr X Y i (i + 1) j := by
  have e : nx n i = i + 1 := by unfold nx; split <;> omega
  have := h i j (by omega) hj h1 (by rw [e]; exact h2)
  rwa [e] at this
/-- All triples turn to the left. -/
theorem cvx_tri {n : Nat} {X Y : Nat → Int} (h : Cvx n X Y) {i j : Nat} (hij : i < j) : ∀ d, j + d + 1 < n → 0 < tr X Y i j (j + d + 1)
  | 0, hn => by
    have := cvx_step h (i := j) (j := i) (by omega) (by omega) (by omega) (by omega)
    rwa [tr_rot] at this
  | d + 1, hn => by
    by_cases e : j = i + 1
    · subst e
      exact cvx_step h (by omega) (by omega) (by omega) (by omega)
    · have h4 := cvx_tri h hij d (by omega)
      have h5 : 0 < tr X Y i (j + d + 1) (j + d + 2) := by
        have := cvx_step h (i := j + d + 1) (j := i) (by omega) (by omega) (by omega) (by omega)
        rwa [tr_rot] at this
      have h1 := cvx_step h (i := i) (j := j) (by omega) (by omega) (by omega) (by omega)
      have h2 := cvx_step h (i := i) (j := j + d + 1) (by omega) (by omega) (by omega) (by omega)
      have h3 := cvx_step h (i := i) (j := j + d + 2) (by omega) (by omega) (by omega) (by omega)
      exact crs_trans h1 h2 h3 h4 h5
theorem cvx_lt {n : Nat} {X Y : Nat → Int} (h : Cvx n X Y) {i j k : Nat} (hij : i < j) (hjk : j < k) (hk : k < n) : 0 < tr X Y i j k := by
  have := cvx_tri h hij (k - j - 1) (by omega)
  rwa [show j + (k - j - 1) + 1 = k by omega] at this


def sx (k i : Nat) : Nat := if i < k then i else i + 1





/-- A point strictly inside a base. -/
def Ins (n : Nat) (X Y : Nat → Int) (u v : Int) : Prop := ∀ i, i < n → 0 < crs (X i) (Y i) (X (nx n i)) (Y (nx n i)) u v





/-- The corner ahead. -/
def pv (n i : Nat) : Nat := if i = 0 then n - 1 else i - 1




end Go.Proofs.Ytgikpcoaennkgaa
