/-
  Plain facts for layer 7, no function of the program: scalar products of vectors in space, turns of points in the plane, shares of angles.
-/
import Derived.Test.YtgikpcoaennkgaaZGenA
namespace Go.Proofs.Ytgikpcoaennkgaa
set_option linter.unusedVariables false
set_option linter.unusedSimpArgs false
/-- A coordinate in range, a vector in range. -/
def co (n : Int) : Prop := -2000 ≤ n ∧ n ≤ 2000
structure V3 (a b c : Int) : Prop where
  x : co a
  y : co b
  z : co c
theorem mul_co {m k a b : Int} (ha : -m ≤ a ∧ a ≤ m) (hb : -k ≤ b ∧ b ≤ k) : -(m * k) ≤ a * b ∧ a * b ≤ m * k := by
  have h1 : 0 ≤ (m - a) * (k + b) := Int.mul_nonneg (by omega) (by omega)
  have h2 : 0 ≤ (m + a) * (k - b) := Int.mul_nonneg (by omega) (by omega)
  have h3 : 0 ≤ (m - a) * (k - b) := Int.mul_nonneg (by omega) (by omega)
  have h4 : 0 ≤ (m + a) * (k + b) := Int.mul_nonneg (by omega) (by omega)
  have e1 : (m - a) * (k + b) = m * k + m * b - a * k - a * b := by grind
  have e2 : (m + a) * (k - b) = m * k - m * b + a * k - a * b := by grind
  have e3 : (m - a) * (k - b) = m * k - m * b - a * k + a * b := by grind
  have e4 : (m + a) * (k + b) = m * k + m * b + a * k + a * b := by grind
  omega












/-! ### Turns -/
def crs (ax ay bx b_y cx cy : Int) : Int := (bx - ax) * (cy - ay) - (b_y - ay) * (cx - ax)



theorem crs_rot (ax ay bx b_y cx cy : Int) : crs bx b_y cx cy ax ay = crs ax ay bx b_y cx cy := by unfold crs; grind

/-- Four ways from one point. -/
theorem crs_four (tx ty sx sy px py qx qy rx ry : Int) : crs tx ty sx sy qx qy * crs tx ty px py rx ry = crs tx ty sx sy px py * crs tx ty qx qy rx ry + crs tx ty sx sy rx ry * crs tx ty px py qx qy := by unfold crs; grind
theorem crs_trans {tx ty sx sy px py qx qy rx ry : Int} (h1 : 0 < crs tx ty sx sy px py) (h2 : 0 < crs tx ty sx sy qx qy) (h3 : 0 < crs tx ty sx sy rx ry) (h4 : 0 < crs tx ty px py qx qy) (h5 : 0 < crs tx ty qx qy rx ry) : 0 < crs tx ty px py rx ry := by
  have h := crs_four tx ty sx sy px py qx qy rx ry
  have p1 := Int.mul_pos h1 h5
  have p2 := Int.mul_pos h3 h4
  rcases Int.lt_or_le 0 (crs tx ty px py rx ry) with g | g
  · exact g
  · have := Int.mul_nonpos_of_nonneg_of_nonpos (Int.le_of_lt h2) g
    omega


theorem crs_bd {ax ay bx b_y cx cy : Int} (h1 : co ax) (h2 : co ay) (h3 : co bx) (h4 : co b_y) (h5 : co cx) (h6 : co cy) :
    (-16000000 ≤ (bx - ax) * (cy - ay) ∧ (bx - ax) * (cy - ay) ≤ 16000000) ∧ (-16000000 ≤ (b_y - ay) * (cx - ax) ∧ (b_y - ay) * (cx - ax) ≤ 16000000) := by
  unfold co at h1 h2 h3 h4 h5 h6
  have k1 := mul_co (m := 4000) (k := 4000) (a := bx - ax) (b := cy - ay) (by omega) (by omega)
  have k2 := mul_co (m := 4000) (k := 4000) (a := b_y - ay) (b := cx - ax) (by omega) (by omega)
  omega
/-- The sign of a number. -/
def sgz (n : Int) : Int := if 0 < n then 1 else if n < 0 then -1 else 0












end Go.Proofs.Ytgikpcoaennkgaa
