/-
  Plain facts for layer 7, no function of the program: scalar products of vectors in space, turns of points in the plane, shares of angles.
-/
import Derived.Test.YtgjcmolocoijiaaYGenA
namespace Go.Proofs.Ytgjcmolocoijiaa
set_option linter.unusedVariables false
set_option linter.unusedSimpArgs false

/-! ### Scalar products -/
def dt (a b c x y z : Int) : Int := a * x + b * y + c * z
/-- A coordinate in range, a vector in range. -/
def co (n : Int) : Prop := -2000 ≤ n ∧ n ≤ 2000
structure V3 (a b c : Int) : Prop where
  x : co a
  y : co b
  z : co c
theorem mul_co {m k a b : Int} (ha : -m ≤ a ∧ a ≤ m) (hb : -k ≤ b ∧ b ≤ k) : -(m * k) ≤ a * b ∧ a * b ≤ m * k := by
  have h1 : 0 ≤ (m - a) * (k + b) := Int.mul_nonneg (by omega) (by omega)
  have h2 : 0 ≤ (m + a) * (k - b) := Int.mul_nonneg (by omega) (by omega)
  have h3 : 0 ≤ (m - a) * (k - b) := Int.mul_nonneg (by omega) (by omega)
  have h4 : 0 ≤ (m + a) * (k + b) := Int.mul_nonneg (by omega) (by omega)
  have e1 : (m - a) * (k + b) = m * k + m * b - a * k - a * b := by grind
  have e2 : (m + a) * (k - b) = m * k - m * b + a * k - a * b := by grind
  have e3 : (m - a) * (k - b) = m * k - m * b - a * k + a * b := by grind
  have e4 : (m + a) * (k + b) = m * k + m * b + a * k + a * b := by grind
  omega
theorem co_mul {a b : Int} (ha : co a) (hb : co b) : -4000000 ≤ a * b ∧ a * b ≤ 4000000 := by
  have := mul_co (m := 2000) (k := 2000) ha hb
  omega
theorem dt_bd {a b c x y z : Int} (h : V3 a b c) (k : V3 x y z) : -12000000 ≤ dt a b c x y z ∧ dt a b c x y z ≤ 12000000 := by
  have h1 := co_mul h.x k.x
  have h2 := co_mul h.y k.y
  have h3 := co_mul h.z k.z
  unfold dt
  omega


theorem sq_nn (a : Int) : 0 ≤ a * a := by
  rcases Int.le_total 0 a with h | h
  · exact Int.mul_nonneg h h
  · exact Int.mul_nonneg_of_nonpos_of_nonpos h h
theorem sq_zero {a : Int} (h : a * a = 0) : a = 0 := by
  rcases Int.mul_eq_zero.1 h with h | h <;> exact h
theorem dt_nn (a b c : Int) : 0 ≤ dt a b c a b c := by
  have h1 := sq_nn a
  have h2 := sq_nn b
  have h3 := sq_nn c
  unfold dt
  omega


/-- The square of the product, and the product of the squares: what lies between them. -/
theorem lagrange (a b c x y z : Int) : dt a b c a b c * dt x y z x y z - dt a b c x y z * dt a b c x y z = (a * y - b * x) * (a * y - b * x) + (b * z - c * y) * (b * z - c * y) + (c * x - a * z) * (c * x - a * z) := by
  unfold dt; grind
theorem cs_le (a b c x y z : Int) : dt a b c x y z * dt a b c x y z ≤ dt a b c a b c * dt x y z x y z := by
  have h := lagrange a b c x y z
  have h1 := sq_nn (a * y - b * x)
  have h2 := sq_nn (b * z - c * y)
  have h3 := sq_nn (c * x - a * z)
  omega
theorem cs_eq (a b c x y z : Int) : dt a b c x y z * dt a b c x y z = dt a b c a b c * dt x y z x y z ↔ a * y = b * x ∧ b * z = c * y ∧ c * x = a * z := by
  have h := lagrange a b c x y z
  have h1 := sq_nn (a * y - b * x)
  have h2 := sq_nn (b * z - c * y)
  have h3 := sq_nn (c * x - a * z)
  constructor
  · intro e
    have e1 := sq_zero (a := a * y - b * x) (by omega)
    have e2 := sq_zero (a := b * z - c * y) (by omega)
    have e3 := sq_zero (a := c * x - a * z) (by omega)
    omega
  · rintro ⟨e1, e2, e3⟩
    have z1 : (a * y - b * x) * (a * y - b * x) = 0 := by rw [e1, Int.sub_self, Int.mul_zero]
    have z2 : (b * z - c * y) * (b * z - c * y) = 0 := by rw [e2, Int.sub_self, Int.mul_zero]
    have z3 : (c * x - a * z) * (c * x - a * z) = 0 := by rw [e3, Int.sub_self, Int.mul_zero]
    omega

/-! ### Turns -/
def crs (ax ay bx b_y cx cy : Int) : Int := (bx - ax) * (cy - ay) - (b_y - ay) * (cx - ax)



theorem crs_rot (ax ay bx b_y cx cy : Int) : crs bx b_y cx cy ax ay = crs ax ay bx b_y cx cy := by unfold crs; grind

/-- Four ways from one point. -/
theorem crs_four (tx ty sx sy px py qx qy rx ry : Int) : crs tx ty sx sy qx qy * crs tx ty px py rx ry = crs tx ty sx sy px py * crs tx ty qx qy rx ry + crs tx ty sx sy rx ry * crs tx ty px py qx qy := by unfold crs; grind
theorem crs_trans {tx ty sx sy px py qx qy rx ry : Int} (h1 : 0 < crs tx ty sx sy px py) (h2 : 0 < crs tx ty sx sy qx qy) (h3 : 0 < crs tx ty sx sy rx ry) (h4 : 0 < crs tx ty px py qx qy) (h5 : 0 < crs tx ty qx qy rx ry) : 0 < crs tx ty px py rx ry := by
  have h := crs_four tx ty sx sy px py qx qy rx ry
  have p1 := Int.mul_pos h1 h5
  have p2 := Int.mul_pos h3 h4
  rcases Int.lt_or_le 0 (crs tx ty px py rx ry) with g | g
  · exact g
  · have := Int.mul_nonpos_of_nonneg_of_nonpos (Int.le_of_lt h2) g
    omega


theorem crs_bd {ax ay bx b_y cx cy : Int} (h1 : co ax) (h2 : co ay) (h3 : co bx) (h4 : co b_y) (h5 : co cx) (h6 : co cy) :
    (-16000000 ≤ (bx - ax) * (cy - ay) ∧ (bx - ax) * (cy - ay) ≤ 16000000) ∧ (-16000000 ≤ (b_y - ay) * (cx - ax) ∧ (b_y - ay) * (cx - ax) ≤ 16000000) := by
  unfold co at h1 h2 h3 h4 h5 h6
  have k1 := mul_co (m := 4000) (k := 4000) (a := bx - ax) (b := cy - ay) (by omega) (by omega)
  have k2 := mul_co (m := 4000) (k := 4000) (a := b_y - ay) (b := cx - ax) (by omega) (by omega)
  omega
/-- The sign of a number. -/
def sgz (n : Int) : Int := if 0 < n then 1 else if n < 0 then -1 else 0

theorem sgz_one {n : Int} : sgz n = 1 ↔ 0 < n := by unfold sgz; split <;> (try split) <;> omega
theorem sgz_neg1 {n : Int} : sgz n = -1 ↔ n < 0 := by unfold sgz; split <;> (try split) <;> omega

/-! ### Shares of angles -/
/-- The scalar product is positive, and its square is at least N / D of the product of the squares. -/
def nr (s A B N D : Int) : Bool := decide (0 < s) && decide (N * A * B ≤ s * s * D)

theorem nr_mono {s A B N D M E : Int} (hA : 0 ≤ A) (hB : 0 ≤ B) (hD : 0 < D) (hE : 0 < E) (h : M * D ≤ N * E) (hn : nr s A B N D = true) : nr s A B M E = true := by
  unfold nr at hn ⊢
  simp only [Bool.and_eq_true, decide_eq_true_eq] at hn ⊢
  refine ⟨hn.1, ?_⟩
  have h1 : M * D * (A * B) ≤ N * E * (A * B) := Int.mul_le_mul_of_nonneg_right h (Int.mul_nonneg hA hB)
  have h2 : N * A * B * E ≤ s * s * D * E := Int.mul_le_mul_of_nonneg_right hn.2 (Int.le_of_lt hE)
  have e1 : M * D * (A * B) = D * (M * A * B) := by grind
  have e2 : N * E * (A * B) = N * A * B * E := by grind
  have e3 : s * s * D * E = D * (s * s * E) := by grind
  exact Int.le_of_mul_le_mul_left (by omega) hD

theorem nr_one (a b c x y z : Int) : nr (dt a b c x y z) (dt a b c a b c) (dt x y z x y z) 1 1 = (decide (a * y = b * x ∧ b * z = c * y ∧ c * x = a * z) && decide (0 < dt a b c x y z)) := by
  unfold nr
  rw [Int.one_mul, Int.mul_one, Bool.and_comm]
  congr 1
  rw [decide_eq_decide, ← cs_eq]
  have := cs_le a b c x y z
  omega


/-- What the numbers come to: no product leaves the range of an int. -/
theorem nr_bd {s A B N D : Int} (hs : -12000000 ≤ s ∧ s ≤ 12000000) (hA : 0 ≤ A ∧ A ≤ 12000000) (hB : 0 ≤ B ∧ B ≤ 12000000) (hN : 0 ≤ N ∧ N ≤ 10000) (hD : 0 ≤ D ∧ D ≤ 10000) :
    (0 ≤ s * s ∧ s * s ≤ 144000000000000) ∧ (0 ≤ s * s * D ∧ s * s * D ≤ 1440000000000000000) ∧ (0 ≤ A * B ∧ A * B ≤ 144000000000000) ∧ (0 ≤ N * A ∧ N * A ≤ 120000000000) ∧ (0 ≤ N * A * B ∧ N * A * B ≤ 1440000000000000000) := by
  have h1 := mul_co (m := 12000000) (k := 12000000) (a := s) (b := s) (by omega) (by omega)
  have h0 := sq_nn s
  have h2 : s * s * D ≤ 144000000000000 * 10000 := Int.mul_le_mul (by omega) hD.2 hD.1 (by omega)
  have h3 : A * B ≤ 12000000 * 12000000 := Int.mul_le_mul hA.2 hB.2 hB.1 (by omega)
  have h4 : N * A ≤ 10000 * 12000000 := Int.mul_le_mul hN.2 hA.2 hA.1 (by omega)
  have h5 : N * A * B ≤ (10000 * 12000000) * 12000000 := Int.mul_le_mul h4 hB.2 hB.1 (by omega)
  have n1 := Int.mul_nonneg h0 hD.1
  have n2 := Int.mul_nonneg hA.1 hB.1
  have n3 := Int.mul_nonneg hN.1 hA.1
  have n4 := Int.mul_nonneg n3 hB.1
  omega
end Go.Proofs.Ytgjcmolocoijiaa
