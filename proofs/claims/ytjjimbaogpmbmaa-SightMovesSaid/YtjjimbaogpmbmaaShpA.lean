/-
  Plain facts for layer 8, no function of the program: strictly convex bases, points strictly inside, bases without a corner, lines that part two bases.
-/
import Derived.Test.YtjjimbaogpmbmaaVecA
namespace Go.Proofs.Ytjjimbaogpmbmaa
set_option linter.unusedVariables false
set_option linter.unusedSimpArgs false

/-- The turn over three corners. -/
def tr (X Y : Nat → Int) (i j k : Nat) : Int := crs (X i) (Y i) (X j) (Y j) (X k) (Y k)
theorem tr_rot (X Y : Nat → Int) (i j k : Nat) : tr X Y j k i = tr X Y i j k := crs_rot _ _ _ _ _ _
/-- The corner behind. -/
def nx (n i : Nat) : Nat := if i + 1 = n then 0 else i + 1
theorem nx_mod {n i : Nat} (h : i < n) : (i + 1) % n = nx n i := by
  unfold nx
  split
  · rename_i e; rw [e, Nat.mod_self]
  · exact Nat.mod_eq_of_lt (by omega)
theorem nx_lt {n i : Nat} (h : i < n) : nx n i < n := by unfold nx; split <;> omega
/-- Strictly convex and counterclockwise. -/
def Cvx (n : Nat) (X Y : Nat → Int) : Prop := ∀ i j, i < n → j < n → j ≠ i → j ≠ nx n i → 0 < tr X Y i (nx n i) j
theorem cvx_step {n : Nat} {X Y : Nat → Int} (h : Cvx n X Y) {i j : Nat} (hi : i + 1 < n) (hj : j < n) (h1 : j ≠ i) (h2 : j ≠ i + 1) : 0 < tr X Y i (i + 1) j := by
  have e : nx n i = i + 1 := by unfold nx; split <;> omega
  have := h i j (by omega) hj h1 (by rw [e]; exact h2)
  rwa [e] at this
/-- All triples turn to the left. -/
theorem cvx_tri {n : Nat} {X Y : Nat → Int} (h : Cvx n X Y) {i j : Nat} (hij : i < j) : ∀ d, j + d + 1 < n → 0 < tr X Y i j (j + d + 1)
  | 0, hn => by
    have := cvx_step h (i := j) (j := i) (by omega) (by omega) (by omega) (by omega)
    rwa [tr_rot] at this
  | d + 1, hn => by
    by_cases e : j = i + 1
    · subst e
      exact cvx_step h (by omega) (by omega) (by omega) (by omega)
    · have h4 := cvx_tri h hij d (by omega)
      have h5 : 0 < tr X Y i (j + d + 1) (j + d + 2) := by
        have := cvx_step h (i := j + d + 1) (j := i) (by omega) (by omega) (by omega) (by omega)
        rwa [tr_rot] at this
      have h1 := cvx_step h (i := i) (j := j) (by omega) (by omega) (by omega) (by omega)
      have h2 := cvx_step h (i := i) (j := j + d + 1) (by omega) (by omega) (by omega) (by omega)
      have h3 := cvx_step h (i := i) (j := j + d + 2) (by omega) (by omega) (by omega) (by omega)
      exact crs_trans h1 h2 h3 h4 h5
theorem cvx_lt {n : Nat} {X Y : Nat → Int} (h : Cvx n X Y) {i j k : Nat} (hij : i < j) (hjk : j < k) (hk : k < n) : 0 < tr X Y i j k := by
  have := cvx_tri h hij (k - j - 1) (by omega)
  rwa [show j + (k - j - 1) + 1 = k by omega] at this
theorem cvx_of {n : Nat} {X Y : Nat → Int} (h : ∀ i j k, i < j → j < k → k < n → 0 < tr X Y i j k) : Cvx n X Y := by
  intro i j hi hj h1 h2
  unfold nx at h2 ⊢
  split at h2
  · rename_i e
    rw [if_pos e]
    have := h 0 j i (by omega) (by omega) (by omega)
    rw [← tr_rot, ← tr_rot] at this
    exact this
  · rename_i e
    rw [if_neg e]
    rcases Nat.lt_or_ge j i with g | g
    · have := h j i (i + 1) (by omega) (by omega) (by omega)
      rwa [← tr_rot] at this
    · exact h i (i + 1) j (by omega) (by omega) (by omega)
/-- Without a corner. -/
def sk (k : Nat) (X : Nat → Int) (i : Nat) : Int := if i < k then X i else X (i + 1)
def sx (k i : Nat) : Nat := if i < k then i else i + 1
theorem sk_sx (k : Nat) (X : Nat → Int) (i : Nat) : sk k X i = X (sx k i) := by unfold sk sx; split <;> rfl
theorem sx_mono {k i j : Nat} (h : i < j) : sx k i < sx k j := by unfold sx; split <;> split <;> omega
theorem sx_lt {n k i : Nat} (hk : k < n) (h : i < n - 1) : sx k i < n := by unfold sx; split <;> omega
theorem tr_sk (k : Nat) (X Y : Nat → Int) (a b c : Nat) : tr (sk k X) (sk k Y) a b c = tr X Y (sx k a) (sx k b) (sx k c) := by
  unfold tr; simp only [sk_sx]
theorem cvx_sk {n k : Nat} {X Y : Nat → Int} (h : Cvx n X Y) (hk : k < n) : Cvx (n - 1) (sk k X) (sk k Y) :=
  cvx_of fun a b c h1 h2 h3 => by
    rw [tr_sk]
    exact cvx_lt h (sx_mono h1) (sx_mono h2) (sx_lt hk h3)
/-- A point strictly inside a base. -/
def Ins (n : Nat) (X Y : Nat → Int) (u v : Int) : Prop := ∀ i, i < n → 0 < crs (X i) (Y i) (X (nx n i)) (Y (nx n i)) u v
theorem pos_of_mul {a b c : Int} (ha : 0 < a) (h : a * b = c) (hc : 0 < c) : 0 < b := by
  rcases Int.lt_or_le 0 b with g | g
  · exact g
  · have := Int.mul_nonpos_of_nonneg_of_nonpos (Int.le_of_lt ha) g
    omega
/-- Around a corner: between two corners is to the left of an earlier one, and an elder one is to the left of it. -/
theorem fan_left {tx ty ax ay bx b_y vx vy cx cy : Int} (h1 : 0 < crs tx ty ax ay bx b_y) (h2 : 0 < crs tx ty vx vy cx cy) (h3 : 0 < crs tx ty ax ay cx cy) (h4 : 0 < crs tx ty bx b_y vx vy) (h5 : 0 < crs tx ty bx b_y cx cy) : 0 < crs tx ty ax ay vx vy := by
  have e := crs_four tx ty ax ay bx b_y vx vy cx cy
  have p1 := Int.mul_pos h1 h2
  have p2 := Int.mul_pos h3 h4
  exact pos_of_mul h5 (by rw [Int.mul_comm]; first | done | exact e) (by omega)
theorem fan_right {tx ty ax ay vx vy bx b_y cx cy : Int} (h1 : 0 < crs tx ty ax ay vx vy) (h2 : 0 < crs tx ty bx b_y cx cy) (h3 : 0 < crs tx ty ax ay cx cy) (h4 : 0 < crs tx ty vx vy bx b_y) (h5 : 0 < crs tx ty ax ay bx b_y) : 0 < crs tx ty vx vy cx cy := by
  have e := crs_four tx ty ax ay vx vy bx b_y cx cy
  have p1 := Int.mul_pos h1 h2
  have p2 := Int.mul_pos h3 h4
  exact pos_of_mul h5 e (by omega)
/-- Three corners in their order round the base. -/
def Cyc (i j k : Nat) : Prop := (i < j ∧ j < k) ∨ (j < k ∧ k < i) ∨ (k < i ∧ i < j)
theorem cvx_cyc {n : Nat} {X Y : Nat → Int} (h : Cvx n X Y) {i j k : Nat} (hi : i < n) (hj : j < n) (hk : k < n) (hc : Cyc i j k) : 0 < tr X Y i j k := by
  rcases hc with ⟨a, b⟩ | ⟨a, b⟩ | ⟨a, b⟩
  · exact cvx_lt h a b hk
  · have := cvx_lt h a b hi
    rwa [tr_rot] at this
  · have := cvx_lt h a b hj
    rw [tr_rot X Y j k i] at this
    first
      | exact this
      | (rw [← tr_rot]; exact this)
      | (rw [← tr_rot, ← tr_rot]; exact this)
/-- The corner ahead. -/
def pv (n i : Nat) : Nat := if i = 0 then n - 1 else i - 1
theorem ins_sk {n k : Nat} {X Y : Nat → Int} {u v : Int} (h : Cvx n X Y) (hn : 4 ≤ n) (hk0 : 0 < k) (hk : k < n) (hs : Ins (n - 1) (sk k X) (sk k Y) u v) : Ins n X Y u v := by
  -- an edge of what is left, by its corner in the base
  have hs' : ∀ i, i < n - 1 → 0 < crs (X (sx k i)) (Y (sx k i)) (X (sx k (nx (n - 1) i))) (Y (sx k (nx (n - 1) i))) u v := fun i hi => by
    have := hs i hi
    simpa only [sk_sx] using this
  -- all edges but the two at k
  have old : ∀ i, i < n → i ≠ k → i + 1 ≠ k → 0 < crs (X i) (Y i) (X (nx n i)) (Y (nx n i)) u v := by
    intro i hi h1 h2
    by_cases g : i < k
    · have := hs' i (by omega)
      have e1 : sx k i = i := by unfold sx; split <;> omega
      have e2 : sx k (nx (n - 1) i) = nx n i := by unfold sx nx; split <;> split <;> (try split) <;> omega
      rwa [e1, e2] at this
    · have := hs' (i - 1) (by omega)
      have e1 : sx k (i - 1) = i := by unfold sx; split <;> omega
      have e2 : sx k (nx (n - 1) (i - 1)) = nx n i := by unfold sx nx; split <;> split <;> (try split) <;> omega
      rwa [e1, e2] at this
  -- the new edge
  have new : 0 < crs (X (k - 1)) (Y (k - 1)) (X (nx n k)) (Y (nx n k)) u v := by
    have := hs' (k - 1) (by omega)
    have e1 : sx k (k - 1) = k - 1 := by unfold sx; split <;> omega
    have e2 : sx k (nx (n - 1) (k - 1)) = nx n k := by unfold sx nx; split <;> split <;> (try split) <;> omega
    rwa [e1, e2] at this
  have tri : ∀ a b c, a < n → b < n → c < n → Cyc a b c → 0 < crs (X a) (Y a) (X b) (Y b) (X c) (Y c) := fun a b c ha hb hc hh => cvx_cyc h ha hb hc hh
  have hq : nx n k < n := nx_lt hk
  have hqq : nx n (nx n k) < n := nx_lt hq
  have hp : pv n (k - 1) < n := by unfold pv; split <;> omega
  have epv : nx n (pv n (k - 1)) = k - 1 := by unfold nx pv; split <;> split <;> omega
  intro i hi
  by_cases h1 : i = k
  · subst h1
    have a1 := old (nx n i) hq (by unfold nx; split <;> omega) (by unfold nx; split <;> omega)
    have b1 : 0 < crs (X (nx n i)) (Y (nx n i)) u v (X (i - 1)) (Y (i - 1)) := by rw [crs_rot]; exact new
    have r := fan_right a1 (tri (nx n i) (i - 1) i hq (by omega) hi (by unfold Cyc nx; split <;> omega)) (tri (nx n i) (nx n (nx n i)) i hq hqq hi (by unfold Cyc nx; split <;> split <;> omega)) b1 (tri (nx n i) (nx n (nx n i)) (i - 1) hq hqq (by omega) (by unfold Cyc nx; split <;> split <;> omega))
    rw [crs_rot] at r
    rw [crs_rot] at r
    first
      | exact r
      | (rw [← crs_rot] at r; exact r)
      | (rw [crs_rot] at r; exact r)
  · by_cases h2 : i + 1 = k
    · have e3 : nx n i = k := by unfold nx; split <;> omega
      have e4 : k - 1 = i := by omega
      rw [e3]
      rw [e4] at new hp epv
      have a1 := old (pv n i) hp (by unfold pv; split <;> omega) (by unfold pv; split <;> omega)
      rw [epv] at a1
      have b1 : 0 < crs (X i) (Y i) u v (X (pv n i)) (Y (pv n i)) := by rw [crs_rot]; exact a1
      exact fan_left (tri i k (nx n k) hi hk hq (by unfold Cyc nx; split <;> omega)) b1 (tri i k (pv n i) hi hk hp (by unfold Cyc pv; split <;> omega)) new (tri i (nx n k) (pv n i) hi hq hp (by unfold Cyc nx pv; split <;> split <;> omega))
    · exact old i hi h1 h2

/-- The turn is affine in its last point: what three corners with a point inside them say of it. -/
theorem bary (ax ay bx b_y cx cy px py qx qy u v : Int) :
    crs ax ay bx b_y cx cy * crs px py qx qy u v = crs bx b_y cx cy u v * crs px py qx qy ax ay + crs cx cy ax ay u v * crs px py qx qy bx b_y + crs ax ay bx b_y u v * crs px py qx qy cx cy := by unfold crs; grind
/-- A point inside lies in a triangle with the first corner. -/
theorem ins_fan {n : Nat} {X Y : Nat → Int} {u v : Int} (hn : 3 ≤ n) (hi : Ins n X Y u v) : ∃ j, 0 < j ∧ j + 1 < n ∧ 0 < crs (X 0) (Y 0) (X j) (Y j) u v ∧ crs (X 0) (Y 0) (X (j + 1)) (Y (j + 1)) u v ≤ 0 := by
  have first : 0 < crs (X 0) (Y 0) (X 1) (Y 1) u v := by
    have := hi 0 (by omega)
    have e : nx n 0 = 1 := by unfold nx; split <;> omega
    rwa [e] at this
  have last : crs (X 0) (Y 0) (X (n - 1)) (Y (n - 1)) u v ≤ 0 := by
    have := hi (n - 1) (by omega)
    have e : nx n (n - 1) = 0 := by unfold nx; split <;> omega
    rw [e, crs_ab] at this
    omega
  have step : ∀ d, d + 2 ≤ n → 0 < crs (X 0) (Y 0) (X (n - 1 - d)) (Y (n - 1 - d)) u v ∨ (∃ j, 0 < j ∧ j + 1 < n ∧ 0 < crs (X 0) (Y 0) (X j) (Y j) u v ∧ crs (X 0) (Y 0) (X (j + 1)) (Y (j + 1)) u v ≤ 0) ∨ crs (X 0) (Y 0) (X (n - 1 - d)) (Y (n - 1 - d)) u v ≤ 0 := fun d hd => by
    rcases Int.lt_or_le 0 (crs (X 0) (Y 0) (X (n - 1 - d)) (Y (n - 1 - d)) u v) with g | g
    · exact Or.inl g
    · exact Or.inr (Or.inr g)
  -- go down from the last corner to the first one that is positive
  have down : ∀ d, d + 2 ≤ n → (∃ j, 0 < j ∧ j + 1 < n ∧ 0 < crs (X 0) (Y 0) (X j) (Y j) u v ∧ crs (X 0) (Y 0) (X (j + 1)) (Y (j + 1)) u v ≤ 0) ∨ crs (X 0) (Y 0) (X (n - 1 - d)) (Y (n - 1 - d)) u v ≤ 0 := by
    intro d
    induction d with
    | zero => intro _; exact Or.inr last
    | succ d ih =>
      intro hd
      rcases ih (by omega) with g | g
      · exact Or.inl g
      · rcases Int.lt_or_le 0 (crs (X 0) (Y 0) (X (n - 1 - (d + 1))) (Y (n - 1 - (d + 1))) u v) with k | k
        · refine Or.inl ⟨n - 1 - (d + 1), by omega, by omega, k, ?_⟩
          rwa [show n - 1 - (d + 1) + 1 = n - 1 - d by omega]
        · exact Or.inr k
  rcases down (n - 2) (by omega) with g | g
  · exact g
  · rw [show n - 1 - (n - 2) = 1 by omega] at g
    omega
/-- A line that has all corners on it or to its right has all that is inside so too. -/
theorem ins_right {n : Nat} {X Y : Nat → Int} {u v px py qx qy : Int} (hn : 3 ≤ n) (hc : Cvx n X Y) (hi : Ins n X Y u v) (hr : ∀ i, i < n → crs px py qx qy (X i) (Y i) ≤ 0) : crs px py qx qy u v ≤ 0 := by
  obtain ⟨j, h0, h1, h2, h3⟩ := ins_fan hn hi
  have t : 0 < crs (X 0) (Y 0) (X j) (Y j) (X (j + 1)) (Y (j + 1)) := cvx_lt hc h0 (by omega) h1
  have m : 0 < crs (X j) (Y j) (X (j + 1)) (Y (j + 1)) u v := by
    have := hi j (by omega)
    have e : nx n j = j + 1 := by unfold nx; split <;> omega
    rwa [e] at this
  have b := bary (X 0) (Y 0) (X j) (Y j) (X (j + 1)) (Y (j + 1)) px py qx qy u v
  have c3 : 0 ≤ crs (X (j + 1)) (Y (j + 1)) (X 0) (Y 0) u v := by rw [crs_ab]; omega
  have m1 := Int.mul_nonpos_of_nonneg_of_nonpos (Int.le_of_lt m) (hr 0 (by omega))
  have m2 := Int.mul_nonpos_of_nonneg_of_nonpos c3 (hr j (by omega))
  have m3 := Int.mul_nonpos_of_nonneg_of_nonpos (Int.le_of_lt h2) (hr (j + 1) h1)
  rcases Int.lt_or_le 0 (crs px py qx qy u v) with g | g
  · have := Int.mul_pos t g
    omega
  · exact g
end Go.Proofs.Ytjjimbaogpmbmaa
