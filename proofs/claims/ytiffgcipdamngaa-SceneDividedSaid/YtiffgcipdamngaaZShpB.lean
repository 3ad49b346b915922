/-
  Plain facts for layer 8, no function of the program: fractions, ranges that are narrowed, clips; the way back; points of a way.
-/
import Derived.Test.YtiffgcipdamngaaZShpA
namespace Go.Proofs.Ytiffgcipdamngaa
set_option linter.unusedVariables false
set_option linter.unusedSimpArgs false

/-! ### Quotients -/
def gq (a b : Int) : Int := (Nat.gcd a.natAbs b.natAbs : Nat)
def qN (a b : Int) : Int := a / gq a b
def qD (a b : Int) : Int := b / gq a b
theorem gq_pos {a b : Int} (h : 0 < b) : 0 < gq a b := by
  unfold gq
  have := Nat.gcd_pos_of_pos_right a.natAbs (n := b.natAbs) (by omega)
  omega
theorem gq_dvd1 (a b : Int) : gq a b ∣ a := by
  unfold gq
  exact Int.ofNat_dvd_left.2 (Nat.gcd_dvd_left _ _)
theorem gq_dvd2 (a b : Int) : gq a b ∣ b := by
  unfold gq
  exact Int.ofNat_dvd_left.2 (Nat.gcd_dvd_right _ _)
theorem qN_mul (a b : Int) : qN a b * gq a b = a := Int.ediv_mul_cancel (gq_dvd1 a b)
theorem qD_mul (a b : Int) : qD a b * gq a b = b := Int.ediv_mul_cancel (gq_dvd2 a b)
theorem pos_of_mul_right {x g : Int} (hg : 0 < g) (h : 0 < x * g) : 0 < x := by
  rcases Int.lt_or_le 0 x with k | k
  · exact k
  · have := Int.mul_nonpos_of_nonpos_of_nonneg k (Int.le_of_lt hg)
    omega
theorem qD_pos {a b : Int} (h : 0 < b) : 0 < qD a b := pos_of_mul_right (gq_pos (a := a) h) (by rw [qD_mul]; exact h)
/-- A quotient against a fraction: the numbers themselves serve. -/
theorem lt_q {a b n d : Int} (h : 0 < b) : qN a b * d < n * qD a b ↔ a * d < n * b := by
  have g := gq_pos (a := a) h
  have e1 : a * d = qN a b * d * gq a b := by
    have := qN_mul a b
    calc a * d = qN a b * gq a b * d := by rw [this]
      _ = qN a b * d * gq a b := by grind
  have e2 : n * b = n * qD a b * gq a b := by
    have := qD_mul a b
    calc n * b = n * (qD a b * gq a b) := by rw [this]
      _ = n * qD a b * gq a b := by grind
  rw [e1, e2]
  exact ⟨fun k => Int.mul_lt_mul_of_pos_right k g, fun k => Int.lt_of_mul_lt_mul_right k (Int.le_of_lt g)⟩
theorem q_lt {a b n d : Int} (h : 0 < b) : n * qD a b < qN a b * d ↔ n * b < a * d := by
  have g := gq_pos (a := a) h
  have e1 : a * d = qN a b * d * gq a b := by
    have := qN_mul a b
    calc a * d = qN a b * gq a b * d := by rw [this]
      _ = qN a b * d * gq a b := by grind
  have e2 : n * b = n * qD a b * gq a b := by
    have := qD_mul a b
    calc n * b = n * (qD a b * gq a b) := by rw [this]
      _ = n * qD a b * gq a b := by grind
  rw [e1, e2]
  exact ⟨fun k => Int.mul_lt_mul_of_pos_right k g, fun k => Int.lt_of_mul_lt_mul_right k (Int.le_of_lt g)⟩






theorem q_bd {a b m : Int} (h : 0 < b) (ha : -m ≤ a ∧ a ≤ m) (hb : b ≤ m) : (-m ≤ qN a b ∧ qN a b ≤ m) ∧ 0 < qD a b ∧ qD a b ≤ m := by
  have g := gq_pos (a := a) h
  have e1 := qN_mul a b
  have e2 := qD_mul a b
  have p := qD_pos (a := a) h
  have l2 : qD a b ≤ b := by
    have := Int.mul_le_mul_of_nonneg_left (a := 1) (b := gq a b) (by omega : (1 : Int) ≤ gq a b) (Int.le_of_lt p)
    omega
  have l1 : -m ≤ qN a b ∧ qN a b ≤ m := by
    rcases Int.le_total 0 (qN a b) with k | k
    · have := Int.mul_le_mul_of_nonneg_left (a := 1) (b := gq a b) (by omega : (1 : Int) ≤ gq a b) k
      omega
    · have h1 := Int.mul_nonpos_of_nonpos_of_nonneg k (by omega : 0 ≤ gq a b - 1)
      rw [Int.mul_sub, Int.mul_one] at h1
      omega
  exact ⟨l1, p, by omega⟩


theorem fr_trans_le {a b c d x y : Int} (hb : 0 < b) (hd : 0 < d) (hy : 0 < y) (h1 : a * d ≤ c * b) (h2 : c * y < x * d) : a * y < x * b := by
  have k1 := Int.mul_le_mul_of_nonneg_right h1 (Int.le_of_lt hy)
  have k2 := Int.mul_lt_mul_of_pos_right h2 hb
  have e1 : a * d * y = d * (a * y) := by grind
  have e2 : c * b * y = c * y * b := by grind
  have e3 : x * d * b = d * (x * b) := by grind
  exact Int.lt_of_mul_lt_mul_left (by omega : d * (a * y) < d * (x * b)) (Int.le_of_lt hd)
theorem fr_le_trans {a b c d x y : Int} (hb : 0 < b) (hd : 0 < d) (hy : 0 < y) (h1 : a * d < c * b) (h2 : c * y ≤ x * d) : a * y < x * b := by
  have k1 := Int.mul_lt_mul_of_pos_right h1 hy
  have k2 := Int.mul_le_mul_of_nonneg_right h2 (Int.le_of_lt hb)
  have e1 : a * d * y = d * (a * y) := by grind
  have e2 : c * b * y = c * y * b := by grind
  have e3 : x * d * b = d * (x * b) := by grind
  exact Int.lt_of_mul_lt_mul_left (by omega : d * (a * y) < d * (x * b)) (Int.le_of_lt hd)

/-! ### Ranges -/
structure Rg where
  ln : Int
  ld : Int
  hn : Int
  hd : Int
  e : Bool
/-- What is greater than 0 of a + b t. -/
def nrw (r : Rg) (a b : Int) : Rg :=
  if b = 0 then { r with e := r.e || decide (a ≤ 0) }
  else if 0 < b then (if r.ln * qD (-a) b < qN (-a) b * r.ld then { r with ln := qN (-a) b, ld := qD (-a) b } else r)
  else (if qN a (-b) * r.hd < r.hn * qD a (-b) then { r with hn := qN a (-b), hd := qD a (-b) } else r)

/-- The denominators are positive, and all numbers fit. -/
structure Rok (m : Int) (r : Rg) : Prop where
  l : -m ≤ r.ln ∧ r.ln ≤ m
  ld : 0 < r.ld ∧ r.ld ≤ m
  h : -m ≤ r.hn ∧ r.hn ≤ m
  hd : 0 < r.hd ∧ r.hd ≤ m
theorem nrw_ok {m a b : Int} {r : Rg} (k : Rok m r) (ha : -m ≤ a ∧ a ≤ m) (hb : -m ≤ b ∧ b ≤ m) : Rok m (nrw r a b) := by
  unfold nrw
  split
  · exact ⟨k.l, k.ld, k.h, k.hd⟩
  · split
    · rename_i h0 h1
      obtain ⟨p1, p2, p3⟩ := q_bd (a := -a) h1 ⟨by omega, by omega⟩ hb.2
      split
      · exact ⟨p1, ⟨p2, p3⟩, k.h, k.hd⟩
      · exact k
    · rename_i h0 h1
      obtain ⟨p1, p2, p3⟩ := q_bd (a := a) (b := -b) (m := m) (by omega) ha (by omega)
      split
      · exact ⟨k.l, k.ld, p1, ⟨p2, p3⟩⟩
      · exact k

/-- All conditions of a way, one behind the other. -/
def clp (r : Rg) (C : List (Int × Int)) : Rg := C.foldl (fun r c => nrw r c.1 c.2) r
def r0 : Rg := ⟨0, 1, 1, 1, false⟩
theorem clp_ok {m : Int} : ∀ {C : List (Int × Int)} {r : Rg}, Rok m r → (∀ c ∈ C, (-m ≤ c.1 ∧ c.1 ≤ m) ∧ -m ≤ c.2 ∧ c.2 ≤ m) → Rok m (clp r C)
  | [], r, k, _ => k
  | c :: C, r, k, h => clp_ok (C := C) (nrw_ok k (h c (by simp)).1 (h c (by simp)).2) (fun x hx => h x (by simp [hx]))



/-- Is anything of the way inside? -/
def hitB (r : Rg) : Bool := !r.e && decide (r.ln * r.hd < r.hn * r.ld)









end Go.Proofs.Ytiffgcipdamngaa
