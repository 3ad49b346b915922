/-
  Plain facts on rounding: nearness, sign, order; the reference's test of a number.
-/
import Derived.Test.YtanncjkkaeeiaaaGreatDoorMonW
namespace Go.Proofs.YtanncjkkaeeiaaaGreatDoor
open Go.RowKit Go.Sort
open Go.RowKit (Below)
set_option linter.unusedVariables false

theorem refvalid_b (n d : Int) (b : Bool) (h : vld n d = b) (w : World) (hn : I64 n) (hd : I64 d) :
    Calls Tryz.prog 24 #[.agg #[.int .i64 n, .int .i64 d]] w fun e w' => e = .returned (.bool b) ∧ Below w.heap.size w w' := by
  subst h; exact refvalid_any n d w hn hd

/-- A quotient of an integer that is not negative, rounded. -/
theorem near_pos {x D : Int} (hx : 0 ≤ x) (hD : 1 ≤ D) : 0 ≤ (2 * x + D) / (2 * D) ∧ 2 * ((2 * x + D) / (2 * D) * D) ≤ 2 * x + D ∧ 2 * x ≤ 2 * ((2 * x + D) / (2 * D) * D) + D := by
  have h1 := Int.mul_ediv_add_emod (2 * x + D) (2 * D)
  have h2 := Int.emod_nonneg (2 * x + D) (b := 2 * D) (by omega)
  have h3 := Int.emod_lt_of_pos (2 * x + D) (b := 2 * D) (by omega)
  have h4 : 2 * D * ((2 * x + D) / (2 * D)) = 2 * ((2 * x + D) / (2 * D) * D) := by rw [Int.mul_assoc, Int.mul_comm D]
  refine ⟨Int.ediv_nonneg (by omega) (by omega), ?_, ?_⟩ <;> omega
/-- A product, rounded. -/
def rnd (p D : Int) : Int := sgd p ((2 * (p.natAbs : Int) + D) / (2 * D))
theorem tms_rnd (c N D : Int) : tms c N D = rnd (c * N) D := rfl
theorem rnd_near (p : Int) {D : Int} (hD : 1 ≤ D) : 2 * (rnd p D * D) ≤ 2 * p + D ∧ 2 * p ≤ 2 * (rnd p D * D) + D := by
  have h := near_pos (x := (p.natAbs : Int)) (by omega) hD
  unfold rnd sgd
  split
  · rename_i hp
    rw [Int.neg_mul]
    omega
  · omega
theorem rnd_neg (p : Int) {D : Int} (hD : 1 ≤ D) : rnd (-p) D = - rnd p D := by
  unfold rnd sgd
  rw [Int.natAbs_neg]
  by_cases h1 : p < 0
  · rw [if_neg (by omega), if_pos h1]; omega
  · by_cases h2 : p = 0
    · subst h2
      have : D / (2 * D) = 0 := Int.ediv_eq_zero_of_lt (by omega) (by omega)
      simp [this]
    · rw [if_pos (by omega), if_neg h1]
theorem rnd_mono {p p' D : Int} (hD : 1 ≤ D) (h : p ≤ p') : rnd p D ≤ rnd p' D := by
  have hq : ∀ x y : Int, 0 ≤ x → x ≤ y → (2 * x + D) / (2 * D) ≤ (2 * y + D) / (2 * D) := fun x y _ h => Int.ediv_le_ediv (by omega) (by omega)
  have n1 := (near_pos (x := (p.natAbs : Int)) (by omega) hD).1
  have n2 := (near_pos (x := (p'.natAbs : Int)) (by omega) hD).1
  unfold rnd sgd
  split <;> split
  · have := hq (p'.natAbs : Int) (p.natAbs : Int) (by omega) (by omega); omega
  · omega
  · omega
  · exact hq _ _ (by omega) (by omega)
theorem tms_near (c N : Int) {D : Int} (hD : 1 ≤ D) : 2 * (tms c N D * D) ≤ 2 * (c * N) + D ∧ 2 * (c * N) ≤ 2 * (tms c N D * D) + D := rnd_near _ hD
theorem tms_neg (c N : Int) {D : Int} (hD : 1 ≤ D) : tms (-c) N D = - tms c N D := by
  rw [tms_rnd, tms_rnd, Int.neg_mul]; exact rnd_neg _ hD
theorem tms_mono {c c' N D : Int} (hD : 1 ≤ D) (hN : 0 ≤ N) (h : c ≤ c') : tms c N D ≤ tms c' N D := by
  rw [tms_rnd, tms_rnd]; exact rnd_mono hD (Int.mul_le_mul_of_nonneg_right h hN)
theorem tms_one (c : Int) : tms c 1 1 = c := by
  unfold tms sgd
  rw [Int.mul_one]
  split <;> omega
end Go.Proofs.YtanncjkkaeeiaaaGreatDoor
