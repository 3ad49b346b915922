/-
  Package clock, the small functions of both sides: isTime, Valid, Reads.
-/
import Derived.Test.YtnjhepkfjohdnaaGenA
namespace Go.Proofs.Ytnjhepkfjohdnaa
open Go.RowKit Go.Sort
open Go.RowKit (Below)
set_option linter.unusedVariables false

/-- A time. -/
def tm (n : Int) : Bool := decide (0 ≤ n) && decide (n ≤ 600000)
/-- The numbers of a valid clock. -/
def vc (s e d : Int) : Bool := tm s && decide (0 ≤ e) && decide (e ≤ 1000) && decide (0 ≤ d) && decide (d ≤ 100)
/-- A reading of a valid clock. -/
def rds (s e d r : Int) : Bool := vc s e d && decide (s ≤ r) && tm r
theorem tm_iff {n : Int} : tm n = true ↔ 0 ≤ n ∧ n ≤ 600000 := by simp [tm]
theorem vc_iff {s e d : Int} : vc s e d = true ↔ (0 ≤ s ∧ s ≤ 600000) ∧ (0 ≤ e ∧ e ≤ 1000) ∧ 0 ≤ d ∧ d ≤ 100 := by simp [vc, tm]; omega
theorem rds_iff {s e d r : Int} : rds s e d r = true ↔ vc s e d = true ∧ s ≤ r ∧ tm r = true := by simp [rds, and_assoc]

theorem isTime_any (n : Int) (w : World) :
    Calls Try.prog 25 #[.int .i64 n] w fun e w' => e = .returned (.bool (tm n)) ∧ w = w' := by
  go_enter Try.func25, Try.ntmps25
  go_wp2
  all_goals (go_ret; exact ⟨ret_bool (by rw [Bool.eq_iff_iff]; simp [tm]; omega), rfl⟩)
theorem rtime_any (n : Int) (w : World) :
    Calls Try.prog 24 #[.int .i64 n] w fun e w' => e = .returned (.bool (tm n)) ∧ w = w' := by
  go_enter Try.func24, Try.ntmps24
  go_wp2
  all_goals (go_ret; exact ⟨ret_bool (by rw [Bool.eq_iff_iff]; simp [tm]; omega), rfl⟩)
theorem areTimes_any (F U : Int) (w : World) :
    Calls Try.prog 34 #[.agg #[.int .i64 F, .int .i64 U]] w fun e w' => e = .returned (.bool (decide (0 ≤ F) && decide (F < U) && decide (U ≤ 600001))) ∧ Below w.heap.size w w' := by
  go_enter Try.func34, Try.ntmps34
  go_wp2
  all_goals (go_ret; exact ⟨ret_bool (by rw [Bool.eq_iff_iff]; simp; omega), (Below.refl _ _).alloc (Nat.le_refl _) _⟩)
theorem isTime_b (n : Int) (b : Bool) (h : tm n = b) (w : World) : Calls Try.prog 25 #[.int .i64 n] w fun e w' => e = .returned (.bool b) ∧ w = w' := by subst h; exact isTime_any n w
theorem rtime_b (n : Int) (b : Bool) (h : tm n = b) (w : World) : Calls Try.prog 24 #[.int .i64 n] w fun e w' => e = .returned (.bool b) ∧ w = w' := by subst h; exact rtime_any n w
theorem areTimes_b (F U : Int) (b : Bool) (h : (decide (0 ≤ F) && decide (F < U) && decide (U ≤ 600001)) = b) (w : World) :
    Calls Try.prog 34 #[.agg #[.int .i64 F, .int .i64 U]] w fun e w' => e = .returned (.bool b) ∧ Below w.heap.size w w' := by subst h; exact areTimes_any F U w
theorem valid_any (s e d : Int) (w : World) :
    Calls Try.prog 11 #[.agg #[.int .i64 s, .int .i64 e, .int .i64 d]] w fun e' w' => e' = .returned (.bool (vc s e d)) ∧ Below w.heap.size w w' := by
  unfold vc
  cases ht : tm s
  all_goals have HT := Lib.hid ht
  all_goals clear ht
  all_goals go_enter Try.func11, Try.ntmps11
  all_goals go_wp2_with fail
  all_goals refine (isTime_b s _ HT.out _).mono ?_
  all_goals rintro e' w' ⟨rfl, rfl⟩
  all_goals go_wp2
  all_goals (go_ret; exact ⟨ret_bool (by rw [Bool.eq_iff_iff]; simp; try omega), (Below.refl _ _).alloc (Nat.le_refl _) _⟩)
theorem valid_b (s e d : Int) (b : Bool) (h : vc s e d = b) (w : World) :
    Calls Try.prog 11 #[.agg #[.int .i64 s, .int .i64 e, .int .i64 d]] w fun e' w' => e' = .returned (.bool b) ∧ Below w.heap.size w w' := by subst h; exact valid_any s e d w
theorem rvalid_any (s e d : Int) (w : World) :
    Calls Try.prog 12 #[.agg #[.int .i64 s, .int .i64 e, .int .i64 d]] w fun e' w' => e' = .returned (.bool (vc s e d)) ∧ Below w.heap.size w w' := by
  unfold vc
  cases ht : tm s
  all_goals have HT := Lib.hid ht
  all_goals clear ht
  all_goals go_enter Try.func12, Try.ntmps12
  all_goals go_wp2_with fail
  all_goals refine (rtime_b s _ HT.out _).mono ?_
  all_goals rintro e' w' ⟨rfl, rfl⟩
  all_goals go_wp2
  all_goals (go_ret; exact ⟨ret_bool (by rw [Bool.eq_iff_iff]; simp; try omega), (Below.refl _ _).alloc (Nat.le_refl _) _⟩)
theorem rvalid_b (s e d : Int) (b : Bool) (h : vc s e d = b) (w : World) :
    Calls Try.prog 12 #[.agg #[.int .i64 s, .int .i64 e, .int .i64 d]] w fun e' w' => e' = .returned (.bool b) ∧ Below w.heap.size w w' := by subst h; exact rvalid_any s e d w
end Go.Proofs.Ytnjhepkfjohdnaa
