/-
  Clocks: the true times of a reading, the side on which they are.
-/
import Derived.Test.YtnjhepkfjohdnaaClkC
namespace Go.Proofs.Ytnjhepkfjohdnaa
open Go.RowKit Go.Sort
open Go.RowKit (Below)
set_option linter.unusedVariables false

/-- The first true time, and the one behind the last. -/
def frm (s e d r : Int) : Int := max (r - off s e d r) 0
def unt (s e d r : Int) : Int := min (r + off s e d r) 600000 + 1
theorem times_any (s e d r : Int) (h : rds s e d r = true) (w : World) :
    Calls Try.prog 27 #[.agg #[.int .i64 s, .int .i64 e, .int .i64 d, .int .i64 r]] w fun e' w' => e' = .returned (.agg #[.int .i64 (frm s e d r), .int .i64 (unt s e d r)]) ∧ Below w.heap.size w w' := by
  obtain ⟨hv, hr, ht⟩ := rds_iff.1 h
  have ht' := tm_iff.1 ht
  obtain ⟨h1, h2⟩ := off_le h
  exact times_of s e d r (off s e d r) (away_any s e d r h) ht'.1 ht'.2 h1 h2 w

/-- On which side of [F, U) the minutes from a up to b are. -/
def sd (a b F U : Int) : Int := if b ≤ F then -1 else if U ≤ a then 1 else 0
set_option maxHeartbeats 1000000 in
theorem side_of (s e d r a b F U : Int) (hT : ∀ W, Calls Try.prog 27 #[.agg #[.int .i64 s, .int .i64 e, .int .i64 d, .int .i64 r]] W fun e' w' => e' = .returned (.agg #[.int .i64 a, .int .i64 b]) ∧ Below W.heap.size W w') (w : World) :
    Calls Try.prog 32 #[.agg #[.int .i64 s, .int .i64 e, .int .i64 d, .int .i64 r], .agg #[.int .i64 F, .int .i64 U]] w fun e' w' => e' = .returned (.int .i64 (sd a b F U)) ∧ Below w.heap.size w w' := by
  have HT := Lib.hid hT
  clear hT
  rcases Int.lt_or_le F b with hx | hx <;> rcases Int.lt_or_le a U with hy | hy
  all_goals go_enter Try.func32, Try.ntmps32
  all_goals go_wp2_with fail
  all_goals refine (HT.out _).mono ?_
  all_goals rintro e' w1 ⟨rfl, hb⟩
  all_goals obtain ⟨h1, h2⟩ := bcell hb
  all_goals have c0 : w1.cell? ⟨w.heap.size + 1, 0, none⟩ = some (.int .i64 F) := by rw [h1 _ _ (by simp)]; simp [go_sem]
  all_goals have c1 : w1.cell? ⟨w.heap.size + 1, 1, none⟩ = some (.int .i64 U) := by rw [h1 _ _ (by simp)]; simp [go_sem]
  all_goals have z : w.heap.size + 1 < w1.heap.size := block_lt c0
  all_goals have B : Below w.heap.size w w1 := (((Below.refl _ _).alloc (Nat.le_refl _) _).alloc (by simp) _).trans (hb.mono (by simp; omega))
  all_goals clear h1 h2
  all_goals go_wp2
  all_goals (try omega)
  all_goals go_ret
  all_goals exact ⟨ret_int (by unfold sd; omega), B.alloc (by omega) _⟩
end Go.Proofs.Ytnjhepkfjohdnaa
