/-
  The laws' block.
-/
import Derived.Test.YtjjimbaogpmbmaaShpL
namespace Go.Proofs.Ytjjimbaogpmbmaa
open Go.RowKit Go.Sort
open Go.RowKit (Below)
set_option linter.unusedVariables false
set_option linter.unusedSimpArgs false

set_option maxRecDepth 100000 in
set_option maxHeartbeats 2000000 in
theorem block_any (x y z s : Int) (bx : -100000 ≤ x ∧ x ≤ 100000) (b_y : -100000 ≤ y ∧ y ≤ 100000) (bz : -100000 ≤ z ∧ z ≤ 100000) (bs : -100000 ≤ s ∧ s ≤ 100000) (w : World) :
    Calls Try.prog 56 #[.int .i64 x, .int .i64 y, .int .i64 z, .int .i64 s] w fun e_ w' => ∃ g, w.heap.size ≤ g ∧ e_ = .returned (.agg #[.slice (some ⟨g, 0, none⟩) 4 4, .int .i64 z, .int .i64 (z + s)]) ∧ SlS w' (some ⟨g, 0, none⟩) [(x, y), (x + s, y), (x + s, y + s), (x, y + s)] ∧ Below w.heap.size w w' := by
  go_enter Try.func56, Try.ntmps56
  go_wp2_with fail
  refine bodyPost_ret (v := .agg #[.slice (some ⟨w.heap.size + 1, 0, none⟩) 4 4, .int .i64 z, .int .i64 (z + s)]) (by simp [results, Try.results56, go_sem]) rfl ⟨w.heap.size + 1, Nat.le_succ _, rfl, ?_, ?_⟩
  · intro k hk
    have h4 : k = 0 ∨ k = 1 ∨ k = 2 ∨ k = 3 := by simp at hk; omega
    rcases h4 with rfl | rfl | rfl | rfl
    all_goals exact ⟨_, _, rfl, by simp [go_sem, gdS], by simp [go_sem, gdS]⟩
  · repeat (first | (refine Below.setCell ?_ (by first | exact Nat.le_refl _ | (simp; done) | (simp; omega) | omega) _) | (with_reducible refine on_below ?_ (below_new _ _)))
    exact Below.refl _ _
end Go.Proofs.Ytjjimbaogpmbmaa
