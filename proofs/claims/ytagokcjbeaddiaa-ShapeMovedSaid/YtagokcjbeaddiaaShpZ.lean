/-
  The laws: Move in one piece, steps of one.
-/
import Derived.Test.YtagokcjbeaddiaaShpY
import Derived.Test.YtagokcjbeaddiaaShpG
import Derived.Test.YtagokcjbeaddiaaShpD
namespace Go.Proofs.Ytagokcjbeaddiaa
open Go.RowKit Go.Sort
open Go.RowKit (Below)
set_option linter.unusedVariables false
set_option linter.unusedSimpArgs false

theorem move_ok (A : Option Addr) (C : Nat) (ys ms : List (Int × Int)) (lo hi x y z l h : Int) (hly : ys.length ≤ 9223372036854775806) (hb : Bok ys lo hi) (hv : V3 x y z) (hm : Bok ms l h) (em : mv ys x y = ms) (el : lo + z = l) (eh : hi + z = h) (w : World) (hl : SlS w A ys) :
    Calls Try.prog 16 #[.agg #[.slice A ys.length C, .int .i64 lo, .int .i64 hi], .agg #[.int .i64 x, .int .i64 y, .int .i64 z]] w fun e_ w' => ∃ g C', e_ = .returned (.tuple #[.agg #[.slice (some ⟨g, 0, none⟩) ms.length C', .int .i64 l, .int .i64 h], .int .i64 0]) ∧ SlS w' (some ⟨g, 0, none⟩) ms ∧ Below w.heap.size w w' := by
  subst em el eh
  refine (pmove_is A C ys lo hi x y z hly 0 (Or.inr ⟨hb, hv, Or.inl ⟨hm, rfl⟩⟩) w hl).mono ?_
  rintro e_ w' ⟨h1, _, hw⟩
  obtain ⟨g, C', rfl, _, _, hs⟩ := h1 rfl
  exact ⟨g, C', by rw [mv_len], hs, hw⟩
theorem move_no (A : Option Addr) (C : Nat) (ys : List (Int × Int)) (lo hi x y z E : Int) (hly : ys.length ≤ 9223372036854775806) (hE : MvE ys lo hi x y z E) (hn : E ≠ 0) (w : World) (hl : SlS w A ys) :
    Calls Try.prog 16 #[.agg #[.slice A ys.length C, .int .i64 lo, .int .i64 hi], .agg #[.int .i64 x, .int .i64 y, .int .i64 z]] w fun e_ w' => e_ = .returned (.tuple #[.agg #[.slice none 0 0, .int .i64 0, .int .i64 0], .int .i64 E]) ∧ Below w.heap.size w w' :=
  (pmove_is A C ys lo hi x y z hly E hE w hl).mono fun e_ w' ⟨_, h2, hw⟩ => ⟨h2 hn, hw⟩
theorem along_p (a b c x y z : Int) (v1 : V3 a b c) (v2 : V3 x y z) (w : World) :
    Calls Try.prog 24 #[.agg #[.int .i64 a, .int .i64 b, .int .i64 c], .agg #[.int .i64 x, .int .i64 y, .int .i64 z], .int .i64 1] w fun e_ w' => e_ = .returned (.agg #[.int .i64 (a + x), .int .i64 (b + y), .int .i64 (c + z)]) ∧ Below w.heap.size w w' := by
  have h := along_is a b c x y z 1 v1 v2 (by omega) w
  rw [Int.one_mul, Int.one_mul, Int.one_mul] at h
  exact h
theorem along_m (x y z : Int) (v2 : V3 x y z) (w : World) :
    Calls Try.prog 24 #[.agg #[.int .i64 0, .int .i64 0, .int .i64 0], .agg #[.int .i64 x, .int .i64 y, .int .i64 z], .int .i64 (-1)] w fun e_ w' => e_ = .returned (.agg #[.int .i64 (-x), .int .i64 (-y), .int .i64 (-z)]) ∧ Below w.heap.size w w' := by
  have h := along_is 0 0 0 x y z (-1) (vv_iff.1 (by decide)) v2 (by omega) w
  have e : ∀ t : Int, 0 + -1 * t = -t := fun t => by omega
  rw [e, e, e] at h
  exact h
end Go.Proofs.Ytagokcjbeaddiaa
