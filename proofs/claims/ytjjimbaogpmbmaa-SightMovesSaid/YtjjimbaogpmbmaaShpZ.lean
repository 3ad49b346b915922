/-
  The laws: Move in one piece, steps of one.
-/
import Derived.Test.YtjjimbaogpmbmaaShpY
import Derived.Test.YtjjimbaogpmbmaaShpLL
import Derived.Test.YtjjimbaogpmbmaaShpG
import Derived.Test.YtjjimbaogpmbmaaShpD
namespace Go.Proofs.Ytjjimbaogpmbmaa
open Go.RowKit Go.Sort
open Go.RowKit (Below)
set_option linter.unusedVariables false
set_option linter.unusedSimpArgs false

theorem move_ok (A : Option Addr) (C : Nat) (ys ms : List (Int × Int)) (lo hi x y z l h : Int) (hly : ys.length ≤ 9223372036854775806) (hb : Bok ys lo hi) (hv : V3 x y z) (hm : Bok ms l h) (em : mv ys x y = ms) (el : lo + z = l) (eh : hi + z = h) (w : World) (hl : SlS w A ys) :
    Calls Try.prog 22 #[.agg #[.slice A ys.length C, .int .i64 lo, .int .i64 hi], .agg #[.int .i64 x, .int .i64 y, .int .i64 z]] w fun e_ w' => ∃ g C', e_ = .returned (.tuple #[.agg #[.slice (some ⟨g, 0, none⟩) ms.length C', .int .i64 l, .int .i64 h], .int .i64 0]) ∧ SlS w' (some ⟨g, 0, none⟩) ms ∧ Below w.heap.size w w' := by
  subst em el eh
  refine (pmove_is A C ys lo hi x y z hly 0 (Or.inr ⟨hb, hv, Or.inl ⟨hm, rfl⟩⟩) w hl).mono ?_
  rintro e_ w' ⟨h1, _, hw⟩
  obtain ⟨g, C', rfl, _, _, hs⟩ := h1 rfl
  exact ⟨g, C', by rw [mv_len], hs, hw⟩
theorem move_no (A : Option Addr) (C : Nat) (ys : List (Int × Int)) (lo hi x y z E : Int) (hly : ys.length ≤ 9223372036854775806) (hE : MvE ys lo hi x y z E) (hn : E ≠ 0) (w : World) (hl : SlS w A ys) :
    Calls Try.prog 22 #[.agg #[.slice A ys.length C, .int .i64 lo, .int .i64 hi], .agg #[.int .i64 x, .int .i64 y, .int .i64 z]] w fun e_ w' => e_ = .returned (.tuple #[.agg #[.slice none 0 0, .int .i64 0, .int .i64 0], .int .i64 E]) ∧ Below w.heap.size w w' :=
  (pmove_is A C ys lo hi x y z hly E hE w hl).mono fun e_ w' ⟨_, h2, hw⟩ => ⟨h2 hn, hw⟩
end Go.Proofs.Ytjjimbaogpmbmaa
