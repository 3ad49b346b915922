/-
  For the laws on pairs: what a block with a pair holds, from call to call.
-/
import Derived.Test.YtpmlfchbihoflaaDoorRatX
namespace Go.Proofs.YtpmlfchbihoflaaDoor
open Go.RowKit Go.Sort
open Go.RowKit (Below)

/-- Block g holds the pair N, D. -/
def Pr (w : World) (g : Nat) (N D : Int) : Prop := w.cell? ⟨g, 0, none⟩ = some (.int .i64 N) ∧ w.cell? ⟨g, 1, none⟩ = some (.int .i64 D)
theorem Pr.on {w w' : World} {g : Nat} {N D : Int} (p : Pr w g N D) (hb : Below w.heap.size w w') : Pr w' g N D :=
  ⟨by rw [hb.cell (block_lt p.1)]; exact p.1, by rw [hb.cell (block_lt p.2)]; exact p.2⟩
theorem Pr.lt {w : World} {g : Nat} {N D : Int} (p : Pr w g N D) : g < w.heap.size := block_lt p.1
theorem Pr.alloc {w : World} {g : Nat} {N D : Int} (p : Pr w g N D) (o : Obj) : Pr (w.alloc o) g N D :=
  p.on ((Below.refl _ _).alloc (Nat.le_refl _) _)
theorem Pr.next {w w' : World} {o : Obj} {g : Nat} {N D : Int} (p : Pr w g N D) (hb : Below (w.alloc o).heap.size (w.alloc o) w') : Pr w' g N D := (p.alloc o).on hb
theorem Pr.here (w : World) (N D : Int) (t : TypeId) : Pr (w.alloc (.cells #[.int .i64 N, .int .i64 D] t)) w.heap.size N D := ⟨by simp [go_sem], by simp [go_sem]⟩
theorem Pr.new {w w' : World} {N D : Int} {t : TypeId} (hb : Below (w.alloc (.cells #[.int .i64 N, .int .i64 D] t)).heap.size (w.alloc (.cells #[.int .i64 N, .int .i64 D] t)) w') : Pr w' w.heap.size N D := (Pr.here w N D t).on hb

/-- The worlds in which two, three pairs have been boxed. -/
theorem box2 (w : World) (a b c d : Int) (t : TypeId) :
    Below w.heap.size w ((w.alloc (.cells #[.int .i64 a, .int .i64 b] t)).alloc (.cells #[.int .i64 c, .int .i64 d] t)) ∧
    Pr ((w.alloc (.cells #[.int .i64 a, .int .i64 b] t)).alloc (.cells #[.int .i64 c, .int .i64 d] t)) w.heap.size a b ∧ Pr ((w.alloc (.cells #[.int .i64 a, .int .i64 b] t)).alloc (.cells #[.int .i64 c, .int .i64 d] t)) (w.heap.size + 1) c d := by
  refine ⟨((Below.refl _ _).alloc (Nat.le_refl _) _).alloc (by simp) _, (Pr.here _ _ _ _).alloc _, ?_⟩
  have h := Pr.here (w.alloc (.cells #[.int .i64 a, .int .i64 b] t)) c d t
  simpa using h
theorem box3 (w : World) (a b c d e f : Int) (t : TypeId) :
    Below w.heap.size w (((w.alloc (.cells #[.int .i64 a, .int .i64 b] t)).alloc (.cells #[.int .i64 c, .int .i64 d] t)).alloc (.cells #[.int .i64 e, .int .i64 f] t)) ∧
    Pr (((w.alloc (.cells #[.int .i64 a, .int .i64 b] t)).alloc (.cells #[.int .i64 c, .int .i64 d] t)).alloc (.cells #[.int .i64 e, .int .i64 f] t)) w.heap.size a b ∧
    Pr (((w.alloc (.cells #[.int .i64 a, .int .i64 b] t)).alloc (.cells #[.int .i64 c, .int .i64 d] t)).alloc (.cells #[.int .i64 e, .int .i64 f] t)) (w.heap.size + 1) c d ∧
    Pr (((w.alloc (.cells #[.int .i64 a, .int .i64 b] t)).alloc (.cells #[.int .i64 c, .int .i64 d] t)).alloc (.cells #[.int .i64 e, .int .i64 f] t)) (w.heap.size + 1 + 1) e f := by
  obtain ⟨b2, p1, p2⟩ := box2 w a b c d t
  refine ⟨b2.alloc b2.size _, p1.alloc _, p2.alloc _, ?_⟩
  have h := Pr.here ((w.alloc (.cells #[.int .i64 a, .int .i64 b] t)).alloc (.cells #[.int .i64 c, .int .i64 d] t)) e f t
  simpa using h
end Go.Proofs.YtpmlfchbihoflaaDoor
