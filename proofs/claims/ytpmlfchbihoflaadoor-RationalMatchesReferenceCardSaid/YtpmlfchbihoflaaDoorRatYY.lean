/-
  For the laws on pairs: local variables that are assigned again.
-/
import Derived.Test.YtpmlfchbihoflaaDoorRatZ
namespace Go.Proofs.YtpmlfchbihoflaaDoor
open Go.RowKit Go.Sort
open Go.RowKit (Below)

/-- Block g holds the pair N, D, and may be written. -/
def Lc (w : World) (g : Nat) (N D : Int) : Prop := Pr w g N D ∧ w.frozen? ⟨g, 0, none⟩ = false ∧ w.frozen? ⟨g, 1, none⟩ = false
theorem Lc.on {w w' : World} {g : Nat} {N D : Int} (p : Lc w g N D) (hb : Below w.heap.size w w') : Lc w' g N D :=
  ⟨p.1.on hb, by rw [hb.frozen (block_lt p.1.1)]; exact p.2.1, by rw [hb.frozen (block_lt p.1.2)]; exact p.2.2⟩
theorem Lc.next {w w' : World} {o : Obj} {g : Nat} {N D : Int} (p : Lc w g N D) (hb : Below (w.alloc o).heap.size (w.alloc o) w') : Lc w' g N D :=
  (p.on ((Below.refl _ _).alloc (Nat.le_refl _) o)).on hb
theorem Lc.here (w : World) (N D : Int) (t : TypeId) : Lc (w.alloc (.cells #[.int .i64 N, .int .i64 D] t)) w.heap.size N D := ⟨Pr.here w N D t, by simp [go_sem], by simp [go_sem]⟩
theorem Lc.new {w w' : World} {N D : Int} {t : TypeId} (hb : Below (w.alloc (.cells #[.int .i64 N, .int .i64 D] t)).heap.size (w.alloc (.cells #[.int .i64 N, .int .i64 D] t)) w') : Lc w' w.heap.size N D := (Lc.here w N D t).on hb
theorem Lc.lt {w : World} {g : Nat} {N D : Int} (p : Lc w g N D) : g < w.heap.size := p.1.lt

section
variable {w w' : World} {g h : Nat} {N D x y : Int}
theorem Pr.set (p : Pr w g N D) (ne : g ≠ h) : Pr ((w.setCell ⟨h, 0, none⟩ (.int .i64 x)).setCell ⟨h, 1, none⟩ (.int .i64 y)) g N D :=
  ⟨by rw [World.cell?_setCell_far _ _ _ _ (by simp; omega), World.cell?_setCell_far _ _ _ _ (by simp; omega)]; exact p.1,
   by rw [World.cell?_setCell_far _ _ _ _ (by simp; omega), World.cell?_setCell_far _ _ _ _ (by simp; omega)]; exact p.2⟩
theorem Lc.set (p : Lc w g N D) (ne : g ≠ h) : Lc ((w.setCell ⟨h, 0, none⟩ (.int .i64 x)).setCell ⟨h, 1, none⟩ (.int .i64 y)) g N D :=
  ⟨p.1.set ne, by rw [World.frozen?_setCell, World.frozen?_setCell]; exact p.2.1, by rw [World.frozen?_setCell, World.frozen?_setCell]; exact p.2.2⟩
theorem Lc.put (p : Lc w g N D) : Lc ((w.setCell ⟨g, 0, none⟩ (.int .i64 x)).setCell ⟨g, 1, none⟩ (.int .i64 y)) g x y := by
  obtain ⟨⟨c0, c1⟩, f0, f1⟩ := p
  refine ⟨⟨?_, ?_⟩, by rw [World.frozen?_setCell, World.frozen?_setCell]; exact f0, by rw [World.frozen?_setCell, World.frozen?_setCell]; exact f1⟩
  · simp [go_sem, c0]
  · simp [go_sem, c1]
theorem on_set {w0 : World} (b : Below w0.heap.size w0 w) (hh : w0.heap.size ≤ h) (hb : Below ((w.setCell ⟨h, 0, none⟩ (.int .i64 x)).setCell ⟨h, 1, none⟩ (.int .i64 y)).heap.size ((w.setCell ⟨h, 0, none⟩ (.int .i64 x)).setCell ⟨h, 1, none⟩ (.int .i64 y)) w') :
    Below w0.heap.size w0 w' ∧ w.heap.size ≤ w'.heap.size :=
  ⟨((b.setCell hh _).setCell hh _).trans (hb.mono (by have := b.size; simp; omega)), by have := hb.size; simpa using this⟩
end

/-- '!=' of two pairs. -/
theorem rat_ne_no {a b c d : Int} (h : a = c ∧ b = d) (w : World) : (binOp .neq 23 (.agg #[.int .i64 a, .int .i64 b]) (.agg #[.int .i64 c, .int .i64 d])).run Tryd.prog w = .ok (.bool false) w := by
  obtain ⟨rfl, rfl⟩ := h
  simp [go_sem]
end Go.Proofs.YtpmlfchbihoflaaDoor
