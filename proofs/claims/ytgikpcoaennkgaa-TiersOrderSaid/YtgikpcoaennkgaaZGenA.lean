/-
  Plain tools, no function of the program: numbers that an int holds, worlds that grow, cells, rows of ints and slices of ints.
-/
import Derived.Test.YtgikpcoaennkgaaRows
import Derived.WalkKit
import Derived.WalkSpells
import Derived.WalkLawsBesides
import Derived.Deep.QuietTactic
import Derived.BigQuiet
import Derived.Deep.RegionHeld3
import Derived.Deep.RegionWith
import Derived.Sort.Grow
import Derived.Lib.Hide
import Derived.Deep.LoopGhost
import Derived.Deep.Light
import Derived.Deep.DeepCutAuto
import Derived.OwnWalk
import Derived.Laws.OwnMore
namespace Go.Proofs.Ytgikpcoaennkgaa
open Go.RowKit Go.Sort
open Go.RowKit (Below)

theorem ret_int {k : IntKind} {a b : Int} (h : a = b) : Ending.returned (.int k a) = .returned (.int k b) := by rw [h]

def I64 (x : Int) : Prop := -9223372036854775808 ≤ x ∧ x ≤ 9223372036854775807


theorem below_drewN' {B : Nat} {a w : World} (h : Below B a w) (n : Nat) : Below B a (w.drewN n) := h.trans ⟨rfl, rfl, rfl, Nat.le_refl _, fun _ _ => rfl⟩

theorem ret_bool {a b : Bool} (h : a = b) : Ending.returned (.bool a) = .returned (.bool b) := by rw [h]



theorem block_lt {w : World} {a : Addr} {v : Value} (h : w.cell? a = some v) : a.block < w.heap.size := by
  refine Nat.lt_of_not_le fun hle => ?_
  unfold World.cell? at h
  rw [Array.getElem?_eq_none hle] at h
  cases h
/-- Block g holds the pair N, D. -/
def Pr (w : World) (g : Nat) (N D : Int) : Prop := w.cell? ⟨g, 0, none⟩ = some (.int .i64 N) ∧ w.cell? ⟨g, 1, none⟩ = some (.int .i64 D)
theorem Pr.on {w w' : World} {g : Nat} {N D : Int} (p : Pr w g N D) (hb : Below w.heap.size w w') : Pr w' g N D :=
  ⟨by rw [hb.cell (block_lt p.1)]; exact p.1, by rw [hb.cell (block_lt p.2)]; exact p.2⟩
theorem Pr.lt {w : World} {g : Nat} {N D : Int} (p : Pr w g N D) : g < w.heap.size := block_lt p.1
theorem Pr.alloc {w : World} {g : Nat} {N D : Int} (p : Pr w g N D) (o : Obj) : Pr (w.alloc o) g N D :=
  p.on ((Below.refl _ _).alloc (Nat.le_refl _) _)
theorem Pr.next {w w' : World} {o : Obj} {g : Nat} {N D : Int} (p : Pr w g N D) (hb : Below (w.alloc o).heap.size (w.alloc o) w') : Pr w' g N D := (p.alloc o).on hb
theorem Pr.here (w : World) (N D : Int) (t : TypeId) : Pr (w.alloc (.cells #[.int .i64 N, .int .i64 D] t)) w.heap.size N D := ⟨by simp [go_sem], by simp [go_sem]⟩
theorem Pr.new {w w' : World} {N D : Int} {t : TypeId} (hb : Below (w.alloc (.cells #[.int .i64 N, .int .i64 D] t)).heap.size (w.alloc (.cells #[.int .i64 N, .int .i64 D] t)) w') : Pr w' w.heap.size N D := (Pr.here w N D t).on hb

/-- Block g holds the pair N, D, and may be written. -/
def Lc (w : World) (g : Nat) (N D : Int) : Prop := Pr w g N D ∧ w.frozen? ⟨g, 0, none⟩ = false ∧ w.frozen? ⟨g, 1, none⟩ = false
theorem Lc.on {w w' : World} {g : Nat} {N D : Int} (p : Lc w g N D) (hb : Below w.heap.size w w') : Lc w' g N D :=
  ⟨p.1.on hb, by rw [hb.frozen (block_lt p.1.1)]; exact p.2.1, by rw [hb.frozen (block_lt p.1.2)]; exact p.2.2⟩
theorem Lc.next {w w' : World} {o : Obj} {g : Nat} {N D : Int} (p : Lc w g N D) (hb : Below (w.alloc o).heap.size (w.alloc o) w') : Lc w' g N D :=
  (p.on ((Below.refl _ _).alloc (Nat.le_refl _) o)).on hb
theorem Lc.here (w : World) (N D : Int) (t : TypeId) : Lc (w.alloc (.cells #[.int .i64 N, .int .i64 D] t)) w.heap.size N D := ⟨Pr.here w N D t, by simp [go_sem], by simp [go_sem]⟩
theorem Lc.new {w w' : World} {N D : Int} {t : TypeId} (hb : Below (w.alloc (.cells #[.int .i64 N, .int .i64 D] t)).heap.size (w.alloc (.cells #[.int .i64 N, .int .i64 D] t)) w') : Lc w' w.heap.size N D := (Lc.here w N D t).on hb
theorem Lc.lt {w : World} {g : Nat} {N D : Int} (p : Lc w g N D) : g < w.heap.size := p.1.lt

section
variable {w w' : World} {g h : Nat} {N D x y : Int}
theorem Pr.set (p : Pr w g N D) (ne : g ≠ h) : Pr ((w.setCell ⟨h, 0, none⟩ (.int .i64 x)).setCell ⟨h, 1, none⟩ (.int .i64 y)) g N D :=
  ⟨by rw [World.cell?_setCell_far _ _ _ _ (by simp; omega), World.cell?_setCell_far _ _ _ _ (by simp; omega)]; exact p.1,
   by rw [World.cell?_setCell_far _ _ _ _ (by simp; omega), World.cell?_setCell_far _ _ _ _ (by simp; omega)]; exact p.2⟩
theorem Lc.set (p : Lc w g N D) (ne : g ≠ h) : Lc ((w.setCell ⟨h, 0, none⟩ (.int .i64 x)).setCell ⟨h, 1, none⟩ (.int .i64 y)) g N D :=
  ⟨p.1.set ne, by rw [World.frozen?_setCell, World.frozen?_setCell]; exact p.2.1, by rw [World.frozen?_setCell, World.frozen?_setCell]; exact p.2.2⟩
theorem Lc.put (p : Lc w g N D) : Lc ((w.setCell ⟨g, 0, none⟩ (.int .i64 x)).setCell ⟨g, 1, none⟩ (.int .i64 y)) g x y := by
  obtain ⟨⟨c0, c1⟩, f0, f1⟩ := p
  refine ⟨⟨?_, ?_⟩, by rw [World.frozen?_setCell, World.frozen?_setCell]; exact f0, by rw [World.frozen?_setCell, World.frozen?_setCell]; exact f1⟩
  · simp [go_sem, c0]
  · simp [go_sem, c1]

end


def gd (xs : List Int) (k : Nat) : Int := xs.getD k 0
theorem gd_at {xs : List Int} {k : Nat} (h : k < xs.length) : gd xs k = xs[k] := by simp [gd, List.getD_eq_getElem?_getD, h]



section
variable {w w' : World} {b n : Nat} {f g : Nat → Int}










end








theorem on_below {w w1 w2 : World} (b : Below w.heap.size w w1) (hb : Below w1.heap.size w1 w2) : Below w.heap.size w w2 := b.trans (hb.mono b.size)


end Go.Proofs.Ytgikpcoaennkgaa
