/-
  Package shape: isBeside and isConvex.
-/
import Derived.Test.YtiffgcipdamngaaZShpPC
namespace Go.Proofs.Ytiffgcipdamngaa
open Go.RowKit Go.Sort Go.Shelf
open Go.RowKit (Below)
set_option linter.unusedVariables false
set_option linter.unusedSimpArgs false

attribute [local go_sem] Oper.semAt_some
theorem keeps_of {B : Nat} {W W' : World} (h : Below W.heap.size W W') : KeepsFrom B W W' := ⟨h.size, fun k o _ hk _ => by rw [h.block k (Array.getElem?_eq_some_iff.1 hk).1]; exact hk⟩
theorem keeps_set {B : Nat} {W : World} (a : Addr) (u : Value) : KeepsFrom B W (W.setCell a u) := (KeepsOthers.setCell _ _ _).from _
theorem box_row {W W' : World} {row : Option Nat} {g : Nat} {t : TypeId} {u : Value} (h : Boxed W g t u) (hg : W.grownBy W' row) (hr : ∀ r, row = some r → ∃ o : Obj, W.heap[r]? = some o ∧ o.isCells = false) : Boxed W' g t u :=
  h.kept hg (fun e => by obtain ⟨o, ho, hc⟩ := hr g e.symm; rw [show W.heap[g]? = _ from h] at ho; cases ho; cases hc)
theorem row_one {W : World} {l : Nat} {o : Obj} (h : W.heap[l]? = some o) (hc : o.isCells = false) : ∀ r, some l = some r → ∃ o : Obj, W.heap[r]? = some o ∧ o.isCells = false := fun r e => by cases e; exact ⟨o, h, hc⟩
theorem edges_enter (args : Array Value) (W : World) : (callFunc 82 args).run Try.prog W = .ok (.enter 82 args) W := by simp [go_sem]
/-- A step of the loop's own: a block that is no cells is turned. -/
structure Tn (b : Nat) (W W' : World) : Prop where
  bel : Below b W W'
  cell : ∀ (g i : Nat) (u : Value), W.cell? ⟨g, i, none⟩ = some u → W'.cell? ⟨g, i, none⟩ = some u
  froz : ∀ (g i : Nat) (u : Value), W.cell? ⟨g, i, none⟩ = some u → W'.frozen? ⟨g, i, none⟩ = W.frozen? ⟨g, i, none⟩
  box : ∀ (g : Nat) (t : TypeId) (u : Value), Boxed W g t u → Boxed W' g t u
theorem tn_of {b l : Nat} {W W' : World} {o : Obj} (hb : b ≤ l) (h : W.heap[l]? = some o) (hc : o.isCells = false) (hg : W.grownBy W' (some l)) : Tn b W W' :=
  ⟨(Below.refl b W).grown hg (by have := (Array.getElem?_eq_some_iff.1 h).1; omega) (fun k e => by cases e; exact hb), fun _ _ _ hk => cell_kept hk hg (row_one h hc), fun _ _ _ hk => frozen_kept hk hg (row_one h hc), fun _ _ _ hk => box_row hk hg (row_one h hc)⟩
/-- Two boxes for the loop's variables. -/
theorem two_new (W : World) (x y u z : Int) : Below W.heap.size W ((W.alloc (.cells #[.int .i64 x, .int .i64 y] 43)).alloc (.cells #[.int .i64 u, .int .i64 z] 43)) := ((Below.refl _ _).alloc (Nat.le_refl _) _).alloc (by simp) _
/-- Between two rounds: the caller's boxes, and what has come so far. -/
structure Bx (g : Nat) (A : Option Addr) (n C : Nat) (r : Bool) (w0 : World) (p : Prop) (W : World) : Prop where
  b : Boxed W g 44 (.slice A n C)
  r : Boxed W (g + 1) 4 (.bool r)
  bel : Below w0.heap.size w0 W
  hp : p
theorem Bx.own {B g : Nat} {A : Option Addr} {n C : Nat} {r : Bool} {w0 : World} {p : Nat → Prop} (hB : w0.heap.size ≤ B) : OwnFrom B (fun k W => Bx g A n C r w0 (p k) W) :=
  fun k W W' row h hg hr => ⟨box_row h.b hg (fun r e => (hr r e).2), box_row h.r hg (fun r e => (hr r e).2), h.bel.grown hg h.bel.size (fun j e => by have := (hr j e).1; omega), h.hp⟩
theorem Bx.on {g : Nat} {A : Option Addr} {n C : Nat} {r : Bool} {w0 : World} {p q : Prop} {W W' : World} (h : Bx g A n C r w0 p W) (hb : Below W.heap.size W W') (hq : q) : Bx g A n C r w0 q W' := ⟨h.b.kept (grown_of hb) (by simp), h.r.kept (grown_of hb) (by simp), on_below h.bel hb, hq⟩
theorem Bx.put {g : Nat} {A : Option Addr} {n C : Nat} {r s : Bool} {w0 : World} {p : Prop} {W : World} (h : Bx g A n C r w0 p W) (hg : w0.heap.size ≤ g) : Bx g A n C s w0 p (W.setCell ⟨g + 1, 0, none⟩ (.bool s)) :=
  ⟨h.b.other (by omega) _, h.r.set _, h.bel.setCell (by show w0.heap.size ≤ g + 1; omega) _, h.hp⟩

end Go.Proofs.Ytiffgcipdamngaa
