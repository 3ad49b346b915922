/-
  VectorMatchesReference: the package and the reference return the same for whatever arguments.
-/
import Derived.Test.YtdkofonneebciaaVecI
import Derived.Deep.RegionHeld3
import Derived.Test.YtdkofonneebciaaVecJ
import Derived.Test.YtdkofonneebciaaRows
import Derived.ProofKit
import Derived.OpenShut
import Derived.Deep.DeepHandedRow
import Derived.Deep.DeepWitnessRowRef
import Derived.MakeChecks
import Derived.Deep.DeepCutAuto
namespace Go.Proofs.Ytdkofonneebciaa.vectorMatchesReference
open Go.RowKit Go.Sort
open Go.RowKit (Below)
set_option linter.unusedVariables false
set_option linter.unusedSimpArgs false

theorem far3 {W : World} {g h n : Nat} (a b c : Int) (ne : g ≠ h) : World.cell? (((W.setCell ⟨h, 0, none⟩ (.int .i64 a)).setCell ⟨h, 1, none⟩ (.int .i64 b)).setCell ⟨h, 2, none⟩ (.int .i64 c)) ⟨g, n, none⟩ = W.cell? ⟨g, n, none⟩ := by
  rw [World.cell?_setCell_far _ _ _ _ (by simp; omega), World.cell?_setCell_far _ _ _ _ (by simp; omega), World.cell?_setCell_far _ _ _ _ (by simp; omega)]
theorem frz3 {W : World} {h : Nat} (p : Addr) (a b c : Int) : World.frozen? (((W.setCell ⟨h, 0, none⟩ (.int .i64 a)).setCell ⟨h, 1, none⟩ (.int .i64 b)).setCell ⟨h, 2, none⟩ (.int .i64 c)) p = W.frozen? p := by
  rw [World.frozen?_setCell, World.frozen?_setCell, World.frozen?_setCell]
theorem siz3 {W : World} {h : Nat} (a b c : Int) : (((W.setCell ⟨h, 0, none⟩ (.int .i64 a)).setCell ⟨h, 1, none⟩ (.int .i64 b)).setCell ⟨h, 2, none⟩ (.int .i64 c)).heap.size = W.heap.size := by simp
theorem put3 {W : World} {h : Nat} {u v t : Value} (a b c : Int) (h0 : W.cell? ⟨h, 0, none⟩ = some u) (h1 : W.cell? ⟨h, 1, none⟩ = some v) (h2 : W.cell? ⟨h, 2, none⟩ = some t) :
    World.cell? (((W.setCell ⟨h, 0, none⟩ (.int .i64 a)).setCell ⟨h, 1, none⟩ (.int .i64 b)).setCell ⟨h, 2, none⟩ (.int .i64 c)) ⟨h, 0, none⟩ = some (.int .i64 a) ∧ World.cell? (((W.setCell ⟨h, 0, none⟩ (.int .i64 a)).setCell ⟨h, 1, none⟩ (.int .i64 b)).setCell ⟨h, 2, none⟩ (.int .i64 c)) ⟨h, 1, none⟩ = some (.int .i64 b) ∧ World.cell? (((W.setCell ⟨h, 0, none⟩ (.int .i64 a)).setCell ⟨h, 1, none⟩ (.int .i64 b)).setCell ⟨h, 2, none⟩ (.int .i64 c)) ⟨h, 2, none⟩ = some (.int .i64 c) :=
  ⟨by simp [go_sem, h0], by simp [go_sem, h1], by simp [go_sem, h2]⟩

set_option maxRecDepth 100000 in
set_option maxHeartbeats 4000000 in
theorem same (kx ky kz mx my mz px py qx qy sx sy rn rd : Int) (bb u : Bool) (A B C E X Y Z F n G T H J : Int) (v1 : vv kx ky kz = bb)
    (c_add : (∀ W, Calls Try.prog 12 #[.agg #[.int .i64 kx, .int .i64 ky, .int .i64 kz], .agg #[.int .i64 mx, .int .i64 my, .int .i64 mz]] W fun e_ w' => e_ = .returned (.tuple #[.agg #[.int .i64 A, .int .i64 B, .int .i64 C], .int .i64 E]) ∧ Below W.heap.size W w')) (q_add : (∀ W, Calls Try.prog 13 #[.agg #[.int .i64 kx, .int .i64 ky, .int .i64 kz], .agg #[.int .i64 mx, .int .i64 my, .int .i64 mz]] W fun e_ w' => e_ = .returned (.tuple #[.agg #[.int .i64 A, .int .i64 B, .int .i64 C], .int .i64 E]) ∧ Below W.heap.size W w'))
    (c_sub : (∀ W, Calls Try.prog 14 #[.agg #[.int .i64 kx, .int .i64 ky, .int .i64 kz], .agg #[.int .i64 mx, .int .i64 my, .int .i64 mz]] W fun e_ w' => e_ = .returned (.tuple #[.agg #[.int .i64 X, .int .i64 Y, .int .i64 Z], .int .i64 F]) ∧ Below W.heap.size W w')) (q_sub : (∀ W, Calls Try.prog 15 #[.agg #[.int .i64 kx, .int .i64 ky, .int .i64 kz], .agg #[.int .i64 mx, .int .i64 my, .int .i64 mz]] W fun e_ w' => e_ = .returned (.tuple #[.agg #[.int .i64 X, .int .i64 Y, .int .i64 Z], .int .i64 F]) ∧ Below W.heap.size W w'))
    (c_dot : (∀ W, Calls Try.prog 16 #[.agg #[.int .i64 kx, .int .i64 ky, .int .i64 kz], .agg #[.int .i64 mx, .int .i64 my, .int .i64 mz]] W fun e_ w' => e_ = .returned (.tuple #[.int .i64 n, .int .i64 G]) ∧ Below W.heap.size W w')) (q_dot : (∀ W, Calls Try.prog 17 #[.agg #[.int .i64 kx, .int .i64 ky, .int .i64 kz], .agg #[.int .i64 mx, .int .i64 my, .int .i64 mz]] W fun e_ w' => e_ = .returned (.tuple #[.int .i64 n, .int .i64 G]) ∧ Below W.heap.size W w'))
    (c_turn : (∀ W, Calls Try.prog 18 #[.agg #[.int .i64 px, .int .i64 py], .agg #[.int .i64 qx, .int .i64 qy], .agg #[.int .i64 sx, .int .i64 sy]] W fun e_ w' => e_ = .returned (.tuple #[.int .i64 T, .int .i64 H]) ∧ Below W.heap.size W w')) (q_turn : (∀ W, Calls Try.prog 19 #[.agg #[.int .i64 px, .int .i64 py], .agg #[.int .i64 qx, .int .i64 qy], .agg #[.int .i64 sx, .int .i64 sy]] W fun e_ w' => e_ = .returned (.tuple #[.int .i64 T, .int .i64 H]) ∧ Below W.heap.size W w'))
    (c_near : (∀ W, Calls Try.prog 20 #[.agg #[.int .i64 kx, .int .i64 ky, .int .i64 kz], .agg #[.int .i64 mx, .int .i64 my, .int .i64 mz], .agg #[.int .i64 rn, .int .i64 rd]] W fun e_ w' => e_ = .returned (.tuple #[.bool u, .int .i64 J]) ∧ Below W.heap.size W w')) (q_near : (∀ W, Calls Try.prog 21 #[.agg #[.int .i64 kx, .int .i64 ky, .int .i64 kz], .agg #[.int .i64 mx, .int .i64 my, .int .i64 mz], .agg #[.int .i64 rn, .int .i64 rd]] W fun e_ w' => e_ = .returned (.tuple #[.bool u, .int .i64 J]) ∧ Below W.heap.size W w')) (w : World) :
    Calls Try.prog 3 #[.agg #[.int .i64 kx, .int .i64 ky, .int .i64 kz], .agg #[.int .i64 mx, .int .i64 my, .int .i64 mz], .agg #[.int .i64 px, .int .i64 py], .agg #[.int .i64 qx, .int .i64 qy], .agg #[.int .i64 sx, .int .i64 sy], .agg #[.int .i64 rn, .int .i64 rd]] w fun e_ w' => e_ = .returned (.bool true) ∧ Below w.heap.size w w' := by
  have d1 : ∀ W, (binOp .eql 23 (.agg #[.int .i64 A, .int .i64 B, .int .i64 C]) (.agg #[.int .i64 A, .int .i64 B, .int .i64 C])).run Try.prog W = .ok (.bool true) W := fun W => vec_eq (r := true) (by simp) W
  have d2 : ∀ W, (binOp .eql 23 (.agg #[.int .i64 X, .int .i64 Y, .int .i64 Z]) (.agg #[.int .i64 X, .int .i64 Y, .int .i64 Z])).run Try.prog W = .ok (.bool true) W := fun W => vec_eq (r := true) (by simp) W
  have V1 := Lib.hid v1
  clear v1
  have Cadd := Lib.hid c_add
  clear c_add
  have Csub := Lib.hid c_sub
  clear c_sub
  have Cdot := Lib.hid c_dot
  clear c_dot
  have Cturn := Lib.hid c_turn
  clear c_turn
  have Cnear := Lib.hid c_near
  clear c_near
  have Qadd := Lib.hid q_add
  clear q_add
  have Qsub := Lib.hid q_sub
  clear q_sub
  have Qdot := Lib.hid q_dot
  clear q_dot
  have Qturn := Lib.hid q_turn
  clear q_turn
  have Qnear := Lib.hid q_near
  clear q_near
  have k0 : World.cell? ((((((w.alloc (.cells #[.int .i64 kx, .int .i64 ky, .int .i64 kz] 23)).alloc (.cells #[.int .i64 mx, .int .i64 my, .int .i64 mz] 23)).alloc (.cells #[.int .i64 px, .int .i64 py] 25)).alloc (.cells #[.int .i64 qx, .int .i64 qy] 25)).alloc (.cells #[.int .i64 sx, .int .i64 sy] 25)).alloc (.cells #[.int .i64 rn, .int .i64 rd] 27)) ⟨w.heap.size, 0, none⟩ = some (.int .i64 kx) := by simp [go_sem]
  have k1 : World.cell? ((((((w.alloc (.cells #[.int .i64 kx, .int .i64 ky, .int .i64 kz] 23)).alloc (.cells #[.int .i64 mx, .int .i64 my, .int .i64 mz] 23)).alloc (.cells #[.int .i64 px, .int .i64 py] 25)).alloc (.cells #[.int .i64 qx, .int .i64 qy] 25)).alloc (.cells #[.int .i64 sx, .int .i64 sy] 25)).alloc (.cells #[.int .i64 rn, .int .i64 rd] 27)) ⟨w.heap.size, 1, none⟩ = some (.int .i64 ky) := by simp [go_sem]
  have k2 : World.cell? ((((((w.alloc (.cells #[.int .i64 kx, .int .i64 ky, .int .i64 kz] 23)).alloc (.cells #[.int .i64 mx, .int .i64 my, .int .i64 mz] 23)).alloc (.cells #[.int .i64 px, .int .i64 py] 25)).alloc (.cells #[.int .i64 qx, .int .i64 qy] 25)).alloc (.cells #[.int .i64 sx, .int .i64 sy] 25)).alloc (.cells #[.int .i64 rn, .int .i64 rd] 27)) ⟨w.heap.size, 2, none⟩ = some (.int .i64 kz) := by simp [go_sem]
  have lk : w.heap.size < ((((((w.alloc (.cells #[.int .i64 kx, .int .i64 ky, .int .i64 kz] 23)).alloc (.cells #[.int .i64 mx, .int .i64 my, .int .i64 mz] 23)).alloc (.cells #[.int .i64 px, .int .i64 py] 25)).alloc (.cells #[.int .i64 qx, .int .i64 qy] 25)).alloc (.cells #[.int .i64 sx, .int .i64 sy] 25)).alloc (.cells #[.int .i64 rn, .int .i64 rd] 27)).heap.size := by simp <;> omega
  have m0 : World.cell? ((((((w.alloc (.cells #[.int .i64 kx, .int .i64 ky, .int .i64 kz] 23)).alloc (.cells #[.int .i64 mx, .int .i64 my, .int .i64 mz] 23)).alloc (.cells #[.int .i64 px, .int .i64 py] 25)).alloc (.cells #[.int .i64 qx, .int .i64 qy] 25)).alloc (.cells #[.int .i64 sx, .int .i64 sy] 25)).alloc (.cells #[.int .i64 rn, .int .i64 rd] 27)) ⟨w.heap.size + 1, 0, none⟩ = some (.int .i64 mx) := by simp [go_sem]
  have m1 : World.cell? ((((((w.alloc (.cells #[.int .i64 kx, .int .i64 ky, .int .i64 kz] 23)).alloc (.cells #[.int .i64 mx, .int .i64 my, .int .i64 mz] 23)).alloc (.cells #[.int .i64 px, .int .i64 py] 25)).alloc (.cells #[.int .i64 qx, .int .i64 qy] 25)).alloc (.cells #[.int .i64 sx, .int .i64 sy] 25)).alloc (.cells #[.int .i64 rn, .int .i64 rd] 27)) ⟨w.heap.size + 1, 1, none⟩ = some (.int .i64 my) := by simp [go_sem]
  have m2 : World.cell? ((((((w.alloc (.cells #[.int .i64 kx, .int .i64 ky, .int .i64 kz] 23)).alloc (.cells #[.int .i64 mx, .int .i64 my, .int .i64 mz] 23)).alloc (.cells #[.int .i64 px, .int .i64 py] 25)).alloc (.cells #[.int .i64 qx, .int .i64 qy] 25)).alloc (.cells #[.int .i64 sx, .int .i64 sy] 25)).alloc (.cells #[.int .i64 rn, .int .i64 rd] 27)) ⟨w.heap.size + 1, 2, none⟩ = some (.int .i64 mz) := by simp [go_sem]
  have lm : w.heap.size + 1 < ((((((w.alloc (.cells #[.int .i64 kx, .int .i64 ky, .int .i64 kz] 23)).alloc (.cells #[.int .i64 mx, .int .i64 my, .int .i64 mz] 23)).alloc (.cells #[.int .i64 px, .int .i64 py] 25)).alloc (.cells #[.int .i64 qx, .int .i64 qy] 25)).alloc (.cells #[.int .i64 sx, .int .i64 sy] 25)).alloc (.cells #[.int .i64 rn, .int .i64 rd] 27)).heap.size := by simp <;> omega
  have p0 : World.cell? ((((((w.alloc (.cells #[.int .i64 kx, .int .i64 ky, .int .i64 kz] 23)).alloc (.cells #[.int .i64 mx, .int .i64 my, .int .i64 mz] 23)).alloc (.cells #[.int .i64 px, .int .i64 py] 25)).alloc (.cells #[.int .i64 qx, .int .i64 qy] 25)).alloc (.cells #[.int .i64 sx, .int .i64 sy] 25)).alloc (.cells #[.int .i64 rn, .int .i64 rd] 27)) ⟨w.heap.size + 1 + 1, 0, none⟩ = some (.int .i64 px) := by simp [go_sem]
  have p1 : World.cell? ((((((w.alloc (.cells #[.int .i64 kx, .int .i64 ky, .int .i64 kz] 23)).alloc (.cells #[.int .i64 mx, .int .i64 my, .int .i64 mz] 23)).alloc (.cells #[.int .i64 px, .int .i64 py] 25)).alloc (.cells #[.int .i64 qx, .int .i64 qy] 25)).alloc (.cells #[.int .i64 sx, .int .i64 sy] 25)).alloc (.cells #[.int .i64 rn, .int .i64 rd] 27)) ⟨w.heap.size + 1 + 1, 1, none⟩ = some (.int .i64 py) := by simp [go_sem]
  have lp : w.heap.size + 1 + 1 < ((((((w.alloc (.cells #[.int .i64 kx, .int .i64 ky, .int .i64 kz] 23)).alloc (.cells #[.int .i64 mx, .int .i64 my, .int .i64 mz] 23)).alloc (.cells #[.int .i64 px, .int .i64 py] 25)).alloc (.cells #[.int .i64 qx, .int .i64 qy] 25)).alloc (.cells #[.int .i64 sx, .int .i64 sy] 25)).alloc (.cells #[.int .i64 rn, .int .i64 rd] 27)).heap.size := by simp <;> omega
  have q0 : World.cell? ((((((w.alloc (.cells #[.int .i64 kx, .int .i64 ky, .int .i64 kz] 23)).alloc (.cells #[.int .i64 mx, .int .i64 my, .int .i64 mz] 23)).alloc (.cells #[.int .i64 px, .int .i64 py] 25)).alloc (.cells #[.int .i64 qx, .int .i64 qy] 25)).alloc (.cells #[.int .i64 sx, .int .i64 sy] 25)).alloc (.cells #[.int .i64 rn, .int .i64 rd] 27)) ⟨w.heap.size + 1 + 1 + 1, 0, none⟩ = some (.int .i64 qx) := by simp [go_sem]
  have q1 : World.cell? ((((((w.alloc (.cells #[.int .i64 kx, .int .i64 ky, .int .i64 kz] 23)).alloc (.cells #[.int .i64 mx, .int .i64 my, .int .i64 mz] 23)).alloc (.cells #[.int .i64 px, .int .i64 py] 25)).alloc (.cells #[.int .i64 qx, .int .i64 qy] 25)).alloc (.cells #[.int .i64 sx, .int .i64 sy] 25)).alloc (.cells #[.int .i64 rn, .int .i64 rd] 27)) ⟨w.heap.size + 1 + 1 + 1, 1, none⟩ = some (.int .i64 qy) := by simp [go_sem]
  have lq : w.heap.size + 1 + 1 + 1 < ((((((w.alloc (.cells #[.int .i64 kx, .int .i64 ky, .int .i64 kz] 23)).alloc (.cells #[.int .i64 mx, .int .i64 my, .int .i64 mz] 23)).alloc (.cells #[.int .i64 px, .int .i64 py] 25)).alloc (.cells #[.int .i64 qx, .int .i64 qy] 25)).alloc (.cells #[.int .i64 sx, .int .i64 sy] 25)).alloc (.cells #[.int .i64 rn, .int .i64 rd] 27)).heap.size := by simp <;> omega
  have s0 : World.cell? ((((((w.alloc (.cells #[.int .i64 kx, .int .i64 ky, .int .i64 kz] 23)).alloc (.cells #[.int .i64 mx, .int .i64 my, .int .i64 mz] 23)).alloc (.cells #[.int .i64 px, .int .i64 py] 25)).alloc (.cells #[.int .i64 qx, .int .i64 qy] 25)).alloc (.cells #[.int .i64 sx, .int .i64 sy] 25)).alloc (.cells #[.int .i64 rn, .int .i64 rd] 27)) ⟨w.heap.size + 1 + 1 + 1 + 1, 0, none⟩ = some (.int .i64 sx) := by simp [go_sem]
  have s1 : World.cell? ((((((w.alloc (.cells #[.int .i64 kx, .int .i64 ky, .int .i64 kz] 23)).alloc (.cells #[.int .i64 mx, .int .i64 my, .int .i64 mz] 23)).alloc (.cells #[.int .i64 px, .int .i64 py] 25)).alloc (.cells #[.int .i64 qx, .int .i64 qy] 25)).alloc (.cells #[.int .i64 sx, .int .i64 sy] 25)).alloc (.cells #[.int .i64 rn, .int .i64 rd] 27)) ⟨w.heap.size + 1 + 1 + 1 + 1, 1, none⟩ = some (.int .i64 sy) := by simp [go_sem]
  have ls : w.heap.size + 1 + 1 + 1 + 1 < ((((((w.alloc (.cells #[.int .i64 kx, .int .i64 ky, .int .i64 kz] 23)).alloc (.cells #[.int .i64 mx, .int .i64 my, .int .i64 mz] 23)).alloc (.cells #[.int .i64 px, .int .i64 py] 25)).alloc (.cells #[.int .i64 qx, .int .i64 qy] 25)).alloc (.cells #[.int .i64 sx, .int .i64 sy] 25)).alloc (.cells #[.int .i64 rn, .int .i64 rd] 27)).heap.size := by simp <;> omega
  have r0 : World.cell? ((((((w.alloc (.cells #[.int .i64 kx, .int .i64 ky, .int .i64 kz] 23)).alloc (.cells #[.int .i64 mx, .int .i64 my, .int .i64 mz] 23)).alloc (.cells #[.int .i64 px, .int .i64 py] 25)).alloc (.cells #[.int .i64 qx, .int .i64 qy] 25)).alloc (.cells #[.int .i64 sx, .int .i64 sy] 25)).alloc (.cells #[.int .i64 rn, .int .i64 rd] 27)) ⟨w.heap.size + 1 + 1 + 1 + 1 + 1, 0, none⟩ = some (.int .i64 rn) := by simp [go_sem]
  have r1 : World.cell? ((((((w.alloc (.cells #[.int .i64 kx, .int .i64 ky, .int .i64 kz] 23)).alloc (.cells #[.int .i64 mx, .int .i64 my, .int .i64 mz] 23)).alloc (.cells #[.int .i64 px, .int .i64 py] 25)).alloc (.cells #[.int .i64 qx, .int .i64 qy] 25)).alloc (.cells #[.int .i64 sx, .int .i64 sy] 25)).alloc (.cells #[.int .i64 rn, .int .i64 rd] 27)) ⟨w.heap.size + 1 + 1 + 1 + 1 + 1, 1, none⟩ = some (.int .i64 rd) := by simp [go_sem]
  have lr : w.heap.size + 1 + 1 + 1 + 1 + 1 < ((((((w.alloc (.cells #[.int .i64 kx, .int .i64 ky, .int .i64 kz] 23)).alloc (.cells #[.int .i64 mx, .int .i64 my, .int .i64 mz] 23)).alloc (.cells #[.int .i64 px, .int .i64 py] 25)).alloc (.cells #[.int .i64 qx, .int .i64 qy] 25)).alloc (.cells #[.int .i64 sx, .int .i64 sy] 25)).alloc (.cells #[.int .i64 rn, .int .i64 rd] 27)).heap.size := by simp <;> omega
  have HB := Lib.hid (show Below w.heap.size w ((((((w.alloc (.cells #[.int .i64 kx, .int .i64 ky, .int .i64 kz] 23)).alloc (.cells #[.int .i64 mx, .int .i64 my, .int .i64 mz] 23)).alloc (.cells #[.int .i64 px, .int .i64 py] 25)).alloc (.cells #[.int .i64 qx, .int .i64 qy] 25)).alloc (.cells #[.int .i64 sx, .int .i64 sy] 25)).alloc (.cells #[.int .i64 rn, .int .i64 rd] 27)) from (((((((Below.refl _ _).alloc (by simp <;> omega) _).alloc (by simp <;> omega) _).alloc (by simp <;> omega) _).alloc (by simp <;> omega) _).alloc (by simp <;> omega) _).alloc (by simp <;> omega) _))
  go_enter Try.func3, Try.ntmps3
  go_upto_region 1 with fail
  generalize (((((w.alloc (.cells #[.int .i64 kx, .int .i64 ky, .int .i64 kz] 23)).alloc (.cells #[.int .i64 mx, .int .i64 my, .int .i64 mz] 23)).alloc (.cells #[.int .i64 px, .int .i64 py] 25)).alloc (.cells #[.int .i64 qx, .int .i64 qy] 25)).alloc (.cells #[.int .i64 sx, .int .i64 sy] 25)).alloc (.cells #[.int .i64 rn, .int .i64 rd] 27) = w1 at *
  clear lk lm lp lq ls lr
  go_region_held3 (fun W => W.cell? ⟨w.heap.size, 0, none⟩ = some (.int .i64 kx) ∧ W.cell? ⟨w.heap.size, 1, none⟩ = some (.int .i64 ky) ∧ W.cell? ⟨w.heap.size, 2, none⟩ = some (.int .i64 kz) ∧ W.cell? ⟨w.heap.size + 1, 0, none⟩ = some (.int .i64 mx) ∧ W.cell? ⟨w.heap.size + 1, 1, none⟩ = some (.int .i64 my) ∧ W.cell? ⟨w.heap.size + 1, 2, none⟩ = some (.int .i64 mz) ∧ W.cell? ⟨w.heap.size + 1 + 1, 0, none⟩ = some (.int .i64 px) ∧ W.cell? ⟨w.heap.size + 1 + 1, 1, none⟩ = some (.int .i64 py) ∧ W.cell? ⟨w.heap.size + 1 + 1 + 1, 0, none⟩ = some (.int .i64 qx) ∧ W.cell? ⟨w.heap.size + 1 + 1 + 1, 1, none⟩ = some (.int .i64 qy) ∧ W.cell? ⟨w.heap.size + 1 + 1 + 1 + 1, 0, none⟩ = some (.int .i64 sx) ∧ W.cell? ⟨w.heap.size + 1 + 1 + 1 + 1, 1, none⟩ = some (.int .i64 sy) ∧ W.cell? ⟨w.heap.size + 1 + 1 + 1 + 1 + 1, 0, none⟩ = some (.int .i64 rn) ∧ W.cell? ⟨w.heap.size + 1 + 1 + 1 + 1 + 1, 1, none⟩ = some (.int .i64 rd) ∧ Below w.heap.size w W)
      (first | assumption | exact ⟨k0, k1, k2, m0, m1, m2, p0, p1, q0, q1, s0, s1, r0, r1, HB.out.drew⟩ | (go_split_ands; exact ⟨keepc hb (by assumption), keepc hb (by assumption), keepc hb (by assumption), keepc hb (by assumption), keepc hb (by assumption), keepc hb (by assumption), keepc hb (by assumption), keepc hb (by assumption), keepc hb (by assumption), keepc hb (by assumption), keepc hb (by assumption), keepc hb (by assumption), keepc hb (by assumption), keepc hb (by assumption), on_below (by assumption) hb⟩))
      (first | (go_at_call 9; (with_reducible refine (head_any _).mono ?_); rintro e' w9 ⟨rfl, hb⟩) | (go_at_call 10; (with_reducible refine (valid_is kx ky kz bb V1.out _).mono ?_); rintro e' w9 ⟨rfl, hb⟩) | (go_at_call 11; (with_reducible refine (qvalid_is kx ky kz bb V1.out _).mono ?_); rintro e' w9 ⟨rfl, hb⟩))
  go_split_ands
  clear k0 k1 k2 m0 m1 m2 p0 p1 q0 q1 s0 s1 r0 r1 HB
  have k0 : w9.cell? ⟨w.heap.size, 0, none⟩ = some (.int .i64 kx) := by assumption
  have k1 : w9.cell? ⟨w.heap.size, 1, none⟩ = some (.int .i64 ky) := by assumption
  have k2 : w9.cell? ⟨w.heap.size, 2, none⟩ = some (.int .i64 kz) := by assumption
  have m0 : w9.cell? ⟨w.heap.size + 1, 0, none⟩ = some (.int .i64 mx) := by assumption
  have m1 : w9.cell? ⟨w.heap.size + 1, 1, none⟩ = some (.int .i64 my) := by assumption
  have m2 : w9.cell? ⟨w.heap.size + 1, 2, none⟩ = some (.int .i64 mz) := by assumption
  have p0 : w9.cell? ⟨w.heap.size + 1 + 1, 0, none⟩ = some (.int .i64 px) := by assumption
  have p1 : w9.cell? ⟨w.heap.size + 1 + 1, 1, none⟩ = some (.int .i64 py) := by assumption
  have q0 : w9.cell? ⟨w.heap.size + 1 + 1 + 1, 0, none⟩ = some (.int .i64 qx) := by assumption
  have q1 : w9.cell? ⟨w.heap.size + 1 + 1 + 1, 1, none⟩ = some (.int .i64 qy) := by assumption
  have s0 : w9.cell? ⟨w.heap.size + 1 + 1 + 1 + 1, 0, none⟩ = some (.int .i64 sx) := by assumption
  have s1 : w9.cell? ⟨w.heap.size + 1 + 1 + 1 + 1, 1, none⟩ = some (.int .i64 sy) := by assumption
  have r0 : w9.cell? ⟨w.heap.size + 1 + 1 + 1 + 1 + 1, 0, none⟩ = some (.int .i64 rn) := by assumption
  have r1 : w9.cell? ⟨w.heap.size + 1 + 1 + 1 + 1 + 1, 1, none⟩ = some (.int .i64 rd) := by assumption
  have HB := Lib.hid (show Below w.heap.size w w9 by assumption)
  have lk := block_lt k0
  have lm := block_lt m0
  have lp := block_lt p0
  have lq := block_lt q0
  have ls := block_lt s0
  have lr := block_lt r0
  go_wp2_with fail
  with_reducible refine (Cadd.out _).mono ?_
  rintro e_ w21 ⟨rfl, hb⟩
  replace HB := Lib.hid (on_below HB.out hb)
  replace k0 := keepc hb k0
  replace k1 := keepc hb k1
  replace k2 := keepc hb k2
  replace m0 := keepc hb m0
  replace m1 := keepc hb m1
  replace m2 := keepc hb m2
  replace p0 := keepc hb p0
  replace p1 := keepc hb p1
  replace q0 := keepc hb q0
  replace q1 := keepc hb q1
  replace s0 := keepc hb s0
  replace s1 := keepc hb s1
  replace r0 := keepc hb r0
  replace r1 := keepc hb r1
  replace lk := Nat.lt_of_lt_of_le lk hb.size
  replace lm := Nat.lt_of_lt_of_le lm hb.size
  replace lp := Nat.lt_of_lt_of_le lp hb.size
  replace lq := Nat.lt_of_lt_of_le lq hb.size
  replace ls := Nat.lt_of_lt_of_le ls hb.size
  replace lr := Nat.lt_of_lt_of_le lr hb.size
  clear hb
  go_wp2_with fail
  have oxlk := lk
  have oxlm := lm
  have oxlp := lp
  have oxlq := lq
  have oxls := ls
  have oxlr := lr
  have x0 : World.cell? (w21.alloc (.cells #[.int .i64 A, .int .i64 B, .int .i64 C] 23)) ⟨w21.heap.size, 0, none⟩ = some (.int .i64 A) := by simp [go_sem]
  have fx0 : World.frozen? (w21.alloc (.cells #[.int .i64 A, .int .i64 B, .int .i64 C] 23)) ⟨w21.heap.size, 0, none⟩ = false := by simp [go_sem]
  have x1 : World.cell? (w21.alloc (.cells #[.int .i64 A, .int .i64 B, .int .i64 C] 23)) ⟨w21.heap.size, 1, none⟩ = some (.int .i64 B) := by simp [go_sem]
  have fx1 : World.frozen? (w21.alloc (.cells #[.int .i64 A, .int .i64 B, .int .i64 C] 23)) ⟨w21.heap.size, 1, none⟩ = false := by simp [go_sem]
  have x2 : World.cell? (w21.alloc (.cells #[.int .i64 A, .int .i64 B, .int .i64 C] 23)) ⟨w21.heap.size, 2, none⟩ = some (.int .i64 C) := by simp [go_sem]
  have fx2 : World.frozen? (w21.alloc (.cells #[.int .i64 A, .int .i64 B, .int .i64 C] 23)) ⟨w21.heap.size, 2, none⟩ = false := by simp [go_sem]
  have lx : w21.heap.size < (w21.alloc (.cells #[.int .i64 A, .int .i64 B, .int .i64 C] 23)).heap.size := by simp
  have hb : Below w21.heap.size w21 (w21.alloc (.cells #[.int .i64 A, .int .i64 B, .int .i64 C] 23)) := below_new _ _
  generalize w21.alloc (.cells #[.int .i64 A, .int .i64 B, .int .i64 C] 23) = w22 at *
  replace HB := Lib.hid (on_below HB.out hb)
  replace k0 := keepc hb k0
  replace k1 := keepc hb k1
  replace k2 := keepc hb k2
  replace m0 := keepc hb m0
  replace m1 := keepc hb m1
  replace m2 := keepc hb m2
  replace p0 := keepc hb p0
  replace p1 := keepc hb p1
  replace q0 := keepc hb q0
  replace q1 := keepc hb q1
  replace s0 := keepc hb s0
  replace s1 := keepc hb s1
  replace r0 := keepc hb r0
  replace r1 := keepc hb r1
  replace lk := Nat.lt_of_lt_of_le lk hb.size
  replace lm := Nat.lt_of_lt_of_le lm hb.size
  replace lp := Nat.lt_of_lt_of_le lp hb.size
  replace lq := Nat.lt_of_lt_of_le lq hb.size
  replace ls := Nat.lt_of_lt_of_le ls hb.size
  replace lr := Nat.lt_of_lt_of_le lr hb.size
  clear hb
  generalize w21.heap.size = gx at *
  with_reducible refine (Qadd.out _).mono ?_
  rintro e_ w23 ⟨rfl, hb⟩
  replace HB := Lib.hid (on_below HB.out hb)
  replace k0 := keepc hb k0
  replace k1 := keepc hb k1
  replace k2 := keepc hb k2
  replace m0 := keepc hb m0
  replace m1 := keepc hb m1
  replace m2 := keepc hb m2
  replace p0 := keepc hb p0
  replace p1 := keepc hb p1
  replace q0 := keepc hb q0
  replace q1 := keepc hb q1
  replace s0 := keepc hb s0
  replace s1 := keepc hb s1
  replace r0 := keepc hb r0
  replace r1 := keepc hb r1
  replace x0 := keepc hb x0
  replace x1 := keepc hb x1
  replace x2 := keepc hb x2
  replace fx0 := keepf hb lx fx0
  replace fx1 := keepf hb lx fx1
  replace fx2 := keepf hb lx fx2
  replace lk := Nat.lt_of_lt_of_le lk hb.size
  replace lm := Nat.lt_of_lt_of_le lm hb.size
  replace lp := Nat.lt_of_lt_of_le lp hb.size
  replace lq := Nat.lt_of_lt_of_le lq hb.size
  replace ls := Nat.lt_of_lt_of_le ls hb.size
  replace lr := Nat.lt_of_lt_of_le lr hb.size
  replace lx := Nat.lt_of_lt_of_le lx hb.size
  clear hb
  go_wp2_with fail
  have oylk := lk
  have oylm := lm
  have oylp := lp
  have oylq := lq
  have oyls := ls
  have oylr := lr
  have oylx := lx
  have y0 : World.cell? (w23.alloc (.cells #[.int .i64 A, .int .i64 B, .int .i64 C] 23)) ⟨w23.heap.size, 0, none⟩ = some (.int .i64 A) := by simp [go_sem]
  have fy0 : World.frozen? (w23.alloc (.cells #[.int .i64 A, .int .i64 B, .int .i64 C] 23)) ⟨w23.heap.size, 0, none⟩ = false := by simp [go_sem]
  have y1 : World.cell? (w23.alloc (.cells #[.int .i64 A, .int .i64 B, .int .i64 C] 23)) ⟨w23.heap.size, 1, none⟩ = some (.int .i64 B) := by simp [go_sem]
  have fy1 : World.frozen? (w23.alloc (.cells #[.int .i64 A, .int .i64 B, .int .i64 C] 23)) ⟨w23.heap.size, 1, none⟩ = false := by simp [go_sem]
  have y2 : World.cell? (w23.alloc (.cells #[.int .i64 A, .int .i64 B, .int .i64 C] 23)) ⟨w23.heap.size, 2, none⟩ = some (.int .i64 C) := by simp [go_sem]
  have fy2 : World.frozen? (w23.alloc (.cells #[.int .i64 A, .int .i64 B, .int .i64 C] 23)) ⟨w23.heap.size, 2, none⟩ = false := by simp [go_sem]
  have ly : w23.heap.size < (w23.alloc (.cells #[.int .i64 A, .int .i64 B, .int .i64 C] 23)).heap.size := by simp
  have hb : Below w23.heap.size w23 (w23.alloc (.cells #[.int .i64 A, .int .i64 B, .int .i64 C] 23)) := below_new _ _
  generalize w23.alloc (.cells #[.int .i64 A, .int .i64 B, .int .i64 C] 23) = w24 at *
  replace HB := Lib.hid (on_below HB.out hb)
  replace k0 := keepc hb k0
  replace k1 := keepc hb k1
  replace k2 := keepc hb k2
  replace m0 := keepc hb m0
  replace m1 := keepc hb m1
  replace m2 := keepc hb m2
  replace p0 := keepc hb p0
  replace p1 := keepc hb p1
  replace q0 := keepc hb q0
  replace q1 := keepc hb q1
  replace s0 := keepc hb s0
  replace s1 := keepc hb s1
  replace r0 := keepc hb r0
  replace r1 := keepc hb r1
  replace x0 := keepc hb x0
  replace x1 := keepc hb x1
  replace x2 := keepc hb x2
  replace fx0 := keepf hb lx fx0
  replace fx1 := keepf hb lx fx1
  replace fx2 := keepf hb lx fx2
  replace lk := Nat.lt_of_lt_of_le lk hb.size
  replace lm := Nat.lt_of_lt_of_le lm hb.size
  replace lp := Nat.lt_of_lt_of_le lp hb.size
  replace lq := Nat.lt_of_lt_of_le lq hb.size
  replace ls := Nat.lt_of_lt_of_le ls hb.size
  replace lr := Nat.lt_of_lt_of_le lr hb.size
  replace lx := Nat.lt_of_lt_of_le lx hb.size
  clear hb
  generalize w23.heap.size = gy at *
  with_reducible refine (Csub.out _).mono ?_
  rintro e_ w25 ⟨rfl, hb⟩
  replace HB := Lib.hid (on_below HB.out hb)
  replace k0 := keepc hb k0
  replace k1 := keepc hb k1
  replace k2 := keepc hb k2
  replace m0 := keepc hb m0
  replace m1 := keepc hb m1
  replace m2 := keepc hb m2
  replace p0 := keepc hb p0
  replace p1 := keepc hb p1
  replace q0 := keepc hb q0
  replace q1 := keepc hb q1
  replace s0 := keepc hb s0
  replace s1 := keepc hb s1
  replace r0 := keepc hb r0
  replace r1 := keepc hb r1
  replace x0 := keepc hb x0
  replace x1 := keepc hb x1
  replace x2 := keepc hb x2
  replace y0 := keepc hb y0
  replace y1 := keepc hb y1
  replace y2 := keepc hb y2
  replace fx0 := keepf hb lx fx0
  replace fx1 := keepf hb lx fx1
  replace fx2 := keepf hb lx fx2
  replace fy0 := keepf hb ly fy0
  replace fy1 := keepf hb ly fy1
  replace fy2 := keepf hb ly fy2
  replace lk := Nat.lt_of_lt_of_le lk hb.size
  replace lm := Nat.lt_of_lt_of_le lm hb.size
  replace lp := Nat.lt_of_lt_of_le lp hb.size
  replace lq := Nat.lt_of_lt_of_le lq hb.size
  replace ls := Nat.lt_of_lt_of_le ls hb.size
  replace lr := Nat.lt_of_lt_of_le lr hb.size
  replace lx := Nat.lt_of_lt_of_le lx hb.size
  replace ly := Nat.lt_of_lt_of_le ly hb.size
  clear hb
  go_wp2_with fail
  obtain ⟨a0_, a1_, a2_⟩ := put3 X Y Z x0 x1 x2
  replace k0 := (far3 X Y Z (Nat.ne_of_lt oxlk)).trans k0
  replace k1 := (far3 X Y Z (Nat.ne_of_lt oxlk)).trans k1
  replace k2 := (far3 X Y Z (Nat.ne_of_lt oxlk)).trans k2
  replace m0 := (far3 X Y Z (Nat.ne_of_lt oxlm)).trans m0
  replace m1 := (far3 X Y Z (Nat.ne_of_lt oxlm)).trans m1
  replace m2 := (far3 X Y Z (Nat.ne_of_lt oxlm)).trans m2
  replace p0 := (far3 X Y Z (Nat.ne_of_lt oxlp)).trans p0
  replace p1 := (far3 X Y Z (Nat.ne_of_lt oxlp)).trans p1
  replace q0 := (far3 X Y Z (Nat.ne_of_lt oxlq)).trans q0
  replace q1 := (far3 X Y Z (Nat.ne_of_lt oxlq)).trans q1
  replace s0 := (far3 X Y Z (Nat.ne_of_lt oxls)).trans s0
  replace s1 := (far3 X Y Z (Nat.ne_of_lt oxls)).trans s1
  replace r0 := (far3 X Y Z (Nat.ne_of_lt oxlr)).trans r0
  replace r1 := (far3 X Y Z (Nat.ne_of_lt oxlr)).trans r1
  replace y0 := (far3 X Y Z (Nat.ne_of_gt oylx)).trans y0
  replace y1 := (far3 X Y Z (Nat.ne_of_gt oylx)).trans y1
  replace y2 := (far3 X Y Z (Nat.ne_of_gt oylx)).trans y2
  replace fx0 := (frz3 (W := w25) (h := gx) _ X Y Z).trans fx0
  replace fx1 := (frz3 (W := w25) (h := gx) _ X Y Z).trans fx1
  replace fx2 := (frz3 (W := w25) (h := gx) _ X Y Z).trans fx2
  replace fy0 := (frz3 (W := w25) (h := gx) _ X Y Z).trans fy0
  replace fy1 := (frz3 (W := w25) (h := gx) _ X Y Z).trans fy1
  replace fy2 := (frz3 (W := w25) (h := gx) _ X Y Z).trans fy2
  have hs_ := siz3 (W := w25) (h := gx) X Y Z
  replace lk := Nat.lt_of_lt_of_eq lk hs_.symm
  replace lm := Nat.lt_of_lt_of_eq lm hs_.symm
  replace lp := Nat.lt_of_lt_of_eq lp hs_.symm
  replace lq := Nat.lt_of_lt_of_eq lq hs_.symm
  replace ls := Nat.lt_of_lt_of_eq ls hs_.symm
  replace lr := Nat.lt_of_lt_of_eq lr hs_.symm
  replace lx := Nat.lt_of_lt_of_eq lx hs_.symm
  replace ly := Nat.lt_of_lt_of_eq ly hs_.symm
  replace HB := Lib.hid (((HB.out.setCell (p := ⟨gx, 0, none⟩) (Nat.le_of_lt oxlk) (.int .i64 X)).setCell (p := ⟨gx, 1, none⟩) (Nat.le_of_lt oxlk) (.int .i64 Y)).setCell (p := ⟨gx, 2, none⟩) (Nat.le_of_lt oxlk) (.int .i64 Z))
  clear hs_ x0 x1 x2
  generalize (((w25.setCell ⟨gx, 0, none⟩ (.int .i64 X)).setCell ⟨gx, 1, none⟩ (.int .i64 Y)).setCell ⟨gx, 2, none⟩ (.int .i64 Z)) = w26 at *
  have x0 := a0_
  have x1 := a1_
  have x2 := a2_
  clear a0_ a1_ a2_
  with_reducible refine (Qsub.out _).mono ?_
  rintro e_ w27 ⟨rfl, hb⟩
  replace HB := Lib.hid (on_below HB.out hb)
  replace k0 := keepc hb k0
  replace k1 := keepc hb k1
  replace k2 := keepc hb k2
  replace m0 := keepc hb m0
  replace m1 := keepc hb m1
  replace m2 := keepc hb m2
  replace p0 := keepc hb p0
  replace p1 := keepc hb p1
  replace q0 := keepc hb q0
  replace q1 := keepc hb q1
  replace s0 := keepc hb s0
  replace s1 := keepc hb s1
  replace r0 := keepc hb r0
  replace r1 := keepc hb r1
  replace x0 := keepc hb x0
  replace x1 := keepc hb x1
  replace x2 := keepc hb x2
  replace y0 := keepc hb y0
  replace y1 := keepc hb y1
  replace y2 := keepc hb y2
  replace fx0 := keepf hb lx fx0
  replace fx1 := keepf hb lx fx1
  replace fx2 := keepf hb lx fx2
  replace fy0 := keepf hb ly fy0
  replace fy1 := keepf hb ly fy1
  replace fy2 := keepf hb ly fy2
  replace lk := Nat.lt_of_lt_of_le lk hb.size
  replace lm := Nat.lt_of_lt_of_le lm hb.size
  replace lp := Nat.lt_of_lt_of_le lp hb.size
  replace lq := Nat.lt_of_lt_of_le lq hb.size
  replace ls := Nat.lt_of_lt_of_le ls hb.size
  replace lr := Nat.lt_of_lt_of_le lr hb.size
  replace lx := Nat.lt_of_lt_of_le lx hb.size
  replace ly := Nat.lt_of_lt_of_le ly hb.size
  clear hb
  go_wp2_with fail
  obtain ⟨a0_, a1_, a2_⟩ := put3 X Y Z y0 y1 y2
  replace k0 := (far3 X Y Z (Nat.ne_of_lt oylk)).trans k0
  replace k1 := (far3 X Y Z (Nat.ne_of_lt oylk)).trans k1
  replace k2 := (far3 X Y Z (Nat.ne_of_lt oylk)).trans k2
  replace m0 := (far3 X Y Z (Nat.ne_of_lt oylm)).trans m0
  replace m1 := (far3 X Y Z (Nat.ne_of_lt oylm)).trans m1
  replace m2 := (far3 X Y Z (Nat.ne_of_lt oylm)).trans m2
  replace p0 := (far3 X Y Z (Nat.ne_of_lt oylp)).trans p0
  replace p1 := (far3 X Y Z (Nat.ne_of_lt oylp)).trans p1
  replace q0 := (far3 X Y Z (Nat.ne_of_lt oylq)).trans q0
  replace q1 := (far3 X Y Z (Nat.ne_of_lt oylq)).trans q1
  replace s0 := (far3 X Y Z (Nat.ne_of_lt oyls)).trans s0
  replace s1 := (far3 X Y Z (Nat.ne_of_lt oyls)).trans s1
  replace r0 := (far3 X Y Z (Nat.ne_of_lt oylr)).trans r0
  replace r1 := (far3 X Y Z (Nat.ne_of_lt oylr)).trans r1
  replace x0 := (far3 X Y Z (Nat.ne_of_lt oylx)).trans x0
  replace x1 := (far3 X Y Z (Nat.ne_of_lt oylx)).trans x1
  replace x2 := (far3 X Y Z (Nat.ne_of_lt oylx)).trans x2
  replace fx0 := (frz3 (W := w27) (h := gy) _ X Y Z).trans fx0
  replace fx1 := (frz3 (W := w27) (h := gy) _ X Y Z).trans fx1
  replace fx2 := (frz3 (W := w27) (h := gy) _ X Y Z).trans fx2
  replace fy0 := (frz3 (W := w27) (h := gy) _ X Y Z).trans fy0
  replace fy1 := (frz3 (W := w27) (h := gy) _ X Y Z).trans fy1
  replace fy2 := (frz3 (W := w27) (h := gy) _ X Y Z).trans fy2
  have hs_ := siz3 (W := w27) (h := gy) X Y Z
  replace lk := Nat.lt_of_lt_of_eq lk hs_.symm
  replace lm := Nat.lt_of_lt_of_eq lm hs_.symm
  replace lp := Nat.lt_of_lt_of_eq lp hs_.symm
  replace lq := Nat.lt_of_lt_of_eq lq hs_.symm
  replace ls := Nat.lt_of_lt_of_eq ls hs_.symm
  replace lr := Nat.lt_of_lt_of_eq lr hs_.symm
  replace lx := Nat.lt_of_lt_of_eq lx hs_.symm
  replace ly := Nat.lt_of_lt_of_eq ly hs_.symm
  replace HB := Lib.hid (((HB.out.setCell (p := ⟨gy, 0, none⟩) (Nat.le_of_lt oylk) (.int .i64 X)).setCell (p := ⟨gy, 1, none⟩) (Nat.le_of_lt oylk) (.int .i64 Y)).setCell (p := ⟨gy, 2, none⟩) (Nat.le_of_lt oylk) (.int .i64 Z))
  clear hs_ y0 y1 y2
  generalize (((w27.setCell ⟨gy, 0, none⟩ (.int .i64 X)).setCell ⟨gy, 1, none⟩ (.int .i64 Y)).setCell ⟨gy, 2, none⟩ (.int .i64 Z)) = w28 at *
  have y0 := a0_
  have y1 := a1_
  have y2 := a2_
  clear a0_ a1_ a2_
  with_reducible refine (Cdot.out _).mono ?_
  rintro e_ w29 ⟨rfl, hb⟩
  replace HB := Lib.hid (on_below HB.out hb)
  replace k0 := keepc hb k0
  replace k1 := keepc hb k1
  replace k2 := keepc hb k2
  replace m0 := keepc hb m0
  replace m1 := keepc hb m1
  replace m2 := keepc hb m2
  replace p0 := keepc hb p0
  replace p1 := keepc hb p1
  replace q0 := keepc hb q0
  replace q1 := keepc hb q1
  replace s0 := keepc hb s0
  replace s1 := keepc hb s1
  replace r0 := keepc hb r0
  replace r1 := keepc hb r1
  replace x0 := keepc hb x0
  replace x1 := keepc hb x1
  replace x2 := keepc hb x2
  replace y0 := keepc hb y0
  replace y1 := keepc hb y1
  replace y2 := keepc hb y2
  replace fx0 := keepf hb lx fx0
  replace fx1 := keepf hb lx fx1
  replace fx2 := keepf hb lx fx2
  replace fy0 := keepf hb ly fy0
  replace fy1 := keepf hb ly fy1
  replace fy2 := keepf hb ly fy2
  replace lk := Nat.lt_of_lt_of_le lk hb.size
  replace lm := Nat.lt_of_lt_of_le lm hb.size
  replace lp := Nat.lt_of_lt_of_le lp hb.size
  replace lq := Nat.lt_of_lt_of_le lq hb.size
  replace ls := Nat.lt_of_lt_of_le ls hb.size
  replace lr := Nat.lt_of_lt_of_le lr hb.size
  replace lx := Nat.lt_of_lt_of_le lx hb.size
  replace ly := Nat.lt_of_lt_of_le ly hb.size
  clear hb
  go_wp2_with fail
  with_reducible refine (Qdot.out _).mono ?_
  rintro e_ w30 ⟨rfl, hb⟩
  replace HB := Lib.hid (on_below HB.out hb)
  replace k0 := keepc hb k0
  replace k1 := keepc hb k1
  replace k2 := keepc hb k2
  replace m0 := keepc hb m0
  replace m1 := keepc hb m1
  replace m2 := keepc hb m2
  replace p0 := keepc hb p0
  replace p1 := keepc hb p1
  replace q0 := keepc hb q0
  replace q1 := keepc hb q1
  replace s0 := keepc hb s0
  replace s1 := keepc hb s1
  replace r0 := keepc hb r0
  replace r1 := keepc hb r1
  replace x0 := keepc hb x0
  replace x1 := keepc hb x1
  replace x2 := keepc hb x2
  replace y0 := keepc hb y0
  replace y1 := keepc hb y1
  replace y2 := keepc hb y2
  replace fx0 := keepf hb lx fx0
  replace fx1 := keepf hb lx fx1
  replace fx2 := keepf hb lx fx2
  replace fy0 := keepf hb ly fy0
  replace fy1 := keepf hb ly fy1
  replace fy2 := keepf hb ly fy2
  replace lk := Nat.lt_of_lt_of_le lk hb.size
  replace lm := Nat.lt_of_lt_of_le lm hb.size
  replace lp := Nat.lt_of_lt_of_le lp hb.size
  replace lq := Nat.lt_of_lt_of_le lq hb.size
  replace ls := Nat.lt_of_lt_of_le ls hb.size
  replace lr := Nat.lt_of_lt_of_le lr hb.size
  replace lx := Nat.lt_of_lt_of_le lx hb.size
  replace ly := Nat.lt_of_lt_of_le ly hb.size
  clear hb
  go_wp2_with fail
  with_reducible refine (Cturn.out _).mono ?_
  rintro e_ w31 ⟨rfl, hb⟩
  replace HB := Lib.hid (on_below HB.out hb)
  replace k0 := keepc hb k0
  replace k1 := keepc hb k1
  replace k2 := keepc hb k2
  replace m0 := keepc hb m0
  replace m1 := keepc hb m1
  replace m2 := keepc hb m2
  replace p0 := keepc hb p0
  replace p1 := keepc hb p1
  replace q0 := keepc hb q0
  replace q1 := keepc hb q1
  replace s0 := keepc hb s0
  replace s1 := keepc hb s1
  replace r0 := keepc hb r0
  replace r1 := keepc hb r1
  replace x0 := keepc hb x0
  replace x1 := keepc hb x1
  replace x2 := keepc hb x2
  replace y0 := keepc hb y0
  replace y1 := keepc hb y1
  replace y2 := keepc hb y2
  replace fx0 := keepf hb lx fx0
  replace fx1 := keepf hb lx fx1
  replace fx2 := keepf hb lx fx2
  replace fy0 := keepf hb ly fy0
  replace fy1 := keepf hb ly fy1
  replace fy2 := keepf hb ly fy2
  replace lk := Nat.lt_of_lt_of_le lk hb.size
  replace lm := Nat.lt_of_lt_of_le lm hb.size
  replace lp := Nat.lt_of_lt_of_le lp hb.size
  replace lq := Nat.lt_of_lt_of_le lq hb.size
  replace ls := Nat.lt_of_lt_of_le ls hb.size
  replace lr := Nat.lt_of_lt_of_le lr hb.size
  replace lx := Nat.lt_of_lt_of_le lx hb.size
  replace ly := Nat.lt_of_lt_of_le ly hb.size
  clear hb
  go_wp2_with fail
  with_reducible refine (Qturn.out _).mono ?_
  rintro e_ w32 ⟨rfl, hb⟩
  replace HB := Lib.hid (on_below HB.out hb)
  replace k0 := keepc hb k0
  replace k1 := keepc hb k1
  replace k2 := keepc hb k2
  replace m0 := keepc hb m0
  replace m1 := keepc hb m1
  replace m2 := keepc hb m2
  replace p0 := keepc hb p0
  replace p1 := keepc hb p1
  replace q0 := keepc hb q0
  replace q1 := keepc hb q1
  replace s0 := keepc hb s0
  replace s1 := keepc hb s1
  replace r0 := keepc hb r0
  replace r1 := keepc hb r1
  replace x0 := keepc hb x0
  replace x1 := keepc hb x1
  replace x2 := keepc hb x2
  replace y0 := keepc hb y0
  replace y1 := keepc hb y1
  replace y2 := keepc hb y2
  replace fx0 := keepf hb lx fx0
  replace fx1 := keepf hb lx fx1
  replace fx2 := keepf hb lx fx2
  replace fy0 := keepf hb ly fy0
  replace fy1 := keepf hb ly fy1
  replace fy2 := keepf hb ly fy2
  replace lk := Nat.lt_of_lt_of_le lk hb.size
  replace lm := Nat.lt_of_lt_of_le lm hb.size
  replace lp := Nat.lt_of_lt_of_le lp hb.size
  replace lq := Nat.lt_of_lt_of_le lq hb.size
  replace ls := Nat.lt_of_lt_of_le ls hb.size
  replace lr := Nat.lt_of_lt_of_le lr hb.size
  replace lx := Nat.lt_of_lt_of_le lx hb.size
  replace ly := Nat.lt_of_lt_of_le ly hb.size
  clear hb
  go_wp2_with fail
  with_reducible refine (Cnear.out _).mono ?_
  rintro e_ w33 ⟨rfl, hb⟩
  replace HB := Lib.hid (on_below HB.out hb)
  replace k0 := keepc hb k0
  replace k1 := keepc hb k1
  replace k2 := keepc hb k2
  replace m0 := keepc hb m0
  replace m1 := keepc hb m1
  replace m2 := keepc hb m2
  replace p0 := keepc hb p0
  replace p1 := keepc hb p1
  replace q0 := keepc hb q0
  replace q1 := keepc hb q1
  replace s0 := keepc hb s0
  replace s1 := keepc hb s1
  replace r0 := keepc hb r0
  replace r1 := keepc hb r1
  replace x0 := keepc hb x0
  replace x1 := keepc hb x1
  replace x2 := keepc hb x2
  replace y0 := keepc hb y0
  replace y1 := keepc hb y1
  replace y2 := keepc hb y2
  replace fx0 := keepf hb lx fx0
  replace fx1 := keepf hb lx fx1
  replace fx2 := keepf hb lx fx2
  replace fy0 := keepf hb ly fy0
  replace fy1 := keepf hb ly fy1
  replace fy2 := keepf hb ly fy2
  replace lk := Nat.lt_of_lt_of_le lk hb.size
  replace lm := Nat.lt_of_lt_of_le lm hb.size
  replace lp := Nat.lt_of_lt_of_le lp hb.size
  replace lq := Nat.lt_of_lt_of_le lq hb.size
  replace ls := Nat.lt_of_lt_of_le ls hb.size
  replace lr := Nat.lt_of_lt_of_le lr hb.size
  replace lx := Nat.lt_of_lt_of_le lx hb.size
  replace ly := Nat.lt_of_lt_of_le ly hb.size
  clear hb
  go_wp2_with fail
  with_reducible refine (Qnear.out _).mono ?_
  rintro e_ w34 ⟨rfl, hb⟩
  replace HB := Lib.hid (on_below HB.out hb)
  replace k0 := keepc hb k0
  replace k1 := keepc hb k1
  replace k2 := keepc hb k2
  replace m0 := keepc hb m0
  replace m1 := keepc hb m1
  replace m2 := keepc hb m2
  replace p0 := keepc hb p0
  replace p1 := keepc hb p1
  replace q0 := keepc hb q0
  replace q1 := keepc hb q1
  replace s0 := keepc hb s0
  replace s1 := keepc hb s1
  replace r0 := keepc hb r0
  replace r1 := keepc hb r1
  replace x0 := keepc hb x0
  replace x1 := keepc hb x1
  replace x2 := keepc hb x2
  replace y0 := keepc hb y0
  replace y1 := keepc hb y1
  replace y2 := keepc hb y2
  replace fx0 := keepf hb lx fx0
  replace fx1 := keepf hb lx fx1
  replace fx2 := keepf hb lx fx2
  replace fy0 := keepf hb ly fy0
  replace fy1 := keepf hb ly fy1
  replace fy2 := keepf hb ly fy2
  replace lk := Nat.lt_of_lt_of_le lk hb.size
  replace lm := Nat.lt_of_lt_of_le lm hb.size
  replace lp := Nat.lt_of_lt_of_le lp hb.size
  replace lq := Nat.lt_of_lt_of_le lq hb.size
  replace ls := Nat.lt_of_lt_of_le ls hb.size
  replace lr := Nat.lt_of_lt_of_le lr hb.size
  replace lx := Nat.lt_of_lt_of_le lx hb.size
  replace ly := Nat.lt_of_lt_of_le ly hb.size
  clear hb
  go_wp2_with fail
  go_ret
  exact ⟨rfl, HB.out⟩

theorem law_any (kx : Int) (ikx : I64 kx) (ky : Int) (iky : I64 ky) (kz : Int) (ikz : I64 kz) (mx : Int) (imx : I64 mx) (my : Int) (imy : I64 my) (mz : Int) (imz : I64 mz) (px : Int) (ipx : I64 px) (py : Int) (ipy : I64 py) (qx : Int) (iqx : I64 qx) (qy : Int) (iqy : I64 qy) (sx : Int) (isx : I64 sx) (sy : Int) (isy : I64 sy) (rn : Int) (irn : I64 rn) (rd : Int) (ird : I64 rd) (w : World) :
    Calls Try.prog 3 #[.agg #[.int .i64 kx, .int .i64 ky, .int .i64 kz], .agg #[.int .i64 mx, .int .i64 my, .int .i64 mz], .agg #[.int .i64 px, .int .i64 py], .agg #[.int .i64 qx, .int .i64 qy], .agg #[.int .i64 sx, .int .i64 sy], .agg #[.int .i64 rn, .int .i64 rd]] w fun e_ w' => e_ = .returned (.bool true) ∧ Below w.heap.size w w' :=
  same kx ky kz mx my mz px py qx qy sx sy rn rd _ _ _ _ _ _ _ _ _ _ _ _ _ _ _ rfl
    (fun W => add_is kx ky kz mx my mz _ _ _ _ rfl rfl rfl rfl W) (fun W => qadd_is kx ky kz mx my mz _ _ _ _ rfl rfl rfl rfl W)
    (fun W => sub_is kx ky kz mx my mz _ _ _ _ rfl rfl rfl rfl W) (fun W => qsub_is kx ky kz mx my mz _ _ _ _ rfl rfl rfl rfl W)
    (fun W => dot_is kx ky kz mx my mz _ _ rfl rfl W) (fun W => qdot_is kx ky kz mx my mz _ _ rfl rfl W)
    (fun W => turn_is px py qx qy sx sy _ _ rfl rfl W) (fun W => qturn_is px py qx qy sx sy _ _ rfl rfl W)
    (fun W => near_is kx ky kz mx my mz rn rd _ _ irn ird rfl rfl W) (fun W => qnear_is kx ky kz mx my mz rn rd _ _ irn ird rfl rfl W) w

/-! ### The row -/
open Go.ChangeShapes Go.WideShapes Go.ChangeAt Go.Joins
theorem own : ownKnob Try.prog.godebug = none := by kernel_rfl
noncomputable def laidWorld (os : Os) : World := World.holding Try.prog os ⟨#[], #[], []⟩
theorem laidWorld_met (os : Os) (args : Array Value) : laidMet Try.prog [] ((laidWorld os).forCall (fun _ _ => 0) ⟨#[], args, []⟩).memory :=
  laidMet_of_run' 8 (by kernel_rfl) (by kernel_rfl)

set_option maxRecDepth 100000 in
theorem contract (H : Type) (enc : TypeId × Value → H) (W : World) (base : Nat) (args : Array Value) (ds gs : List (DataW H)) (before : List MemPlace)
    (hval : ∀ (j : Nat) t v, Try.f3.params[j]? = some t → args[j]? = some v → Value.okWide Try.prog W .any base t v)
    (hW : DataW.Whole enc Try.prog Try.f3.params.toList Rows.vectorMatchesReferenceSpec.vars false W args.toList ds gs before) :
    Calls Try.prog 3 args W fun e W' => ∃ v, e = .returned v ∧ Rows.vectorMatchesReferenceSpec.post enc Try.prog Try.f3 false true false false W args v W' := by
  have hW' := hW
  obtain ⟨p, q, hA0, hV, rfl, hfz, hnd⟩ := hW
  have hA : DataW.TrodAll enc Try.prog W 0 (fun _ => true) true Try.f3.params.toList args.toList ds p := hA0
  rw [Try.params3] at hA hval
  obtain ⟨v0, vs0, d0, ds0, p0, q0, hargs, rfl, rfl, h0, r0⟩ := trodAll_cons hA
  obtain ⟨v1, vs1, d1, ds1, p1, q1, rfl, rfl, rfl, h1, r1⟩ := trodAll_cons r0
  obtain ⟨v2, vs2, d2, ds2, p2, q2, rfl, rfl, rfl, h2, r2⟩ := trodAll_cons r1
  obtain ⟨v3, vs3, d3, ds3, p3, q3, rfl, rfl, rfl, h3, r3⟩ := trodAll_cons r2
  obtain ⟨v4, vs4, d4, ds4, p4, q4, rfl, rfl, rfl, h4, r4⟩ := trodAll_cons r3
  obtain ⟨v5, vs5, d5, ds5, p5, q5, rfl, rfl, rfl, h5, r5⟩ := trodAll_cons r4
  obtain ⟨rfl, rfl, rfl⟩ := trodAll_nil r5
  obtain rfl : args = #[v0, v1, v2, v3, v4, v5] := Array.toList_inj.1 hargs
  obtain ⟨rfl, rfl⟩ := trodVars_none hV
  obtain ⟨kx, ky, kz, rfl, rfl, rfl, ikx, iky, ikz⟩ := open_vec (hval 0 23 v0 rfl rfl) h0
  obtain ⟨mx, my, mz, rfl, rfl, rfl, imx, imy, imz⟩ := open_vec (hval 1 23 v1 rfl rfl) h1
  obtain ⟨px, py, rfl, rfl, rfl, ipx, ipy⟩ := open_point (hval 2 25 v2 rfl rfl) h2
  obtain ⟨qx, qy, rfl, rfl, rfl, iqx, iqy⟩ := open_point (hval 3 25 v3 rfl rfl) h3
  obtain ⟨sx, sy, rfl, rfl, rfl, isx, isy⟩ := open_point (hval 4 25 v4 rfl rfl) h4
  obtain ⟨rn, rd, rfl, rfl, rfl, irn, ird⟩ := open_rat (hval 5 27 v5 rfl rfl) h5
  clear hA0
  refine (law_any kx (wf_i ikx) ky (wf_i iky) kz (wf_i ikz) mx (wf_i imx) my (wf_i imy) mz (wf_i imz) px (wf_i ipx) py (wf_i ipy) qx (wf_i iqx) qy (wf_i iqy) sx (wf_i isx) sy (wf_i isy) rn (wf_i irn) rd (wf_i ird) W).mono fun e W' ⟨he, bel⟩ => ?_
  subst he
  exact ⟨_, rfl, _, _, _, [], _, [], hW', trodAll_mk1 (shut_bool Try.underlying4 _), (trodAll_cons_mk (shut_vec ikx iky ikz) (trodAll_cons_mk (shut_vec imx imy imz) (trodAll_cons_mk (shut_point ipx ipy) (trodAll_cons_mk (shut_point iqx iqy) (trodAll_cons_mk (shut_point isx isy) (trodAll_cons_mk (shut_rat irn ird) trodAll_mk0)))))), rfl, bel.frame _, fun h => by cases h⟩

theorem reads (os : Os) {H : Type} (enc : TypeId × Value → H) : ∃ places, DataW.whole enc Try.prog ((laidWorld os).forCall (fun _ _ => 0) ⟨#[], #[.agg #[.int .i64 0, .int .i64 0, .int .i64 0], .agg #[.int .i64 0, .int .i64 0, .int .i64 0], .agg #[.int .i64 0, .int .i64 0], .agg #[.int .i64 0, .int .i64 0], .agg #[.int .i64 0, .int .i64 0], .agg #[.int .i64 0, .int .i64 0]], []⟩).memory Try.f3.params.toList Rows.vectorMatchesReferenceSpec.vars false (#[.agg #[.int .i64 0, .int .i64 0, .int .i64 0], .agg #[.int .i64 0, .int .i64 0, .int .i64 0], .agg #[.int .i64 0, .int .i64 0], .agg #[.int .i64 0, .int .i64 0], .agg #[.int .i64 0, .int .i64 0], .agg #[.int .i64 0, .int .i64 0]] : Array Value).toList 8 = some ([.agg [.lit (.int .i64 0), .lit (.int .i64 0), .lit (.int .i64 0)], .agg [.lit (.int .i64 0), .lit (.int .i64 0), .lit (.int .i64 0)], .agg [.lit (.int .i64 0), .lit (.int .i64 0)], .agg [.lit (.int .i64 0), .lit (.int .i64 0)], .agg [.lit (.int .i64 0), .lit (.int .i64 0)], .agg [.lit (.int .i64 0), .lit (.int .i64 0)]], [], places) :=
  ⟨[], by kernel_rfl⟩

set_option maxRecDepth 100000 in
theorem lifted (os : Os) (started : os.Started) (H : Type) (enc : TypeId × Value → H) (F : Stop.Interp) :
    ReturnsInHanded {} Try.checked os 3 .any ((OpenSpec.ofChange Rows.vectorMatchesReferenceSpec).preRow enc Try.prog Try.f3 Rows.vectorMatchesReferenceRow.domain false Rows.vectorMatchesReferenceRow.laid) (((OpenSpec.ofChange Rows.vectorMatchesReferenceSpec).at F).post enc Try.prog Try.f3 false true false false) := by
  obtain ⟨places, hx⟩ := reads os enc
  refine returnsInHanded_of_row (C := Try.checked) (s := OpenSpec.ofChange Rows.vectorMatchesReferenceSpec) own started (by kernel_rfl) Try.func3
    (witness_row_atRef (enc := enc) (C := Try.checked) false (laidWorld os) #[.agg #[.int .i64 0, .int .i64 0, .int .i64 0], .agg #[.int .i64 0, .int .i64 0, .int .i64 0], .agg #[.int .i64 0, .int .i64 0], .agg #[.int .i64 0, .int .i64 0], .agg #[.int .i64 0, .int .i64 0], .agg #[.int .i64 0, .int .i64 0]] rfl (by kernel_rfl) (by kernel_rfl) (by kernel_rfl)
      (OpenSpec.preRow_of_cond 8 hx (by kernel_rfl) (fun k hk => by cases hk) (by kernel_rfl) (laidWorld_met os _))) ?_
  intro W base args ds gs before hval hW _ hcond _ hL hsh _
  exact contract H enc W base args ds gs before hval hW

/-- The statement. -/
theorem said : Rows.VectorMatchesReferenceSaid :=
  OpenClaim.holds_of_cond 3 Try.f3 rfl rfl rfl rfl rfl rfl rfl ⟨rfl, rfl, rfl, rfl, rfl⟩ rfl rfl rfl rfl rfl (by kernel_rfl) Try.func3 (by kernel_rfl)
    (of_decide_eq_true (by kernel_rfl)) (by unfold Func.isWrapper; first | (rw [if_pos (by decide +kernel)]; kernel_rfl) | (rw [if_neg (by decide +kernel)]; exact ⟨rfl, rfl⟩))
    (fun os started H enc _ F => by rw [OpenClaim.pre_eq_preRow]; exact lifted os started H enc F)
end Go.Proofs.Ytdkofonneebciaa.vectorMatchesReference
