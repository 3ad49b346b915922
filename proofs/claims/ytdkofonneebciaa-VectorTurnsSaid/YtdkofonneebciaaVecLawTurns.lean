/-
  VectorTurns: exchanging points; a point to the left of three sides; to the left of a common line.
-/
import Derived.Test.YtdkofonneebciaaVecK
import Derived.Test.YtdkofonneebciaaVecI
import Derived.Test.YtdkofonneebciaaVecJ
import Derived.Test.YtdkofonneebciaaRows
import Derived.ProofKit
import Derived.OpenShut
import Derived.Deep.DeepHandedRow
import Derived.Deep.DeepWitnessRowRef
import Derived.MakeChecks
import Derived.Deep.DeepCutAuto
namespace Go.Proofs.Ytdkofonneebciaa.vectorTurns
open Go.RowKit Go.Sort
open Go.RowKit (Below)
set_option linter.unusedVariables false
set_option linter.unusedSimpArgs false

set_option maxRecDepth 100000 in
set_option maxHeartbeats 2000000 in
theorem law_1 (tx ty sx sy px py qx qy rx ry : Int) (h0 : pp tx ty = false) (w : World) :
    Calls Try.prog 6 #[.agg #[.int .i64 tx, .int .i64 ty], .agg #[.int .i64 sx, .int .i64 sy], .agg #[.int .i64 px, .int .i64 py], .agg #[.int .i64 qx, .int .i64 qy], .agg #[.int .i64 rx, .int .i64 ry]] w fun e_ w' => e_ = .returned (.bool true) ∧ Below w.heap.size w w' := by
  have H0 := Lib.hid h0
  clear h0
  have t0 : World.cell? (((((w.alloc (.cells #[.int .i64 tx, .int .i64 ty] 25)).alloc (.cells #[.int .i64 sx, .int .i64 sy] 25)).alloc (.cells #[.int .i64 px, .int .i64 py] 25)).alloc (.cells #[.int .i64 qx, .int .i64 qy] 25)).alloc (.cells #[.int .i64 rx, .int .i64 ry] 25)) ⟨w.heap.size, 0, none⟩ = some (.int .i64 tx) := by simp [go_sem]
  have t1 : World.cell? (((((w.alloc (.cells #[.int .i64 tx, .int .i64 ty] 25)).alloc (.cells #[.int .i64 sx, .int .i64 sy] 25)).alloc (.cells #[.int .i64 px, .int .i64 py] 25)).alloc (.cells #[.int .i64 qx, .int .i64 qy] 25)).alloc (.cells #[.int .i64 rx, .int .i64 ry] 25)) ⟨w.heap.size, 1, none⟩ = some (.int .i64 ty) := by simp [go_sem]
  have lt : w.heap.size < (((((w.alloc (.cells #[.int .i64 tx, .int .i64 ty] 25)).alloc (.cells #[.int .i64 sx, .int .i64 sy] 25)).alloc (.cells #[.int .i64 px, .int .i64 py] 25)).alloc (.cells #[.int .i64 qx, .int .i64 qy] 25)).alloc (.cells #[.int .i64 rx, .int .i64 ry] 25)).heap.size := by simp <;> omega
  have s0 : World.cell? (((((w.alloc (.cells #[.int .i64 tx, .int .i64 ty] 25)).alloc (.cells #[.int .i64 sx, .int .i64 sy] 25)).alloc (.cells #[.int .i64 px, .int .i64 py] 25)).alloc (.cells #[.int .i64 qx, .int .i64 qy] 25)).alloc (.cells #[.int .i64 rx, .int .i64 ry] 25)) ⟨w.heap.size + 1, 0, none⟩ = some (.int .i64 sx) := by simp [go_sem]
  have s1 : World.cell? (((((w.alloc (.cells #[.int .i64 tx, .int .i64 ty] 25)).alloc (.cells #[.int .i64 sx, .int .i64 sy] 25)).alloc (.cells #[.int .i64 px, .int .i64 py] 25)).alloc (.cells #[.int .i64 qx, .int .i64 qy] 25)).alloc (.cells #[.int .i64 rx, .int .i64 ry] 25)) ⟨w.heap.size + 1, 1, none⟩ = some (.int .i64 sy) := by simp [go_sem]
  have ls : w.heap.size + 1 < (((((w.alloc (.cells #[.int .i64 tx, .int .i64 ty] 25)).alloc (.cells #[.int .i64 sx, .int .i64 sy] 25)).alloc (.cells #[.int .i64 px, .int .i64 py] 25)).alloc (.cells #[.int .i64 qx, .int .i64 qy] 25)).alloc (.cells #[.int .i64 rx, .int .i64 ry] 25)).heap.size := by simp <;> omega
  have p0 : World.cell? (((((w.alloc (.cells #[.int .i64 tx, .int .i64 ty] 25)).alloc (.cells #[.int .i64 sx, .int .i64 sy] 25)).alloc (.cells #[.int .i64 px, .int .i64 py] 25)).alloc (.cells #[.int .i64 qx, .int .i64 qy] 25)).alloc (.cells #[.int .i64 rx, .int .i64 ry] 25)) ⟨w.heap.size + 1 + 1, 0, none⟩ = some (.int .i64 px) := by simp [go_sem]
  have p1 : World.cell? (((((w.alloc (.cells #[.int .i64 tx, .int .i64 ty] 25)).alloc (.cells #[.int .i64 sx, .int .i64 sy] 25)).alloc (.cells #[.int .i64 px, .int .i64 py] 25)).alloc (.cells #[.int .i64 qx, .int .i64 qy] 25)).alloc (.cells #[.int .i64 rx, .int .i64 ry] 25)) ⟨w.heap.size + 1 + 1, 1, none⟩ = some (.int .i64 py) := by simp [go_sem]
  have lp : w.heap.size + 1 + 1 < (((((w.alloc (.cells #[.int .i64 tx, .int .i64 ty] 25)).alloc (.cells #[.int .i64 sx, .int .i64 sy] 25)).alloc (.cells #[.int .i64 px, .int .i64 py] 25)).alloc (.cells #[.int .i64 qx, .int .i64 qy] 25)).alloc (.cells #[.int .i64 rx, .int .i64 ry] 25)).heap.size := by simp <;> omega
  have q0 : World.cell? (((((w.alloc (.cells #[.int .i64 tx, .int .i64 ty] 25)).alloc (.cells #[.int .i64 sx, .int .i64 sy] 25)).alloc (.cells #[.int .i64 px, .int .i64 py] 25)).alloc (.cells #[.int .i64 qx, .int .i64 qy] 25)).alloc (.cells #[.int .i64 rx, .int .i64 ry] 25)) ⟨w.heap.size + 1 + 1 + 1, 0, none⟩ = some (.int .i64 qx) := by simp [go_sem]
  have q1 : World.cell? (((((w.alloc (.cells #[.int .i64 tx, .int .i64 ty] 25)).alloc (.cells #[.int .i64 sx, .int .i64 sy] 25)).alloc (.cells #[.int .i64 px, .int .i64 py] 25)).alloc (.cells #[.int .i64 qx, .int .i64 qy] 25)).alloc (.cells #[.int .i64 rx, .int .i64 ry] 25)) ⟨w.heap.size + 1 + 1 + 1, 1, none⟩ = some (.int .i64 qy) := by simp [go_sem]
  have lq : w.heap.size + 1 + 1 + 1 < (((((w.alloc (.cells #[.int .i64 tx, .int .i64 ty] 25)).alloc (.cells #[.int .i64 sx, .int .i64 sy] 25)).alloc (.cells #[.int .i64 px, .int .i64 py] 25)).alloc (.cells #[.int .i64 qx, .int .i64 qy] 25)).alloc (.cells #[.int .i64 rx, .int .i64 ry] 25)).heap.size := by simp <;> omega
  have r0 : World.cell? (((((w.alloc (.cells #[.int .i64 tx, .int .i64 ty] 25)).alloc (.cells #[.int .i64 sx, .int .i64 sy] 25)).alloc (.cells #[.int .i64 px, .int .i64 py] 25)).alloc (.cells #[.int .i64 qx, .int .i64 qy] 25)).alloc (.cells #[.int .i64 rx, .int .i64 ry] 25)) ⟨w.heap.size + 1 + 1 + 1 + 1, 0, none⟩ = some (.int .i64 rx) := by simp [go_sem]
  have r1 : World.cell? (((((w.alloc (.cells #[.int .i64 tx, .int .i64 ty] 25)).alloc (.cells #[.int .i64 sx, .int .i64 sy] 25)).alloc (.cells #[.int .i64 px, .int .i64 py] 25)).alloc (.cells #[.int .i64 qx, .int .i64 qy] 25)).alloc (.cells #[.int .i64 rx, .int .i64 ry] 25)) ⟨w.heap.size + 1 + 1 + 1 + 1, 1, none⟩ = some (.int .i64 ry) := by simp [go_sem]
  have lr : w.heap.size + 1 + 1 + 1 + 1 < (((((w.alloc (.cells #[.int .i64 tx, .int .i64 ty] 25)).alloc (.cells #[.int .i64 sx, .int .i64 sy] 25)).alloc (.cells #[.int .i64 px, .int .i64 py] 25)).alloc (.cells #[.int .i64 qx, .int .i64 qy] 25)).alloc (.cells #[.int .i64 rx, .int .i64 ry] 25)).heap.size := by simp <;> omega
  have HB := Lib.hid (show Below w.heap.size w (((((w.alloc (.cells #[.int .i64 tx, .int .i64 ty] 25)).alloc (.cells #[.int .i64 sx, .int .i64 sy] 25)).alloc (.cells #[.int .i64 px, .int .i64 py] 25)).alloc (.cells #[.int .i64 qx, .int .i64 qy] 25)).alloc (.cells #[.int .i64 rx, .int .i64 ry] 25)) from ((((((Below.refl _ _).alloc (by simp <;> omega) _).alloc (by simp <;> omega) _).alloc (by simp <;> omega) _).alloc (by simp <;> omega) _).alloc (by simp <;> omega) _))
  go_enter Try.func6, Try.ntmps6
  go_wp2_with fail
  generalize ((((w.alloc (.cells #[.int .i64 tx, .int .i64 ty] 25)).alloc (.cells #[.int .i64 sx, .int .i64 sy] 25)).alloc (.cells #[.int .i64 px, .int .i64 py] 25)).alloc (.cells #[.int .i64 qx, .int .i64 qy] 25)).alloc (.cells #[.int .i64 rx, .int .i64 ry] 25) = w1 at *
  with_reducible refine (head_any _).mono ?_
  rintro e_ w2 ⟨rfl, hb⟩
  replace HB := Lib.hid (on_below HB.out hb)
  replace t0 := keepc hb t0
  replace t1 := keepc hb t1
  replace s0 := keepc hb s0
  replace s1 := keepc hb s1
  replace p0 := keepc hb p0
  replace p1 := keepc hb p1
  replace q0 := keepc hb q0
  replace q1 := keepc hb q1
  replace r0 := keepc hb r0
  replace r1 := keepc hb r1
  replace lt := Nat.lt_of_lt_of_le lt hb.size
  replace ls := Nat.lt_of_lt_of_le ls hb.size
  replace lp := Nat.lt_of_lt_of_le lp hb.size
  replace lq := Nat.lt_of_lt_of_le lq hb.size
  replace lr := Nat.lt_of_lt_of_le lr hb.size
  clear hb
  go_wp2_with fail
  with_reducible refine (flat_is tx ty false H0.out _).mono ?_
  rintro e_ w3 ⟨rfl, hb⟩
  replace HB := Lib.hid (on_below HB.out hb)
  replace t0 := keepc hb t0
  replace t1 := keepc hb t1
  replace s0 := keepc hb s0
  replace s1 := keepc hb s1
  replace p0 := keepc hb p0
  replace p1 := keepc hb p1
  replace q0 := keepc hb q0
  replace q1 := keepc hb q1
  replace r0 := keepc hb r0
  replace r1 := keepc hb r1
  replace lt := Nat.lt_of_lt_of_le lt hb.size
  replace ls := Nat.lt_of_lt_of_le ls hb.size
  replace lp := Nat.lt_of_lt_of_le lp hb.size
  replace lq := Nat.lt_of_lt_of_le lq hb.size
  replace lr := Nat.lt_of_lt_of_le lr hb.size
  clear hb
  go_wp2_with fail
  go_ret
  exact ⟨rfl, HB.out⟩
set_option maxRecDepth 100000 in
set_option maxHeartbeats 2000000 in
theorem law_2 (tx ty sx sy px py qx qy rx ry : Int) (h0 : pp tx ty = true) (h1 : pp sx sy = false) (w : World) :
    Calls Try.prog 6 #[.agg #[.int .i64 tx, .int .i64 ty], .agg #[.int .i64 sx, .int .i64 sy], .agg #[.int .i64 px, .int .i64 py], .agg #[.int .i64 qx, .int .i64 qy], .agg #[.int .i64 rx, .int .i64 ry]] w fun e_ w' => e_ = .returned (.bool true) ∧ Below w.heap.size w w' := by
  have H0 := Lib.hid h0
  clear h0
  have H1 := Lib.hid h1
  clear h1
  have t0 : World.cell? (((((w.alloc (.cells #[.int .i64 tx, .int .i64 ty] 25)).alloc (.cells #[.int .i64 sx, .int .i64 sy] 25)).alloc (.cells #[.int .i64 px, .int .i64 py] 25)).alloc (.cells #[.int .i64 qx, .int .i64 qy] 25)).alloc (.cells #[.int .i64 rx, .int .i64 ry] 25)) ⟨w.heap.size, 0, none⟩ = some (.int .i64 tx) := by simp [go_sem]
  have t1 : World.cell? (((((w.alloc (.cells #[.int .i64 tx, .int .i64 ty] 25)).alloc (.cells #[.int .i64 sx, .int .i64 sy] 25)).alloc (.cells #[.int .i64 px, .int .i64 py] 25)).alloc (.cells #[.int .i64 qx, .int .i64 qy] 25)).alloc (.cells #[.int .i64 rx, .int .i64 ry] 25)) ⟨w.heap.size, 1, none⟩ = some (.int .i64 ty) := by simp [go_sem]
  have lt : w.heap.size < (((((w.alloc (.cells #[.int .i64 tx, .int .i64 ty] 25)).alloc (.cells #[.int .i64 sx, .int .i64 sy] 25)).alloc (.cells #[.int .i64 px, .int .i64 py] 25)).alloc (.cells #[.int .i64 qx, .int .i64 qy] 25)).alloc (.cells #[.int .i64 rx, .int .i64 ry] 25)).heap.size := by simp <;> omega
  have s0 : World.cell? (((((w.alloc (.cells #[.int .i64 tx, .int .i64 ty] 25)).alloc (.cells #[.int .i64 sx, .int .i64 sy] 25)).alloc (.cells #[.int .i64 px, .int .i64 py] 25)).alloc (.cells #[.int .i64 qx, .int .i64 qy] 25)).alloc (.cells #[.int .i64 rx, .int .i64 ry] 25)) ⟨w.heap.size + 1, 0, none⟩ = some (.int .i64 sx) := by simp [go_sem]
  have s1 : World.cell? (((((w.alloc (.cells #[.int .i64 tx, .int .i64 ty] 25)).alloc (.cells #[.int .i64 sx, .int .i64 sy] 25)).alloc (.cells #[.int .i64 px, .int .i64 py] 25)).alloc (.cells #[.int .i64 qx, .int .i64 qy] 25)).alloc (.cells #[.int .i64 rx, .int .i64 ry] 25)) ⟨w.heap.size + 1, 1, none⟩ = some (.int .i64 sy) := by simp [go_sem]
  have ls : w.heap.size + 1 < (((((w.alloc (.cells #[.int .i64 tx, .int .i64 ty] 25)).alloc (.cells #[.int .i64 sx, .int .i64 sy] 25)).alloc (.cells #[.int .i64 px, .int .i64 py] 25)).alloc (.cells #[.int .i64 qx, .int .i64 qy] 25)).alloc (.cells #[.int .i64 rx, .int .i64 ry] 25)).heap.size := by simp <;> omega
  have p0 : World.cell? (((((w.alloc (.cells #[.int .i64 tx, .int .i64 ty] 25)).alloc (.cells #[.int .i64 sx, .int .i64 sy] 25)).alloc (.cells #[.int .i64 px, .int .i64 py] 25)).alloc (.cells #[.int .i64 qx, .int .i64 qy] 25)).alloc (.cells #[.int .i64 rx, .int .i64 ry] 25)) ⟨w.heap.size + 1 + 1, 0, none⟩ = some (.int .i64 px) := by simp [go_sem]
  have p1 : World.cell? (((((w.alloc (.cells #[.int .i64 tx, .int .i64 ty] 25)).alloc (.cells #[.int .i64 sx, .int .i64 sy] 25)).alloc (.cells #[.int .i64 px, .int .i64 py] 25)).alloc (.cells #[.int .i64 qx, .int .i64 qy] 25)).alloc (.cells #[.int .i64 rx, .int .i64 ry] 25)) ⟨w.heap.size + 1 + 1, 1, none⟩ = some (.int .i64 py) := by simp [go_sem]
  have lp : w.heap.size + 1 + 1 < (((((w.alloc (.cells #[.int .i64 tx, .int .i64 ty] 25)).alloc (.cells #[.int .i64 sx, .int .i64 sy] 25)).alloc (.cells #[.int .i64 px, .int .i64 py] 25)).alloc (.cells #[.int .i64 qx, .int .i64 qy] 25)).alloc (.cells #[.int .i64 rx, .int .i64 ry] 25)).heap.size := by simp <;> omega
  have q0 : World.cell? (((((w.alloc (.cells #[.int .i64 tx, .int .i64 ty] 25)).alloc (.cells #[.int .i64 sx, .int .i64 sy] 25)).alloc (.cells #[.int .i64 px, .int .i64 py] 25)).alloc (.cells #[.int .i64 qx, .int .i64 qy] 25)).alloc (.cells #[.int .i64 rx, .int .i64 ry] 25)) ⟨w.heap.size + 1 + 1 + 1, 0, none⟩ = some (.int .i64 qx) := by simp [go_sem]
  have q1 : World.cell? (((((w.alloc (.cells #[.int .i64 tx, .int .i64 ty] 25)).alloc (.cells #[.int .i64 sx, .int .i64 sy] 25)).alloc (.cells #[.int .i64 px, .int .i64 py] 25)).alloc (.cells #[.int .i64 qx, .int .i64 qy] 25)).alloc (.cells #[.int .i64 rx, .int .i64 ry] 25)) ⟨w.heap.size + 1 + 1 + 1, 1, none⟩ = some (.int .i64 qy) := by simp [go_sem]
  have lq : w.heap.size + 1 + 1 + 1 < (((((w.alloc (.cells #[.int .i64 tx, .int .i64 ty] 25)).alloc (.cells #[.int .i64 sx, .int .i64 sy] 25)).alloc (.cells #[.int .i64 px, .int .i64 py] 25)).alloc (.cells #[.int .i64 qx, .int .i64 qy] 25)).alloc (.cells #[.int .i64 rx, .int .i64 ry] 25)).heap.size := by simp <;> omega
  have r0 : World.cell? (((((w.alloc (.cells #[.int .i64 tx, .int .i64 ty] 25)).alloc (.cells #[.int .i64 sx, .int .i64 sy] 25)).alloc (.cells #[.int .i64 px, .int .i64 py] 25)).alloc (.cells #[.int .i64 qx, .int .i64 qy] 25)).alloc (.cells #[.int .i64 rx, .int .i64 ry] 25)) ⟨w.heap.size + 1 + 1 + 1 + 1, 0, none⟩ = some (.int .i64 rx) := by simp [go_sem]
  have r1 : World.cell? (((((w.alloc (.cells #[.int .i64 tx, .int .i64 ty] 25)).alloc (.cells #[.int .i64 sx, .int .i64 sy] 25)).alloc (.cells #[.int .i64 px, .int .i64 py] 25)).alloc (.cells #[.int .i64 qx, .int .i64 qy] 25)).alloc (.cells #[.int .i64 rx, .int .i64 ry] 25)) ⟨w.heap.size + 1 + 1 + 1 + 1, 1, none⟩ = some (.int .i64 ry) := by simp [go_sem]
  have lr : w.heap.size + 1 + 1 + 1 + 1 < (((((w.alloc (.cells #[.int .i64 tx, .int .i64 ty] 25)).alloc (.cells #[.int .i64 sx, .int .i64 sy] 25)).alloc (.cells #[.int .i64 px, .int .i64 py] 25)).alloc (.cells #[.int .i64 qx, .int .i64 qy] 25)).alloc (.cells #[.int .i64 rx, .int .i64 ry] 25)).heap.size := by simp <;> omega
  have HB := Lib.hid (show Below w.heap.size w (((((w.alloc (.cells #[.int .i64 tx, .int .i64 ty] 25)).alloc (.cells #[.int .i64 sx, .int .i64 sy] 25)).alloc (.cells #[.int .i64 px, .int .i64 py] 25)).alloc (.cells #[.int .i64 qx, .int .i64 qy] 25)).alloc (.cells #[.int .i64 rx, .int .i64 ry] 25)) from ((((((Below.refl _ _).alloc (by simp <;> omega) _).alloc (by simp <;> omega) _).alloc (by simp <;> omega) _).alloc (by simp <;> omega) _).alloc (by simp <;> omega) _))
  go_enter Try.func6, Try.ntmps6
  go_wp2_with fail
  generalize ((((w.alloc (.cells #[.int .i64 tx, .int .i64 ty] 25)).alloc (.cells #[.int .i64 sx, .int .i64 sy] 25)).alloc (.cells #[.int .i64 px, .int .i64 py] 25)).alloc (.cells #[.int .i64 qx, .int .i64 qy] 25)).alloc (.cells #[.int .i64 rx, .int .i64 ry] 25) = w1 at *
  with_reducible refine (head_any _).mono ?_
  rintro e_ w2 ⟨rfl, hb⟩
  replace HB := Lib.hid (on_below HB.out hb)
  replace t0 := keepc hb t0
  replace t1 := keepc hb t1
  replace s0 := keepc hb s0
  replace s1 := keepc hb s1
  replace p0 := keepc hb p0
  replace p1 := keepc hb p1
  replace q0 := keepc hb q0
  replace q1 := keepc hb q1
  replace r0 := keepc hb r0
  replace r1 := keepc hb r1
  replace lt := Nat.lt_of_lt_of_le lt hb.size
  replace ls := Nat.lt_of_lt_of_le ls hb.size
  replace lp := Nat.lt_of_lt_of_le lp hb.size
  replace lq := Nat.lt_of_lt_of_le lq hb.size
  replace lr := Nat.lt_of_lt_of_le lr hb.size
  clear hb
  go_wp2_with fail
  with_reducible refine (flat_is tx ty true H0.out _).mono ?_
  rintro e_ w3 ⟨rfl, hb⟩
  replace HB := Lib.hid (on_below HB.out hb)
  replace t0 := keepc hb t0
  replace t1 := keepc hb t1
  replace s0 := keepc hb s0
  replace s1 := keepc hb s1
  replace p0 := keepc hb p0
  replace p1 := keepc hb p1
  replace q0 := keepc hb q0
  replace q1 := keepc hb q1
  replace r0 := keepc hb r0
  replace r1 := keepc hb r1
  replace lt := Nat.lt_of_lt_of_le lt hb.size
  replace ls := Nat.lt_of_lt_of_le ls hb.size
  replace lp := Nat.lt_of_lt_of_le lp hb.size
  replace lq := Nat.lt_of_lt_of_le lq hb.size
  replace lr := Nat.lt_of_lt_of_le lr hb.size
  clear hb
  go_wp2_with fail
  with_reducible refine (flat_is sx sy false H1.out _).mono ?_
  rintro e_ w4 ⟨rfl, hb⟩
  replace HB := Lib.hid (on_below HB.out hb)
  replace t0 := keepc hb t0
  replace t1 := keepc hb t1
  replace s0 := keepc hb s0
  replace s1 := keepc hb s1
  replace p0 := keepc hb p0
  replace p1 := keepc hb p1
  replace q0 := keepc hb q0
  replace q1 := keepc hb q1
  replace r0 := keepc hb r0
  replace r1 := keepc hb r1
  replace lt := Nat.lt_of_lt_of_le lt hb.size
  replace ls := Nat.lt_of_lt_of_le ls hb.size
  replace lp := Nat.lt_of_lt_of_le lp hb.size
  replace lq := Nat.lt_of_lt_of_le lq hb.size
  replace lr := Nat.lt_of_lt_of_le lr hb.size
  clear hb
  go_wp2_with fail
  go_ret
  exact ⟨rfl, HB.out⟩
set_option maxRecDepth 100000 in
set_option maxHeartbeats 2000000 in
theorem law_3 (tx ty sx sy px py qx qy rx ry : Int) (h0 : pp tx ty = true) (h1 : pp sx sy = true) (h2 : pp px py = false) (w : World) :
    Calls Try.prog 6 #[.agg #[.int .i64 tx, .int .i64 ty], .agg #[.int .i64 sx, .int .i64 sy], .agg #[.int .i64 px, .int .i64 py], .agg #[.int .i64 qx, .int .i64 qy], .agg #[.int .i64 rx, .int .i64 ry]] w fun e_ w' => e_ = .returned (.bool true) ∧ Below w.heap.size w w' := by
  have H0 := Lib.hid h0
  clear h0
  have H1 := Lib.hid h1
  clear h1
  have H2 := Lib.hid h2
  clear h2
  have t0 : World.cell? (((((w.alloc (.cells #[.int .i64 tx, .int .i64 ty] 25)).alloc (.cells #[.int .i64 sx, .int .i64 sy] 25)).alloc (.cells #[.int .i64 px, .int .i64 py] 25)).alloc (.cells #[.int .i64 qx, .int .i64 qy] 25)).alloc (.cells #[.int .i64 rx, .int .i64 ry] 25)) ⟨w.heap.size, 0, none⟩ = some (.int .i64 tx) := by simp [go_sem]
  have t1 : World.cell? (((((w.alloc (.cells #[.int .i64 tx, .int .i64 ty] 25)).alloc (.cells #[.int .i64 sx, .int .i64 sy] 25)).alloc (.cells #[.int .i64 px, .int .i64 py] 25)).alloc (.cells #[.int .i64 qx, .int .i64 qy] 25)).alloc (.cells #[.int .i64 rx, .int .i64 ry] 25)) ⟨w.heap.size, 1, none⟩ = some (.int .i64 ty) := by simp [go_sem]
  have lt : w.heap.size < (((((w.alloc (.cells #[.int .i64 tx, .int .i64 ty] 25)).alloc (.cells #[.int .i64 sx, .int .i64 sy] 25)).alloc (.cells #[.int .i64 px, .int .i64 py] 25)).alloc (.cells #[.int .i64 qx, .int .i64 qy] 25)).alloc (.cells #[.int .i64 rx, .int .i64 ry] 25)).heap.size := by simp <;> omega
  have s0 : World.cell? (((((w.alloc (.cells #[.int .i64 tx, .int .i64 ty] 25)).alloc (.cells #[.int .i64 sx, .int .i64 sy] 25)).alloc (.cells #[.int .i64 px, .int .i64 py] 25)).alloc (.cells #[.int .i64 qx, .int .i64 qy] 25)).alloc (.cells #[.int .i64 rx, .int .i64 ry] 25)) ⟨w.heap.size + 1, 0, none⟩ = some (.int .i64 sx) := by simp [go_sem]
  have s1 : World.cell? (((((w.alloc (.cells #[.int .i64 tx, .int .i64 ty] 25)).alloc (.cells #[.int .i64 sx, .int .i64 sy] 25)).alloc (.cells #[.int .i64 px, .int .i64 py] 25)).alloc (.cells #[.int .i64 qx, .int .i64 qy] 25)).alloc (.cells #[.int .i64 rx, .int .i64 ry] 25)) ⟨w.heap.size + 1, 1, none⟩ = some (.int .i64 sy) := by simp [go_sem]
  have ls : w.heap.size + 1 < (((((w.alloc (.cells #[.int .i64 tx, .int .i64 ty] 25)).alloc (.cells #[.int .i64 sx, .int .i64 sy] 25)).alloc (.cells #[.int .i64 px, .int .i64 py] 25)).alloc (.cells #[.int .i64 qx, .int .i64 qy] 25)).alloc (.cells #[.int .i64 rx, .int .i64 ry] 25)).heap.size := by simp <;> omega
  have p0 : World.cell? (((((w.alloc (.cells #[.int .i64 tx, .int .i64 ty] 25)).alloc (.cells #[.int .i64 sx, .int .i64 sy] 25)).alloc (.cells #[.int .i64 px, .int .i64 py] 25)).alloc (.cells #[.int .i64 qx, .int .i64 qy] 25)).alloc (.cells #[.int .i64 rx, .int .i64 ry] 25)) ⟨w.heap.size + 1 + 1, 0, none⟩ = some (.int .i64 px) := by simp [go_sem]
  have p1 : World.cell? (((((w.alloc (.cells #[.int .i64 tx, .int .i64 ty] 25)).alloc (.cells #[.int .i64 sx, .int .i64 sy] 25)).alloc (.cells #[.int .i64 px, .int .i64 py] 25)).alloc (.cells #[.int .i64 qx, .int .i64 qy] 25)).alloc (.cells #[.int .i64 rx, .int .i64 ry] 25)) ⟨w.heap.size + 1 + 1, 1, none⟩ = some (.int .i64 py) := by simp [go_sem]
  have lp : w.heap.size + 1 + 1 < (((((w.alloc (.cells #[.int .i64 tx, .int .i64 ty] 25)).alloc (.cells #[.int .i64 sx, .int .i64 sy] 25)).alloc (.cells #[.int .i64 px, .int .i64 py] 25)).alloc (.cells #[.int .i64 qx, .int .i64 qy] 25)).alloc (.cells #[.int .i64 rx, .int .i64 ry] 25)).heap.size := by simp <;> omega
  have q0 : World.cell? (((((w.alloc (.cells #[.int .i64 tx, .int .i64 ty] 25)).alloc (.cells #[.int .i64 sx, .int .i64 sy] 25)).alloc (.cells #[.int .i64 px, .int .i64 py] 25)).alloc (.cells #[.int .i64 qx, .int .i64 qy] 25)).alloc (.cells #[.int .i64 rx, .int .i64 ry] 25)) ⟨w.heap.size + 1 + 1 + 1, 0, none⟩ = some (.int .i64 qx) := by simp [go_sem]
  have q1 : World.cell? (((((w.alloc (.cells #[.int .i64 tx, .int .i64 ty] 25)).alloc (.cells #[.int .i64 sx, .int .i64 sy] 25)).alloc (.cells #[.int .i64 px, .int .i64 py] 25)).alloc (.cells #[.int .i64 qx, .int .i64 qy] 25)).alloc (.cells #[.int .i64 rx, .int .i64 ry] 25)) ⟨w.heap.size + 1 + 1 + 1, 1, none⟩ = some (.int .i64 qy) := by simp [go_sem]
  have lq : w.heap.size + 1 + 1 + 1 < (((((w.alloc (.cells #[.int .i64 tx, .int .i64 ty] 25)).alloc (.cells #[.int .i64 sx, .int .i64 sy] 25)).alloc (.cells #[.int .i64 px, .int .i64 py] 25)).alloc (.cells #[.int .i64 qx, .int .i64 qy] 25)).alloc (.cells #[.int .i64 rx, .int .i64 ry] 25)).heap.size := by simp <;> omega
  have r0 : World.cell? (((((w.alloc (.cells #[.int .i64 tx, .int .i64 ty] 25)).alloc (.cells #[.int .i64 sx, .int .i64 sy] 25)).alloc (.cells #[.int .i64 px, .int .i64 py] 25)).alloc (.cells #[.int .i64 qx, .int .i64 qy] 25)).alloc (.cells #[.int .i64 rx, .int .i64 ry] 25)) ⟨w.heap.size + 1 + 1 + 1 + 1, 0, none⟩ = some (.int .i64 rx) := by simp [go_sem]
  have r1 : World.cell? (((((w.alloc (.cells #[.int .i64 tx, .int .i64 ty] 25)).alloc (.cells #[.int .i64 sx, .int .i64 sy] 25)).alloc (.cells #[.int .i64 px, .int .i64 py] 25)).alloc (.cells #[.int .i64 qx, .int .i64 qy] 25)).alloc (.cells #[.int .i64 rx, .int .i64 ry] 25)) ⟨w.heap.size + 1 + 1 + 1 + 1, 1, none⟩ = some (.int .i64 ry) := by simp [go_sem]
  have lr : w.heap.size + 1 + 1 + 1 + 1 < (((((w.alloc (.cells #[.int .i64 tx, .int .i64 ty] 25)).alloc (.cells #[.int .i64 sx, .int .i64 sy] 25)).alloc (.cells #[.int .i64 px, .int .i64 py] 25)).alloc (.cells #[.int .i64 qx, .int .i64 qy] 25)).alloc (.cells #[.int .i64 rx, .int .i64 ry] 25)).heap.size := by simp <;> omega
  have HB := Lib.hid (show Below w.heap.size w (((((w.alloc (.cells #[.int .i64 tx, .int .i64 ty] 25)).alloc (.cells #[.int .i64 sx, .int .i64 sy] 25)).alloc (.cells #[.int .i64 px, .int .i64 py] 25)).alloc (.cells #[.int .i64 qx, .int .i64 qy] 25)).alloc (.cells #[.int .i64 rx, .int .i64 ry] 25)) from ((((((Below.refl _ _).alloc (by simp <;> omega) _).alloc (by simp <;> omega) _).alloc (by simp <;> omega) _).alloc (by simp <;> omega) _).alloc (by simp <;> omega) _))
  go_enter Try.func6, Try.ntmps6
  go_wp2_with fail
  generalize ((((w.alloc (.cells #[.int .i64 tx, .int .i64 ty] 25)).alloc (.cells #[.int .i64 sx, .int .i64 sy] 25)).alloc (.cells #[.int .i64 px, .int .i64 py] 25)).alloc (.cells #[.int .i64 qx, .int .i64 qy] 25)).alloc (.cells #[.int .i64 rx, .int .i64 ry] 25) = w1 at *
  with_reducible refine (head_any _).mono ?_
  rintro e_ w2 ⟨rfl, hb⟩
  replace HB := Lib.hid (on_below HB.out hb)
  replace t0 := keepc hb t0
  replace t1 := keepc hb t1
  replace s0 := keepc hb s0
  replace s1 := keepc hb s1
  replace p0 := keepc hb p0
  replace p1 := keepc hb p1
  replace q0 := keepc hb q0
  replace q1 := keepc hb q1
  replace r0 := keepc hb r0
  replace r1 := keepc hb r1
  replace lt := Nat.lt_of_lt_of_le lt hb.size
  replace ls := Nat.lt_of_lt_of_le ls hb.size
  replace lp := Nat.lt_of_lt_of_le lp hb.size
  replace lq := Nat.lt_of_lt_of_le lq hb.size
  replace lr := Nat.lt_of_lt_of_le lr hb.size
  clear hb
  go_wp2_with fail
  with_reducible refine (flat_is tx ty true H0.out _).mono ?_
  rintro e_ w3 ⟨rfl, hb⟩
  replace HB := Lib.hid (on_below HB.out hb)
  replace t0 := keepc hb t0
  replace t1 := keepc hb t1
  replace s0 := keepc hb s0
  replace s1 := keepc hb s1
  replace p0 := keepc hb p0
  replace p1 := keepc hb p1
  replace q0 := keepc hb q0
  replace q1 := keepc hb q1
  replace r0 := keepc hb r0
  replace r1 := keepc hb r1
  replace lt := Nat.lt_of_lt_of_le lt hb.size
  replace ls := Nat.lt_of_lt_of_le ls hb.size
  replace lp := Nat.lt_of_lt_of_le lp hb.size
  replace lq := Nat.lt_of_lt_of_le lq hb.size
  replace lr := Nat.lt_of_lt_of_le lr hb.size
  clear hb
  go_wp2_with fail
  with_reducible refine (flat_is sx sy true H1.out _).mono ?_
  rintro e_ w4 ⟨rfl, hb⟩
  replace HB := Lib.hid (on_below HB.out hb)
  replace t0 := keepc hb t0
  replace t1 := keepc hb t1
  replace s0 := keepc hb s0
  replace s1 := keepc hb s1
  replace p0 := keepc hb p0
  replace p1 := keepc hb p1
  replace q0 := keepc hb q0
  replace q1 := keepc hb q1
  replace r0 := keepc hb r0
  replace r1 := keepc hb r1
  replace lt := Nat.lt_of_lt_of_le lt hb.size
  replace ls := Nat.lt_of_lt_of_le ls hb.size
  replace lp := Nat.lt_of_lt_of_le lp hb.size
  replace lq := Nat.lt_of_lt_of_le lq hb.size
  replace lr := Nat.lt_of_lt_of_le lr hb.size
  clear hb
  go_wp2_with fail
  with_reducible refine (flat_is px py false H2.out _).mono ?_
  rintro e_ w5 ⟨rfl, hb⟩
  replace HB := Lib.hid (on_below HB.out hb)
  replace t0 := keepc hb t0
  replace t1 := keepc hb t1
  replace s0 := keepc hb s0
  replace s1 := keepc hb s1
  replace p0 := keepc hb p0
  replace p1 := keepc hb p1
  replace q0 := keepc hb q0
  replace q1 := keepc hb q1
  replace r0 := keepc hb r0
  replace r1 := keepc hb r1
  replace lt := Nat.lt_of_lt_of_le lt hb.size
  replace ls := Nat.lt_of_lt_of_le ls hb.size
  replace lp := Nat.lt_of_lt_of_le lp hb.size
  replace lq := Nat.lt_of_lt_of_le lq hb.size
  replace lr := Nat.lt_of_lt_of_le lr hb.size
  clear hb
  go_wp2_with fail
  go_ret
  exact ⟨rfl, HB.out⟩
set_option maxRecDepth 100000 in
set_option maxHeartbeats 2000000 in
theorem law_4 (tx ty sx sy px py qx qy rx ry : Int) (h0 : pp tx ty = true) (h1 : pp sx sy = true) (h2 : pp px py = true) (h3 : pp qx qy = false) (w : World) :
    Calls Try.prog 6 #[.agg #[.int .i64 tx, .int .i64 ty], .agg #[.int .i64 sx, .int .i64 sy], .agg #[.int .i64 px, .int .i64 py], .agg #[.int .i64 qx, .int .i64 qy], .agg #[.int .i64 rx, .int .i64 ry]] w fun e_ w' => e_ = .returned (.bool true) ∧ Below w.heap.size w w' := by
  have H0 := Lib.hid h0
  clear h0
  have H1 := Lib.hid h1
  clear h1
  have H2 := Lib.hid h2
  clear h2
  have H3 := Lib.hid h3
  clear h3
  have t0 : World.cell? (((((w.alloc (.cells #[.int .i64 tx, .int .i64 ty] 25)).alloc (.cells #[.int .i64 sx, .int .i64 sy] 25)).alloc (.cells #[.int .i64 px, .int .i64 py] 25)).alloc (.cells #[.int .i64 qx, .int .i64 qy] 25)).alloc (.cells #[.int .i64 rx, .int .i64 ry] 25)) ⟨w.heap.size, 0, none⟩ = some (.int .i64 tx) := by simp [go_sem]
  have t1 : World.cell? (((((w.alloc (.cells #[.int .i64 tx, .int .i64 ty] 25)).alloc (.cells #[.int .i64 sx, .int .i64 sy] 25)).alloc (.cells #[.int .i64 px, .int .i64 py] 25)).alloc (.cells #[.int .i64 qx, .int .i64 qy] 25)).alloc (.cells #[.int .i64 rx, .int .i64 ry] 25)) ⟨w.heap.size, 1, none⟩ = some (.int .i64 ty) := by simp [go_sem]
  have lt : w.heap.size < (((((w.alloc (.cells #[.int .i64 tx, .int .i64 ty] 25)).alloc (.cells #[.int .i64 sx, .int .i64 sy] 25)).alloc (.cells #[.int .i64 px, .int .i64 py] 25)).alloc (.cells #[.int .i64 qx, .int .i64 qy] 25)).alloc (.cells #[.int .i64 rx, .int .i64 ry] 25)).heap.size := by simp <;> omega
  have s0 : World.cell? (((((w.alloc (.cells #[.int .i64 tx, .int .i64 ty] 25)).alloc (.cells #[.int .i64 sx, .int .i64 sy] 25)).alloc (.cells #[.int .i64 px, .int .i64 py] 25)).alloc (.cells #[.int .i64 qx, .int .i64 qy] 25)).alloc (.cells #[.int .i64 rx, .int .i64 ry] 25)) ⟨w.heap.size + 1, 0, none⟩ = some (.int .i64 sx) := by simp [go_sem]
  have s1 : World.cell? (((((w.alloc (.cells #[.int .i64 tx, .int .i64 ty] 25)).alloc (.cells #[.int .i64 sx, .int .i64 sy] 25)).alloc (.cells #[.int .i64 px, .int .i64 py] 25)).alloc (.cells #[.int .i64 qx, .int .i64 qy] 25)).alloc (.cells #[.int .i64 rx, .int .i64 ry] 25)) ⟨w.heap.size + 1, 1, none⟩ = some (.int .i64 sy) := by simp [go_sem]
  have ls : w.heap.size + 1 < (((((w.alloc (.cells #[.int .i64 tx, .int .i64 ty] 25)).alloc (.cells #[.int .i64 sx, .int .i64 sy] 25)).alloc (.cells #[.int .i64 px, .int .i64 py] 25)).alloc (.cells #[.int .i64 qx, .int .i64 qy] 25)).alloc (.cells #[.int .i64 rx, .int .i64 ry] 25)).heap.size := by simp <;> omega
  have p0 : World.cell? (((((w.alloc (.cells #[.int .i64 tx, .int .i64 ty] 25)).alloc (.cells #[.int .i64 sx, .int .i64 sy] 25)).alloc (.cells #[.int .i64 px, .int .i64 py] 25)).alloc (.cells #[.int .i64 qx, .int .i64 qy] 25)).alloc (.cells #[.int .i64 rx, .int .i64 ry] 25)) ⟨w.heap.size + 1 + 1, 0, none⟩ = some (.int .i64 px) := by simp [go_sem]
  have p1 : World.cell? (((((w.alloc (.cells #[.int .i64 tx, .int .i64 ty] 25)).alloc (.cells #[.int .i64 sx, .int .i64 sy] 25)).alloc (.cells #[.int .i64 px, .int .i64 py] 25)).alloc (.cells #[.int .i64 qx, .int .i64 qy] 25)).alloc (.cells #[.int .i64 rx, .int .i64 ry] 25)) ⟨w.heap.size + 1 + 1, 1, none⟩ = some (.int .i64 py) := by simp [go_sem]
  have lp : w.heap.size + 1 + 1 < (((((w.alloc (.cells #[.int .i64 tx, .int .i64 ty] 25)).alloc (.cells #[.int .i64 sx, .int .i64 sy] 25)).alloc (.cells #[.int .i64 px, .int .i64 py] 25)).alloc (.cells #[.int .i64 qx, .int .i64 qy] 25)).alloc (.cells #[.int .i64 rx, .int .i64 ry] 25)).heap.size := by simp <;> omega
  have q0 : World.cell? (((((w.alloc (.cells #[.int .i64 tx, .int .i64 ty] 25)).alloc (.cells #[.int .i64 sx, .int .i64 sy] 25)).alloc (.cells #[.int .i64 px, .int .i64 py] 25)).alloc (.cells #[.int .i64 qx, .int .i64 qy] 25)).alloc (.cells #[.int .i64 rx, .int .i64 ry] 25)) ⟨w.heap.size + 1 + 1 + 1, 0, none⟩ = some (.int .i64 qx) := by simp [go_sem]
  have q1 : World.cell? (((((w.alloc (.cells #[.int .i64 tx, .int .i64 ty] 25)).alloc (.cells #[.int .i64 sx, .int .i64 sy] 25)).alloc (.cells #[.int .i64 px, .int .i64 py] 25)).alloc (.cells #[.int .i64 qx, .int .i64 qy] 25)).alloc (.cells #[.int .i64 rx, .int .i64 ry] 25)) ⟨w.heap.size + 1 + 1 + 1, 1, none⟩ = some (.int .i64 qy) := by simp [go_sem]
  have lq : w.heap.size + 1 + 1 + 1 < (((((w.alloc (.cells #[.int .i64 tx, .int .i64 ty] 25)).alloc (.cells #[.int .i64 sx, .int .i64 sy] 25)).alloc (.cells #[.int .i64 px, .int .i64 py] 25)).alloc (.cells #[.int .i64 qx, .int .i64 qy] 25)).alloc (.cells #[.int .i64 rx, .int .i64 ry] 25)).heap.size := by simp <;> omega
  have r0 : World.cell? (((((w.alloc (.cells #[.int .i64 tx, .int .i64 ty] 25)).alloc (.cells #[.int .i64 sx, .int .i64 sy] 25)).alloc (.cells #[.int .i64 px, .int .i64 py] 25)).alloc (.cells #[.int .i64 qx, .int .i64 qy] 25)).alloc (.cells #[.int .i64 rx, .int .i64 ry] 25)) ⟨w.heap.size + 1 + 1 + 1 + 1, 0, none⟩ = some (.int .i64 rx) := by simp [go_sem]
  have r1 : World.cell? (((((w.alloc (.cells #[.int .i64 tx, .int .i64 ty] 25)).alloc (.cells #[.int .i64 sx, .int .i64 sy] 25)).alloc (.cells #[.int .i64 px, .int .i64 py] 25)).alloc (.cells #[.int .i64 qx, .int .i64 qy] 25)).alloc (.cells #[.int .i64 rx, .int .i64 ry] 25)) ⟨w.heap.size + 1 + 1 + 1 + 1, 1, none⟩ = some (.int .i64 ry) := by simp [go_sem]
  have lr : w.heap.size + 1 + 1 + 1 + 1 < (((((w.alloc (.cells #[.int .i64 tx, .int .i64 ty] 25)).alloc (.cells #[.int .i64 sx, .int .i64 sy] 25)).alloc (.cells #[.int .i64 px, .int .i64 py] 25)).alloc (.cells #[.int .i64 qx, .int .i64 qy] 25)).alloc (.cells #[.int .i64 rx, .int .i64 ry] 25)).heap.size := by simp <;> omega
  have HB := Lib.hid (show Below w.heap.size w (((((w.alloc (.cells #[.int .i64 tx, .int .i64 ty] 25)).alloc (.cells #[.int .i64 sx, .int .i64 sy] 25)).alloc (.cells #[.int .i64 px, .int .i64 py] 25)).alloc (.cells #[.int .i64 qx, .int .i64 qy] 25)).alloc (.cells #[.int .i64 rx, .int .i64 ry] 25)) from ((((((Below.refl _ _).alloc (by simp <;> omega) _).alloc (by simp <;> omega) _).alloc (by simp <;> omega) _).alloc (by simp <;> omega) _).alloc (by simp <;> omega) _))
  go_enter Try.func6, Try.ntmps6
  go_wp2_with fail
  generalize ((((w.alloc (.cells #[.int .i64 tx, .int .i64 ty] 25)).alloc (.cells #[.int .i64 sx, .int .i64 sy] 25)).alloc (.cells #[.int .i64 px, .int .i64 py] 25)).alloc (.cells #[.int .i64 qx, .int .i64 qy] 25)).alloc (.cells #[.int .i64 rx, .int .i64 ry] 25) = w1 at *
  with_reducible refine (head_any _).mono ?_
  rintro e_ w2 ⟨rfl, hb⟩
  replace HB := Lib.hid (on_below HB.out hb)
  replace t0 := keepc hb t0
  replace t1 := keepc hb t1
  replace s0 := keepc hb s0
  replace s1 := keepc hb s1
  replace p0 := keepc hb p0
  replace p1 := keepc hb p1
  replace q0 := keepc hb q0
  replace q1 := keepc hb q1
  replace r0 := keepc hb r0
  replace r1 := keepc hb r1
  replace lt := Nat.lt_of_lt_of_le lt hb.size
  replace ls := Nat.lt_of_lt_of_le ls hb.size
  replace lp := Nat.lt_of_lt_of_le lp hb.size
  replace lq := Nat.lt_of_lt_of_le lq hb.size
  replace lr := Nat.lt_of_lt_of_le lr hb.size
  clear hb
  go_wp2_with fail
  with_reducible refine (flat_is tx ty true H0.out _).mono ?_
  rintro e_ w3 ⟨rfl, hb⟩
  replace HB := Lib.hid (on_below HB.out hb)
  replace t0 := keepc hb t0
  replace t1 := keepc hb t1
  replace s0 := keepc hb s0
  replace s1 := keepc hb s1
  replace p0 := keepc hb p0
  replace p1 := keepc hb p1
  replace q0 := keepc hb q0
  replace q1 := keepc hb q1
  replace r0 := keepc hb r0
  replace r1 := keepc hb r1
  replace lt := Nat.lt_of_lt_of_le lt hb.size
  replace ls := Nat.lt_of_lt_of_le ls hb.size
  replace lp := Nat.lt_of_lt_of_le lp hb.size
  replace lq := Nat.lt_of_lt_of_le lq hb.size
  replace lr := Nat.lt_of_lt_of_le lr hb.size
  clear hb
  go_wp2_with fail
  with_reducible refine (flat_is sx sy true H1.out _).mono ?_
  rintro e_ w4 ⟨rfl, hb⟩
  replace HB := Lib.hid (on_below HB.out hb)
  replace t0 := keepc hb t0
  replace t1 := keepc hb t1
  replace s0 := keepc hb s0
  replace s1 := keepc hb s1
  replace p0 := keepc hb p0
  replace p1 := keepc hb p1
  replace q0 := keepc hb q0
  replace q1 := keepc hb q1
  replace r0 := keepc hb r0
  replace r1 := keepc hb r1
  replace lt := Nat.lt_of_lt_of_le lt hb.size
  replace ls := Nat.lt_of_lt_of_le ls hb.size
  replace lp := Nat.lt_of_lt_of_le lp hb.size
  replace lq := Nat.lt_of_lt_of_le lq hb.size
  replace lr := Nat.lt_of_lt_of_le lr hb.size
  clear hb
  go_wp2_with fail
  with_reducible refine (flat_is px py true H2.out _).mono ?_
  rintro e_ w5 ⟨rfl, hb⟩
  replace HB := Lib.hid (on_below HB.out hb)
  replace t0 := keepc hb t0
  replace t1 := keepc hb t1
  replace s0 := keepc hb s0
  replace s1 := keepc hb s1
  replace p0 := keepc hb p0
  replace p1 := keepc hb p1
  replace q0 := keepc hb q0
  replace q1 := keepc hb q1
  replace r0 := keepc hb r0
  replace r1 := keepc hb r1
  replace lt := Nat.lt_of_lt_of_le lt hb.size
  replace ls := Nat.lt_of_lt_of_le ls hb.size
  replace lp := Nat.lt_of_lt_of_le lp hb.size
  replace lq := Nat.lt_of_lt_of_le lq hb.size
  replace lr := Nat.lt_of_lt_of_le lr hb.size
  clear hb
  go_wp2_with fail
  with_reducible refine (flat_is qx qy false H3.out _).mono ?_
  rintro e_ w6 ⟨rfl, hb⟩
  replace HB := Lib.hid (on_below HB.out hb)
  replace t0 := keepc hb t0
  replace t1 := keepc hb t1
  replace s0 := keepc hb s0
  replace s1 := keepc hb s1
  replace p0 := keepc hb p0
  replace p1 := keepc hb p1
  replace q0 := keepc hb q0
  replace q1 := keepc hb q1
  replace r0 := keepc hb r0
  replace r1 := keepc hb r1
  replace lt := Nat.lt_of_lt_of_le lt hb.size
  replace ls := Nat.lt_of_lt_of_le ls hb.size
  replace lp := Nat.lt_of_lt_of_le lp hb.size
  replace lq := Nat.lt_of_lt_of_le lq hb.size
  replace lr := Nat.lt_of_lt_of_le lr hb.size
  clear hb
  go_wp2_with fail
  go_ret
  exact ⟨rfl, HB.out⟩
set_option maxRecDepth 100000 in
set_option maxHeartbeats 2000000 in
theorem law_5 (tx ty sx sy px py qx qy rx ry : Int) (h0 : pp tx ty = true) (h1 : pp sx sy = true) (h2 : pp px py = true) (h3 : pp qx qy = true) (h4 : pp rx ry = false) (w : World) :
    Calls Try.prog 6 #[.agg #[.int .i64 tx, .int .i64 ty], .agg #[.int .i64 sx, .int .i64 sy], .agg #[.int .i64 px, .int .i64 py], .agg #[.int .i64 qx, .int .i64 qy], .agg #[.int .i64 rx, .int .i64 ry]] w fun e_ w' => e_ = .returned (.bool true) ∧ Below w.heap.size w w' := by
  have H0 := Lib.hid h0
  clear h0
  have H1 := Lib.hid h1
  clear h1
  have H2 := Lib.hid h2
  clear h2
  have H3 := Lib.hid h3
  clear h3
  have H4 := Lib.hid h4
  clear h4
  have t0 : World.cell? (((((w.alloc (.cells #[.int .i64 tx, .int .i64 ty] 25)).alloc (.cells #[.int .i64 sx, .int .i64 sy] 25)).alloc (.cells #[.int .i64 px, .int .i64 py] 25)).alloc (.cells #[.int .i64 qx, .int .i64 qy] 25)).alloc (.cells #[.int .i64 rx, .int .i64 ry] 25)) ⟨w.heap.size, 0, none⟩ = some (.int .i64 tx) := by simp [go_sem]
  have t1 : World.cell? (((((w.alloc (.cells #[.int .i64 tx, .int .i64 ty] 25)).alloc (.cells #[.int .i64 sx, .int .i64 sy] 25)).alloc (.cells #[.int .i64 px, .int .i64 py] 25)).alloc (.cells #[.int .i64 qx, .int .i64 qy] 25)).alloc (.cells #[.int .i64 rx, .int .i64 ry] 25)) ⟨w.heap.size, 1, none⟩ = some (.int .i64 ty) := by simp [go_sem]
  have lt : w.heap.size < (((((w.alloc (.cells #[.int .i64 tx, .int .i64 ty] 25)).alloc (.cells #[.int .i64 sx, .int .i64 sy] 25)).alloc (.cells #[.int .i64 px, .int .i64 py] 25)).alloc (.cells #[.int .i64 qx, .int .i64 qy] 25)).alloc (.cells #[.int .i64 rx, .int .i64 ry] 25)).heap.size := by simp <;> omega
  have s0 : World.cell? (((((w.alloc (.cells #[.int .i64 tx, .int .i64 ty] 25)).alloc (.cells #[.int .i64 sx, .int .i64 sy] 25)).alloc (.cells #[.int .i64 px, .int .i64 py] 25)).alloc (.cells #[.int .i64 qx, .int .i64 qy] 25)).alloc (.cells #[.int .i64 rx, .int .i64 ry] 25)) ⟨w.heap.size + 1, 0, none⟩ = some (.int .i64 sx) := by simp [go_sem]
  have s1 : World.cell? (((((w.alloc (.cells #[.int .i64 tx, .int .i64 ty] 25)).alloc (.cells #[.int .i64 sx, .int .i64 sy] 25)).alloc (.cells #[.int .i64 px, .int .i64 py] 25)).alloc (.cells #[.int .i64 qx, .int .i64 qy] 25)).alloc (.cells #[.int .i64 rx, .int .i64 ry] 25)) ⟨w.heap.size + 1, 1, none⟩ = some (.int .i64 sy) := by simp [go_sem]
  have ls : w.heap.size + 1 < (((((w.alloc (.cells #[.int .i64 tx, .int .i64 ty] 25)).alloc (.cells #[.int .i64 sx, .int .i64 sy] 25)).alloc (.cells #[.int .i64 px, .int .i64 py] 25)).alloc (.cells #[.int .i64 qx, .int .i64 qy] 25)).alloc (.cells #[.int .i64 rx, .int .i64 ry] 25)).heap.size := by simp <;> omega
  have p0 : World.cell? (((((w.alloc (.cells #[.int .i64 tx, .int .i64 ty] 25)).alloc (.cells #[.int .i64 sx, .int .i64 sy] 25)).alloc (.cells #[.int .i64 px, .int .i64 py] 25)).alloc (.cells #[.int .i64 qx, .int .i64 qy] 25)).alloc (.cells #[.int .i64 rx, .int .i64 ry] 25)) ⟨w.heap.size + 1 + 1, 0, none⟩ = some (.int .i64 px) := by simp [go_sem]
  have p1 : World.cell? (((((w.alloc (.cells #[.int .i64 tx, .int .i64 ty] 25)).alloc (.cells #[.int .i64 sx, .int .i64 sy] 25)).alloc (.cells #[.int .i64 px, .int .i64 py] 25)).alloc (.cells #[.int .i64 qx, .int .i64 qy] 25)).alloc (.cells #[.int .i64 rx, .int .i64 ry] 25)) ⟨w.heap.size + 1 + 1, 1, none⟩ = some (.int .i64 py) := by simp [go_sem]
  have lp : w.heap.size + 1 + 1 < (((((w.alloc (.cells #[.int .i64 tx, .int .i64 ty] 25)).alloc (.cells #[.int .i64 sx, .int .i64 sy] 25)).alloc (.cells #[.int .i64 px, .int .i64 py] 25)).alloc (.cells #[.int .i64 qx, .int .i64 qy] 25)).alloc (.cells #[.int .i64 rx, .int .i64 ry] 25)).heap.size := by simp <;> omega
  have q0 : World.cell? (((((w.alloc (.cells #[.int .i64 tx, .int .i64 ty] 25)).alloc (.cells #[.int .i64 sx, .int .i64 sy] 25)).alloc (.cells #[.int .i64 px, .int .i64 py] 25)).alloc (.cells #[.int .i64 qx, .int .i64 qy] 25)).alloc (.cells #[.int .i64 rx, .int .i64 ry] 25)) ⟨w.heap.size + 1 + 1 + 1, 0, none⟩ = some (.int .i64 qx) := by simp [go_sem]
  have q1 : World.cell? (((((w.alloc (.cells #[.int .i64 tx, .int .i64 ty] 25)).alloc (.cells #[.int .i64 sx, .int .i64 sy] 25)).alloc (.cells #[.int .i64 px, .int .i64 py] 25)).alloc (.cells #[.int .i64 qx, .int .i64 qy] 25)).alloc (.cells #[.int .i64 rx, .int .i64 ry] 25)) ⟨w.heap.size + 1 + 1 + 1, 1, none⟩ = some (.int .i64 qy) := by simp [go_sem]
  have lq : w.heap.size + 1 + 1 + 1 < (((((w.alloc (.cells #[.int .i64 tx, .int .i64 ty] 25)).alloc (.cells #[.int .i64 sx, .int .i64 sy] 25)).alloc (.cells #[.int .i64 px, .int .i64 py] 25)).alloc (.cells #[.int .i64 qx, .int .i64 qy] 25)).alloc (.cells #[.int .i64 rx, .int .i64 ry] 25)).heap.size := by simp <;> omega
  have r0 : World.cell? (((((w.alloc (.cells #[.int .i64 tx, .int .i64 ty] 25)).alloc (.cells #[.int .i64 sx, .int .i64 sy] 25)).alloc (.cells #[.int .i64 px, .int .i64 py] 25)).alloc (.cells #[.int .i64 qx, .int .i64 qy] 25)).alloc (.cells #[.int .i64 rx, .int .i64 ry] 25)) ⟨w.heap.size + 1 + 1 + 1 + 1, 0, none⟩ = some (.int .i64 rx) := by simp [go_sem]
  have r1 : World.cell? (((((w.alloc (.cells #[.int .i64 tx, .int .i64 ty] 25)).alloc (.cells #[.int .i64 sx, .int .i64 sy] 25)).alloc (.cells #[.int .i64 px, .int .i64 py] 25)).alloc (.cells #[.int .i64 qx, .int .i64 qy] 25)).alloc (.cells #[.int .i64 rx, .int .i64 ry] 25)) ⟨w.heap.size + 1 + 1 + 1 + 1, 1, none⟩ = some (.int .i64 ry) := by simp [go_sem]
  have lr : w.heap.size + 1 + 1 + 1 + 1 < (((((w.alloc (.cells #[.int .i64 tx, .int .i64 ty] 25)).alloc (.cells #[.int .i64 sx, .int .i64 sy] 25)).alloc (.cells #[.int .i64 px, .int .i64 py] 25)).alloc (.cells #[.int .i64 qx, .int .i64 qy] 25)).alloc (.cells #[.int .i64 rx, .int .i64 ry] 25)).heap.size := by simp <;> omega
  have HB := Lib.hid (show Below w.heap.size w (((((w.alloc (.cells #[.int .i64 tx, .int .i64 ty] 25)).alloc (.cells #[.int .i64 sx, .int .i64 sy] 25)).alloc (.cells #[.int .i64 px, .int .i64 py] 25)).alloc (.cells #[.int .i64 qx, .int .i64 qy] 25)).alloc (.cells #[.int .i64 rx, .int .i64 ry] 25)) from ((((((Below.refl _ _).alloc (by simp <;> omega) _).alloc (by simp <;> omega) _).alloc (by simp <;> omega) _).alloc (by simp <;> omega) _).alloc (by simp <;> omega) _))
  go_enter Try.func6, Try.ntmps6
  go_wp2_with fail
  generalize ((((w.alloc (.cells #[.int .i64 tx, .int .i64 ty] 25)).alloc (.cells #[.int .i64 sx, .int .i64 sy] 25)).alloc (.cells #[.int .i64 px, .int .i64 py] 25)).alloc (.cells #[.int .i64 qx, .int .i64 qy] 25)).alloc (.cells #[.int .i64 rx, .int .i64 ry] 25) = w1 at *
  with_reducible refine (head_any _).mono ?_
  rintro e_ w2 ⟨rfl, hb⟩
  replace HB := Lib.hid (on_below HB.out hb)
  replace t0 := keepc hb t0
  replace t1 := keepc hb t1
  replace s0 := keepc hb s0
  replace s1 := keepc hb s1
  replace p0 := keepc hb p0
  replace p1 := keepc hb p1
  replace q0 := keepc hb q0
  replace q1 := keepc hb q1
  replace r0 := keepc hb r0
  replace r1 := keepc hb r1
  replace lt := Nat.lt_of_lt_of_le lt hb.size
  replace ls := Nat.lt_of_lt_of_le ls hb.size
  replace lp := Nat.lt_of_lt_of_le lp hb.size
  replace lq := Nat.lt_of_lt_of_le lq hb.size
  replace lr := Nat.lt_of_lt_of_le lr hb.size
  clear hb
  go_wp2_with fail
  with_reducible refine (flat_is tx ty true H0.out _).mono ?_
  rintro e_ w3 ⟨rfl, hb⟩
  replace HB := Lib.hid (on_below HB.out hb)
  replace t0 := keepc hb t0
  replace t1 := keepc hb t1
  replace s0 := keepc hb s0
  replace s1 := keepc hb s1
  replace p0 := keepc hb p0
  replace p1 := keepc hb p1
  replace q0 := keepc hb q0
  replace q1 := keepc hb q1
  replace r0 := keepc hb r0
  replace r1 := keepc hb r1
  replace lt := Nat.lt_of_lt_of_le lt hb.size
  replace ls := Nat.lt_of_lt_of_le ls hb.size
  replace lp := Nat.lt_of_lt_of_le lp hb.size
  replace lq := Nat.lt_of_lt_of_le lq hb.size
  replace lr := Nat.lt_of_lt_of_le lr hb.size
  clear hb
  go_wp2_with fail
  with_reducible refine (flat_is sx sy true H1.out _).mono ?_
  rintro e_ w4 ⟨rfl, hb⟩
  replace HB := Lib.hid (on_below HB.out hb)
  replace t0 := keepc hb t0
  replace t1 := keepc hb t1
  replace s0 := keepc hb s0
  replace s1 := keepc hb s1
  replace p0 := keepc hb p0
  replace p1 := keepc hb p1
  replace q0 := keepc hb q0
  replace q1 := keepc hb q1
  replace r0 := keepc hb r0
  replace r1 := keepc hb r1
  replace lt := Nat.lt_of_lt_of_le lt hb.size
  replace ls := Nat.lt_of_lt_of_le ls hb.size
  replace lp := Nat.lt_of_lt_of_le lp hb.size
  replace lq := Nat.lt_of_lt_of_le lq hb.size
  replace lr := Nat.lt_of_lt_of_le lr hb.size
  clear hb
  go_wp2_with fail
  with_reducible refine (flat_is px py true H2.out _).mono ?_
  rintro e_ w5 ⟨rfl, hb⟩
  replace HB := Lib.hid (on_below HB.out hb)
  replace t0 := keepc hb t0
  replace t1 := keepc hb t1
  replace s0 := keepc hb s0
  replace s1 := keepc hb s1
  replace p0 := keepc hb p0
  replace p1 := keepc hb p1
  replace q0 := keepc hb q0
  replace q1 := keepc hb q1
  replace r0 := keepc hb r0
  replace r1 := keepc hb r1
  replace lt := Nat.lt_of_lt_of_le lt hb.size
  replace ls := Nat.lt_of_lt_of_le ls hb.size
  replace lp := Nat.lt_of_lt_of_le lp hb.size
  replace lq := Nat.lt_of_lt_of_le lq hb.size
  replace lr := Nat.lt_of_lt_of_le lr hb.size
  clear hb
  go_wp2_with fail
  with_reducible refine (flat_is qx qy true H3.out _).mono ?_
  rintro e_ w6 ⟨rfl, hb⟩
  replace HB := Lib.hid (on_below HB.out hb)
  replace t0 := keepc hb t0
  replace t1 := keepc hb t1
  replace s0 := keepc hb s0
  replace s1 := keepc hb s1
  replace p0 := keepc hb p0
  replace p1 := keepc hb p1
  replace q0 := keepc hb q0
  replace q1 := keepc hb q1
  replace r0 := keepc hb r0
  replace r1 := keepc hb r1
  replace lt := Nat.lt_of_lt_of_le lt hb.size
  replace ls := Nat.lt_of_lt_of_le ls hb.size
  replace lp := Nat.lt_of_lt_of_le lp hb.size
  replace lq := Nat.lt_of_lt_of_le lq hb.size
  replace lr := Nat.lt_of_lt_of_le lr hb.size
  clear hb
  go_wp2_with fail
  with_reducible refine (flat_is rx ry false H4.out _).mono ?_
  rintro e_ w7 ⟨rfl, hb⟩
  replace HB := Lib.hid (on_below HB.out hb)
  replace t0 := keepc hb t0
  replace t1 := keepc hb t1
  replace s0 := keepc hb s0
  replace s1 := keepc hb s1
  replace p0 := keepc hb p0
  replace p1 := keepc hb p1
  replace q0 := keepc hb q0
  replace q1 := keepc hb q1
  replace r0 := keepc hb r0
  replace r1 := keepc hb r1
  replace lt := Nat.lt_of_lt_of_le lt hb.size
  replace ls := Nat.lt_of_lt_of_le ls hb.size
  replace lp := Nat.lt_of_lt_of_le lp hb.size
  replace lq := Nat.lt_of_lt_of_le lq hb.size
  replace lr := Nat.lt_of_lt_of_le lr hb.size
  clear hb
  go_wp2_with fail
  go_ret
  exact ⟨rfl, HB.out⟩
set_option maxRecDepth 100000 in
set_option maxHeartbeats 4000000 in
theorem law_6 (tx ty sx sy px py qx qy rx ry : Int) (h0 : pp tx ty = true) (h1 : pp sx sy = true) (h2 : pp px py = true) (h3 : pp qx qy = true) (h4 : pp rx ry = true) (N Q1 Q2 Q3 Q4 Q5 Q6 Q7 : Int) (bN : -1 ≤ N ∧ N ≤ 1) (c0 : sgz (crs tx ty sx sy px py) = N) (c1 : sgz (crs sx sy tx ty px py) = (-N)) (c2 : sgz (crs tx ty px py sx sy) = (-N)) (c3 : sgz (crs px py sx sy tx ty) = (-N)) (c4 : sgz (crs sx sy px py tx ty) = N) (c5 : sgz (crs tx ty sx sy qx qy) = Q1) (c6 : sgz (crs sx sy px py qx qy) = Q2) (c7 : sgz (crs px py tx ty qx qy) = Q3) (c8 : sgz (crs tx ty sx sy rx ry) = Q4) (c9 : sgz (crs tx ty px py qx qy) = Q5) (c10 : sgz (crs tx ty qx qy rx ry) = Q6) (c11 : sgz (crs tx ty px py rx ry) = Q7) (i1 : Q1 = 1 → Q2 = 1 → Q3 = 1 → N = 1) (i2 : N = 1 → Q1 = 1 → Q4 = 1 → Q5 = 1 → Q6 = 1 → Q7 = 1) (w : World) :
    Calls Try.prog 6 #[.agg #[.int .i64 tx, .int .i64 ty], .agg #[.int .i64 sx, .int .i64 sy], .agg #[.int .i64 px, .int .i64 py], .agg #[.int .i64 qx, .int .i64 qy], .agg #[.int .i64 rx, .int .i64 ry]] w fun e_ w' => e_ = .returned (.bool true) ∧ Below w.heap.size w w' := by
  have ttsp := fun W => trn_is tx ty sx sy px py N h0 h1 h2 c0 W
  clear c0
  have tstp := fun W => trn_is sx sy tx ty px py (-N) h1 h0 h2 c1 W
  clear c1
  have ttps := fun W => trn_is tx ty px py sx sy (-N) h0 h2 h1 c2 W
  clear c2
  have tpst := fun W => trn_is px py sx sy tx ty (-N) h2 h1 h0 c3 W
  clear c3
  have tspt := fun W => trn_is sx sy px py tx ty N h1 h2 h0 c4 W
  clear c4
  have ttsq := fun W => trn_is tx ty sx sy qx qy Q1 h0 h1 h3 c5 W
  clear c5
  have tspq := fun W => trn_is sx sy px py qx qy Q2 h1 h2 h3 c6 W
  clear c6
  have tptq := fun W => trn_is px py tx ty qx qy Q3 h2 h0 h3 c7 W
  clear c7
  have ttsr := fun W => trn_is tx ty sx sy rx ry Q4 h0 h1 h4 c8 W
  clear c8
  have ttpq := fun W => trn_is tx ty px py qx qy Q5 h0 h2 h3 c9 W
  clear c9
  have ttqr := fun W => trn_is tx ty qx qy rx ry Q6 h0 h3 h4 c10 W
  clear c10
  have ttpr := fun W => trn_is tx ty px py rx ry Q7 h0 h2 h4 c11 W
  clear c11
  have I1 := Lib.hid i1
  clear i1
  have I2 := Lib.hid i2
  clear i2
  have Ttsp := Lib.hid ttsp
  clear ttsp
  have Tstp := Lib.hid tstp
  clear tstp
  have Ttps := Lib.hid ttps
  clear ttps
  have Tpst := Lib.hid tpst
  clear tpst
  have Tspt := Lib.hid tspt
  clear tspt
  have Ttsq := Lib.hid ttsq
  clear ttsq
  have Tspq := Lib.hid tspq
  clear tspq
  have Tptq := Lib.hid tptq
  clear tptq
  have Ttsr := Lib.hid ttsr
  clear ttsr
  have Ttpq := Lib.hid ttpq
  clear ttpq
  have Ttqr := Lib.hid ttqr
  clear ttqr
  have Ttpr := Lib.hid ttpr
  clear ttpr
  have H0 := Lib.hid h0
  clear h0
  have H1 := Lib.hid h1
  clear h1
  have H2 := Lib.hid h2
  clear h2
  have H3 := Lib.hid h3
  clear h3
  have H4 := Lib.hid h4
  clear h4
  have t0 : World.cell? (((((w.alloc (.cells #[.int .i64 tx, .int .i64 ty] 25)).alloc (.cells #[.int .i64 sx, .int .i64 sy] 25)).alloc (.cells #[.int .i64 px, .int .i64 py] 25)).alloc (.cells #[.int .i64 qx, .int .i64 qy] 25)).alloc (.cells #[.int .i64 rx, .int .i64 ry] 25)) ⟨w.heap.size, 0, none⟩ = some (.int .i64 tx) := by simp [go_sem]
  have t1 : World.cell? (((((w.alloc (.cells #[.int .i64 tx, .int .i64 ty] 25)).alloc (.cells #[.int .i64 sx, .int .i64 sy] 25)).alloc (.cells #[.int .i64 px, .int .i64 py] 25)).alloc (.cells #[.int .i64 qx, .int .i64 qy] 25)).alloc (.cells #[.int .i64 rx, .int .i64 ry] 25)) ⟨w.heap.size, 1, none⟩ = some (.int .i64 ty) := by simp [go_sem]
  have lt : w.heap.size < (((((w.alloc (.cells #[.int .i64 tx, .int .i64 ty] 25)).alloc (.cells #[.int .i64 sx, .int .i64 sy] 25)).alloc (.cells #[.int .i64 px, .int .i64 py] 25)).alloc (.cells #[.int .i64 qx, .int .i64 qy] 25)).alloc (.cells #[.int .i64 rx, .int .i64 ry] 25)).heap.size := by simp <;> omega
  have s0 : World.cell? (((((w.alloc (.cells #[.int .i64 tx, .int .i64 ty] 25)).alloc (.cells #[.int .i64 sx, .int .i64 sy] 25)).alloc (.cells #[.int .i64 px, .int .i64 py] 25)).alloc (.cells #[.int .i64 qx, .int .i64 qy] 25)).alloc (.cells #[.int .i64 rx, .int .i64 ry] 25)) ⟨w.heap.size + 1, 0, none⟩ = some (.int .i64 sx) := by simp [go_sem]
  have s1 : World.cell? (((((w.alloc (.cells #[.int .i64 tx, .int .i64 ty] 25)).alloc (.cells #[.int .i64 sx, .int .i64 sy] 25)).alloc (.cells #[.int .i64 px, .int .i64 py] 25)).alloc (.cells #[.int .i64 qx, .int .i64 qy] 25)).alloc (.cells #[.int .i64 rx, .int .i64 ry] 25)) ⟨w.heap.size + 1, 1, none⟩ = some (.int .i64 sy) := by simp [go_sem]
  have ls : w.heap.size + 1 < (((((w.alloc (.cells #[.int .i64 tx, .int .i64 ty] 25)).alloc (.cells #[.int .i64 sx, .int .i64 sy] 25)).alloc (.cells #[.int .i64 px, .int .i64 py] 25)).alloc (.cells #[.int .i64 qx, .int .i64 qy] 25)).alloc (.cells #[.int .i64 rx, .int .i64 ry] 25)).heap.size := by simp <;> omega
  have p0 : World.cell? (((((w.alloc (.cells #[.int .i64 tx, .int .i64 ty] 25)).alloc (.cells #[.int .i64 sx, .int .i64 sy] 25)).alloc (.cells #[.int .i64 px, .int .i64 py] 25)).alloc (.cells #[.int .i64 qx, .int .i64 qy] 25)).alloc (.cells #[.int .i64 rx, .int .i64 ry] 25)) ⟨w.heap.size + 1 + 1, 0, none⟩ = some (.int .i64 px) := by simp [go_sem]
  have p1 : World.cell? (((((w.alloc (.cells #[.int .i64 tx, .int .i64 ty] 25)).alloc (.cells #[.int .i64 sx, .int .i64 sy] 25)).alloc (.cells #[.int .i64 px, .int .i64 py] 25)).alloc (.cells #[.int .i64 qx, .int .i64 qy] 25)).alloc (.cells #[.int .i64 rx, .int .i64 ry] 25)) ⟨w.heap.size + 1 + 1, 1, none⟩ = some (.int .i64 py) := by simp [go_sem]
  have lp : w.heap.size + 1 + 1 < (((((w.alloc (.cells #[.int .i64 tx, .int .i64 ty] 25)).alloc (.cells #[.int .i64 sx, .int .i64 sy] 25)).alloc (.cells #[.int .i64 px, .int .i64 py] 25)).alloc (.cells #[.int .i64 qx, .int .i64 qy] 25)).alloc (.cells #[.int .i64 rx, .int .i64 ry] 25)).heap.size := by simp <;> omega
  have q0 : World.cell? (((((w.alloc (.cells #[.int .i64 tx, .int .i64 ty] 25)).alloc (.cells #[.int .i64 sx, .int .i64 sy] 25)).alloc (.cells #[.int .i64 px, .int .i64 py] 25)).alloc (.cells #[.int .i64 qx, .int .i64 qy] 25)).alloc (.cells #[.int .i64 rx, .int .i64 ry] 25)) ⟨w.heap.size + 1 + 1 + 1, 0, none⟩ = some (.int .i64 qx) := by simp [go_sem]
  have q1 : World.cell? (((((w.alloc (.cells #[.int .i64 tx, .int .i64 ty] 25)).alloc (.cells #[.int .i64 sx, .int .i64 sy] 25)).alloc (.cells #[.int .i64 px, .int .i64 py] 25)).alloc (.cells #[.int .i64 qx, .int .i64 qy] 25)).alloc (.cells #[.int .i64 rx, .int .i64 ry] 25)) ⟨w.heap.size + 1 + 1 + 1, 1, none⟩ = some (.int .i64 qy) := by simp [go_sem]
  have lq : w.heap.size + 1 + 1 + 1 < (((((w.alloc (.cells #[.int .i64 tx, .int .i64 ty] 25)).alloc (.cells #[.int .i64 sx, .int .i64 sy] 25)).alloc (.cells #[.int .i64 px, .int .i64 py] 25)).alloc (.cells #[.int .i64 qx, .int .i64 qy] 25)).alloc (.cells #[.int .i64 rx, .int .i64 ry] 25)).heap.size := by simp <;> omega
  have r0 : World.cell? (((((w.alloc (.cells #[.int .i64 tx, .int .i64 ty] 25)).alloc (.cells #[.int .i64 sx, .int .i64 sy] 25)).alloc (.cells #[.int .i64 px, .int .i64 py] 25)).alloc (.cells #[.int .i64 qx, .int .i64 qy] 25)).alloc (.cells #[.int .i64 rx, .int .i64 ry] 25)) ⟨w.heap.size + 1 + 1 + 1 + 1, 0, none⟩ = some (.int .i64 rx) := by simp [go_sem]
  have r1 : World.cell? (((((w.alloc (.cells #[.int .i64 tx, .int .i64 ty] 25)).alloc (.cells #[.int .i64 sx, .int .i64 sy] 25)).alloc (.cells #[.int .i64 px, .int .i64 py] 25)).alloc (.cells #[.int .i64 qx, .int .i64 qy] 25)).alloc (.cells #[.int .i64 rx, .int .i64 ry] 25)) ⟨w.heap.size + 1 + 1 + 1 + 1, 1, none⟩ = some (.int .i64 ry) := by simp [go_sem]
  have lr : w.heap.size + 1 + 1 + 1 + 1 < (((((w.alloc (.cells #[.int .i64 tx, .int .i64 ty] 25)).alloc (.cells #[.int .i64 sx, .int .i64 sy] 25)).alloc (.cells #[.int .i64 px, .int .i64 py] 25)).alloc (.cells #[.int .i64 qx, .int .i64 qy] 25)).alloc (.cells #[.int .i64 rx, .int .i64 ry] 25)).heap.size := by simp <;> omega
  have HB := Lib.hid (show Below w.heap.size w (((((w.alloc (.cells #[.int .i64 tx, .int .i64 ty] 25)).alloc (.cells #[.int .i64 sx, .int .i64 sy] 25)).alloc (.cells #[.int .i64 px, .int .i64 py] 25)).alloc (.cells #[.int .i64 qx, .int .i64 qy] 25)).alloc (.cells #[.int .i64 rx, .int .i64 ry] 25)) from ((((((Below.refl _ _).alloc (by simp <;> omega) _).alloc (by simp <;> omega) _).alloc (by simp <;> omega) _).alloc (by simp <;> omega) _).alloc (by simp <;> omega) _))
  go_enter Try.func6, Try.ntmps6
  go_wp2_with fail
  generalize ((((w.alloc (.cells #[.int .i64 tx, .int .i64 ty] 25)).alloc (.cells #[.int .i64 sx, .int .i64 sy] 25)).alloc (.cells #[.int .i64 px, .int .i64 py] 25)).alloc (.cells #[.int .i64 qx, .int .i64 qy] 25)).alloc (.cells #[.int .i64 rx, .int .i64 ry] 25) = w1 at *
  with_reducible refine (head_any _).mono ?_
  rintro e_ w2 ⟨rfl, hb⟩
  replace HB := Lib.hid (on_below HB.out hb)
  replace t0 := keepc hb t0
  replace t1 := keepc hb t1
  replace s0 := keepc hb s0
  replace s1 := keepc hb s1
  replace p0 := keepc hb p0
  replace p1 := keepc hb p1
  replace q0 := keepc hb q0
  replace q1 := keepc hb q1
  replace r0 := keepc hb r0
  replace r1 := keepc hb r1
  replace lt := Nat.lt_of_lt_of_le lt hb.size
  replace ls := Nat.lt_of_lt_of_le ls hb.size
  replace lp := Nat.lt_of_lt_of_le lp hb.size
  replace lq := Nat.lt_of_lt_of_le lq hb.size
  replace lr := Nat.lt_of_lt_of_le lr hb.size
  clear hb
  go_wp2_with fail
  with_reducible refine (flat_is tx ty true H0.out _).mono ?_
  rintro e_ w3 ⟨rfl, hb⟩
  replace HB := Lib.hid (on_below HB.out hb)
  replace t0 := keepc hb t0
  replace t1 := keepc hb t1
  replace s0 := keepc hb s0
  replace s1 := keepc hb s1
  replace p0 := keepc hb p0
  replace p1 := keepc hb p1
  replace q0 := keepc hb q0
  replace q1 := keepc hb q1
  replace r0 := keepc hb r0
  replace r1 := keepc hb r1
  replace lt := Nat.lt_of_lt_of_le lt hb.size
  replace ls := Nat.lt_of_lt_of_le ls hb.size
  replace lp := Nat.lt_of_lt_of_le lp hb.size
  replace lq := Nat.lt_of_lt_of_le lq hb.size
  replace lr := Nat.lt_of_lt_of_le lr hb.size
  clear hb
  go_wp2_with fail
  with_reducible refine (flat_is sx sy true H1.out _).mono ?_
  rintro e_ w4 ⟨rfl, hb⟩
  replace HB := Lib.hid (on_below HB.out hb)
  replace t0 := keepc hb t0
  replace t1 := keepc hb t1
  replace s0 := keepc hb s0
  replace s1 := keepc hb s1
  replace p0 := keepc hb p0
  replace p1 := keepc hb p1
  replace q0 := keepc hb q0
  replace q1 := keepc hb q1
  replace r0 := keepc hb r0
  replace r1 := keepc hb r1
  replace lt := Nat.lt_of_lt_of_le lt hb.size
  replace ls := Nat.lt_of_lt_of_le ls hb.size
  replace lp := Nat.lt_of_lt_of_le lp hb.size
  replace lq := Nat.lt_of_lt_of_le lq hb.size
  replace lr := Nat.lt_of_lt_of_le lr hb.size
  clear hb
  go_wp2_with fail
  with_reducible refine (flat_is px py true H2.out _).mono ?_
  rintro e_ w5 ⟨rfl, hb⟩
  replace HB := Lib.hid (on_below HB.out hb)
  replace t0 := keepc hb t0
  replace t1 := keepc hb t1
  replace s0 := keepc hb s0
  replace s1 := keepc hb s1
  replace p0 := keepc hb p0
  replace p1 := keepc hb p1
  replace q0 := keepc hb q0
  replace q1 := keepc hb q1
  replace r0 := keepc hb r0
  replace r1 := keepc hb r1
  replace lt := Nat.lt_of_lt_of_le lt hb.size
  replace ls := Nat.lt_of_lt_of_le ls hb.size
  replace lp := Nat.lt_of_lt_of_le lp hb.size
  replace lq := Nat.lt_of_lt_of_le lq hb.size
  replace lr := Nat.lt_of_lt_of_le lr hb.size
  clear hb
  go_wp2_with fail
  with_reducible refine (flat_is qx qy true H3.out _).mono ?_
  rintro e_ w6 ⟨rfl, hb⟩
  replace HB := Lib.hid (on_below HB.out hb)
  replace t0 := keepc hb t0
  replace t1 := keepc hb t1
  replace s0 := keepc hb s0
  replace s1 := keepc hb s1
  replace p0 := keepc hb p0
  replace p1 := keepc hb p1
  replace q0 := keepc hb q0
  replace q1 := keepc hb q1
  replace r0 := keepc hb r0
  replace r1 := keepc hb r1
  replace lt := Nat.lt_of_lt_of_le lt hb.size
  replace ls := Nat.lt_of_lt_of_le ls hb.size
  replace lp := Nat.lt_of_lt_of_le lp hb.size
  replace lq := Nat.lt_of_lt_of_le lq hb.size
  replace lr := Nat.lt_of_lt_of_le lr hb.size
  clear hb
  go_wp2_with fail
  with_reducible refine (flat_is rx ry true H4.out _).mono ?_
  rintro e_ w7 ⟨rfl, hb⟩
  replace HB := Lib.hid (on_below HB.out hb)
  replace t0 := keepc hb t0
  replace t1 := keepc hb t1
  replace s0 := keepc hb s0
  replace s1 := keepc hb s1
  replace p0 := keepc hb p0
  replace p1 := keepc hb p1
  replace q0 := keepc hb q0
  replace q1 := keepc hb q1
  replace r0 := keepc hb r0
  replace r1 := keepc hb r1
  replace lt := Nat.lt_of_lt_of_le lt hb.size
  replace ls := Nat.lt_of_lt_of_le ls hb.size
  replace lp := Nat.lt_of_lt_of_le lp hb.size
  replace lq := Nat.lt_of_lt_of_le lq hb.size
  replace lr := Nat.lt_of_lt_of_le lr hb.size
  clear hb
  go_wp2_with fail
  clear H0 H1 H2 H3 H4
  with_reducible refine (Ttsp.out _).mono ?_
  rintro e_ w8 ⟨rfl, hb⟩
  replace HB := Lib.hid (on_below HB.out hb)
  replace t0 := keepc hb t0
  replace t1 := keepc hb t1
  replace s0 := keepc hb s0
  replace s1 := keepc hb s1
  replace p0 := keepc hb p0
  replace p1 := keepc hb p1
  replace q0 := keepc hb q0
  replace q1 := keepc hb q1
  replace r0 := keepc hb r0
  replace r1 := keepc hb r1
  replace lt := Nat.lt_of_lt_of_le lt hb.size
  replace ls := Nat.lt_of_lt_of_le ls hb.size
  replace lp := Nat.lt_of_lt_of_le lp hb.size
  replace lq := Nat.lt_of_lt_of_le lq hb.size
  replace lr := Nat.lt_of_lt_of_le lr hb.size
  clear hb
  go_wp2_with fail
  with_reducible refine (Tstp.out _).mono ?_
  rintro e_ w9 ⟨rfl, hb⟩
  replace HB := Lib.hid (on_below HB.out hb)
  replace t0 := keepc hb t0
  replace t1 := keepc hb t1
  replace s0 := keepc hb s0
  replace s1 := keepc hb s1
  replace p0 := keepc hb p0
  replace p1 := keepc hb p1
  replace q0 := keepc hb q0
  replace q1 := keepc hb q1
  replace r0 := keepc hb r0
  replace r1 := keepc hb r1
  replace lt := Nat.lt_of_lt_of_le lt hb.size
  replace ls := Nat.lt_of_lt_of_le ls hb.size
  replace lp := Nat.lt_of_lt_of_le lp hb.size
  replace lq := Nat.lt_of_lt_of_le lq hb.size
  replace lr := Nat.lt_of_lt_of_le lr hb.size
  clear hb
  go_wp2_with fail
  with_reducible refine (Ttps.out _).mono ?_
  rintro e_ w10 ⟨rfl, hb⟩
  replace HB := Lib.hid (on_below HB.out hb)
  replace t0 := keepc hb t0
  replace t1 := keepc hb t1
  replace s0 := keepc hb s0
  replace s1 := keepc hb s1
  replace p0 := keepc hb p0
  replace p1 := keepc hb p1
  replace q0 := keepc hb q0
  replace q1 := keepc hb q1
  replace r0 := keepc hb r0
  replace r1 := keepc hb r1
  replace lt := Nat.lt_of_lt_of_le lt hb.size
  replace ls := Nat.lt_of_lt_of_le ls hb.size
  replace lp := Nat.lt_of_lt_of_le lp hb.size
  replace lq := Nat.lt_of_lt_of_le lq hb.size
  replace lr := Nat.lt_of_lt_of_le lr hb.size
  clear hb
  go_wp2_with fail
  with_reducible refine (Tpst.out _).mono ?_
  rintro e_ w11 ⟨rfl, hb⟩
  replace HB := Lib.hid (on_below HB.out hb)
  replace t0 := keepc hb t0
  replace t1 := keepc hb t1
  replace s0 := keepc hb s0
  replace s1 := keepc hb s1
  replace p0 := keepc hb p0
  replace p1 := keepc hb p1
  replace q0 := keepc hb q0
  replace q1 := keepc hb q1
  replace r0 := keepc hb r0
  replace r1 := keepc hb r1
  replace lt := Nat.lt_of_lt_of_le lt hb.size
  replace ls := Nat.lt_of_lt_of_le ls hb.size
  replace lp := Nat.lt_of_lt_of_le lp hb.size
  replace lq := Nat.lt_of_lt_of_le lq hb.size
  replace lr := Nat.lt_of_lt_of_le lr hb.size
  clear hb
  go_wp2_with fail
  with_reducible refine (Tspt.out _).mono ?_
  rintro e_ w12 ⟨rfl, hb⟩
  replace HB := Lib.hid (on_below HB.out hb)
  replace t0 := keepc hb t0
  replace t1 := keepc hb t1
  replace s0 := keepc hb s0
  replace s1 := keepc hb s1
  replace p0 := keepc hb p0
  replace p1 := keepc hb p1
  replace q0 := keepc hb q0
  replace q1 := keepc hb q1
  replace r0 := keepc hb r0
  replace r1 := keepc hb r1
  replace lt := Nat.lt_of_lt_of_le lt hb.size
  replace ls := Nat.lt_of_lt_of_le ls hb.size
  replace lp := Nat.lt_of_lt_of_le lp hb.size
  replace lq := Nat.lt_of_lt_of_le lq hb.size
  replace lr := Nat.lt_of_lt_of_le lr hb.size
  clear hb
  go_upto_region 7 with fail
  go_cut [105] (fun s_ wx => s_ = .bool false ∧ wx.cell? ⟨w.heap.size, 0, none⟩ = some (.int .i64 tx) ∧ wx.cell? ⟨w.heap.size, 1, none⟩ = some (.int .i64 ty) ∧ wx.cell? ⟨w.heap.size + 1, 0, none⟩ = some (.int .i64 sx) ∧ wx.cell? ⟨w.heap.size + 1, 1, none⟩ = some (.int .i64 sy) ∧ wx.cell? ⟨w.heap.size + 1 + 1, 0, none⟩ = some (.int .i64 px) ∧ wx.cell? ⟨w.heap.size + 1 + 1, 1, none⟩ = some (.int .i64 py) ∧ wx.cell? ⟨w.heap.size + 1 + 1 + 1, 0, none⟩ = some (.int .i64 qx) ∧ wx.cell? ⟨w.heap.size + 1 + 1 + 1, 1, none⟩ = some (.int .i64 qy) ∧ wx.cell? ⟨w.heap.size + 1 + 1 + 1 + 1, 0, none⟩ = some (.int .i64 rx) ∧ wx.cell? ⟨w.heap.size + 1 + 1 + 1 + 1, 1, none⟩ = some (.int .i64 ry) ∧ Below w.heap.size w wx)
  case first =>
    go_wp2_with fail
    with_reducible refine (Ttsq.out _).mono ?_
    rintro e_ w13 ⟨rfl, hb⟩
    replace HB := Lib.hid (on_below HB.out hb)
    replace t0 := keepc hb t0
    replace t1 := keepc hb t1
    replace s0 := keepc hb s0
    replace s1 := keepc hb s1
    replace p0 := keepc hb p0
    replace p1 := keepc hb p1
    replace q0 := keepc hb q0
    replace q1 := keepc hb q1
    replace r0 := keepc hb r0
    replace r1 := keepc hb r1
    replace lt := Nat.lt_of_lt_of_le lt hb.size
    replace ls := Nat.lt_of_lt_of_le ls hb.size
    replace lp := Nat.lt_of_lt_of_le lp hb.size
    replace lq := Nat.lt_of_lt_of_le lq hb.size
    replace lr := Nat.lt_of_lt_of_le lr hb.size
    clear hb
    by_cases hQ1 : Q1 = 1
    · skip
      subst hQ1
      go_wp2_with fail
      with_reducible refine (Tspq.out _).mono ?_
      rintro e_ w14 ⟨rfl, hb⟩
      replace HB := Lib.hid (on_below HB.out hb)
      replace t0 := keepc hb t0
      replace t1 := keepc hb t1
      replace s0 := keepc hb s0
      replace s1 := keepc hb s1
      replace p0 := keepc hb p0
      replace p1 := keepc hb p1
      replace q0 := keepc hb q0
      replace q1 := keepc hb q1
      replace r0 := keepc hb r0
      replace r1 := keepc hb r1
      replace lt := Nat.lt_of_lt_of_le lt hb.size
      replace ls := Nat.lt_of_lt_of_le ls hb.size
      replace lp := Nat.lt_of_lt_of_le lp hb.size
      replace lq := Nat.lt_of_lt_of_le lq hb.size
      replace lr := Nat.lt_of_lt_of_le lr hb.size
      clear hb
      by_cases hQ2 : Q2 = 1
      · skip
        subst hQ2
        go_wp2_with fail
        with_reducible refine (Tptq.out _).mono ?_
        rintro e_ w15 ⟨rfl, hb⟩
        replace HB := Lib.hid (on_below HB.out hb)
        replace t0 := keepc hb t0
        replace t1 := keepc hb t1
        replace s0 := keepc hb s0
        replace s1 := keepc hb s1
        replace p0 := keepc hb p0
        replace p1 := keepc hb p1
        replace q0 := keepc hb q0
        replace q1 := keepc hb q1
        replace r0 := keepc hb r0
        replace r1 := keepc hb r1
        replace lt := Nat.lt_of_lt_of_le lt hb.size
        replace ls := Nat.lt_of_lt_of_le ls hb.size
        replace lp := Nat.lt_of_lt_of_le lp hb.size
        replace lq := Nat.lt_of_lt_of_le lq hb.size
        replace lr := Nat.lt_of_lt_of_le lr hb.size
        clear hb
        by_cases hQ3 : Q3 = 1
        · skip
          subst hQ3
          have z1 := I1.out (by first | rfl | trivial) (by first | rfl | trivial) (by first | rfl | trivial)
          subst z1
          go_wp2_with fail
          go_meet
          exact ⟨rfl, t0, t1, s0, s1, p0, p1, q0, q1, r0, r1, HB.out⟩
        · skip
          have nQ3 : (Q3 == 1) = false := beq_eq_false_iff_ne.2 hQ3
          go_wp2_with fail
          go_meet
          exact ⟨rfl, t0, t1, s0, s1, p0, p1, q0, q1, r0, r1, HB.out⟩
      · skip
        have nQ2 : (Q2 == 1) = false := beq_eq_false_iff_ne.2 hQ2
        go_wp2_with fail
        go_meet
        exact ⟨rfl, t0, t1, s0, s1, p0, p1, q0, q1, r0, r1, HB.out⟩
    · skip
      have nQ1 : (Q1 == 1) = false := beq_eq_false_iff_ne.2 hQ1
      go_wp2_with fail
      go_meet
      exact ⟨rfl, t0, t1, s0, s1, p0, p1, q0, q1, r0, r1, HB.out⟩
  case rest =>
    clear t0 t1 s0 s1 p0 p1 q0 q1 r0 r1 lt ls lp lq lr HB I1
    obtain ⟨rfl, t0, t1, s0, s1, p0, p1, q0, q1, r0, r1, hb_⟩ := hcut
    have HB := Lib.hid hb_
    clear hb_
    have lt := block_lt t0
    have ls := block_lt s0
    have lp := block_lt p0
    have lq := block_lt q0
    have lr := block_lt r0
    by_cases hN : N = 1
    · skip
      subst hN
      go_wp2_with fail
      with_reducible refine (Ttsq.out _).mono ?_
      rintro e_ w13 ⟨rfl, hb⟩
      replace HB := Lib.hid (on_below HB.out hb)
      replace t0 := keepc hb t0
      replace t1 := keepc hb t1
      replace s0 := keepc hb s0
      replace s1 := keepc hb s1
      replace p0 := keepc hb p0
      replace p1 := keepc hb p1
      replace q0 := keepc hb q0
      replace q1 := keepc hb q1
      replace r0 := keepc hb r0
      replace r1 := keepc hb r1
      replace lt := Nat.lt_of_lt_of_le lt hb.size
      replace ls := Nat.lt_of_lt_of_le ls hb.size
      replace lp := Nat.lt_of_lt_of_le lp hb.size
      replace lq := Nat.lt_of_lt_of_le lq hb.size
      replace lr := Nat.lt_of_lt_of_le lr hb.size
      clear hb
      by_cases hQ1 : Q1 = 1
      · skip
        subst hQ1
        go_wp2_with fail
        with_reducible refine (Ttsr.out _).mono ?_
        rintro e_ w14 ⟨rfl, hb⟩
        replace HB := Lib.hid (on_below HB.out hb)
        replace t0 := keepc hb t0
        replace t1 := keepc hb t1
        replace s0 := keepc hb s0
        replace s1 := keepc hb s1
        replace p0 := keepc hb p0
        replace p1 := keepc hb p1
        replace q0 := keepc hb q0
        replace q1 := keepc hb q1
        replace r0 := keepc hb r0
        replace r1 := keepc hb r1
        replace lt := Nat.lt_of_lt_of_le lt hb.size
        replace ls := Nat.lt_of_lt_of_le ls hb.size
        replace lp := Nat.lt_of_lt_of_le lp hb.size
        replace lq := Nat.lt_of_lt_of_le lq hb.size
        replace lr := Nat.lt_of_lt_of_le lr hb.size
        clear hb
        by_cases hQ4 : Q4 = 1
        · skip
          subst hQ4
          go_wp2_with fail
          with_reducible refine (Ttpq.out _).mono ?_
          rintro e_ w15 ⟨rfl, hb⟩
          replace HB := Lib.hid (on_below HB.out hb)
          replace t0 := keepc hb t0
          replace t1 := keepc hb t1
          replace s0 := keepc hb s0
          replace s1 := keepc hb s1
          replace p0 := keepc hb p0
          replace p1 := keepc hb p1
          replace q0 := keepc hb q0
          replace q1 := keepc hb q1
          replace r0 := keepc hb r0
          replace r1 := keepc hb r1
          replace lt := Nat.lt_of_lt_of_le lt hb.size
          replace ls := Nat.lt_of_lt_of_le ls hb.size
          replace lp := Nat.lt_of_lt_of_le lp hb.size
          replace lq := Nat.lt_of_lt_of_le lq hb.size
          replace lr := Nat.lt_of_lt_of_le lr hb.size
          clear hb
          by_cases hQ5 : Q5 = 1
          · skip
            subst hQ5
            go_wp2_with fail
            with_reducible refine (Ttqr.out _).mono ?_
            rintro e_ w16 ⟨rfl, hb⟩
            replace HB := Lib.hid (on_below HB.out hb)
            replace t0 := keepc hb t0
            replace t1 := keepc hb t1
            replace s0 := keepc hb s0
            replace s1 := keepc hb s1
            replace p0 := keepc hb p0
            replace p1 := keepc hb p1
            replace q0 := keepc hb q0
            replace q1 := keepc hb q1
            replace r0 := keepc hb r0
            replace r1 := keepc hb r1
            replace lt := Nat.lt_of_lt_of_le lt hb.size
            replace ls := Nat.lt_of_lt_of_le ls hb.size
            replace lp := Nat.lt_of_lt_of_le lp hb.size
            replace lq := Nat.lt_of_lt_of_le lq hb.size
            replace lr := Nat.lt_of_lt_of_le lr hb.size
            clear hb
            by_cases hQ6 : Q6 = 1
            · skip
              subst hQ6
              go_wp2_with fail
              with_reducible refine (Ttpr.out _).mono ?_
              rintro e_ w17 ⟨rfl, hb⟩
              replace HB := Lib.hid (on_below HB.out hb)
              replace t0 := keepc hb t0
              replace t1 := keepc hb t1
              replace s0 := keepc hb s0
              replace s1 := keepc hb s1
              replace p0 := keepc hb p0
              replace p1 := keepc hb p1
              replace q0 := keepc hb q0
              replace q1 := keepc hb q1
              replace r0 := keepc hb r0
              replace r1 := keepc hb r1
              replace lt := Nat.lt_of_lt_of_le lt hb.size
              replace ls := Nat.lt_of_lt_of_le ls hb.size
              replace lp := Nat.lt_of_lt_of_le lp hb.size
              replace lq := Nat.lt_of_lt_of_le lq hb.size
              replace lr := Nat.lt_of_lt_of_le lr hb.size
              clear hb
              have z7 := I2.out (by first | rfl | trivial) (by first | rfl | trivial) (by first | rfl | trivial) (by first | rfl | trivial) (by first | rfl | trivial)
              subst z7
              go_wp2_with fail
              go_ret
              exact ⟨rfl, HB.out⟩
            · skip
              have nQ6 : (Q6 == 1) = false := beq_eq_false_iff_ne.2 hQ6
              go_wp2_with fail
              go_ret
              exact ⟨rfl, HB.out⟩
          · skip
            have nQ5 : (Q5 == 1) = false := beq_eq_false_iff_ne.2 hQ5
            go_wp2_with fail
            go_ret
            exact ⟨rfl, HB.out⟩
        · skip
          have nQ4 : (Q4 == 1) = false := beq_eq_false_iff_ne.2 hQ4
          go_wp2_with fail
          go_ret
          exact ⟨rfl, HB.out⟩
      · skip
        have nQ1 : (Q1 == 1) = false := beq_eq_false_iff_ne.2 hQ1
        go_wp2_with fail
        go_ret
        exact ⟨rfl, HB.out⟩
    · skip
      have nN : (N == 1) = false := beq_eq_false_iff_ne.2 hN
      go_wp2_with fail
      go_ret
      exact ⟨rfl, HB.out⟩
theorem law_any (tx : Int) (itx : I64 tx) (ty : Int) (ity : I64 ty) (sx : Int) (isx : I64 sx) (sy : Int) (isy : I64 sy) (px : Int) (ipx : I64 px) (py : Int) (ipy : I64 py) (qx : Int) (iqx : I64 qx) (qy : Int) (iqy : I64 qy) (rx : Int) (irx : I64 rx) (ry : Int) (iry : I64 ry) (w : World) :
    Calls Try.prog 6 #[.agg #[.int .i64 tx, .int .i64 ty], .agg #[.int .i64 sx, .int .i64 sy], .agg #[.int .i64 px, .int .i64 py], .agg #[.int .i64 qx, .int .i64 qy], .agg #[.int .i64 rx, .int .i64 ry]] w fun e_ w' => e_ = .returned (.bool true) ∧ Below w.heap.size w w' := by
  cases h0 : pp tx ty
  · exact law_1 tx ty sx sy px py qx qy rx ry h0 w
  cases h1 : pp sx sy
  · exact law_2 tx ty sx sy px py qx qy rx ry h0 h1 w
  cases h2 : pp px py
  · exact law_3 tx ty sx sy px py qx qy rx ry h0 h1 h2 w
  cases h3 : pp qx qy
  · exact law_4 tx ty sx sy px py qx qy rx ry h0 h1 h2 h3 w
  cases h4 : pp rx ry
  · exact law_5 tx ty sx sy px py qx qy rx ry h0 h1 h2 h3 h4 w
  refine law_6 tx ty sx sy px py qx qy rx ry h0 h1 h2 h3 h4 (sgz (crs tx ty sx sy px py)) _ _ _ _ _ _ _ (sgz_bd _) rfl ?_ ?_ ?_ ?_ rfl rfl rfl rfl rfl rfl rfl ?_ ?_ w
  · rw [crs_ab, sgz_neg]
  · rw [crs_bc, sgz_neg]
  · rw [crs_ac, sgz_neg]
  · rw [crs_rot]
  · intro a b c
    rw [sgz_one] at a b c ⊢
    have := crs_sum tx ty sx sy px py qx qy
    omega
  · intro a b c d e
    rw [sgz_one] at a b c d e ⊢
    exact crs_trans a b c d e

/-! ### The row -/
open Go.ChangeShapes Go.WideShapes Go.ChangeAt Go.Joins
theorem own : ownKnob Try.prog.godebug = none := by kernel_rfl
noncomputable def laidWorld (os : Os) : World := World.holding Try.prog os ⟨#[], #[], []⟩
theorem laidWorld_met (os : Os) (args : Array Value) : laidMet Try.prog [] ((laidWorld os).forCall (fun _ _ => 0) ⟨#[], args, []⟩).memory :=
  laidMet_of_run' 8 (by kernel_rfl) (by kernel_rfl)

set_option maxRecDepth 100000 in
theorem contract (H : Type) (enc : TypeId × Value → H) (W : World) (base : Nat) (args : Array Value) (ds gs : List (DataW H)) (before : List MemPlace)
    (hval : ∀ (j : Nat) t v, Try.f6.params[j]? = some t → args[j]? = some v → Value.okWide Try.prog W .any base t v)
    (hW : DataW.Whole enc Try.prog Try.f6.params.toList Rows.vectorTurnsSpec.vars false W args.toList ds gs before) :
    Calls Try.prog 6 args W fun e W' => ∃ v, e = .returned v ∧ Rows.vectorTurnsSpec.post enc Try.prog Try.f6 false true false false W args v W' := by
  have hW' := hW
  obtain ⟨p, q, hA0, hV, rfl, hfz, hnd⟩ := hW
  have hA : DataW.TrodAll enc Try.prog W 0 (fun _ => true) true Try.f6.params.toList args.toList ds p := hA0
  rw [Try.params6] at hA hval
  obtain ⟨v0, vs0, d0, ds0, p0, q0, hargs, rfl, rfl, h0, r0⟩ := trodAll_cons hA
  obtain ⟨v1, vs1, d1, ds1, p1, q1, rfl, rfl, rfl, h1, r1⟩ := trodAll_cons r0
  obtain ⟨v2, vs2, d2, ds2, p2, q2, rfl, rfl, rfl, h2, r2⟩ := trodAll_cons r1
  obtain ⟨v3, vs3, d3, ds3, p3, q3, rfl, rfl, rfl, h3, r3⟩ := trodAll_cons r2
  obtain ⟨v4, vs4, d4, ds4, p4, q4, rfl, rfl, rfl, h4, r4⟩ := trodAll_cons r3
  obtain ⟨rfl, rfl, rfl⟩ := trodAll_nil r4
  obtain rfl : args = #[v0, v1, v2, v3, v4] := Array.toList_inj.1 hargs
  obtain ⟨rfl, rfl⟩ := trodVars_none hV
  obtain ⟨tx, ty, rfl, rfl, rfl, itx, ity⟩ := open_point (hval 0 25 v0 rfl rfl) h0
  obtain ⟨sx, sy, rfl, rfl, rfl, isx, isy⟩ := open_point (hval 1 25 v1 rfl rfl) h1
  obtain ⟨px, py, rfl, rfl, rfl, ipx, ipy⟩ := open_point (hval 2 25 v2 rfl rfl) h2
  obtain ⟨qx, qy, rfl, rfl, rfl, iqx, iqy⟩ := open_point (hval 3 25 v3 rfl rfl) h3
  obtain ⟨rx, ry, rfl, rfl, rfl, irx, iry⟩ := open_point (hval 4 25 v4 rfl rfl) h4
  clear hA0
  refine (law_any tx (wf_i itx) ty (wf_i ity) sx (wf_i isx) sy (wf_i isy) px (wf_i ipx) py (wf_i ipy) qx (wf_i iqx) qy (wf_i iqy) rx (wf_i irx) ry (wf_i iry) W).mono fun e W' ⟨he, bel⟩ => ?_
  subst he
  exact ⟨_, rfl, _, _, _, [], _, [], hW', trodAll_mk1 (shut_bool Try.underlying4 _), (trodAll_cons_mk (shut_point itx ity) (trodAll_cons_mk (shut_point isx isy) (trodAll_cons_mk (shut_point ipx ipy) (trodAll_cons_mk (shut_point iqx iqy) (trodAll_cons_mk (shut_point irx iry) trodAll_mk0))))), rfl, bel.frame _, fun h => by cases h⟩

theorem reads (os : Os) {H : Type} (enc : TypeId × Value → H) : ∃ places, DataW.whole enc Try.prog ((laidWorld os).forCall (fun _ _ => 0) ⟨#[], #[.agg #[.int .i64 0, .int .i64 0], .agg #[.int .i64 0, .int .i64 0], .agg #[.int .i64 0, .int .i64 0], .agg #[.int .i64 0, .int .i64 0], .agg #[.int .i64 0, .int .i64 0]], []⟩).memory Try.f6.params.toList Rows.vectorTurnsSpec.vars false (#[.agg #[.int .i64 0, .int .i64 0], .agg #[.int .i64 0, .int .i64 0], .agg #[.int .i64 0, .int .i64 0], .agg #[.int .i64 0, .int .i64 0], .agg #[.int .i64 0, .int .i64 0]] : Array Value).toList 8 = some ([.agg [.lit (.int .i64 0), .lit (.int .i64 0)], .agg [.lit (.int .i64 0), .lit (.int .i64 0)], .agg [.lit (.int .i64 0), .lit (.int .i64 0)], .agg [.lit (.int .i64 0), .lit (.int .i64 0)], .agg [.lit (.int .i64 0), .lit (.int .i64 0)]], [], places) :=
  ⟨[], by kernel_rfl⟩

set_option maxRecDepth 100000 in
theorem lifted (os : Os) (started : os.Started) (H : Type) (enc : TypeId × Value → H) (F : Stop.Interp) :
    ReturnsInHanded {} Try.checked os 6 .any ((OpenSpec.ofChange Rows.vectorTurnsSpec).preRow enc Try.prog Try.f6 Rows.vectorTurnsRow.domain false Rows.vectorTurnsRow.laid) (((OpenSpec.ofChange Rows.vectorTurnsSpec).at F).post enc Try.prog Try.f6 false true false false) := by
  obtain ⟨places, hx⟩ := reads os enc
  refine returnsInHanded_of_row (C := Try.checked) (s := OpenSpec.ofChange Rows.vectorTurnsSpec) own started (by kernel_rfl) Try.func6
    (witness_row_atRef (enc := enc) (C := Try.checked) false (laidWorld os) #[.agg #[.int .i64 0, .int .i64 0], .agg #[.int .i64 0, .int .i64 0], .agg #[.int .i64 0, .int .i64 0], .agg #[.int .i64 0, .int .i64 0], .agg #[.int .i64 0, .int .i64 0]] rfl (by kernel_rfl) (by kernel_rfl) (by kernel_rfl)
      (OpenSpec.preRow_of_cond 8 hx (by kernel_rfl) (fun k hk => by cases hk) (by kernel_rfl) (laidWorld_met os _))) ?_
  intro W base args ds gs before hval hW _ hcond _ hL hsh _
  exact contract H enc W base args ds gs before hval hW

/-- The statement. -/
theorem said : Rows.VectorTurnsSaid :=
  OpenClaim.holds_of_cond 6 Try.f6 rfl rfl rfl rfl rfl rfl rfl ⟨rfl, rfl, rfl, rfl, rfl⟩ rfl rfl rfl rfl rfl (by kernel_rfl) Try.func6 (by kernel_rfl)
    (of_decide_eq_true (by kernel_rfl)) (by unfold Func.isWrapper; first | (rw [if_pos (by decide +kernel)]; kernel_rfl) | (rw [if_neg (by decide +kernel)]; exact ⟨rfl, rfl⟩))
    (fun os started H enc _ F => by rw [OpenClaim.pre_eq_preRow]; exact lifted os started H enc F)
end Go.Proofs.Ytdkofonneebciaa.vectorTurns
