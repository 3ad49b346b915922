/-
  VectorPlane: Turn is the sign of a scalar product; moving the points keeps it.
-/
import Derived.Test.YtdkofonneebciaaVecK
import Derived.Test.YtdkofonneebciaaVecI
import Derived.Test.YtdkofonneebciaaVecJ
import Derived.Test.YtdkofonneebciaaRows
import Derived.ProofKit
import Derived.OpenShut
import Derived.Deep.DeepHandedRow
import Derived.Deep.DeepWitnessRowRef
import Derived.MakeChecks
import Derived.Deep.DeepCutAuto
namespace Go.Proofs.Ytdkofonneebciaa.vectorPlane
open Go.RowKit Go.Sort
open Go.RowKit (Below)
set_option linter.unusedVariables false
set_option linter.unusedSimpArgs false

set_option maxRecDepth 100000 in
set_option maxHeartbeats 2000000 in
theorem law_1 (ex ey fx fy jx jy vx vy : Int) (h0 : pp ex ey = false) (w : World) :
    Calls Try.prog 7 #[.agg #[.int .i64 ex, .int .i64 ey], .agg #[.int .i64 fx, .int .i64 fy], .agg #[.int .i64 jx, .int .i64 jy], .agg #[.int .i64 vx, .int .i64 vy]] w fun e_ w' => e_ = .returned (.bool true) ∧ Below w.heap.size w w' := by
  have H0 := Lib.hid h0
  clear h0
  have e0 : World.cell? ((((w.alloc (.cells #[.int .i64 ex, .int .i64 ey] 25)).alloc (.cells #[.int .i64 fx, .int .i64 fy] 25)).alloc (.cells #[.int .i64 jx, .int .i64 jy] 25)).alloc (.cells #[.int .i64 vx, .int .i64 vy] 25)) ⟨w.heap.size, 0, none⟩ = some (.int .i64 ex) := by simp [go_sem]
  have e1 : World.cell? ((((w.alloc (.cells #[.int .i64 ex, .int .i64 ey] 25)).alloc (.cells #[.int .i64 fx, .int .i64 fy] 25)).alloc (.cells #[.int .i64 jx, .int .i64 jy] 25)).alloc (.cells #[.int .i64 vx, .int .i64 vy] 25)) ⟨w.heap.size, 1, none⟩ = some (.int .i64 ey) := by simp [go_sem]
  have le : w.heap.size < ((((w.alloc (.cells #[.int .i64 ex, .int .i64 ey] 25)).alloc (.cells #[.int .i64 fx, .int .i64 fy] 25)).alloc (.cells #[.int .i64 jx, .int .i64 jy] 25)).alloc (.cells #[.int .i64 vx, .int .i64 vy] 25)).heap.size := by simp <;> omega
  have f0 : World.cell? ((((w.alloc (.cells #[.int .i64 ex, .int .i64 ey] 25)).alloc (.cells #[.int .i64 fx, .int .i64 fy] 25)).alloc (.cells #[.int .i64 jx, .int .i64 jy] 25)).alloc (.cells #[.int .i64 vx, .int .i64 vy] 25)) ⟨w.heap.size + 1, 0, none⟩ = some (.int .i64 fx) := by simp [go_sem]
  have f1 : World.cell? ((((w.alloc (.cells #[.int .i64 ex, .int .i64 ey] 25)).alloc (.cells #[.int .i64 fx, .int .i64 fy] 25)).alloc (.cells #[.int .i64 jx, .int .i64 jy] 25)).alloc (.cells #[.int .i64 vx, .int .i64 vy] 25)) ⟨w.heap.size + 1, 1, none⟩ = some (.int .i64 fy) := by simp [go_sem]
  have lf : w.heap.size + 1 < ((((w.alloc (.cells #[.int .i64 ex, .int .i64 ey] 25)).alloc (.cells #[.int .i64 fx, .int .i64 fy] 25)).alloc (.cells #[.int .i64 jx, .int .i64 jy] 25)).alloc (.cells #[.int .i64 vx, .int .i64 vy] 25)).heap.size := by simp <;> omega
  have j0 : World.cell? ((((w.alloc (.cells #[.int .i64 ex, .int .i64 ey] 25)).alloc (.cells #[.int .i64 fx, .int .i64 fy] 25)).alloc (.cells #[.int .i64 jx, .int .i64 jy] 25)).alloc (.cells #[.int .i64 vx, .int .i64 vy] 25)) ⟨w.heap.size + 1 + 1, 0, none⟩ = some (.int .i64 jx) := by simp [go_sem]
  have j1 : World.cell? ((((w.alloc (.cells #[.int .i64 ex, .int .i64 ey] 25)).alloc (.cells #[.int .i64 fx, .int .i64 fy] 25)).alloc (.cells #[.int .i64 jx, .int .i64 jy] 25)).alloc (.cells #[.int .i64 vx, .int .i64 vy] 25)) ⟨w.heap.size + 1 + 1, 1, none⟩ = some (.int .i64 jy) := by simp [go_sem]
  have lj : w.heap.size + 1 + 1 < ((((w.alloc (.cells #[.int .i64 ex, .int .i64 ey] 25)).alloc (.cells #[.int .i64 fx, .int .i64 fy] 25)).alloc (.cells #[.int .i64 jx, .int .i64 jy] 25)).alloc (.cells #[.int .i64 vx, .int .i64 vy] 25)).heap.size := by simp <;> omega
  have v0 : World.cell? ((((w.alloc (.cells #[.int .i64 ex, .int .i64 ey] 25)).alloc (.cells #[.int .i64 fx, .int .i64 fy] 25)).alloc (.cells #[.int .i64 jx, .int .i64 jy] 25)).alloc (.cells #[.int .i64 vx, .int .i64 vy] 25)) ⟨w.heap.size + 1 + 1 + 1, 0, none⟩ = some (.int .i64 vx) := by simp [go_sem]
  have v1 : World.cell? ((((w.alloc (.cells #[.int .i64 ex, .int .i64 ey] 25)).alloc (.cells #[.int .i64 fx, .int .i64 fy] 25)).alloc (.cells #[.int .i64 jx, .int .i64 jy] 25)).alloc (.cells #[.int .i64 vx, .int .i64 vy] 25)) ⟨w.heap.size + 1 + 1 + 1, 1, none⟩ = some (.int .i64 vy) := by simp [go_sem]
  have lv : w.heap.size + 1 + 1 + 1 < ((((w.alloc (.cells #[.int .i64 ex, .int .i64 ey] 25)).alloc (.cells #[.int .i64 fx, .int .i64 fy] 25)).alloc (.cells #[.int .i64 jx, .int .i64 jy] 25)).alloc (.cells #[.int .i64 vx, .int .i64 vy] 25)).heap.size := by simp <;> omega
  have HB := Lib.hid (show Below w.heap.size w ((((w.alloc (.cells #[.int .i64 ex, .int .i64 ey] 25)).alloc (.cells #[.int .i64 fx, .int .i64 fy] 25)).alloc (.cells #[.int .i64 jx, .int .i64 jy] 25)).alloc (.cells #[.int .i64 vx, .int .i64 vy] 25)) from (((((Below.refl _ _).alloc (by simp <;> omega) _).alloc (by simp <;> omega) _).alloc (by simp <;> omega) _).alloc (by simp <;> omega) _))
  go_enter Try.func7, Try.ntmps7
  go_wp2_with fail
  generalize (((w.alloc (.cells #[.int .i64 ex, .int .i64 ey] 25)).alloc (.cells #[.int .i64 fx, .int .i64 fy] 25)).alloc (.cells #[.int .i64 jx, .int .i64 jy] 25)).alloc (.cells #[.int .i64 vx, .int .i64 vy] 25) = w1 at *
  with_reducible refine (head_any _).mono ?_
  rintro e_ w2 ⟨rfl, hb⟩
  replace HB := Lib.hid (on_below HB.out hb)
  replace e0 := keepc hb e0
  replace e1 := keepc hb e1
  replace f0 := keepc hb f0
  replace f1 := keepc hb f1
  replace j0 := keepc hb j0
  replace j1 := keepc hb j1
  replace v0 := keepc hb v0
  replace v1 := keepc hb v1
  replace le := Nat.lt_of_lt_of_le le hb.size
  replace lf := Nat.lt_of_lt_of_le lf hb.size
  replace lj := Nat.lt_of_lt_of_le lj hb.size
  replace lv := Nat.lt_of_lt_of_le lv hb.size
  clear hb
  go_wp2_with fail
  with_reducible refine (flat_is ex ey false H0.out _).mono ?_
  rintro e_ w3 ⟨rfl, hb⟩
  replace HB := Lib.hid (on_below HB.out hb)
  replace e0 := keepc hb e0
  replace e1 := keepc hb e1
  replace f0 := keepc hb f0
  replace f1 := keepc hb f1
  replace j0 := keepc hb j0
  replace j1 := keepc hb j1
  replace v0 := keepc hb v0
  replace v1 := keepc hb v1
  replace le := Nat.lt_of_lt_of_le le hb.size
  replace lf := Nat.lt_of_lt_of_le lf hb.size
  replace lj := Nat.lt_of_lt_of_le lj hb.size
  replace lv := Nat.lt_of_lt_of_le lv hb.size
  clear hb
  go_wp2_with fail
  go_ret
  exact ⟨rfl, HB.out⟩
set_option maxRecDepth 100000 in
set_option maxHeartbeats 2000000 in
theorem law_2 (ex ey fx fy jx jy vx vy : Int) (h0 : pp ex ey = true) (h1 : pp fx fy = false) (w : World) :
    Calls Try.prog 7 #[.agg #[.int .i64 ex, .int .i64 ey], .agg #[.int .i64 fx, .int .i64 fy], .agg #[.int .i64 jx, .int .i64 jy], .agg #[.int .i64 vx, .int .i64 vy]] w fun e_ w' => e_ = .returned (.bool true) ∧ Below w.heap.size w w' := by
  have H0 := Lib.hid h0
  clear h0
  have H1 := Lib.hid h1
  clear h1
  have e0 : World.cell? ((((w.alloc (.cells #[.int .i64 ex, .int .i64 ey] 25)).alloc (.cells #[.int .i64 fx, .int .i64 fy] 25)).alloc (.cells #[.int .i64 jx, .int .i64 jy] 25)).alloc (.cells #[.int .i64 vx, .int .i64 vy] 25)) ⟨w.heap.size, 0, none⟩ = some (.int .i64 ex) := by simp [go_sem]
  have e1 : World.cell? ((((w.alloc (.cells #[.int .i64 ex, .int .i64 ey] 25)).alloc (.cells #[.int .i64 fx, .int .i64 fy] 25)).alloc (.cells #[.int .i64 jx, .int .i64 jy] 25)).alloc (.cells #[.int .i64 vx, .int .i64 vy] 25)) ⟨w.heap.size, 1, none⟩ = some (.int .i64 ey) := by simp [go_sem]
  have le : w.heap.size < ((((w.alloc (.cells #[.int .i64 ex, .int .i64 ey] 25)).alloc (.cells #[.int .i64 fx, .int .i64 fy] 25)).alloc (.cells #[.int .i64 jx, .int .i64 jy] 25)).alloc (.cells #[.int .i64 vx, .int .i64 vy] 25)).heap.size := by simp <;> omega
  have f0 : World.cell? ((((w.alloc (.cells #[.int .i64 ex, .int .i64 ey] 25)).alloc (.cells #[.int .i64 fx, .int .i64 fy] 25)).alloc (.cells #[.int .i64 jx, .int .i64 jy] 25)).alloc (.cells #[.int .i64 vx, .int .i64 vy] 25)) ⟨w.heap.size + 1, 0, none⟩ = some (.int .i64 fx) := by simp [go_sem]
  have f1 : World.cell? ((((w.alloc (.cells #[.int .i64 ex, .int .i64 ey] 25)).alloc (.cells #[.int .i64 fx, .int .i64 fy] 25)).alloc (.cells #[.int .i64 jx, .int .i64 jy] 25)).alloc (.cells #[.int .i64 vx, .int .i64 vy] 25)) ⟨w.heap.size + 1, 1, none⟩ = some (.int .i64 fy) := by simp [go_sem]
  have lf : w.heap.size + 1 < ((((w.alloc (.cells #[.int .i64 ex, .int .i64 ey] 25)).alloc (.cells #[.int .i64 fx, .int .i64 fy] 25)).alloc (.cells #[.int .i64 jx, .int .i64 jy] 25)).alloc (.cells #[.int .i64 vx, .int .i64 vy] 25)).heap.size := by simp <;> omega
  have j0 : World.cell? ((((w.alloc (.cells #[.int .i64 ex, .int .i64 ey] 25)).alloc (.cells #[.int .i64 fx, .int .i64 fy] 25)).alloc (.cells #[.int .i64 jx, .int .i64 jy] 25)).alloc (.cells #[.int .i64 vx, .int .i64 vy] 25)) ⟨w.heap.size + 1 + 1, 0, none⟩ = some (.int .i64 jx) := by simp [go_sem]
  have j1 : World.cell? ((((w.alloc (.cells #[.int .i64 ex, .int .i64 ey] 25)).alloc (.cells #[.int .i64 fx, .int .i64 fy] 25)).alloc (.cells #[.int .i64 jx, .int .i64 jy] 25)).alloc (.cells #[.int .i64 vx, .int .i64 vy] 25)) ⟨w.heap.size + 1 + 1, 1, none⟩ = some (.int .i64 jy) := by simp [go_sem]
  have lj : w.heap.size + 1 + 1 < ((((w.alloc (.cells #[.int .i64 ex, .int .i64 ey] 25)).alloc (.cells #[.int .i64 fx, .int .i64 fy] 25)).alloc (.cells #[.int .i64 jx, .int .i64 jy] 25)).alloc (.cells #[.int .i64 vx, .int .i64 vy] 25)).heap.size := by simp <;> omega
  have v0 : World.cell? ((((w.alloc (.cells #[.int .i64 ex, .int .i64 ey] 25)).alloc (.cells #[.int .i64 fx, .int .i64 fy] 25)).alloc (.cells #[.int .i64 jx, .int .i64 jy] 25)).alloc (.cells #[.int .i64 vx, .int .i64 vy] 25)) ⟨w.heap.size + 1 + 1 + 1, 0, none⟩ = some (.int .i64 vx) := by simp [go_sem]
  have v1 : World.cell? ((((w.alloc (.cells #[.int .i64 ex, .int .i64 ey] 25)).alloc (.cells #[.int .i64 fx, .int .i64 fy] 25)).alloc (.cells #[.int .i64 jx, .int .i64 jy] 25)).alloc (.cells #[.int .i64 vx, .int .i64 vy] 25)) ⟨w.heap.size + 1 + 1 + 1, 1, none⟩ = some (.int .i64 vy) := by simp [go_sem]
  have lv : w.heap.size + 1 + 1 + 1 < ((((w.alloc (.cells #[.int .i64 ex, .int .i64 ey] 25)).alloc (.cells #[.int .i64 fx, .int .i64 fy] 25)).alloc (.cells #[.int .i64 jx, .int .i64 jy] 25)).alloc (.cells #[.int .i64 vx, .int .i64 vy] 25)).heap.size := by simp <;> omega
  have HB := Lib.hid (show Below w.heap.size w ((((w.alloc (.cells #[.int .i64 ex, .int .i64 ey] 25)).alloc (.cells #[.int .i64 fx, .int .i64 fy] 25)).alloc (.cells #[.int .i64 jx, .int .i64 jy] 25)).alloc (.cells #[.int .i64 vx, .int .i64 vy] 25)) from (((((Below.refl _ _).alloc (by simp <;> omega) _).alloc (by simp <;> omega) _).alloc (by simp <;> omega) _).alloc (by simp <;> omega) _))
  go_enter Try.func7, Try.ntmps7
  go_wp2_with fail
  generalize (((w.alloc (.cells #[.int .i64 ex, .int .i64 ey] 25)).alloc (.cells #[.int .i64 fx, .int .i64 fy] 25)).alloc (.cells #[.int .i64 jx, .int .i64 jy] 25)).alloc (.cells #[.int .i64 vx, .int .i64 vy] 25) = w1 at *
  with_reducible refine (head_any _).mono ?_
  rintro e_ w2 ⟨rfl, hb⟩
  replace HB := Lib.hid (on_below HB.out hb)
  replace e0 := keepc hb e0
  replace e1 := keepc hb e1
  replace f0 := keepc hb f0
  replace f1 := keepc hb f1
  replace j0 := keepc hb j0
  replace j1 := keepc hb j1
  replace v0 := keepc hb v0
  replace v1 := keepc hb v1
  replace le := Nat.lt_of_lt_of_le le hb.size
  replace lf := Nat.lt_of_lt_of_le lf hb.size
  replace lj := Nat.lt_of_lt_of_le lj hb.size
  replace lv := Nat.lt_of_lt_of_le lv hb.size
  clear hb
  go_wp2_with fail
  with_reducible refine (flat_is ex ey true H0.out _).mono ?_
  rintro e_ w3 ⟨rfl, hb⟩
  replace HB := Lib.hid (on_below HB.out hb)
  replace e0 := keepc hb e0
  replace e1 := keepc hb e1
  replace f0 := keepc hb f0
  replace f1 := keepc hb f1
  replace j0 := keepc hb j0
  replace j1 := keepc hb j1
  replace v0 := keepc hb v0
  replace v1 := keepc hb v1
  replace le := Nat.lt_of_lt_of_le le hb.size
  replace lf := Nat.lt_of_lt_of_le lf hb.size
  replace lj := Nat.lt_of_lt_of_le lj hb.size
  replace lv := Nat.lt_of_lt_of_le lv hb.size
  clear hb
  go_wp2_with fail
  with_reducible refine (flat_is fx fy false H1.out _).mono ?_
  rintro e_ w4 ⟨rfl, hb⟩
  replace HB := Lib.hid (on_below HB.out hb)
  replace e0 := keepc hb e0
  replace e1 := keepc hb e1
  replace f0 := keepc hb f0
  replace f1 := keepc hb f1
  replace j0 := keepc hb j0
  replace j1 := keepc hb j1
  replace v0 := keepc hb v0
  replace v1 := keepc hb v1
  replace le := Nat.lt_of_lt_of_le le hb.size
  replace lf := Nat.lt_of_lt_of_le lf hb.size
  replace lj := Nat.lt_of_lt_of_le lj hb.size
  replace lv := Nat.lt_of_lt_of_le lv hb.size
  clear hb
  go_wp2_with fail
  go_ret
  exact ⟨rfl, HB.out⟩
set_option maxRecDepth 100000 in
set_option maxHeartbeats 2000000 in
theorem law_3 (ex ey fx fy jx jy vx vy : Int) (h0 : pp ex ey = true) (h1 : pp fx fy = true) (h2 : pp jx jy = false) (w : World) :
    Calls Try.prog 7 #[.agg #[.int .i64 ex, .int .i64 ey], .agg #[.int .i64 fx, .int .i64 fy], .agg #[.int .i64 jx, .int .i64 jy], .agg #[.int .i64 vx, .int .i64 vy]] w fun e_ w' => e_ = .returned (.bool true) ∧ Below w.heap.size w w' := by
  have H0 := Lib.hid h0
  clear h0
  have H1 := Lib.hid h1
  clear h1
  have H2 := Lib.hid h2
  clear h2
  have e0 : World.cell? ((((w.alloc (.cells #[.int .i64 ex, .int .i64 ey] 25)).alloc (.cells #[.int .i64 fx, .int .i64 fy] 25)).alloc (.cells #[.int .i64 jx, .int .i64 jy] 25)).alloc (.cells #[.int .i64 vx, .int .i64 vy] 25)) ⟨w.heap.size, 0, none⟩ = some (.int .i64 ex) := by simp [go_sem]
  have e1 : World.cell? ((((w.alloc (.cells #[.int .i64 ex, .int .i64 ey] 25)).alloc (.cells #[.int .i64 fx, .int .i64 fy] 25)).alloc (.cells #[.int .i64 jx, .int .i64 jy] 25)).alloc (.cells #[.int .i64 vx, .int .i64 vy] 25)) ⟨w.heap.size, 1, none⟩ = some (.int .i64 ey) := by simp [go_sem]
  have le : w.heap.size < ((((w.alloc (.cells #[.int .i64 ex, .int .i64 ey] 25)).alloc (.cells #[.int .i64 fx, .int .i64 fy] 25)).alloc (.cells #[.int .i64 jx, .int .i64 jy] 25)).alloc (.cells #[.int .i64 vx, .int .i64 vy] 25)).heap.size := by simp <;> omega
  have f0 : World.cell? ((((w.alloc (.cells #[.int .i64 ex, .int .i64 ey] 25)).alloc (.cells #[.int .i64 fx, .int .i64 fy] 25)).alloc (.cells #[.int .i64 jx, .int .i64 jy] 25)).alloc (.cells #[.int .i64 vx, .int .i64 vy] 25)) ⟨w.heap.size + 1, 0, none⟩ = some (.int .i64 fx) := by simp [go_sem]
  have f1 : World.cell? ((((w.alloc (.cells #[.int .i64 ex, .int .i64 ey] 25)).alloc (.cells #[.int .i64 fx, .int .i64 fy] 25)).alloc (.cells #[.int .i64 jx, .int .i64 jy] 25)).alloc (.cells #[.int .i64 vx, .int .i64 vy] 25)) ⟨w.heap.size + 1, 1, none⟩ = some (.int .i64 fy) := by simp [go_sem]
  have lf : w.heap.size + 1 < ((((w.alloc (.cells #[.int .i64 ex, .int .i64 ey] 25)).alloc (.cells #[.int .i64 fx, .int .i64 fy] 25)).alloc (.cells #[.int .i64 jx, .int .i64 jy] 25)).alloc (.cells #[.int .i64 vx, .int .i64 vy] 25)).heap.size := by simp <;> omega
  have j0 : World.cell? ((((w.alloc (.cells #[.int .i64 ex, .int .i64 ey] 25)).alloc (.cells #[.int .i64 fx, .int .i64 fy] 25)).alloc (.cells #[.int .i64 jx, .int .i64 jy] 25)).alloc (.cells #[.int .i64 vx, .int .i64 vy] 25)) ⟨w.heap.size + 1 + 1, 0, none⟩ = some (.int .i64 jx) := by simp [go_sem]
  have j1 : World.cell? ((((w.alloc (.cells #[.int .i64 ex, .int .i64 ey] 25)).alloc (.cells #[.int .i64 fx, .int .i64 fy] 25)).alloc (.cells #[.int .i64 jx, .int .i64 jy] 25)).alloc (.cells #[.int .i64 vx, .int .i64 vy] 25)) ⟨w.heap.size + 1 + 1, 1, none⟩ = some (.int .i64 jy) := by simp [go_sem]
  have lj : w.heap.size + 1 + 1 < ((((w.alloc (.cells #[.int .i64 ex, .int .i64 ey] 25)).alloc (.cells #[.int .i64 fx, .int .i64 fy] 25)).alloc (.cells #[.int .i64 jx, .int .i64 jy] 25)).alloc (.cells #[.int .i64 vx, .int .i64 vy] 25)).heap.size := by simp <;> omega
  have v0 : World.cell? ((((w.alloc (.cells #[.int .i64 ex, .int .i64 ey] 25)).alloc (.cells #[.int .i64 fx, .int .i64 fy] 25)).alloc (.cells #[.int .i64 jx, .int .i64 jy] 25)).alloc (.cells #[.int .i64 vx, .int .i64 vy] 25)) ⟨w.heap.size + 1 + 1 + 1, 0, none⟩ = some (.int .i64 vx) := by simp [go_sem]
  have v1 : World.cell? ((((w.alloc (.cells #[.int .i64 ex, .int .i64 ey] 25)).alloc (.cells #[.int .i64 fx, .int .i64 fy] 25)).alloc (.cells #[.int .i64 jx, .int .i64 jy] 25)).alloc (.cells #[.int .i64 vx, .int .i64 vy] 25)) ⟨w.heap.size + 1 + 1 + 1, 1, none⟩ = some (.int .i64 vy) := by simp [go_sem]
  have lv : w.heap.size + 1 + 1 + 1 < ((((w.alloc (.cells #[.int .i64 ex, .int .i64 ey] 25)).alloc (.cells #[.int .i64 fx, .int .i64 fy] 25)).alloc (.cells #[.int .i64 jx, .int .i64 jy] 25)).alloc (.cells #[.int .i64 vx, .int .i64 vy] 25)).heap.size := by simp <;> omega
  have HB := Lib.hid (show Below w.heap.size w ((((w.alloc (.cells #[.int .i64 ex, .int .i64 ey] 25)).alloc (.cells #[.int .i64 fx, .int .i64 fy] 25)).alloc (.cells #[.int .i64 jx, .int .i64 jy] 25)).alloc (.cells #[.int .i64 vx, .int .i64 vy] 25)) from (((((Below.refl _ _).alloc (by simp <;> omega) _).alloc (by simp <;> omega) _).alloc (by simp <;> omega) _).alloc (by simp <;> omega) _))
  go_enter Try.func7, Try.ntmps7
  go_wp2_with fail
  generalize (((w.alloc (.cells #[.int .i64 ex, .int .i64 ey] 25)).alloc (.cells #[.int .i64 fx, .int .i64 fy] 25)).alloc (.cells #[.int .i64 jx, .int .i64 jy] 25)).alloc (.cells #[.int .i64 vx, .int .i64 vy] 25) = w1 at *
  with_reducible refine (head_any _).mono ?_
  rintro e_ w2 ⟨rfl, hb⟩
  replace HB := Lib.hid (on_below HB.out hb)
  replace e0 := keepc hb e0
  replace e1 := keepc hb e1
  replace f0 := keepc hb f0
  replace f1 := keepc hb f1
  replace j0 := keepc hb j0
  replace j1 := keepc hb j1
  replace v0 := keepc hb v0
  replace v1 := keepc hb v1
  replace le := Nat.lt_of_lt_of_le le hb.size
  replace lf := Nat.lt_of_lt_of_le lf hb.size
  replace lj := Nat.lt_of_lt_of_le lj hb.size
  replace lv := Nat.lt_of_lt_of_le lv hb.size
  clear hb
  go_wp2_with fail
  with_reducible refine (flat_is ex ey true H0.out _).mono ?_
  rintro e_ w3 ⟨rfl, hb⟩
  replace HB := Lib.hid (on_below HB.out hb)
  replace e0 := keepc hb e0
  replace e1 := keepc hb e1
  replace f0 := keepc hb f0
  replace f1 := keepc hb f1
  replace j0 := keepc hb j0
  replace j1 := keepc hb j1
  replace v0 := keepc hb v0
  replace v1 := keepc hb v1
  replace le := Nat.lt_of_lt_of_le le hb.size
  replace lf := Nat.lt_of_lt_of_le lf hb.size
  replace lj := Nat.lt_of_lt_of_le lj hb.size
  replace lv := Nat.lt_of_lt_of_le lv hb.size
  clear hb
  go_wp2_with fail
  with_reducible refine (flat_is fx fy true H1.out _).mono ?_
  rintro e_ w4 ⟨rfl, hb⟩
  replace HB := Lib.hid (on_below HB.out hb)
  replace e0 := keepc hb e0
  replace e1 := keepc hb e1
  replace f0 := keepc hb f0
  replace f1 := keepc hb f1
  replace j0 := keepc hb j0
  replace j1 := keepc hb j1
  replace v0 := keepc hb v0
  replace v1 := keepc hb v1
  replace le := Nat.lt_of_lt_of_le le hb.size
  replace lf := Nat.lt_of_lt_of_le lf hb.size
  replace lj := Nat.lt_of_lt_of_le lj hb.size
  replace lv := Nat.lt_of_lt_of_le lv hb.size
  clear hb
  go_wp2_with fail
  with_reducible refine (flat_is jx jy false H2.out _).mono ?_
  rintro e_ w5 ⟨rfl, hb⟩
  replace HB := Lib.hid (on_below HB.out hb)
  replace e0 := keepc hb e0
  replace e1 := keepc hb e1
  replace f0 := keepc hb f0
  replace f1 := keepc hb f1
  replace j0 := keepc hb j0
  replace j1 := keepc hb j1
  replace v0 := keepc hb v0
  replace v1 := keepc hb v1
  replace le := Nat.lt_of_lt_of_le le hb.size
  replace lf := Nat.lt_of_lt_of_le lf hb.size
  replace lj := Nat.lt_of_lt_of_le lj hb.size
  replace lv := Nat.lt_of_lt_of_le lv hb.size
  clear hb
  go_wp2_with fail
  go_ret
  exact ⟨rfl, HB.out⟩
set_option maxRecDepth 100000 in
set_option maxHeartbeats 2000000 in
theorem law_4 (ex ey fx fy jx jy vx vy : Int) (h0 : pp ex ey = true) (h1 : pp fx fy = true) (h2 : pp jx jy = true) (h3 : pp vx vy = false) (w : World) :
    Calls Try.prog 7 #[.agg #[.int .i64 ex, .int .i64 ey], .agg #[.int .i64 fx, .int .i64 fy], .agg #[.int .i64 jx, .int .i64 jy], .agg #[.int .i64 vx, .int .i64 vy]] w fun e_ w' => e_ = .returned (.bool true) ∧ Below w.heap.size w w' := by
  have H0 := Lib.hid h0
  clear h0
  have H1 := Lib.hid h1
  clear h1
  have H2 := Lib.hid h2
  clear h2
  have H3 := Lib.hid h3
  clear h3
  have e0 : World.cell? ((((w.alloc (.cells #[.int .i64 ex, .int .i64 ey] 25)).alloc (.cells #[.int .i64 fx, .int .i64 fy] 25)).alloc (.cells #[.int .i64 jx, .int .i64 jy] 25)).alloc (.cells #[.int .i64 vx, .int .i64 vy] 25)) ⟨w.heap.size, 0, none⟩ = some (.int .i64 ex) := by simp [go_sem]
  have e1 : World.cell? ((((w.alloc (.cells #[.int .i64 ex, .int .i64 ey] 25)).alloc (.cells #[.int .i64 fx, .int .i64 fy] 25)).alloc (.cells #[.int .i64 jx, .int .i64 jy] 25)).alloc (.cells #[.int .i64 vx, .int .i64 vy] 25)) ⟨w.heap.size, 1, none⟩ = some (.int .i64 ey) := by simp [go_sem]
  have le : w.heap.size < ((((w.alloc (.cells #[.int .i64 ex, .int .i64 ey] 25)).alloc (.cells #[.int .i64 fx, .int .i64 fy] 25)).alloc (.cells #[.int .i64 jx, .int .i64 jy] 25)).alloc (.cells #[.int .i64 vx, .int .i64 vy] 25)).heap.size := by simp <;> omega
  have f0 : World.cell? ((((w.alloc (.cells #[.int .i64 ex, .int .i64 ey] 25)).alloc (.cells #[.int .i64 fx, .int .i64 fy] 25)).alloc (.cells #[.int .i64 jx, .int .i64 jy] 25)).alloc (.cells #[.int .i64 vx, .int .i64 vy] 25)) ⟨w.heap.size + 1, 0, none⟩ = some (.int .i64 fx) := by simp [go_sem]
  have f1 : World.cell? ((((w.alloc (.cells #[.int .i64 ex, .int .i64 ey] 25)).alloc (.cells #[.int .i64 fx, .int .i64 fy] 25)).alloc (.cells #[.int .i64 jx, .int .i64 jy] 25)).alloc (.cells #[.int .i64 vx, .int .i64 vy] 25)) ⟨w.heap.size + 1, 1, none⟩ = some (.int .i64 fy) := by simp [go_sem]
  have lf : w.heap.size + 1 < ((((w.alloc (.cells #[.int .i64 ex, .int .i64 ey] 25)).alloc (.cells #[.int .i64 fx, .int .i64 fy] 25)).alloc (.cells #[.int .i64 jx, .int .i64 jy] 25)).alloc (.cells #[.int .i64 vx, .int .i64 vy] 25)).heap.size := by simp <;> omega
  have j0 : World.cell? ((((w.alloc (.cells #[.int .i64 ex, .int .i64 ey] 25)).alloc (.cells #[.int .i64 fx, .int .i64 fy] 25)).alloc (.cells #[.int .i64 jx, .int .i64 jy] 25)).alloc (.cells #[.int .i64 vx, .int .i64 vy] 25)) ⟨w.heap.size + 1 + 1, 0, none⟩ = some (.int .i64 jx) := by simp [go_sem]
  have j1 : World.cell? ((((w.alloc (.cells #[.int .i64 ex, .int .i64 ey] 25)).alloc (.cells #[.int .i64 fx, .int .i64 fy] 25)).alloc (.cells #[.int .i64 jx, .int .i64 jy] 25)).alloc (.cells #[.int .i64 vx, .int .i64 vy] 25)) ⟨w.heap.size + 1 + 1, 1, none⟩ = some (.int .i64 jy) := by simp [go_sem]
  have lj : w.heap.size + 1 + 1 < ((((w.alloc (.cells #[.int .i64 ex, .int .i64 ey] 25)).alloc (.cells #[.int .i64 fx, .int .i64 fy] 25)).alloc (.cells #[.int .i64 jx, .int .i64 jy] 25)).alloc (.cells #[.int .i64 vx, .int .i64 vy] 25)).heap.size := by simp <;> omega
  have v0 : World.cell? ((((w.alloc (.cells #[.int .i64 ex, .int .i64 ey] 25)).alloc (.cells #[.int .i64 fx, .int .i64 fy] 25)).alloc (.cells #[.int .i64 jx, .int .i64 jy] 25)).alloc (.cells #[.int .i64 vx, .int .i64 vy] 25)) ⟨w.heap.size + 1 + 1 + 1, 0, none⟩ = some (.int .i64 vx) := by simp [go_sem]
  have v1 : World.cell? ((((w.alloc (.cells #[.int .i64 ex, .int .i64 ey] 25)).alloc (.cells #[.int .i64 fx, .int .i64 fy] 25)).alloc (.cells #[.int .i64 jx, .int .i64 jy] 25)).alloc (.cells #[.int .i64 vx, .int .i64 vy] 25)) ⟨w.heap.size + 1 + 1 + 1, 1, none⟩ = some (.int .i64 vy) := by simp [go_sem]
  have lv : w.heap.size + 1 + 1 + 1 < ((((w.alloc (.cells #[.int .i64 ex, .int .i64 ey] 25)).alloc (.cells #[.int .i64 fx, .int .i64 fy] 25)).alloc (.cells #[.int .i64 jx, .int .i64 jy] 25)).alloc (.cells #[.int .i64 vx, .int .i64 vy] 25)).heap.size := by simp <;> omega
  have HB := Lib.hid (show Below w.heap.size w ((((w.alloc (.cells #[.int .i64 ex, .int .i64 ey] 25)).alloc (.cells #[.int .i64 fx, .int .i64 fy] 25)).alloc (.cells #[.int .i64 jx, .int .i64 jy] 25)).alloc (.cells #[.int .i64 vx, .int .i64 vy] 25)) from (((((Below.refl _ _).alloc (by simp <;> omega) _).alloc (by simp <;> omega) _).alloc (by simp <;> omega) _).alloc (by simp <;> omega) _))
  go_enter Try.func7, Try.ntmps7
  go_wp2_with fail
  generalize (((w.alloc (.cells #[.int .i64 ex, .int .i64 ey] 25)).alloc (.cells #[.int .i64 fx, .int .i64 fy] 25)).alloc (.cells #[.int .i64 jx, .int .i64 jy] 25)).alloc (.cells #[.int .i64 vx, .int .i64 vy] 25) = w1 at *
  with_reducible refine (head_any _).mono ?_
  rintro e_ w2 ⟨rfl, hb⟩
  replace HB := Lib.hid (on_below HB.out hb)
  replace e0 := keepc hb e0
  replace e1 := keepc hb e1
  replace f0 := keepc hb f0
  replace f1 := keepc hb f1
  replace j0 := keepc hb j0
  replace j1 := keepc hb j1
  replace v0 := keepc hb v0
  replace v1 := keepc hb v1
  replace le := Nat.lt_of_lt_of_le le hb.size
  replace lf := Nat.lt_of_lt_of_le lf hb.size
  replace lj := Nat.lt_of_lt_of_le lj hb.size
  replace lv := Nat.lt_of_lt_of_le lv hb.size
  clear hb
  go_wp2_with fail
  with_reducible refine (flat_is ex ey true H0.out _).mono ?_
  rintro e_ w3 ⟨rfl, hb⟩
  replace HB := Lib.hid (on_below HB.out hb)
  replace e0 := keepc hb e0
  replace e1 := keepc hb e1
  replace f0 := keepc hb f0
  replace f1 := keepc hb f1
  replace j0 := keepc hb j0
  replace j1 := keepc hb j1
  replace v0 := keepc hb v0
  replace v1 := keepc hb v1
  replace le := Nat.lt_of_lt_of_le le hb.size
  replace lf := Nat.lt_of_lt_of_le lf hb.size
  replace lj := Nat.lt_of_lt_of_le lj hb.size
  replace lv := Nat.lt_of_lt_of_le lv hb.size
  clear hb
  go_wp2_with fail
  with_reducible refine (flat_is fx fy true H1.out _).mono ?_
  rintro e_ w4 ⟨rfl, hb⟩
  replace HB := Lib.hid (on_below HB.out hb)
  replace e0 := keepc hb e0
  replace e1 := keepc hb e1
  replace f0 := keepc hb f0
  replace f1 := keepc hb f1
  replace j0 := keepc hb j0
  replace j1 := keepc hb j1
  replace v0 := keepc hb v0
  replace v1 := keepc hb v1
  replace le := Nat.lt_of_lt_of_le le hb.size
  replace lf := Nat.lt_of_lt_of_le lf hb.size
  replace lj := Nat.lt_of_lt_of_le lj hb.size
  replace lv := Nat.lt_of_lt_of_le lv hb.size
  clear hb
  go_wp2_with fail
  with_reducible refine (flat_is jx jy true H2.out _).mono ?_
  rintro e_ w5 ⟨rfl, hb⟩
  replace HB := Lib.hid (on_below HB.out hb)
  replace e0 := keepc hb e0
  replace e1 := keepc hb e1
  replace f0 := keepc hb f0
  replace f1 := keepc hb f1
  replace j0 := keepc hb j0
  replace j1 := keepc hb j1
  replace v0 := keepc hb v0
  replace v1 := keepc hb v1
  replace le := Nat.lt_of_lt_of_le le hb.size
  replace lf := Nat.lt_of_lt_of_le lf hb.size
  replace lj := Nat.lt_of_lt_of_le lj hb.size
  replace lv := Nat.lt_of_lt_of_le lv hb.size
  clear hb
  go_wp2_with fail
  with_reducible refine (flat_is vx vy false H3.out _).mono ?_
  rintro e_ w6 ⟨rfl, hb⟩
  replace HB := Lib.hid (on_below HB.out hb)
  replace e0 := keepc hb e0
  replace e1 := keepc hb e1
  replace f0 := keepc hb f0
  replace f1 := keepc hb f1
  replace j0 := keepc hb j0
  replace j1 := keepc hb j1
  replace v0 := keepc hb v0
  replace v1 := keepc hb v1
  replace le := Nat.lt_of_lt_of_le le hb.size
  replace lf := Nat.lt_of_lt_of_le lf hb.size
  replace lj := Nat.lt_of_lt_of_le lj hb.size
  replace lv := Nat.lt_of_lt_of_le lv hb.size
  clear hb
  go_wp2_with fail
  go_ret
  exact ⟨rfl, HB.out⟩
set_option maxRecDepth 100000 in
set_option maxHeartbeats 4000000 in
theorem law_5 (ex ey fx fy jx jy vx vy : Int) (h0 : pp ex ey = true) (h1 : pp fx fy = true) (h2 : pp jx jy = true) (h3 : pp vx vy = true) (N m E F sx sy tx ty : Int) (b1 b2 b3 : Bool) (ht : sgz (crs ex ey fx fy jx jy) = N) (bs : (-2000 ≤ sx ∧ sx ≤ 2000) ∧ -2000 ≤ sy ∧ sy ≤ 2000)
    (s1 : ∀ W, Calls Try.prog 14 #[.agg #[.int .i64 fx, .int .i64 fy, .int .i64 0], .agg #[.int .i64 ex, .int .i64 ey, .int .i64 0]] W fun e_ w' => e_ = .returned (.tuple #[.agg #[.int .i64 sx, .int .i64 sy, .int .i64 0], .int .i64 E]) ∧ Below W.heap.size W w')
    (s2 : ∀ W, Calls Try.prog 14 #[.agg #[.int .i64 jx, .int .i64 jy, .int .i64 0], .agg #[.int .i64 ex, .int .i64 ey, .int .i64 0]] W fun e_ w' => e_ = .returned (.tuple #[.agg #[.int .i64 tx, .int .i64 ty, .int .i64 0], .int .i64 F]) ∧ Below W.heap.size W w')
    (hc : E ≠ 0 ∨ (E = 0 ∧ F ≠ 0) ∨ (E = 0 ∧ F = 0))
    (dm : E = 0 → F = 0 → ∀ W, Calls Try.prog 16 #[.agg #[.int .i64 (-sy), .int .i64 sx, .int .i64 0], .agg #[.int .i64 tx, .int .i64 ty, .int .i64 0]] W fun e_ w' => e_ = .returned (.tuple #[.int .i64 m, .int .i64 0]) ∧ Below W.heap.size W w')
    (hs : (0 < m ∧ N = 1) ∨ (m = 0 ∧ N = 0) ∨ (m < 0 ∧ N = -1))
    (x1 : pp (ex + vx) (ey + vy) = b1) (x2 : pp (fx + vx) (fy + vy) = b2) (x3 : pp (jx + vx) (jy + vy) = b3)
    (dt_ : b1 = true → b2 = true → b3 = true → ∀ W, Calls Try.prog 23 #[.agg #[.int .i64 (ex + vx), .int .i64 (ey + vy)], .agg #[.int .i64 (fx + vx), .int .i64 (fy + vy)], .agg #[.int .i64 (jx + vx), .int .i64 (jy + vy)]] W fun e_ w' => e_ = .returned (.int .i64 N) ∧ Below W.heap.size W w') (w : World) :
    Calls Try.prog 7 #[.agg #[.int .i64 ex, .int .i64 ey], .agg #[.int .i64 fx, .int .i64 fy], .agg #[.int .i64 jx, .int .i64 jy], .agg #[.int .i64 vx, .int .i64 vy]] w fun e_ w' => e_ = .returned (.bool true) ∧ Below w.heap.size w w' := by
  have wr0 : IntKind.i64.wrap (ex + vx) = ex + vx := by obtain ⟨⟨_, _⟩, ⟨_, _⟩⟩ := bs; obtain ⟨⟨_, _⟩, ⟨_, _⟩⟩ := pp_iff.1 h0; obtain ⟨⟨_, _⟩, ⟨_, _⟩⟩ := pp_iff.1 h1; obtain ⟨⟨_, _⟩, ⟨_, _⟩⟩ := pp_iff.1 h2; obtain ⟨⟨_, _⟩, ⟨_, _⟩⟩ := pp_iff.1 h3; exact IntWalk.i64_in _ ⟨by omega, by omega⟩
  have wq0 : wrap64 (ex + vx) = ex + vx := by obtain ⟨⟨_, _⟩, ⟨_, _⟩⟩ := bs; obtain ⟨⟨_, _⟩, ⟨_, _⟩⟩ := pp_iff.1 h0; obtain ⟨⟨_, _⟩, ⟨_, _⟩⟩ := pp_iff.1 h1; obtain ⟨⟨_, _⟩, ⟨_, _⟩⟩ := pp_iff.1 h2; obtain ⟨⟨_, _⟩, ⟨_, _⟩⟩ := pp_iff.1 h3; exact IntWalk.wrap64_in _ ⟨by omega, by omega⟩
  have wr1 : IntKind.i64.wrap (ey + vy) = ey + vy := by obtain ⟨⟨_, _⟩, ⟨_, _⟩⟩ := bs; obtain ⟨⟨_, _⟩, ⟨_, _⟩⟩ := pp_iff.1 h0; obtain ⟨⟨_, _⟩, ⟨_, _⟩⟩ := pp_iff.1 h1; obtain ⟨⟨_, _⟩, ⟨_, _⟩⟩ := pp_iff.1 h2; obtain ⟨⟨_, _⟩, ⟨_, _⟩⟩ := pp_iff.1 h3; exact IntWalk.i64_in _ ⟨by omega, by omega⟩
  have wq1 : wrap64 (ey + vy) = ey + vy := by obtain ⟨⟨_, _⟩, ⟨_, _⟩⟩ := bs; obtain ⟨⟨_, _⟩, ⟨_, _⟩⟩ := pp_iff.1 h0; obtain ⟨⟨_, _⟩, ⟨_, _⟩⟩ := pp_iff.1 h1; obtain ⟨⟨_, _⟩, ⟨_, _⟩⟩ := pp_iff.1 h2; obtain ⟨⟨_, _⟩, ⟨_, _⟩⟩ := pp_iff.1 h3; exact IntWalk.wrap64_in _ ⟨by omega, by omega⟩
  have wr2 : IntKind.i64.wrap (fx + vx) = fx + vx := by obtain ⟨⟨_, _⟩, ⟨_, _⟩⟩ := bs; obtain ⟨⟨_, _⟩, ⟨_, _⟩⟩ := pp_iff.1 h0; obtain ⟨⟨_, _⟩, ⟨_, _⟩⟩ := pp_iff.1 h1; obtain ⟨⟨_, _⟩, ⟨_, _⟩⟩ := pp_iff.1 h2; obtain ⟨⟨_, _⟩, ⟨_, _⟩⟩ := pp_iff.1 h3; exact IntWalk.i64_in _ ⟨by omega, by omega⟩
  have wq2 : wrap64 (fx + vx) = fx + vx := by obtain ⟨⟨_, _⟩, ⟨_, _⟩⟩ := bs; obtain ⟨⟨_, _⟩, ⟨_, _⟩⟩ := pp_iff.1 h0; obtain ⟨⟨_, _⟩, ⟨_, _⟩⟩ := pp_iff.1 h1; obtain ⟨⟨_, _⟩, ⟨_, _⟩⟩ := pp_iff.1 h2; obtain ⟨⟨_, _⟩, ⟨_, _⟩⟩ := pp_iff.1 h3; exact IntWalk.wrap64_in _ ⟨by omega, by omega⟩
  have wr3 : IntKind.i64.wrap (fy + vy) = fy + vy := by obtain ⟨⟨_, _⟩, ⟨_, _⟩⟩ := bs; obtain ⟨⟨_, _⟩, ⟨_, _⟩⟩ := pp_iff.1 h0; obtain ⟨⟨_, _⟩, ⟨_, _⟩⟩ := pp_iff.1 h1; obtain ⟨⟨_, _⟩, ⟨_, _⟩⟩ := pp_iff.1 h2; obtain ⟨⟨_, _⟩, ⟨_, _⟩⟩ := pp_iff.1 h3; exact IntWalk.i64_in _ ⟨by omega, by omega⟩
  have wq3 : wrap64 (fy + vy) = fy + vy := by obtain ⟨⟨_, _⟩, ⟨_, _⟩⟩ := bs; obtain ⟨⟨_, _⟩, ⟨_, _⟩⟩ := pp_iff.1 h0; obtain ⟨⟨_, _⟩, ⟨_, _⟩⟩ := pp_iff.1 h1; obtain ⟨⟨_, _⟩, ⟨_, _⟩⟩ := pp_iff.1 h2; obtain ⟨⟨_, _⟩, ⟨_, _⟩⟩ := pp_iff.1 h3; exact IntWalk.wrap64_in _ ⟨by omega, by omega⟩
  have wr4 : IntKind.i64.wrap (jx + vx) = jx + vx := by obtain ⟨⟨_, _⟩, ⟨_, _⟩⟩ := bs; obtain ⟨⟨_, _⟩, ⟨_, _⟩⟩ := pp_iff.1 h0; obtain ⟨⟨_, _⟩, ⟨_, _⟩⟩ := pp_iff.1 h1; obtain ⟨⟨_, _⟩, ⟨_, _⟩⟩ := pp_iff.1 h2; obtain ⟨⟨_, _⟩, ⟨_, _⟩⟩ := pp_iff.1 h3; exact IntWalk.i64_in _ ⟨by omega, by omega⟩
  have wq4 : wrap64 (jx + vx) = jx + vx := by obtain ⟨⟨_, _⟩, ⟨_, _⟩⟩ := bs; obtain ⟨⟨_, _⟩, ⟨_, _⟩⟩ := pp_iff.1 h0; obtain ⟨⟨_, _⟩, ⟨_, _⟩⟩ := pp_iff.1 h1; obtain ⟨⟨_, _⟩, ⟨_, _⟩⟩ := pp_iff.1 h2; obtain ⟨⟨_, _⟩, ⟨_, _⟩⟩ := pp_iff.1 h3; exact IntWalk.wrap64_in _ ⟨by omega, by omega⟩
  have wr5 : IntKind.i64.wrap (jy + vy) = jy + vy := by obtain ⟨⟨_, _⟩, ⟨_, _⟩⟩ := bs; obtain ⟨⟨_, _⟩, ⟨_, _⟩⟩ := pp_iff.1 h0; obtain ⟨⟨_, _⟩, ⟨_, _⟩⟩ := pp_iff.1 h1; obtain ⟨⟨_, _⟩, ⟨_, _⟩⟩ := pp_iff.1 h2; obtain ⟨⟨_, _⟩, ⟨_, _⟩⟩ := pp_iff.1 h3; exact IntWalk.i64_in _ ⟨by omega, by omega⟩
  have wq5 : wrap64 (jy + vy) = jy + vy := by obtain ⟨⟨_, _⟩, ⟨_, _⟩⟩ := bs; obtain ⟨⟨_, _⟩, ⟨_, _⟩⟩ := pp_iff.1 h0; obtain ⟨⟨_, _⟩, ⟨_, _⟩⟩ := pp_iff.1 h1; obtain ⟨⟨_, _⟩, ⟨_, _⟩⟩ := pp_iff.1 h2; obtain ⟨⟨_, _⟩, ⟨_, _⟩⟩ := pp_iff.1 h3; exact IntWalk.wrap64_in _ ⟨by omega, by omega⟩
  have wr6 : IntKind.i64.wrap (-sy) = -sy := by obtain ⟨⟨_, _⟩, ⟨_, _⟩⟩ := bs; obtain ⟨⟨_, _⟩, ⟨_, _⟩⟩ := pp_iff.1 h0; obtain ⟨⟨_, _⟩, ⟨_, _⟩⟩ := pp_iff.1 h1; obtain ⟨⟨_, _⟩, ⟨_, _⟩⟩ := pp_iff.1 h2; obtain ⟨⟨_, _⟩, ⟨_, _⟩⟩ := pp_iff.1 h3; exact IntWalk.i64_in _ ⟨by omega, by omega⟩
  have wq6 : wrap64 (-sy) = -sy := by obtain ⟨⟨_, _⟩, ⟨_, _⟩⟩ := bs; obtain ⟨⟨_, _⟩, ⟨_, _⟩⟩ := pp_iff.1 h0; obtain ⟨⟨_, _⟩, ⟨_, _⟩⟩ := pp_iff.1 h1; obtain ⟨⟨_, _⟩, ⟨_, _⟩⟩ := pp_iff.1 h2; obtain ⟨⟨_, _⟩, ⟨_, _⟩⟩ := pp_iff.1 h3; exact IntWalk.wrap64_in _ ⟨by omega, by omega⟩
  have tn := fun W => trn_is ex ey fx fy jx jy N h0 h1 h2 ht W
  clear ht bs
  have TN := Lib.hid tn
  clear tn
  have S1 := Lib.hid s1
  clear s1
  have S2 := Lib.hid s2
  clear s2
  have HC := Lib.hid hc
  clear hc
  have DM := Lib.hid dm
  clear dm
  have HS := Lib.hid hs
  clear hs
  have X1 := Lib.hid x1
  clear x1
  have X2 := Lib.hid x2
  clear x2
  have X3 := Lib.hid x3
  clear x3
  have DT := Lib.hid dt_
  clear dt_
  have H0 := Lib.hid h0
  clear h0
  have H1 := Lib.hid h1
  clear h1
  have H2 := Lib.hid h2
  clear h2
  have H3 := Lib.hid h3
  clear h3
  have e0 : World.cell? ((((w.alloc (.cells #[.int .i64 ex, .int .i64 ey] 25)).alloc (.cells #[.int .i64 fx, .int .i64 fy] 25)).alloc (.cells #[.int .i64 jx, .int .i64 jy] 25)).alloc (.cells #[.int .i64 vx, .int .i64 vy] 25)) ⟨w.heap.size, 0, none⟩ = some (.int .i64 ex) := by simp [go_sem]
  have e1 : World.cell? ((((w.alloc (.cells #[.int .i64 ex, .int .i64 ey] 25)).alloc (.cells #[.int .i64 fx, .int .i64 fy] 25)).alloc (.cells #[.int .i64 jx, .int .i64 jy] 25)).alloc (.cells #[.int .i64 vx, .int .i64 vy] 25)) ⟨w.heap.size, 1, none⟩ = some (.int .i64 ey) := by simp [go_sem]
  have le : w.heap.size < ((((w.alloc (.cells #[.int .i64 ex, .int .i64 ey] 25)).alloc (.cells #[.int .i64 fx, .int .i64 fy] 25)).alloc (.cells #[.int .i64 jx, .int .i64 jy] 25)).alloc (.cells #[.int .i64 vx, .int .i64 vy] 25)).heap.size := by simp <;> omega
  have f0 : World.cell? ((((w.alloc (.cells #[.int .i64 ex, .int .i64 ey] 25)).alloc (.cells #[.int .i64 fx, .int .i64 fy] 25)).alloc (.cells #[.int .i64 jx, .int .i64 jy] 25)).alloc (.cells #[.int .i64 vx, .int .i64 vy] 25)) ⟨w.heap.size + 1, 0, none⟩ = some (.int .i64 fx) := by simp [go_sem]
  have f1 : World.cell? ((((w.alloc (.cells #[.int .i64 ex, .int .i64 ey] 25)).alloc (.cells #[.int .i64 fx, .int .i64 fy] 25)).alloc (.cells #[.int .i64 jx, .int .i64 jy] 25)).alloc (.cells #[.int .i64 vx, .int .i64 vy] 25)) ⟨w.heap.size + 1, 1, none⟩ = some (.int .i64 fy) := by simp [go_sem]
  have lf : w.heap.size + 1 < ((((w.alloc (.cells #[.int .i64 ex, .int .i64 ey] 25)).alloc (.cells #[.int .i64 fx, .int .i64 fy] 25)).alloc (.cells #[.int .i64 jx, .int .i64 jy] 25)).alloc (.cells #[.int .i64 vx, .int .i64 vy] 25)).heap.size := by simp <;> omega
  have j0 : World.cell? ((((w.alloc (.cells #[.int .i64 ex, .int .i64 ey] 25)).alloc (.cells #[.int .i64 fx, .int .i64 fy] 25)).alloc (.cells #[.int .i64 jx, .int .i64 jy] 25)).alloc (.cells #[.int .i64 vx, .int .i64 vy] 25)) ⟨w.heap.size + 1 + 1, 0, none⟩ = some (.int .i64 jx) := by simp [go_sem]
  have j1 : World.cell? ((((w.alloc (.cells #[.int .i64 ex, .int .i64 ey] 25)).alloc (.cells #[.int .i64 fx, .int .i64 fy] 25)).alloc (.cells #[.int .i64 jx, .int .i64 jy] 25)).alloc (.cells #[.int .i64 vx, .int .i64 vy] 25)) ⟨w.heap.size + 1 + 1, 1, none⟩ = some (.int .i64 jy) := by simp [go_sem]
  have lj : w.heap.size + 1 + 1 < ((((w.alloc (.cells #[.int .i64 ex, .int .i64 ey] 25)).alloc (.cells #[.int .i64 fx, .int .i64 fy] 25)).alloc (.cells #[.int .i64 jx, .int .i64 jy] 25)).alloc (.cells #[.int .i64 vx, .int .i64 vy] 25)).heap.size := by simp <;> omega
  have v0 : World.cell? ((((w.alloc (.cells #[.int .i64 ex, .int .i64 ey] 25)).alloc (.cells #[.int .i64 fx, .int .i64 fy] 25)).alloc (.cells #[.int .i64 jx, .int .i64 jy] 25)).alloc (.cells #[.int .i64 vx, .int .i64 vy] 25)) ⟨w.heap.size + 1 + 1 + 1, 0, none⟩ = some (.int .i64 vx) := by simp [go_sem]
  have v1 : World.cell? ((((w.alloc (.cells #[.int .i64 ex, .int .i64 ey] 25)).alloc (.cells #[.int .i64 fx, .int .i64 fy] 25)).alloc (.cells #[.int .i64 jx, .int .i64 jy] 25)).alloc (.cells #[.int .i64 vx, .int .i64 vy] 25)) ⟨w.heap.size + 1 + 1 + 1, 1, none⟩ = some (.int .i64 vy) := by simp [go_sem]
  have lv : w.heap.size + 1 + 1 + 1 < ((((w.alloc (.cells #[.int .i64 ex, .int .i64 ey] 25)).alloc (.cells #[.int .i64 fx, .int .i64 fy] 25)).alloc (.cells #[.int .i64 jx, .int .i64 jy] 25)).alloc (.cells #[.int .i64 vx, .int .i64 vy] 25)).heap.size := by simp <;> omega
  have HB := Lib.hid (show Below w.heap.size w ((((w.alloc (.cells #[.int .i64 ex, .int .i64 ey] 25)).alloc (.cells #[.int .i64 fx, .int .i64 fy] 25)).alloc (.cells #[.int .i64 jx, .int .i64 jy] 25)).alloc (.cells #[.int .i64 vx, .int .i64 vy] 25)) from (((((Below.refl _ _).alloc (by simp <;> omega) _).alloc (by simp <;> omega) _).alloc (by simp <;> omega) _).alloc (by simp <;> omega) _))
  go_enter Try.func7, Try.ntmps7
  go_wp2_with fail
  generalize (((w.alloc (.cells #[.int .i64 ex, .int .i64 ey] 25)).alloc (.cells #[.int .i64 fx, .int .i64 fy] 25)).alloc (.cells #[.int .i64 jx, .int .i64 jy] 25)).alloc (.cells #[.int .i64 vx, .int .i64 vy] 25) = w1 at *
  with_reducible refine (head_any _).mono ?_
  rintro e_ w2 ⟨rfl, hb⟩
  replace HB := Lib.hid (on_below HB.out hb)
  replace e0 := keepc hb e0
  replace e1 := keepc hb e1
  replace f0 := keepc hb f0
  replace f1 := keepc hb f1
  replace j0 := keepc hb j0
  replace j1 := keepc hb j1
  replace v0 := keepc hb v0
  replace v1 := keepc hb v1
  replace le := Nat.lt_of_lt_of_le le hb.size
  replace lf := Nat.lt_of_lt_of_le lf hb.size
  replace lj := Nat.lt_of_lt_of_le lj hb.size
  replace lv := Nat.lt_of_lt_of_le lv hb.size
  clear hb
  go_wp2_with fail
  with_reducible refine (flat_is ex ey true H0.out _).mono ?_
  rintro e_ w3 ⟨rfl, hb⟩
  replace HB := Lib.hid (on_below HB.out hb)
  replace e0 := keepc hb e0
  replace e1 := keepc hb e1
  replace f0 := keepc hb f0
  replace f1 := keepc hb f1
  replace j0 := keepc hb j0
  replace j1 := keepc hb j1
  replace v0 := keepc hb v0
  replace v1 := keepc hb v1
  replace le := Nat.lt_of_lt_of_le le hb.size
  replace lf := Nat.lt_of_lt_of_le lf hb.size
  replace lj := Nat.lt_of_lt_of_le lj hb.size
  replace lv := Nat.lt_of_lt_of_le lv hb.size
  clear hb
  go_wp2_with fail
  with_reducible refine (flat_is fx fy true H1.out _).mono ?_
  rintro e_ w4 ⟨rfl, hb⟩
  replace HB := Lib.hid (on_below HB.out hb)
  replace e0 := keepc hb e0
  replace e1 := keepc hb e1
  replace f0 := keepc hb f0
  replace f1 := keepc hb f1
  replace j0 := keepc hb j0
  replace j1 := keepc hb j1
  replace v0 := keepc hb v0
  replace v1 := keepc hb v1
  replace le := Nat.lt_of_lt_of_le le hb.size
  replace lf := Nat.lt_of_lt_of_le lf hb.size
  replace lj := Nat.lt_of_lt_of_le lj hb.size
  replace lv := Nat.lt_of_lt_of_le lv hb.size
  clear hb
  go_wp2_with fail
  with_reducible refine (flat_is jx jy true H2.out _).mono ?_
  rintro e_ w5 ⟨rfl, hb⟩
  replace HB := Lib.hid (on_below HB.out hb)
  replace e0 := keepc hb e0
  replace e1 := keepc hb e1
  replace f0 := keepc hb f0
  replace f1 := keepc hb f1
  replace j0 := keepc hb j0
  replace j1 := keepc hb j1
  replace v0 := keepc hb v0
  replace v1 := keepc hb v1
  replace le := Nat.lt_of_lt_of_le le hb.size
  replace lf := Nat.lt_of_lt_of_le lf hb.size
  replace lj := Nat.lt_of_lt_of_le lj hb.size
  replace lv := Nat.lt_of_lt_of_le lv hb.size
  clear hb
  go_wp2_with fail
  with_reducible refine (flat_is vx vy true H3.out _).mono ?_
  rintro e_ w6 ⟨rfl, hb⟩
  replace HB := Lib.hid (on_below HB.out hb)
  replace e0 := keepc hb e0
  replace e1 := keepc hb e1
  replace f0 := keepc hb f0
  replace f1 := keepc hb f1
  replace j0 := keepc hb j0
  replace j1 := keepc hb j1
  replace v0 := keepc hb v0
  replace v1 := keepc hb v1
  replace le := Nat.lt_of_lt_of_le le hb.size
  replace lf := Nat.lt_of_lt_of_le lf hb.size
  replace lj := Nat.lt_of_lt_of_le lj hb.size
  replace lv := Nat.lt_of_lt_of_le lv hb.size
  clear hb
  go_wp2_with fail
  clear H0 H1 H2 H3
  with_reducible refine (TN.out _).mono ?_
  rintro e_ w7 ⟨rfl, hb⟩
  replace HB := Lib.hid (on_below HB.out hb)
  replace e0 := keepc hb e0
  replace e1 := keepc hb e1
  replace f0 := keepc hb f0
  replace f1 := keepc hb f1
  replace j0 := keepc hb j0
  replace j1 := keepc hb j1
  replace v0 := keepc hb v0
  replace v1 := keepc hb v1
  replace le := Nat.lt_of_lt_of_le le hb.size
  replace lf := Nat.lt_of_lt_of_le lf hb.size
  replace lj := Nat.lt_of_lt_of_le lj hb.size
  replace lv := Nat.lt_of_lt_of_le lv hb.size
  clear hb
  go_wp2_with fail
  with_reducible refine (S1.out _).mono ?_
  rintro e_ w8 ⟨rfl, hb⟩
  replace HB := Lib.hid (on_below HB.out hb)
  replace e0 := keepc hb e0
  replace e1 := keepc hb e1
  replace f0 := keepc hb f0
  replace f1 := keepc hb f1
  replace j0 := keepc hb j0
  replace j1 := keepc hb j1
  replace v0 := keepc hb v0
  replace v1 := keepc hb v1
  replace le := Nat.lt_of_lt_of_le le hb.size
  replace lf := Nat.lt_of_lt_of_le lf hb.size
  replace lj := Nat.lt_of_lt_of_le lj hb.size
  replace lv := Nat.lt_of_lt_of_le lv hb.size
  clear hb
  go_wp2_with fail
  have s0 : World.cell? (w8.alloc (.cells #[.int .i64 sx, .int .i64 sy, .int .i64 0] 23)) ⟨w8.heap.size, 0, none⟩ = some (.int .i64 sx) := by simp [go_sem]
  have s1 : World.cell? (w8.alloc (.cells #[.int .i64 sx, .int .i64 sy, .int .i64 0] 23)) ⟨w8.heap.size, 1, none⟩ = some (.int .i64 sy) := by simp [go_sem]
  have s2 : World.cell? (w8.alloc (.cells #[.int .i64 sx, .int .i64 sy, .int .i64 0] 23)) ⟨w8.heap.size, 2, none⟩ = some (.int .i64 0) := by simp [go_sem]
  have ls : w8.heap.size < (w8.alloc (.cells #[.int .i64 sx, .int .i64 sy, .int .i64 0] 23)).heap.size := by simp
  have hb : Below w8.heap.size w8 (w8.alloc (.cells #[.int .i64 sx, .int .i64 sy, .int .i64 0] 23)) := below_new _ _
  generalize w8.alloc (.cells #[.int .i64 sx, .int .i64 sy, .int .i64 0] 23) = w9 at *
  replace HB := Lib.hid (on_below HB.out hb)
  replace e0 := keepc hb e0
  replace e1 := keepc hb e1
  replace f0 := keepc hb f0
  replace f1 := keepc hb f1
  replace j0 := keepc hb j0
  replace j1 := keepc hb j1
  replace v0 := keepc hb v0
  replace v1 := keepc hb v1
  replace le := Nat.lt_of_lt_of_le le hb.size
  replace lf := Nat.lt_of_lt_of_le lf hb.size
  replace lj := Nat.lt_of_lt_of_le lj hb.size
  replace lv := Nat.lt_of_lt_of_le lv hb.size
  clear hb
  generalize w8.heap.size = gs at *
  with_reducible refine (S2.out _).mono ?_
  rintro e_ w10 ⟨rfl, hb⟩
  replace HB := Lib.hid (on_below HB.out hb)
  replace e0 := keepc hb e0
  replace e1 := keepc hb e1
  replace f0 := keepc hb f0
  replace f1 := keepc hb f1
  replace j0 := keepc hb j0
  replace j1 := keepc hb j1
  replace v0 := keepc hb v0
  replace v1 := keepc hb v1
  replace s0 := keepc hb s0
  replace s1 := keepc hb s1
  replace s2 := keepc hb s2
  replace le := Nat.lt_of_lt_of_le le hb.size
  replace lf := Nat.lt_of_lt_of_le lf hb.size
  replace lj := Nat.lt_of_lt_of_le lj hb.size
  replace lv := Nat.lt_of_lt_of_le lv hb.size
  replace ls := Nat.lt_of_lt_of_le ls hb.size
  clear hb
  go_upto_region 7 with fail
  have t0 : World.cell? (w10.alloc (.cells #[.int .i64 tx, .int .i64 ty, .int .i64 0] 23)) ⟨w10.heap.size, 0, none⟩ = some (.int .i64 tx) := by simp [go_sem]
  have t1 : World.cell? (w10.alloc (.cells #[.int .i64 tx, .int .i64 ty, .int .i64 0] 23)) ⟨w10.heap.size, 1, none⟩ = some (.int .i64 ty) := by simp [go_sem]
  have t2 : World.cell? (w10.alloc (.cells #[.int .i64 tx, .int .i64 ty, .int .i64 0] 23)) ⟨w10.heap.size, 2, none⟩ = some (.int .i64 0) := by simp [go_sem]
  have lt : w10.heap.size < (w10.alloc (.cells #[.int .i64 tx, .int .i64 ty, .int .i64 0] 23)).heap.size := by simp
  have hb : Below w10.heap.size w10 (w10.alloc (.cells #[.int .i64 tx, .int .i64 ty, .int .i64 0] 23)) := below_new _ _
  generalize w10.alloc (.cells #[.int .i64 tx, .int .i64 ty, .int .i64 0] 23) = w11 at *
  replace HB := Lib.hid (on_below HB.out hb)
  replace e0 := keepc hb e0
  replace e1 := keepc hb e1
  replace f0 := keepc hb f0
  replace f1 := keepc hb f1
  replace j0 := keepc hb j0
  replace j1 := keepc hb j1
  replace v0 := keepc hb v0
  replace v1 := keepc hb v1
  replace s0 := keepc hb s0
  replace s1 := keepc hb s1
  replace s2 := keepc hb s2
  replace le := Nat.lt_of_lt_of_le le hb.size
  replace lf := Nat.lt_of_lt_of_le lf hb.size
  replace lj := Nat.lt_of_lt_of_le lj hb.size
  replace lv := Nat.lt_of_lt_of_le lv hb.size
  replace ls := Nat.lt_of_lt_of_le ls hb.size
  clear hb
  generalize w10.heap.size = gt at *
  go_cut [77] (fun s_ wx => s_ = .bool (decide (E = 0 ∧ F = 0)) ∧ wx = w11)
  case first =>
    clear e0 e1 f0 f1 j0 j1 v0 v1 s0 s1 s2 t0 t1 t2 le lf lj lv ls lt HB
    rcases HC.out with h | ⟨rfl, h⟩ | ⟨rfl, rfl⟩
    · have q1 : (E == 0) = false := beq_eq_false_iff_ne.2 h
      have q2 : decide (E = 0 ∧ F = 0) = false := decide_eq_false (fun e => h e.1)
      go_wp2_with fail
      go_meet
      exact ⟨by rw [q2], rfl⟩
    · have q1 : (F == 0) = false := beq_eq_false_iff_ne.2 h
      have q2 : decide ((0 : Int) = 0 ∧ F = 0) = false := decide_eq_false (fun e => h e.2)
      go_wp2_with fail
      go_meet
      exact ⟨by rw [q2], rfl⟩
    · go_wp2_with fail
      go_meet
      exact ⟨rfl, rfl⟩
  case rest =>
    obtain ⟨rfl, rfl⟩ := hcut
    by_cases hEF : E = 0 ∧ F = 0
    · skip
      obtain ⟨rfl, rfl⟩ := hEF
      have dm := Lib.hid (DM.out (by first | rfl | trivial) (by first | rfl | trivial))
      clear HC DM S1 S2 TN
      go_wp2_with fail
      with_reducible refine (dm.out _).mono ?_
      rintro e_ w12 ⟨rfl, hb⟩
      replace HB := Lib.hid (on_below HB.out hb)
      replace e0 := keepc hb e0
      replace e1 := keepc hb e1
      replace f0 := keepc hb f0
      replace f1 := keepc hb f1
      replace j0 := keepc hb j0
      replace j1 := keepc hb j1
      replace v0 := keepc hb v0
      replace v1 := keepc hb v1
      replace s0 := keepc hb s0
      replace s1 := keepc hb s1
      replace s2 := keepc hb s2
      replace t0 := keepc hb t0
      replace t1 := keepc hb t1
      replace t2 := keepc hb t2
      replace le := Nat.lt_of_lt_of_le le hb.size
      replace lf := Nat.lt_of_lt_of_le lf hb.size
      replace lj := Nat.lt_of_lt_of_le lj hb.size
      replace lv := Nat.lt_of_lt_of_le lv hb.size
      replace ls := Nat.lt_of_lt_of_le ls hb.size
      replace lt := Nat.lt_of_lt_of_le lt hb.size
      clear hb
      clear s0 s1 s2 ls t0 t1 t2 lt
      rcases HS.out with ⟨hm, rfl⟩ | ⟨rfl, rfl⟩ | ⟨hm, rfl⟩
      · skip
        go_wp2_with fail
        have x0 : World.cell? (w12.alloc (.cells #[.int .i64 (ex + vx), .int .i64 (ey + vy)] 25)) ⟨w12.heap.size, 0, none⟩ = some (.int .i64 (ex + vx)) := by simp [go_sem]
        have x1 : World.cell? (w12.alloc (.cells #[.int .i64 (ex + vx), .int .i64 (ey + vy)] 25)) ⟨w12.heap.size, 1, none⟩ = some (.int .i64 (ey + vy)) := by simp [go_sem]
        have lx : w12.heap.size < (w12.alloc (.cells #[.int .i64 (ex + vx), .int .i64 (ey + vy)] 25)).heap.size := by simp
        have zx : (w12.alloc (.cells #[.int .i64 (ex + vx), .int .i64 (ey + vy)] 25)).heap.size = w12.heap.size + 1 := by simp
        have hb : Below w12.heap.size w12 (w12.alloc (.cells #[.int .i64 (ex + vx), .int .i64 (ey + vy)] 25)) := below_new _ _
        generalize w12.alloc (.cells #[.int .i64 (ex + vx), .int .i64 (ey + vy)] 25) = w13 at *
        replace HB := Lib.hid (on_below HB.out hb)
        replace e0 := keepc hb e0
        replace e1 := keepc hb e1
        replace f0 := keepc hb f0
        replace f1 := keepc hb f1
        replace j0 := keepc hb j0
        replace j1 := keepc hb j1
        replace v0 := keepc hb v0
        replace v1 := keepc hb v1
        replace le := Nat.lt_of_lt_of_le le hb.size
        replace lf := Nat.lt_of_lt_of_le lf hb.size
        replace lj := Nat.lt_of_lt_of_le lj hb.size
        replace lv := Nat.lt_of_lt_of_le lv hb.size
        clear hb
        generalize w12.heap.size = gx at *
        have y0 : World.cell? (w13.alloc (.cells #[.int .i64 (fx + vx), .int .i64 (fy + vy)] 25)) ⟨gx + 1, 0, none⟩ = some (.int .i64 (fx + vx)) := by rw [← zx]; simp [go_sem]
        have y1 : World.cell? (w13.alloc (.cells #[.int .i64 (fx + vx), .int .i64 (fy + vy)] 25)) ⟨gx + 1, 1, none⟩ = some (.int .i64 (fy + vy)) := by rw [← zx]; simp [go_sem]
        have ly : gx + 1 < (w13.alloc (.cells #[.int .i64 (fx + vx), .int .i64 (fy + vy)] 25)).heap.size := by rw [← zx]; simp
        have zy : (w13.alloc (.cells #[.int .i64 (fx + vx), .int .i64 (fy + vy)] 25)).heap.size = gx + 1 + 1 := by rw [← zx]; simp
        have hb : Below w13.heap.size w13 (w13.alloc (.cells #[.int .i64 (fx + vx), .int .i64 (fy + vy)] 25)) := below_new _ _
        generalize w13.alloc (.cells #[.int .i64 (fx + vx), .int .i64 (fy + vy)] 25) = w14 at *
        replace HB := Lib.hid (on_below HB.out hb)
        replace e0 := keepc hb e0
        replace e1 := keepc hb e1
        replace f0 := keepc hb f0
        replace f1 := keepc hb f1
        replace j0 := keepc hb j0
        replace j1 := keepc hb j1
        replace v0 := keepc hb v0
        replace v1 := keepc hb v1
        replace x0 := keepc hb x0
        replace x1 := keepc hb x1
        replace le := Nat.lt_of_lt_of_le le hb.size
        replace lf := Nat.lt_of_lt_of_le lf hb.size
        replace lj := Nat.lt_of_lt_of_le lj hb.size
        replace lv := Nat.lt_of_lt_of_le lv hb.size
        replace lx := Nat.lt_of_lt_of_le lx hb.size
        clear hb
        clear zx
        have ny : gx < gx + 1 := Nat.lt_succ_self _
        generalize gx + 1 = gy at *
        have z0 : World.cell? (w14.alloc (.cells #[.int .i64 (jx + vx), .int .i64 (jy + vy)] 25)) ⟨gy + 1, 0, none⟩ = some (.int .i64 (jx + vx)) := by rw [← zy]; simp [go_sem]
        have z1 : World.cell? (w14.alloc (.cells #[.int .i64 (jx + vx), .int .i64 (jy + vy)] 25)) ⟨gy + 1, 1, none⟩ = some (.int .i64 (jy + vy)) := by rw [← zy]; simp [go_sem]
        have lz : gy + 1 < (w14.alloc (.cells #[.int .i64 (jx + vx), .int .i64 (jy + vy)] 25)).heap.size := by rw [← zy]; simp
        have hb : Below w14.heap.size w14 (w14.alloc (.cells #[.int .i64 (jx + vx), .int .i64 (jy + vy)] 25)) := below_new _ _
        generalize w14.alloc (.cells #[.int .i64 (jx + vx), .int .i64 (jy + vy)] 25) = w15 at *
        replace HB := Lib.hid (on_below HB.out hb)
        replace e0 := keepc hb e0
        replace e1 := keepc hb e1
        replace f0 := keepc hb f0
        replace f1 := keepc hb f1
        replace j0 := keepc hb j0
        replace j1 := keepc hb j1
        replace v0 := keepc hb v0
        replace v1 := keepc hb v1
        replace x0 := keepc hb x0
        replace x1 := keepc hb x1
        replace y0 := keepc hb y0
        replace y1 := keepc hb y1
        replace le := Nat.lt_of_lt_of_le le hb.size
        replace lf := Nat.lt_of_lt_of_le lf hb.size
        replace lj := Nat.lt_of_lt_of_le lj hb.size
        replace lv := Nat.lt_of_lt_of_le lv hb.size
        replace lx := Nat.lt_of_lt_of_le lx hb.size
        replace ly := Nat.lt_of_lt_of_le ly hb.size
        clear hb
        clear zy
        have nz : gy < gy + 1 := Nat.lt_succ_self _
        generalize gy + 1 = gz at *
        with_reducible refine (flat_is (ex + vx) (ey + vy) b1 X1.out _).mono ?_
        rintro e_ w16 ⟨rfl, hb⟩
        replace HB := Lib.hid (on_below HB.out hb)
        replace e0 := keepc hb e0
        replace e1 := keepc hb e1
        replace f0 := keepc hb f0
        replace f1 := keepc hb f1
        replace j0 := keepc hb j0
        replace j1 := keepc hb j1
        replace v0 := keepc hb v0
        replace v1 := keepc hb v1
        replace x0 := keepc hb x0
        replace x1 := keepc hb x1
        replace y0 := keepc hb y0
        replace y1 := keepc hb y1
        replace z0 := keepc hb z0
        replace z1 := keepc hb z1
        replace le := Nat.lt_of_lt_of_le le hb.size
        replace lf := Nat.lt_of_lt_of_le lf hb.size
        replace lj := Nat.lt_of_lt_of_le lj hb.size
        replace lv := Nat.lt_of_lt_of_le lv hb.size
        replace lx := Nat.lt_of_lt_of_le lx hb.size
        replace ly := Nat.lt_of_lt_of_le ly hb.size
        replace lz := Nat.lt_of_lt_of_le lz hb.size
        clear hb
        cases b1
        · skip
          go_wp2_with fail
          go_ret
          exact ⟨rfl, HB.out⟩
        · skip
          go_wp2_with fail
          with_reducible refine (flat_is (fx + vx) (fy + vy) b2 X2.out _).mono ?_
          rintro e_ w17 ⟨rfl, hb⟩
          replace HB := Lib.hid (on_below HB.out hb)
          replace e0 := keepc hb e0
          replace e1 := keepc hb e1
          replace f0 := keepc hb f0
          replace f1 := keepc hb f1
          replace j0 := keepc hb j0
          replace j1 := keepc hb j1
          replace v0 := keepc hb v0
          replace v1 := keepc hb v1
          replace x0 := keepc hb x0
          replace x1 := keepc hb x1
          replace y0 := keepc hb y0
          replace y1 := keepc hb y1
          replace z0 := keepc hb z0
          replace z1 := keepc hb z1
          replace le := Nat.lt_of_lt_of_le le hb.size
          replace lf := Nat.lt_of_lt_of_le lf hb.size
          replace lj := Nat.lt_of_lt_of_le lj hb.size
          replace lv := Nat.lt_of_lt_of_le lv hb.size
          replace lx := Nat.lt_of_lt_of_le lx hb.size
          replace ly := Nat.lt_of_lt_of_le ly hb.size
          replace lz := Nat.lt_of_lt_of_le lz hb.size
          clear hb
          cases b2
          · skip
            go_wp2_with fail
            go_ret
            exact ⟨rfl, HB.out⟩
          · skip
            go_wp2_with fail
            with_reducible refine (flat_is (jx + vx) (jy + vy) b3 X3.out _).mono ?_
            rintro e_ w18 ⟨rfl, hb⟩
            replace HB := Lib.hid (on_below HB.out hb)
            replace e0 := keepc hb e0
            replace e1 := keepc hb e1
            replace f0 := keepc hb f0
            replace f1 := keepc hb f1
            replace j0 := keepc hb j0
            replace j1 := keepc hb j1
            replace v0 := keepc hb v0
            replace v1 := keepc hb v1
            replace x0 := keepc hb x0
            replace x1 := keepc hb x1
            replace y0 := keepc hb y0
            replace y1 := keepc hb y1
            replace z0 := keepc hb z0
            replace z1 := keepc hb z1
            replace le := Nat.lt_of_lt_of_le le hb.size
            replace lf := Nat.lt_of_lt_of_le lf hb.size
            replace lj := Nat.lt_of_lt_of_le lj hb.size
            replace lv := Nat.lt_of_lt_of_le lv hb.size
            replace lx := Nat.lt_of_lt_of_le lx hb.size
            replace ly := Nat.lt_of_lt_of_le ly hb.size
            replace lz := Nat.lt_of_lt_of_le lz hb.size
            clear hb
            cases b3
            · skip
              go_wp2_with fail
              go_ret
              exact ⟨rfl, HB.out⟩
            · skip
              have dt2 := Lib.hid (DT.out (by first | rfl | trivial) (by first | rfl | trivial) (by first | rfl | trivial))
              go_wp2_with fail
              with_reducible refine (dt2.out _).mono ?_
              rintro e_ w19 ⟨rfl, hb⟩
              replace HB := Lib.hid (on_below HB.out hb)
              replace e0 := keepc hb e0
              replace e1 := keepc hb e1
              replace f0 := keepc hb f0
              replace f1 := keepc hb f1
              replace j0 := keepc hb j0
              replace j1 := keepc hb j1
              replace v0 := keepc hb v0
              replace v1 := keepc hb v1
              replace x0 := keepc hb x0
              replace x1 := keepc hb x1
              replace y0 := keepc hb y0
              replace y1 := keepc hb y1
              replace z0 := keepc hb z0
              replace z1 := keepc hb z1
              replace le := Nat.lt_of_lt_of_le le hb.size
              replace lf := Nat.lt_of_lt_of_le lf hb.size
              replace lj := Nat.lt_of_lt_of_le lj hb.size
              replace lv := Nat.lt_of_lt_of_le lv hb.size
              replace lx := Nat.lt_of_lt_of_le lx hb.size
              replace ly := Nat.lt_of_lt_of_le ly hb.size
              replace lz := Nat.lt_of_lt_of_le lz hb.size
              clear hb
              go_wp2_with fail
              go_ret
              exact ⟨rfl, HB.out⟩
      · skip
        go_wp2_with fail
        have x0 : World.cell? (w12.alloc (.cells #[.int .i64 (ex + vx), .int .i64 (ey + vy)] 25)) ⟨w12.heap.size, 0, none⟩ = some (.int .i64 (ex + vx)) := by simp [go_sem]
        have x1 : World.cell? (w12.alloc (.cells #[.int .i64 (ex + vx), .int .i64 (ey + vy)] 25)) ⟨w12.heap.size, 1, none⟩ = some (.int .i64 (ey + vy)) := by simp [go_sem]
        have lx : w12.heap.size < (w12.alloc (.cells #[.int .i64 (ex + vx), .int .i64 (ey + vy)] 25)).heap.size := by simp
        have zx : (w12.alloc (.cells #[.int .i64 (ex + vx), .int .i64 (ey + vy)] 25)).heap.size = w12.heap.size + 1 := by simp
        have hb : Below w12.heap.size w12 (w12.alloc (.cells #[.int .i64 (ex + vx), .int .i64 (ey + vy)] 25)) := below_new _ _
        generalize w12.alloc (.cells #[.int .i64 (ex + vx), .int .i64 (ey + vy)] 25) = w13 at *
        replace HB := Lib.hid (on_below HB.out hb)
        replace e0 := keepc hb e0
        replace e1 := keepc hb e1
        replace f0 := keepc hb f0
        replace f1 := keepc hb f1
        replace j0 := keepc hb j0
        replace j1 := keepc hb j1
        replace v0 := keepc hb v0
        replace v1 := keepc hb v1
        replace le := Nat.lt_of_lt_of_le le hb.size
        replace lf := Nat.lt_of_lt_of_le lf hb.size
        replace lj := Nat.lt_of_lt_of_le lj hb.size
        replace lv := Nat.lt_of_lt_of_le lv hb.size
        clear hb
        generalize w12.heap.size = gx at *
        have y0 : World.cell? (w13.alloc (.cells #[.int .i64 (fx + vx), .int .i64 (fy + vy)] 25)) ⟨gx + 1, 0, none⟩ = some (.int .i64 (fx + vx)) := by rw [← zx]; simp [go_sem]
        have y1 : World.cell? (w13.alloc (.cells #[.int .i64 (fx + vx), .int .i64 (fy + vy)] 25)) ⟨gx + 1, 1, none⟩ = some (.int .i64 (fy + vy)) := by rw [← zx]; simp [go_sem]
        have ly : gx + 1 < (w13.alloc (.cells #[.int .i64 (fx + vx), .int .i64 (fy + vy)] 25)).heap.size := by rw [← zx]; simp
        have zy : (w13.alloc (.cells #[.int .i64 (fx + vx), .int .i64 (fy + vy)] 25)).heap.size = gx + 1 + 1 := by rw [← zx]; simp
        have hb : Below w13.heap.size w13 (w13.alloc (.cells #[.int .i64 (fx + vx), .int .i64 (fy + vy)] 25)) := below_new _ _
        generalize w13.alloc (.cells #[.int .i64 (fx + vx), .int .i64 (fy + vy)] 25) = w14 at *
        replace HB := Lib.hid (on_below HB.out hb)
        replace e0 := keepc hb e0
        replace e1 := keepc hb e1
        replace f0 := keepc hb f0
        replace f1 := keepc hb f1
        replace j0 := keepc hb j0
        replace j1 := keepc hb j1
        replace v0 := keepc hb v0
        replace v1 := keepc hb v1
        replace x0 := keepc hb x0
        replace x1 := keepc hb x1
        replace le := Nat.lt_of_lt_of_le le hb.size
        replace lf := Nat.lt_of_lt_of_le lf hb.size
        replace lj := Nat.lt_of_lt_of_le lj hb.size
        replace lv := Nat.lt_of_lt_of_le lv hb.size
        replace lx := Nat.lt_of_lt_of_le lx hb.size
        clear hb
        clear zx
        have ny : gx < gx + 1 := Nat.lt_succ_self _
        generalize gx + 1 = gy at *
        have z0 : World.cell? (w14.alloc (.cells #[.int .i64 (jx + vx), .int .i64 (jy + vy)] 25)) ⟨gy + 1, 0, none⟩ = some (.int .i64 (jx + vx)) := by rw [← zy]; simp [go_sem]
        have z1 : World.cell? (w14.alloc (.cells #[.int .i64 (jx + vx), .int .i64 (jy + vy)] 25)) ⟨gy + 1, 1, none⟩ = some (.int .i64 (jy + vy)) := by rw [← zy]; simp [go_sem]
        have lz : gy + 1 < (w14.alloc (.cells #[.int .i64 (jx + vx), .int .i64 (jy + vy)] 25)).heap.size := by rw [← zy]; simp
        have hb : Below w14.heap.size w14 (w14.alloc (.cells #[.int .i64 (jx + vx), .int .i64 (jy + vy)] 25)) := below_new _ _
        generalize w14.alloc (.cells #[.int .i64 (jx + vx), .int .i64 (jy + vy)] 25) = w15 at *
        replace HB := Lib.hid (on_below HB.out hb)
        replace e0 := keepc hb e0
        replace e1 := keepc hb e1
        replace f0 := keepc hb f0
        replace f1 := keepc hb f1
        replace j0 := keepc hb j0
        replace j1 := keepc hb j1
        replace v0 := keepc hb v0
        replace v1 := keepc hb v1
        replace x0 := keepc hb x0
        replace x1 := keepc hb x1
        replace y0 := keepc hb y0
        replace y1 := keepc hb y1
        replace le := Nat.lt_of_lt_of_le le hb.size
        replace lf := Nat.lt_of_lt_of_le lf hb.size
        replace lj := Nat.lt_of_lt_of_le lj hb.size
        replace lv := Nat.lt_of_lt_of_le lv hb.size
        replace lx := Nat.lt_of_lt_of_le lx hb.size
        replace ly := Nat.lt_of_lt_of_le ly hb.size
        clear hb
        clear zy
        have nz : gy < gy + 1 := Nat.lt_succ_self _
        generalize gy + 1 = gz at *
        with_reducible refine (flat_is (ex + vx) (ey + vy) b1 X1.out _).mono ?_
        rintro e_ w16 ⟨rfl, hb⟩
        replace HB := Lib.hid (on_below HB.out hb)
        replace e0 := keepc hb e0
        replace e1 := keepc hb e1
        replace f0 := keepc hb f0
        replace f1 := keepc hb f1
        replace j0 := keepc hb j0
        replace j1 := keepc hb j1
        replace v0 := keepc hb v0
        replace v1 := keepc hb v1
        replace x0 := keepc hb x0
        replace x1 := keepc hb x1
        replace y0 := keepc hb y0
        replace y1 := keepc hb y1
        replace z0 := keepc hb z0
        replace z1 := keepc hb z1
        replace le := Nat.lt_of_lt_of_le le hb.size
        replace lf := Nat.lt_of_lt_of_le lf hb.size
        replace lj := Nat.lt_of_lt_of_le lj hb.size
        replace lv := Nat.lt_of_lt_of_le lv hb.size
        replace lx := Nat.lt_of_lt_of_le lx hb.size
        replace ly := Nat.lt_of_lt_of_le ly hb.size
        replace lz := Nat.lt_of_lt_of_le lz hb.size
        clear hb
        cases b1
        · skip
          go_wp2_with fail
          go_ret
          exact ⟨rfl, HB.out⟩
        · skip
          go_wp2_with fail
          with_reducible refine (flat_is (fx + vx) (fy + vy) b2 X2.out _).mono ?_
          rintro e_ w17 ⟨rfl, hb⟩
          replace HB := Lib.hid (on_below HB.out hb)
          replace e0 := keepc hb e0
          replace e1 := keepc hb e1
          replace f0 := keepc hb f0
          replace f1 := keepc hb f1
          replace j0 := keepc hb j0
          replace j1 := keepc hb j1
          replace v0 := keepc hb v0
          replace v1 := keepc hb v1
          replace x0 := keepc hb x0
          replace x1 := keepc hb x1
          replace y0 := keepc hb y0
          replace y1 := keepc hb y1
          replace z0 := keepc hb z0
          replace z1 := keepc hb z1
          replace le := Nat.lt_of_lt_of_le le hb.size
          replace lf := Nat.lt_of_lt_of_le lf hb.size
          replace lj := Nat.lt_of_lt_of_le lj hb.size
          replace lv := Nat.lt_of_lt_of_le lv hb.size
          replace lx := Nat.lt_of_lt_of_le lx hb.size
          replace ly := Nat.lt_of_lt_of_le ly hb.size
          replace lz := Nat.lt_of_lt_of_le lz hb.size
          clear hb
          cases b2
          · skip
            go_wp2_with fail
            go_ret
            exact ⟨rfl, HB.out⟩
          · skip
            go_wp2_with fail
            with_reducible refine (flat_is (jx + vx) (jy + vy) b3 X3.out _).mono ?_
            rintro e_ w18 ⟨rfl, hb⟩
            replace HB := Lib.hid (on_below HB.out hb)
            replace e0 := keepc hb e0
            replace e1 := keepc hb e1
            replace f0 := keepc hb f0
            replace f1 := keepc hb f1
            replace j0 := keepc hb j0
            replace j1 := keepc hb j1
            replace v0 := keepc hb v0
            replace v1 := keepc hb v1
            replace x0 := keepc hb x0
            replace x1 := keepc hb x1
            replace y0 := keepc hb y0
            replace y1 := keepc hb y1
            replace z0 := keepc hb z0
            replace z1 := keepc hb z1
            replace le := Nat.lt_of_lt_of_le le hb.size
            replace lf := Nat.lt_of_lt_of_le lf hb.size
            replace lj := Nat.lt_of_lt_of_le lj hb.size
            replace lv := Nat.lt_of_lt_of_le lv hb.size
            replace lx := Nat.lt_of_lt_of_le lx hb.size
            replace ly := Nat.lt_of_lt_of_le ly hb.size
            replace lz := Nat.lt_of_lt_of_le lz hb.size
            clear hb
            cases b3
            · skip
              go_wp2_with fail
              go_ret
              exact ⟨rfl, HB.out⟩
            · skip
              have dt2 := Lib.hid (DT.out (by first | rfl | trivial) (by first | rfl | trivial) (by first | rfl | trivial))
              go_wp2_with fail
              with_reducible refine (dt2.out _).mono ?_
              rintro e_ w19 ⟨rfl, hb⟩
              replace HB := Lib.hid (on_below HB.out hb)
              replace e0 := keepc hb e0
              replace e1 := keepc hb e1
              replace f0 := keepc hb f0
              replace f1 := keepc hb f1
              replace j0 := keepc hb j0
              replace j1 := keepc hb j1
              replace v0 := keepc hb v0
              replace v1 := keepc hb v1
              replace x0 := keepc hb x0
              replace x1 := keepc hb x1
              replace y0 := keepc hb y0
              replace y1 := keepc hb y1
              replace z0 := keepc hb z0
              replace z1 := keepc hb z1
              replace le := Nat.lt_of_lt_of_le le hb.size
              replace lf := Nat.lt_of_lt_of_le lf hb.size
              replace lj := Nat.lt_of_lt_of_le lj hb.size
              replace lv := Nat.lt_of_lt_of_le lv hb.size
              replace lx := Nat.lt_of_lt_of_le lx hb.size
              replace ly := Nat.lt_of_lt_of_le ly hb.size
              replace lz := Nat.lt_of_lt_of_le lz hb.size
              clear hb
              go_wp2_with fail
              go_ret
              exact ⟨rfl, HB.out⟩
      · skip
        go_wp2_with fail
        have x0 : World.cell? (w12.alloc (.cells #[.int .i64 (ex + vx), .int .i64 (ey + vy)] 25)) ⟨w12.heap.size, 0, none⟩ = some (.int .i64 (ex + vx)) := by simp [go_sem]
        have x1 : World.cell? (w12.alloc (.cells #[.int .i64 (ex + vx), .int .i64 (ey + vy)] 25)) ⟨w12.heap.size, 1, none⟩ = some (.int .i64 (ey + vy)) := by simp [go_sem]
        have lx : w12.heap.size < (w12.alloc (.cells #[.int .i64 (ex + vx), .int .i64 (ey + vy)] 25)).heap.size := by simp
        have zx : (w12.alloc (.cells #[.int .i64 (ex + vx), .int .i64 (ey + vy)] 25)).heap.size = w12.heap.size + 1 := by simp
        have hb : Below w12.heap.size w12 (w12.alloc (.cells #[.int .i64 (ex + vx), .int .i64 (ey + vy)] 25)) := below_new _ _
        generalize w12.alloc (.cells #[.int .i64 (ex + vx), .int .i64 (ey + vy)] 25) = w13 at *
        replace HB := Lib.hid (on_below HB.out hb)
        replace e0 := keepc hb e0
        replace e1 := keepc hb e1
        replace f0 := keepc hb f0
        replace f1 := keepc hb f1
        replace j0 := keepc hb j0
        replace j1 := keepc hb j1
        replace v0 := keepc hb v0
        replace v1 := keepc hb v1
        replace le := Nat.lt_of_lt_of_le le hb.size
        replace lf := Nat.lt_of_lt_of_le lf hb.size
        replace lj := Nat.lt_of_lt_of_le lj hb.size
        replace lv := Nat.lt_of_lt_of_le lv hb.size
        clear hb
        generalize w12.heap.size = gx at *
        have y0 : World.cell? (w13.alloc (.cells #[.int .i64 (fx + vx), .int .i64 (fy + vy)] 25)) ⟨gx + 1, 0, none⟩ = some (.int .i64 (fx + vx)) := by rw [← zx]; simp [go_sem]
        have y1 : World.cell? (w13.alloc (.cells #[.int .i64 (fx + vx), .int .i64 (fy + vy)] 25)) ⟨gx + 1, 1, none⟩ = some (.int .i64 (fy + vy)) := by rw [← zx]; simp [go_sem]
        have ly : gx + 1 < (w13.alloc (.cells #[.int .i64 (fx + vx), .int .i64 (fy + vy)] 25)).heap.size := by rw [← zx]; simp
        have zy : (w13.alloc (.cells #[.int .i64 (fx + vx), .int .i64 (fy + vy)] 25)).heap.size = gx + 1 + 1 := by rw [← zx]; simp
        have hb : Below w13.heap.size w13 (w13.alloc (.cells #[.int .i64 (fx + vx), .int .i64 (fy + vy)] 25)) := below_new _ _
        generalize w13.alloc (.cells #[.int .i64 (fx + vx), .int .i64 (fy + vy)] 25) = w14 at *
        replace HB := Lib.hid (on_below HB.out hb)
        replace e0 := keepc hb e0
        replace e1 := keepc hb e1
        replace f0 := keepc hb f0
        replace f1 := keepc hb f1
        replace j0 := keepc hb j0
        replace j1 := keepc hb j1
        replace v0 := keepc hb v0
        replace v1 := keepc hb v1
        replace x0 := keepc hb x0
        replace x1 := keepc hb x1
        replace le := Nat.lt_of_lt_of_le le hb.size
        replace lf := Nat.lt_of_lt_of_le lf hb.size
        replace lj := Nat.lt_of_lt_of_le lj hb.size
        replace lv := Nat.lt_of_lt_of_le lv hb.size
        replace lx := Nat.lt_of_lt_of_le lx hb.size
        clear hb
        clear zx
        have ny : gx < gx + 1 := Nat.lt_succ_self _
        generalize gx + 1 = gy at *
        have z0 : World.cell? (w14.alloc (.cells #[.int .i64 (jx + vx), .int .i64 (jy + vy)] 25)) ⟨gy + 1, 0, none⟩ = some (.int .i64 (jx + vx)) := by rw [← zy]; simp [go_sem]
        have z1 : World.cell? (w14.alloc (.cells #[.int .i64 (jx + vx), .int .i64 (jy + vy)] 25)) ⟨gy + 1, 1, none⟩ = some (.int .i64 (jy + vy)) := by rw [← zy]; simp [go_sem]
        have lz : gy + 1 < (w14.alloc (.cells #[.int .i64 (jx + vx), .int .i64 (jy + vy)] 25)).heap.size := by rw [← zy]; simp
        have hb : Below w14.heap.size w14 (w14.alloc (.cells #[.int .i64 (jx + vx), .int .i64 (jy + vy)] 25)) := below_new _ _
        generalize w14.alloc (.cells #[.int .i64 (jx + vx), .int .i64 (jy + vy)] 25) = w15 at *
        replace HB := Lib.hid (on_below HB.out hb)
        replace e0 := keepc hb e0
        replace e1 := keepc hb e1
        replace f0 := keepc hb f0
        replace f1 := keepc hb f1
        replace j0 := keepc hb j0
        replace j1 := keepc hb j1
        replace v0 := keepc hb v0
        replace v1 := keepc hb v1
        replace x0 := keepc hb x0
        replace x1 := keepc hb x1
        replace y0 := keepc hb y0
        replace y1 := keepc hb y1
        replace le := Nat.lt_of_lt_of_le le hb.size
        replace lf := Nat.lt_of_lt_of_le lf hb.size
        replace lj := Nat.lt_of_lt_of_le lj hb.size
        replace lv := Nat.lt_of_lt_of_le lv hb.size
        replace lx := Nat.lt_of_lt_of_le lx hb.size
        replace ly := Nat.lt_of_lt_of_le ly hb.size
        clear hb
        clear zy
        have nz : gy < gy + 1 := Nat.lt_succ_self _
        generalize gy + 1 = gz at *
        with_reducible refine (flat_is (ex + vx) (ey + vy) b1 X1.out _).mono ?_
        rintro e_ w16 ⟨rfl, hb⟩
        replace HB := Lib.hid (on_below HB.out hb)
        replace e0 := keepc hb e0
        replace e1 := keepc hb e1
        replace f0 := keepc hb f0
        replace f1 := keepc hb f1
        replace j0 := keepc hb j0
        replace j1 := keepc hb j1
        replace v0 := keepc hb v0
        replace v1 := keepc hb v1
        replace x0 := keepc hb x0
        replace x1 := keepc hb x1
        replace y0 := keepc hb y0
        replace y1 := keepc hb y1
        replace z0 := keepc hb z0
        replace z1 := keepc hb z1
        replace le := Nat.lt_of_lt_of_le le hb.size
        replace lf := Nat.lt_of_lt_of_le lf hb.size
        replace lj := Nat.lt_of_lt_of_le lj hb.size
        replace lv := Nat.lt_of_lt_of_le lv hb.size
        replace lx := Nat.lt_of_lt_of_le lx hb.size
        replace ly := Nat.lt_of_lt_of_le ly hb.size
        replace lz := Nat.lt_of_lt_of_le lz hb.size
        clear hb
        cases b1
        · skip
          go_wp2_with fail
          go_ret
          exact ⟨rfl, HB.out⟩
        · skip
          go_wp2_with fail
          with_reducible refine (flat_is (fx + vx) (fy + vy) b2 X2.out _).mono ?_
          rintro e_ w17 ⟨rfl, hb⟩
          replace HB := Lib.hid (on_below HB.out hb)
          replace e0 := keepc hb e0
          replace e1 := keepc hb e1
          replace f0 := keepc hb f0
          replace f1 := keepc hb f1
          replace j0 := keepc hb j0
          replace j1 := keepc hb j1
          replace v0 := keepc hb v0
          replace v1 := keepc hb v1
          replace x0 := keepc hb x0
          replace x1 := keepc hb x1
          replace y0 := keepc hb y0
          replace y1 := keepc hb y1
          replace z0 := keepc hb z0
          replace z1 := keepc hb z1
          replace le := Nat.lt_of_lt_of_le le hb.size
          replace lf := Nat.lt_of_lt_of_le lf hb.size
          replace lj := Nat.lt_of_lt_of_le lj hb.size
          replace lv := Nat.lt_of_lt_of_le lv hb.size
          replace lx := Nat.lt_of_lt_of_le lx hb.size
          replace ly := Nat.lt_of_lt_of_le ly hb.size
          replace lz := Nat.lt_of_lt_of_le lz hb.size
          clear hb
          cases b2
          · skip
            go_wp2_with fail
            go_ret
            exact ⟨rfl, HB.out⟩
          · skip
            go_wp2_with fail
            with_reducible refine (flat_is (jx + vx) (jy + vy) b3 X3.out _).mono ?_
            rintro e_ w18 ⟨rfl, hb⟩
            replace HB := Lib.hid (on_below HB.out hb)
            replace e0 := keepc hb e0
            replace e1 := keepc hb e1
            replace f0 := keepc hb f0
            replace f1 := keepc hb f1
            replace j0 := keepc hb j0
            replace j1 := keepc hb j1
            replace v0 := keepc hb v0
            replace v1 := keepc hb v1
            replace x0 := keepc hb x0
            replace x1 := keepc hb x1
            replace y0 := keepc hb y0
            replace y1 := keepc hb y1
            replace z0 := keepc hb z0
            replace z1 := keepc hb z1
            replace le := Nat.lt_of_lt_of_le le hb.size
            replace lf := Nat.lt_of_lt_of_le lf hb.size
            replace lj := Nat.lt_of_lt_of_le lj hb.size
            replace lv := Nat.lt_of_lt_of_le lv hb.size
            replace lx := Nat.lt_of_lt_of_le lx hb.size
            replace ly := Nat.lt_of_lt_of_le ly hb.size
            replace lz := Nat.lt_of_lt_of_le lz hb.size
            clear hb
            cases b3
            · skip
              go_wp2_with fail
              go_ret
              exact ⟨rfl, HB.out⟩
            · skip
              have dt2 := Lib.hid (DT.out (by first | rfl | trivial) (by first | rfl | trivial) (by first | rfl | trivial))
              go_wp2_with fail
              with_reducible refine (dt2.out _).mono ?_
              rintro e_ w19 ⟨rfl, hb⟩
              replace HB := Lib.hid (on_below HB.out hb)
              replace e0 := keepc hb e0
              replace e1 := keepc hb e1
              replace f0 := keepc hb f0
              replace f1 := keepc hb f1
              replace j0 := keepc hb j0
              replace j1 := keepc hb j1
              replace v0 := keepc hb v0
              replace v1 := keepc hb v1
              replace x0 := keepc hb x0
              replace x1 := keepc hb x1
              replace y0 := keepc hb y0
              replace y1 := keepc hb y1
              replace z0 := keepc hb z0
              replace z1 := keepc hb z1
              replace le := Nat.lt_of_lt_of_le le hb.size
              replace lf := Nat.lt_of_lt_of_le lf hb.size
              replace lj := Nat.lt_of_lt_of_le lj hb.size
              replace lv := Nat.lt_of_lt_of_le lv hb.size
              replace lx := Nat.lt_of_lt_of_le lx hb.size
              replace ly := Nat.lt_of_lt_of_le ly hb.size
              replace lz := Nat.lt_of_lt_of_le lz hb.size
              clear hb
              go_wp2_with fail
              go_ret
              exact ⟨rfl, HB.out⟩
    · skip
      have q2 : decide (E = 0 ∧ F = 0) = false := decide_eq_false hEF
      rw [q2]
      clear HC DM HS S1 S2 TN hEF q2
      clear s0 s1 s2 ls t0 t1 t2 lt
      go_wp2_with fail
      have x0 : World.cell? (wc.alloc (.cells #[.int .i64 (ex + vx), .int .i64 (ey + vy)] 25)) ⟨wc.heap.size, 0, none⟩ = some (.int .i64 (ex + vx)) := by simp [go_sem]
      have x1 : World.cell? (wc.alloc (.cells #[.int .i64 (ex + vx), .int .i64 (ey + vy)] 25)) ⟨wc.heap.size, 1, none⟩ = some (.int .i64 (ey + vy)) := by simp [go_sem]
      have lx : wc.heap.size < (wc.alloc (.cells #[.int .i64 (ex + vx), .int .i64 (ey + vy)] 25)).heap.size := by simp
      have zx : (wc.alloc (.cells #[.int .i64 (ex + vx), .int .i64 (ey + vy)] 25)).heap.size = wc.heap.size + 1 := by simp
      have hb : Below wc.heap.size wc (wc.alloc (.cells #[.int .i64 (ex + vx), .int .i64 (ey + vy)] 25)) := below_new _ _
      generalize wc.alloc (.cells #[.int .i64 (ex + vx), .int .i64 (ey + vy)] 25) = w12 at *
      replace HB := Lib.hid (on_below HB.out hb)
      replace e0 := keepc hb e0
      replace e1 := keepc hb e1
      replace f0 := keepc hb f0
      replace f1 := keepc hb f1
      replace j0 := keepc hb j0
      replace j1 := keepc hb j1
      replace v0 := keepc hb v0
      replace v1 := keepc hb v1
      replace le := Nat.lt_of_lt_of_le le hb.size
      replace lf := Nat.lt_of_lt_of_le lf hb.size
      replace lj := Nat.lt_of_lt_of_le lj hb.size
      replace lv := Nat.lt_of_lt_of_le lv hb.size
      clear hb
      generalize wc.heap.size = gx at *
      have y0 : World.cell? (w12.alloc (.cells #[.int .i64 (fx + vx), .int .i64 (fy + vy)] 25)) ⟨gx + 1, 0, none⟩ = some (.int .i64 (fx + vx)) := by rw [← zx]; simp [go_sem]
      have y1 : World.cell? (w12.alloc (.cells #[.int .i64 (fx + vx), .int .i64 (fy + vy)] 25)) ⟨gx + 1, 1, none⟩ = some (.int .i64 (fy + vy)) := by rw [← zx]; simp [go_sem]
      have ly : gx + 1 < (w12.alloc (.cells #[.int .i64 (fx + vx), .int .i64 (fy + vy)] 25)).heap.size := by rw [← zx]; simp
      have zy : (w12.alloc (.cells #[.int .i64 (fx + vx), .int .i64 (fy + vy)] 25)).heap.size = gx + 1 + 1 := by rw [← zx]; simp
      have hb : Below w12.heap.size w12 (w12.alloc (.cells #[.int .i64 (fx + vx), .int .i64 (fy + vy)] 25)) := below_new _ _
      generalize w12.alloc (.cells #[.int .i64 (fx + vx), .int .i64 (fy + vy)] 25) = w13 at *
      replace HB := Lib.hid (on_below HB.out hb)
      replace e0 := keepc hb e0
      replace e1 := keepc hb e1
      replace f0 := keepc hb f0
      replace f1 := keepc hb f1
      replace j0 := keepc hb j0
      replace j1 := keepc hb j1
      replace v0 := keepc hb v0
      replace v1 := keepc hb v1
      replace x0 := keepc hb x0
      replace x1 := keepc hb x1
      replace le := Nat.lt_of_lt_of_le le hb.size
      replace lf := Nat.lt_of_lt_of_le lf hb.size
      replace lj := Nat.lt_of_lt_of_le lj hb.size
      replace lv := Nat.lt_of_lt_of_le lv hb.size
      replace lx := Nat.lt_of_lt_of_le lx hb.size
      clear hb
      clear zx
      have ny : gx < gx + 1 := Nat.lt_succ_self _
      generalize gx + 1 = gy at *
      have z0 : World.cell? (w13.alloc (.cells #[.int .i64 (jx + vx), .int .i64 (jy + vy)] 25)) ⟨gy + 1, 0, none⟩ = some (.int .i64 (jx + vx)) := by rw [← zy]; simp [go_sem]
      have z1 : World.cell? (w13.alloc (.cells #[.int .i64 (jx + vx), .int .i64 (jy + vy)] 25)) ⟨gy + 1, 1, none⟩ = some (.int .i64 (jy + vy)) := by rw [← zy]; simp [go_sem]
      have lz : gy + 1 < (w13.alloc (.cells #[.int .i64 (jx + vx), .int .i64 (jy + vy)] 25)).heap.size := by rw [← zy]; simp
      have hb : Below w13.heap.size w13 (w13.alloc (.cells #[.int .i64 (jx + vx), .int .i64 (jy + vy)] 25)) := below_new _ _
      generalize w13.alloc (.cells #[.int .i64 (jx + vx), .int .i64 (jy + vy)] 25) = w14 at *
      replace HB := Lib.hid (on_below HB.out hb)
      replace e0 := keepc hb e0
      replace e1 := keepc hb e1
      replace f0 := keepc hb f0
      replace f1 := keepc hb f1
      replace j0 := keepc hb j0
      replace j1 := keepc hb j1
      replace v0 := keepc hb v0
      replace v1 := keepc hb v1
      replace x0 := keepc hb x0
      replace x1 := keepc hb x1
      replace y0 := keepc hb y0
      replace y1 := keepc hb y1
      replace le := Nat.lt_of_lt_of_le le hb.size
      replace lf := Nat.lt_of_lt_of_le lf hb.size
      replace lj := Nat.lt_of_lt_of_le lj hb.size
      replace lv := Nat.lt_of_lt_of_le lv hb.size
      replace lx := Nat.lt_of_lt_of_le lx hb.size
      replace ly := Nat.lt_of_lt_of_le ly hb.size
      clear hb
      clear zy
      have nz : gy < gy + 1 := Nat.lt_succ_self _
      generalize gy + 1 = gz at *
      with_reducible refine (flat_is (ex + vx) (ey + vy) b1 X1.out _).mono ?_
      rintro e_ w15 ⟨rfl, hb⟩
      replace HB := Lib.hid (on_below HB.out hb)
      replace e0 := keepc hb e0
      replace e1 := keepc hb e1
      replace f0 := keepc hb f0
      replace f1 := keepc hb f1
      replace j0 := keepc hb j0
      replace j1 := keepc hb j1
      replace v0 := keepc hb v0
      replace v1 := keepc hb v1
      replace x0 := keepc hb x0
      replace x1 := keepc hb x1
      replace y0 := keepc hb y0
      replace y1 := keepc hb y1
      replace z0 := keepc hb z0
      replace z1 := keepc hb z1
      replace le := Nat.lt_of_lt_of_le le hb.size
      replace lf := Nat.lt_of_lt_of_le lf hb.size
      replace lj := Nat.lt_of_lt_of_le lj hb.size
      replace lv := Nat.lt_of_lt_of_le lv hb.size
      replace lx := Nat.lt_of_lt_of_le lx hb.size
      replace ly := Nat.lt_of_lt_of_le ly hb.size
      replace lz := Nat.lt_of_lt_of_le lz hb.size
      clear hb
      cases b1
      · skip
        go_wp2_with fail
        go_ret
        exact ⟨rfl, HB.out⟩
      · skip
        go_wp2_with fail
        with_reducible refine (flat_is (fx + vx) (fy + vy) b2 X2.out _).mono ?_
        rintro e_ w16 ⟨rfl, hb⟩
        replace HB := Lib.hid (on_below HB.out hb)
        replace e0 := keepc hb e0
        replace e1 := keepc hb e1
        replace f0 := keepc hb f0
        replace f1 := keepc hb f1
        replace j0 := keepc hb j0
        replace j1 := keepc hb j1
        replace v0 := keepc hb v0
        replace v1 := keepc hb v1
        replace x0 := keepc hb x0
        replace x1 := keepc hb x1
        replace y0 := keepc hb y0
        replace y1 := keepc hb y1
        replace z0 := keepc hb z0
        replace z1 := keepc hb z1
        replace le := Nat.lt_of_lt_of_le le hb.size
        replace lf := Nat.lt_of_lt_of_le lf hb.size
        replace lj := Nat.lt_of_lt_of_le lj hb.size
        replace lv := Nat.lt_of_lt_of_le lv hb.size
        replace lx := Nat.lt_of_lt_of_le lx hb.size
        replace ly := Nat.lt_of_lt_of_le ly hb.size
        replace lz := Nat.lt_of_lt_of_le lz hb.size
        clear hb
        cases b2
        · skip
          go_wp2_with fail
          go_ret
          exact ⟨rfl, HB.out⟩
        · skip
          go_wp2_with fail
          with_reducible refine (flat_is (jx + vx) (jy + vy) b3 X3.out _).mono ?_
          rintro e_ w17 ⟨rfl, hb⟩
          replace HB := Lib.hid (on_below HB.out hb)
          replace e0 := keepc hb e0
          replace e1 := keepc hb e1
          replace f0 := keepc hb f0
          replace f1 := keepc hb f1
          replace j0 := keepc hb j0
          replace j1 := keepc hb j1
          replace v0 := keepc hb v0
          replace v1 := keepc hb v1
          replace x0 := keepc hb x0
          replace x1 := keepc hb x1
          replace y0 := keepc hb y0
          replace y1 := keepc hb y1
          replace z0 := keepc hb z0
          replace z1 := keepc hb z1
          replace le := Nat.lt_of_lt_of_le le hb.size
          replace lf := Nat.lt_of_lt_of_le lf hb.size
          replace lj := Nat.lt_of_lt_of_le lj hb.size
          replace lv := Nat.lt_of_lt_of_le lv hb.size
          replace lx := Nat.lt_of_lt_of_le lx hb.size
          replace ly := Nat.lt_of_lt_of_le ly hb.size
          replace lz := Nat.lt_of_lt_of_le lz hb.size
          clear hb
          cases b3
          · skip
            go_wp2_with fail
            go_ret
            exact ⟨rfl, HB.out⟩
          · skip
            have dt2 := Lib.hid (DT.out (by first | rfl | trivial) (by first | rfl | trivial) (by first | rfl | trivial))
            go_wp2_with fail
            with_reducible refine (dt2.out _).mono ?_
            rintro e_ w18 ⟨rfl, hb⟩
            replace HB := Lib.hid (on_below HB.out hb)
            replace e0 := keepc hb e0
            replace e1 := keepc hb e1
            replace f0 := keepc hb f0
            replace f1 := keepc hb f1
            replace j0 := keepc hb j0
            replace j1 := keepc hb j1
            replace v0 := keepc hb v0
            replace v1 := keepc hb v1
            replace x0 := keepc hb x0
            replace x1 := keepc hb x1
            replace y0 := keepc hb y0
            replace y1 := keepc hb y1
            replace z0 := keepc hb z0
            replace z1 := keepc hb z1
            replace le := Nat.lt_of_lt_of_le le hb.size
            replace lf := Nat.lt_of_lt_of_le lf hb.size
            replace lj := Nat.lt_of_lt_of_le lj hb.size
            replace lv := Nat.lt_of_lt_of_le lv hb.size
            replace lx := Nat.lt_of_lt_of_le lx hb.size
            replace ly := Nat.lt_of_lt_of_le ly hb.size
            replace lz := Nat.lt_of_lt_of_le lz hb.size
            clear hb
            go_wp2_with fail
            go_ret
            exact ⟨rfl, HB.out⟩
theorem sg_cases (n : Int) : (0 < n ∧ sgz n = 1) ∨ (n = 0 ∧ sgz n = 0) ∨ (n < 0 ∧ sgz n = -1) := by
  rcases Int.lt_trichotomy n 0 with h | h | h
  · exact Or.inr (Or.inr ⟨h, sgz_neg1.2 h⟩)
  · exact Or.inr (Or.inl ⟨h, by rw [h]; rfl⟩)
  · exact Or.inl ⟨h, sgz_one.2 h⟩
theorem kp_bd {p q : Bool} {a b c : Int} : -2000 ≤ kp (sE p q (vv a b c)) a ∧ kp (sE p q (vv a b c)) a ≤ 2000 ∧ -2000 ≤ kp (sE p q (vv a b c)) b ∧ kp (sE p q (vv a b c)) b ≤ 2000 := by
  by_cases h : sE p q (vv a b c) = 0
  · rw [kp_ok h, kp_ok h]
    obtain ⟨⟨_, _⟩, ⟨_, _⟩, _⟩ := vv_iff.1 (sE_ok.1 h).2.2
    exact ⟨by omega, by omega, by omega, by omega⟩
  · rw [kp_no h, kp_no h]
    exact ⟨by omega, by omega, by omega, by omega⟩
theorem kp_zero (E : Int) : kp E (0 - 0) = 0 := by unfold kp; split <;> rfl
theorem law_any (ex : Int) (iex : I64 ex) (ey : Int) (iey : I64 ey) (fx : Int) (ifx : I64 fx) (fy : Int) (ify : I64 fy) (jx : Int) (ijx : I64 jx) (jy : Int) (ijy : I64 jy) (vx : Int) (ivx : I64 vx) (vy : Int) (ivy : I64 vy) (w : World) :
    Calls Try.prog 7 #[.agg #[.int .i64 ex, .int .i64 ey], .agg #[.int .i64 fx, .int .i64 fy], .agg #[.int .i64 jx, .int .i64 jy], .agg #[.int .i64 vx, .int .i64 vy]] w fun e_ w' => e_ = .returned (.bool true) ∧ Below w.heap.size w w' := by
  cases h0 : pp ex ey
  · exact law_1 ex ey fx fy jx jy vx vy h0 w
  cases h1 : pp fx fy
  · exact law_2 ex ey fx fy jx jy vx vy h0 h1 w
  cases h2 : pp jx jy
  · exact law_3 ex ey fx fy jx jy vx vy h0 h1 h2 w
  cases h3 : pp vx vy
  · exact law_4 ex ey fx fy jx jy vx vy h0 h1 h2 h3 w
  have b1 := kp_bd (p := vv fx fy 0) (q := vv ex ey 0) (a := fx - ex) (b := fy - ey) (c := 0 - 0)
  refine law_5 ex ey fx fy jx jy vx vy h0 h1 h2 h3 _ (crs ex ey fx fy jx jy) (sE (vv fx fy 0) (vv ex ey 0) (vv (fx - ex) (fy - ey) (0 - 0))) (sE (vv jx jy 0) (vv ex ey 0) (vv (jx - ex) (jy - ey) (0 - 0))) _ _ _ _ _ _ _ rfl ⟨⟨b1.1, b1.2.1⟩, b1.2.2.1, b1.2.2.2⟩
    (fun W => sub_is fx fy 0 ex ey 0 _ _ _ _ rfl rfl rfl (kp_zero _) W) (fun W => sub_is jx jy 0 ex ey 0 _ _ _ _ rfl rfl rfl (kp_zero _) W) ?_ ?_ (sg_cases _) rfl rfl rfl ?_ w
  · by_cases e1 : sE (vv fx fy 0) (vv ex ey 0) (vv (fx - ex) (fy - ey) (0 - 0)) = 0
    · by_cases e2 : sE (vv jx jy 0) (vv ex ey 0) (vv (jx - ex) (jy - ey) (0 - 0)) = 0
      · exact Or.inr (Or.inr ⟨e1, e2⟩)
      · exact Or.inr (Or.inl ⟨e1, e2⟩)
    · exact Or.inl e1
  · intro e1 e2 W
    rw [kp_ok e1, kp_ok e1, kp_ok e2, kp_ok e2]
    have a1 := vv_iff.1 (sE_ok.1 e1).2.2
    have a2 := vv_iff.1 (sE_ok.1 e2).2.2
    have a3 : V3 (-(fy - ey)) (fx - ex) 0 := ⟨by have := a1.y; unfold co at *; omega, a1.x, by unfold co; omega⟩
    refine dot_is _ _ _ _ _ _ _ 0 (by rw [vv_iff.2 a3, show vv (jx - ex) (jy - ey) 0 = true from (sE_ok.1 e2).2.2]; rfl) ?_ W
    exact crs_dt _ _ _ _ _ _
  · intro e1 e2 e3 W
    exact trn_is _ _ _ _ _ _ _ e1 e2 e3 (by rw [crs_move]) W

/-! ### The row -/
open Go.ChangeShapes Go.WideShapes Go.ChangeAt Go.Joins
theorem own : ownKnob Try.prog.godebug = none := by kernel_rfl
noncomputable def laidWorld (os : Os) : World := World.holding Try.prog os ⟨#[], #[], []⟩
theorem laidWorld_met (os : Os) (args : Array Value) : laidMet Try.prog [] ((laidWorld os).forCall (fun _ _ => 0) ⟨#[], args, []⟩).memory :=
  laidMet_of_run' 8 (by kernel_rfl) (by kernel_rfl)

set_option maxRecDepth 100000 in
theorem contract (H : Type) (enc : TypeId × Value → H) (W : World) (base : Nat) (args : Array Value) (ds gs : List (DataW H)) (before : List MemPlace)
    (hval : ∀ (j : Nat) t v, Try.f7.params[j]? = some t → args[j]? = some v → Value.okWide Try.prog W .any base t v)
    (hW : DataW.Whole enc Try.prog Try.f7.params.toList Rows.vectorPlaneSpec.vars false W args.toList ds gs before) :
    Calls Try.prog 7 args W fun e W' => ∃ v, e = .returned v ∧ Rows.vectorPlaneSpec.post enc Try.prog Try.f7 false true false false W args v W' := by
  have hW' := hW
  obtain ⟨p, q, hA0, hV, rfl, hfz, hnd⟩ := hW
  have hA : DataW.TrodAll enc Try.prog W 0 (fun _ => true) true Try.f7.params.toList args.toList ds p := hA0
  rw [Try.params7] at hA hval
  obtain ⟨v0, vs0, d0, ds0, p0, q0, hargs, rfl, rfl, h0, r0⟩ := trodAll_cons hA
  obtain ⟨v1, vs1, d1, ds1, p1, q1, rfl, rfl, rfl, h1, r1⟩ := trodAll_cons r0
  obtain ⟨v2, vs2, d2, ds2, p2, q2, rfl, rfl, rfl, h2, r2⟩ := trodAll_cons r1
  obtain ⟨v3, vs3, d3, ds3, p3, q3, rfl, rfl, rfl, h3, r3⟩ := trodAll_cons r2
  obtain ⟨rfl, rfl, rfl⟩ := trodAll_nil r3
  obtain rfl : args = #[v0, v1, v2, v3] := Array.toList_inj.1 hargs
  obtain ⟨rfl, rfl⟩ := trodVars_none hV
  obtain ⟨ex, ey, rfl, rfl, rfl, iex, iey⟩ := open_point (hval 0 25 v0 rfl rfl) h0
  obtain ⟨fx, fy, rfl, rfl, rfl, ifx, ify⟩ := open_point (hval 1 25 v1 rfl rfl) h1
  obtain ⟨jx, jy, rfl, rfl, rfl, ijx, ijy⟩ := open_point (hval 2 25 v2 rfl rfl) h2
  obtain ⟨vx, vy, rfl, rfl, rfl, ivx, ivy⟩ := open_point (hval 3 25 v3 rfl rfl) h3
  clear hA0
  refine (law_any ex (wf_i iex) ey (wf_i iey) fx (wf_i ifx) fy (wf_i ify) jx (wf_i ijx) jy (wf_i ijy) vx (wf_i ivx) vy (wf_i ivy) W).mono fun e W' ⟨he, bel⟩ => ?_
  subst he
  exact ⟨_, rfl, _, _, _, [], _, [], hW', trodAll_mk1 (shut_bool Try.underlying4 _), (trodAll_cons_mk (shut_point iex iey) (trodAll_cons_mk (shut_point ifx ify) (trodAll_cons_mk (shut_point ijx ijy) (trodAll_cons_mk (shut_point ivx ivy) trodAll_mk0)))), rfl, bel.frame _, fun h => by cases h⟩

theorem reads (os : Os) {H : Type} (enc : TypeId × Value → H) : ∃ places, DataW.whole enc Try.prog ((laidWorld os).forCall (fun _ _ => 0) ⟨#[], #[.agg #[.int .i64 0, .int .i64 0], .agg #[.int .i64 0, .int .i64 0], .agg #[.int .i64 0, .int .i64 0], .agg #[.int .i64 0, .int .i64 0]], []⟩).memory Try.f7.params.toList Rows.vectorPlaneSpec.vars false (#[.agg #[.int .i64 0, .int .i64 0], .agg #[.int .i64 0, .int .i64 0], .agg #[.int .i64 0, .int .i64 0], .agg #[.int .i64 0, .int .i64 0]] : Array Value).toList 8 = some ([.agg [.lit (.int .i64 0), .lit (.int .i64 0)], .agg [.lit (.int .i64 0), .lit (.int .i64 0)], .agg [.lit (.int .i64 0), .lit (.int .i64 0)], .agg [.lit (.int .i64 0), .lit (.int .i64 0)]], [], places) :=
  ⟨[], by kernel_rfl⟩

set_option maxRecDepth 100000 in
theorem lifted (os : Os) (started : os.Started) (H : Type) (enc : TypeId × Value → H) (F : Stop.Interp) :
    ReturnsInHanded {} Try.checked os 7 .any ((OpenSpec.ofChange Rows.vectorPlaneSpec).preRow enc Try.prog Try.f7 Rows.vectorPlaneRow.domain false Rows.vectorPlaneRow.laid) (((OpenSpec.ofChange Rows.vectorPlaneSpec).at F).post enc Try.prog Try.f7 false true false false) := by
  obtain ⟨places, hx⟩ := reads os enc
  refine returnsInHanded_of_row (C := Try.checked) (s := OpenSpec.ofChange Rows.vectorPlaneSpec) own started (by kernel_rfl) Try.func7
    (witness_row_atRef (enc := enc) (C := Try.checked) false (laidWorld os) #[.agg #[.int .i64 0, .int .i64 0], .agg #[.int .i64 0, .int .i64 0], .agg #[.int .i64 0, .int .i64 0], .agg #[.int .i64 0, .int .i64 0]] rfl (by kernel_rfl) (by kernel_rfl) (by kernel_rfl)
      (OpenSpec.preRow_of_cond 8 hx (by kernel_rfl) (fun k hk => by cases hk) (by kernel_rfl) (laidWorld_met os _))) ?_
  intro W base args ds gs before hval hW _ hcond _ hL hsh _
  exact contract H enc W base args ds gs before hval hW

/-- The statement. -/
theorem said : Rows.VectorPlaneSaid :=
  OpenClaim.holds_of_cond 7 Try.f7 rfl rfl rfl rfl rfl rfl rfl ⟨rfl, rfl, rfl, rfl, rfl⟩ rfl rfl rfl rfl rfl (by kernel_rfl) Try.func7 (by kernel_rfl)
    (of_decide_eq_true (by kernel_rfl)) (by unfold Func.isWrapper; first | (rw [if_pos (by decide +kernel)]; kernel_rfl) | (rw [if_neg (by decide +kernel)]; exact ⟨rfl, rfl⟩))
    (fun os started H enc _ F => by rw [OpenClaim.pre_eq_preRow]; exact lifted os started H enc F)
end Go.Proofs.Ytdkofonneebciaa.vectorPlane
