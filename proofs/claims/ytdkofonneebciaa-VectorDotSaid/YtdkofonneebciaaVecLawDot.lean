/-
  VectorDot: Dot is symmetric and distributes over Add; squares; the square of Dot.
-/
import Derived.Test.YtdkofonneebciaaVecJ
import Derived.Test.YtdkofonneebciaaRows
import Derived.ProofKit
import Derived.OpenShut
import Derived.Deep.DeepHandedRow
import Derived.Deep.DeepWitnessRowRef
import Derived.MakeChecks
import Derived.Deep.DeepCutAuto
namespace Go.Proofs.Ytdkofonneebciaa.vectorDot
open Go.RowKit Go.Sort
open Go.RowKit (Below)
set_option linter.unusedVariables false
set_option linter.unusedSimpArgs false

set_option maxRecDepth 100000 in
set_option maxHeartbeats 2000000 in
theorem law_1 (kx ky kz mx my mz nx ny nz : Int) (h0 : vv kx ky kz = false) (w : World) :
    Calls Try.prog 5 #[.agg #[.int .i64 kx, .int .i64 ky, .int .i64 kz], .agg #[.int .i64 mx, .int .i64 my, .int .i64 mz], .agg #[.int .i64 nx, .int .i64 ny, .int .i64 nz]] w fun e_ w' => e_ = .returned (.bool true) ∧ Below w.heap.size w w' := by
  have H0 := Lib.hid h0
  clear h0
  have k0 : World.cell? (((w.alloc (.cells #[.int .i64 kx, .int .i64 ky, .int .i64 kz] 23)).alloc (.cells #[.int .i64 mx, .int .i64 my, .int .i64 mz] 23)).alloc (.cells #[.int .i64 nx, .int .i64 ny, .int .i64 nz] 23)) ⟨w.heap.size, 0, none⟩ = some (.int .i64 kx) := by simp [go_sem]
  have k1 : World.cell? (((w.alloc (.cells #[.int .i64 kx, .int .i64 ky, .int .i64 kz] 23)).alloc (.cells #[.int .i64 mx, .int .i64 my, .int .i64 mz] 23)).alloc (.cells #[.int .i64 nx, .int .i64 ny, .int .i64 nz] 23)) ⟨w.heap.size, 1, none⟩ = some (.int .i64 ky) := by simp [go_sem]
  have k2 : World.cell? (((w.alloc (.cells #[.int .i64 kx, .int .i64 ky, .int .i64 kz] 23)).alloc (.cells #[.int .i64 mx, .int .i64 my, .int .i64 mz] 23)).alloc (.cells #[.int .i64 nx, .int .i64 ny, .int .i64 nz] 23)) ⟨w.heap.size, 2, none⟩ = some (.int .i64 kz) := by simp [go_sem]
  have lk : w.heap.size < (((w.alloc (.cells #[.int .i64 kx, .int .i64 ky, .int .i64 kz] 23)).alloc (.cells #[.int .i64 mx, .int .i64 my, .int .i64 mz] 23)).alloc (.cells #[.int .i64 nx, .int .i64 ny, .int .i64 nz] 23)).heap.size := by simp <;> omega
  have m0 : World.cell? (((w.alloc (.cells #[.int .i64 kx, .int .i64 ky, .int .i64 kz] 23)).alloc (.cells #[.int .i64 mx, .int .i64 my, .int .i64 mz] 23)).alloc (.cells #[.int .i64 nx, .int .i64 ny, .int .i64 nz] 23)) ⟨w.heap.size + 1, 0, none⟩ = some (.int .i64 mx) := by simp [go_sem]
  have m1 : World.cell? (((w.alloc (.cells #[.int .i64 kx, .int .i64 ky, .int .i64 kz] 23)).alloc (.cells #[.int .i64 mx, .int .i64 my, .int .i64 mz] 23)).alloc (.cells #[.int .i64 nx, .int .i64 ny, .int .i64 nz] 23)) ⟨w.heap.size + 1, 1, none⟩ = some (.int .i64 my) := by simp [go_sem]
  have m2 : World.cell? (((w.alloc (.cells #[.int .i64 kx, .int .i64 ky, .int .i64 kz] 23)).alloc (.cells #[.int .i64 mx, .int .i64 my, .int .i64 mz] 23)).alloc (.cells #[.int .i64 nx, .int .i64 ny, .int .i64 nz] 23)) ⟨w.heap.size + 1, 2, none⟩ = some (.int .i64 mz) := by simp [go_sem]
  have lm : w.heap.size + 1 < (((w.alloc (.cells #[.int .i64 kx, .int .i64 ky, .int .i64 kz] 23)).alloc (.cells #[.int .i64 mx, .int .i64 my, .int .i64 mz] 23)).alloc (.cells #[.int .i64 nx, .int .i64 ny, .int .i64 nz] 23)).heap.size := by simp <;> omega
  have n0 : World.cell? (((w.alloc (.cells #[.int .i64 kx, .int .i64 ky, .int .i64 kz] 23)).alloc (.cells #[.int .i64 mx, .int .i64 my, .int .i64 mz] 23)).alloc (.cells #[.int .i64 nx, .int .i64 ny, .int .i64 nz] 23)) ⟨w.heap.size + 1 + 1, 0, none⟩ = some (.int .i64 nx) := by simp [go_sem]
  have n1 : World.cell? (((w.alloc (.cells #[.int .i64 kx, .int .i64 ky, .int .i64 kz] 23)).alloc (.cells #[.int .i64 mx, .int .i64 my, .int .i64 mz] 23)).alloc (.cells #[.int .i64 nx, .int .i64 ny, .int .i64 nz] 23)) ⟨w.heap.size + 1 + 1, 1, none⟩ = some (.int .i64 ny) := by simp [go_sem]
  have n2 : World.cell? (((w.alloc (.cells #[.int .i64 kx, .int .i64 ky, .int .i64 kz] 23)).alloc (.cells #[.int .i64 mx, .int .i64 my, .int .i64 mz] 23)).alloc (.cells #[.int .i64 nx, .int .i64 ny, .int .i64 nz] 23)) ⟨w.heap.size + 1 + 1, 2, none⟩ = some (.int .i64 nz) := by simp [go_sem]
  have ln : w.heap.size + 1 + 1 < (((w.alloc (.cells #[.int .i64 kx, .int .i64 ky, .int .i64 kz] 23)).alloc (.cells #[.int .i64 mx, .int .i64 my, .int .i64 mz] 23)).alloc (.cells #[.int .i64 nx, .int .i64 ny, .int .i64 nz] 23)).heap.size := by simp <;> omega
  have HB := Lib.hid (show Below w.heap.size w (((w.alloc (.cells #[.int .i64 kx, .int .i64 ky, .int .i64 kz] 23)).alloc (.cells #[.int .i64 mx, .int .i64 my, .int .i64 mz] 23)).alloc (.cells #[.int .i64 nx, .int .i64 ny, .int .i64 nz] 23)) from ((((Below.refl _ _).alloc (by simp <;> omega) _).alloc (by simp <;> omega) _).alloc (by simp <;> omega) _))
  go_enter Try.func5, Try.ntmps5
  go_wp2_with fail
  generalize ((w.alloc (.cells #[.int .i64 kx, .int .i64 ky, .int .i64 kz] 23)).alloc (.cells #[.int .i64 mx, .int .i64 my, .int .i64 mz] 23)).alloc (.cells #[.int .i64 nx, .int .i64 ny, .int .i64 nz] 23) = w1 at *
  refine (head_any _).mono ?_
  rintro e_ w2 ⟨rfl, hb⟩
  replace HB := Lib.hid (on_below HB.out hb)
  replace k0 := keepc hb k0
  replace k1 := keepc hb k1
  replace k2 := keepc hb k2
  replace m0 := keepc hb m0
  replace m1 := keepc hb m1
  replace m2 := keepc hb m2
  replace n0 := keepc hb n0
  replace n1 := keepc hb n1
  replace n2 := keepc hb n2
  replace lk := Nat.lt_of_lt_of_le lk hb.size
  replace lm := Nat.lt_of_lt_of_le lm hb.size
  replace ln := Nat.lt_of_lt_of_le ln hb.size
  clear hb
  go_wp2_with fail
  refine (valid_is kx ky kz false H0.out _).mono ?_
  rintro e_ w3 ⟨rfl, hb⟩
  replace HB := Lib.hid (on_below HB.out hb)
  replace k0 := keepc hb k0
  replace k1 := keepc hb k1
  replace k2 := keepc hb k2
  replace m0 := keepc hb m0
  replace m1 := keepc hb m1
  replace m2 := keepc hb m2
  replace n0 := keepc hb n0
  replace n1 := keepc hb n1
  replace n2 := keepc hb n2
  replace lk := Nat.lt_of_lt_of_le lk hb.size
  replace lm := Nat.lt_of_lt_of_le lm hb.size
  replace ln := Nat.lt_of_lt_of_le ln hb.size
  clear hb
  go_wp2_with fail
  go_ret
  exact ⟨rfl, HB.out⟩
set_option maxRecDepth 100000 in
set_option maxHeartbeats 2000000 in
theorem law_2 (kx ky kz mx my mz nx ny nz : Int) (h0 : vv kx ky kz = true) (h1 : vv mx my mz = false) (w : World) :
    Calls Try.prog 5 #[.agg #[.int .i64 kx, .int .i64 ky, .int .i64 kz], .agg #[.int .i64 mx, .int .i64 my, .int .i64 mz], .agg #[.int .i64 nx, .int .i64 ny, .int .i64 nz]] w fun e_ w' => e_ = .returned (.bool true) ∧ Below w.heap.size w w' := by
  have H0 := Lib.hid h0
  clear h0
  have H1 := Lib.hid h1
  clear h1
  have k0 : World.cell? (((w.alloc (.cells #[.int .i64 kx, .int .i64 ky, .int .i64 kz] 23)).alloc (.cells #[.int .i64 mx, .int .i64 my, .int .i64 mz] 23)).alloc (.cells #[.int .i64 nx, .int .i64 ny, .int .i64 nz] 23)) ⟨w.heap.size, 0, none⟩ = some (.int .i64 kx) := by simp [go_sem]
  have k1 : World.cell? (((w.alloc (.cells #[.int .i64 kx, .int .i64 ky, .int .i64 kz] 23)).alloc (.cells #[.int .i64 mx, .int .i64 my, .int .i64 mz] 23)).alloc (.cells #[.int .i64 nx, .int .i64 ny, .int .i64 nz] 23)) ⟨w.heap.size, 1, none⟩ = some (.int .i64 ky) := by simp [go_sem]
  have k2 : World.cell? (((w.alloc (.cells #[.int .i64 kx, .int .i64 ky, .int .i64 kz] 23)).alloc (.cells #[.int .i64 mx, .int .i64 my, .int .i64 mz] 23)).alloc (.cells #[.int .i64 nx, .int .i64 ny, .int .i64 nz] 23)) ⟨w.heap.size, 2, none⟩ = some (.int .i64 kz) := by simp [go_sem]
  have lk : w.heap.size < (((w.alloc (.cells #[.int .i64 kx, .int .i64 ky, .int .i64 kz] 23)).alloc (.cells #[.int .i64 mx, .int .i64 my, .int .i64 mz] 23)).alloc (.cells #[.int .i64 nx, .int .i64 ny, .int .i64 nz] 23)).heap.size := by simp <;> omega
  have m0 : World.cell? (((w.alloc (.cells #[.int .i64 kx, .int .i64 ky, .int .i64 kz] 23)).alloc (.cells #[.int .i64 mx, .int .i64 my, .int .i64 mz] 23)).alloc (.cells #[.int .i64 nx, .int .i64 ny, .int .i64 nz] 23)) ⟨w.heap.size + 1, 0, none⟩ = some (.int .i64 mx) := by simp [go_sem]
  have m1 : World.cell? (((w.alloc (.cells #[.int .i64 kx, .int .i64 ky, .int .i64 kz] 23)).alloc (.cells #[.int .i64 mx, .int .i64 my, .int .i64 mz] 23)).alloc (.cells #[.int .i64 nx, .int .i64 ny, .int .i64 nz] 23)) ⟨w.heap.size + 1, 1, none⟩ = some (.int .i64 my) := by simp [go_sem]
  have m2 : World.cell? (((w.alloc (.cells #[.int .i64 kx, .int .i64 ky, .int .i64 kz] 23)).alloc (.cells #[.int .i64 mx, .int .i64 my, .int .i64 mz] 23)).alloc (.cells #[.int .i64 nx, .int .i64 ny, .int .i64 nz] 23)) ⟨w.heap.size + 1, 2, none⟩ = some (.int .i64 mz) := by simp [go_sem]
  have lm : w.heap.size + 1 < (((w.alloc (.cells #[.int .i64 kx, .int .i64 ky, .int .i64 kz] 23)).alloc (.cells #[.int .i64 mx, .int .i64 my, .int .i64 mz] 23)).alloc (.cells #[.int .i64 nx, .int .i64 ny, .int .i64 nz] 23)).heap.size := by simp <;> omega
  have n0 : World.cell? (((w.alloc (.cells #[.int .i64 kx, .int .i64 ky, .int .i64 kz] 23)).alloc (.cells #[.int .i64 mx, .int .i64 my, .int .i64 mz] 23)).alloc (.cells #[.int .i64 nx, .int .i64 ny, .int .i64 nz] 23)) ⟨w.heap.size + 1 + 1, 0, none⟩ = some (.int .i64 nx) := by simp [go_sem]
  have n1 : World.cell? (((w.alloc (.cells #[.int .i64 kx, .int .i64 ky, .int .i64 kz] 23)).alloc (.cells #[.int .i64 mx, .int .i64 my, .int .i64 mz] 23)).alloc (.cells #[.int .i64 nx, .int .i64 ny, .int .i64 nz] 23)) ⟨w.heap.size + 1 + 1, 1, none⟩ = some (.int .i64 ny) := by simp [go_sem]
  have n2 : World.cell? (((w.alloc (.cells #[.int .i64 kx, .int .i64 ky, .int .i64 kz] 23)).alloc (.cells #[.int .i64 mx, .int .i64 my, .int .i64 mz] 23)).alloc (.cells #[.int .i64 nx, .int .i64 ny, .int .i64 nz] 23)) ⟨w.heap.size + 1 + 1, 2, none⟩ = some (.int .i64 nz) := by simp [go_sem]
  have ln : w.heap.size + 1 + 1 < (((w.alloc (.cells #[.int .i64 kx, .int .i64 ky, .int .i64 kz] 23)).alloc (.cells #[.int .i64 mx, .int .i64 my, .int .i64 mz] 23)).alloc (.cells #[.int .i64 nx, .int .i64 ny, .int .i64 nz] 23)).heap.size := by simp <;> omega
  have HB := Lib.hid (show Below w.heap.size w (((w.alloc (.cells #[.int .i64 kx, .int .i64 ky, .int .i64 kz] 23)).alloc (.cells #[.int .i64 mx, .int .i64 my, .int .i64 mz] 23)).alloc (.cells #[.int .i64 nx, .int .i64 ny, .int .i64 nz] 23)) from ((((Below.refl _ _).alloc (by simp <;> omega) _).alloc (by simp <;> omega) _).alloc (by simp <;> omega) _))
  go_enter Try.func5, Try.ntmps5
  go_wp2_with fail
  generalize ((w.alloc (.cells #[.int .i64 kx, .int .i64 ky, .int .i64 kz] 23)).alloc (.cells #[.int .i64 mx, .int .i64 my, .int .i64 mz] 23)).alloc (.cells #[.int .i64 nx, .int .i64 ny, .int .i64 nz] 23) = w1 at *
  refine (head_any _).mono ?_
  rintro e_ w2 ⟨rfl, hb⟩
  replace HB := Lib.hid (on_below HB.out hb)
  replace k0 := keepc hb k0
  replace k1 := keepc hb k1
  replace k2 := keepc hb k2
  replace m0 := keepc hb m0
  replace m1 := keepc hb m1
  replace m2 := keepc hb m2
  replace n0 := keepc hb n0
  replace n1 := keepc hb n1
  replace n2 := keepc hb n2
  replace lk := Nat.lt_of_lt_of_le lk hb.size
  replace lm := Nat.lt_of_lt_of_le lm hb.size
  replace ln := Nat.lt_of_lt_of_le ln hb.size
  clear hb
  go_wp2_with fail
  refine (valid_is kx ky kz true H0.out _).mono ?_
  rintro e_ w3 ⟨rfl, hb⟩
  replace HB := Lib.hid (on_below HB.out hb)
  replace k0 := keepc hb k0
  replace k1 := keepc hb k1
  replace k2 := keepc hb k2
  replace m0 := keepc hb m0
  replace m1 := keepc hb m1
  replace m2 := keepc hb m2
  replace n0 := keepc hb n0
  replace n1 := keepc hb n1
  replace n2 := keepc hb n2
  replace lk := Nat.lt_of_lt_of_le lk hb.size
  replace lm := Nat.lt_of_lt_of_le lm hb.size
  replace ln := Nat.lt_of_lt_of_le ln hb.size
  clear hb
  go_wp2_with fail
  refine (valid_is mx my mz false H1.out _).mono ?_
  rintro e_ w4 ⟨rfl, hb⟩
  replace HB := Lib.hid (on_below HB.out hb)
  replace k0 := keepc hb k0
  replace k1 := keepc hb k1
  replace k2 := keepc hb k2
  replace m0 := keepc hb m0
  replace m1 := keepc hb m1
  replace m2 := keepc hb m2
  replace n0 := keepc hb n0
  replace n1 := keepc hb n1
  replace n2 := keepc hb n2
  replace lk := Nat.lt_of_lt_of_le lk hb.size
  replace lm := Nat.lt_of_lt_of_le lm hb.size
  replace ln := Nat.lt_of_lt_of_le ln hb.size
  clear hb
  go_wp2_with fail
  go_ret
  exact ⟨rfl, HB.out⟩
set_option maxRecDepth 100000 in
set_option maxHeartbeats 2000000 in
theorem law_3 (kx ky kz mx my mz nx ny nz : Int) (h0 : vv kx ky kz = true) (h1 : vv mx my mz = true) (h2 : vv nx ny nz = false) (w : World) :
    Calls Try.prog 5 #[.agg #[.int .i64 kx, .int .i64 ky, .int .i64 kz], .agg #[.int .i64 mx, .int .i64 my, .int .i64 mz], .agg #[.int .i64 nx, .int .i64 ny, .int .i64 nz]] w fun e_ w' => e_ = .returned (.bool true) ∧ Below w.heap.size w w' := by
  have H0 := Lib.hid h0
  clear h0
  have H1 := Lib.hid h1
  clear h1
  have H2 := Lib.hid h2
  clear h2
  have k0 : World.cell? (((w.alloc (.cells #[.int .i64 kx, .int .i64 ky, .int .i64 kz] 23)).alloc (.cells #[.int .i64 mx, .int .i64 my, .int .i64 mz] 23)).alloc (.cells #[.int .i64 nx, .int .i64 ny, .int .i64 nz] 23)) ⟨w.heap.size, 0, none⟩ = some (.int .i64 kx) := by simp [go_sem]
  have k1 : World.cell? (((w.alloc (.cells #[.int .i64 kx, .int .i64 ky, .int .i64 kz] 23)).alloc (.cells #[.int .i64 mx, .int .i64 my, .int .i64 mz] 23)).alloc (.cells #[.int .i64 nx, .int .i64 ny, .int .i64 nz] 23)) ⟨w.heap.size, 1, none⟩ = some (.int .i64 ky) := by simp [go_sem]
  have k2 : World.cell? (((w.alloc (.cells #[.int .i64 kx, .int .i64 ky, .int .i64 kz] 23)).alloc (.cells #[.int .i64 mx, .int .i64 my, .int .i64 mz] 23)).alloc (.cells #[.int .i64 nx, .int .i64 ny, .int .i64 nz] 23)) ⟨w.heap.size, 2, none⟩ = some (.int .i64 kz) := by simp [go_sem]
  have lk : w.heap.size < (((w.alloc (.cells #[.int .i64 kx, .int .i64 ky, .int .i64 kz] 23)).alloc (.cells #[.int .i64 mx, .int .i64 my, .int .i64 mz] 23)).alloc (.cells #[.int .i64 nx, .int .i64 ny, .int .i64 nz] 23)).heap.size := by simp <;> omega
  have m0 : World.cell? (((w.alloc (.cells #[.int .i64 kx, .int .i64 ky, .int .i64 kz] 23)).alloc (.cells #[.int .i64 mx, .int .i64 my, .int .i64 mz] 23)).alloc (.cells #[.int .i64 nx, .int .i64 ny, .int .i64 nz] 23)) ⟨w.heap.size + 1, 0, none⟩ = some (.int .i64 mx) := by simp [go_sem]
  have m1 : World.cell? (((w.alloc (.cells #[.int .i64 kx, .int .i64 ky, .int .i64 kz] 23)).alloc (.cells #[.int .i64 mx, .int .i64 my, .int .i64 mz] 23)).alloc (.cells #[.int .i64 nx, .int .i64 ny, .int .i64 nz] 23)) ⟨w.heap.size + 1, 1, none⟩ = some (.int .i64 my) := by simp [go_sem]
  have m2 : World.cell? (((w.alloc (.cells #[.int .i64 kx, .int .i64 ky, .int .i64 kz] 23)).alloc (.cells #[.int .i64 mx, .int .i64 my, .int .i64 mz] 23)).alloc (.cells #[.int .i64 nx, .int .i64 ny, .int .i64 nz] 23)) ⟨w.heap.size + 1, 2, none⟩ = some (.int .i64 mz) := by simp [go_sem]
  have lm : w.heap.size + 1 < (((w.alloc (.cells #[.int .i64 kx, .int .i64 ky, .int .i64 kz] 23)).alloc (.cells #[.int .i64 mx, .int .i64 my, .int .i64 mz] 23)).alloc (.cells #[.int .i64 nx, .int .i64 ny, .int .i64 nz] 23)).heap.size := by simp <;> omega
  have n0 : World.cell? (((w.alloc (.cells #[.int .i64 kx, .int .i64 ky, .int .i64 kz] 23)).alloc (.cells #[.int .i64 mx, .int .i64 my, .int .i64 mz] 23)).alloc (.cells #[.int .i64 nx, .int .i64 ny, .int .i64 nz] 23)) ⟨w.heap.size + 1 + 1, 0, none⟩ = some (.int .i64 nx) := by simp [go_sem]
  have n1 : World.cell? (((w.alloc (.cells #[.int .i64 kx, .int .i64 ky, .int .i64 kz] 23)).alloc (.cells #[.int .i64 mx, .int .i64 my, .int .i64 mz] 23)).alloc (.cells #[.int .i64 nx, .int .i64 ny, .int .i64 nz] 23)) ⟨w.heap.size + 1 + 1, 1, none⟩ = some (.int .i64 ny) := by simp [go_sem]
  have n2 : World.cell? (((w.alloc (.cells #[.int .i64 kx, .int .i64 ky, .int .i64 kz] 23)).alloc (.cells #[.int .i64 mx, .int .i64 my, .int .i64 mz] 23)).alloc (.cells #[.int .i64 nx, .int .i64 ny, .int .i64 nz] 23)) ⟨w.heap.size + 1 + 1, 2, none⟩ = some (.int .i64 nz) := by simp [go_sem]
  have ln : w.heap.size + 1 + 1 < (((w.alloc (.cells #[.int .i64 kx, .int .i64 ky, .int .i64 kz] 23)).alloc (.cells #[.int .i64 mx, .int .i64 my, .int .i64 mz] 23)).alloc (.cells #[.int .i64 nx, .int .i64 ny, .int .i64 nz] 23)).heap.size := by simp <;> omega
  have HB := Lib.hid (show Below w.heap.size w (((w.alloc (.cells #[.int .i64 kx, .int .i64 ky, .int .i64 kz] 23)).alloc (.cells #[.int .i64 mx, .int .i64 my, .int .i64 mz] 23)).alloc (.cells #[.int .i64 nx, .int .i64 ny, .int .i64 nz] 23)) from ((((Below.refl _ _).alloc (by simp <;> omega) _).alloc (by simp <;> omega) _).alloc (by simp <;> omega) _))
  go_enter Try.func5, Try.ntmps5
  go_wp2_with fail
  generalize ((w.alloc (.cells #[.int .i64 kx, .int .i64 ky, .int .i64 kz] 23)).alloc (.cells #[.int .i64 mx, .int .i64 my, .int .i64 mz] 23)).alloc (.cells #[.int .i64 nx, .int .i64 ny, .int .i64 nz] 23) = w1 at *
  refine (head_any _).mono ?_
  rintro e_ w2 ⟨rfl, hb⟩
  replace HB := Lib.hid (on_below HB.out hb)
  replace k0 := keepc hb k0
  replace k1 := keepc hb k1
  replace k2 := keepc hb k2
  replace m0 := keepc hb m0
  replace m1 := keepc hb m1
  replace m2 := keepc hb m2
  replace n0 := keepc hb n0
  replace n1 := keepc hb n1
  replace n2 := keepc hb n2
  replace lk := Nat.lt_of_lt_of_le lk hb.size
  replace lm := Nat.lt_of_lt_of_le lm hb.size
  replace ln := Nat.lt_of_lt_of_le ln hb.size
  clear hb
  go_wp2_with fail
  refine (valid_is kx ky kz true H0.out _).mono ?_
  rintro e_ w3 ⟨rfl, hb⟩
  replace HB := Lib.hid (on_below HB.out hb)
  replace k0 := keepc hb k0
  replace k1 := keepc hb k1
  replace k2 := keepc hb k2
  replace m0 := keepc hb m0
  replace m1 := keepc hb m1
  replace m2 := keepc hb m2
  replace n0 := keepc hb n0
  replace n1 := keepc hb n1
  replace n2 := keepc hb n2
  replace lk := Nat.lt_of_lt_of_le lk hb.size
  replace lm := Nat.lt_of_lt_of_le lm hb.size
  replace ln := Nat.lt_of_lt_of_le ln hb.size
  clear hb
  go_wp2_with fail
  refine (valid_is mx my mz true H1.out _).mono ?_
  rintro e_ w4 ⟨rfl, hb⟩
  replace HB := Lib.hid (on_below HB.out hb)
  replace k0 := keepc hb k0
  replace k1 := keepc hb k1
  replace k2 := keepc hb k2
  replace m0 := keepc hb m0
  replace m1 := keepc hb m1
  replace m2 := keepc hb m2
  replace n0 := keepc hb n0
  replace n1 := keepc hb n1
  replace n2 := keepc hb n2
  replace lk := Nat.lt_of_lt_of_le lk hb.size
  replace lm := Nat.lt_of_lt_of_le lm hb.size
  replace ln := Nat.lt_of_lt_of_le ln hb.size
  clear hb
  go_wp2_with fail
  refine (valid_is nx ny nz false H2.out _).mono ?_
  rintro e_ w5 ⟨rfl, hb⟩
  replace HB := Lib.hid (on_below HB.out hb)
  replace k0 := keepc hb k0
  replace k1 := keepc hb k1
  replace k2 := keepc hb k2
  replace m0 := keepc hb m0
  replace m1 := keepc hb m1
  replace m2 := keepc hb m2
  replace n0 := keepc hb n0
  replace n1 := keepc hb n1
  replace n2 := keepc hb n2
  replace lk := Nat.lt_of_lt_of_le lk hb.size
  replace lm := Nat.lt_of_lt_of_le lm hb.size
  replace ln := Nat.lt_of_lt_of_le ln hb.size
  clear hb
  go_wp2_with fail
  go_ret
  exact ⟨rfl, HB.out⟩
theorem max4 (ts : Array TypeId) (t : TypeId) (A B s n : Int) : ∃ X, (∀ W, (Builtin.max_ ts t #[.int .i64 A, .int .i64 B, .int .i64 s, .int .i64 n]).run Try.prog W = .ok (.int .i64 X) W) ∧ ∀ m, A ≤ m → B ≤ m → s ≤ m → n ≤ m → X ≤ m := by
  refine ⟨if n > (if s > (if B > A then B else A) then s else (if B > A then B else A)) then n else (if s > (if B > A then B else A) then s else (if B > A then B else A)), fun W => by simp [Builtin.max_, Builtin.max2], ?_⟩
  intro m h1 h2 h3 h4
  repeat' split
  all_goals omega
set_option maxRecDepth 100000 in
set_option maxHeartbeats 2000000 in
theorem law_4 (kx ky kz mx my mz nx ny nz : Int) (h0 : vv kx ky kz = true) (h1 : vv mx my mz = true) (h2 : vv nx ny nz = true) (s A B C E rx ry rz : Int) (q b1 b2 b3 fl : Bool) (d1 : (∀ W, Calls Try.prog 16 #[.agg #[.int .i64 kx, .int .i64 ky, .int .i64 kz], .agg #[.int .i64 mx, .int .i64 my, .int .i64 mz]] W fun e_ w' => e_ = .returned (.tuple #[.int .i64 s, .int .i64 0]) ∧ Below W.heap.size W w')) (d2 : (∀ W, Calls Try.prog 16 #[.agg #[.int .i64 mx, .int .i64 my, .int .i64 mz], .agg #[.int .i64 kx, .int .i64 ky, .int .i64 kz]] W fun e_ w' => e_ = .returned (.tuple #[.int .i64 s, .int .i64 0]) ∧ Below W.heap.size W w')) (d3 : (∀ W, Calls Try.prog 16 #[.agg #[.int .i64 kx, .int .i64 ky, .int .i64 kz], .agg #[.int .i64 kx, .int .i64 ky, .int .i64 kz]] W fun e_ w' => e_ = .returned (.tuple #[.int .i64 A, .int .i64 0]) ∧ Below W.heap.size W w')) (d4 : (∀ W, Calls Try.prog 16 #[.agg #[.int .i64 mx, .int .i64 my, .int .i64 mz], .agg #[.int .i64 mx, .int .i64 my, .int .i64 mz]] W fun e_ w' => e_ = .returned (.tuple #[.int .i64 B, .int .i64 0]) ∧ Below W.heap.size W w')) (d5 : (∀ W, Calls Try.prog 16 #[.agg #[.int .i64 kx, .int .i64 ky, .int .i64 kz], .agg #[.int .i64 nx, .int .i64 ny, .int .i64 nz]] W fun e_ w' => e_ = .returned (.tuple #[.int .i64 C, .int .i64 0]) ∧ Below W.heap.size W w'))
    (bs : -12000000 ≤ s ∧ s ≤ 12000000) (bC : -12000000 ≤ C ∧ C ≤ 12000000) (bA : 0 ≤ A ∧ A ≤ 12000000) (bB : 0 ≤ B ∧ B ≤ 12000000) (hle : s * s ≤ A * B)
    (hq : (A == 0) = q) (hz : decide (kx = 0 ∧ ky = 0 ∧ kz = 0) = q) (e1 : (kx * my == ky * mx) = b1) (e2 : (ky * mz == kz * my) = b2) (e3 : (kz * mx == kx * mz) = b3) (ef : (b1 && b2 && b3) = fl) (eq : (s * s == A * B) = fl)
    (da : ∀ W, Calls Try.prog 12 #[.agg #[.int .i64 mx, .int .i64 my, .int .i64 mz], .agg #[.int .i64 nx, .int .i64 ny, .int .i64 nz]] W fun e_ w' => e_ = .returned (.tuple #[.agg #[.int .i64 rx, .int .i64 ry, .int .i64 rz], .int .i64 E]) ∧ Below W.heap.size W w') (hE : E = 3 ∨ E = 0) (dl : E = 0 → (∀ W, Calls Try.prog 16 #[.agg #[.int .i64 kx, .int .i64 ky, .int .i64 kz], .agg #[.int .i64 rx, .int .i64 ry, .int .i64 rz]] W fun e_ w' => e_ = .returned (.tuple #[.int .i64 (s + C), .int .i64 0]) ∧ Below W.heap.size W w')) (w : World) :
    Calls Try.prog 5 #[.agg #[.int .i64 kx, .int .i64 ky, .int .i64 kz], .agg #[.int .i64 mx, .int .i64 my, .int .i64 mz], .agg #[.int .i64 nx, .int .i64 ny, .int .i64 nz]] w fun e_ w' => e_ = .returned (.bool true) ∧ Below w.heap.size w w' := by
  obtain ⟨⟨_, _⟩, ⟨_, _⟩, ⟨_, _⟩⟩ := vv_iff.1 h0
  obtain ⟨⟨_, _⟩, ⟨_, _⟩, ⟨_, _⟩⟩ := vv_iff.1 h1
  have m1 := vv_iff.1 h0
  have m2 := vv_iff.1 h1
  have c0 := co_mul m1.x m2.y
  have f0 : IntKind.i64.wrap (kx * my) = kx * my := IntWalk.i64_in _ ⟨by omega, by omega⟩
  have g0 : wrap64 (kx * my) = kx * my := IntWalk.wrap64_in _ ⟨by omega, by omega⟩
  clear c0
  have c1 := co_mul m1.y m2.x
  have f1 : IntKind.i64.wrap (ky * mx) = ky * mx := IntWalk.i64_in _ ⟨by omega, by omega⟩
  have g1 : wrap64 (ky * mx) = ky * mx := IntWalk.wrap64_in _ ⟨by omega, by omega⟩
  clear c1
  have c2 := co_mul m1.y m2.z
  have f2 : IntKind.i64.wrap (ky * mz) = ky * mz := IntWalk.i64_in _ ⟨by omega, by omega⟩
  have g2 : wrap64 (ky * mz) = ky * mz := IntWalk.wrap64_in _ ⟨by omega, by omega⟩
  clear c2
  have c3 := co_mul m1.z m2.y
  have f3 : IntKind.i64.wrap (kz * my) = kz * my := IntWalk.i64_in _ ⟨by omega, by omega⟩
  have g3 : wrap64 (kz * my) = kz * my := IntWalk.wrap64_in _ ⟨by omega, by omega⟩
  clear c3
  have c4 := co_mul m1.z m2.x
  have f4 : IntKind.i64.wrap (kz * mx) = kz * mx := IntWalk.i64_in _ ⟨by omega, by omega⟩
  have g4 : wrap64 (kz * mx) = kz * mx := IntWalk.wrap64_in _ ⟨by omega, by omega⟩
  clear c4
  have c5 := co_mul m1.x m2.z
  have f5 : IntKind.i64.wrap (kx * mz) = kx * mz := IntWalk.i64_in _ ⟨by omega, by omega⟩
  have g5 : wrap64 (kx * mz) = kx * mz := IntWalk.wrap64_in _ ⟨by omega, by omega⟩
  clear c5
  have k1 := mul_co (m := 12000000) (k := 12000000) (a := s) (b := s) ⟨by omega, by omega⟩ ⟨by omega, by omega⟩
  have k2 := mul_co (m := 12000000) (k := 12000000) (a := A) (b := B) ⟨by omega, by omega⟩ ⟨by omega, by omega⟩
  have f6 : IntKind.i64.wrap (s * s) = s * s := IntWalk.i64_in _ ⟨by omega, by omega⟩
  have g6 : wrap64 (s * s) = s * s := IntWalk.wrap64_in _ ⟨by omega, by omega⟩
  have f7 : IntKind.i64.wrap (A * B) = A * B := IntWalk.i64_in _ ⟨by omega, by omega⟩
  have g7 : wrap64 (A * B) = A * B := IntWalk.wrap64_in _ ⟨by omega, by omega⟩
  clear k1 k2 m1 m2
  have dz := fun W => vec_eq (a := kx) (b := ky) (c := kz) (x := 0) (y := 0) (z := 0) hz W
  clear hz
  obtain ⟨X, hX, bX⟩ := max4 #[3, 3, 3, 3] 3 A B s (-s)
  have bX2 : X ≤ 12000000 := bX _ (by omega) (by omega) (by omega) (by omega)
  clear bX
  have D1 := Lib.hid d1
  clear d1
  have D2 := Lib.hid d2
  clear d2
  have D3 := Lib.hid d3
  clear d3
  have D4 := Lib.hid d4
  clear d4
  have D5 := Lib.hid d5
  clear d5
  have DA := Lib.hid da
  clear da
  have DL := Lib.hid dl
  clear dl
  have HE := Lib.hid hE
  clear hE
  have HQ := Lib.hid hq
  clear hq
  have DZ := Lib.hid dz
  clear dz
  have E1 := Lib.hid e1
  clear e1
  have E2 := Lib.hid e2
  clear e2
  have E3 := Lib.hid e3
  clear e3
  have EF := Lib.hid ef
  clear ef
  have EQ := Lib.hid eq
  clear eq
  have H0 := Lib.hid h0
  clear h0
  have H1 := Lib.hid h1
  clear h1
  have H2 := Lib.hid h2
  clear h2
  have k0 : World.cell? (((w.alloc (.cells #[.int .i64 kx, .int .i64 ky, .int .i64 kz] 23)).alloc (.cells #[.int .i64 mx, .int .i64 my, .int .i64 mz] 23)).alloc (.cells #[.int .i64 nx, .int .i64 ny, .int .i64 nz] 23)) ⟨w.heap.size, 0, none⟩ = some (.int .i64 kx) := by simp [go_sem]
  have k1 : World.cell? (((w.alloc (.cells #[.int .i64 kx, .int .i64 ky, .int .i64 kz] 23)).alloc (.cells #[.int .i64 mx, .int .i64 my, .int .i64 mz] 23)).alloc (.cells #[.int .i64 nx, .int .i64 ny, .int .i64 nz] 23)) ⟨w.heap.size, 1, none⟩ = some (.int .i64 ky) := by simp [go_sem]
  have k2 : World.cell? (((w.alloc (.cells #[.int .i64 kx, .int .i64 ky, .int .i64 kz] 23)).alloc (.cells #[.int .i64 mx, .int .i64 my, .int .i64 mz] 23)).alloc (.cells #[.int .i64 nx, .int .i64 ny, .int .i64 nz] 23)) ⟨w.heap.size, 2, none⟩ = some (.int .i64 kz) := by simp [go_sem]
  have lk : w.heap.size < (((w.alloc (.cells #[.int .i64 kx, .int .i64 ky, .int .i64 kz] 23)).alloc (.cells #[.int .i64 mx, .int .i64 my, .int .i64 mz] 23)).alloc (.cells #[.int .i64 nx, .int .i64 ny, .int .i64 nz] 23)).heap.size := by simp <;> omega
  have m0 : World.cell? (((w.alloc (.cells #[.int .i64 kx, .int .i64 ky, .int .i64 kz] 23)).alloc (.cells #[.int .i64 mx, .int .i64 my, .int .i64 mz] 23)).alloc (.cells #[.int .i64 nx, .int .i64 ny, .int .i64 nz] 23)) ⟨w.heap.size + 1, 0, none⟩ = some (.int .i64 mx) := by simp [go_sem]
  have m1 : World.cell? (((w.alloc (.cells #[.int .i64 kx, .int .i64 ky, .int .i64 kz] 23)).alloc (.cells #[.int .i64 mx, .int .i64 my, .int .i64 mz] 23)).alloc (.cells #[.int .i64 nx, .int .i64 ny, .int .i64 nz] 23)) ⟨w.heap.size + 1, 1, none⟩ = some (.int .i64 my) := by simp [go_sem]
  have m2 : World.cell? (((w.alloc (.cells #[.int .i64 kx, .int .i64 ky, .int .i64 kz] 23)).alloc (.cells #[.int .i64 mx, .int .i64 my, .int .i64 mz] 23)).alloc (.cells #[.int .i64 nx, .int .i64 ny, .int .i64 nz] 23)) ⟨w.heap.size + 1, 2, none⟩ = some (.int .i64 mz) := by simp [go_sem]
  have lm : w.heap.size + 1 < (((w.alloc (.cells #[.int .i64 kx, .int .i64 ky, .int .i64 kz] 23)).alloc (.cells #[.int .i64 mx, .int .i64 my, .int .i64 mz] 23)).alloc (.cells #[.int .i64 nx, .int .i64 ny, .int .i64 nz] 23)).heap.size := by simp <;> omega
  have n0 : World.cell? (((w.alloc (.cells #[.int .i64 kx, .int .i64 ky, .int .i64 kz] 23)).alloc (.cells #[.int .i64 mx, .int .i64 my, .int .i64 mz] 23)).alloc (.cells #[.int .i64 nx, .int .i64 ny, .int .i64 nz] 23)) ⟨w.heap.size + 1 + 1, 0, none⟩ = some (.int .i64 nx) := by simp [go_sem]
  have n1 : World.cell? (((w.alloc (.cells #[.int .i64 kx, .int .i64 ky, .int .i64 kz] 23)).alloc (.cells #[.int .i64 mx, .int .i64 my, .int .i64 mz] 23)).alloc (.cells #[.int .i64 nx, .int .i64 ny, .int .i64 nz] 23)) ⟨w.heap.size + 1 + 1, 1, none⟩ = some (.int .i64 ny) := by simp [go_sem]
  have n2 : World.cell? (((w.alloc (.cells #[.int .i64 kx, .int .i64 ky, .int .i64 kz] 23)).alloc (.cells #[.int .i64 mx, .int .i64 my, .int .i64 mz] 23)).alloc (.cells #[.int .i64 nx, .int .i64 ny, .int .i64 nz] 23)) ⟨w.heap.size + 1 + 1, 2, none⟩ = some (.int .i64 nz) := by simp [go_sem]
  have ln : w.heap.size + 1 + 1 < (((w.alloc (.cells #[.int .i64 kx, .int .i64 ky, .int .i64 kz] 23)).alloc (.cells #[.int .i64 mx, .int .i64 my, .int .i64 mz] 23)).alloc (.cells #[.int .i64 nx, .int .i64 ny, .int .i64 nz] 23)).heap.size := by simp <;> omega
  have HB := Lib.hid (show Below w.heap.size w (((w.alloc (.cells #[.int .i64 kx, .int .i64 ky, .int .i64 kz] 23)).alloc (.cells #[.int .i64 mx, .int .i64 my, .int .i64 mz] 23)).alloc (.cells #[.int .i64 nx, .int .i64 ny, .int .i64 nz] 23)) from ((((Below.refl _ _).alloc (by simp <;> omega) _).alloc (by simp <;> omega) _).alloc (by simp <;> omega) _))
  go_enter Try.func5, Try.ntmps5
  go_wp2_with fail
  generalize ((w.alloc (.cells #[.int .i64 kx, .int .i64 ky, .int .i64 kz] 23)).alloc (.cells #[.int .i64 mx, .int .i64 my, .int .i64 mz] 23)).alloc (.cells #[.int .i64 nx, .int .i64 ny, .int .i64 nz] 23) = w1 at *
  refine (head_any _).mono ?_
  rintro e_ w2 ⟨rfl, hb⟩
  replace HB := Lib.hid (on_below HB.out hb)
  replace k0 := keepc hb k0
  replace k1 := keepc hb k1
  replace k2 := keepc hb k2
  replace m0 := keepc hb m0
  replace m1 := keepc hb m1
  replace m2 := keepc hb m2
  replace n0 := keepc hb n0
  replace n1 := keepc hb n1
  replace n2 := keepc hb n2
  replace lk := Nat.lt_of_lt_of_le lk hb.size
  replace lm := Nat.lt_of_lt_of_le lm hb.size
  replace ln := Nat.lt_of_lt_of_le ln hb.size
  clear hb
  go_wp2_with fail
  refine (valid_is kx ky kz true H0.out _).mono ?_
  rintro e_ w3 ⟨rfl, hb⟩
  replace HB := Lib.hid (on_below HB.out hb)
  replace k0 := keepc hb k0
  replace k1 := keepc hb k1
  replace k2 := keepc hb k2
  replace m0 := keepc hb m0
  replace m1 := keepc hb m1
  replace m2 := keepc hb m2
  replace n0 := keepc hb n0
  replace n1 := keepc hb n1
  replace n2 := keepc hb n2
  replace lk := Nat.lt_of_lt_of_le lk hb.size
  replace lm := Nat.lt_of_lt_of_le lm hb.size
  replace ln := Nat.lt_of_lt_of_le ln hb.size
  clear hb
  go_wp2_with fail
  refine (valid_is mx my mz true H1.out _).mono ?_
  rintro e_ w4 ⟨rfl, hb⟩
  replace HB := Lib.hid (on_below HB.out hb)
  replace k0 := keepc hb k0
  replace k1 := keepc hb k1
  replace k2 := keepc hb k2
  replace m0 := keepc hb m0
  replace m1 := keepc hb m1
  replace m2 := keepc hb m2
  replace n0 := keepc hb n0
  replace n1 := keepc hb n1
  replace n2 := keepc hb n2
  replace lk := Nat.lt_of_lt_of_le lk hb.size
  replace lm := Nat.lt_of_lt_of_le lm hb.size
  replace ln := Nat.lt_of_lt_of_le ln hb.size
  clear hb
  go_wp2_with fail
  refine (valid_is nx ny nz true H2.out _).mono ?_
  rintro e_ w5 ⟨rfl, hb⟩
  replace HB := Lib.hid (on_below HB.out hb)
  replace k0 := keepc hb k0
  replace k1 := keepc hb k1
  replace k2 := keepc hb k2
  replace m0 := keepc hb m0
  replace m1 := keepc hb m1
  replace m2 := keepc hb m2
  replace n0 := keepc hb n0
  replace n1 := keepc hb n1
  replace n2 := keepc hb n2
  replace lk := Nat.lt_of_lt_of_le lk hb.size
  replace lm := Nat.lt_of_lt_of_le lm hb.size
  replace ln := Nat.lt_of_lt_of_le ln hb.size
  clear hb
  go_wp2_with fail
  refine (D1.out _).mono ?_
  rintro e_ w6 ⟨rfl, hb⟩
  replace HB := Lib.hid (on_below HB.out hb)
  replace k0 := keepc hb k0
  replace k1 := keepc hb k1
  replace k2 := keepc hb k2
  replace m0 := keepc hb m0
  replace m1 := keepc hb m1
  replace m2 := keepc hb m2
  replace n0 := keepc hb n0
  replace n1 := keepc hb n1
  replace n2 := keepc hb n2
  replace lk := Nat.lt_of_lt_of_le lk hb.size
  replace lm := Nat.lt_of_lt_of_le lm hb.size
  replace ln := Nat.lt_of_lt_of_le ln hb.size
  clear hb
  go_wp2_with fail
  refine (D2.out _).mono ?_
  rintro e_ w7 ⟨rfl, hb⟩
  replace HB := Lib.hid (on_below HB.out hb)
  replace k0 := keepc hb k0
  replace k1 := keepc hb k1
  replace k2 := keepc hb k2
  replace m0 := keepc hb m0
  replace m1 := keepc hb m1
  replace m2 := keepc hb m2
  replace n0 := keepc hb n0
  replace n1 := keepc hb n1
  replace n2 := keepc hb n2
  replace lk := Nat.lt_of_lt_of_le lk hb.size
  replace lm := Nat.lt_of_lt_of_le lm hb.size
  replace ln := Nat.lt_of_lt_of_le ln hb.size
  clear hb
  go_wp2_with fail
  refine (D3.out _).mono ?_
  rintro e_ w8 ⟨rfl, hb⟩
  replace HB := Lib.hid (on_below HB.out hb)
  replace k0 := keepc hb k0
  replace k1 := keepc hb k1
  replace k2 := keepc hb k2
  replace m0 := keepc hb m0
  replace m1 := keepc hb m1
  replace m2 := keepc hb m2
  replace n0 := keepc hb n0
  replace n1 := keepc hb n1
  replace n2 := keepc hb n2
  replace lk := Nat.lt_of_lt_of_le lk hb.size
  replace lm := Nat.lt_of_lt_of_le lm hb.size
  replace ln := Nat.lt_of_lt_of_le ln hb.size
  clear hb
  go_wp2_with fail
  refine (D4.out _).mono ?_
  rintro e_ w9 ⟨rfl, hb⟩
  replace HB := Lib.hid (on_below HB.out hb)
  replace k0 := keepc hb k0
  replace k1 := keepc hb k1
  replace k2 := keepc hb k2
  replace m0 := keepc hb m0
  replace m1 := keepc hb m1
  replace m2 := keepc hb m2
  replace n0 := keepc hb n0
  replace n1 := keepc hb n1
  replace n2 := keepc hb n2
  replace lk := Nat.lt_of_lt_of_le lk hb.size
  replace lm := Nat.lt_of_lt_of_le lm hb.size
  replace ln := Nat.lt_of_lt_of_le ln hb.size
  clear hb
  go_wp2_with fail
  refine (D5.out _).mono ?_
  rintro e_ w10 ⟨rfl, hb⟩
  replace HB := Lib.hid (on_below HB.out hb)
  replace k0 := keepc hb k0
  replace k1 := keepc hb k1
  replace k2 := keepc hb k2
  replace m0 := keepc hb m0
  replace m1 := keepc hb m1
  replace m2 := keepc hb m2
  replace n0 := keepc hb n0
  replace n1 := keepc hb n1
  replace n2 := keepc hb n2
  replace lk := Nat.lt_of_lt_of_le lk hb.size
  replace lm := Nat.lt_of_lt_of_le lm hb.size
  replace ln := Nat.lt_of_lt_of_le ln hb.size
  clear hb
  cases q
  · skip
    have hq := HQ.out
    have dz := DZ.out
    clear HQ DZ D1 D2 D3 D4 D5 H0 H1 H2
    go_upto_region 13 with fail
    clear dz hq
    go_cut [18] (fun s_ wx => s_ = .bool fl ∧ wx = w10)
    case first =>
      cases b1
      · have e1 := E1.out
        have ef := EF.out
        go_wp2_with fail
        go_meet
        exact ⟨by rw [← ef]; rfl, rfl⟩
      · cases b2
        · have e1 := E1.out
          have e2 := E2.out
          have ef := EF.out
          go_wp2_with fail
          go_meet
          exact ⟨by rw [← ef]; rfl, rfl⟩
        · have e1 := E1.out
          have e2 := E2.out
          have e3 := E3.out
          have ef := EF.out
          go_wp2_with fail
          go_meet
          exact ⟨by rw [← ef]; cases b3 <;> simp [e3], rfl⟩
    case rest =>
      obtain ⟨rfl, rfl⟩ := hcut
      clear E1 E2 E3 EF f0 f1 f2 f3 f4 f5 g0 g1 g2 g3 g4 g5
      cases fl
      · skip
        have eq := EQ.out
        go_wp2_with fail
        refine (DA.out _).mono ?_
        rintro e_ w11 ⟨rfl, hb⟩
        replace HB := Lib.hid (on_below HB.out hb)
        replace k0 := keepc hb k0
        replace k1 := keepc hb k1
        replace k2 := keepc hb k2
        replace m0 := keepc hb m0
        replace m1 := keepc hb m1
        replace m2 := keepc hb m2
        replace n0 := keepc hb n0
        replace n1 := keepc hb n1
        replace n2 := keepc hb n2
        replace lk := Nat.lt_of_lt_of_le lk hb.size
        replace lm := Nat.lt_of_lt_of_le lm hb.size
        replace ln := Nat.lt_of_lt_of_le ln hb.size
        clear hb
        rcases HE.out with h | h
        · skip
          subst h
          go_wp2_with fail
          go_ret
          exact ⟨rfl, on_below HB.out (below_new _ _)⟩
        · skip
          have dl := Lib.hid (DL.out h)
          subst h
          clear DA DL HE
          go_wp2_with fail
          have r0 : World.cell? (w11.alloc (.cells #[.int .i64 rx, .int .i64 ry, .int .i64 rz] 23)) ⟨w11.heap.size, 0, none⟩ = some (.int .i64 rx) := by simp [go_sem]
          have r1 : World.cell? (w11.alloc (.cells #[.int .i64 rx, .int .i64 ry, .int .i64 rz] 23)) ⟨w11.heap.size, 1, none⟩ = some (.int .i64 ry) := by simp [go_sem]
          have r2 : World.cell? (w11.alloc (.cells #[.int .i64 rx, .int .i64 ry, .int .i64 rz] 23)) ⟨w11.heap.size, 2, none⟩ = some (.int .i64 rz) := by simp [go_sem]
          have lr : w11.heap.size < (w11.alloc (.cells #[.int .i64 rx, .int .i64 ry, .int .i64 rz] 23)).heap.size := by simp
          have hb : Below w11.heap.size w11 (w11.alloc (.cells #[.int .i64 rx, .int .i64 ry, .int .i64 rz] 23)) := below_new _ _
          generalize w11.alloc (.cells #[.int .i64 rx, .int .i64 ry, .int .i64 rz] 23) = w12 at *
          replace HB := Lib.hid (on_below HB.out hb)
          replace k0 := keepc hb k0
          replace k1 := keepc hb k1
          replace k2 := keepc hb k2
          replace m0 := keepc hb m0
          replace m1 := keepc hb m1
          replace m2 := keepc hb m2
          replace n0 := keepc hb n0
          replace n1 := keepc hb n1
          replace n2 := keepc hb n2
          replace lk := Nat.lt_of_lt_of_le lk hb.size
          replace lm := Nat.lt_of_lt_of_le lm hb.size
          replace ln := Nat.lt_of_lt_of_le ln hb.size
          clear hb
          generalize w11.heap.size = gr at *
          refine (dl.out _).mono ?_
          rintro e_ w13 ⟨rfl, hb⟩
          replace HB := Lib.hid (on_below HB.out hb)
          replace k0 := keepc hb k0
          replace k1 := keepc hb k1
          replace k2 := keepc hb k2
          replace m0 := keepc hb m0
          replace m1 := keepc hb m1
          replace m2 := keepc hb m2
          replace n0 := keepc hb n0
          replace n1 := keepc hb n1
          replace n2 := keepc hb n2
          replace r0 := keepc hb r0
          replace r1 := keepc hb r1
          replace r2 := keepc hb r2
          replace lk := Nat.lt_of_lt_of_le lk hb.size
          replace lm := Nat.lt_of_lt_of_le lm hb.size
          replace ln := Nat.lt_of_lt_of_le ln hb.size
          replace lr := Nat.lt_of_lt_of_le lr hb.size
          clear hb
          go_wp2_with fail
          go_ret
          exact ⟨rfl, HB.out⟩
      · skip
        have eq := EQ.out
        go_wp2_with fail
        refine (DA.out _).mono ?_
        rintro e_ w11 ⟨rfl, hb⟩
        replace HB := Lib.hid (on_below HB.out hb)
        replace k0 := keepc hb k0
        replace k1 := keepc hb k1
        replace k2 := keepc hb k2
        replace m0 := keepc hb m0
        replace m1 := keepc hb m1
        replace m2 := keepc hb m2
        replace n0 := keepc hb n0
        replace n1 := keepc hb n1
        replace n2 := keepc hb n2
        replace lk := Nat.lt_of_lt_of_le lk hb.size
        replace lm := Nat.lt_of_lt_of_le lm hb.size
        replace ln := Nat.lt_of_lt_of_le ln hb.size
        clear hb
        rcases HE.out with h | h
        · skip
          subst h
          go_wp2_with fail
          go_ret
          exact ⟨rfl, on_below HB.out (below_new _ _)⟩
        · skip
          have dl := Lib.hid (DL.out h)
          subst h
          clear DA DL HE
          go_wp2_with fail
          have r0 : World.cell? (w11.alloc (.cells #[.int .i64 rx, .int .i64 ry, .int .i64 rz] 23)) ⟨w11.heap.size, 0, none⟩ = some (.int .i64 rx) := by simp [go_sem]
          have r1 : World.cell? (w11.alloc (.cells #[.int .i64 rx, .int .i64 ry, .int .i64 rz] 23)) ⟨w11.heap.size, 1, none⟩ = some (.int .i64 ry) := by simp [go_sem]
          have r2 : World.cell? (w11.alloc (.cells #[.int .i64 rx, .int .i64 ry, .int .i64 rz] 23)) ⟨w11.heap.size, 2, none⟩ = some (.int .i64 rz) := by simp [go_sem]
          have lr : w11.heap.size < (w11.alloc (.cells #[.int .i64 rx, .int .i64 ry, .int .i64 rz] 23)).heap.size := by simp
          have hb : Below w11.heap.size w11 (w11.alloc (.cells #[.int .i64 rx, .int .i64 ry, .int .i64 rz] 23)) := below_new _ _
          generalize w11.alloc (.cells #[.int .i64 rx, .int .i64 ry, .int .i64 rz] 23) = w12 at *
          replace HB := Lib.hid (on_below HB.out hb)
          replace k0 := keepc hb k0
          replace k1 := keepc hb k1
          replace k2 := keepc hb k2
          replace m0 := keepc hb m0
          replace m1 := keepc hb m1
          replace m2 := keepc hb m2
          replace n0 := keepc hb n0
          replace n1 := keepc hb n1
          replace n2 := keepc hb n2
          replace lk := Nat.lt_of_lt_of_le lk hb.size
          replace lm := Nat.lt_of_lt_of_le lm hb.size
          replace ln := Nat.lt_of_lt_of_le ln hb.size
          clear hb
          generalize w11.heap.size = gr at *
          refine (dl.out _).mono ?_
          rintro e_ w13 ⟨rfl, hb⟩
          replace HB := Lib.hid (on_below HB.out hb)
          replace k0 := keepc hb k0
          replace k1 := keepc hb k1
          replace k2 := keepc hb k2
          replace m0 := keepc hb m0
          replace m1 := keepc hb m1
          replace m2 := keepc hb m2
          replace n0 := keepc hb n0
          replace n1 := keepc hb n1
          replace n2 := keepc hb n2
          replace r0 := keepc hb r0
          replace r1 := keepc hb r1
          replace r2 := keepc hb r2
          replace lk := Nat.lt_of_lt_of_le lk hb.size
          replace lm := Nat.lt_of_lt_of_le lm hb.size
          replace ln := Nat.lt_of_lt_of_le ln hb.size
          replace lr := Nat.lt_of_lt_of_le lr hb.size
          clear hb
          go_wp2_with fail
          go_ret
          exact ⟨rfl, HB.out⟩
  · skip
    have hq := HQ.out
    have dz := DZ.out
    clear HQ DZ D1 D2 D3 D4 D5 H0 H1 H2
    go_upto_region 13 with fail
    clear dz hq
    go_cut [18] (fun s_ wx => s_ = .bool fl ∧ wx = w10)
    case first =>
      cases b1
      · have e1 := E1.out
        have ef := EF.out
        go_wp2_with fail
        go_meet
        exact ⟨by rw [← ef]; rfl, rfl⟩
      · cases b2
        · have e1 := E1.out
          have e2 := E2.out
          have ef := EF.out
          go_wp2_with fail
          go_meet
          exact ⟨by rw [← ef]; rfl, rfl⟩
        · have e1 := E1.out
          have e2 := E2.out
          have e3 := E3.out
          have ef := EF.out
          go_wp2_with fail
          go_meet
          exact ⟨by rw [← ef]; cases b3 <;> simp [e3], rfl⟩
    case rest =>
      obtain ⟨rfl, rfl⟩ := hcut
      clear E1 E2 E3 EF f0 f1 f2 f3 f4 f5 g0 g1 g2 g3 g4 g5
      cases fl
      · skip
        have eq := EQ.out
        go_wp2_with fail
        refine (DA.out _).mono ?_
        rintro e_ w11 ⟨rfl, hb⟩
        replace HB := Lib.hid (on_below HB.out hb)
        replace k0 := keepc hb k0
        replace k1 := keepc hb k1
        replace k2 := keepc hb k2
        replace m0 := keepc hb m0
        replace m1 := keepc hb m1
        replace m2 := keepc hb m2
        replace n0 := keepc hb n0
        replace n1 := keepc hb n1
        replace n2 := keepc hb n2
        replace lk := Nat.lt_of_lt_of_le lk hb.size
        replace lm := Nat.lt_of_lt_of_le lm hb.size
        replace ln := Nat.lt_of_lt_of_le ln hb.size
        clear hb
        rcases HE.out with h | h
        · skip
          subst h
          go_wp2_with fail
          go_ret
          exact ⟨rfl, on_below HB.out (below_new _ _)⟩
        · skip
          have dl := Lib.hid (DL.out h)
          subst h
          clear DA DL HE
          go_wp2_with fail
          have r0 : World.cell? (w11.alloc (.cells #[.int .i64 rx, .int .i64 ry, .int .i64 rz] 23)) ⟨w11.heap.size, 0, none⟩ = some (.int .i64 rx) := by simp [go_sem]
          have r1 : World.cell? (w11.alloc (.cells #[.int .i64 rx, .int .i64 ry, .int .i64 rz] 23)) ⟨w11.heap.size, 1, none⟩ = some (.int .i64 ry) := by simp [go_sem]
          have r2 : World.cell? (w11.alloc (.cells #[.int .i64 rx, .int .i64 ry, .int .i64 rz] 23)) ⟨w11.heap.size, 2, none⟩ = some (.int .i64 rz) := by simp [go_sem]
          have lr : w11.heap.size < (w11.alloc (.cells #[.int .i64 rx, .int .i64 ry, .int .i64 rz] 23)).heap.size := by simp
          have hb : Below w11.heap.size w11 (w11.alloc (.cells #[.int .i64 rx, .int .i64 ry, .int .i64 rz] 23)) := below_new _ _
          generalize w11.alloc (.cells #[.int .i64 rx, .int .i64 ry, .int .i64 rz] 23) = w12 at *
          replace HB := Lib.hid (on_below HB.out hb)
          replace k0 := keepc hb k0
          replace k1 := keepc hb k1
          replace k2 := keepc hb k2
          replace m0 := keepc hb m0
          replace m1 := keepc hb m1
          replace m2 := keepc hb m2
          replace n0 := keepc hb n0
          replace n1 := keepc hb n1
          replace n2 := keepc hb n2
          replace lk := Nat.lt_of_lt_of_le lk hb.size
          replace lm := Nat.lt_of_lt_of_le lm hb.size
          replace ln := Nat.lt_of_lt_of_le ln hb.size
          clear hb
          generalize w11.heap.size = gr at *
          refine (dl.out _).mono ?_
          rintro e_ w13 ⟨rfl, hb⟩
          replace HB := Lib.hid (on_below HB.out hb)
          replace k0 := keepc hb k0
          replace k1 := keepc hb k1
          replace k2 := keepc hb k2
          replace m0 := keepc hb m0
          replace m1 := keepc hb m1
          replace m2 := keepc hb m2
          replace n0 := keepc hb n0
          replace n1 := keepc hb n1
          replace n2 := keepc hb n2
          replace r0 := keepc hb r0
          replace r1 := keepc hb r1
          replace r2 := keepc hb r2
          replace lk := Nat.lt_of_lt_of_le lk hb.size
          replace lm := Nat.lt_of_lt_of_le lm hb.size
          replace ln := Nat.lt_of_lt_of_le ln hb.size
          replace lr := Nat.lt_of_lt_of_le lr hb.size
          clear hb
          go_wp2_with fail
          go_ret
          exact ⟨rfl, HB.out⟩
      · skip
        have eq := EQ.out
        go_wp2_with fail
        refine (DA.out _).mono ?_
        rintro e_ w11 ⟨rfl, hb⟩
        replace HB := Lib.hid (on_below HB.out hb)
        replace k0 := keepc hb k0
        replace k1 := keepc hb k1
        replace k2 := keepc hb k2
        replace m0 := keepc hb m0
        replace m1 := keepc hb m1
        replace m2 := keepc hb m2
        replace n0 := keepc hb n0
        replace n1 := keepc hb n1
        replace n2 := keepc hb n2
        replace lk := Nat.lt_of_lt_of_le lk hb.size
        replace lm := Nat.lt_of_lt_of_le lm hb.size
        replace ln := Nat.lt_of_lt_of_le ln hb.size
        clear hb
        rcases HE.out with h | h
        · skip
          subst h
          go_wp2_with fail
          go_ret
          exact ⟨rfl, on_below HB.out (below_new _ _)⟩
        · skip
          have dl := Lib.hid (DL.out h)
          subst h
          clear DA DL HE
          go_wp2_with fail
          have r0 : World.cell? (w11.alloc (.cells #[.int .i64 rx, .int .i64 ry, .int .i64 rz] 23)) ⟨w11.heap.size, 0, none⟩ = some (.int .i64 rx) := by simp [go_sem]
          have r1 : World.cell? (w11.alloc (.cells #[.int .i64 rx, .int .i64 ry, .int .i64 rz] 23)) ⟨w11.heap.size, 1, none⟩ = some (.int .i64 ry) := by simp [go_sem]
          have r2 : World.cell? (w11.alloc (.cells #[.int .i64 rx, .int .i64 ry, .int .i64 rz] 23)) ⟨w11.heap.size, 2, none⟩ = some (.int .i64 rz) := by simp [go_sem]
          have lr : w11.heap.size < (w11.alloc (.cells #[.int .i64 rx, .int .i64 ry, .int .i64 rz] 23)).heap.size := by simp
          have hb : Below w11.heap.size w11 (w11.alloc (.cells #[.int .i64 rx, .int .i64 ry, .int .i64 rz] 23)) := below_new _ _
          generalize w11.alloc (.cells #[.int .i64 rx, .int .i64 ry, .int .i64 rz] 23) = w12 at *
          replace HB := Lib.hid (on_below HB.out hb)
          replace k0 := keepc hb k0
          replace k1 := keepc hb k1
          replace k2 := keepc hb k2
          replace m0 := keepc hb m0
          replace m1 := keepc hb m1
          replace m2 := keepc hb m2
          replace n0 := keepc hb n0
          replace n1 := keepc hb n1
          replace n2 := keepc hb n2
          replace lk := Nat.lt_of_lt_of_le lk hb.size
          replace lm := Nat.lt_of_lt_of_le lm hb.size
          replace ln := Nat.lt_of_lt_of_le ln hb.size
          clear hb
          generalize w11.heap.size = gr at *
          refine (dl.out _).mono ?_
          rintro e_ w13 ⟨rfl, hb⟩
          replace HB := Lib.hid (on_below HB.out hb)
          replace k0 := keepc hb k0
          replace k1 := keepc hb k1
          replace k2 := keepc hb k2
          replace m0 := keepc hb m0
          replace m1 := keepc hb m1
          replace m2 := keepc hb m2
          replace n0 := keepc hb n0
          replace n1 := keepc hb n1
          replace n2 := keepc hb n2
          replace r0 := keepc hb r0
          replace r1 := keepc hb r1
          replace r2 := keepc hb r2
          replace lk := Nat.lt_of_lt_of_le lk hb.size
          replace lm := Nat.lt_of_lt_of_le lm hb.size
          replace ln := Nat.lt_of_lt_of_le ln hb.size
          replace lr := Nat.lt_of_lt_of_le lr hb.size
          clear hb
          go_wp2_with fail
          go_ret
          exact ⟨rfl, HB.out⟩
theorem law_any (kx : Int) (ikx : I64 kx) (ky : Int) (iky : I64 ky) (kz : Int) (ikz : I64 kz) (mx : Int) (imx : I64 mx) (my : Int) (imy : I64 my) (mz : Int) (imz : I64 mz) (nx : Int) (inx : I64 nx) (ny : Int) (iny : I64 ny) (nz : Int) (inz : I64 nz) (w : World) :
    Calls Try.prog 5 #[.agg #[.int .i64 kx, .int .i64 ky, .int .i64 kz], .agg #[.int .i64 mx, .int .i64 my, .int .i64 mz], .agg #[.int .i64 nx, .int .i64 ny, .int .i64 nz]] w fun e_ w' => e_ = .returned (.bool true) ∧ Below w.heap.size w w' := by
  cases h0 : vv kx ky kz
  · exact law_1 kx ky kz mx my mz nx ny nz h0 w
  cases h1 : vv mx my mz
  · exact law_2 kx ky kz mx my mz nx ny nz h0 h1 w
  cases h2 : vv nx ny nz
  · exact law_3 kx ky kz mx my mz nx ny nz h0 h1 h2 w
  have v0 := vv_iff.1 h0
  have v1 := vv_iff.1 h1
  have v2 := vv_iff.1 h2
  refine law_4 kx ky kz mx my mz nx ny nz h0 h1 h2 (dt kx ky kz mx my mz) (dt kx ky kz kx ky kz) (dt mx my mz mx my mz) (dt kx ky kz nx ny nz) (sE (vv mx my mz) (vv nx ny nz) (vv (mx + nx) (my + ny) (mz + nz))) _ _ _ _ (kx * my == ky * mx) (ky * mz == kz * my) (kz * mx == kx * mz) _
    (fun W => dot_is kx ky kz mx my mz _ 0 (by rw [h0, h1]; rfl) rfl W) (fun W => dot_is mx my mz kx ky kz _ 0 (by rw [h0, h1]; rfl) (dt_comm _ _ _ _ _ _) W) (fun W => dot_is kx ky kz kx ky kz _ 0 (by rw [h0]; rfl) rfl W) (fun W => dot_is mx my mz mx my mz _ 0 (by rw [h1]; rfl) rfl W) (fun W => dot_is kx ky kz nx ny nz _ 0 (by rw [h0, h2]; rfl) rfl W)
    (dt_bd v0 v1) (dt_bd v0 v2) ⟨dt_nn _ _ _, (dt_bd v0 v0).2⟩ ⟨dt_nn _ _ _, (dt_bd v1 v1).2⟩ (cs_le _ _ _ _ _ _) rfl ?_ rfl rfl rfl rfl ?_
    (fun W => add_is mx my mz nx ny nz _ _ _ _ rfl rfl rfl rfl W) ?_ ?_ w
  · rw [Bool.eq_iff_iff, beq_iff_eq, decide_eq_true_eq]
    exact dt_zero.symm
  · rw [Bool.eq_iff_iff, beq_iff_eq, cs_eq]
    simp [and_assoc]
  · rw [h1, h2]
    cases vv (mx + nx) (my + ny) (mz + nz)
    · exact Or.inl rfl
    · exact Or.inr rfl
  · intro hE W
    have h3 := (sE_ok.1 hE).2.2
    rw [kp_ok hE, kp_ok hE, kp_ok hE]
    exact dot_is kx ky kz _ _ _ _ 0 (by rw [h0, h3]; rfl) (dt_add _ _ _ _ _ _ _ _ _) W

/-! ### The row -/
open Go.ChangeShapes Go.WideShapes Go.ChangeAt Go.Joins
theorem own : ownKnob Try.prog.godebug = none := by kernel_rfl
noncomputable def laidWorld (os : Os) : World := World.holding Try.prog os ⟨#[], #[], []⟩
theorem laidWorld_met (os : Os) (args : Array Value) : laidMet Try.prog [] ((laidWorld os).forCall (fun _ _ => 0) ⟨#[], args, []⟩).memory :=
  laidMet_of_run' 8 (by kernel_rfl) (by kernel_rfl)

set_option maxRecDepth 100000 in
theorem contract (H : Type) (enc : TypeId × Value → H) (W : World) (base : Nat) (args : Array Value) (ds gs : List (DataW H)) (before : List MemPlace)
    (hval : ∀ (j : Nat) t v, Try.f5.params[j]? = some t → args[j]? = some v → Value.okWide Try.prog W .any base t v)
    (hW : DataW.Whole enc Try.prog Try.f5.params.toList Rows.vectorDotSpec.vars false W args.toList ds gs before) :
    Calls Try.prog 5 args W fun e W' => ∃ v, e = .returned v ∧ Rows.vectorDotSpec.post enc Try.prog Try.f5 false true false false W args v W' := by
  have hW' := hW
  obtain ⟨p, q, hA0, hV, rfl, hfz, hnd⟩ := hW
  have hA : DataW.TrodAll enc Try.prog W 0 (fun _ => true) true Try.f5.params.toList args.toList ds p := hA0
  rw [Try.params5] at hA hval
  obtain ⟨v0, vs0, d0, ds0, p0, q0, hargs, rfl, rfl, h0, r0⟩ := trodAll_cons hA
  obtain ⟨v1, vs1, d1, ds1, p1, q1, rfl, rfl, rfl, h1, r1⟩ := trodAll_cons r0
  obtain ⟨v2, vs2, d2, ds2, p2, q2, rfl, rfl, rfl, h2, r2⟩ := trodAll_cons r1
  obtain ⟨rfl, rfl, rfl⟩ := trodAll_nil r2
  obtain rfl : args = #[v0, v1, v2] := Array.toList_inj.1 hargs
  obtain ⟨rfl, rfl⟩ := trodVars_none hV
  obtain ⟨kx, ky, kz, rfl, rfl, rfl, ikx, iky, ikz⟩ := open_vec (hval 0 23 v0 rfl rfl) h0
  obtain ⟨mx, my, mz, rfl, rfl, rfl, imx, imy, imz⟩ := open_vec (hval 1 23 v1 rfl rfl) h1
  obtain ⟨nx, ny, nz, rfl, rfl, rfl, inx, iny, inz⟩ := open_vec (hval 2 23 v2 rfl rfl) h2
  clear hA0
  refine (law_any kx (wf_i ikx) ky (wf_i iky) kz (wf_i ikz) mx (wf_i imx) my (wf_i imy) mz (wf_i imz) nx (wf_i inx) ny (wf_i iny) nz (wf_i inz) W).mono fun e W' ⟨he, bel⟩ => ?_
  subst he
  exact ⟨_, rfl, _, _, _, [], _, [], hW', trodAll_mk1 (shut_bool Try.underlying4 _), (trodAll_cons_mk (shut_vec ikx iky ikz) (trodAll_cons_mk (shut_vec imx imy imz) (trodAll_cons_mk (shut_vec inx iny inz) trodAll_mk0))), rfl, bel.frame _, fun h => by cases h⟩

theorem reads (os : Os) {H : Type} (enc : TypeId × Value → H) : ∃ places, DataW.whole enc Try.prog ((laidWorld os).forCall (fun _ _ => 0) ⟨#[], #[.agg #[.int .i64 0, .int .i64 0, .int .i64 0], .agg #[.int .i64 0, .int .i64 0, .int .i64 0], .agg #[.int .i64 0, .int .i64 0, .int .i64 0]], []⟩).memory Try.f5.params.toList Rows.vectorDotSpec.vars false (#[.agg #[.int .i64 0, .int .i64 0, .int .i64 0], .agg #[.int .i64 0, .int .i64 0, .int .i64 0], .agg #[.int .i64 0, .int .i64 0, .int .i64 0]] : Array Value).toList 8 = some ([.agg [.lit (.int .i64 0), .lit (.int .i64 0), .lit (.int .i64 0)], .agg [.lit (.int .i64 0), .lit (.int .i64 0), .lit (.int .i64 0)], .agg [.lit (.int .i64 0), .lit (.int .i64 0), .lit (.int .i64 0)]], [], places) :=
  ⟨[], by kernel_rfl⟩

set_option maxRecDepth 100000 in
theorem lifted (os : Os) (started : os.Started) (H : Type) (enc : TypeId × Value → H) (F : Stop.Interp) :
    ReturnsInHanded {} Try.checked os 5 .any ((OpenSpec.ofChange Rows.vectorDotSpec).preRow enc Try.prog Try.f5 Rows.vectorDotRow.domain false Rows.vectorDotRow.laid) (((OpenSpec.ofChange Rows.vectorDotSpec).at F).post enc Try.prog Try.f5 false true false false) := by
  obtain ⟨places, hx⟩ := reads os enc
  refine returnsInHanded_of_row (C := Try.checked) (s := OpenSpec.ofChange Rows.vectorDotSpec) own started (by kernel_rfl) Try.func5
    (witness_row_atRef (enc := enc) (C := Try.checked) false (laidWorld os) #[.agg #[.int .i64 0, .int .i64 0, .int .i64 0], .agg #[.int .i64 0, .int .i64 0, .int .i64 0], .agg #[.int .i64 0, .int .i64 0, .int .i64 0]] rfl (by kernel_rfl) (by kernel_rfl) (by kernel_rfl)
      (OpenSpec.preRow_of_cond 8 hx (by kernel_rfl) (fun k hk => by cases hk) (by kernel_rfl) (laidWorld_met os _))) ?_
  intro W base args ds gs before hval hW _ hcond _ hL hsh _
  exact contract H enc W base args ds gs before hval hW

/-- The statement. -/
theorem said : Rows.VectorDotSaid :=
  OpenClaim.holds_of_cond 5 Try.f5 rfl rfl rfl rfl rfl rfl rfl ⟨rfl, rfl, rfl, rfl, rfl⟩ rfl rfl rfl rfl rfl (by kernel_rfl) Try.func5 (by kernel_rfl)
    (of_decide_eq_true (by kernel_rfl)) (by unfold Func.isWrapper; first | (rw [if_pos (by decide +kernel)]; kernel_rfl) | (rw [if_neg (by decide +kernel)]; exact ⟨rfl, rfl⟩))
    (fun os started H enc _ F => by rw [OpenClaim.pre_eq_preRow]; exact lifted os started H enc F)
end Go.Proofs.Ytdkofonneebciaa.vectorDot
