/-
  VectorSums: Add is commutative, and associative where all sums are valid; Sub undoes Add; the zero vector.
-/
import Derived.Test.YtdkofonneebciaaVecJ
import Derived.Test.YtdkofonneebciaaRows
import Derived.ProofKit
import Derived.OpenShut
import Derived.Deep.DeepHandedRow
import Derived.Deep.DeepWitnessRowRef
import Derived.MakeChecks
import Derived.Deep.DeepCutAuto
namespace Go.Proofs.Ytdkofonneebciaa.vectorSums
open Go.RowKit Go.Sort
open Go.RowKit (Below)
set_option linter.unusedVariables false
set_option linter.unusedSimpArgs false

set_option maxRecDepth 100000 in
set_option maxHeartbeats 2000000 in
theorem law_1 (kx ky kz mx my mz nx ny nz : Int) (h0 : vv kx ky kz = false) (w : World) :
    Calls Try.prog 4 #[.agg #[.int .i64 kx, .int .i64 ky, .int .i64 kz], .agg #[.int .i64 mx, .int .i64 my, .int .i64 mz], .agg #[.int .i64 nx, .int .i64 ny, .int .i64 nz]] w fun e_ w' => e_ = .returned (.bool true) ∧ Below w.heap.size w w' := by
  have H0 := Lib.hid h0
  clear h0
  have k0 : World.cell? (((w.alloc (.cells #[.int .i64 kx, .int .i64 ky, .int .i64 kz] 23)).alloc (.cells #[.int .i64 mx, .int .i64 my, .int .i64 mz] 23)).alloc (.cells #[.int .i64 nx, .int .i64 ny, .int .i64 nz] 23)) ⟨w.heap.size, 0, none⟩ = some (.int .i64 kx) := by simp [go_sem]
  have k1 : World.cell? (((w.alloc (.cells #[.int .i64 kx, .int .i64 ky, .int .i64 kz] 23)).alloc (.cells #[.int .i64 mx, .int .i64 my, .int .i64 mz] 23)).alloc (.cells #[.int .i64 nx, .int .i64 ny, .int .i64 nz] 23)) ⟨w.heap.size, 1, none⟩ = some (.int .i64 ky) := by simp [go_sem]
  have k2 : World.cell? (((w.alloc (.cells #[.int .i64 kx, .int .i64 ky, .int .i64 kz] 23)).alloc (.cells #[.int .i64 mx, .int .i64 my, .int .i64 mz] 23)).alloc (.cells #[.int .i64 nx, .int .i64 ny, .int .i64 nz] 23)) ⟨w.heap.size, 2, none⟩ = some (.int .i64 kz) := by simp [go_sem]
  have lk : w.heap.size < (((w.alloc (.cells #[.int .i64 kx, .int .i64 ky, .int .i64 kz] 23)).alloc (.cells #[.int .i64 mx, .int .i64 my, .int .i64 mz] 23)).alloc (.cells #[.int .i64 nx, .int .i64 ny, .int .i64 nz] 23)).heap.size := by simp <;> omega
  have m0 : World.cell? (((w.alloc (.cells #[.int .i64 kx, .int .i64 ky, .int .i64 kz] 23)).alloc (.cells #[.int .i64 mx, .int .i64 my, .int .i64 mz] 23)).alloc (.cells #[.int .i64 nx, .int .i64 ny, .int .i64 nz] 23)) ⟨w.heap.size + 1, 0, none⟩ = some (.int .i64 mx) := by simp [go_sem]
  have m1 : World.cell? (((w.alloc (.cells #[.int .i64 kx, .int .i64 ky, .int .i64 kz] 23)).alloc (.cells #[.int .i64 mx, .int .i64 my, .int .i64 mz] 23)).alloc (.cells #[.int .i64 nx, .int .i64 ny, .int .i64 nz] 23)) ⟨w.heap.size + 1, 1, none⟩ = some (.int .i64 my) := by simp [go_sem]
  have m2 : World.cell? (((w.alloc (.cells #[.int .i64 kx, .int .i64 ky, .int .i64 kz] 23)).alloc (.cells #[.int .i64 mx, .int .i64 my, .int .i64 mz] 23)).alloc (.cells #[.int .i64 nx, .int .i64 ny, .int .i64 nz] 23)) ⟨w.heap.size + 1, 2, none⟩ = some (.int .i64 mz) := by simp [go_sem]
  have lm : w.heap.size + 1 < (((w.alloc (.cells #[.int .i64 kx, .int .i64 ky, .int .i64 kz] 23)).alloc (.cells #[.int .i64 mx, .int .i64 my, .int .i64 mz] 23)).alloc (.cells #[.int .i64 nx, .int .i64 ny, .int .i64 nz] 23)).heap.size := by simp <;> omega
  have n0 : World.cell? (((w.alloc (.cells #[.int .i64 kx, .int .i64 ky, .int .i64 kz] 23)).alloc (.cells #[.int .i64 mx, .int .i64 my, .int .i64 mz] 23)).alloc (.cells #[.int .i64 nx, .int .i64 ny, .int .i64 nz] 23)) ⟨w.heap.size + 1 + 1, 0, none⟩ = some (.int .i64 nx) := by simp [go_sem]
  have n1 : World.cell? (((w.alloc (.cells #[.int .i64 kx, .int .i64 ky, .int .i64 kz] 23)).alloc (.cells #[.int .i64 mx, .int .i64 my, .int .i64 mz] 23)).alloc (.cells #[.int .i64 nx, .int .i64 ny, .int .i64 nz] 23)) ⟨w.heap.size + 1 + 1, 1, none⟩ = some (.int .i64 ny) := by simp [go_sem]
  have n2 : World.cell? (((w.alloc (.cells #[.int .i64 kx, .int .i64 ky, .int .i64 kz] 23)).alloc (.cells #[.int .i64 mx, .int .i64 my, .int .i64 mz] 23)).alloc (.cells #[.int .i64 nx, .int .i64 ny, .int .i64 nz] 23)) ⟨w.heap.size + 1 + 1, 2, none⟩ = some (.int .i64 nz) := by simp [go_sem]
  have ln : w.heap.size + 1 + 1 < (((w.alloc (.cells #[.int .i64 kx, .int .i64 ky, .int .i64 kz] 23)).alloc (.cells #[.int .i64 mx, .int .i64 my, .int .i64 mz] 23)).alloc (.cells #[.int .i64 nx, .int .i64 ny, .int .i64 nz] 23)).heap.size := by simp <;> omega
  have HB := Lib.hid (show Below w.heap.size w (((w.alloc (.cells #[.int .i64 kx, .int .i64 ky, .int .i64 kz] 23)).alloc (.cells #[.int .i64 mx, .int .i64 my, .int .i64 mz] 23)).alloc (.cells #[.int .i64 nx, .int .i64 ny, .int .i64 nz] 23)) from ((((Below.refl _ _).alloc (by simp <;> omega) _).alloc (by simp <;> omega) _).alloc (by simp <;> omega) _))
  go_enter Try.func4, Try.ntmps4
  go_wp2_with fail
  generalize ((w.alloc (.cells #[.int .i64 kx, .int .i64 ky, .int .i64 kz] 23)).alloc (.cells #[.int .i64 mx, .int .i64 my, .int .i64 mz] 23)).alloc (.cells #[.int .i64 nx, .int .i64 ny, .int .i64 nz] 23) = w1 at *
  refine (head_any _).mono ?_
  rintro e_ w2 ⟨rfl, hb⟩
  replace HB := Lib.hid (on_below HB.out hb)
  replace k0 := keepc hb k0
  replace k1 := keepc hb k1
  replace k2 := keepc hb k2
  replace m0 := keepc hb m0
  replace m1 := keepc hb m1
  replace m2 := keepc hb m2
  replace n0 := keepc hb n0
  replace n1 := keepc hb n1
  replace n2 := keepc hb n2
  replace lk := Nat.lt_of_lt_of_le lk hb.size
  replace lm := Nat.lt_of_lt_of_le lm hb.size
  replace ln := Nat.lt_of_lt_of_le ln hb.size
  clear hb
  go_wp2_with fail
  refine (valid_is kx ky kz false H0.out _).mono ?_
  rintro e_ w3 ⟨rfl, hb⟩
  replace HB := Lib.hid (on_below HB.out hb)
  replace k0 := keepc hb k0
  replace k1 := keepc hb k1
  replace k2 := keepc hb k2
  replace m0 := keepc hb m0
  replace m1 := keepc hb m1
  replace m2 := keepc hb m2
  replace n0 := keepc hb n0
  replace n1 := keepc hb n1
  replace n2 := keepc hb n2
  replace lk := Nat.lt_of_lt_of_le lk hb.size
  replace lm := Nat.lt_of_lt_of_le lm hb.size
  replace ln := Nat.lt_of_lt_of_le ln hb.size
  clear hb
  go_wp2_with fail
  go_ret
  exact ⟨rfl, HB.out⟩
set_option maxRecDepth 100000 in
set_option maxHeartbeats 2000000 in
theorem law_2 (kx ky kz mx my mz nx ny nz : Int) (h0 : vv kx ky kz = true) (h1 : vv mx my mz = false) (w : World) :
    Calls Try.prog 4 #[.agg #[.int .i64 kx, .int .i64 ky, .int .i64 kz], .agg #[.int .i64 mx, .int .i64 my, .int .i64 mz], .agg #[.int .i64 nx, .int .i64 ny, .int .i64 nz]] w fun e_ w' => e_ = .returned (.bool true) ∧ Below w.heap.size w w' := by
  have H0 := Lib.hid h0
  clear h0
  have H1 := Lib.hid h1
  clear h1
  have k0 : World.cell? (((w.alloc (.cells #[.int .i64 kx, .int .i64 ky, .int .i64 kz] 23)).alloc (.cells #[.int .i64 mx, .int .i64 my, .int .i64 mz] 23)).alloc (.cells #[.int .i64 nx, .int .i64 ny, .int .i64 nz] 23)) ⟨w.heap.size, 0, none⟩ = some (.int .i64 kx) := by simp [go_sem]
  have k1 : World.cell? (((w.alloc (.cells #[.int .i64 kx, .int .i64 ky, .int .i64 kz] 23)).alloc (.cells #[.int .i64 mx, .int .i64 my, .int .i64 mz] 23)).alloc (.cells #[.int .i64 nx, .int .i64 ny, .int .i64 nz] 23)) ⟨w.heap.size, 1, none⟩ = some (.int .i64 ky) := by simp [go_sem]
  have k2 : World.cell? (((w.alloc (.cells #[.int .i64 kx, .int .i64 ky, .int .i64 kz] 23)).alloc (.cells #[.int .i64 mx, .int .i64 my, .int .i64 mz] 23)).alloc (.cells #[.int .i64 nx, .int .i64 ny, .int .i64 nz] 23)) ⟨w.heap.size, 2, none⟩ = some (.int .i64 kz) := by simp [go_sem]
  have lk : w.heap.size < (((w.alloc (.cells #[.int .i64 kx, .int .i64 ky, .int .i64 kz] 23)).alloc (.cells #[.int .i64 mx, .int .i64 my, .int .i64 mz] 23)).alloc (.cells #[.int .i64 nx, .int .i64 ny, .int .i64 nz] 23)).heap.size := by simp <;> omega
  have m0 : World.cell? (((w.alloc (.cells #[.int .i64 kx, .int .i64 ky, .int .i64 kz] 23)).alloc (.cells #[.int .i64 mx, .int .i64 my, .int .i64 mz] 23)).alloc (.cells #[.int .i64 nx, .int .i64 ny, .int .i64 nz] 23)) ⟨w.heap.size + 1, 0, none⟩ = some (.int .i64 mx) := by simp [go_sem]
  have m1 : World.cell? (((w.alloc (.cells #[.int .i64 kx, .int .i64 ky, .int .i64 kz] 23)).alloc (.cells #[.int .i64 mx, .int .i64 my, .int .i64 mz] 23)).alloc (.cells #[.int .i64 nx, .int .i64 ny, .int .i64 nz] 23)) ⟨w.heap.size + 1, 1, none⟩ = some (.int .i64 my) := by simp [go_sem]
  have m2 : World.cell? (((w.alloc (.cells #[.int .i64 kx, .int .i64 ky, .int .i64 kz] 23)).alloc (.cells #[.int .i64 mx, .int .i64 my, .int .i64 mz] 23)).alloc (.cells #[.int .i64 nx, .int .i64 ny, .int .i64 nz] 23)) ⟨w.heap.size + 1, 2, none⟩ = some (.int .i64 mz) := by simp [go_sem]
  have lm : w.heap.size + 1 < (((w.alloc (.cells #[.int .i64 kx, .int .i64 ky, .int .i64 kz] 23)).alloc (.cells #[.int .i64 mx, .int .i64 my, .int .i64 mz] 23)).alloc (.cells #[.int .i64 nx, .int .i64 ny, .int .i64 nz] 23)).heap.size := by simp <;> omega
  have n0 : World.cell? (((w.alloc (.cells #[.int .i64 kx, .int .i64 ky, .int .i64 kz] 23)).alloc (.cells #[.int .i64 mx, .int .i64 my, .int .i64 mz] 23)).alloc (.cells #[.int .i64 nx, .int .i64 ny, .int .i64 nz] 23)) ⟨w.heap.size + 1 + 1, 0, none⟩ = some (.int .i64 nx) := by simp [go_sem]
  have n1 : World.cell? (((w.alloc (.cells #[.int .i64 kx, .int .i64 ky, .int .i64 kz] 23)).alloc (.cells #[.int .i64 mx, .int .i64 my, .int .i64 mz] 23)).alloc (.cells #[.int .i64 nx, .int .i64 ny, .int .i64 nz] 23)) ⟨w.heap.size + 1 + 1, 1, none⟩ = some (.int .i64 ny) := by simp [go_sem]
  have n2 : World.cell? (((w.alloc (.cells #[.int .i64 kx, .int .i64 ky, .int .i64 kz] 23)).alloc (.cells #[.int .i64 mx, .int .i64 my, .int .i64 mz] 23)).alloc (.cells #[.int .i64 nx, .int .i64 ny, .int .i64 nz] 23)) ⟨w.heap.size + 1 + 1, 2, none⟩ = some (.int .i64 nz) := by simp [go_sem]
  have ln : w.heap.size + 1 + 1 < (((w.alloc (.cells #[.int .i64 kx, .int .i64 ky, .int .i64 kz] 23)).alloc (.cells #[.int .i64 mx, .int .i64 my, .int .i64 mz] 23)).alloc (.cells #[.int .i64 nx, .int .i64 ny, .int .i64 nz] 23)).heap.size := by simp <;> omega
  have HB := Lib.hid (show Below w.heap.size w (((w.alloc (.cells #[.int .i64 kx, .int .i64 ky, .int .i64 kz] 23)).alloc (.cells #[.int .i64 mx, .int .i64 my, .int .i64 mz] 23)).alloc (.cells #[.int .i64 nx, .int .i64 ny, .int .i64 nz] 23)) from ((((Below.refl _ _).alloc (by simp <;> omega) _).alloc (by simp <;> omega) _).alloc (by simp <;> omega) _))
  go_enter Try.func4, Try.ntmps4
  go_wp2_with fail
  generalize ((w.alloc (.cells #[.int .i64 kx, .int .i64 ky, .int .i64 kz] 23)).alloc (.cells #[.int .i64 mx, .int .i64 my, .int .i64 mz] 23)).alloc (.cells #[.int .i64 nx, .int .i64 ny, .int .i64 nz] 23) = w1 at *
  refine (head_any _).mono ?_
  rintro e_ w2 ⟨rfl, hb⟩
  replace HB := Lib.hid (on_below HB.out hb)
  replace k0 := keepc hb k0
  replace k1 := keepc hb k1
  replace k2 := keepc hb k2
  replace m0 := keepc hb m0
  replace m1 := keepc hb m1
  replace m2 := keepc hb m2
  replace n0 := keepc hb n0
  replace n1 := keepc hb n1
  replace n2 := keepc hb n2
  replace lk := Nat.lt_of_lt_of_le lk hb.size
  replace lm := Nat.lt_of_lt_of_le lm hb.size
  replace ln := Nat.lt_of_lt_of_le ln hb.size
  clear hb
  go_wp2_with fail
  refine (valid_is kx ky kz true H0.out _).mono ?_
  rintro e_ w3 ⟨rfl, hb⟩
  replace HB := Lib.hid (on_below HB.out hb)
  replace k0 := keepc hb k0
  replace k1 := keepc hb k1
  replace k2 := keepc hb k2
  replace m0 := keepc hb m0
  replace m1 := keepc hb m1
  replace m2 := keepc hb m2
  replace n0 := keepc hb n0
  replace n1 := keepc hb n1
  replace n2 := keepc hb n2
  replace lk := Nat.lt_of_lt_of_le lk hb.size
  replace lm := Nat.lt_of_lt_of_le lm hb.size
  replace ln := Nat.lt_of_lt_of_le ln hb.size
  clear hb
  go_wp2_with fail
  refine (valid_is mx my mz false H1.out _).mono ?_
  rintro e_ w4 ⟨rfl, hb⟩
  replace HB := Lib.hid (on_below HB.out hb)
  replace k0 := keepc hb k0
  replace k1 := keepc hb k1
  replace k2 := keepc hb k2
  replace m0 := keepc hb m0
  replace m1 := keepc hb m1
  replace m2 := keepc hb m2
  replace n0 := keepc hb n0
  replace n1 := keepc hb n1
  replace n2 := keepc hb n2
  replace lk := Nat.lt_of_lt_of_le lk hb.size
  replace lm := Nat.lt_of_lt_of_le lm hb.size
  replace ln := Nat.lt_of_lt_of_le ln hb.size
  clear hb
  go_wp2_with fail
  go_ret
  exact ⟨rfl, HB.out⟩
set_option maxRecDepth 100000 in
set_option maxHeartbeats 2000000 in
theorem law_3 (kx ky kz mx my mz nx ny nz : Int) (h0 : vv kx ky kz = true) (h1 : vv mx my mz = true) (h2 : vv nx ny nz = false) (w : World) :
    Calls Try.prog 4 #[.agg #[.int .i64 kx, .int .i64 ky, .int .i64 kz], .agg #[.int .i64 mx, .int .i64 my, .int .i64 mz], .agg #[.int .i64 nx, .int .i64 ny, .int .i64 nz]] w fun e_ w' => e_ = .returned (.bool true) ∧ Below w.heap.size w w' := by
  have H0 := Lib.hid h0
  clear h0
  have H1 := Lib.hid h1
  clear h1
  have H2 := Lib.hid h2
  clear h2
  have k0 : World.cell? (((w.alloc (.cells #[.int .i64 kx, .int .i64 ky, .int .i64 kz] 23)).alloc (.cells #[.int .i64 mx, .int .i64 my, .int .i64 mz] 23)).alloc (.cells #[.int .i64 nx, .int .i64 ny, .int .i64 nz] 23)) ⟨w.heap.size, 0, none⟩ = some (.int .i64 kx) := by simp [go_sem]
  have k1 : World.cell? (((w.alloc (.cells #[.int .i64 kx, .int .i64 ky, .int .i64 kz] 23)).alloc (.cells #[.int .i64 mx, .int .i64 my, .int .i64 mz] 23)).alloc (.cells #[.int .i64 nx, .int .i64 ny, .int .i64 nz] 23)) ⟨w.heap.size, 1, none⟩ = some (.int .i64 ky) := by simp [go_sem]
  have k2 : World.cell? (((w.alloc (.cells #[.int .i64 kx, .int .i64 ky, .int .i64 kz] 23)).alloc (.cells #[.int .i64 mx, .int .i64 my, .int .i64 mz] 23)).alloc (.cells #[.int .i64 nx, .int .i64 ny, .int .i64 nz] 23)) ⟨w.heap.size, 2, none⟩ = some (.int .i64 kz) := by simp [go_sem]
  have lk : w.heap.size < (((w.alloc (.cells #[.int .i64 kx, .int .i64 ky, .int .i64 kz] 23)).alloc (.cells #[.int .i64 mx, .int .i64 my, .int .i64 mz] 23)).alloc (.cells #[.int .i64 nx, .int .i64 ny, .int .i64 nz] 23)).heap.size := by simp <;> omega
  have m0 : World.cell? (((w.alloc (.cells #[.int .i64 kx, .int .i64 ky, .int .i64 kz] 23)).alloc (.cells #[.int .i64 mx, .int .i64 my, .int .i64 mz] 23)).alloc (.cells #[.int .i64 nx, .int .i64 ny, .int .i64 nz] 23)) ⟨w.heap.size + 1, 0, none⟩ = some (.int .i64 mx) := by simp [go_sem]
  have m1 : World.cell? (((w.alloc (.cells #[.int .i64 kx, .int .i64 ky, .int .i64 kz] 23)).alloc (.cells #[.int .i64 mx, .int .i64 my, .int .i64 mz] 23)).alloc (.cells #[.int .i64 nx, .int .i64 ny, .int .i64 nz] 23)) ⟨w.heap.size + 1, 1, none⟩ = some (.int .i64 my) := by simp [go_sem]
  have m2 : World.cell? (((w.alloc (.cells #[.int .i64 kx, .int .i64 ky, .int .i64 kz] 23)).alloc (.cells #[.int .i64 mx, .int .i64 my, .int .i64 mz] 23)).alloc (.cells #[.int .i64 nx, .int .i64 ny, .int .i64 nz] 23)) ⟨w.heap.size + 1, 2, none⟩ = some (.int .i64 mz) := by simp [go_sem]
  have lm : w.heap.size + 1 < (((w.alloc (.cells #[.int .i64 kx, .int .i64 ky, .int .i64 kz] 23)).alloc (.cells #[.int .i64 mx, .int .i64 my, .int .i64 mz] 23)).alloc (.cells #[.int .i64 nx, .int .i64 ny, .int .i64 nz] 23)).heap.size := by simp <;> omega
  have n0 : World.cell? (((w.alloc (.cells #[.int .i64 kx, .int .i64 ky, .int .i64 kz] 23)).alloc (.cells #[.int .i64 mx, .int .i64 my, .int .i64 mz] 23)).alloc (.cells #[.int .i64 nx, .int .i64 ny, .int .i64 nz] 23)) ⟨w.heap.size + 1 + 1, 0, none⟩ = some (.int .i64 nx) := by simp [go_sem]
  have n1 : World.cell? (((w.alloc (.cells #[.int .i64 kx, .int .i64 ky, .int .i64 kz] 23)).alloc (.cells #[.int .i64 mx, .int .i64 my, .int .i64 mz] 23)).alloc (.cells #[.int .i64 nx, .int .i64 ny, .int .i64 nz] 23)) ⟨w.heap.size + 1 + 1, 1, none⟩ = some (.int .i64 ny) := by simp [go_sem]
  have n2 : World.cell? (((w.alloc (.cells #[.int .i64 kx, .int .i64 ky, .int .i64 kz] 23)).alloc (.cells #[.int .i64 mx, .int .i64 my, .int .i64 mz] 23)).alloc (.cells #[.int .i64 nx, .int .i64 ny, .int .i64 nz] 23)) ⟨w.heap.size + 1 + 1, 2, none⟩ = some (.int .i64 nz) := by simp [go_sem]
  have ln : w.heap.size + 1 + 1 < (((w.alloc (.cells #[.int .i64 kx, .int .i64 ky, .int .i64 kz] 23)).alloc (.cells #[.int .i64 mx, .int .i64 my, .int .i64 mz] 23)).alloc (.cells #[.int .i64 nx, .int .i64 ny, .int .i64 nz] 23)).heap.size := by simp <;> omega
  have HB := Lib.hid (show Below w.heap.size w (((w.alloc (.cells #[.int .i64 kx, .int .i64 ky, .int .i64 kz] 23)).alloc (.cells #[.int .i64 mx, .int .i64 my, .int .i64 mz] 23)).alloc (.cells #[.int .i64 nx, .int .i64 ny, .int .i64 nz] 23)) from ((((Below.refl _ _).alloc (by simp <;> omega) _).alloc (by simp <;> omega) _).alloc (by simp <;> omega) _))
  go_enter Try.func4, Try.ntmps4
  go_wp2_with fail
  generalize ((w.alloc (.cells #[.int .i64 kx, .int .i64 ky, .int .i64 kz] 23)).alloc (.cells #[.int .i64 mx, .int .i64 my, .int .i64 mz] 23)).alloc (.cells #[.int .i64 nx, .int .i64 ny, .int .i64 nz] 23) = w1 at *
  refine (head_any _).mono ?_
  rintro e_ w2 ⟨rfl, hb⟩
  replace HB := Lib.hid (on_below HB.out hb)
  replace k0 := keepc hb k0
  replace k1 := keepc hb k1
  replace k2 := keepc hb k2
  replace m0 := keepc hb m0
  replace m1 := keepc hb m1
  replace m2 := keepc hb m2
  replace n0 := keepc hb n0
  replace n1 := keepc hb n1
  replace n2 := keepc hb n2
  replace lk := Nat.lt_of_lt_of_le lk hb.size
  replace lm := Nat.lt_of_lt_of_le lm hb.size
  replace ln := Nat.lt_of_lt_of_le ln hb.size
  clear hb
  go_wp2_with fail
  refine (valid_is kx ky kz true H0.out _).mono ?_
  rintro e_ w3 ⟨rfl, hb⟩
  replace HB := Lib.hid (on_below HB.out hb)
  replace k0 := keepc hb k0
  replace k1 := keepc hb k1
  replace k2 := keepc hb k2
  replace m0 := keepc hb m0
  replace m1 := keepc hb m1
  replace m2 := keepc hb m2
  replace n0 := keepc hb n0
  replace n1 := keepc hb n1
  replace n2 := keepc hb n2
  replace lk := Nat.lt_of_lt_of_le lk hb.size
  replace lm := Nat.lt_of_lt_of_le lm hb.size
  replace ln := Nat.lt_of_lt_of_le ln hb.size
  clear hb
  go_wp2_with fail
  refine (valid_is mx my mz true H1.out _).mono ?_
  rintro e_ w4 ⟨rfl, hb⟩
  replace HB := Lib.hid (on_below HB.out hb)
  replace k0 := keepc hb k0
  replace k1 := keepc hb k1
  replace k2 := keepc hb k2
  replace m0 := keepc hb m0
  replace m1 := keepc hb m1
  replace m2 := keepc hb m2
  replace n0 := keepc hb n0
  replace n1 := keepc hb n1
  replace n2 := keepc hb n2
  replace lk := Nat.lt_of_lt_of_le lk hb.size
  replace lm := Nat.lt_of_lt_of_le lm hb.size
  replace ln := Nat.lt_of_lt_of_le ln hb.size
  clear hb
  go_wp2_with fail
  refine (valid_is nx ny nz false H2.out _).mono ?_
  rintro e_ w5 ⟨rfl, hb⟩
  replace HB := Lib.hid (on_below HB.out hb)
  replace k0 := keepc hb k0
  replace k1 := keepc hb k1
  replace k2 := keepc hb k2
  replace m0 := keepc hb m0
  replace m1 := keepc hb m1
  replace m2 := keepc hb m2
  replace n0 := keepc hb n0
  replace n1 := keepc hb n1
  replace n2 := keepc hb n2
  replace lk := Nat.lt_of_lt_of_le lk hb.size
  replace lm := Nat.lt_of_lt_of_le lm hb.size
  replace ln := Nat.lt_of_lt_of_le ln hb.size
  clear hb
  go_wp2_with fail
  go_ret
  exact ⟨rfl, HB.out⟩
theorem kp_z (u : Int) : kp 0 (u + 0) = u := by rw [Int.add_zero]; rfl
set_option maxRecDepth 100000 in
set_option maxHeartbeats 2000000 in
theorem law_4 (kx ky kz mx my mz nx ny nz : Int) (h0 : vv kx ky kz = true) (h1 : vv mx my mz = true) (h2 : vv nx ny nz = true) (hz : sE (vv kx ky kz) (vv 0 0 0) (vv (kx + 0) (ky + 0) (kz + 0)) = 0) (s1 : sE (vv kx ky kz) (vv mx my mz) (vv (kx + mx) (ky + my) (kz + mz)) = 3) (s2 : sE (vv mx my mz) (vv kx ky kz) (vv (mx + kx) (my + ky) (mz + kz)) = 3) (w : World) :
    Calls Try.prog 4 #[.agg #[.int .i64 kx, .int .i64 ky, .int .i64 kz], .agg #[.int .i64 mx, .int .i64 my, .int .i64 mz], .agg #[.int .i64 nx, .int .i64 ny, .int .i64 nz]] w fun e_ w' => e_ = .returned (.bool true) ∧ Below w.heap.size w w' := by
  have HZ := Lib.hid hz
  clear hz
  have S1 := Lib.hid s1
  clear s1
  have S2 := Lib.hid s2
  clear s2
  have H0 := Lib.hid h0
  clear h0
  have H1 := Lib.hid h1
  clear h1
  have H2 := Lib.hid h2
  clear h2
  have k0 : World.cell? (((w.alloc (.cells #[.int .i64 kx, .int .i64 ky, .int .i64 kz] 23)).alloc (.cells #[.int .i64 mx, .int .i64 my, .int .i64 mz] 23)).alloc (.cells #[.int .i64 nx, .int .i64 ny, .int .i64 nz] 23)) ⟨w.heap.size, 0, none⟩ = some (.int .i64 kx) := by simp [go_sem]
  have k1 : World.cell? (((w.alloc (.cells #[.int .i64 kx, .int .i64 ky, .int .i64 kz] 23)).alloc (.cells #[.int .i64 mx, .int .i64 my, .int .i64 mz] 23)).alloc (.cells #[.int .i64 nx, .int .i64 ny, .int .i64 nz] 23)) ⟨w.heap.size, 1, none⟩ = some (.int .i64 ky) := by simp [go_sem]
  have k2 : World.cell? (((w.alloc (.cells #[.int .i64 kx, .int .i64 ky, .int .i64 kz] 23)).alloc (.cells #[.int .i64 mx, .int .i64 my, .int .i64 mz] 23)).alloc (.cells #[.int .i64 nx, .int .i64 ny, .int .i64 nz] 23)) ⟨w.heap.size, 2, none⟩ = some (.int .i64 kz) := by simp [go_sem]
  have lk : w.heap.size < (((w.alloc (.cells #[.int .i64 kx, .int .i64 ky, .int .i64 kz] 23)).alloc (.cells #[.int .i64 mx, .int .i64 my, .int .i64 mz] 23)).alloc (.cells #[.int .i64 nx, .int .i64 ny, .int .i64 nz] 23)).heap.size := by simp <;> omega
  have m0 : World.cell? (((w.alloc (.cells #[.int .i64 kx, .int .i64 ky, .int .i64 kz] 23)).alloc (.cells #[.int .i64 mx, .int .i64 my, .int .i64 mz] 23)).alloc (.cells #[.int .i64 nx, .int .i64 ny, .int .i64 nz] 23)) ⟨w.heap.size + 1, 0, none⟩ = some (.int .i64 mx) := by simp [go_sem]
  have m1 : World.cell? (((w.alloc (.cells #[.int .i64 kx, .int .i64 ky, .int .i64 kz] 23)).alloc (.cells #[.int .i64 mx, .int .i64 my, .int .i64 mz] 23)).alloc (.cells #[.int .i64 nx, .int .i64 ny, .int .i64 nz] 23)) ⟨w.heap.size + 1, 1, none⟩ = some (.int .i64 my) := by simp [go_sem]
  have m2 : World.cell? (((w.alloc (.cells #[.int .i64 kx, .int .i64 ky, .int .i64 kz] 23)).alloc (.cells #[.int .i64 mx, .int .i64 my, .int .i64 mz] 23)).alloc (.cells #[.int .i64 nx, .int .i64 ny, .int .i64 nz] 23)) ⟨w.heap.size + 1, 2, none⟩ = some (.int .i64 mz) := by simp [go_sem]
  have lm : w.heap.size + 1 < (((w.alloc (.cells #[.int .i64 kx, .int .i64 ky, .int .i64 kz] 23)).alloc (.cells #[.int .i64 mx, .int .i64 my, .int .i64 mz] 23)).alloc (.cells #[.int .i64 nx, .int .i64 ny, .int .i64 nz] 23)).heap.size := by simp <;> omega
  have n0 : World.cell? (((w.alloc (.cells #[.int .i64 kx, .int .i64 ky, .int .i64 kz] 23)).alloc (.cells #[.int .i64 mx, .int .i64 my, .int .i64 mz] 23)).alloc (.cells #[.int .i64 nx, .int .i64 ny, .int .i64 nz] 23)) ⟨w.heap.size + 1 + 1, 0, none⟩ = some (.int .i64 nx) := by simp [go_sem]
  have n1 : World.cell? (((w.alloc (.cells #[.int .i64 kx, .int .i64 ky, .int .i64 kz] 23)).alloc (.cells #[.int .i64 mx, .int .i64 my, .int .i64 mz] 23)).alloc (.cells #[.int .i64 nx, .int .i64 ny, .int .i64 nz] 23)) ⟨w.heap.size + 1 + 1, 1, none⟩ = some (.int .i64 ny) := by simp [go_sem]
  have n2 : World.cell? (((w.alloc (.cells #[.int .i64 kx, .int .i64 ky, .int .i64 kz] 23)).alloc (.cells #[.int .i64 mx, .int .i64 my, .int .i64 mz] 23)).alloc (.cells #[.int .i64 nx, .int .i64 ny, .int .i64 nz] 23)) ⟨w.heap.size + 1 + 1, 2, none⟩ = some (.int .i64 nz) := by simp [go_sem]
  have ln : w.heap.size + 1 + 1 < (((w.alloc (.cells #[.int .i64 kx, .int .i64 ky, .int .i64 kz] 23)).alloc (.cells #[.int .i64 mx, .int .i64 my, .int .i64 mz] 23)).alloc (.cells #[.int .i64 nx, .int .i64 ny, .int .i64 nz] 23)).heap.size := by simp <;> omega
  have HB := Lib.hid (show Below w.heap.size w (((w.alloc (.cells #[.int .i64 kx, .int .i64 ky, .int .i64 kz] 23)).alloc (.cells #[.int .i64 mx, .int .i64 my, .int .i64 mz] 23)).alloc (.cells #[.int .i64 nx, .int .i64 ny, .int .i64 nz] 23)) from ((((Below.refl _ _).alloc (by simp <;> omega) _).alloc (by simp <;> omega) _).alloc (by simp <;> omega) _))
  go_enter Try.func4, Try.ntmps4
  go_wp2_with fail
  generalize ((w.alloc (.cells #[.int .i64 kx, .int .i64 ky, .int .i64 kz] 23)).alloc (.cells #[.int .i64 mx, .int .i64 my, .int .i64 mz] 23)).alloc (.cells #[.int .i64 nx, .int .i64 ny, .int .i64 nz] 23) = w1 at *
  refine (head_any _).mono ?_
  rintro e_ w2 ⟨rfl, hb⟩
  replace HB := Lib.hid (on_below HB.out hb)
  replace k0 := keepc hb k0
  replace k1 := keepc hb k1
  replace k2 := keepc hb k2
  replace m0 := keepc hb m0
  replace m1 := keepc hb m1
  replace m2 := keepc hb m2
  replace n0 := keepc hb n0
  replace n1 := keepc hb n1
  replace n2 := keepc hb n2
  replace lk := Nat.lt_of_lt_of_le lk hb.size
  replace lm := Nat.lt_of_lt_of_le lm hb.size
  replace ln := Nat.lt_of_lt_of_le ln hb.size
  clear hb
  go_wp2_with fail
  refine (valid_is kx ky kz true H0.out _).mono ?_
  rintro e_ w3 ⟨rfl, hb⟩
  replace HB := Lib.hid (on_below HB.out hb)
  replace k0 := keepc hb k0
  replace k1 := keepc hb k1
  replace k2 := keepc hb k2
  replace m0 := keepc hb m0
  replace m1 := keepc hb m1
  replace m2 := keepc hb m2
  replace n0 := keepc hb n0
  replace n1 := keepc hb n1
  replace n2 := keepc hb n2
  replace lk := Nat.lt_of_lt_of_le lk hb.size
  replace lm := Nat.lt_of_lt_of_le lm hb.size
  replace ln := Nat.lt_of_lt_of_le ln hb.size
  clear hb
  go_wp2_with fail
  refine (valid_is mx my mz true H1.out _).mono ?_
  rintro e_ w4 ⟨rfl, hb⟩
  replace HB := Lib.hid (on_below HB.out hb)
  replace k0 := keepc hb k0
  replace k1 := keepc hb k1
  replace k2 := keepc hb k2
  replace m0 := keepc hb m0
  replace m1 := keepc hb m1
  replace m2 := keepc hb m2
  replace n0 := keepc hb n0
  replace n1 := keepc hb n1
  replace n2 := keepc hb n2
  replace lk := Nat.lt_of_lt_of_le lk hb.size
  replace lm := Nat.lt_of_lt_of_le lm hb.size
  replace ln := Nat.lt_of_lt_of_le ln hb.size
  clear hb
  go_wp2_with fail
  refine (valid_is nx ny nz true H2.out _).mono ?_
  rintro e_ w5 ⟨rfl, hb⟩
  replace HB := Lib.hid (on_below HB.out hb)
  replace k0 := keepc hb k0
  replace k1 := keepc hb k1
  replace k2 := keepc hb k2
  replace m0 := keepc hb m0
  replace m1 := keepc hb m1
  replace m2 := keepc hb m2
  replace n0 := keepc hb n0
  replace n1 := keepc hb n1
  replace n2 := keepc hb n2
  replace lk := Nat.lt_of_lt_of_le lk hb.size
  replace lm := Nat.lt_of_lt_of_le lm hb.size
  replace ln := Nat.lt_of_lt_of_le ln hb.size
  clear hb
  go_wp2_with fail
  refine (add_is kx ky kz 0 0 0 kx ky kz 0 HZ.out (kp_z _) (kp_z _) (kp_z _) _).mono ?_
  rintro e_ w6 ⟨rfl, hb⟩
  replace HB := Lib.hid (on_below HB.out hb)
  replace k0 := keepc hb k0
  replace k1 := keepc hb k1
  replace k2 := keepc hb k2
  replace m0 := keepc hb m0
  replace m1 := keepc hb m1
  replace m2 := keepc hb m2
  replace n0 := keepc hb n0
  replace n1 := keepc hb n1
  replace n2 := keepc hb n2
  replace lk := Nat.lt_of_lt_of_le lk hb.size
  replace lm := Nat.lt_of_lt_of_le lm hb.size
  replace ln := Nat.lt_of_lt_of_le ln hb.size
  clear hb
  go_wp2_with fail
  have z0 : World.cell? (w6.alloc (.cells #[.int .i64 kx, .int .i64 ky, .int .i64 kz] 23)) ⟨w6.heap.size, 0, none⟩ = some (.int .i64 kx) := by simp [go_sem]
  have z1 : World.cell? (w6.alloc (.cells #[.int .i64 kx, .int .i64 ky, .int .i64 kz] 23)) ⟨w6.heap.size, 1, none⟩ = some (.int .i64 ky) := by simp [go_sem]
  have z2 : World.cell? (w6.alloc (.cells #[.int .i64 kx, .int .i64 ky, .int .i64 kz] 23)) ⟨w6.heap.size, 2, none⟩ = some (.int .i64 kz) := by simp [go_sem]
  have lz : w6.heap.size < (w6.alloc (.cells #[.int .i64 kx, .int .i64 ky, .int .i64 kz] 23)).heap.size := by simp
  have hb : Below w6.heap.size w6 (w6.alloc (.cells #[.int .i64 kx, .int .i64 ky, .int .i64 kz] 23)) := below_new _ _
  generalize w6.alloc (.cells #[.int .i64 kx, .int .i64 ky, .int .i64 kz] 23) = w7 at *
  replace HB := Lib.hid (on_below HB.out hb)
  replace k0 := keepc hb k0
  replace k1 := keepc hb k1
  replace k2 := keepc hb k2
  replace m0 := keepc hb m0
  replace m1 := keepc hb m1
  replace m2 := keepc hb m2
  replace n0 := keepc hb n0
  replace n1 := keepc hb n1
  replace n2 := keepc hb n2
  replace lk := Nat.lt_of_lt_of_le lk hb.size
  replace lm := Nat.lt_of_lt_of_le lm hb.size
  replace ln := Nat.lt_of_lt_of_le ln hb.size
  clear hb
  generalize w6.heap.size = gz at *
  refine (add_is kx ky kz mx my mz 0 0 0 3 S1.out rfl rfl rfl _).mono ?_
  rintro e_ w8 ⟨rfl, hb⟩
  replace HB := Lib.hid (on_below HB.out hb)
  replace k0 := keepc hb k0
  replace k1 := keepc hb k1
  replace k2 := keepc hb k2
  replace m0 := keepc hb m0
  replace m1 := keepc hb m1
  replace m2 := keepc hb m2
  replace n0 := keepc hb n0
  replace n1 := keepc hb n1
  replace n2 := keepc hb n2
  replace z0 := keepc hb z0
  replace z1 := keepc hb z1
  replace z2 := keepc hb z2
  replace lk := Nat.lt_of_lt_of_le lk hb.size
  replace lm := Nat.lt_of_lt_of_le lm hb.size
  replace ln := Nat.lt_of_lt_of_le ln hb.size
  replace lz := Nat.lt_of_lt_of_le lz hb.size
  clear hb
  go_wp2_with fail
  have s0 : World.cell? (w8.alloc (.cells #[.int .i64 0, .int .i64 0, .int .i64 0] 23)) ⟨w8.heap.size, 0, none⟩ = some (.int .i64 0) := by simp [go_sem]
  have s1 : World.cell? (w8.alloc (.cells #[.int .i64 0, .int .i64 0, .int .i64 0] 23)) ⟨w8.heap.size, 1, none⟩ = some (.int .i64 0) := by simp [go_sem]
  have s2 : World.cell? (w8.alloc (.cells #[.int .i64 0, .int .i64 0, .int .i64 0] 23)) ⟨w8.heap.size, 2, none⟩ = some (.int .i64 0) := by simp [go_sem]
  have ls : w8.heap.size < (w8.alloc (.cells #[.int .i64 0, .int .i64 0, .int .i64 0] 23)).heap.size := by simp
  have hb : Below w8.heap.size w8 (w8.alloc (.cells #[.int .i64 0, .int .i64 0, .int .i64 0] 23)) := below_new _ _
  generalize w8.alloc (.cells #[.int .i64 0, .int .i64 0, .int .i64 0] 23) = w9 at *
  replace HB := Lib.hid (on_below HB.out hb)
  replace k0 := keepc hb k0
  replace k1 := keepc hb k1
  replace k2 := keepc hb k2
  replace m0 := keepc hb m0
  replace m1 := keepc hb m1
  replace m2 := keepc hb m2
  replace n0 := keepc hb n0
  replace n1 := keepc hb n1
  replace n2 := keepc hb n2
  replace z0 := keepc hb z0
  replace z1 := keepc hb z1
  replace z2 := keepc hb z2
  replace lk := Nat.lt_of_lt_of_le lk hb.size
  replace lm := Nat.lt_of_lt_of_le lm hb.size
  replace ln := Nat.lt_of_lt_of_le ln hb.size
  replace lz := Nat.lt_of_lt_of_le lz hb.size
  clear hb
  generalize w8.heap.size = gs at *
  refine (add_is mx my mz kx ky kz 0 0 0 3 S2.out rfl rfl rfl _).mono ?_
  rintro e_ w10 ⟨rfl, hb⟩
  replace HB := Lib.hid (on_below HB.out hb)
  replace k0 := keepc hb k0
  replace k1 := keepc hb k1
  replace k2 := keepc hb k2
  replace m0 := keepc hb m0
  replace m1 := keepc hb m1
  replace m2 := keepc hb m2
  replace n0 := keepc hb n0
  replace n1 := keepc hb n1
  replace n2 := keepc hb n2
  replace z0 := keepc hb z0
  replace z1 := keepc hb z1
  replace z2 := keepc hb z2
  replace s0 := keepc hb s0
  replace s1 := keepc hb s1
  replace s2 := keepc hb s2
  replace lk := Nat.lt_of_lt_of_le lk hb.size
  replace lm := Nat.lt_of_lt_of_le lm hb.size
  replace ln := Nat.lt_of_lt_of_le ln hb.size
  replace lz := Nat.lt_of_lt_of_le lz hb.size
  replace ls := Nat.lt_of_lt_of_le ls hb.size
  clear hb
  have e1 : ∀ W, (binOp .neq 23 (.agg #[.int .i64 kx, .int .i64 ky, .int .i64 kz]) (.agg #[.int .i64 kx, .int .i64 ky, .int .i64 kz])).run Try.prog W = .ok (.bool false) W := fun W => vec_ne (r := true) (by simp) W
  have e2 : ∀ W, (binOp .neq 23 (.agg #[.int .i64 0, .int .i64 0, .int .i64 0]) (.agg #[.int .i64 0, .int .i64 0, .int .i64 0])).run Try.prog W = .ok (.bool false) W := fun W => vec_ne (r := true) (by simp) W
  go_wp2_with fail
  go_ret
  exact ⟨rfl, on_below HB.out (below_new _ _)⟩
set_option maxRecDepth 100000 in
set_option maxHeartbeats 2000000 in
theorem law_5 (kx ky kz mx my mz nx ny nz : Int) (h0 : vv kx ky kz = true) (h1 : vv mx my mz = true) (h2 : vv nx ny nz = true) (hz : sE (vv kx ky kz) (vv 0 0 0) (vv (kx + 0) (ky + 0) (kz + 0)) = 0) (sx sy sz rx ry rz ux uy uz tx ty tz E F G : Int) (ex : kx + mx = sx) (ey : ky + my = sy) (ez : kz + mz = sz) (hs : vv sx sy sz = true)
    (g0 : sE (vv mx my mz) (vv nx ny nz) (vv (mx + nx) (my + ny) (mz + nz)) = E) (g1 : kp E (mx + nx) = rx) (g2 : kp E (my + ny) = ry) (g3 : kp E (mz + nz) = rz)
    (h0' : sE (vv sx sy sz) (vv nx ny nz) (vv (sx + nx) (sy + ny) (sz + nz)) = F) (h1' : kp F (sx + nx) = ux) (h2' : kp F (sy + ny) = uy) (h3' : kp F (sz + nz) = uz)
    (k0 : sE (vv kx ky kz) (vv rx ry rz) (vv (kx + rx) (ky + ry) (kz + rz)) = G) (k1 : kp G (kx + rx) = tx) (k2 : kp G (ky + ry) = ty) (k3 : kp G (kz + rz) = tz)
    (q : Bool) (hq : decide (ux = tx ∧ uy = ty ∧ uz = tz) = q) (fin : E ≠ 0 ∨ (E = 0 ∧ F ≠ 0) ∨ (E = 0 ∧ F = 0 ∧ G ≠ 0) ∨ (E = 0 ∧ F = 0 ∧ G = 0 ∧ q = true)) (w : World) :
    Calls Try.prog 4 #[.agg #[.int .i64 kx, .int .i64 ky, .int .i64 kz], .agg #[.int .i64 mx, .int .i64 my, .int .i64 mz], .agg #[.int .i64 nx, .int .i64 ny, .int .i64 nz]] w fun e_ w' => e_ = .returned (.bool true) ∧ Below w.heap.size w w' := by
  have a1 := fun W => add_is kx ky kz mx my mz sx sy sz 0 (by rw [h0, h1, ex, ey, ez, hs]; rfl) (by rw [ex]; rfl) (by rw [ey]; rfl) (by rw [ez]; rfl) W
  have a2 := fun W => add_is mx my mz kx ky kz sx sy sz 0 (by rw [h0, h1, Int.add_comm mx, Int.add_comm my, Int.add_comm mz, ex, ey, ez, hs]; rfl) (by rw [Int.add_comm, ex]; rfl) (by rw [Int.add_comm, ey]; rfl) (by rw [Int.add_comm, ez]; rfl) W
  have bx : sx - mx = kx := by omega
  have b_y : sy - my = ky := by omega
  have bz : sz - mz = kz := by omega
  have a3 := fun W => sub_is sx sy sz mx my mz kx ky kz 0 (by rw [h1, hs, bx, b_y, bz, h0]; rfl) (by rw [bx]; rfl) (by rw [b_y]; rfl) (by rw [bz]; rfl) W
  have a4 := fun W => add_is mx my mz nx ny nz rx ry rz E g0 g1 g2 g3 W
  have a5 := fun W => add_is sx sy sz nx ny nz ux uy uz F h0' h1' h2' h3' W
  have a6 := fun W => add_is kx ky kz rx ry rz tx ty tz G k0 k1 k2 k3 W
  have d1 := fun W => vec_eq (a := ux) (b := uy) (c := uz) (x := tx) (y := ty) (z := tz) hq W
  clear bx b_y bz ex ey ez hs g0 g1 g2 g3 h0' h1' h2' h3' k0 k1 k2 k3 hq
  have HZ := Lib.hid hz
  clear hz
  have FIN := Lib.hid fin
  clear fin
  have A1 := Lib.hid a1
  clear a1
  have A2 := Lib.hid a2
  clear a2
  have A3 := Lib.hid a3
  clear a3
  have A4 := Lib.hid a4
  clear a4
  have A5 := Lib.hid a5
  clear a5
  have A6 := Lib.hid a6
  clear a6
  have D1 := Lib.hid d1
  clear d1
  have H0 := Lib.hid h0
  clear h0
  have H1 := Lib.hid h1
  clear h1
  have H2 := Lib.hid h2
  clear h2
  have k0 : World.cell? (((w.alloc (.cells #[.int .i64 kx, .int .i64 ky, .int .i64 kz] 23)).alloc (.cells #[.int .i64 mx, .int .i64 my, .int .i64 mz] 23)).alloc (.cells #[.int .i64 nx, .int .i64 ny, .int .i64 nz] 23)) ⟨w.heap.size, 0, none⟩ = some (.int .i64 kx) := by simp [go_sem]
  have k1 : World.cell? (((w.alloc (.cells #[.int .i64 kx, .int .i64 ky, .int .i64 kz] 23)).alloc (.cells #[.int .i64 mx, .int .i64 my, .int .i64 mz] 23)).alloc (.cells #[.int .i64 nx, .int .i64 ny, .int .i64 nz] 23)) ⟨w.heap.size, 1, none⟩ = some (.int .i64 ky) := by simp [go_sem]
  have k2 : World.cell? (((w.alloc (.cells #[.int .i64 kx, .int .i64 ky, .int .i64 kz] 23)).alloc (.cells #[.int .i64 mx, .int .i64 my, .int .i64 mz] 23)).alloc (.cells #[.int .i64 nx, .int .i64 ny, .int .i64 nz] 23)) ⟨w.heap.size, 2, none⟩ = some (.int .i64 kz) := by simp [go_sem]
  have lk : w.heap.size < (((w.alloc (.cells #[.int .i64 kx, .int .i64 ky, .int .i64 kz] 23)).alloc (.cells #[.int .i64 mx, .int .i64 my, .int .i64 mz] 23)).alloc (.cells #[.int .i64 nx, .int .i64 ny, .int .i64 nz] 23)).heap.size := by simp <;> omega
  have m0 : World.cell? (((w.alloc (.cells #[.int .i64 kx, .int .i64 ky, .int .i64 kz] 23)).alloc (.cells #[.int .i64 mx, .int .i64 my, .int .i64 mz] 23)).alloc (.cells #[.int .i64 nx, .int .i64 ny, .int .i64 nz] 23)) ⟨w.heap.size + 1, 0, none⟩ = some (.int .i64 mx) := by simp [go_sem]
  have m1 : World.cell? (((w.alloc (.cells #[.int .i64 kx, .int .i64 ky, .int .i64 kz] 23)).alloc (.cells #[.int .i64 mx, .int .i64 my, .int .i64 mz] 23)).alloc (.cells #[.int .i64 nx, .int .i64 ny, .int .i64 nz] 23)) ⟨w.heap.size + 1, 1, none⟩ = some (.int .i64 my) := by simp [go_sem]
  have m2 : World.cell? (((w.alloc (.cells #[.int .i64 kx, .int .i64 ky, .int .i64 kz] 23)).alloc (.cells #[.int .i64 mx, .int .i64 my, .int .i64 mz] 23)).alloc (.cells #[.int .i64 nx, .int .i64 ny, .int .i64 nz] 23)) ⟨w.heap.size + 1, 2, none⟩ = some (.int .i64 mz) := by simp [go_sem]
  have lm : w.heap.size + 1 < (((w.alloc (.cells #[.int .i64 kx, .int .i64 ky, .int .i64 kz] 23)).alloc (.cells #[.int .i64 mx, .int .i64 my, .int .i64 mz] 23)).alloc (.cells #[.int .i64 nx, .int .i64 ny, .int .i64 nz] 23)).heap.size := by simp <;> omega
  have n0 : World.cell? (((w.alloc (.cells #[.int .i64 kx, .int .i64 ky, .int .i64 kz] 23)).alloc (.cells #[.int .i64 mx, .int .i64 my, .int .i64 mz] 23)).alloc (.cells #[.int .i64 nx, .int .i64 ny, .int .i64 nz] 23)) ⟨w.heap.size + 1 + 1, 0, none⟩ = some (.int .i64 nx) := by simp [go_sem]
  have n1 : World.cell? (((w.alloc (.cells #[.int .i64 kx, .int .i64 ky, .int .i64 kz] 23)).alloc (.cells #[.int .i64 mx, .int .i64 my, .int .i64 mz] 23)).alloc (.cells #[.int .i64 nx, .int .i64 ny, .int .i64 nz] 23)) ⟨w.heap.size + 1 + 1, 1, none⟩ = some (.int .i64 ny) := by simp [go_sem]
  have n2 : World.cell? (((w.alloc (.cells #[.int .i64 kx, .int .i64 ky, .int .i64 kz] 23)).alloc (.cells #[.int .i64 mx, .int .i64 my, .int .i64 mz] 23)).alloc (.cells #[.int .i64 nx, .int .i64 ny, .int .i64 nz] 23)) ⟨w.heap.size + 1 + 1, 2, none⟩ = some (.int .i64 nz) := by simp [go_sem]
  have ln : w.heap.size + 1 + 1 < (((w.alloc (.cells #[.int .i64 kx, .int .i64 ky, .int .i64 kz] 23)).alloc (.cells #[.int .i64 mx, .int .i64 my, .int .i64 mz] 23)).alloc (.cells #[.int .i64 nx, .int .i64 ny, .int .i64 nz] 23)).heap.size := by simp <;> omega
  have HB := Lib.hid (show Below w.heap.size w (((w.alloc (.cells #[.int .i64 kx, .int .i64 ky, .int .i64 kz] 23)).alloc (.cells #[.int .i64 mx, .int .i64 my, .int .i64 mz] 23)).alloc (.cells #[.int .i64 nx, .int .i64 ny, .int .i64 nz] 23)) from ((((Below.refl _ _).alloc (by simp <;> omega) _).alloc (by simp <;> omega) _).alloc (by simp <;> omega) _))
  go_enter Try.func4, Try.ntmps4
  go_wp2_with fail
  generalize ((w.alloc (.cells #[.int .i64 kx, .int .i64 ky, .int .i64 kz] 23)).alloc (.cells #[.int .i64 mx, .int .i64 my, .int .i64 mz] 23)).alloc (.cells #[.int .i64 nx, .int .i64 ny, .int .i64 nz] 23) = w1 at *
  refine (head_any _).mono ?_
  rintro e_ w2 ⟨rfl, hb⟩
  replace HB := Lib.hid (on_below HB.out hb)
  replace k0 := keepc hb k0
  replace k1 := keepc hb k1
  replace k2 := keepc hb k2
  replace m0 := keepc hb m0
  replace m1 := keepc hb m1
  replace m2 := keepc hb m2
  replace n0 := keepc hb n0
  replace n1 := keepc hb n1
  replace n2 := keepc hb n2
  replace lk := Nat.lt_of_lt_of_le lk hb.size
  replace lm := Nat.lt_of_lt_of_le lm hb.size
  replace ln := Nat.lt_of_lt_of_le ln hb.size
  clear hb
  go_wp2_with fail
  refine (valid_is kx ky kz true H0.out _).mono ?_
  rintro e_ w3 ⟨rfl, hb⟩
  replace HB := Lib.hid (on_below HB.out hb)
  replace k0 := keepc hb k0
  replace k1 := keepc hb k1
  replace k2 := keepc hb k2
  replace m0 := keepc hb m0
  replace m1 := keepc hb m1
  replace m2 := keepc hb m2
  replace n0 := keepc hb n0
  replace n1 := keepc hb n1
  replace n2 := keepc hb n2
  replace lk := Nat.lt_of_lt_of_le lk hb.size
  replace lm := Nat.lt_of_lt_of_le lm hb.size
  replace ln := Nat.lt_of_lt_of_le ln hb.size
  clear hb
  go_wp2_with fail
  refine (valid_is mx my mz true H1.out _).mono ?_
  rintro e_ w4 ⟨rfl, hb⟩
  replace HB := Lib.hid (on_below HB.out hb)
  replace k0 := keepc hb k0
  replace k1 := keepc hb k1
  replace k2 := keepc hb k2
  replace m0 := keepc hb m0
  replace m1 := keepc hb m1
  replace m2 := keepc hb m2
  replace n0 := keepc hb n0
  replace n1 := keepc hb n1
  replace n2 := keepc hb n2
  replace lk := Nat.lt_of_lt_of_le lk hb.size
  replace lm := Nat.lt_of_lt_of_le lm hb.size
  replace ln := Nat.lt_of_lt_of_le ln hb.size
  clear hb
  go_wp2_with fail
  refine (valid_is nx ny nz true H2.out _).mono ?_
  rintro e_ w5 ⟨rfl, hb⟩
  replace HB := Lib.hid (on_below HB.out hb)
  replace k0 := keepc hb k0
  replace k1 := keepc hb k1
  replace k2 := keepc hb k2
  replace m0 := keepc hb m0
  replace m1 := keepc hb m1
  replace m2 := keepc hb m2
  replace n0 := keepc hb n0
  replace n1 := keepc hb n1
  replace n2 := keepc hb n2
  replace lk := Nat.lt_of_lt_of_le lk hb.size
  replace lm := Nat.lt_of_lt_of_le lm hb.size
  replace ln := Nat.lt_of_lt_of_le ln hb.size
  clear hb
  go_wp2_with fail
  refine (add_is kx ky kz 0 0 0 kx ky kz 0 HZ.out (kp_z _) (kp_z _) (kp_z _) _).mono ?_
  rintro e_ w6 ⟨rfl, hb⟩
  replace HB := Lib.hid (on_below HB.out hb)
  replace k0 := keepc hb k0
  replace k1 := keepc hb k1
  replace k2 := keepc hb k2
  replace m0 := keepc hb m0
  replace m1 := keepc hb m1
  replace m2 := keepc hb m2
  replace n0 := keepc hb n0
  replace n1 := keepc hb n1
  replace n2 := keepc hb n2
  replace lk := Nat.lt_of_lt_of_le lk hb.size
  replace lm := Nat.lt_of_lt_of_le lm hb.size
  replace ln := Nat.lt_of_lt_of_le ln hb.size
  clear hb
  go_wp2_with fail
  have z0 : World.cell? (w6.alloc (.cells #[.int .i64 kx, .int .i64 ky, .int .i64 kz] 23)) ⟨w6.heap.size, 0, none⟩ = some (.int .i64 kx) := by simp [go_sem]
  have z1 : World.cell? (w6.alloc (.cells #[.int .i64 kx, .int .i64 ky, .int .i64 kz] 23)) ⟨w6.heap.size, 1, none⟩ = some (.int .i64 ky) := by simp [go_sem]
  have z2 : World.cell? (w6.alloc (.cells #[.int .i64 kx, .int .i64 ky, .int .i64 kz] 23)) ⟨w6.heap.size, 2, none⟩ = some (.int .i64 kz) := by simp [go_sem]
  have lz : w6.heap.size < (w6.alloc (.cells #[.int .i64 kx, .int .i64 ky, .int .i64 kz] 23)).heap.size := by simp
  have hb : Below w6.heap.size w6 (w6.alloc (.cells #[.int .i64 kx, .int .i64 ky, .int .i64 kz] 23)) := below_new _ _
  generalize w6.alloc (.cells #[.int .i64 kx, .int .i64 ky, .int .i64 kz] 23) = w7 at *
  replace HB := Lib.hid (on_below HB.out hb)
  replace k0 := keepc hb k0
  replace k1 := keepc hb k1
  replace k2 := keepc hb k2
  replace m0 := keepc hb m0
  replace m1 := keepc hb m1
  replace m2 := keepc hb m2
  replace n0 := keepc hb n0
  replace n1 := keepc hb n1
  replace n2 := keepc hb n2
  replace lk := Nat.lt_of_lt_of_le lk hb.size
  replace lm := Nat.lt_of_lt_of_le lm hb.size
  replace ln := Nat.lt_of_lt_of_le ln hb.size
  clear hb
  generalize w6.heap.size = gz at *
  refine (A1.out _).mono ?_
  rintro e_ w8 ⟨rfl, hb⟩
  replace HB := Lib.hid (on_below HB.out hb)
  replace k0 := keepc hb k0
  replace k1 := keepc hb k1
  replace k2 := keepc hb k2
  replace m0 := keepc hb m0
  replace m1 := keepc hb m1
  replace m2 := keepc hb m2
  replace n0 := keepc hb n0
  replace n1 := keepc hb n1
  replace n2 := keepc hb n2
  replace z0 := keepc hb z0
  replace z1 := keepc hb z1
  replace z2 := keepc hb z2
  replace lk := Nat.lt_of_lt_of_le lk hb.size
  replace lm := Nat.lt_of_lt_of_le lm hb.size
  replace ln := Nat.lt_of_lt_of_le ln hb.size
  replace lz := Nat.lt_of_lt_of_le lz hb.size
  clear hb
  go_wp2_with fail
  have s0 : World.cell? (w8.alloc (.cells #[.int .i64 sx, .int .i64 sy, .int .i64 sz] 23)) ⟨w8.heap.size, 0, none⟩ = some (.int .i64 sx) := by simp [go_sem]
  have s1 : World.cell? (w8.alloc (.cells #[.int .i64 sx, .int .i64 sy, .int .i64 sz] 23)) ⟨w8.heap.size, 1, none⟩ = some (.int .i64 sy) := by simp [go_sem]
  have s2 : World.cell? (w8.alloc (.cells #[.int .i64 sx, .int .i64 sy, .int .i64 sz] 23)) ⟨w8.heap.size, 2, none⟩ = some (.int .i64 sz) := by simp [go_sem]
  have ls : w8.heap.size < (w8.alloc (.cells #[.int .i64 sx, .int .i64 sy, .int .i64 sz] 23)).heap.size := by simp
  have hb : Below w8.heap.size w8 (w8.alloc (.cells #[.int .i64 sx, .int .i64 sy, .int .i64 sz] 23)) := below_new _ _
  generalize w8.alloc (.cells #[.int .i64 sx, .int .i64 sy, .int .i64 sz] 23) = w9 at *
  replace HB := Lib.hid (on_below HB.out hb)
  replace k0 := keepc hb k0
  replace k1 := keepc hb k1
  replace k2 := keepc hb k2
  replace m0 := keepc hb m0
  replace m1 := keepc hb m1
  replace m2 := keepc hb m2
  replace n0 := keepc hb n0
  replace n1 := keepc hb n1
  replace n2 := keepc hb n2
  replace z0 := keepc hb z0
  replace z1 := keepc hb z1
  replace z2 := keepc hb z2
  replace lk := Nat.lt_of_lt_of_le lk hb.size
  replace lm := Nat.lt_of_lt_of_le lm hb.size
  replace ln := Nat.lt_of_lt_of_le ln hb.size
  replace lz := Nat.lt_of_lt_of_le lz hb.size
  clear hb
  generalize w8.heap.size = gs at *
  refine (A2.out _).mono ?_
  rintro e_ w10 ⟨rfl, hb⟩
  replace HB := Lib.hid (on_below HB.out hb)
  replace k0 := keepc hb k0
  replace k1 := keepc hb k1
  replace k2 := keepc hb k2
  replace m0 := keepc hb m0
  replace m1 := keepc hb m1
  replace m2 := keepc hb m2
  replace n0 := keepc hb n0
  replace n1 := keepc hb n1
  replace n2 := keepc hb n2
  replace z0 := keepc hb z0
  replace z1 := keepc hb z1
  replace z2 := keepc hb z2
  replace s0 := keepc hb s0
  replace s1 := keepc hb s1
  replace s2 := keepc hb s2
  replace lk := Nat.lt_of_lt_of_le lk hb.size
  replace lm := Nat.lt_of_lt_of_le lm hb.size
  replace ln := Nat.lt_of_lt_of_le ln hb.size
  replace lz := Nat.lt_of_lt_of_le lz hb.size
  replace ls := Nat.lt_of_lt_of_le ls hb.size
  clear hb
  have e1 : ∀ W, (binOp .neq 23 (.agg #[.int .i64 kx, .int .i64 ky, .int .i64 kz]) (.agg #[.int .i64 kx, .int .i64 ky, .int .i64 kz])).run Try.prog W = .ok (.bool false) W := fun W => vec_ne (r := true) (by simp) W
  have e2 : ∀ W, (binOp .neq 23 (.agg #[.int .i64 sx, .int .i64 sy, .int .i64 sz]) (.agg #[.int .i64 sx, .int .i64 sy, .int .i64 sz])).run Try.prog W = .ok (.bool false) W := fun W => vec_ne (r := true) (by simp) W
  go_wp2_with fail
  have y0 : World.cell? (w10.alloc (.cells #[.int .i64 sx, .int .i64 sy, .int .i64 sz] 23)) ⟨w10.heap.size, 0, none⟩ = some (.int .i64 sx) := by simp [go_sem]
  have y1 : World.cell? (w10.alloc (.cells #[.int .i64 sx, .int .i64 sy, .int .i64 sz] 23)) ⟨w10.heap.size, 1, none⟩ = some (.int .i64 sy) := by simp [go_sem]
  have y2 : World.cell? (w10.alloc (.cells #[.int .i64 sx, .int .i64 sy, .int .i64 sz] 23)) ⟨w10.heap.size, 2, none⟩ = some (.int .i64 sz) := by simp [go_sem]
  have ly : w10.heap.size < (w10.alloc (.cells #[.int .i64 sx, .int .i64 sy, .int .i64 sz] 23)).heap.size := by simp
  have hb : Below w10.heap.size w10 (w10.alloc (.cells #[.int .i64 sx, .int .i64 sy, .int .i64 sz] 23)) := below_new _ _
  generalize w10.alloc (.cells #[.int .i64 sx, .int .i64 sy, .int .i64 sz] 23) = w11 at *
  replace HB := Lib.hid (on_below HB.out hb)
  replace k0 := keepc hb k0
  replace k1 := keepc hb k1
  replace k2 := keepc hb k2
  replace m0 := keepc hb m0
  replace m1 := keepc hb m1
  replace m2 := keepc hb m2
  replace n0 := keepc hb n0
  replace n1 := keepc hb n1
  replace n2 := keepc hb n2
  replace z0 := keepc hb z0
  replace z1 := keepc hb z1
  replace z2 := keepc hb z2
  replace s0 := keepc hb s0
  replace s1 := keepc hb s1
  replace s2 := keepc hb s2
  replace lk := Nat.lt_of_lt_of_le lk hb.size
  replace lm := Nat.lt_of_lt_of_le lm hb.size
  replace ln := Nat.lt_of_lt_of_le ln hb.size
  replace lz := Nat.lt_of_lt_of_le lz hb.size
  replace ls := Nat.lt_of_lt_of_le ls hb.size
  clear hb
  generalize w10.heap.size = gy at *
  clear z0 z1 z2 lz y0 y1 y2 ly
  refine (A3.out _).mono ?_
  rintro e_ w12 ⟨rfl, hb⟩
  replace HB := Lib.hid (on_below HB.out hb)
  replace k0 := keepc hb k0
  replace k1 := keepc hb k1
  replace k2 := keepc hb k2
  replace m0 := keepc hb m0
  replace m1 := keepc hb m1
  replace m2 := keepc hb m2
  replace n0 := keepc hb n0
  replace n1 := keepc hb n1
  replace n2 := keepc hb n2
  replace s0 := keepc hb s0
  replace s1 := keepc hb s1
  replace s2 := keepc hb s2
  replace lk := Nat.lt_of_lt_of_le lk hb.size
  replace lm := Nat.lt_of_lt_of_le lm hb.size
  replace ln := Nat.lt_of_lt_of_le ln hb.size
  replace ls := Nat.lt_of_lt_of_le ls hb.size
  clear hb
  go_wp2_with fail
  have b0 : World.cell? (w12.alloc (.cells #[.int .i64 kx, .int .i64 ky, .int .i64 kz] 23)) ⟨w12.heap.size, 0, none⟩ = some (.int .i64 kx) := by simp [go_sem]
  have b1 : World.cell? (w12.alloc (.cells #[.int .i64 kx, .int .i64 ky, .int .i64 kz] 23)) ⟨w12.heap.size, 1, none⟩ = some (.int .i64 ky) := by simp [go_sem]
  have b2 : World.cell? (w12.alloc (.cells #[.int .i64 kx, .int .i64 ky, .int .i64 kz] 23)) ⟨w12.heap.size, 2, none⟩ = some (.int .i64 kz) := by simp [go_sem]
  have lb : w12.heap.size < (w12.alloc (.cells #[.int .i64 kx, .int .i64 ky, .int .i64 kz] 23)).heap.size := by simp
  have hb : Below w12.heap.size w12 (w12.alloc (.cells #[.int .i64 kx, .int .i64 ky, .int .i64 kz] 23)) := below_new _ _
  generalize w12.alloc (.cells #[.int .i64 kx, .int .i64 ky, .int .i64 kz] 23) = w13 at *
  replace HB := Lib.hid (on_below HB.out hb)
  replace k0 := keepc hb k0
  replace k1 := keepc hb k1
  replace k2 := keepc hb k2
  replace m0 := keepc hb m0
  replace m1 := keepc hb m1
  replace m2 := keepc hb m2
  replace n0 := keepc hb n0
  replace n1 := keepc hb n1
  replace n2 := keepc hb n2
  replace s0 := keepc hb s0
  replace s1 := keepc hb s1
  replace s2 := keepc hb s2
  replace lk := Nat.lt_of_lt_of_le lk hb.size
  replace lm := Nat.lt_of_lt_of_le lm hb.size
  replace ln := Nat.lt_of_lt_of_le ln hb.size
  replace ls := Nat.lt_of_lt_of_le ls hb.size
  clear hb
  generalize w12.heap.size = gb at *
  refine (A4.out _).mono ?_
  rintro e_ w14 ⟨rfl, hb⟩
  replace HB := Lib.hid (on_below HB.out hb)
  replace k0 := keepc hb k0
  replace k1 := keepc hb k1
  replace k2 := keepc hb k2
  replace m0 := keepc hb m0
  replace m1 := keepc hb m1
  replace m2 := keepc hb m2
  replace n0 := keepc hb n0
  replace n1 := keepc hb n1
  replace n2 := keepc hb n2
  replace s0 := keepc hb s0
  replace s1 := keepc hb s1
  replace s2 := keepc hb s2
  replace b0 := keepc hb b0
  replace b1 := keepc hb b1
  replace b2 := keepc hb b2
  replace lk := Nat.lt_of_lt_of_le lk hb.size
  replace lm := Nat.lt_of_lt_of_le lm hb.size
  replace ln := Nat.lt_of_lt_of_le ln hb.size
  replace ls := Nat.lt_of_lt_of_le ls hb.size
  replace lb := Nat.lt_of_lt_of_le lb hb.size
  clear hb
  go_wp2_with fail
  have r0 : World.cell? (w14.alloc (.cells #[.int .i64 rx, .int .i64 ry, .int .i64 rz] 23)) ⟨w14.heap.size, 0, none⟩ = some (.int .i64 rx) := by simp [go_sem]
  have r1 : World.cell? (w14.alloc (.cells #[.int .i64 rx, .int .i64 ry, .int .i64 rz] 23)) ⟨w14.heap.size, 1, none⟩ = some (.int .i64 ry) := by simp [go_sem]
  have r2 : World.cell? (w14.alloc (.cells #[.int .i64 rx, .int .i64 ry, .int .i64 rz] 23)) ⟨w14.heap.size, 2, none⟩ = some (.int .i64 rz) := by simp [go_sem]
  have lr : w14.heap.size < (w14.alloc (.cells #[.int .i64 rx, .int .i64 ry, .int .i64 rz] 23)).heap.size := by simp
  have hb : Below w14.heap.size w14 (w14.alloc (.cells #[.int .i64 rx, .int .i64 ry, .int .i64 rz] 23)) := below_new _ _
  generalize w14.alloc (.cells #[.int .i64 rx, .int .i64 ry, .int .i64 rz] 23) = w15 at *
  replace HB := Lib.hid (on_below HB.out hb)
  replace k0 := keepc hb k0
  replace k1 := keepc hb k1
  replace k2 := keepc hb k2
  replace m0 := keepc hb m0
  replace m1 := keepc hb m1
  replace m2 := keepc hb m2
  replace n0 := keepc hb n0
  replace n1 := keepc hb n1
  replace n2 := keepc hb n2
  replace s0 := keepc hb s0
  replace s1 := keepc hb s1
  replace s2 := keepc hb s2
  replace b0 := keepc hb b0
  replace b1 := keepc hb b1
  replace b2 := keepc hb b2
  replace lk := Nat.lt_of_lt_of_le lk hb.size
  replace lm := Nat.lt_of_lt_of_le lm hb.size
  replace ln := Nat.lt_of_lt_of_le ln hb.size
  replace ls := Nat.lt_of_lt_of_le ls hb.size
  replace lb := Nat.lt_of_lt_of_le lb hb.size
  clear hb
  generalize w14.heap.size = gr at *
  refine (A5.out _).mono ?_
  rintro e_ w16 ⟨rfl, hb⟩
  replace HB := Lib.hid (on_below HB.out hb)
  replace k0 := keepc hb k0
  replace k1 := keepc hb k1
  replace k2 := keepc hb k2
  replace m0 := keepc hb m0
  replace m1 := keepc hb m1
  replace m2 := keepc hb m2
  replace n0 := keepc hb n0
  replace n1 := keepc hb n1
  replace n2 := keepc hb n2
  replace s0 := keepc hb s0
  replace s1 := keepc hb s1
  replace s2 := keepc hb s2
  replace b0 := keepc hb b0
  replace b1 := keepc hb b1
  replace b2 := keepc hb b2
  replace r0 := keepc hb r0
  replace r1 := keepc hb r1
  replace r2 := keepc hb r2
  replace lk := Nat.lt_of_lt_of_le lk hb.size
  replace lm := Nat.lt_of_lt_of_le lm hb.size
  replace ln := Nat.lt_of_lt_of_le ln hb.size
  replace ls := Nat.lt_of_lt_of_le ls hb.size
  replace lb := Nat.lt_of_lt_of_le lb hb.size
  replace lr := Nat.lt_of_lt_of_le lr hb.size
  clear hb
  go_wp2_with fail
  have u0 : World.cell? (w16.alloc (.cells #[.int .i64 ux, .int .i64 uy, .int .i64 uz] 23)) ⟨w16.heap.size, 0, none⟩ = some (.int .i64 ux) := by simp [go_sem]
  have u1 : World.cell? (w16.alloc (.cells #[.int .i64 ux, .int .i64 uy, .int .i64 uz] 23)) ⟨w16.heap.size, 1, none⟩ = some (.int .i64 uy) := by simp [go_sem]
  have u2 : World.cell? (w16.alloc (.cells #[.int .i64 ux, .int .i64 uy, .int .i64 uz] 23)) ⟨w16.heap.size, 2, none⟩ = some (.int .i64 uz) := by simp [go_sem]
  have lu : w16.heap.size < (w16.alloc (.cells #[.int .i64 ux, .int .i64 uy, .int .i64 uz] 23)).heap.size := by simp
  have hb : Below w16.heap.size w16 (w16.alloc (.cells #[.int .i64 ux, .int .i64 uy, .int .i64 uz] 23)) := below_new _ _
  generalize w16.alloc (.cells #[.int .i64 ux, .int .i64 uy, .int .i64 uz] 23) = w17 at *
  replace HB := Lib.hid (on_below HB.out hb)
  replace k0 := keepc hb k0
  replace k1 := keepc hb k1
  replace k2 := keepc hb k2
  replace m0 := keepc hb m0
  replace m1 := keepc hb m1
  replace m2 := keepc hb m2
  replace n0 := keepc hb n0
  replace n1 := keepc hb n1
  replace n2 := keepc hb n2
  replace s0 := keepc hb s0
  replace s1 := keepc hb s1
  replace s2 := keepc hb s2
  replace b0 := keepc hb b0
  replace b1 := keepc hb b1
  replace b2 := keepc hb b2
  replace r0 := keepc hb r0
  replace r1 := keepc hb r1
  replace r2 := keepc hb r2
  replace lk := Nat.lt_of_lt_of_le lk hb.size
  replace lm := Nat.lt_of_lt_of_le lm hb.size
  replace ln := Nat.lt_of_lt_of_le ln hb.size
  replace ls := Nat.lt_of_lt_of_le ls hb.size
  replace lb := Nat.lt_of_lt_of_le lb hb.size
  replace lr := Nat.lt_of_lt_of_le lr hb.size
  clear hb
  generalize w16.heap.size = gu at *
  refine (A6.out _).mono ?_
  rintro e_ w18 ⟨rfl, hb⟩
  replace HB := Lib.hid (on_below HB.out hb)
  replace k0 := keepc hb k0
  replace k1 := keepc hb k1
  replace k2 := keepc hb k2
  replace m0 := keepc hb m0
  replace m1 := keepc hb m1
  replace m2 := keepc hb m2
  replace n0 := keepc hb n0
  replace n1 := keepc hb n1
  replace n2 := keepc hb n2
  replace s0 := keepc hb s0
  replace s1 := keepc hb s1
  replace s2 := keepc hb s2
  replace b0 := keepc hb b0
  replace b1 := keepc hb b1
  replace b2 := keepc hb b2
  replace r0 := keepc hb r0
  replace r1 := keepc hb r1
  replace r2 := keepc hb r2
  replace u0 := keepc hb u0
  replace u1 := keepc hb u1
  replace u2 := keepc hb u2
  replace lk := Nat.lt_of_lt_of_le lk hb.size
  replace lm := Nat.lt_of_lt_of_le lm hb.size
  replace ln := Nat.lt_of_lt_of_le ln hb.size
  replace ls := Nat.lt_of_lt_of_le ls hb.size
  replace lb := Nat.lt_of_lt_of_le lb hb.size
  replace lr := Nat.lt_of_lt_of_le lr hb.size
  replace lu := Nat.lt_of_lt_of_le lu hb.size
  clear hb
  have e3 : ∀ W, (binOp .eql 23 (.agg #[.int .i64 kx, .int .i64 ky, .int .i64 kz]) (.agg #[.int .i64 kx, .int .i64 ky, .int .i64 kz])).run Try.prog W = .ok (.bool true) W := fun W => vec_eq (r := true) (by simp) W
  clear A1 A2 A3 A4 A5 A6 HZ H0 H1 H2
  rcases FIN.out with h | ⟨rfl, h⟩ | ⟨rfl, rfl, h⟩ | ⟨rfl, rfl, rfl, h⟩
  · skip
    have q1 : (E != 0) = true := bne_iff_ne.2 h
    clear FIN
    go_wp2_with fail
    go_ret
    exact ⟨rfl, on_below HB.out (below_new _ _)⟩
  · skip
    have q1 : (F != 0) = true := bne_iff_ne.2 h
    clear FIN
    go_wp2_with fail
    go_ret
    exact ⟨rfl, on_below HB.out (below_new _ _)⟩
  · skip
    have q1 : (G != 0) = true := bne_iff_ne.2 h
    clear FIN
    go_wp2_with fail
    go_ret
    exact ⟨rfl, on_below HB.out (below_new _ _)⟩
  · skip
    subst h
    have d2 := D1.out
    clear FIN
    go_wp2_with fail
    go_ret
    exact ⟨rfl, on_below HB.out (below_new _ _)⟩
theorem law_any (kx : Int) (ikx : I64 kx) (ky : Int) (iky : I64 ky) (kz : Int) (ikz : I64 kz) (mx : Int) (imx : I64 mx) (my : Int) (imy : I64 my) (mz : Int) (imz : I64 mz) (nx : Int) (inx : I64 nx) (ny : Int) (iny : I64 ny) (nz : Int) (inz : I64 nz) (w : World) :
    Calls Try.prog 4 #[.agg #[.int .i64 kx, .int .i64 ky, .int .i64 kz], .agg #[.int .i64 mx, .int .i64 my, .int .i64 mz], .agg #[.int .i64 nx, .int .i64 ny, .int .i64 nz]] w fun e_ w' => e_ = .returned (.bool true) ∧ Below w.heap.size w w' := by
  cases h0 : vv kx ky kz
  · exact law_1 kx ky kz mx my mz nx ny nz h0 w
  cases h1 : vv mx my mz
  · exact law_2 kx ky kz mx my mz nx ny nz h0 h1 w
  cases h2 : vv nx ny nz
  · exact law_3 kx ky kz mx my mz nx ny nz h0 h1 h2 w
  have hz : sE (vv kx ky kz) (vv 0 0 0) (vv (kx + 0) (ky + 0) (kz + 0)) = 0 := by rw [Int.add_zero, Int.add_zero, Int.add_zero, h0]; rfl
  cases hs : vv (kx + mx) (ky + my) (kz + mz)
  · exact law_4 kx ky kz mx my mz nx ny nz h0 h1 h2 hz (by rw [h0, h1, hs]; rfl) (by rw [h0, h1, Int.add_comm mx, Int.add_comm my, Int.add_comm mz, hs]; rfl) w
  refine law_5 kx ky kz mx my mz nx ny nz h0 h1 h2 hz _ _ _ _ _ _ _ _ _ _ _ _ _ _ _ rfl rfl rfl hs rfl rfl rfl rfl rfl rfl rfl rfl rfl rfl rfl rfl _ rfl ?_ w
  generalize sE (vv mx my mz) (vv nx ny nz) (vv (mx + nx) (my + ny) (mz + nz)) = E
  generalize sE (vv (kx + mx) (ky + my) (kz + mz)) (vv nx ny nz) (vv (kx + mx + nx) (ky + my + ny) (kz + mz + nz)) = F
  by_cases e1 : E = 0
  · by_cases e2 : F = 0
    · subst e1 e2
      right; right
      simp only [kp, if_true]
      generalize hG : sE (vv kx ky kz) (vv (mx + nx) (my + ny) (mz + nz)) (vv (kx + (mx + nx)) (ky + (my + ny)) (kz + (mz + nz))) = G
      by_cases e3 : G = 0
      · subst e3
        right
        refine ⟨by first | rfl | trivial, by first | rfl | trivial, by first | rfl | trivial, ?_⟩
        simp only [decide_eq_true_eq, if_true]
        exact ⟨by omega, by omega, by omega⟩
      · exact Or.inl ⟨by first | rfl | trivial, by first | rfl | trivial, e3⟩
    · exact Or.inr (Or.inl ⟨e1, e2⟩)
  · exact Or.inl e1

/-! ### The row -/
open Go.ChangeShapes Go.WideShapes Go.ChangeAt Go.Joins
theorem own : ownKnob Try.prog.godebug = none := by kernel_rfl
noncomputable def laidWorld (os : Os) : World := World.holding Try.prog os ⟨#[], #[], []⟩
theorem laidWorld_met (os : Os) (args : Array Value) : laidMet Try.prog [] ((laidWorld os).forCall (fun _ _ => 0) ⟨#[], args, []⟩).memory :=
  laidMet_of_run' 8 (by kernel_rfl) (by kernel_rfl)

set_option maxRecDepth 100000 in
theorem contract (H : Type) (enc : TypeId × Value → H) (W : World) (base : Nat) (args : Array Value) (ds gs : List (DataW H)) (before : List MemPlace)
    (hval : ∀ (j : Nat) t v, Try.f4.params[j]? = some t → args[j]? = some v → Value.okWide Try.prog W .any base t v)
    (hW : DataW.Whole enc Try.prog Try.f4.params.toList Rows.vectorSumsSpec.vars false W args.toList ds gs before) :
    Calls Try.prog 4 args W fun e W' => ∃ v, e = .returned v ∧ Rows.vectorSumsSpec.post enc Try.prog Try.f4 false true false false W args v W' := by
  have hW' := hW
  obtain ⟨p, q, hA0, hV, rfl, hfz, hnd⟩ := hW
  have hA : DataW.TrodAll enc Try.prog W 0 (fun _ => true) true Try.f4.params.toList args.toList ds p := hA0
  rw [Try.params4] at hA hval
  obtain ⟨v0, vs0, d0, ds0, p0, q0, hargs, rfl, rfl, h0, r0⟩ := trodAll_cons hA
  obtain ⟨v1, vs1, d1, ds1, p1, q1, rfl, rfl, rfl, h1, r1⟩ := trodAll_cons r0
  obtain ⟨v2, vs2, d2, ds2, p2, q2, rfl, rfl, rfl, h2, r2⟩ := trodAll_cons r1
  obtain ⟨rfl, rfl, rfl⟩ := trodAll_nil r2
  obtain rfl : args = #[v0, v1, v2] := Array.toList_inj.1 hargs
  obtain ⟨rfl, rfl⟩ := trodVars_none hV
  obtain ⟨kx, ky, kz, rfl, rfl, rfl, ikx, iky, ikz⟩ := open_vec (hval 0 23 v0 rfl rfl) h0
  obtain ⟨mx, my, mz, rfl, rfl, rfl, imx, imy, imz⟩ := open_vec (hval 1 23 v1 rfl rfl) h1
  obtain ⟨nx, ny, nz, rfl, rfl, rfl, inx, iny, inz⟩ := open_vec (hval 2 23 v2 rfl rfl) h2
  clear hA0
  refine (law_any kx (wf_i ikx) ky (wf_i iky) kz (wf_i ikz) mx (wf_i imx) my (wf_i imy) mz (wf_i imz) nx (wf_i inx) ny (wf_i iny) nz (wf_i inz) W).mono fun e W' ⟨he, bel⟩ => ?_
  subst he
  exact ⟨_, rfl, _, _, _, [], _, [], hW', trodAll_mk1 (shut_bool Try.underlying4 _), (trodAll_cons_mk (shut_vec ikx iky ikz) (trodAll_cons_mk (shut_vec imx imy imz) (trodAll_cons_mk (shut_vec inx iny inz) trodAll_mk0))), rfl, bel.frame _, fun h => by cases h⟩

theorem reads (os : Os) {H : Type} (enc : TypeId × Value → H) : ∃ places, DataW.whole enc Try.prog ((laidWorld os).forCall (fun _ _ => 0) ⟨#[], #[.agg #[.int .i64 0, .int .i64 0, .int .i64 0], .agg #[.int .i64 0, .int .i64 0, .int .i64 0], .agg #[.int .i64 0, .int .i64 0, .int .i64 0]], []⟩).memory Try.f4.params.toList Rows.vectorSumsSpec.vars false (#[.agg #[.int .i64 0, .int .i64 0, .int .i64 0], .agg #[.int .i64 0, .int .i64 0, .int .i64 0], .agg #[.int .i64 0, .int .i64 0, .int .i64 0]] : Array Value).toList 8 = some ([.agg [.lit (.int .i64 0), .lit (.int .i64 0), .lit (.int .i64 0)], .agg [.lit (.int .i64 0), .lit (.int .i64 0), .lit (.int .i64 0)], .agg [.lit (.int .i64 0), .lit (.int .i64 0), .lit (.int .i64 0)]], [], places) :=
  ⟨[], by kernel_rfl⟩

set_option maxRecDepth 100000 in
theorem lifted (os : Os) (started : os.Started) (H : Type) (enc : TypeId × Value → H) (F : Stop.Interp) :
    ReturnsInHanded {} Try.checked os 4 .any ((OpenSpec.ofChange Rows.vectorSumsSpec).preRow enc Try.prog Try.f4 Rows.vectorSumsRow.domain false Rows.vectorSumsRow.laid) (((OpenSpec.ofChange Rows.vectorSumsSpec).at F).post enc Try.prog Try.f4 false true false false) := by
  obtain ⟨places, hx⟩ := reads os enc
  refine returnsInHanded_of_row (C := Try.checked) (s := OpenSpec.ofChange Rows.vectorSumsSpec) own started (by kernel_rfl) Try.func4
    (witness_row_atRef (enc := enc) (C := Try.checked) false (laidWorld os) #[.agg #[.int .i64 0, .int .i64 0, .int .i64 0], .agg #[.int .i64 0, .int .i64 0, .int .i64 0], .agg #[.int .i64 0, .int .i64 0, .int .i64 0]] rfl (by kernel_rfl) (by kernel_rfl) (by kernel_rfl)
      (OpenSpec.preRow_of_cond 8 hx (by kernel_rfl) (fun k hk => by cases hk) (by kernel_rfl) (laidWorld_met os _))) ?_
  intro W base args ds gs before hval hW _ hcond _ hL hsh _
  exact contract H enc W base args ds gs before hval hW

/-- The statement. -/
theorem said : Rows.VectorSumsSaid :=
  OpenClaim.holds_of_cond 4 Try.f4 rfl rfl rfl rfl rfl rfl rfl ⟨rfl, rfl, rfl, rfl, rfl⟩ rfl rfl rfl rfl rfl (by kernel_rfl) Try.func4 (by kernel_rfl)
    (of_decide_eq_true (by kernel_rfl)) (by unfold Func.isWrapper; first | (rw [if_pos (by decide +kernel)]; kernel_rfl) | (rw [if_neg (by decide +kernel)]; exact ⟨rfl, rfl⟩))
    (fun os started H enc _ F => by rw [OpenClaim.pre_eq_preRow]; exact lifted os started H enc F)
end Go.Proofs.Ytdkofonneebciaa.vectorSums
