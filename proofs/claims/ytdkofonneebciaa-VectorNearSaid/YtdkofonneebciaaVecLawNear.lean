/-
  VectorNear: Near is symmetric, does not depend on lengths, holds for smaller shares; for 0 and for 1.
-/
import Derived.Test.YtdkofonneebciaaVecNear0
import Derived.Test.YtdkofonneebciaaVecNear1
import Derived.Test.YtdkofonneebciaaVecNear2
import Derived.Test.YtdkofonneebciaaVecI
import Derived.Test.YtdkofonneebciaaVecJ
import Derived.Test.YtdkofonneebciaaRows
import Derived.ProofKit
import Derived.OpenShut
import Derived.Deep.DeepHandedRow
import Derived.Deep.DeepWitnessRowRef
import Derived.MakeChecks
import Derived.Deep.DeepCutAuto
namespace Go.Proofs.Ytdkofonneebciaa.vectorNear
open Go.RowKit Go.Sort
open Go.RowKit (Below)
set_option linter.unusedVariables false
set_option linter.unusedSimpArgs false

set_option maxRecDepth 100000 in
set_option maxHeartbeats 2000000 in
theorem law_1 (kx ky kz mx my mz rn rd sn sd e f : Int) (irn : I64 rn) (ird : I64 rd) (isn : I64 sn) (isd : I64 sd) (h0 : vv kx ky kz = false) (w : World) :
    Calls Try.prog 8 #[.agg #[.int .i64 kx, .int .i64 ky, .int .i64 kz], .agg #[.int .i64 mx, .int .i64 my, .int .i64 mz], .agg #[.int .i64 rn, .int .i64 rd], .agg #[.int .i64 sn, .int .i64 sd], .int .i64 e, .int .i64 f] w fun e_ w' => e_ = .returned (.bool true) ∧ Below w.heap.size w w' := by
  have H0 := Lib.hid h0
  clear h0
  have k0 : World.cell? ((((w.alloc (.cells #[.int .i64 kx, .int .i64 ky, .int .i64 kz] 23)).alloc (.cells #[.int .i64 mx, .int .i64 my, .int .i64 mz] 23)).alloc (.cells #[.int .i64 rn, .int .i64 rd] 27)).alloc (.cells #[.int .i64 sn, .int .i64 sd] 27)) ⟨w.heap.size, 0, none⟩ = some (.int .i64 kx) := by simp [go_sem]
  have k1 : World.cell? ((((w.alloc (.cells #[.int .i64 kx, .int .i64 ky, .int .i64 kz] 23)).alloc (.cells #[.int .i64 mx, .int .i64 my, .int .i64 mz] 23)).alloc (.cells #[.int .i64 rn, .int .i64 rd] 27)).alloc (.cells #[.int .i64 sn, .int .i64 sd] 27)) ⟨w.heap.size, 1, none⟩ = some (.int .i64 ky) := by simp [go_sem]
  have k2 : World.cell? ((((w.alloc (.cells #[.int .i64 kx, .int .i64 ky, .int .i64 kz] 23)).alloc (.cells #[.int .i64 mx, .int .i64 my, .int .i64 mz] 23)).alloc (.cells #[.int .i64 rn, .int .i64 rd] 27)).alloc (.cells #[.int .i64 sn, .int .i64 sd] 27)) ⟨w.heap.size, 2, none⟩ = some (.int .i64 kz) := by simp [go_sem]
  have lk : w.heap.size < ((((w.alloc (.cells #[.int .i64 kx, .int .i64 ky, .int .i64 kz] 23)).alloc (.cells #[.int .i64 mx, .int .i64 my, .int .i64 mz] 23)).alloc (.cells #[.int .i64 rn, .int .i64 rd] 27)).alloc (.cells #[.int .i64 sn, .int .i64 sd] 27)).heap.size := by simp <;> omega
  have m0 : World.cell? ((((w.alloc (.cells #[.int .i64 kx, .int .i64 ky, .int .i64 kz] 23)).alloc (.cells #[.int .i64 mx, .int .i64 my, .int .i64 mz] 23)).alloc (.cells #[.int .i64 rn, .int .i64 rd] 27)).alloc (.cells #[.int .i64 sn, .int .i64 sd] 27)) ⟨w.heap.size + 1, 0, none⟩ = some (.int .i64 mx) := by simp [go_sem]
  have m1 : World.cell? ((((w.alloc (.cells #[.int .i64 kx, .int .i64 ky, .int .i64 kz] 23)).alloc (.cells #[.int .i64 mx, .int .i64 my, .int .i64 mz] 23)).alloc (.cells #[.int .i64 rn, .int .i64 rd] 27)).alloc (.cells #[.int .i64 sn, .int .i64 sd] 27)) ⟨w.heap.size + 1, 1, none⟩ = some (.int .i64 my) := by simp [go_sem]
  have m2 : World.cell? ((((w.alloc (.cells #[.int .i64 kx, .int .i64 ky, .int .i64 kz] 23)).alloc (.cells #[.int .i64 mx, .int .i64 my, .int .i64 mz] 23)).alloc (.cells #[.int .i64 rn, .int .i64 rd] 27)).alloc (.cells #[.int .i64 sn, .int .i64 sd] 27)) ⟨w.heap.size + 1, 2, none⟩ = some (.int .i64 mz) := by simp [go_sem]
  have lm : w.heap.size + 1 < ((((w.alloc (.cells #[.int .i64 kx, .int .i64 ky, .int .i64 kz] 23)).alloc (.cells #[.int .i64 mx, .int .i64 my, .int .i64 mz] 23)).alloc (.cells #[.int .i64 rn, .int .i64 rd] 27)).alloc (.cells #[.int .i64 sn, .int .i64 sd] 27)).heap.size := by simp <;> omega
  have r0 : World.cell? ((((w.alloc (.cells #[.int .i64 kx, .int .i64 ky, .int .i64 kz] 23)).alloc (.cells #[.int .i64 mx, .int .i64 my, .int .i64 mz] 23)).alloc (.cells #[.int .i64 rn, .int .i64 rd] 27)).alloc (.cells #[.int .i64 sn, .int .i64 sd] 27)) ⟨w.heap.size + 1 + 1, 0, none⟩ = some (.int .i64 rn) := by simp [go_sem]
  have r1 : World.cell? ((((w.alloc (.cells #[.int .i64 kx, .int .i64 ky, .int .i64 kz] 23)).alloc (.cells #[.int .i64 mx, .int .i64 my, .int .i64 mz] 23)).alloc (.cells #[.int .i64 rn, .int .i64 rd] 27)).alloc (.cells #[.int .i64 sn, .int .i64 sd] 27)) ⟨w.heap.size + 1 + 1, 1, none⟩ = some (.int .i64 rd) := by simp [go_sem]
  have lr : w.heap.size + 1 + 1 < ((((w.alloc (.cells #[.int .i64 kx, .int .i64 ky, .int .i64 kz] 23)).alloc (.cells #[.int .i64 mx, .int .i64 my, .int .i64 mz] 23)).alloc (.cells #[.int .i64 rn, .int .i64 rd] 27)).alloc (.cells #[.int .i64 sn, .int .i64 sd] 27)).heap.size := by simp <;> omega
  have s0 : World.cell? ((((w.alloc (.cells #[.int .i64 kx, .int .i64 ky, .int .i64 kz] 23)).alloc (.cells #[.int .i64 mx, .int .i64 my, .int .i64 mz] 23)).alloc (.cells #[.int .i64 rn, .int .i64 rd] 27)).alloc (.cells #[.int .i64 sn, .int .i64 sd] 27)) ⟨w.heap.size + 1 + 1 + 1, 0, none⟩ = some (.int .i64 sn) := by simp [go_sem]
  have s1 : World.cell? ((((w.alloc (.cells #[.int .i64 kx, .int .i64 ky, .int .i64 kz] 23)).alloc (.cells #[.int .i64 mx, .int .i64 my, .int .i64 mz] 23)).alloc (.cells #[.int .i64 rn, .int .i64 rd] 27)).alloc (.cells #[.int .i64 sn, .int .i64 sd] 27)) ⟨w.heap.size + 1 + 1 + 1, 1, none⟩ = some (.int .i64 sd) := by simp [go_sem]
  have ls : w.heap.size + 1 + 1 + 1 < ((((w.alloc (.cells #[.int .i64 kx, .int .i64 ky, .int .i64 kz] 23)).alloc (.cells #[.int .i64 mx, .int .i64 my, .int .i64 mz] 23)).alloc (.cells #[.int .i64 rn, .int .i64 rd] 27)).alloc (.cells #[.int .i64 sn, .int .i64 sd] 27)).heap.size := by simp <;> omega
  have HB := Lib.hid (show Below w.heap.size w ((((w.alloc (.cells #[.int .i64 kx, .int .i64 ky, .int .i64 kz] 23)).alloc (.cells #[.int .i64 mx, .int .i64 my, .int .i64 mz] 23)).alloc (.cells #[.int .i64 rn, .int .i64 rd] 27)).alloc (.cells #[.int .i64 sn, .int .i64 sd] 27)) from (((((Below.refl _ _).alloc (by simp <;> omega) _).alloc (by simp <;> omega) _).alloc (by simp <;> omega) _).alloc (by simp <;> omega) _))
  go_enter Try.func8, Try.ntmps8
  go_wp2_with fail
  generalize (((w.alloc (.cells #[.int .i64 kx, .int .i64 ky, .int .i64 kz] 23)).alloc (.cells #[.int .i64 mx, .int .i64 my, .int .i64 mz] 23)).alloc (.cells #[.int .i64 rn, .int .i64 rd] 27)).alloc (.cells #[.int .i64 sn, .int .i64 sd] 27) = w1 at *
  with_reducible refine (head_any _).mono ?_
  rintro e_ w2 ⟨rfl, hb⟩
  replace HB := Lib.hid (on_below HB.out hb)
  replace k0 := keepc hb k0
  replace k1 := keepc hb k1
  replace k2 := keepc hb k2
  replace m0 := keepc hb m0
  replace m1 := keepc hb m1
  replace m2 := keepc hb m2
  replace r0 := keepc hb r0
  replace r1 := keepc hb r1
  replace s0 := keepc hb s0
  replace s1 := keepc hb s1
  replace lk := Nat.lt_of_lt_of_le lk hb.size
  replace lm := Nat.lt_of_lt_of_le lm hb.size
  replace lr := Nat.lt_of_lt_of_le lr hb.size
  replace ls := Nat.lt_of_lt_of_le ls hb.size
  clear hb
  go_wp2_with fail
  with_reducible refine (valid_is kx ky kz false H0.out _).mono ?_
  rintro e_ w3 ⟨rfl, hb⟩
  replace HB := Lib.hid (on_below HB.out hb)
  replace k0 := keepc hb k0
  replace k1 := keepc hb k1
  replace k2 := keepc hb k2
  replace m0 := keepc hb m0
  replace m1 := keepc hb m1
  replace m2 := keepc hb m2
  replace r0 := keepc hb r0
  replace r1 := keepc hb r1
  replace s0 := keepc hb s0
  replace s1 := keepc hb s1
  replace lk := Nat.lt_of_lt_of_le lk hb.size
  replace lm := Nat.lt_of_lt_of_le lm hb.size
  replace lr := Nat.lt_of_lt_of_le lr hb.size
  replace ls := Nat.lt_of_lt_of_le ls hb.size
  clear hb
  go_wp2_with fail
  go_ret
  exact ⟨rfl, HB.out⟩
set_option maxRecDepth 100000 in
set_option maxHeartbeats 2000000 in
theorem law_2 (kx ky kz mx my mz rn rd sn sd e f : Int) (irn : I64 rn) (ird : I64 rd) (isn : I64 sn) (isd : I64 sd) (h0 : vv kx ky kz = true) (h1 : vv mx my mz = false) (w : World) :
    Calls Try.prog 8 #[.agg #[.int .i64 kx, .int .i64 ky, .int .i64 kz], .agg #[.int .i64 mx, .int .i64 my, .int .i64 mz], .agg #[.int .i64 rn, .int .i64 rd], .agg #[.int .i64 sn, .int .i64 sd], .int .i64 e, .int .i64 f] w fun e_ w' => e_ = .returned (.bool true) ∧ Below w.heap.size w w' := by
  have H0 := Lib.hid h0
  clear h0
  have H1 := Lib.hid h1
  clear h1
  have k0 : World.cell? ((((w.alloc (.cells #[.int .i64 kx, .int .i64 ky, .int .i64 kz] 23)).alloc (.cells #[.int .i64 mx, .int .i64 my, .int .i64 mz] 23)).alloc (.cells #[.int .i64 rn, .int .i64 rd] 27)).alloc (.cells #[.int .i64 sn, .int .i64 sd] 27)) ⟨w.heap.size, 0, none⟩ = some (.int .i64 kx) := by simp [go_sem]
  have k1 : World.cell? ((((w.alloc (.cells #[.int .i64 kx, .int .i64 ky, .int .i64 kz] 23)).alloc (.cells #[.int .i64 mx, .int .i64 my, .int .i64 mz] 23)).alloc (.cells #[.int .i64 rn, .int .i64 rd] 27)).alloc (.cells #[.int .i64 sn, .int .i64 sd] 27)) ⟨w.heap.size, 1, none⟩ = some (.int .i64 ky) := by simp [go_sem]
  have k2 : World.cell? ((((w.alloc (.cells #[.int .i64 kx, .int .i64 ky, .int .i64 kz] 23)).alloc (.cells #[.int .i64 mx, .int .i64 my, .int .i64 mz] 23)).alloc (.cells #[.int .i64 rn, .int .i64 rd] 27)).alloc (.cells #[.int .i64 sn, .int .i64 sd] 27)) ⟨w.heap.size, 2, none⟩ = some (.int .i64 kz) := by simp [go_sem]
  have lk : w.heap.size < ((((w.alloc (.cells #[.int .i64 kx, .int .i64 ky, .int .i64 kz] 23)).alloc (.cells #[.int .i64 mx, .int .i64 my, .int .i64 mz] 23)).alloc (.cells #[.int .i64 rn, .int .i64 rd] 27)).alloc (.cells #[.int .i64 sn, .int .i64 sd] 27)).heap.size := by simp <;> omega
  have m0 : World.cell? ((((w.alloc (.cells #[.int .i64 kx, .int .i64 ky, .int .i64 kz] 23)).alloc (.cells #[.int .i64 mx, .int .i64 my, .int .i64 mz] 23)).alloc (.cells #[.int .i64 rn, .int .i64 rd] 27)).alloc (.cells #[.int .i64 sn, .int .i64 sd] 27)) ⟨w.heap.size + 1, 0, none⟩ = some (.int .i64 mx) := by simp [go_sem]
  have m1 : World.cell? ((((w.alloc (.cells #[.int .i64 kx, .int .i64 ky, .int .i64 kz] 23)).alloc (.cells #[.int .i64 mx, .int .i64 my, .int .i64 mz] 23)).alloc (.cells #[.int .i64 rn, .int .i64 rd] 27)).alloc (.cells #[.int .i64 sn, .int .i64 sd] 27)) ⟨w.heap.size + 1, 1, none⟩ = some (.int .i64 my) := by simp [go_sem]
  have m2 : World.cell? ((((w.alloc (.cells #[.int .i64 kx, .int .i64 ky, .int .i64 kz] 23)).alloc (.cells #[.int .i64 mx, .int .i64 my, .int .i64 mz] 23)).alloc (.cells #[.int .i64 rn, .int .i64 rd] 27)).alloc (.cells #[.int .i64 sn, .int .i64 sd] 27)) ⟨w.heap.size + 1, 2, none⟩ = some (.int .i64 mz) := by simp [go_sem]
  have lm : w.heap.size + 1 < ((((w.alloc (.cells #[.int .i64 kx, .int .i64 ky, .int .i64 kz] 23)).alloc (.cells #[.int .i64 mx, .int .i64 my, .int .i64 mz] 23)).alloc (.cells #[.int .i64 rn, .int .i64 rd] 27)).alloc (.cells #[.int .i64 sn, .int .i64 sd] 27)).heap.size := by simp <;> omega
  have r0 : World.cell? ((((w.alloc (.cells #[.int .i64 kx, .int .i64 ky, .int .i64 kz] 23)).alloc (.cells #[.int .i64 mx, .int .i64 my, .int .i64 mz] 23)).alloc (.cells #[.int .i64 rn, .int .i64 rd] 27)).alloc (.cells #[.int .i64 sn, .int .i64 sd] 27)) ⟨w.heap.size + 1 + 1, 0, none⟩ = some (.int .i64 rn) := by simp [go_sem]
  have r1 : World.cell? ((((w.alloc (.cells #[.int .i64 kx, .int .i64 ky, .int .i64 kz] 23)).alloc (.cells #[.int .i64 mx, .int .i64 my, .int .i64 mz] 23)).alloc (.cells #[.int .i64 rn, .int .i64 rd] 27)).alloc (.cells #[.int .i64 sn, .int .i64 sd] 27)) ⟨w.heap.size + 1 + 1, 1, none⟩ = some (.int .i64 rd) := by simp [go_sem]
  have lr : w.heap.size + 1 + 1 < ((((w.alloc (.cells #[.int .i64 kx, .int .i64 ky, .int .i64 kz] 23)).alloc (.cells #[.int .i64 mx, .int .i64 my, .int .i64 mz] 23)).alloc (.cells #[.int .i64 rn, .int .i64 rd] 27)).alloc (.cells #[.int .i64 sn, .int .i64 sd] 27)).heap.size := by simp <;> omega
  have s0 : World.cell? ((((w.alloc (.cells #[.int .i64 kx, .int .i64 ky, .int .i64 kz] 23)).alloc (.cells #[.int .i64 mx, .int .i64 my, .int .i64 mz] 23)).alloc (.cells #[.int .i64 rn, .int .i64 rd] 27)).alloc (.cells #[.int .i64 sn, .int .i64 sd] 27)) ⟨w.heap.size + 1 + 1 + 1, 0, none⟩ = some (.int .i64 sn) := by simp [go_sem]
  have s1 : World.cell? ((((w.alloc (.cells #[.int .i64 kx, .int .i64 ky, .int .i64 kz] 23)).alloc (.cells #[.int .i64 mx, .int .i64 my, .int .i64 mz] 23)).alloc (.cells #[.int .i64 rn, .int .i64 rd] 27)).alloc (.cells #[.int .i64 sn, .int .i64 sd] 27)) ⟨w.heap.size + 1 + 1 + 1, 1, none⟩ = some (.int .i64 sd) := by simp [go_sem]
  have ls : w.heap.size + 1 + 1 + 1 < ((((w.alloc (.cells #[.int .i64 kx, .int .i64 ky, .int .i64 kz] 23)).alloc (.cells #[.int .i64 mx, .int .i64 my, .int .i64 mz] 23)).alloc (.cells #[.int .i64 rn, .int .i64 rd] 27)).alloc (.cells #[.int .i64 sn, .int .i64 sd] 27)).heap.size := by simp <;> omega
  have HB := Lib.hid (show Below w.heap.size w ((((w.alloc (.cells #[.int .i64 kx, .int .i64 ky, .int .i64 kz] 23)).alloc (.cells #[.int .i64 mx, .int .i64 my, .int .i64 mz] 23)).alloc (.cells #[.int .i64 rn, .int .i64 rd] 27)).alloc (.cells #[.int .i64 sn, .int .i64 sd] 27)) from (((((Below.refl _ _).alloc (by simp <;> omega) _).alloc (by simp <;> omega) _).alloc (by simp <;> omega) _).alloc (by simp <;> omega) _))
  go_enter Try.func8, Try.ntmps8
  go_wp2_with fail
  generalize (((w.alloc (.cells #[.int .i64 kx, .int .i64 ky, .int .i64 kz] 23)).alloc (.cells #[.int .i64 mx, .int .i64 my, .int .i64 mz] 23)).alloc (.cells #[.int .i64 rn, .int .i64 rd] 27)).alloc (.cells #[.int .i64 sn, .int .i64 sd] 27) = w1 at *
  with_reducible refine (head_any _).mono ?_
  rintro e_ w2 ⟨rfl, hb⟩
  replace HB := Lib.hid (on_below HB.out hb)
  replace k0 := keepc hb k0
  replace k1 := keepc hb k1
  replace k2 := keepc hb k2
  replace m0 := keepc hb m0
  replace m1 := keepc hb m1
  replace m2 := keepc hb m2
  replace r0 := keepc hb r0
  replace r1 := keepc hb r1
  replace s0 := keepc hb s0
  replace s1 := keepc hb s1
  replace lk := Nat.lt_of_lt_of_le lk hb.size
  replace lm := Nat.lt_of_lt_of_le lm hb.size
  replace lr := Nat.lt_of_lt_of_le lr hb.size
  replace ls := Nat.lt_of_lt_of_le ls hb.size
  clear hb
  go_wp2_with fail
  with_reducible refine (valid_is kx ky kz true H0.out _).mono ?_
  rintro e_ w3 ⟨rfl, hb⟩
  replace HB := Lib.hid (on_below HB.out hb)
  replace k0 := keepc hb k0
  replace k1 := keepc hb k1
  replace k2 := keepc hb k2
  replace m0 := keepc hb m0
  replace m1 := keepc hb m1
  replace m2 := keepc hb m2
  replace r0 := keepc hb r0
  replace r1 := keepc hb r1
  replace s0 := keepc hb s0
  replace s1 := keepc hb s1
  replace lk := Nat.lt_of_lt_of_le lk hb.size
  replace lm := Nat.lt_of_lt_of_le lm hb.size
  replace lr := Nat.lt_of_lt_of_le lr hb.size
  replace ls := Nat.lt_of_lt_of_le ls hb.size
  clear hb
  go_wp2_with fail
  with_reducible refine (valid_is mx my mz false H1.out _).mono ?_
  rintro e_ w4 ⟨rfl, hb⟩
  replace HB := Lib.hid (on_below HB.out hb)
  replace k0 := keepc hb k0
  replace k1 := keepc hb k1
  replace k2 := keepc hb k2
  replace m0 := keepc hb m0
  replace m1 := keepc hb m1
  replace m2 := keepc hb m2
  replace r0 := keepc hb r0
  replace r1 := keepc hb r1
  replace s0 := keepc hb s0
  replace s1 := keepc hb s1
  replace lk := Nat.lt_of_lt_of_le lk hb.size
  replace lm := Nat.lt_of_lt_of_le lm hb.size
  replace lr := Nat.lt_of_lt_of_le lr hb.size
  replace ls := Nat.lt_of_lt_of_le ls hb.size
  clear hb
  go_wp2_with fail
  go_ret
  exact ⟨rfl, HB.out⟩
set_option maxRecDepth 100000 in
set_option maxHeartbeats 2000000 in
theorem law_3 (kx ky kz mx my mz rn rd sn sd e f : Int) (irn : I64 rn) (ird : I64 rd) (isn : I64 sn) (isd : I64 sd) (h0 : vv kx ky kz = true) (h1 : vv mx my mz = true) (h2 : zv kx ky kz = true) (w : World) :
    Calls Try.prog 8 #[.agg #[.int .i64 kx, .int .i64 ky, .int .i64 kz], .agg #[.int .i64 mx, .int .i64 my, .int .i64 mz], .agg #[.int .i64 rn, .int .i64 rd], .agg #[.int .i64 sn, .int .i64 sd], .int .i64 e, .int .i64 f] w fun e_ w' => e_ = .returned (.bool true) ∧ Below w.heap.size w w' := by
  have H0 := Lib.hid h0
  clear h0
  have H1 := Lib.hid h1
  clear h1
  have z2_ := fun W => vec_eq (a := kx) (b := ky) (c := kz) (x := 0) (y := 0) (z := 0) (r := true) h2 W
  clear h2
  have k0 : World.cell? ((((w.alloc (.cells #[.int .i64 kx, .int .i64 ky, .int .i64 kz] 23)).alloc (.cells #[.int .i64 mx, .int .i64 my, .int .i64 mz] 23)).alloc (.cells #[.int .i64 rn, .int .i64 rd] 27)).alloc (.cells #[.int .i64 sn, .int .i64 sd] 27)) ⟨w.heap.size, 0, none⟩ = some (.int .i64 kx) := by simp [go_sem]
  have k1 : World.cell? ((((w.alloc (.cells #[.int .i64 kx, .int .i64 ky, .int .i64 kz] 23)).alloc (.cells #[.int .i64 mx, .int .i64 my, .int .i64 mz] 23)).alloc (.cells #[.int .i64 rn, .int .i64 rd] 27)).alloc (.cells #[.int .i64 sn, .int .i64 sd] 27)) ⟨w.heap.size, 1, none⟩ = some (.int .i64 ky) := by simp [go_sem]
  have k2 : World.cell? ((((w.alloc (.cells #[.int .i64 kx, .int .i64 ky, .int .i64 kz] 23)).alloc (.cells #[.int .i64 mx, .int .i64 my, .int .i64 mz] 23)).alloc (.cells #[.int .i64 rn, .int .i64 rd] 27)).alloc (.cells #[.int .i64 sn, .int .i64 sd] 27)) ⟨w.heap.size, 2, none⟩ = some (.int .i64 kz) := by simp [go_sem]
  have lk : w.heap.size < ((((w.alloc (.cells #[.int .i64 kx, .int .i64 ky, .int .i64 kz] 23)).alloc (.cells #[.int .i64 mx, .int .i64 my, .int .i64 mz] 23)).alloc (.cells #[.int .i64 rn, .int .i64 rd] 27)).alloc (.cells #[.int .i64 sn, .int .i64 sd] 27)).heap.size := by simp <;> omega
  have m0 : World.cell? ((((w.alloc (.cells #[.int .i64 kx, .int .i64 ky, .int .i64 kz] 23)).alloc (.cells #[.int .i64 mx, .int .i64 my, .int .i64 mz] 23)).alloc (.cells #[.int .i64 rn, .int .i64 rd] 27)).alloc (.cells #[.int .i64 sn, .int .i64 sd] 27)) ⟨w.heap.size + 1, 0, none⟩ = some (.int .i64 mx) := by simp [go_sem]
  have m1 : World.cell? ((((w.alloc (.cells #[.int .i64 kx, .int .i64 ky, .int .i64 kz] 23)).alloc (.cells #[.int .i64 mx, .int .i64 my, .int .i64 mz] 23)).alloc (.cells #[.int .i64 rn, .int .i64 rd] 27)).alloc (.cells #[.int .i64 sn, .int .i64 sd] 27)) ⟨w.heap.size + 1, 1, none⟩ = some (.int .i64 my) := by simp [go_sem]
  have m2 : World.cell? ((((w.alloc (.cells #[.int .i64 kx, .int .i64 ky, .int .i64 kz] 23)).alloc (.cells #[.int .i64 mx, .int .i64 my, .int .i64 mz] 23)).alloc (.cells #[.int .i64 rn, .int .i64 rd] 27)).alloc (.cells #[.int .i64 sn, .int .i64 sd] 27)) ⟨w.heap.size + 1, 2, none⟩ = some (.int .i64 mz) := by simp [go_sem]
  have lm : w.heap.size + 1 < ((((w.alloc (.cells #[.int .i64 kx, .int .i64 ky, .int .i64 kz] 23)).alloc (.cells #[.int .i64 mx, .int .i64 my, .int .i64 mz] 23)).alloc (.cells #[.int .i64 rn, .int .i64 rd] 27)).alloc (.cells #[.int .i64 sn, .int .i64 sd] 27)).heap.size := by simp <;> omega
  have r0 : World.cell? ((((w.alloc (.cells #[.int .i64 kx, .int .i64 ky, .int .i64 kz] 23)).alloc (.cells #[.int .i64 mx, .int .i64 my, .int .i64 mz] 23)).alloc (.cells #[.int .i64 rn, .int .i64 rd] 27)).alloc (.cells #[.int .i64 sn, .int .i64 sd] 27)) ⟨w.heap.size + 1 + 1, 0, none⟩ = some (.int .i64 rn) := by simp [go_sem]
  have r1 : World.cell? ((((w.alloc (.cells #[.int .i64 kx, .int .i64 ky, .int .i64 kz] 23)).alloc (.cells #[.int .i64 mx, .int .i64 my, .int .i64 mz] 23)).alloc (.cells #[.int .i64 rn, .int .i64 rd] 27)).alloc (.cells #[.int .i64 sn, .int .i64 sd] 27)) ⟨w.heap.size + 1 + 1, 1, none⟩ = some (.int .i64 rd) := by simp [go_sem]
  have lr : w.heap.size + 1 + 1 < ((((w.alloc (.cells #[.int .i64 kx, .int .i64 ky, .int .i64 kz] 23)).alloc (.cells #[.int .i64 mx, .int .i64 my, .int .i64 mz] 23)).alloc (.cells #[.int .i64 rn, .int .i64 rd] 27)).alloc (.cells #[.int .i64 sn, .int .i64 sd] 27)).heap.size := by simp <;> omega
  have s0 : World.cell? ((((w.alloc (.cells #[.int .i64 kx, .int .i64 ky, .int .i64 kz] 23)).alloc (.cells #[.int .i64 mx, .int .i64 my, .int .i64 mz] 23)).alloc (.cells #[.int .i64 rn, .int .i64 rd] 27)).alloc (.cells #[.int .i64 sn, .int .i64 sd] 27)) ⟨w.heap.size + 1 + 1 + 1, 0, none⟩ = some (.int .i64 sn) := by simp [go_sem]
  have s1 : World.cell? ((((w.alloc (.cells #[.int .i64 kx, .int .i64 ky, .int .i64 kz] 23)).alloc (.cells #[.int .i64 mx, .int .i64 my, .int .i64 mz] 23)).alloc (.cells #[.int .i64 rn, .int .i64 rd] 27)).alloc (.cells #[.int .i64 sn, .int .i64 sd] 27)) ⟨w.heap.size + 1 + 1 + 1, 1, none⟩ = some (.int .i64 sd) := by simp [go_sem]
  have ls : w.heap.size + 1 + 1 + 1 < ((((w.alloc (.cells #[.int .i64 kx, .int .i64 ky, .int .i64 kz] 23)).alloc (.cells #[.int .i64 mx, .int .i64 my, .int .i64 mz] 23)).alloc (.cells #[.int .i64 rn, .int .i64 rd] 27)).alloc (.cells #[.int .i64 sn, .int .i64 sd] 27)).heap.size := by simp <;> omega
  have HB := Lib.hid (show Below w.heap.size w ((((w.alloc (.cells #[.int .i64 kx, .int .i64 ky, .int .i64 kz] 23)).alloc (.cells #[.int .i64 mx, .int .i64 my, .int .i64 mz] 23)).alloc (.cells #[.int .i64 rn, .int .i64 rd] 27)).alloc (.cells #[.int .i64 sn, .int .i64 sd] 27)) from (((((Below.refl _ _).alloc (by simp <;> omega) _).alloc (by simp <;> omega) _).alloc (by simp <;> omega) _).alloc (by simp <;> omega) _))
  go_enter Try.func8, Try.ntmps8
  go_wp2_with fail
  generalize (((w.alloc (.cells #[.int .i64 kx, .int .i64 ky, .int .i64 kz] 23)).alloc (.cells #[.int .i64 mx, .int .i64 my, .int .i64 mz] 23)).alloc (.cells #[.int .i64 rn, .int .i64 rd] 27)).alloc (.cells #[.int .i64 sn, .int .i64 sd] 27) = w1 at *
  with_reducible refine (head_any _).mono ?_
  rintro e_ w2 ⟨rfl, hb⟩
  replace HB := Lib.hid (on_below HB.out hb)
  replace k0 := keepc hb k0
  replace k1 := keepc hb k1
  replace k2 := keepc hb k2
  replace m0 := keepc hb m0
  replace m1 := keepc hb m1
  replace m2 := keepc hb m2
  replace r0 := keepc hb r0
  replace r1 := keepc hb r1
  replace s0 := keepc hb s0
  replace s1 := keepc hb s1
  replace lk := Nat.lt_of_lt_of_le lk hb.size
  replace lm := Nat.lt_of_lt_of_le lm hb.size
  replace lr := Nat.lt_of_lt_of_le lr hb.size
  replace ls := Nat.lt_of_lt_of_le ls hb.size
  clear hb
  go_wp2_with fail
  with_reducible refine (valid_is kx ky kz true H0.out _).mono ?_
  rintro e_ w3 ⟨rfl, hb⟩
  replace HB := Lib.hid (on_below HB.out hb)
  replace k0 := keepc hb k0
  replace k1 := keepc hb k1
  replace k2 := keepc hb k2
  replace m0 := keepc hb m0
  replace m1 := keepc hb m1
  replace m2 := keepc hb m2
  replace r0 := keepc hb r0
  replace r1 := keepc hb r1
  replace s0 := keepc hb s0
  replace s1 := keepc hb s1
  replace lk := Nat.lt_of_lt_of_le lk hb.size
  replace lm := Nat.lt_of_lt_of_le lm hb.size
  replace lr := Nat.lt_of_lt_of_le lr hb.size
  replace ls := Nat.lt_of_lt_of_le ls hb.size
  clear hb
  go_wp2_with fail
  with_reducible refine (valid_is mx my mz true H1.out _).mono ?_
  rintro e_ w4 ⟨rfl, hb⟩
  replace HB := Lib.hid (on_below HB.out hb)
  replace k0 := keepc hb k0
  replace k1 := keepc hb k1
  replace k2 := keepc hb k2
  replace m0 := keepc hb m0
  replace m1 := keepc hb m1
  replace m2 := keepc hb m2
  replace r0 := keepc hb r0
  replace r1 := keepc hb r1
  replace s0 := keepc hb s0
  replace s1 := keepc hb s1
  replace lk := Nat.lt_of_lt_of_le lk hb.size
  replace lm := Nat.lt_of_lt_of_le lm hb.size
  replace lr := Nat.lt_of_lt_of_le lr hb.size
  replace ls := Nat.lt_of_lt_of_le ls hb.size
  clear hb
  go_wp2_with fail
  go_ret
  exact ⟨rfl, HB.out⟩
set_option maxRecDepth 100000 in
set_option maxHeartbeats 2000000 in
theorem law_4 (kx ky kz mx my mz rn rd sn sd e f : Int) (irn : I64 rn) (ird : I64 rd) (isn : I64 sn) (isd : I64 sd) (h0 : vv kx ky kz = true) (h1 : vv mx my mz = true) (h2 : zv kx ky kz = false) (h3 : zv mx my mz = true) (w : World) :
    Calls Try.prog 8 #[.agg #[.int .i64 kx, .int .i64 ky, .int .i64 kz], .agg #[.int .i64 mx, .int .i64 my, .int .i64 mz], .agg #[.int .i64 rn, .int .i64 rd], .agg #[.int .i64 sn, .int .i64 sd], .int .i64 e, .int .i64 f] w fun e_ w' => e_ = .returned (.bool true) ∧ Below w.heap.size w w' := by
  have H0 := Lib.hid h0
  clear h0
  have H1 := Lib.hid h1
  clear h1
  have z2_ := fun W => vec_eq (a := kx) (b := ky) (c := kz) (x := 0) (y := 0) (z := 0) (r := false) h2 W
  clear h2
  have z3_ := fun W => vec_eq (a := mx) (b := my) (c := mz) (x := 0) (y := 0) (z := 0) (r := true) h3 W
  clear h3
  have k0 : World.cell? ((((w.alloc (.cells #[.int .i64 kx, .int .i64 ky, .int .i64 kz] 23)).alloc (.cells #[.int .i64 mx, .int .i64 my, .int .i64 mz] 23)).alloc (.cells #[.int .i64 rn, .int .i64 rd] 27)).alloc (.cells #[.int .i64 sn, .int .i64 sd] 27)) ⟨w.heap.size, 0, none⟩ = some (.int .i64 kx) := by simp [go_sem]
  have k1 : World.cell? ((((w.alloc (.cells #[.int .i64 kx, .int .i64 ky, .int .i64 kz] 23)).alloc (.cells #[.int .i64 mx, .int .i64 my, .int .i64 mz] 23)).alloc (.cells #[.int .i64 rn, .int .i64 rd] 27)).alloc (.cells #[.int .i64 sn, .int .i64 sd] 27)) ⟨w.heap.size, 1, none⟩ = some (.int .i64 ky) := by simp [go_sem]
  have k2 : World.cell? ((((w.alloc (.cells #[.int .i64 kx, .int .i64 ky, .int .i64 kz] 23)).alloc (.cells #[.int .i64 mx, .int .i64 my, .int .i64 mz] 23)).alloc (.cells #[.int .i64 rn, .int .i64 rd] 27)).alloc (.cells #[.int .i64 sn, .int .i64 sd] 27)) ⟨w.heap.size, 2, none⟩ = some (.int .i64 kz) := by simp [go_sem]
  have lk : w.heap.size < ((((w.alloc (.cells #[.int .i64 kx, .int .i64 ky, .int .i64 kz] 23)).alloc (.cells #[.int .i64 mx, .int .i64 my, .int .i64 mz] 23)).alloc (.cells #[.int .i64 rn, .int .i64 rd] 27)).alloc (.cells #[.int .i64 sn, .int .i64 sd] 27)).heap.size := by simp <;> omega
  have m0 : World.cell? ((((w.alloc (.cells #[.int .i64 kx, .int .i64 ky, .int .i64 kz] 23)).alloc (.cells #[.int .i64 mx, .int .i64 my, .int .i64 mz] 23)).alloc (.cells #[.int .i64 rn, .int .i64 rd] 27)).alloc (.cells #[.int .i64 sn, .int .i64 sd] 27)) ⟨w.heap.size + 1, 0, none⟩ = some (.int .i64 mx) := by simp [go_sem]
  have m1 : World.cell? ((((w.alloc (.cells #[.int .i64 kx, .int .i64 ky, .int .i64 kz] 23)).alloc (.cells #[.int .i64 mx, .int .i64 my, .int .i64 mz] 23)).alloc (.cells #[.int .i64 rn, .int .i64 rd] 27)).alloc (.cells #[.int .i64 sn, .int .i64 sd] 27)) ⟨w.heap.size + 1, 1, none⟩ = some (.int .i64 my) := by simp [go_sem]
  have m2 : World.cell? ((((w.alloc (.cells #[.int .i64 kx, .int .i64 ky, .int .i64 kz] 23)).alloc (.cells #[.int .i64 mx, .int .i64 my, .int .i64 mz] 23)).alloc (.cells #[.int .i64 rn, .int .i64 rd] 27)).alloc (.cells #[.int .i64 sn, .int .i64 sd] 27)) ⟨w.heap.size + 1, 2, none⟩ = some (.int .i64 mz) := by simp [go_sem]
  have lm : w.heap.size + 1 < ((((w.alloc (.cells #[.int .i64 kx, .int .i64 ky, .int .i64 kz] 23)).alloc (.cells #[.int .i64 mx, .int .i64 my, .int .i64 mz] 23)).alloc (.cells #[.int .i64 rn, .int .i64 rd] 27)).alloc (.cells #[.int .i64 sn, .int .i64 sd] 27)).heap.size := by simp <;> omega
  have r0 : World.cell? ((((w.alloc (.cells #[.int .i64 kx, .int .i64 ky, .int .i64 kz] 23)).alloc (.cells #[.int .i64 mx, .int .i64 my, .int .i64 mz] 23)).alloc (.cells #[.int .i64 rn, .int .i64 rd] 27)).alloc (.cells #[.int .i64 sn, .int .i64 sd] 27)) ⟨w.heap.size + 1 + 1, 0, none⟩ = some (.int .i64 rn) := by simp [go_sem]
  have r1 : World.cell? ((((w.alloc (.cells #[.int .i64 kx, .int .i64 ky, .int .i64 kz] 23)).alloc (.cells #[.int .i64 mx, .int .i64 my, .int .i64 mz] 23)).alloc (.cells #[.int .i64 rn, .int .i64 rd] 27)).alloc (.cells #[.int .i64 sn, .int .i64 sd] 27)) ⟨w.heap.size + 1 + 1, 1, none⟩ = some (.int .i64 rd) := by simp [go_sem]
  have lr : w.heap.size + 1 + 1 < ((((w.alloc (.cells #[.int .i64 kx, .int .i64 ky, .int .i64 kz] 23)).alloc (.cells #[.int .i64 mx, .int .i64 my, .int .i64 mz] 23)).alloc (.cells #[.int .i64 rn, .int .i64 rd] 27)).alloc (.cells #[.int .i64 sn, .int .i64 sd] 27)).heap.size := by simp <;> omega
  have s0 : World.cell? ((((w.alloc (.cells #[.int .i64 kx, .int .i64 ky, .int .i64 kz] 23)).alloc (.cells #[.int .i64 mx, .int .i64 my, .int .i64 mz] 23)).alloc (.cells #[.int .i64 rn, .int .i64 rd] 27)).alloc (.cells #[.int .i64 sn, .int .i64 sd] 27)) ⟨w.heap.size + 1 + 1 + 1, 0, none⟩ = some (.int .i64 sn) := by simp [go_sem]
  have s1 : World.cell? ((((w.alloc (.cells #[.int .i64 kx, .int .i64 ky, .int .i64 kz] 23)).alloc (.cells #[.int .i64 mx, .int .i64 my, .int .i64 mz] 23)).alloc (.cells #[.int .i64 rn, .int .i64 rd] 27)).alloc (.cells #[.int .i64 sn, .int .i64 sd] 27)) ⟨w.heap.size + 1 + 1 + 1, 1, none⟩ = some (.int .i64 sd) := by simp [go_sem]
  have ls : w.heap.size + 1 + 1 + 1 < ((((w.alloc (.cells #[.int .i64 kx, .int .i64 ky, .int .i64 kz] 23)).alloc (.cells #[.int .i64 mx, .int .i64 my, .int .i64 mz] 23)).alloc (.cells #[.int .i64 rn, .int .i64 rd] 27)).alloc (.cells #[.int .i64 sn, .int .i64 sd] 27)).heap.size := by simp <;> omega
  have HB := Lib.hid (show Below w.heap.size w ((((w.alloc (.cells #[.int .i64 kx, .int .i64 ky, .int .i64 kz] 23)).alloc (.cells #[.int .i64 mx, .int .i64 my, .int .i64 mz] 23)).alloc (.cells #[.int .i64 rn, .int .i64 rd] 27)).alloc (.cells #[.int .i64 sn, .int .i64 sd] 27)) from (((((Below.refl _ _).alloc (by simp <;> omega) _).alloc (by simp <;> omega) _).alloc (by simp <;> omega) _).alloc (by simp <;> omega) _))
  go_enter Try.func8, Try.ntmps8
  go_wp2_with fail
  generalize (((w.alloc (.cells #[.int .i64 kx, .int .i64 ky, .int .i64 kz] 23)).alloc (.cells #[.int .i64 mx, .int .i64 my, .int .i64 mz] 23)).alloc (.cells #[.int .i64 rn, .int .i64 rd] 27)).alloc (.cells #[.int .i64 sn, .int .i64 sd] 27) = w1 at *
  with_reducible refine (head_any _).mono ?_
  rintro e_ w2 ⟨rfl, hb⟩
  replace HB := Lib.hid (on_below HB.out hb)
  replace k0 := keepc hb k0
  replace k1 := keepc hb k1
  replace k2 := keepc hb k2
  replace m0 := keepc hb m0
  replace m1 := keepc hb m1
  replace m2 := keepc hb m2
  replace r0 := keepc hb r0
  replace r1 := keepc hb r1
  replace s0 := keepc hb s0
  replace s1 := keepc hb s1
  replace lk := Nat.lt_of_lt_of_le lk hb.size
  replace lm := Nat.lt_of_lt_of_le lm hb.size
  replace lr := Nat.lt_of_lt_of_le lr hb.size
  replace ls := Nat.lt_of_lt_of_le ls hb.size
  clear hb
  go_wp2_with fail
  with_reducible refine (valid_is kx ky kz true H0.out _).mono ?_
  rintro e_ w3 ⟨rfl, hb⟩
  replace HB := Lib.hid (on_below HB.out hb)
  replace k0 := keepc hb k0
  replace k1 := keepc hb k1
  replace k2 := keepc hb k2
  replace m0 := keepc hb m0
  replace m1 := keepc hb m1
  replace m2 := keepc hb m2
  replace r0 := keepc hb r0
  replace r1 := keepc hb r1
  replace s0 := keepc hb s0
  replace s1 := keepc hb s1
  replace lk := Nat.lt_of_lt_of_le lk hb.size
  replace lm := Nat.lt_of_lt_of_le lm hb.size
  replace lr := Nat.lt_of_lt_of_le lr hb.size
  replace ls := Nat.lt_of_lt_of_le ls hb.size
  clear hb
  go_wp2_with fail
  with_reducible refine (valid_is mx my mz true H1.out _).mono ?_
  rintro e_ w4 ⟨rfl, hb⟩
  replace HB := Lib.hid (on_below HB.out hb)
  replace k0 := keepc hb k0
  replace k1 := keepc hb k1
  replace k2 := keepc hb k2
  replace m0 := keepc hb m0
  replace m1 := keepc hb m1
  replace m2 := keepc hb m2
  replace r0 := keepc hb r0
  replace r1 := keepc hb r1
  replace s0 := keepc hb s0
  replace s1 := keepc hb s1
  replace lk := Nat.lt_of_lt_of_le lk hb.size
  replace lm := Nat.lt_of_lt_of_le lm hb.size
  replace lr := Nat.lt_of_lt_of_le lr hb.size
  replace ls := Nat.lt_of_lt_of_le ls hb.size
  clear hb
  go_wp2_with fail
  go_ret
  exact ⟨rfl, HB.out⟩
set_option maxRecDepth 100000 in
set_option maxHeartbeats 2000000 in
theorem law_5 (kx ky kz mx my mz rn rd sn sd e f : Int) (irn : I64 rn) (ird : I64 rd) (isn : I64 sn) (isd : I64 sd) (h0 : vv kx ky kz = true) (h1 : vv mx my mz = true) (h2 : zv kx ky kz = false) (h3 : zv mx my mz = false) (h4 : shr rn rd = false) (w : World) :
    Calls Try.prog 8 #[.agg #[.int .i64 kx, .int .i64 ky, .int .i64 kz], .agg #[.int .i64 mx, .int .i64 my, .int .i64 mz], .agg #[.int .i64 rn, .int .i64 rd], .agg #[.int .i64 sn, .int .i64 sd], .int .i64 e, .int .i64 f] w fun e_ w' => e_ = .returned (.bool true) ∧ Below w.heap.size w w' := by
  have JN := Lib.hid irn
  clear irn
  have JD := Lib.hid ird
  clear ird
  have H0 := Lib.hid h0
  clear h0
  have H1 := Lib.hid h1
  clear h1
  have z2_ := fun W => vec_eq (a := kx) (b := ky) (c := kz) (x := 0) (y := 0) (z := 0) (r := false) h2 W
  clear h2
  have z3_ := fun W => vec_eq (a := mx) (b := my) (c := mz) (x := 0) (y := 0) (z := 0) (r := false) h3 W
  clear h3
  have H4 := Lib.hid h4
  clear h4
  have k0 : World.cell? ((((w.alloc (.cells #[.int .i64 kx, .int .i64 ky, .int .i64 kz] 23)).alloc (.cells #[.int .i64 mx, .int .i64 my, .int .i64 mz] 23)).alloc (.cells #[.int .i64 rn, .int .i64 rd] 27)).alloc (.cells #[.int .i64 sn, .int .i64 sd] 27)) ⟨w.heap.size, 0, none⟩ = some (.int .i64 kx) := by simp [go_sem]
  have k1 : World.cell? ((((w.alloc (.cells #[.int .i64 kx, .int .i64 ky, .int .i64 kz] 23)).alloc (.cells #[.int .i64 mx, .int .i64 my, .int .i64 mz] 23)).alloc (.cells #[.int .i64 rn, .int .i64 rd] 27)).alloc (.cells #[.int .i64 sn, .int .i64 sd] 27)) ⟨w.heap.size, 1, none⟩ = some (.int .i64 ky) := by simp [go_sem]
  have k2 : World.cell? ((((w.alloc (.cells #[.int .i64 kx, .int .i64 ky, .int .i64 kz] 23)).alloc (.cells #[.int .i64 mx, .int .i64 my, .int .i64 mz] 23)).alloc (.cells #[.int .i64 rn, .int .i64 rd] 27)).alloc (.cells #[.int .i64 sn, .int .i64 sd] 27)) ⟨w.heap.size, 2, none⟩ = some (.int .i64 kz) := by simp [go_sem]
  have lk : w.heap.size < ((((w.alloc (.cells #[.int .i64 kx, .int .i64 ky, .int .i64 kz] 23)).alloc (.cells #[.int .i64 mx, .int .i64 my, .int .i64 mz] 23)).alloc (.cells #[.int .i64 rn, .int .i64 rd] 27)).alloc (.cells #[.int .i64 sn, .int .i64 sd] 27)).heap.size := by simp <;> omega
  have m0 : World.cell? ((((w.alloc (.cells #[.int .i64 kx, .int .i64 ky, .int .i64 kz] 23)).alloc (.cells #[.int .i64 mx, .int .i64 my, .int .i64 mz] 23)).alloc (.cells #[.int .i64 rn, .int .i64 rd] 27)).alloc (.cells #[.int .i64 sn, .int .i64 sd] 27)) ⟨w.heap.size + 1, 0, none⟩ = some (.int .i64 mx) := by simp [go_sem]
  have m1 : World.cell? ((((w.alloc (.cells #[.int .i64 kx, .int .i64 ky, .int .i64 kz] 23)).alloc (.cells #[.int .i64 mx, .int .i64 my, .int .i64 mz] 23)).alloc (.cells #[.int .i64 rn, .int .i64 rd] 27)).alloc (.cells #[.int .i64 sn, .int .i64 sd] 27)) ⟨w.heap.size + 1, 1, none⟩ = some (.int .i64 my) := by simp [go_sem]
  have m2 : World.cell? ((((w.alloc (.cells #[.int .i64 kx, .int .i64 ky, .int .i64 kz] 23)).alloc (.cells #[.int .i64 mx, .int .i64 my, .int .i64 mz] 23)).alloc (.cells #[.int .i64 rn, .int .i64 rd] 27)).alloc (.cells #[.int .i64 sn, .int .i64 sd] 27)) ⟨w.heap.size + 1, 2, none⟩ = some (.int .i64 mz) := by simp [go_sem]
  have lm : w.heap.size + 1 < ((((w.alloc (.cells #[.int .i64 kx, .int .i64 ky, .int .i64 kz] 23)).alloc (.cells #[.int .i64 mx, .int .i64 my, .int .i64 mz] 23)).alloc (.cells #[.int .i64 rn, .int .i64 rd] 27)).alloc (.cells #[.int .i64 sn, .int .i64 sd] 27)).heap.size := by simp <;> omega
  have r0 : World.cell? ((((w.alloc (.cells #[.int .i64 kx, .int .i64 ky, .int .i64 kz] 23)).alloc (.cells #[.int .i64 mx, .int .i64 my, .int .i64 mz] 23)).alloc (.cells #[.int .i64 rn, .int .i64 rd] 27)).alloc (.cells #[.int .i64 sn, .int .i64 sd] 27)) ⟨w.heap.size + 1 + 1, 0, none⟩ = some (.int .i64 rn) := by simp [go_sem]
  have r1 : World.cell? ((((w.alloc (.cells #[.int .i64 kx, .int .i64 ky, .int .i64 kz] 23)).alloc (.cells #[.int .i64 mx, .int .i64 my, .int .i64 mz] 23)).alloc (.cells #[.int .i64 rn, .int .i64 rd] 27)).alloc (.cells #[.int .i64 sn, .int .i64 sd] 27)) ⟨w.heap.size + 1 + 1, 1, none⟩ = some (.int .i64 rd) := by simp [go_sem]
  have lr : w.heap.size + 1 + 1 < ((((w.alloc (.cells #[.int .i64 kx, .int .i64 ky, .int .i64 kz] 23)).alloc (.cells #[.int .i64 mx, .int .i64 my, .int .i64 mz] 23)).alloc (.cells #[.int .i64 rn, .int .i64 rd] 27)).alloc (.cells #[.int .i64 sn, .int .i64 sd] 27)).heap.size := by simp <;> omega
  have s0 : World.cell? ((((w.alloc (.cells #[.int .i64 kx, .int .i64 ky, .int .i64 kz] 23)).alloc (.cells #[.int .i64 mx, .int .i64 my, .int .i64 mz] 23)).alloc (.cells #[.int .i64 rn, .int .i64 rd] 27)).alloc (.cells #[.int .i64 sn, .int .i64 sd] 27)) ⟨w.heap.size + 1 + 1 + 1, 0, none⟩ = some (.int .i64 sn) := by simp [go_sem]
  have s1 : World.cell? ((((w.alloc (.cells #[.int .i64 kx, .int .i64 ky, .int .i64 kz] 23)).alloc (.cells #[.int .i64 mx, .int .i64 my, .int .i64 mz] 23)).alloc (.cells #[.int .i64 rn, .int .i64 rd] 27)).alloc (.cells #[.int .i64 sn, .int .i64 sd] 27)) ⟨w.heap.size + 1 + 1 + 1, 1, none⟩ = some (.int .i64 sd) := by simp [go_sem]
  have ls : w.heap.size + 1 + 1 + 1 < ((((w.alloc (.cells #[.int .i64 kx, .int .i64 ky, .int .i64 kz] 23)).alloc (.cells #[.int .i64 mx, .int .i64 my, .int .i64 mz] 23)).alloc (.cells #[.int .i64 rn, .int .i64 rd] 27)).alloc (.cells #[.int .i64 sn, .int .i64 sd] 27)).heap.size := by simp <;> omega
  have HB := Lib.hid (show Below w.heap.size w ((((w.alloc (.cells #[.int .i64 kx, .int .i64 ky, .int .i64 kz] 23)).alloc (.cells #[.int .i64 mx, .int .i64 my, .int .i64 mz] 23)).alloc (.cells #[.int .i64 rn, .int .i64 rd] 27)).alloc (.cells #[.int .i64 sn, .int .i64 sd] 27)) from (((((Below.refl _ _).alloc (by simp <;> omega) _).alloc (by simp <;> omega) _).alloc (by simp <;> omega) _).alloc (by simp <;> omega) _))
  go_enter Try.func8, Try.ntmps8
  go_wp2_with fail
  generalize (((w.alloc (.cells #[.int .i64 kx, .int .i64 ky, .int .i64 kz] 23)).alloc (.cells #[.int .i64 mx, .int .i64 my, .int .i64 mz] 23)).alloc (.cells #[.int .i64 rn, .int .i64 rd] 27)).alloc (.cells #[.int .i64 sn, .int .i64 sd] 27) = w1 at *
  with_reducible refine (head_any _).mono ?_
  rintro e_ w2 ⟨rfl, hb⟩
  replace HB := Lib.hid (on_below HB.out hb)
  replace k0 := keepc hb k0
  replace k1 := keepc hb k1
  replace k2 := keepc hb k2
  replace m0 := keepc hb m0
  replace m1 := keepc hb m1
  replace m2 := keepc hb m2
  replace r0 := keepc hb r0
  replace r1 := keepc hb r1
  replace s0 := keepc hb s0
  replace s1 := keepc hb s1
  replace lk := Nat.lt_of_lt_of_le lk hb.size
  replace lm := Nat.lt_of_lt_of_le lm hb.size
  replace lr := Nat.lt_of_lt_of_le lr hb.size
  replace ls := Nat.lt_of_lt_of_le ls hb.size
  clear hb
  go_wp2_with fail
  with_reducible refine (valid_is kx ky kz true H0.out _).mono ?_
  rintro e_ w3 ⟨rfl, hb⟩
  replace HB := Lib.hid (on_below HB.out hb)
  replace k0 := keepc hb k0
  replace k1 := keepc hb k1
  replace k2 := keepc hb k2
  replace m0 := keepc hb m0
  replace m1 := keepc hb m1
  replace m2 := keepc hb m2
  replace r0 := keepc hb r0
  replace r1 := keepc hb r1
  replace s0 := keepc hb s0
  replace s1 := keepc hb s1
  replace lk := Nat.lt_of_lt_of_le lk hb.size
  replace lm := Nat.lt_of_lt_of_le lm hb.size
  replace lr := Nat.lt_of_lt_of_le lr hb.size
  replace ls := Nat.lt_of_lt_of_le ls hb.size
  clear hb
  go_wp2_with fail
  with_reducible refine (valid_is mx my mz true H1.out _).mono ?_
  rintro e_ w4 ⟨rfl, hb⟩
  replace HB := Lib.hid (on_below HB.out hb)
  replace k0 := keepc hb k0
  replace k1 := keepc hb k1
  replace k2 := keepc hb k2
  replace m0 := keepc hb m0
  replace m1 := keepc hb m1
  replace m2 := keepc hb m2
  replace r0 := keepc hb r0
  replace r1 := keepc hb r1
  replace s0 := keepc hb s0
  replace s1 := keepc hb s1
  replace lk := Nat.lt_of_lt_of_le lk hb.size
  replace lm := Nat.lt_of_lt_of_le lm hb.size
  replace lr := Nat.lt_of_lt_of_le lr hb.size
  replace ls := Nat.lt_of_lt_of_le ls hb.size
  clear hb
  go_wp2_with fail
  with_reducible refine (part_is rn rd false JN.out JD.out H4.out _).mono ?_
  rintro e_ w5 ⟨rfl, hb⟩
  replace HB := Lib.hid (on_below HB.out hb)
  replace k0 := keepc hb k0
  replace k1 := keepc hb k1
  replace k2 := keepc hb k2
  replace m0 := keepc hb m0
  replace m1 := keepc hb m1
  replace m2 := keepc hb m2
  replace r0 := keepc hb r0
  replace r1 := keepc hb r1
  replace s0 := keepc hb s0
  replace s1 := keepc hb s1
  replace lk := Nat.lt_of_lt_of_le lk hb.size
  replace lm := Nat.lt_of_lt_of_le lm hb.size
  replace lr := Nat.lt_of_lt_of_le lr hb.size
  replace ls := Nat.lt_of_lt_of_le ls hb.size
  clear hb
  go_wp2_with fail
  go_ret
  exact ⟨rfl, HB.out⟩
set_option maxRecDepth 100000 in
set_option maxHeartbeats 2000000 in
theorem law_6 (kx ky kz mx my mz rn rd sn sd e f : Int) (irn : I64 rn) (ird : I64 rd) (isn : I64 sn) (isd : I64 sd) (h0 : vv kx ky kz = true) (h1 : vv mx my mz = true) (h2 : zv kx ky kz = false) (h3 : zv mx my mz = false) (h4 : shr rn rd = true) (h5 : shr sn sd = false) (w : World) :
    Calls Try.prog 8 #[.agg #[.int .i64 kx, .int .i64 ky, .int .i64 kz], .agg #[.int .i64 mx, .int .i64 my, .int .i64 mz], .agg #[.int .i64 rn, .int .i64 rd], .agg #[.int .i64 sn, .int .i64 sd], .int .i64 e, .int .i64 f] w fun e_ w' => e_ = .returned (.bool true) ∧ Below w.heap.size w w' := by
  have JN := Lib.hid irn
  clear irn
  have JD := Lib.hid ird
  clear ird
  have LN := Lib.hid isn
  clear isn
  have LD := Lib.hid isd
  clear isd
  have H0 := Lib.hid h0
  clear h0
  have H1 := Lib.hid h1
  clear h1
  have z2_ := fun W => vec_eq (a := kx) (b := ky) (c := kz) (x := 0) (y := 0) (z := 0) (r := false) h2 W
  clear h2
  have z3_ := fun W => vec_eq (a := mx) (b := my) (c := mz) (x := 0) (y := 0) (z := 0) (r := false) h3 W
  clear h3
  have H4 := Lib.hid h4
  clear h4
  have H5 := Lib.hid h5
  clear h5
  have k0 : World.cell? ((((w.alloc (.cells #[.int .i64 kx, .int .i64 ky, .int .i64 kz] 23)).alloc (.cells #[.int .i64 mx, .int .i64 my, .int .i64 mz] 23)).alloc (.cells #[.int .i64 rn, .int .i64 rd] 27)).alloc (.cells #[.int .i64 sn, .int .i64 sd] 27)) ⟨w.heap.size, 0, none⟩ = some (.int .i64 kx) := by simp [go_sem]
  have k1 : World.cell? ((((w.alloc (.cells #[.int .i64 kx, .int .i64 ky, .int .i64 kz] 23)).alloc (.cells #[.int .i64 mx, .int .i64 my, .int .i64 mz] 23)).alloc (.cells #[.int .i64 rn, .int .i64 rd] 27)).alloc (.cells #[.int .i64 sn, .int .i64 sd] 27)) ⟨w.heap.size, 1, none⟩ = some (.int .i64 ky) := by simp [go_sem]
  have k2 : World.cell? ((((w.alloc (.cells #[.int .i64 kx, .int .i64 ky, .int .i64 kz] 23)).alloc (.cells #[.int .i64 mx, .int .i64 my, .int .i64 mz] 23)).alloc (.cells #[.int .i64 rn, .int .i64 rd] 27)).alloc (.cells #[.int .i64 sn, .int .i64 sd] 27)) ⟨w.heap.size, 2, none⟩ = some (.int .i64 kz) := by simp [go_sem]
  have lk : w.heap.size < ((((w.alloc (.cells #[.int .i64 kx, .int .i64 ky, .int .i64 kz] 23)).alloc (.cells #[.int .i64 mx, .int .i64 my, .int .i64 mz] 23)).alloc (.cells #[.int .i64 rn, .int .i64 rd] 27)).alloc (.cells #[.int .i64 sn, .int .i64 sd] 27)).heap.size := by simp <;> omega
  have m0 : World.cell? ((((w.alloc (.cells #[.int .i64 kx, .int .i64 ky, .int .i64 kz] 23)).alloc (.cells #[.int .i64 mx, .int .i64 my, .int .i64 mz] 23)).alloc (.cells #[.int .i64 rn, .int .i64 rd] 27)).alloc (.cells #[.int .i64 sn, .int .i64 sd] 27)) ⟨w.heap.size + 1, 0, none⟩ = some (.int .i64 mx) := by simp [go_sem]
  have m1 : World.cell? ((((w.alloc (.cells #[.int .i64 kx, .int .i64 ky, .int .i64 kz] 23)).alloc (.cells #[.int .i64 mx, .int .i64 my, .int .i64 mz] 23)).alloc (.cells #[.int .i64 rn, .int .i64 rd] 27)).alloc (.cells #[.int .i64 sn, .int .i64 sd] 27)) ⟨w.heap.size + 1, 1, none⟩ = some (.int .i64 my) := by simp [go_sem]
  have m2 : World.cell? ((((w.alloc (.cells #[.int .i64 kx, .int .i64 ky, .int .i64 kz] 23)).alloc (.cells #[.int .i64 mx, .int .i64 my, .int .i64 mz] 23)).alloc (.cells #[.int .i64 rn, .int .i64 rd] 27)).alloc (.cells #[.int .i64 sn, .int .i64 sd] 27)) ⟨w.heap.size + 1, 2, none⟩ = some (.int .i64 mz) := by simp [go_sem]
  have lm : w.heap.size + 1 < ((((w.alloc (.cells #[.int .i64 kx, .int .i64 ky, .int .i64 kz] 23)).alloc (.cells #[.int .i64 mx, .int .i64 my, .int .i64 mz] 23)).alloc (.cells #[.int .i64 rn, .int .i64 rd] 27)).alloc (.cells #[.int .i64 sn, .int .i64 sd] 27)).heap.size := by simp <;> omega
  have r0 : World.cell? ((((w.alloc (.cells #[.int .i64 kx, .int .i64 ky, .int .i64 kz] 23)).alloc (.cells #[.int .i64 mx, .int .i64 my, .int .i64 mz] 23)).alloc (.cells #[.int .i64 rn, .int .i64 rd] 27)).alloc (.cells #[.int .i64 sn, .int .i64 sd] 27)) ⟨w.heap.size + 1 + 1, 0, none⟩ = some (.int .i64 rn) := by simp [go_sem]
  have r1 : World.cell? ((((w.alloc (.cells #[.int .i64 kx, .int .i64 ky, .int .i64 kz] 23)).alloc (.cells #[.int .i64 mx, .int .i64 my, .int .i64 mz] 23)).alloc (.cells #[.int .i64 rn, .int .i64 rd] 27)).alloc (.cells #[.int .i64 sn, .int .i64 sd] 27)) ⟨w.heap.size + 1 + 1, 1, none⟩ = some (.int .i64 rd) := by simp [go_sem]
  have lr : w.heap.size + 1 + 1 < ((((w.alloc (.cells #[.int .i64 kx, .int .i64 ky, .int .i64 kz] 23)).alloc (.cells #[.int .i64 mx, .int .i64 my, .int .i64 mz] 23)).alloc (.cells #[.int .i64 rn, .int .i64 rd] 27)).alloc (.cells #[.int .i64 sn, .int .i64 sd] 27)).heap.size := by simp <;> omega
  have s0 : World.cell? ((((w.alloc (.cells #[.int .i64 kx, .int .i64 ky, .int .i64 kz] 23)).alloc (.cells #[.int .i64 mx, .int .i64 my, .int .i64 mz] 23)).alloc (.cells #[.int .i64 rn, .int .i64 rd] 27)).alloc (.cells #[.int .i64 sn, .int .i64 sd] 27)) ⟨w.heap.size + 1 + 1 + 1, 0, none⟩ = some (.int .i64 sn) := by simp [go_sem]
  have s1 : World.cell? ((((w.alloc (.cells #[.int .i64 kx, .int .i64 ky, .int .i64 kz] 23)).alloc (.cells #[.int .i64 mx, .int .i64 my, .int .i64 mz] 23)).alloc (.cells #[.int .i64 rn, .int .i64 rd] 27)).alloc (.cells #[.int .i64 sn, .int .i64 sd] 27)) ⟨w.heap.size + 1 + 1 + 1, 1, none⟩ = some (.int .i64 sd) := by simp [go_sem]
  have ls : w.heap.size + 1 + 1 + 1 < ((((w.alloc (.cells #[.int .i64 kx, .int .i64 ky, .int .i64 kz] 23)).alloc (.cells #[.int .i64 mx, .int .i64 my, .int .i64 mz] 23)).alloc (.cells #[.int .i64 rn, .int .i64 rd] 27)).alloc (.cells #[.int .i64 sn, .int .i64 sd] 27)).heap.size := by simp <;> omega
  have HB := Lib.hid (show Below w.heap.size w ((((w.alloc (.cells #[.int .i64 kx, .int .i64 ky, .int .i64 kz] 23)).alloc (.cells #[.int .i64 mx, .int .i64 my, .int .i64 mz] 23)).alloc (.cells #[.int .i64 rn, .int .i64 rd] 27)).alloc (.cells #[.int .i64 sn, .int .i64 sd] 27)) from (((((Below.refl _ _).alloc (by simp <;> omega) _).alloc (by simp <;> omega) _).alloc (by simp <;> omega) _).alloc (by simp <;> omega) _))
  go_enter Try.func8, Try.ntmps8
  go_wp2_with fail
  generalize (((w.alloc (.cells #[.int .i64 kx, .int .i64 ky, .int .i64 kz] 23)).alloc (.cells #[.int .i64 mx, .int .i64 my, .int .i64 mz] 23)).alloc (.cells #[.int .i64 rn, .int .i64 rd] 27)).alloc (.cells #[.int .i64 sn, .int .i64 sd] 27) = w1 at *
  with_reducible refine (head_any _).mono ?_
  rintro e_ w2 ⟨rfl, hb⟩
  replace HB := Lib.hid (on_below HB.out hb)
  replace k0 := keepc hb k0
  replace k1 := keepc hb k1
  replace k2 := keepc hb k2
  replace m0 := keepc hb m0
  replace m1 := keepc hb m1
  replace m2 := keepc hb m2
  replace r0 := keepc hb r0
  replace r1 := keepc hb r1
  replace s0 := keepc hb s0
  replace s1 := keepc hb s1
  replace lk := Nat.lt_of_lt_of_le lk hb.size
  replace lm := Nat.lt_of_lt_of_le lm hb.size
  replace lr := Nat.lt_of_lt_of_le lr hb.size
  replace ls := Nat.lt_of_lt_of_le ls hb.size
  clear hb
  go_wp2_with fail
  with_reducible refine (valid_is kx ky kz true H0.out _).mono ?_
  rintro e_ w3 ⟨rfl, hb⟩
  replace HB := Lib.hid (on_below HB.out hb)
  replace k0 := keepc hb k0
  replace k1 := keepc hb k1
  replace k2 := keepc hb k2
  replace m0 := keepc hb m0
  replace m1 := keepc hb m1
  replace m2 := keepc hb m2
  replace r0 := keepc hb r0
  replace r1 := keepc hb r1
  replace s0 := keepc hb s0
  replace s1 := keepc hb s1
  replace lk := Nat.lt_of_lt_of_le lk hb.size
  replace lm := Nat.lt_of_lt_of_le lm hb.size
  replace lr := Nat.lt_of_lt_of_le lr hb.size
  replace ls := Nat.lt_of_lt_of_le ls hb.size
  clear hb
  go_wp2_with fail
  with_reducible refine (valid_is mx my mz true H1.out _).mono ?_
  rintro e_ w4 ⟨rfl, hb⟩
  replace HB := Lib.hid (on_below HB.out hb)
  replace k0 := keepc hb k0
  replace k1 := keepc hb k1
  replace k2 := keepc hb k2
  replace m0 := keepc hb m0
  replace m1 := keepc hb m1
  replace m2 := keepc hb m2
  replace r0 := keepc hb r0
  replace r1 := keepc hb r1
  replace s0 := keepc hb s0
  replace s1 := keepc hb s1
  replace lk := Nat.lt_of_lt_of_le lk hb.size
  replace lm := Nat.lt_of_lt_of_le lm hb.size
  replace lr := Nat.lt_of_lt_of_le lr hb.size
  replace ls := Nat.lt_of_lt_of_le ls hb.size
  clear hb
  go_wp2_with fail
  with_reducible refine (part_is rn rd true JN.out JD.out H4.out _).mono ?_
  rintro e_ w5 ⟨rfl, hb⟩
  replace HB := Lib.hid (on_below HB.out hb)
  replace k0 := keepc hb k0
  replace k1 := keepc hb k1
  replace k2 := keepc hb k2
  replace m0 := keepc hb m0
  replace m1 := keepc hb m1
  replace m2 := keepc hb m2
  replace r0 := keepc hb r0
  replace r1 := keepc hb r1
  replace s0 := keepc hb s0
  replace s1 := keepc hb s1
  replace lk := Nat.lt_of_lt_of_le lk hb.size
  replace lm := Nat.lt_of_lt_of_le lm hb.size
  replace lr := Nat.lt_of_lt_of_le lr hb.size
  replace ls := Nat.lt_of_lt_of_le ls hb.size
  clear hb
  go_wp2_with fail
  with_reducible refine (part_is sn sd false LN.out LD.out H5.out _).mono ?_
  rintro e_ w6 ⟨rfl, hb⟩
  replace HB := Lib.hid (on_below HB.out hb)
  replace k0 := keepc hb k0
  replace k1 := keepc hb k1
  replace k2 := keepc hb k2
  replace m0 := keepc hb m0
  replace m1 := keepc hb m1
  replace m2 := keepc hb m2
  replace r0 := keepc hb r0
  replace r1 := keepc hb r1
  replace s0 := keepc hb s0
  replace s1 := keepc hb s1
  replace lk := Nat.lt_of_lt_of_le lk hb.size
  replace lm := Nat.lt_of_lt_of_le lm hb.size
  replace lr := Nat.lt_of_lt_of_le lr hb.size
  replace ls := Nat.lt_of_lt_of_le ls hb.size
  clear hb
  go_wp2_with fail
  go_ret
  exact ⟨rfl, HB.out⟩
set_option maxRecDepth 100000 in
set_option maxHeartbeats 2000000 in
theorem law_7 (kx ky kz mx my mz rn rd sn sd e f : Int) (irn : I64 rn) (ird : I64 rd) (isn : I64 sn) (isd : I64 sd) (h0 : vv kx ky kz = true) (h1 : vv mx my mz = true) (h2 : zv kx ky kz = false) (h3 : zv mx my mz = false) (h4 : shr rn rd = true) (h5 : shr sn sd = true) (hgt : rn * sd < sn * rd) (w : World) :
    Calls Try.prog 8 #[.agg #[.int .i64 kx, .int .i64 ky, .int .i64 kz], .agg #[.int .i64 mx, .int .i64 my, .int .i64 mz], .agg #[.int .i64 rn, .int .i64 rd], .agg #[.int .i64 sn, .int .i64 sd], .int .i64 e, .int .i64 f] w fun e_ w' => e_ = .returned (.bool true) ∧ Below w.heap.size w w' := by
  have pb : (0 ≤ sn * rd ∧ sn * rd ≤ 100000000) ∧ 0 ≤ rn * sd ∧ rn * sd ≤ 100000000 := by
    obtain ⟨_, _, _, _⟩ := shr_iff.1 h4; obtain ⟨_, _, _, _⟩ := shr_iff.1 h5; have a1 := mul_co (m := 10000) (k := 10000) (a := sn) (b := rd) ⟨by omega, by omega⟩ ⟨by omega, by omega⟩; have a2 := mul_co (m := 10000) (k := 10000) (a := rn) (b := sd) ⟨by omega, by omega⟩ ⟨by omega, by omega⟩; have a3 : 0 ≤ sn * rd := Int.mul_nonneg (by omega) (by omega); have a4 : 0 ≤ rn * sd := Int.mul_nonneg (by omega) (by omega); omega
  have pw0 : IntKind.i64.wrap (sn * rd) = sn * rd := IntWalk.i64_in _ ⟨by omega, by omega⟩
  have pq0 : wrap64 (sn * rd) = sn * rd := IntWalk.wrap64_in _ ⟨by omega, by omega⟩
  have pw1 : IntKind.i64.wrap (rn * sd) = rn * sd := IntWalk.i64_in _ ⟨by omega, by omega⟩
  have pq1 : wrap64 (rn * sd) = rn * sd := IntWalk.wrap64_in _ ⟨by omega, by omega⟩
  clear pb
  have JN := Lib.hid irn
  clear irn
  have JD := Lib.hid ird
  clear ird
  have LN := Lib.hid isn
  clear isn
  have LD := Lib.hid isd
  clear isd
  have H0 := Lib.hid h0
  clear h0
  have H1 := Lib.hid h1
  clear h1
  have z2_ := fun W => vec_eq (a := kx) (b := ky) (c := kz) (x := 0) (y := 0) (z := 0) (r := false) h2 W
  clear h2
  have z3_ := fun W => vec_eq (a := mx) (b := my) (c := mz) (x := 0) (y := 0) (z := 0) (r := false) h3 W
  clear h3
  have H4 := Lib.hid h4
  clear h4
  have H5 := Lib.hid h5
  clear h5
  have k0 : World.cell? ((((w.alloc (.cells #[.int .i64 kx, .int .i64 ky, .int .i64 kz] 23)).alloc (.cells #[.int .i64 mx, .int .i64 my, .int .i64 mz] 23)).alloc (.cells #[.int .i64 rn, .int .i64 rd] 27)).alloc (.cells #[.int .i64 sn, .int .i64 sd] 27)) ⟨w.heap.size, 0, none⟩ = some (.int .i64 kx) := by simp [go_sem]
  have k1 : World.cell? ((((w.alloc (.cells #[.int .i64 kx, .int .i64 ky, .int .i64 kz] 23)).alloc (.cells #[.int .i64 mx, .int .i64 my, .int .i64 mz] 23)).alloc (.cells #[.int .i64 rn, .int .i64 rd] 27)).alloc (.cells #[.int .i64 sn, .int .i64 sd] 27)) ⟨w.heap.size, 1, none⟩ = some (.int .i64 ky) := by simp [go_sem]
  have k2 : World.cell? ((((w.alloc (.cells #[.int .i64 kx, .int .i64 ky, .int .i64 kz] 23)).alloc (.cells #[.int .i64 mx, .int .i64 my, .int .i64 mz] 23)).alloc (.cells #[.int .i64 rn, .int .i64 rd] 27)).alloc (.cells #[.int .i64 sn, .int .i64 sd] 27)) ⟨w.heap.size, 2, none⟩ = some (.int .i64 kz) := by simp [go_sem]
  have lk : w.heap.size < ((((w.alloc (.cells #[.int .i64 kx, .int .i64 ky, .int .i64 kz] 23)).alloc (.cells #[.int .i64 mx, .int .i64 my, .int .i64 mz] 23)).alloc (.cells #[.int .i64 rn, .int .i64 rd] 27)).alloc (.cells #[.int .i64 sn, .int .i64 sd] 27)).heap.size := by simp <;> omega
  have m0 : World.cell? ((((w.alloc (.cells #[.int .i64 kx, .int .i64 ky, .int .i64 kz] 23)).alloc (.cells #[.int .i64 mx, .int .i64 my, .int .i64 mz] 23)).alloc (.cells #[.int .i64 rn, .int .i64 rd] 27)).alloc (.cells #[.int .i64 sn, .int .i64 sd] 27)) ⟨w.heap.size + 1, 0, none⟩ = some (.int .i64 mx) := by simp [go_sem]
  have m1 : World.cell? ((((w.alloc (.cells #[.int .i64 kx, .int .i64 ky, .int .i64 kz] 23)).alloc (.cells #[.int .i64 mx, .int .i64 my, .int .i64 mz] 23)).alloc (.cells #[.int .i64 rn, .int .i64 rd] 27)).alloc (.cells #[.int .i64 sn, .int .i64 sd] 27)) ⟨w.heap.size + 1, 1, none⟩ = some (.int .i64 my) := by simp [go_sem]
  have m2 : World.cell? ((((w.alloc (.cells #[.int .i64 kx, .int .i64 ky, .int .i64 kz] 23)).alloc (.cells #[.int .i64 mx, .int .i64 my, .int .i64 mz] 23)).alloc (.cells #[.int .i64 rn, .int .i64 rd] 27)).alloc (.cells #[.int .i64 sn, .int .i64 sd] 27)) ⟨w.heap.size + 1, 2, none⟩ = some (.int .i64 mz) := by simp [go_sem]
  have lm : w.heap.size + 1 < ((((w.alloc (.cells #[.int .i64 kx, .int .i64 ky, .int .i64 kz] 23)).alloc (.cells #[.int .i64 mx, .int .i64 my, .int .i64 mz] 23)).alloc (.cells #[.int .i64 rn, .int .i64 rd] 27)).alloc (.cells #[.int .i64 sn, .int .i64 sd] 27)).heap.size := by simp <;> omega
  have r0 : World.cell? ((((w.alloc (.cells #[.int .i64 kx, .int .i64 ky, .int .i64 kz] 23)).alloc (.cells #[.int .i64 mx, .int .i64 my, .int .i64 mz] 23)).alloc (.cells #[.int .i64 rn, .int .i64 rd] 27)).alloc (.cells #[.int .i64 sn, .int .i64 sd] 27)) ⟨w.heap.size + 1 + 1, 0, none⟩ = some (.int .i64 rn) := by simp [go_sem]
  have r1 : World.cell? ((((w.alloc (.cells #[.int .i64 kx, .int .i64 ky, .int .i64 kz] 23)).alloc (.cells #[.int .i64 mx, .int .i64 my, .int .i64 mz] 23)).alloc (.cells #[.int .i64 rn, .int .i64 rd] 27)).alloc (.cells #[.int .i64 sn, .int .i64 sd] 27)) ⟨w.heap.size + 1 + 1, 1, none⟩ = some (.int .i64 rd) := by simp [go_sem]
  have lr : w.heap.size + 1 + 1 < ((((w.alloc (.cells #[.int .i64 kx, .int .i64 ky, .int .i64 kz] 23)).alloc (.cells #[.int .i64 mx, .int .i64 my, .int .i64 mz] 23)).alloc (.cells #[.int .i64 rn, .int .i64 rd] 27)).alloc (.cells #[.int .i64 sn, .int .i64 sd] 27)).heap.size := by simp <;> omega
  have s0 : World.cell? ((((w.alloc (.cells #[.int .i64 kx, .int .i64 ky, .int .i64 kz] 23)).alloc (.cells #[.int .i64 mx, .int .i64 my, .int .i64 mz] 23)).alloc (.cells #[.int .i64 rn, .int .i64 rd] 27)).alloc (.cells #[.int .i64 sn, .int .i64 sd] 27)) ⟨w.heap.size + 1 + 1 + 1, 0, none⟩ = some (.int .i64 sn) := by simp [go_sem]
  have s1 : World.cell? ((((w.alloc (.cells #[.int .i64 kx, .int .i64 ky, .int .i64 kz] 23)).alloc (.cells #[.int .i64 mx, .int .i64 my, .int .i64 mz] 23)).alloc (.cells #[.int .i64 rn, .int .i64 rd] 27)).alloc (.cells #[.int .i64 sn, .int .i64 sd] 27)) ⟨w.heap.size + 1 + 1 + 1, 1, none⟩ = some (.int .i64 sd) := by simp [go_sem]
  have ls : w.heap.size + 1 + 1 + 1 < ((((w.alloc (.cells #[.int .i64 kx, .int .i64 ky, .int .i64 kz] 23)).alloc (.cells #[.int .i64 mx, .int .i64 my, .int .i64 mz] 23)).alloc (.cells #[.int .i64 rn, .int .i64 rd] 27)).alloc (.cells #[.int .i64 sn, .int .i64 sd] 27)).heap.size := by simp <;> omega
  have HB := Lib.hid (show Below w.heap.size w ((((w.alloc (.cells #[.int .i64 kx, .int .i64 ky, .int .i64 kz] 23)).alloc (.cells #[.int .i64 mx, .int .i64 my, .int .i64 mz] 23)).alloc (.cells #[.int .i64 rn, .int .i64 rd] 27)).alloc (.cells #[.int .i64 sn, .int .i64 sd] 27)) from (((((Below.refl _ _).alloc (by simp <;> omega) _).alloc (by simp <;> omega) _).alloc (by simp <;> omega) _).alloc (by simp <;> omega) _))
  go_enter Try.func8, Try.ntmps8
  go_wp2_with fail
  generalize (((w.alloc (.cells #[.int .i64 kx, .int .i64 ky, .int .i64 kz] 23)).alloc (.cells #[.int .i64 mx, .int .i64 my, .int .i64 mz] 23)).alloc (.cells #[.int .i64 rn, .int .i64 rd] 27)).alloc (.cells #[.int .i64 sn, .int .i64 sd] 27) = w1 at *
  with_reducible refine (head_any _).mono ?_
  rintro e_ w2 ⟨rfl, hb⟩
  replace HB := Lib.hid (on_below HB.out hb)
  replace k0 := keepc hb k0
  replace k1 := keepc hb k1
  replace k2 := keepc hb k2
  replace m0 := keepc hb m0
  replace m1 := keepc hb m1
  replace m2 := keepc hb m2
  replace r0 := keepc hb r0
  replace r1 := keepc hb r1
  replace s0 := keepc hb s0
  replace s1 := keepc hb s1
  replace lk := Nat.lt_of_lt_of_le lk hb.size
  replace lm := Nat.lt_of_lt_of_le lm hb.size
  replace lr := Nat.lt_of_lt_of_le lr hb.size
  replace ls := Nat.lt_of_lt_of_le ls hb.size
  clear hb
  go_wp2_with fail
  with_reducible refine (valid_is kx ky kz true H0.out _).mono ?_
  rintro e_ w3 ⟨rfl, hb⟩
  replace HB := Lib.hid (on_below HB.out hb)
  replace k0 := keepc hb k0
  replace k1 := keepc hb k1
  replace k2 := keepc hb k2
  replace m0 := keepc hb m0
  replace m1 := keepc hb m1
  replace m2 := keepc hb m2
  replace r0 := keepc hb r0
  replace r1 := keepc hb r1
  replace s0 := keepc hb s0
  replace s1 := keepc hb s1
  replace lk := Nat.lt_of_lt_of_le lk hb.size
  replace lm := Nat.lt_of_lt_of_le lm hb.size
  replace lr := Nat.lt_of_lt_of_le lr hb.size
  replace ls := Nat.lt_of_lt_of_le ls hb.size
  clear hb
  go_wp2_with fail
  with_reducible refine (valid_is mx my mz true H1.out _).mono ?_
  rintro e_ w4 ⟨rfl, hb⟩
  replace HB := Lib.hid (on_below HB.out hb)
  replace k0 := keepc hb k0
  replace k1 := keepc hb k1
  replace k2 := keepc hb k2
  replace m0 := keepc hb m0
  replace m1 := keepc hb m1
  replace m2 := keepc hb m2
  replace r0 := keepc hb r0
  replace r1 := keepc hb r1
  replace s0 := keepc hb s0
  replace s1 := keepc hb s1
  replace lk := Nat.lt_of_lt_of_le lk hb.size
  replace lm := Nat.lt_of_lt_of_le lm hb.size
  replace lr := Nat.lt_of_lt_of_le lr hb.size
  replace ls := Nat.lt_of_lt_of_le ls hb.size
  clear hb
  go_wp2_with fail
  with_reducible refine (part_is rn rd true JN.out JD.out H4.out _).mono ?_
  rintro e_ w5 ⟨rfl, hb⟩
  replace HB := Lib.hid (on_below HB.out hb)
  replace k0 := keepc hb k0
  replace k1 := keepc hb k1
  replace k2 := keepc hb k2
  replace m0 := keepc hb m0
  replace m1 := keepc hb m1
  replace m2 := keepc hb m2
  replace r0 := keepc hb r0
  replace r1 := keepc hb r1
  replace s0 := keepc hb s0
  replace s1 := keepc hb s1
  replace lk := Nat.lt_of_lt_of_le lk hb.size
  replace lm := Nat.lt_of_lt_of_le lm hb.size
  replace lr := Nat.lt_of_lt_of_le lr hb.size
  replace ls := Nat.lt_of_lt_of_le ls hb.size
  clear hb
  go_wp2_with fail
  with_reducible refine (part_is sn sd true LN.out LD.out H5.out _).mono ?_
  rintro e_ w6 ⟨rfl, hb⟩
  replace HB := Lib.hid (on_below HB.out hb)
  replace k0 := keepc hb k0
  replace k1 := keepc hb k1
  replace k2 := keepc hb k2
  replace m0 := keepc hb m0
  replace m1 := keepc hb m1
  replace m2 := keepc hb m2
  replace r0 := keepc hb r0
  replace r1 := keepc hb r1
  replace s0 := keepc hb s0
  replace s1 := keepc hb s1
  replace lk := Nat.lt_of_lt_of_le lk hb.size
  replace lm := Nat.lt_of_lt_of_le lm hb.size
  replace lr := Nat.lt_of_lt_of_le lr hb.size
  replace ls := Nat.lt_of_lt_of_le ls hb.size
  clear hb
  go_wp2_with fail
  go_ret
  exact ⟨rfl, HB.out⟩
theorem vld_01 : shr 0 1 = true := by decide
theorem vld_11 : shr 1 1 = true := by decide
theorem scale_dt (e a b c : Int) : dt (e * a) (e * b) (e * c) (e * a) (e * b) (e * c) = e * e * dt a b c a b c := dt_scale e e a b c a b c
theorem law_any (kx : Int) (ikx : I64 kx) (ky : Int) (iky : I64 ky) (kz : Int) (ikz : I64 kz) (mx : Int) (imx : I64 mx) (my : Int) (imy : I64 my) (mz : Int) (imz : I64 mz) (rn : Int) (irn : I64 rn) (rd : Int) (ird : I64 rd) (sn : Int) (isn : I64 sn) (sd : Int) (isd : I64 sd) (e : Int) (ie : I64 e) (f : Int) (if_ : I64 f) (w : World) :
    Calls Try.prog 8 #[.agg #[.int .i64 kx, .int .i64 ky, .int .i64 kz], .agg #[.int .i64 mx, .int .i64 my, .int .i64 mz], .agg #[.int .i64 rn, .int .i64 rd], .agg #[.int .i64 sn, .int .i64 sd], .int .i64 e, .int .i64 f] w fun e_ w' => e_ = .returned (.bool true) ∧ Below w.heap.size w w' := by
  cases h0 : vv kx ky kz
  · exact law_1 kx ky kz mx my mz rn rd sn sd e f irn ird isn isd h0 w
  cases h1 : vv mx my mz
  · exact law_2 kx ky kz mx my mz rn rd sn sd e f irn ird isn isd h0 h1 w
  by_cases g2 : zv kx ky kz = true
  · exact law_3 kx ky kz mx my mz rn rd sn sd e f irn ird isn isd h0 h1 g2 w
  have h2 : zv kx ky kz = false := by simpa using g2
  clear g2
  by_cases g3 : zv mx my mz = true
  · exact law_4 kx ky kz mx my mz rn rd sn sd e f irn ird isn isd h0 h1 h2 g3 w
  have h3 : zv mx my mz = false := by simpa using g3
  clear g3
  cases h4 : shr rn rd
  · exact law_5 kx ky kz mx my mz rn rd sn sd e f irn ird isn isd h0 h1 h2 h3 h4 w
  cases h5 : shr sn sd
  · exact law_6 kx ky kz mx my mz rn rd sn sd e f irn ird isn isd h0 h1 h2 h3 h4 h5 w
  rcases Int.lt_or_le (rn * sd) (sn * rd) with hgt | hle
  · exact law_7 kx ky kz mx my mz rn rd sn sd e f irn ird isn isd h0 h1 h2 h3 h4 h5 hgt w
  have d1 : dr kx ky kz = true := by unfold dr; rw [h0, h2]; rfl
  have d2 : dr mx my mz = true := by unfold dr; rw [h1, h3]; rfl
  have A0 := dt_nn kx ky kz
  have B0 := dt_nn mx my mz
  have s1 := shr_iff.1 h4
  have s2 := shr_iff.1 h5
  have r1 := (vld_iff _ _).1 s1.1
  have r2 := (vld_iff _ _).1 s2.1
  have i0 : I64 0 := ⟨by omega, by omega⟩
  have i1 : I64 1 := ⟨by omega, by omega⟩
  have a7 : 1 ≤ e → 1 ≤ f → vv (e * kx) (e * ky) (e * kz) = true → vv (f * mx) (f * my) (f * mz) = true → ∀ r_, nr (dt kx ky kz mx my mz) (dt kx ky kz kx ky kz) (dt mx my mz mx my mz) rn rd = r_ → (∀ W, Calls Try.prog 20 #[.agg #[.int .i64 (e * kx), .int .i64 (e * ky), .int .i64 (e * kz)], .agg #[.int .i64 (f * mx), .int .i64 (f * my), .int .i64 (f * mz)], .agg #[.int .i64 rn, .int .i64 rd]] W fun e_ w' => e_ = .returned (.tuple #[.bool r_, .int .i64 0]) ∧ Below W.heap.size W w') := by
    intro e1 f1 c1 c2 r_ hr_ W
    have dz : ∀ {x a b c : Int}, 1 ≤ x → zv a b c = false → zv (x * a) (x * b) (x * c) = false := fun hx hz => by
      rw [zv_f] at hz ⊢
      intro h
      apply hz
      have hx0 : ¬ _ = (0 : Int) := Int.ne_of_gt (Int.lt_of_lt_of_le Int.zero_lt_one hx)
      exact ⟨(Int.mul_eq_zero.1 h.1).resolve_left hx0, (Int.mul_eq_zero.1 h.2.1).resolve_left hx0, (Int.mul_eq_zero.1 h.2.2).resolve_left hx0⟩
    have d3 : dr (e * kx) (e * ky) (e * kz) = true := by unfold dr; rw [c1, dz e1 h2]; rfl
    have d4 : dr (f * mx) (f * my) (f * mz) = true := by unfold dr; rw [c2, dz f1 h3]; rfl
    exact near_is _ _ _ _ _ _ rn rd 0 r_ irn ird (by rw [d3, d4, h4]; rfl) (by rw [dt_scale, scale_dt, scale_dt, nr_scale (by omega) (by omega)]; rw [hr_]; exact Bool.true_and _) W
  have hone : nr (dt kx ky kz mx my mz) (dt kx ky kz kx ky kz) (dt mx my mz mx my mz) 1 1 = ((kx * my == ky * mx && ky * mz == kz * my && kz * mx == kx * mz) && decide (0 < dt kx ky kz mx my mz)) := by
    rw [nr_one]
    congr 1
    rw [Bool.eq_iff_iff, decide_eq_true_eq]
    simp [and_assoc]
  have hzero := nr_zero (dt kx ky kz mx my mz) (dt kx ky kz kx ky kz) (dt mx my mz mx my mz)
  have C1 : ∀ r_, nr (dt kx ky kz mx my mz) (dt kx ky kz kx ky kz) (dt mx my mz mx my mz) rn rd = r_ → (∀ W, Calls Try.prog 20 #[.agg #[.int .i64 kx, .int .i64 ky, .int .i64 kz], .agg #[.int .i64 mx, .int .i64 my, .int .i64 mz], .agg #[.int .i64 rn, .int .i64 rd]] W fun e_ w' => e_ = .returned (.tuple #[.bool r_, .int .i64 0]) ∧ Below W.heap.size W w') := fun r_ hr W => near_is kx ky kz mx my mz rn rd 0 r_ irn ird (by rw [d1, d2, h4]; rfl) (by rw [hr]; exact Bool.true_and _) W
  have C2 : ∀ r_, nr (dt kx ky kz mx my mz) (dt kx ky kz kx ky kz) (dt mx my mz mx my mz) rn rd = r_ → (∀ W, Calls Try.prog 20 #[.agg #[.int .i64 mx, .int .i64 my, .int .i64 mz], .agg #[.int .i64 kx, .int .i64 ky, .int .i64 kz], .agg #[.int .i64 rn, .int .i64 rd]] W fun e_ w' => e_ = .returned (.tuple #[.bool r_, .int .i64 0]) ∧ Below W.heap.size W w') := fun r_ hr W => near_is mx my mz kx ky kz rn rd 0 r_ irn ird (by rw [d1, d2, h4]; rfl) (by rw [dt_comm mx my mz kx ky kz, nr_comm, hr]; exact Bool.true_and _) W
  have C3 : ∀ r_, nr (dt kx ky kz mx my mz) (dt kx ky kz kx ky kz) (dt mx my mz mx my mz) sn sd = r_ → (∀ W, Calls Try.prog 20 #[.agg #[.int .i64 kx, .int .i64 ky, .int .i64 kz], .agg #[.int .i64 mx, .int .i64 my, .int .i64 mz], .agg #[.int .i64 sn, .int .i64 sd]] W fun e_ w' => e_ = .returned (.tuple #[.bool r_, .int .i64 0]) ∧ Below W.heap.size W w') := fun r_ hr W => near_is kx ky kz mx my mz sn sd 0 r_ isn isd (by rw [d1, d2, h5]; rfl) (by rw [hr]; exact Bool.true_and _) W
  have C4 : ∀ r_, nr (dt kx ky kz mx my mz) (dt kx ky kz kx ky kz) (dt mx my mz mx my mz) 0 1 = r_ → (∀ W, Calls Try.prog 20 #[.agg #[.int .i64 kx, .int .i64 ky, .int .i64 kz], .agg #[.int .i64 mx, .int .i64 my, .int .i64 mz], .agg #[.int .i64 0, .int .i64 1]] W fun e_ w' => e_ = .returned (.tuple #[.bool r_, .int .i64 0]) ∧ Below W.heap.size W w') := fun r_ hr W => near_is kx ky kz mx my mz 0 1 0 r_ i0 i1 (by rw [d1, d2, vld_01]; rfl) (by rw [hr]; exact Bool.true_and _) W
  have C5 : ∀ r_, nr (dt kx ky kz mx my mz) (dt kx ky kz kx ky kz) (dt mx my mz mx my mz) 1 1 = r_ → (∀ W, Calls Try.prog 20 #[.agg #[.int .i64 kx, .int .i64 ky, .int .i64 kz], .agg #[.int .i64 mx, .int .i64 my, .int .i64 mz], .agg #[.int .i64 1, .int .i64 1]] W fun e_ w' => e_ = .returned (.tuple #[.bool r_, .int .i64 0]) ∧ Below W.heap.size W w') := fun r_ hr W => near_is kx ky kz mx my mz 1 1 0 r_ i1 i1 (by rw [d1, d2, vld_11]; rfl) (by rw [hr]; exact Bool.true_and _) W
  have C6 := fun W => dot_is kx ky kz mx my mz (dt kx ky kz mx my mz) 0 (by rw [h0, h1]; rfl) rfl W
  by_cases hn : 0 < dt kx ky kz mx my mz
  · rw [decide_eq_true hn] at hzero
    rw [decide_eq_true hn, Bool.and_true] at hone
    cases hP : nr (dt kx ky kz mx my mz) (dt kx ky kz kx ky kz) (dt mx my mz mx my mz) rn rd
    · exact law_82 kx ky kz mx my mz rn rd sn sd e f irn ird isn isd h0 h1 h2 h3 h4 h5 hle (dt kx ky kz mx my mz) _ _ _ _ _ _ _ (C1 _ hP) (C2 _ hP) (C3 _ rfl) (C4 _ hzero) (C5 _ hone) C6 rfl rfl rfl rfl hn (fun _ _ => rfl) (fun _ _ => rfl) (fun p q r s => a7 p q r s _ hP) w
    · exact law_81 kx ky kz mx my mz rn rd sn sd e f irn ird isn isd h0 h1 h2 h3 h4 h5 hle (dt kx ky kz mx my mz) true _ _ _ _ _ _ (C1 _ hP) (C2 _ hP) (C3 _ (nr_mono A0 B0 (by omega) (by omega) hle hP)) (C4 _ hzero) (C5 _ hone) C6 rfl rfl rfl rfl hn (fun _ _ => rfl) (fun _ _ => rfl) (fun p q r s => a7 p q r s _ hP) w
  · rw [decide_eq_false hn] at hzero
    rw [decide_eq_false hn, Bool.and_false] at hone
    have hP : nr (dt kx ky kz mx my mz) (dt kx ky kz kx ky kz) (dt mx my mz mx my mz) rn rd = false := by unfold nr; rw [decide_eq_false hn]; rfl
    exact law_80 kx ky kz mx my mz rn rd sn sd e f irn ird isn isd h0 h1 h2 h3 h4 h5 hle (dt kx ky kz mx my mz) _ _ _ _ _ _ _ (C1 _ hP) (C2 _ hP) (C3 _ rfl) (C4 _ hzero) (C5 _ hone) C6 rfl rfl rfl rfl hn (fun _ _ => rfl) (fun _ _ => rfl) (fun p q r s => a7 p q r s _ hP) w

/-! ### The row -/
open Go.ChangeShapes Go.WideShapes Go.ChangeAt Go.Joins
theorem own : ownKnob Try.prog.godebug = none := by kernel_rfl
noncomputable def laidWorld (os : Os) : World := World.holding Try.prog os ⟨#[], #[], []⟩
theorem laidWorld_met (os : Os) (args : Array Value) : laidMet Try.prog [] ((laidWorld os).forCall (fun _ _ => 0) ⟨#[], args, []⟩).memory :=
  laidMet_of_run' 8 (by kernel_rfl) (by kernel_rfl)

set_option maxRecDepth 100000 in
theorem contract (H : Type) (enc : TypeId × Value → H) (W : World) (base : Nat) (args : Array Value) (ds gs : List (DataW H)) (before : List MemPlace)
    (hval : ∀ (j : Nat) t v, Try.f8.params[j]? = some t → args[j]? = some v → Value.okWide Try.prog W .any base t v)
    (hW : DataW.Whole enc Try.prog Try.f8.params.toList Rows.vectorNearSpec.vars false W args.toList ds gs before) :
    Calls Try.prog 8 args W fun e W' => ∃ v, e = .returned v ∧ Rows.vectorNearSpec.post enc Try.prog Try.f8 false true false false W args v W' := by
  have hW' := hW
  obtain ⟨p, q, hA0, hV, rfl, hfz, hnd⟩ := hW
  have hA : DataW.TrodAll enc Try.prog W 0 (fun _ => true) true Try.f8.params.toList args.toList ds p := hA0
  rw [Try.params8] at hA hval
  obtain ⟨v0, vs0, d0, ds0, p0, q0, hargs, rfl, rfl, h0, r0⟩ := trodAll_cons hA
  obtain ⟨v1, vs1, d1, ds1, p1, q1, rfl, rfl, rfl, h1, r1⟩ := trodAll_cons r0
  obtain ⟨v2, vs2, d2, ds2, p2, q2, rfl, rfl, rfl, h2, r2⟩ := trodAll_cons r1
  obtain ⟨v3, vs3, d3, ds3, p3, q3, rfl, rfl, rfl, h3, r3⟩ := trodAll_cons r2
  obtain ⟨v4, vs4, d4, ds4, p4, q4, rfl, rfl, rfl, h4, r4⟩ := trodAll_cons r3
  obtain ⟨v5, vs5, d5, ds5, p5, q5, rfl, rfl, rfl, h5, r5⟩ := trodAll_cons r4
  obtain ⟨rfl, rfl, rfl⟩ := trodAll_nil r5
  obtain rfl : args = #[v0, v1, v2, v3, v4, v5] := Array.toList_inj.1 hargs
  obtain ⟨rfl, rfl⟩ := trodVars_none hV
  obtain ⟨kx, ky, kz, rfl, rfl, rfl, ikx, iky, ikz⟩ := open_vec (hval 0 23 v0 rfl rfl) h0
  obtain ⟨mx, my, mz, rfl, rfl, rfl, imx, imy, imz⟩ := open_vec (hval 1 23 v1 rfl rfl) h1
  obtain ⟨rn, rd, rfl, rfl, rfl, irn, ird⟩ := open_rat (hval 2 27 v2 rfl rfl) h2
  obtain ⟨sn, sd, rfl, rfl, rfl, isn, isd⟩ := open_rat (hval 3 27 v3 rfl rfl) h3
  obtain ⟨e, rfl, rfl, rfl, ie⟩ := open_int Try.underlying3 (hval 4 3 v4 rfl rfl) h4
  obtain ⟨f, rfl, rfl, rfl, if_⟩ := open_int Try.underlying3 (hval 5 3 v5 rfl rfl) h5
  clear hA0
  refine (law_any kx (wf_i ikx) ky (wf_i iky) kz (wf_i ikz) mx (wf_i imx) my (wf_i imy) mz (wf_i imz) rn (wf_i irn) rd (wf_i ird) sn (wf_i isn) sd (wf_i isd) e (wf_i ie) f (wf_i if_) W).mono fun e W' ⟨he, bel⟩ => ?_
  subst he
  exact ⟨_, rfl, _, _, _, [], _, [], hW', trodAll_mk1 (shut_bool Try.underlying4 _), (trodAll_cons_mk (shut_vec ikx iky ikz) (trodAll_cons_mk (shut_vec imx imy imz) (trodAll_cons_mk (shut_rat irn ird) (trodAll_cons_mk (shut_rat isn isd) (trodAll_cons_mk (shut_int Try.underlying3 ie) (trodAll_cons_mk (shut_int Try.underlying3 if_) trodAll_mk0)))))), rfl, bel.frame _, fun h => by cases h⟩

theorem reads (os : Os) {H : Type} (enc : TypeId × Value → H) : ∃ places, DataW.whole enc Try.prog ((laidWorld os).forCall (fun _ _ => 0) ⟨#[], #[.agg #[.int .i64 0, .int .i64 0, .int .i64 0], .agg #[.int .i64 0, .int .i64 0, .int .i64 0], .agg #[.int .i64 0, .int .i64 0], .agg #[.int .i64 0, .int .i64 0], .int .i64 0, .int .i64 0], []⟩).memory Try.f8.params.toList Rows.vectorNearSpec.vars false (#[.agg #[.int .i64 0, .int .i64 0, .int .i64 0], .agg #[.int .i64 0, .int .i64 0, .int .i64 0], .agg #[.int .i64 0, .int .i64 0], .agg #[.int .i64 0, .int .i64 0], .int .i64 0, .int .i64 0] : Array Value).toList 8 = some ([.agg [.lit (.int .i64 0), .lit (.int .i64 0), .lit (.int .i64 0)], .agg [.lit (.int .i64 0), .lit (.int .i64 0), .lit (.int .i64 0)], .agg [.lit (.int .i64 0), .lit (.int .i64 0)], .agg [.lit (.int .i64 0), .lit (.int .i64 0)], .lit (.int .i64 0), .lit (.int .i64 0)], [], places) :=
  ⟨[], by kernel_rfl⟩

set_option maxRecDepth 100000 in
theorem lifted (os : Os) (started : os.Started) (H : Type) (enc : TypeId × Value → H) (F : Stop.Interp) :
    ReturnsInHanded {} Try.checked os 8 .any ((OpenSpec.ofChange Rows.vectorNearSpec).preRow enc Try.prog Try.f8 Rows.vectorNearRow.domain false Rows.vectorNearRow.laid) (((OpenSpec.ofChange Rows.vectorNearSpec).at F).post enc Try.prog Try.f8 false true false false) := by
  obtain ⟨places, hx⟩ := reads os enc
  refine returnsInHanded_of_row (C := Try.checked) (s := OpenSpec.ofChange Rows.vectorNearSpec) own started (by kernel_rfl) Try.func8
    (witness_row_atRef (enc := enc) (C := Try.checked) false (laidWorld os) #[.agg #[.int .i64 0, .int .i64 0, .int .i64 0], .agg #[.int .i64 0, .int .i64 0, .int .i64 0], .agg #[.int .i64 0, .int .i64 0], .agg #[.int .i64 0, .int .i64 0], .int .i64 0, .int .i64 0] rfl (by kernel_rfl) (by kernel_rfl) (by kernel_rfl)
      (OpenSpec.preRow_of_cond 8 hx (by kernel_rfl) (fun k hk => by cases hk) (by kernel_rfl) (laidWorld_met os _))) ?_
  intro W base args ds gs before hval hW _ hcond _ hL hsh _
  exact contract H enc W base args ds gs before hval hW

/-- The statement. -/
theorem said : Rows.VectorNearSaid :=
  OpenClaim.holds_of_cond 8 Try.f8 rfl rfl rfl rfl rfl rfl rfl ⟨rfl, rfl, rfl, rfl, rfl⟩ rfl rfl rfl rfl rfl (by kernel_rfl) Try.func8 (by kernel_rfl)
    (of_decide_eq_true (by kernel_rfl)) (by unfold Func.isWrapper; first | (rw [if_pos (by decide +kernel)]; kernel_rfl) | (rw [if_neg (by decide +kernel)]; exact ⟨rfl, rfl⟩))
    (fun os started H enc _ F => by rw [OpenClaim.pre_eq_preRow]; exact lifted os started H enc F)
end Go.Proofs.Ytdkofonneebciaa.vectorNear
