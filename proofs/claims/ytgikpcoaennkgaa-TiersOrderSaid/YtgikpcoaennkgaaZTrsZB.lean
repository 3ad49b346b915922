/-
  Places by themselves: areBeside, isRow, isPlace, what is behind; the reference: Near, before, place. Package tiers: indexed.
-/
import Derived.Test.YtgikpcoaennkgaaZTrsZA
import Derived.Test.YtgikpcoaennkgaaZShpV
import Derived.Deep.DeepCutAuto
import Derived.Deep.RegionHeld3
import Derived.Deep.RegionWith
import Derived.Maps.AppendAt
namespace Go.Proofs.Ytgikpcoaennkgaa
open Go.RowKit Go.Sort
open Go.RowKit (Below)
set_option linter.unusedVariables false
set_option linter.unusedSimpArgs false
attribute [local go_sem] Oper.semAt_some

set_option maxRecDepth 100000 in
set_option maxHeartbeats 2000000 in
theorem bsd_0 (pi pa pb px py pz pk qi qa qb qx qy qz qk : Int) (hp : 0 ≤ pb ∧ pb ≤ 99) (hq : 0 ≤ qb ∧ qb ≤ 99) (c0 : (pa == qa) = false) (w : World) :
    Calls Try.prog 27 #[.agg #[.int .i64 pi, .int .i64 pa, .int .i64 pb, .int .i64 px, .int .i64 py, .int .i64 pz, .int .i64 pk], .agg #[.int .i64 qi, .int .i64 qa, .int .i64 qb, .int .i64 qx, .int .i64 qy, .int .i64 qz, .int .i64 qk]] w fun e_ w' => e_ = .returned (.bool false) ∧ Below w.heap.size w w' := by
  have s1 := wr_sub hp hq
  have s2 := wr_sub hq hp
  have s3 := wr_sub' hp hq
  have s4 := wr_sub' hq hp
  clear hp hq
  have p0 : World.cell? ((w.alloc (.cells #[.int .i64 pi, .int .i64 pa, .int .i64 pb, .int .i64 px, .int .i64 py, .int .i64 pz, .int .i64 pk] 28)).alloc (.cells #[.int .i64 qi, .int .i64 qa, .int .i64 qb, .int .i64 qx, .int .i64 qy, .int .i64 qz, .int .i64 qk] 28)) ⟨w.heap.size, 0, none⟩ = some (.int .i64 pi) := by simp [go_sem]
  have p1 : World.cell? ((w.alloc (.cells #[.int .i64 pi, .int .i64 pa, .int .i64 pb, .int .i64 px, .int .i64 py, .int .i64 pz, .int .i64 pk] 28)).alloc (.cells #[.int .i64 qi, .int .i64 qa, .int .i64 qb, .int .i64 qx, .int .i64 qy, .int .i64 qz, .int .i64 qk] 28)) ⟨w.heap.size, 1, none⟩ = some (.int .i64 pa) := by simp [go_sem]
  have p2 : World.cell? ((w.alloc (.cells #[.int .i64 pi, .int .i64 pa, .int .i64 pb, .int .i64 px, .int .i64 py, .int .i64 pz, .int .i64 pk] 28)).alloc (.cells #[.int .i64 qi, .int .i64 qa, .int .i64 qb, .int .i64 qx, .int .i64 qy, .int .i64 qz, .int .i64 qk] 28)) ⟨w.heap.size, 2, none⟩ = some (.int .i64 pb) := by simp [go_sem]
  have p3 : World.cell? ((w.alloc (.cells #[.int .i64 pi, .int .i64 pa, .int .i64 pb, .int .i64 px, .int .i64 py, .int .i64 pz, .int .i64 pk] 28)).alloc (.cells #[.int .i64 qi, .int .i64 qa, .int .i64 qb, .int .i64 qx, .int .i64 qy, .int .i64 qz, .int .i64 qk] 28)) ⟨w.heap.size, 3, none⟩ = some (.int .i64 px) := by simp [go_sem]
  have p4 : World.cell? ((w.alloc (.cells #[.int .i64 pi, .int .i64 pa, .int .i64 pb, .int .i64 px, .int .i64 py, .int .i64 pz, .int .i64 pk] 28)).alloc (.cells #[.int .i64 qi, .int .i64 qa, .int .i64 qb, .int .i64 qx, .int .i64 qy, .int .i64 qz, .int .i64 qk] 28)) ⟨w.heap.size, 4, none⟩ = some (.int .i64 py) := by simp [go_sem]
  have p5 : World.cell? ((w.alloc (.cells #[.int .i64 pi, .int .i64 pa, .int .i64 pb, .int .i64 px, .int .i64 py, .int .i64 pz, .int .i64 pk] 28)).alloc (.cells #[.int .i64 qi, .int .i64 qa, .int .i64 qb, .int .i64 qx, .int .i64 qy, .int .i64 qz, .int .i64 qk] 28)) ⟨w.heap.size, 5, none⟩ = some (.int .i64 pz) := by simp [go_sem]
  have p6 : World.cell? ((w.alloc (.cells #[.int .i64 pi, .int .i64 pa, .int .i64 pb, .int .i64 px, .int .i64 py, .int .i64 pz, .int .i64 pk] 28)).alloc (.cells #[.int .i64 qi, .int .i64 qa, .int .i64 qb, .int .i64 qx, .int .i64 qy, .int .i64 qz, .int .i64 qk] 28)) ⟨w.heap.size, 6, none⟩ = some (.int .i64 pk) := by simp [go_sem]
  have lp : w.heap.size < ((w.alloc (.cells #[.int .i64 pi, .int .i64 pa, .int .i64 pb, .int .i64 px, .int .i64 py, .int .i64 pz, .int .i64 pk] 28)).alloc (.cells #[.int .i64 qi, .int .i64 qa, .int .i64 qb, .int .i64 qx, .int .i64 qy, .int .i64 qz, .int .i64 qk] 28)).heap.size := by simp <;> omega
  have q0 : World.cell? ((w.alloc (.cells #[.int .i64 pi, .int .i64 pa, .int .i64 pb, .int .i64 px, .int .i64 py, .int .i64 pz, .int .i64 pk] 28)).alloc (.cells #[.int .i64 qi, .int .i64 qa, .int .i64 qb, .int .i64 qx, .int .i64 qy, .int .i64 qz, .int .i64 qk] 28)) ⟨w.heap.size + 1, 0, none⟩ = some (.int .i64 qi) := by simp [go_sem]
  have q1 : World.cell? ((w.alloc (.cells #[.int .i64 pi, .int .i64 pa, .int .i64 pb, .int .i64 px, .int .i64 py, .int .i64 pz, .int .i64 pk] 28)).alloc (.cells #[.int .i64 qi, .int .i64 qa, .int .i64 qb, .int .i64 qx, .int .i64 qy, .int .i64 qz, .int .i64 qk] 28)) ⟨w.heap.size + 1, 1, none⟩ = some (.int .i64 qa) := by simp [go_sem]
  have q2 : World.cell? ((w.alloc (.cells #[.int .i64 pi, .int .i64 pa, .int .i64 pb, .int .i64 px, .int .i64 py, .int .i64 pz, .int .i64 pk] 28)).alloc (.cells #[.int .i64 qi, .int .i64 qa, .int .i64 qb, .int .i64 qx, .int .i64 qy, .int .i64 qz, .int .i64 qk] 28)) ⟨w.heap.size + 1, 2, none⟩ = some (.int .i64 qb) := by simp [go_sem]
  have q3 : World.cell? ((w.alloc (.cells #[.int .i64 pi, .int .i64 pa, .int .i64 pb, .int .i64 px, .int .i64 py, .int .i64 pz, .int .i64 pk] 28)).alloc (.cells #[.int .i64 qi, .int .i64 qa, .int .i64 qb, .int .i64 qx, .int .i64 qy, .int .i64 qz, .int .i64 qk] 28)) ⟨w.heap.size + 1, 3, none⟩ = some (.int .i64 qx) := by simp [go_sem]
  have q4 : World.cell? ((w.alloc (.cells #[.int .i64 pi, .int .i64 pa, .int .i64 pb, .int .i64 px, .int .i64 py, .int .i64 pz, .int .i64 pk] 28)).alloc (.cells #[.int .i64 qi, .int .i64 qa, .int .i64 qb, .int .i64 qx, .int .i64 qy, .int .i64 qz, .int .i64 qk] 28)) ⟨w.heap.size + 1, 4, none⟩ = some (.int .i64 qy) := by simp [go_sem]
  have q5 : World.cell? ((w.alloc (.cells #[.int .i64 pi, .int .i64 pa, .int .i64 pb, .int .i64 px, .int .i64 py, .int .i64 pz, .int .i64 pk] 28)).alloc (.cells #[.int .i64 qi, .int .i64 qa, .int .i64 qb, .int .i64 qx, .int .i64 qy, .int .i64 qz, .int .i64 qk] 28)) ⟨w.heap.size + 1, 5, none⟩ = some (.int .i64 qz) := by simp [go_sem]
  have q6 : World.cell? ((w.alloc (.cells #[.int .i64 pi, .int .i64 pa, .int .i64 pb, .int .i64 px, .int .i64 py, .int .i64 pz, .int .i64 pk] 28)).alloc (.cells #[.int .i64 qi, .int .i64 qa, .int .i64 qb, .int .i64 qx, .int .i64 qy, .int .i64 qz, .int .i64 qk] 28)) ⟨w.heap.size + 1, 6, none⟩ = some (.int .i64 qk) := by simp [go_sem]
  have lq : w.heap.size + 1 < ((w.alloc (.cells #[.int .i64 pi, .int .i64 pa, .int .i64 pb, .int .i64 px, .int .i64 py, .int .i64 pz, .int .i64 pk] 28)).alloc (.cells #[.int .i64 qi, .int .i64 qa, .int .i64 qb, .int .i64 qx, .int .i64 qy, .int .i64 qz, .int .i64 qk] 28)).heap.size := by simp <;> omega
  have HB := Lib.hid (show Below w.heap.size w ((w.alloc (.cells #[.int .i64 pi, .int .i64 pa, .int .i64 pb, .int .i64 px, .int .i64 py, .int .i64 pz, .int .i64 pk] 28)).alloc (.cells #[.int .i64 qi, .int .i64 qa, .int .i64 qb, .int .i64 qx, .int .i64 qy, .int .i64 qz, .int .i64 qk] 28)) from (((Below.refl _ _).alloc (by simp <;> omega) _).alloc (by simp <;> omega) _))
  go_enter Try.func27, Try.ntmps27
  go_wp2_with fail
  generalize (w.alloc (.cells #[.int .i64 pi, .int .i64 pa, .int .i64 pb, .int .i64 px, .int .i64 py, .int .i64 pz, .int .i64 pk] 28)).alloc (.cells #[.int .i64 qi, .int .i64 qa, .int .i64 qb, .int .i64 qx, .int .i64 qy, .int .i64 qz, .int .i64 qk] 28) = w1 at *
  go_ret
  exact ⟨rfl, HB.out⟩
set_option maxRecDepth 100000 in
set_option maxHeartbeats 2000000 in
theorem bsd_1 (pi pa pb px py pz pk qi qa qb qx qy qz qk : Int) (hp : 0 ≤ pb ∧ pb ≤ 99) (hq : 0 ≤ qb ∧ qb ≤ 99) (c0 : (pa == qa) = true) (c1 : (pb - qb == 1) = true) (w : World) :
    Calls Try.prog 27 #[.agg #[.int .i64 pi, .int .i64 pa, .int .i64 pb, .int .i64 px, .int .i64 py, .int .i64 pz, .int .i64 pk], .agg #[.int .i64 qi, .int .i64 qa, .int .i64 qb, .int .i64 qx, .int .i64 qy, .int .i64 qz, .int .i64 qk]] w fun e_ w' => e_ = .returned (.bool true) ∧ Below w.heap.size w w' := by
  have s1 := wr_sub hp hq
  have s2 := wr_sub hq hp
  have s3 := wr_sub' hp hq
  have s4 := wr_sub' hq hp
  clear hp hq
  have p0 : World.cell? ((w.alloc (.cells #[.int .i64 pi, .int .i64 pa, .int .i64 pb, .int .i64 px, .int .i64 py, .int .i64 pz, .int .i64 pk] 28)).alloc (.cells #[.int .i64 qi, .int .i64 qa, .int .i64 qb, .int .i64 qx, .int .i64 qy, .int .i64 qz, .int .i64 qk] 28)) ⟨w.heap.size, 0, none⟩ = some (.int .i64 pi) := by simp [go_sem]
  have p1 : World.cell? ((w.alloc (.cells #[.int .i64 pi, .int .i64 pa, .int .i64 pb, .int .i64 px, .int .i64 py, .int .i64 pz, .int .i64 pk] 28)).alloc (.cells #[.int .i64 qi, .int .i64 qa, .int .i64 qb, .int .i64 qx, .int .i64 qy, .int .i64 qz, .int .i64 qk] 28)) ⟨w.heap.size, 1, none⟩ = some (.int .i64 pa) := by simp [go_sem]
  have p2 : World.cell? ((w.alloc (.cells #[.int .i64 pi, .int .i64 pa, .int .i64 pb, .int .i64 px, .int .i64 py, .int .i64 pz, .int .i64 pk] 28)).alloc (.cells #[.int .i64 qi, .int .i64 qa, .int .i64 qb, .int .i64 qx, .int .i64 qy, .int .i64 qz, .int .i64 qk] 28)) ⟨w.heap.size, 2, none⟩ = some (.int .i64 pb) := by simp [go_sem]
  have p3 : World.cell? ((w.alloc (.cells #[.int .i64 pi, .int .i64 pa, .int .i64 pb, .int .i64 px, .int .i64 py, .int .i64 pz, .int .i64 pk] 28)).alloc (.cells #[.int .i64 qi, .int .i64 qa, .int .i64 qb, .int .i64 qx, .int .i64 qy, .int .i64 qz, .int .i64 qk] 28)) ⟨w.heap.size, 3, none⟩ = some (.int .i64 px) := by simp [go_sem]
  have p4 : World.cell? ((w.alloc (.cells #[.int .i64 pi, .int .i64 pa, .int .i64 pb, .int .i64 px, .int .i64 py, .int .i64 pz, .int .i64 pk] 28)).alloc (.cells #[.int .i64 qi, .int .i64 qa, .int .i64 qb, .int .i64 qx, .int .i64 qy, .int .i64 qz, .int .i64 qk] 28)) ⟨w.heap.size, 4, none⟩ = some (.int .i64 py) := by simp [go_sem]
  have p5 : World.cell? ((w.alloc (.cells #[.int .i64 pi, .int .i64 pa, .int .i64 pb, .int .i64 px, .int .i64 py, .int .i64 pz, .int .i64 pk] 28)).alloc (.cells #[.int .i64 qi, .int .i64 qa, .int .i64 qb, .int .i64 qx, .int .i64 qy, .int .i64 qz, .int .i64 qk] 28)) ⟨w.heap.size, 5, none⟩ = some (.int .i64 pz) := by simp [go_sem]
  have p6 : World.cell? ((w.alloc (.cells #[.int .i64 pi, .int .i64 pa, .int .i64 pb, .int .i64 px, .int .i64 py, .int .i64 pz, .int .i64 pk] 28)).alloc (.cells #[.int .i64 qi, .int .i64 qa, .int .i64 qb, .int .i64 qx, .int .i64 qy, .int .i64 qz, .int .i64 qk] 28)) ⟨w.heap.size, 6, none⟩ = some (.int .i64 pk) := by simp [go_sem]
  have lp : w.heap.size < ((w.alloc (.cells #[.int .i64 pi, .int .i64 pa, .int .i64 pb, .int .i64 px, .int .i64 py, .int .i64 pz, .int .i64 pk] 28)).alloc (.cells #[.int .i64 qi, .int .i64 qa, .int .i64 qb, .int .i64 qx, .int .i64 qy, .int .i64 qz, .int .i64 qk] 28)).heap.size := by simp <;> omega
  have q0 : World.cell? ((w.alloc (.cells #[.int .i64 pi, .int .i64 pa, .int .i64 pb, .int .i64 px, .int .i64 py, .int .i64 pz, .int .i64 pk] 28)).alloc (.cells #[.int .i64 qi, .int .i64 qa, .int .i64 qb, .int .i64 qx, .int .i64 qy, .int .i64 qz, .int .i64 qk] 28)) ⟨w.heap.size + 1, 0, none⟩ = some (.int .i64 qi) := by simp [go_sem]
  have q1 : World.cell? ((w.alloc (.cells #[.int .i64 pi, .int .i64 pa, .int .i64 pb, .int .i64 px, .int .i64 py, .int .i64 pz, .int .i64 pk] 28)).alloc (.cells #[.int .i64 qi, .int .i64 qa, .int .i64 qb, .int .i64 qx, .int .i64 qy, .int .i64 qz, .int .i64 qk] 28)) ⟨w.heap.size + 1, 1, none⟩ = some (.int .i64 qa) := by simp [go_sem]
  have q2 : World.cell? ((w.alloc (.cells #[.int .i64 pi, .int .i64 pa, .int .i64 pb, .int .i64 px, .int .i64 py, .int .i64 pz, .int .i64 pk] 28)).alloc (.cells #[.int .i64 qi, .int .i64 qa, .int .i64 qb, .int .i64 qx, .int .i64 qy, .int .i64 qz, .int .i64 qk] 28)) ⟨w.heap.size + 1, 2, none⟩ = some (.int .i64 qb) := by simp [go_sem]
  have q3 : World.cell? ((w.alloc (.cells #[.int .i64 pi, .int .i64 pa, .int .i64 pb, .int .i64 px, .int .i64 py, .int .i64 pz, .int .i64 pk] 28)).alloc (.cells #[.int .i64 qi, .int .i64 qa, .int .i64 qb, .int .i64 qx, .int .i64 qy, .int .i64 qz, .int .i64 qk] 28)) ⟨w.heap.size + 1, 3, none⟩ = some (.int .i64 qx) := by simp [go_sem]
  have q4 : World.cell? ((w.alloc (.cells #[.int .i64 pi, .int .i64 pa, .int .i64 pb, .int .i64 px, .int .i64 py, .int .i64 pz, .int .i64 pk] 28)).alloc (.cells #[.int .i64 qi, .int .i64 qa, .int .i64 qb, .int .i64 qx, .int .i64 qy, .int .i64 qz, .int .i64 qk] 28)) ⟨w.heap.size + 1, 4, none⟩ = some (.int .i64 qy) := by simp [go_sem]
  have q5 : World.cell? ((w.alloc (.cells #[.int .i64 pi, .int .i64 pa, .int .i64 pb, .int .i64 px, .int .i64 py, .int .i64 pz, .int .i64 pk] 28)).alloc (.cells #[.int .i64 qi, .int .i64 qa, .int .i64 qb, .int .i64 qx, .int .i64 qy, .int .i64 qz, .int .i64 qk] 28)) ⟨w.heap.size + 1, 5, none⟩ = some (.int .i64 qz) := by simp [go_sem]
  have q6 : World.cell? ((w.alloc (.cells #[.int .i64 pi, .int .i64 pa, .int .i64 pb, .int .i64 px, .int .i64 py, .int .i64 pz, .int .i64 pk] 28)).alloc (.cells #[.int .i64 qi, .int .i64 qa, .int .i64 qb, .int .i64 qx, .int .i64 qy, .int .i64 qz, .int .i64 qk] 28)) ⟨w.heap.size + 1, 6, none⟩ = some (.int .i64 qk) := by simp [go_sem]
  have lq : w.heap.size + 1 < ((w.alloc (.cells #[.int .i64 pi, .int .i64 pa, .int .i64 pb, .int .i64 px, .int .i64 py, .int .i64 pz, .int .i64 pk] 28)).alloc (.cells #[.int .i64 qi, .int .i64 qa, .int .i64 qb, .int .i64 qx, .int .i64 qy, .int .i64 qz, .int .i64 qk] 28)).heap.size := by simp <;> omega
  have HB := Lib.hid (show Below w.heap.size w ((w.alloc (.cells #[.int .i64 pi, .int .i64 pa, .int .i64 pb, .int .i64 px, .int .i64 py, .int .i64 pz, .int .i64 pk] 28)).alloc (.cells #[.int .i64 qi, .int .i64 qa, .int .i64 qb, .int .i64 qx, .int .i64 qy, .int .i64 qz, .int .i64 qk] 28)) from (((Below.refl _ _).alloc (by simp <;> omega) _).alloc (by simp <;> omega) _))
  go_enter Try.func27, Try.ntmps27
  go_wp2_with fail
  generalize (w.alloc (.cells #[.int .i64 pi, .int .i64 pa, .int .i64 pb, .int .i64 px, .int .i64 py, .int .i64 pz, .int .i64 pk] 28)).alloc (.cells #[.int .i64 qi, .int .i64 qa, .int .i64 qb, .int .i64 qx, .int .i64 qy, .int .i64 qz, .int .i64 qk] 28) = w1 at *
  go_ret
  exact ⟨rfl, HB.out⟩
set_option maxRecDepth 100000 in
set_option maxHeartbeats 2000000 in
theorem bsd_2 (pi pa pb px py pz pk qi qa qb qx qy qz qk : Int) (hp : 0 ≤ pb ∧ pb ≤ 99) (hq : 0 ≤ qb ∧ qb ≤ 99) (c0 : (pa == qa) = true) (c1 : (pb - qb == 1) = false) (c2 : (qb - pb == 1) = true) (w : World) :
    Calls Try.prog 27 #[.agg #[.int .i64 pi, .int .i64 pa, .int .i64 pb, .int .i64 px, .int .i64 py, .int .i64 pz, .int .i64 pk], .agg #[.int .i64 qi, .int .i64 qa, .int .i64 qb, .int .i64 qx, .int .i64 qy, .int .i64 qz, .int .i64 qk]] w fun e_ w' => e_ = .returned (.bool true) ∧ Below w.heap.size w w' := by
  have s1 := wr_sub hp hq
  have s2 := wr_sub hq hp
  have s3 := wr_sub' hp hq
  have s4 := wr_sub' hq hp
  clear hp hq
  have p0 : World.cell? ((w.alloc (.cells #[.int .i64 pi, .int .i64 pa, .int .i64 pb, .int .i64 px, .int .i64 py, .int .i64 pz, .int .i64 pk] 28)).alloc (.cells #[.int .i64 qi, .int .i64 qa, .int .i64 qb, .int .i64 qx, .int .i64 qy, .int .i64 qz, .int .i64 qk] 28)) ⟨w.heap.size, 0, none⟩ = some (.int .i64 pi) := by simp [go_sem]
  have p1 : World.cell? ((w.alloc (.cells #[.int .i64 pi, .int .i64 pa, .int .i64 pb, .int .i64 px, .int .i64 py, .int .i64 pz, .int .i64 pk] 28)).alloc (.cells #[.int .i64 qi, .int .i64 qa, .int .i64 qb, .int .i64 qx, .int .i64 qy, .int .i64 qz, .int .i64 qk] 28)) ⟨w.heap.size, 1, none⟩ = some (.int .i64 pa) := by simp [go_sem]
  have p2 : World.cell? ((w.alloc (.cells #[.int .i64 pi, .int .i64 pa, .int .i64 pb, .int .i64 px, .int .i64 py, .int .i64 pz, .int .i64 pk] 28)).alloc (.cells #[.int .i64 qi, .int .i64 qa, .int .i64 qb, .int .i64 qx, .int .i64 qy, .int .i64 qz, .int .i64 qk] 28)) ⟨w.heap.size, 2, none⟩ = some (.int .i64 pb) := by simp [go_sem]
  have p3 : World.cell? ((w.alloc (.cells #[.int .i64 pi, .int .i64 pa, .int .i64 pb, .int .i64 px, .int .i64 py, .int .i64 pz, .int .i64 pk] 28)).alloc (.cells #[.int .i64 qi, .int .i64 qa, .int .i64 qb, .int .i64 qx, .int .i64 qy, .int .i64 qz, .int .i64 qk] 28)) ⟨w.heap.size, 3, none⟩ = some (.int .i64 px) := by simp [go_sem]
  have p4 : World.cell? ((w.alloc (.cells #[.int .i64 pi, .int .i64 pa, .int .i64 pb, .int .i64 px, .int .i64 py, .int .i64 pz, .int .i64 pk] 28)).alloc (.cells #[.int .i64 qi, .int .i64 qa, .int .i64 qb, .int .i64 qx, .int .i64 qy, .int .i64 qz, .int .i64 qk] 28)) ⟨w.heap.size, 4, none⟩ = some (.int .i64 py) := by simp [go_sem]
  have p5 : World.cell? ((w.alloc (.cells #[.int .i64 pi, .int .i64 pa, .int .i64 pb, .int .i64 px, .int .i64 py, .int .i64 pz, .int .i64 pk] 28)).alloc (.cells #[.int .i64 qi, .int .i64 qa, .int .i64 qb, .int .i64 qx, .int .i64 qy, .int .i64 qz, .int .i64 qk] 28)) ⟨w.heap.size, 5, none⟩ = some (.int .i64 pz) := by simp [go_sem]
  have p6 : World.cell? ((w.alloc (.cells #[.int .i64 pi, .int .i64 pa, .int .i64 pb, .int .i64 px, .int .i64 py, .int .i64 pz, .int .i64 pk] 28)).alloc (.cells #[.int .i64 qi, .int .i64 qa, .int .i64 qb, .int .i64 qx, .int .i64 qy, .int .i64 qz, .int .i64 qk] 28)) ⟨w.heap.size, 6, none⟩ = some (.int .i64 pk) := by simp [go_sem]
  have lp : w.heap.size < ((w.alloc (.cells #[.int .i64 pi, .int .i64 pa, .int .i64 pb, .int .i64 px, .int .i64 py, .int .i64 pz, .int .i64 pk] 28)).alloc (.cells #[.int .i64 qi, .int .i64 qa, .int .i64 qb, .int .i64 qx, .int .i64 qy, .int .i64 qz, .int .i64 qk] 28)).heap.size := by simp <;> omega
  have q0 : World.cell? ((w.alloc (.cells #[.int .i64 pi, .int .i64 pa, .int .i64 pb, .int .i64 px, .int .i64 py, .int .i64 pz, .int .i64 pk] 28)).alloc (.cells #[.int .i64 qi, .int .i64 qa, .int .i64 qb, .int .i64 qx, .int .i64 qy, .int .i64 qz, .int .i64 qk] 28)) ⟨w.heap.size + 1, 0, none⟩ = some (.int .i64 qi) := by simp [go_sem]
  have q1 : World.cell? ((w.alloc (.cells #[.int .i64 pi, .int .i64 pa, .int .i64 pb, .int .i64 px, .int .i64 py, .int .i64 pz, .int .i64 pk] 28)).alloc (.cells #[.int .i64 qi, .int .i64 qa, .int .i64 qb, .int .i64 qx, .int .i64 qy, .int .i64 qz, .int .i64 qk] 28)) ⟨w.heap.size + 1, 1, none⟩ = some (.int .i64 qa) := by simp [go_sem]
  have q2 : World.cell? ((w.alloc (.cells #[.int .i64 pi, .int .i64 pa, .int .i64 pb, .int .i64 px, .int .i64 py, .int .i64 pz, .int .i64 pk] 28)).alloc (.cells #[.int .i64 qi, .int .i64 qa, .int .i64 qb, .int .i64 qx, .int .i64 qy, .int .i64 qz, .int .i64 qk] 28)) ⟨w.heap.size + 1, 2, none⟩ = some (.int .i64 qb) := by simp [go_sem]
  have q3 : World.cell? ((w.alloc (.cells #[.int .i64 pi, .int .i64 pa, .int .i64 pb, .int .i64 px, .int .i64 py, .int .i64 pz, .int .i64 pk] 28)).alloc (.cells #[.int .i64 qi, .int .i64 qa, .int .i64 qb, .int .i64 qx, .int .i64 qy, .int .i64 qz, .int .i64 qk] 28)) ⟨w.heap.size + 1, 3, none⟩ = some (.int .i64 qx) := by simp [go_sem]
  have q4 : World.cell? ((w.alloc (.cells #[.int .i64 pi, .int .i64 pa, .int .i64 pb, .int .i64 px, .int .i64 py, .int .i64 pz, .int .i64 pk] 28)).alloc (.cells #[.int .i64 qi, .int .i64 qa, .int .i64 qb, .int .i64 qx, .int .i64 qy, .int .i64 qz, .int .i64 qk] 28)) ⟨w.heap.size + 1, 4, none⟩ = some (.int .i64 qy) := by simp [go_sem]
  have q5 : World.cell? ((w.alloc (.cells #[.int .i64 pi, .int .i64 pa, .int .i64 pb, .int .i64 px, .int .i64 py, .int .i64 pz, .int .i64 pk] 28)).alloc (.cells #[.int .i64 qi, .int .i64 qa, .int .i64 qb, .int .i64 qx, .int .i64 qy, .int .i64 qz, .int .i64 qk] 28)) ⟨w.heap.size + 1, 5, none⟩ = some (.int .i64 qz) := by simp [go_sem]
  have q6 : World.cell? ((w.alloc (.cells #[.int .i64 pi, .int .i64 pa, .int .i64 pb, .int .i64 px, .int .i64 py, .int .i64 pz, .int .i64 pk] 28)).alloc (.cells #[.int .i64 qi, .int .i64 qa, .int .i64 qb, .int .i64 qx, .int .i64 qy, .int .i64 qz, .int .i64 qk] 28)) ⟨w.heap.size + 1, 6, none⟩ = some (.int .i64 qk) := by simp [go_sem]
  have lq : w.heap.size + 1 < ((w.alloc (.cells #[.int .i64 pi, .int .i64 pa, .int .i64 pb, .int .i64 px, .int .i64 py, .int .i64 pz, .int .i64 pk] 28)).alloc (.cells #[.int .i64 qi, .int .i64 qa, .int .i64 qb, .int .i64 qx, .int .i64 qy, .int .i64 qz, .int .i64 qk] 28)).heap.size := by simp <;> omega
  have HB := Lib.hid (show Below w.heap.size w ((w.alloc (.cells #[.int .i64 pi, .int .i64 pa, .int .i64 pb, .int .i64 px, .int .i64 py, .int .i64 pz, .int .i64 pk] 28)).alloc (.cells #[.int .i64 qi, .int .i64 qa, .int .i64 qb, .int .i64 qx, .int .i64 qy, .int .i64 qz, .int .i64 qk] 28)) from (((Below.refl _ _).alloc (by simp <;> omega) _).alloc (by simp <;> omega) _))
  go_enter Try.func27, Try.ntmps27
  go_wp2_with fail
  generalize (w.alloc (.cells #[.int .i64 pi, .int .i64 pa, .int .i64 pb, .int .i64 px, .int .i64 py, .int .i64 pz, .int .i64 pk] 28)).alloc (.cells #[.int .i64 qi, .int .i64 qa, .int .i64 qb, .int .i64 qx, .int .i64 qy, .int .i64 qz, .int .i64 qk] 28) = w1 at *
  go_ret
  exact ⟨rfl, HB.out⟩
set_option maxRecDepth 100000 in
set_option maxHeartbeats 2000000 in
theorem bsd_3 (pi pa pb px py pz pk qi qa qb qx qy qz qk : Int) (hp : 0 ≤ pb ∧ pb ≤ 99) (hq : 0 ≤ qb ∧ qb ≤ 99) (c0 : (pa == qa) = true) (c1 : (pb - qb == 1) = false) (c2 : (qb - pb == 1) = false) (w : World) :
    Calls Try.prog 27 #[.agg #[.int .i64 pi, .int .i64 pa, .int .i64 pb, .int .i64 px, .int .i64 py, .int .i64 pz, .int .i64 pk], .agg #[.int .i64 qi, .int .i64 qa, .int .i64 qb, .int .i64 qx, .int .i64 qy, .int .i64 qz, .int .i64 qk]] w fun e_ w' => e_ = .returned (.bool false) ∧ Below w.heap.size w w' := by
  have s1 := wr_sub hp hq
  have s2 := wr_sub hq hp
  have s3 := wr_sub' hp hq
  have s4 := wr_sub' hq hp
  clear hp hq
  have p0 : World.cell? ((w.alloc (.cells #[.int .i64 pi, .int .i64 pa, .int .i64 pb, .int .i64 px, .int .i64 py, .int .i64 pz, .int .i64 pk] 28)).alloc (.cells #[.int .i64 qi, .int .i64 qa, .int .i64 qb, .int .i64 qx, .int .i64 qy, .int .i64 qz, .int .i64 qk] 28)) ⟨w.heap.size, 0, none⟩ = some (.int .i64 pi) := by simp [go_sem]
  have p1 : World.cell? ((w.alloc (.cells #[.int .i64 pi, .int .i64 pa, .int .i64 pb, .int .i64 px, .int .i64 py, .int .i64 pz, .int .i64 pk] 28)).alloc (.cells #[.int .i64 qi, .int .i64 qa, .int .i64 qb, .int .i64 qx, .int .i64 qy, .int .i64 qz, .int .i64 qk] 28)) ⟨w.heap.size, 1, none⟩ = some (.int .i64 pa) := by simp [go_sem]
  have p2 : World.cell? ((w.alloc (.cells #[.int .i64 pi, .int .i64 pa, .int .i64 pb, .int .i64 px, .int .i64 py, .int .i64 pz, .int .i64 pk] 28)).alloc (.cells #[.int .i64 qi, .int .i64 qa, .int .i64 qb, .int .i64 qx, .int .i64 qy, .int .i64 qz, .int .i64 qk] 28)) ⟨w.heap.size, 2, none⟩ = some (.int .i64 pb) := by simp [go_sem]
  have p3 : World.cell? ((w.alloc (.cells #[.int .i64 pi, .int .i64 pa, .int .i64 pb, .int .i64 px, .int .i64 py, .int .i64 pz, .int .i64 pk] 28)).alloc (.cells #[.int .i64 qi, .int .i64 qa, .int .i64 qb, .int .i64 qx, .int .i64 qy, .int .i64 qz, .int .i64 qk] 28)) ⟨w.heap.size, 3, none⟩ = some (.int .i64 px) := by simp [go_sem]
  have p4 : World.cell? ((w.alloc (.cells #[.int .i64 pi, .int .i64 pa, .int .i64 pb, .int .i64 px, .int .i64 py, .int .i64 pz, .int .i64 pk] 28)).alloc (.cells #[.int .i64 qi, .int .i64 qa, .int .i64 qb, .int .i64 qx, .int .i64 qy, .int .i64 qz, .int .i64 qk] 28)) ⟨w.heap.size, 4, none⟩ = some (.int .i64 py) := by simp [go_sem]
  have p5 : World.cell? ((w.alloc (.cells #[.int .i64 pi, .int .i64 pa, .int .i64 pb, .int .i64 px, .int .i64 py, .int .i64 pz, .int .i64 pk] 28)).alloc (.cells #[.int .i64 qi, .int .i64 qa, .int .i64 qb, .int .i64 qx, .int .i64 qy, .int .i64 qz, .int .i64 qk] 28)) ⟨w.heap.size, 5, none⟩ = some (.int .i64 pz) := by simp [go_sem]
  have p6 : World.cell? ((w.alloc (.cells #[.int .i64 pi, .int .i64 pa, .int .i64 pb, .int .i64 px, .int .i64 py, .int .i64 pz, .int .i64 pk] 28)).alloc (.cells #[.int .i64 qi, .int .i64 qa, .int .i64 qb, .int .i64 qx, .int .i64 qy, .int .i64 qz, .int .i64 qk] 28)) ⟨w.heap.size, 6, none⟩ = some (.int .i64 pk) := by simp [go_sem]
  have lp : w.heap.size < ((w.alloc (.cells #[.int .i64 pi, .int .i64 pa, .int .i64 pb, .int .i64 px, .int .i64 py, .int .i64 pz, .int .i64 pk] 28)).alloc (.cells #[.int .i64 qi, .int .i64 qa, .int .i64 qb, .int .i64 qx, .int .i64 qy, .int .i64 qz, .int .i64 qk] 28)).heap.size := by simp <;> omega
  have q0 : World.cell? ((w.alloc (.cells #[.int .i64 pi, .int .i64 pa, .int .i64 pb, .int .i64 px, .int .i64 py, .int .i64 pz, .int .i64 pk] 28)).alloc (.cells #[.int .i64 qi, .int .i64 qa, .int .i64 qb, .int .i64 qx, .int .i64 qy, .int .i64 qz, .int .i64 qk] 28)) ⟨w.heap.size + 1, 0, none⟩ = some (.int .i64 qi) := by simp [go_sem]
  have q1 : World.cell? ((w.alloc (.cells #[.int .i64 pi, .int .i64 pa, .int .i64 pb, .int .i64 px, .int .i64 py, .int .i64 pz, .int .i64 pk] 28)).alloc (.cells #[.int .i64 qi, .int .i64 qa, .int .i64 qb, .int .i64 qx, .int .i64 qy, .int .i64 qz, .int .i64 qk] 28)) ⟨w.heap.size + 1, 1, none⟩ = some (.int .i64 qa) := by simp [go_sem]
  have q2 : World.cell? ((w.alloc (.cells #[.int .i64 pi, .int .i64 pa, .int .i64 pb, .int .i64 px, .int .i64 py, .int .i64 pz, .int .i64 pk] 28)).alloc (.cells #[.int .i64 qi, .int .i64 qa, .int .i64 qb, .int .i64 qx, .int .i64 qy, .int .i64 qz, .int .i64 qk] 28)) ⟨w.heap.size + 1, 2, none⟩ = some (.int .i64 qb) := by simp [go_sem]
  have q3 : World.cell? ((w.alloc (.cells #[.int .i64 pi, .int .i64 pa, .int .i64 pb, .int .i64 px, .int .i64 py, .int .i64 pz, .int .i64 pk] 28)).alloc (.cells #[.int .i64 qi, .int .i64 qa, .int .i64 qb, .int .i64 qx, .int .i64 qy, .int .i64 qz, .int .i64 qk] 28)) ⟨w.heap.size + 1, 3, none⟩ = some (.int .i64 qx) := by simp [go_sem]
  have q4 : World.cell? ((w.alloc (.cells #[.int .i64 pi, .int .i64 pa, .int .i64 pb, .int .i64 px, .int .i64 py, .int .i64 pz, .int .i64 pk] 28)).alloc (.cells #[.int .i64 qi, .int .i64 qa, .int .i64 qb, .int .i64 qx, .int .i64 qy, .int .i64 qz, .int .i64 qk] 28)) ⟨w.heap.size + 1, 4, none⟩ = some (.int .i64 qy) := by simp [go_sem]
  have q5 : World.cell? ((w.alloc (.cells #[.int .i64 pi, .int .i64 pa, .int .i64 pb, .int .i64 px, .int .i64 py, .int .i64 pz, .int .i64 pk] 28)).alloc (.cells #[.int .i64 qi, .int .i64 qa, .int .i64 qb, .int .i64 qx, .int .i64 qy, .int .i64 qz, .int .i64 qk] 28)) ⟨w.heap.size + 1, 5, none⟩ = some (.int .i64 qz) := by simp [go_sem]
  have q6 : World.cell? ((w.alloc (.cells #[.int .i64 pi, .int .i64 pa, .int .i64 pb, .int .i64 px, .int .i64 py, .int .i64 pz, .int .i64 pk] 28)).alloc (.cells #[.int .i64 qi, .int .i64 qa, .int .i64 qb, .int .i64 qx, .int .i64 qy, .int .i64 qz, .int .i64 qk] 28)) ⟨w.heap.size + 1, 6, none⟩ = some (.int .i64 qk) := by simp [go_sem]
  have lq : w.heap.size + 1 < ((w.alloc (.cells #[.int .i64 pi, .int .i64 pa, .int .i64 pb, .int .i64 px, .int .i64 py, .int .i64 pz, .int .i64 pk] 28)).alloc (.cells #[.int .i64 qi, .int .i64 qa, .int .i64 qb, .int .i64 qx, .int .i64 qy, .int .i64 qz, .int .i64 qk] 28)).heap.size := by simp <;> omega
  have HB := Lib.hid (show Below w.heap.size w ((w.alloc (.cells #[.int .i64 pi, .int .i64 pa, .int .i64 pb, .int .i64 px, .int .i64 py, .int .i64 pz, .int .i64 pk] 28)).alloc (.cells #[.int .i64 qi, .int .i64 qa, .int .i64 qb, .int .i64 qx, .int .i64 qy, .int .i64 qz, .int .i64 qk] 28)) from (((Below.refl _ _).alloc (by simp <;> omega) _).alloc (by simp <;> omega) _))
  go_enter Try.func27, Try.ntmps27
  go_wp2_with fail
  generalize (w.alloc (.cells #[.int .i64 pi, .int .i64 pa, .int .i64 pb, .int .i64 px, .int .i64 py, .int .i64 pz, .int .i64 pk] 28)).alloc (.cells #[.int .i64 qi, .int .i64 qa, .int .i64 qb, .int .i64 qx, .int .i64 qy, .int .i64 qz, .int .i64 qk] 28) = w1 at *
  go_ret
  exact ⟨rfl, HB.out⟩
theorem bsd_is (p q : Pl) (hp : 0 ≤ p.pos ∧ p.pos ≤ 99) (hq : 0 ≤ q.pos ∧ q.pos ≤ 99) (r : Bool) (hr : nxt p q = r) (w : World) :
    Calls Try.prog 27 #[.agg #[.int .i64 p.id, .int .i64 p.row, .int .i64 p.pos, .int .i64 p.ex, .int .i64 p.ey, .int .i64 p.ez, .int .i64 p.kd], .agg #[.int .i64 q.id, .int .i64 q.row, .int .i64 q.pos, .int .i64 q.ex, .int .i64 q.ey, .int .i64 q.ez, .int .i64 q.kd]] w fun e_ w' => e_ = .returned (.bool r) ∧ Below w.heap.size w w' := by
  obtain ⟨pi, pa, pb, px, py, pz, pk⟩ := p
  obtain ⟨qi, qa, qb, qx, qy, qz, qk⟩ := q
  dsimp only at *
  have e : nxt ⟨pi, pa, pb, px, py, pz, pk⟩ ⟨qi, qa, qb, qx, qy, qz, qk⟩ = ((pa == qa) && ((pb - qb == 1) || (qb - pb == 1))) := rfl
  rw [e] at hr
  clear e
  subst hr
  cases h1 : (pa == qa)
  · exact bsd_0 pi pa pb px py pz pk qi qa qb qx qy qz qk hp hq h1 w
  cases h2 : (pb - qb == 1)
  · cases h3 : (qb - pb == 1)
    · exact bsd_3 pi pa pb px py pz pk qi qa qb qx qy qz qk hp hq h1 h2 h3 w
    · exact bsd_2 pi pa pb px py pz pk qi qa qb qx qy qz qk hp hq h1 h2 h3 w
  · exact bsd_1 pi pa pb px py pz pk qi qa qb qx qy qz qk hp hq h1 h2 w
set_option maxRecDepth 100000 in
set_option maxHeartbeats 2000000 in
theorem bhd_0 (pi pa pb px py pz pk qi qa qb qx qy qz qk : Int) (c0 : qa < pa) (w : World) :
    Calls Try.prog 54 #[.agg #[.int .i64 pi, .int .i64 pa, .int .i64 pb, .int .i64 px, .int .i64 py, .int .i64 pz, .int .i64 pk], .agg #[.int .i64 qi, .int .i64 qa, .int .i64 qb, .int .i64 qx, .int .i64 qy, .int .i64 qz, .int .i64 qk]] w fun e_ w' => e_ = .returned (.bool true) ∧ Below w.heap.size w w' := by
  have p0 : World.cell? ((w.alloc (.cells #[.int .i64 pi, .int .i64 pa, .int .i64 pb, .int .i64 px, .int .i64 py, .int .i64 pz, .int .i64 pk] 28)).alloc (.cells #[.int .i64 qi, .int .i64 qa, .int .i64 qb, .int .i64 qx, .int .i64 qy, .int .i64 qz, .int .i64 qk] 28)) ⟨w.heap.size, 0, none⟩ = some (.int .i64 pi) := by simp [go_sem]
  have p1 : World.cell? ((w.alloc (.cells #[.int .i64 pi, .int .i64 pa, .int .i64 pb, .int .i64 px, .int .i64 py, .int .i64 pz, .int .i64 pk] 28)).alloc (.cells #[.int .i64 qi, .int .i64 qa, .int .i64 qb, .int .i64 qx, .int .i64 qy, .int .i64 qz, .int .i64 qk] 28)) ⟨w.heap.size, 1, none⟩ = some (.int .i64 pa) := by simp [go_sem]
  have p2 : World.cell? ((w.alloc (.cells #[.int .i64 pi, .int .i64 pa, .int .i64 pb, .int .i64 px, .int .i64 py, .int .i64 pz, .int .i64 pk] 28)).alloc (.cells #[.int .i64 qi, .int .i64 qa, .int .i64 qb, .int .i64 qx, .int .i64 qy, .int .i64 qz, .int .i64 qk] 28)) ⟨w.heap.size, 2, none⟩ = some (.int .i64 pb) := by simp [go_sem]
  have p3 : World.cell? ((w.alloc (.cells #[.int .i64 pi, .int .i64 pa, .int .i64 pb, .int .i64 px, .int .i64 py, .int .i64 pz, .int .i64 pk] 28)).alloc (.cells #[.int .i64 qi, .int .i64 qa, .int .i64 qb, .int .i64 qx, .int .i64 qy, .int .i64 qz, .int .i64 qk] 28)) ⟨w.heap.size, 3, none⟩ = some (.int .i64 px) := by simp [go_sem]
  have p4 : World.cell? ((w.alloc (.cells #[.int .i64 pi, .int .i64 pa, .int .i64 pb, .int .i64 px, .int .i64 py, .int .i64 pz, .int .i64 pk] 28)).alloc (.cells #[.int .i64 qi, .int .i64 qa, .int .i64 qb, .int .i64 qx, .int .i64 qy, .int .i64 qz, .int .i64 qk] 28)) ⟨w.heap.size, 4, none⟩ = some (.int .i64 py) := by simp [go_sem]
  have p5 : World.cell? ((w.alloc (.cells #[.int .i64 pi, .int .i64 pa, .int .i64 pb, .int .i64 px, .int .i64 py, .int .i64 pz, .int .i64 pk] 28)).alloc (.cells #[.int .i64 qi, .int .i64 qa, .int .i64 qb, .int .i64 qx, .int .i64 qy, .int .i64 qz, .int .i64 qk] 28)) ⟨w.heap.size, 5, none⟩ = some (.int .i64 pz) := by simp [go_sem]
  have p6 : World.cell? ((w.alloc (.cells #[.int .i64 pi, .int .i64 pa, .int .i64 pb, .int .i64 px, .int .i64 py, .int .i64 pz, .int .i64 pk] 28)).alloc (.cells #[.int .i64 qi, .int .i64 qa, .int .i64 qb, .int .i64 qx, .int .i64 qy, .int .i64 qz, .int .i64 qk] 28)) ⟨w.heap.size, 6, none⟩ = some (.int .i64 pk) := by simp [go_sem]
  have lp : w.heap.size < ((w.alloc (.cells #[.int .i64 pi, .int .i64 pa, .int .i64 pb, .int .i64 px, .int .i64 py, .int .i64 pz, .int .i64 pk] 28)).alloc (.cells #[.int .i64 qi, .int .i64 qa, .int .i64 qb, .int .i64 qx, .int .i64 qy, .int .i64 qz, .int .i64 qk] 28)).heap.size := by simp <;> omega
  have q0 : World.cell? ((w.alloc (.cells #[.int .i64 pi, .int .i64 pa, .int .i64 pb, .int .i64 px, .int .i64 py, .int .i64 pz, .int .i64 pk] 28)).alloc (.cells #[.int .i64 qi, .int .i64 qa, .int .i64 qb, .int .i64 qx, .int .i64 qy, .int .i64 qz, .int .i64 qk] 28)) ⟨w.heap.size + 1, 0, none⟩ = some (.int .i64 qi) := by simp [go_sem]
  have q1 : World.cell? ((w.alloc (.cells #[.int .i64 pi, .int .i64 pa, .int .i64 pb, .int .i64 px, .int .i64 py, .int .i64 pz, .int .i64 pk] 28)).alloc (.cells #[.int .i64 qi, .int .i64 qa, .int .i64 qb, .int .i64 qx, .int .i64 qy, .int .i64 qz, .int .i64 qk] 28)) ⟨w.heap.size + 1, 1, none⟩ = some (.int .i64 qa) := by simp [go_sem]
  have q2 : World.cell? ((w.alloc (.cells #[.int .i64 pi, .int .i64 pa, .int .i64 pb, .int .i64 px, .int .i64 py, .int .i64 pz, .int .i64 pk] 28)).alloc (.cells #[.int .i64 qi, .int .i64 qa, .int .i64 qb, .int .i64 qx, .int .i64 qy, .int .i64 qz, .int .i64 qk] 28)) ⟨w.heap.size + 1, 2, none⟩ = some (.int .i64 qb) := by simp [go_sem]
  have q3 : World.cell? ((w.alloc (.cells #[.int .i64 pi, .int .i64 pa, .int .i64 pb, .int .i64 px, .int .i64 py, .int .i64 pz, .int .i64 pk] 28)).alloc (.cells #[.int .i64 qi, .int .i64 qa, .int .i64 qb, .int .i64 qx, .int .i64 qy, .int .i64 qz, .int .i64 qk] 28)) ⟨w.heap.size + 1, 3, none⟩ = some (.int .i64 qx) := by simp [go_sem]
  have q4 : World.cell? ((w.alloc (.cells #[.int .i64 pi, .int .i64 pa, .int .i64 pb, .int .i64 px, .int .i64 py, .int .i64 pz, .int .i64 pk] 28)).alloc (.cells #[.int .i64 qi, .int .i64 qa, .int .i64 qb, .int .i64 qx, .int .i64 qy, .int .i64 qz, .int .i64 qk] 28)) ⟨w.heap.size + 1, 4, none⟩ = some (.int .i64 qy) := by simp [go_sem]
  have q5 : World.cell? ((w.alloc (.cells #[.int .i64 pi, .int .i64 pa, .int .i64 pb, .int .i64 px, .int .i64 py, .int .i64 pz, .int .i64 pk] 28)).alloc (.cells #[.int .i64 qi, .int .i64 qa, .int .i64 qb, .int .i64 qx, .int .i64 qy, .int .i64 qz, .int .i64 qk] 28)) ⟨w.heap.size + 1, 5, none⟩ = some (.int .i64 qz) := by simp [go_sem]
  have q6 : World.cell? ((w.alloc (.cells #[.int .i64 pi, .int .i64 pa, .int .i64 pb, .int .i64 px, .int .i64 py, .int .i64 pz, .int .i64 pk] 28)).alloc (.cells #[.int .i64 qi, .int .i64 qa, .int .i64 qb, .int .i64 qx, .int .i64 qy, .int .i64 qz, .int .i64 qk] 28)) ⟨w.heap.size + 1, 6, none⟩ = some (.int .i64 qk) := by simp [go_sem]
  have lq : w.heap.size + 1 < ((w.alloc (.cells #[.int .i64 pi, .int .i64 pa, .int .i64 pb, .int .i64 px, .int .i64 py, .int .i64 pz, .int .i64 pk] 28)).alloc (.cells #[.int .i64 qi, .int .i64 qa, .int .i64 qb, .int .i64 qx, .int .i64 qy, .int .i64 qz, .int .i64 qk] 28)).heap.size := by simp <;> omega
  have HB := Lib.hid (show Below w.heap.size w ((w.alloc (.cells #[.int .i64 pi, .int .i64 pa, .int .i64 pb, .int .i64 px, .int .i64 py, .int .i64 pz, .int .i64 pk] 28)).alloc (.cells #[.int .i64 qi, .int .i64 qa, .int .i64 qb, .int .i64 qx, .int .i64 qy, .int .i64 qz, .int .i64 qk] 28)) from (((Below.refl _ _).alloc (by simp <;> omega) _).alloc (by simp <;> omega) _))
  go_enter Try.func54, Try.ntmps54
  go_wp2_with fail
  generalize (w.alloc (.cells #[.int .i64 pi, .int .i64 pa, .int .i64 pb, .int .i64 px, .int .i64 py, .int .i64 pz, .int .i64 pk] 28)).alloc (.cells #[.int .i64 qi, .int .i64 qa, .int .i64 qb, .int .i64 qx, .int .i64 qy, .int .i64 qz, .int .i64 qk] 28) = w1 at *
  go_ret
  exact ⟨rfl, HB.out⟩
set_option maxRecDepth 100000 in
set_option maxHeartbeats 2000000 in
theorem bhd_1 (pi pa pb px py pz pk qi qa qb qx qy qz qk : Int) (c0 : ¬ qa < pa) (c1 : (pa == qa) = false) (w : World) :
    Calls Try.prog 54 #[.agg #[.int .i64 pi, .int .i64 pa, .int .i64 pb, .int .i64 px, .int .i64 py, .int .i64 pz, .int .i64 pk], .agg #[.int .i64 qi, .int .i64 qa, .int .i64 qb, .int .i64 qx, .int .i64 qy, .int .i64 qz, .int .i64 qk]] w fun e_ w' => e_ = .returned (.bool false) ∧ Below w.heap.size w w' := by
  have p0 : World.cell? ((w.alloc (.cells #[.int .i64 pi, .int .i64 pa, .int .i64 pb, .int .i64 px, .int .i64 py, .int .i64 pz, .int .i64 pk] 28)).alloc (.cells #[.int .i64 qi, .int .i64 qa, .int .i64 qb, .int .i64 qx, .int .i64 qy, .int .i64 qz, .int .i64 qk] 28)) ⟨w.heap.size, 0, none⟩ = some (.int .i64 pi) := by simp [go_sem]
  have p1 : World.cell? ((w.alloc (.cells #[.int .i64 pi, .int .i64 pa, .int .i64 pb, .int .i64 px, .int .i64 py, .int .i64 pz, .int .i64 pk] 28)).alloc (.cells #[.int .i64 qi, .int .i64 qa, .int .i64 qb, .int .i64 qx, .int .i64 qy, .int .i64 qz, .int .i64 qk] 28)) ⟨w.heap.size, 1, none⟩ = some (.int .i64 pa) := by simp [go_sem]
  have p2 : World.cell? ((w.alloc (.cells #[.int .i64 pi, .int .i64 pa, .int .i64 pb, .int .i64 px, .int .i64 py, .int .i64 pz, .int .i64 pk] 28)).alloc (.cells #[.int .i64 qi, .int .i64 qa, .int .i64 qb, .int .i64 qx, .int .i64 qy, .int .i64 qz, .int .i64 qk] 28)) ⟨w.heap.size, 2, none⟩ = some (.int .i64 pb) := by simp [go_sem]
  have p3 : World.cell? ((w.alloc (.cells #[.int .i64 pi, .int .i64 pa, .int .i64 pb, .int .i64 px, .int .i64 py, .int .i64 pz, .int .i64 pk] 28)).alloc (.cells #[.int .i64 qi, .int .i64 qa, .int .i64 qb, .int .i64 qx, .int .i64 qy, .int .i64 qz, .int .i64 qk] 28)) ⟨w.heap.size, 3, none⟩ = some (.int .i64 px) := by simp [go_sem]
  have p4 : World.cell? ((w.alloc (.cells #[.int .i64 pi, .int .i64 pa, .int .i64 pb, .int .i64 px, .int .i64 py, .int .i64 pz, .int .i64 pk] 28)).alloc (.cells #[.int .i64 qi, .int .i64 qa, .int .i64 qb, .int .i64 qx, .int .i64 qy, .int .i64 qz, .int .i64 qk] 28)) ⟨w.heap.size, 4, none⟩ = some (.int .i64 py) := by simp [go_sem]
  have p5 : World.cell? ((w.alloc (.cells #[.int .i64 pi, .int .i64 pa, .int .i64 pb, .int .i64 px, .int .i64 py, .int .i64 pz, .int .i64 pk] 28)).alloc (.cells #[.int .i64 qi, .int .i64 qa, .int .i64 qb, .int .i64 qx, .int .i64 qy, .int .i64 qz, .int .i64 qk] 28)) ⟨w.heap.size, 5, none⟩ = some (.int .i64 pz) := by simp [go_sem]
  have p6 : World.cell? ((w.alloc (.cells #[.int .i64 pi, .int .i64 pa, .int .i64 pb, .int .i64 px, .int .i64 py, .int .i64 pz, .int .i64 pk] 28)).alloc (.cells #[.int .i64 qi, .int .i64 qa, .int .i64 qb, .int .i64 qx, .int .i64 qy, .int .i64 qz, .int .i64 qk] 28)) ⟨w.heap.size, 6, none⟩ = some (.int .i64 pk) := by simp [go_sem]
  have lp : w.heap.size < ((w.alloc (.cells #[.int .i64 pi, .int .i64 pa, .int .i64 pb, .int .i64 px, .int .i64 py, .int .i64 pz, .int .i64 pk] 28)).alloc (.cells #[.int .i64 qi, .int .i64 qa, .int .i64 qb, .int .i64 qx, .int .i64 qy, .int .i64 qz, .int .i64 qk] 28)).heap.size := by simp <;> omega
  have q0 : World.cell? ((w.alloc (.cells #[.int .i64 pi, .int .i64 pa, .int .i64 pb, .int .i64 px, .int .i64 py, .int .i64 pz, .int .i64 pk] 28)).alloc (.cells #[.int .i64 qi, .int .i64 qa, .int .i64 qb, .int .i64 qx, .int .i64 qy, .int .i64 qz, .int .i64 qk] 28)) ⟨w.heap.size + 1, 0, none⟩ = some (.int .i64 qi) := by simp [go_sem]
  have q1 : World.cell? ((w.alloc (.cells #[.int .i64 pi, .int .i64 pa, .int .i64 pb, .int .i64 px, .int .i64 py, .int .i64 pz, .int .i64 pk] 28)).alloc (.cells #[.int .i64 qi, .int .i64 qa, .int .i64 qb, .int .i64 qx, .int .i64 qy, .int .i64 qz, .int .i64 qk] 28)) ⟨w.heap.size + 1, 1, none⟩ = some (.int .i64 qa) := by simp [go_sem]
  have q2 : World.cell? ((w.alloc (.cells #[.int .i64 pi, .int .i64 pa, .int .i64 pb, .int .i64 px, .int .i64 py, .int .i64 pz, .int .i64 pk] 28)).alloc (.cells #[.int .i64 qi, .int .i64 qa, .int .i64 qb, .int .i64 qx, .int .i64 qy, .int .i64 qz, .int .i64 qk] 28)) ⟨w.heap.size + 1, 2, none⟩ = some (.int .i64 qb) := by simp [go_sem]
  have q3 : World.cell? ((w.alloc (.cells #[.int .i64 pi, .int .i64 pa, .int .i64 pb, .int .i64 px, .int .i64 py, .int .i64 pz, .int .i64 pk] 28)).alloc (.cells #[.int .i64 qi, .int .i64 qa, .int .i64 qb, .int .i64 qx, .int .i64 qy, .int .i64 qz, .int .i64 qk] 28)) ⟨w.heap.size + 1, 3, none⟩ = some (.int .i64 qx) := by simp [go_sem]
  have q4 : World.cell? ((w.alloc (.cells #[.int .i64 pi, .int .i64 pa, .int .i64 pb, .int .i64 px, .int .i64 py, .int .i64 pz, .int .i64 pk] 28)).alloc (.cells #[.int .i64 qi, .int .i64 qa, .int .i64 qb, .int .i64 qx, .int .i64 qy, .int .i64 qz, .int .i64 qk] 28)) ⟨w.heap.size + 1, 4, none⟩ = some (.int .i64 qy) := by simp [go_sem]
  have q5 : World.cell? ((w.alloc (.cells #[.int .i64 pi, .int .i64 pa, .int .i64 pb, .int .i64 px, .int .i64 py, .int .i64 pz, .int .i64 pk] 28)).alloc (.cells #[.int .i64 qi, .int .i64 qa, .int .i64 qb, .int .i64 qx, .int .i64 qy, .int .i64 qz, .int .i64 qk] 28)) ⟨w.heap.size + 1, 5, none⟩ = some (.int .i64 qz) := by simp [go_sem]
  have q6 : World.cell? ((w.alloc (.cells #[.int .i64 pi, .int .i64 pa, .int .i64 pb, .int .i64 px, .int .i64 py, .int .i64 pz, .int .i64 pk] 28)).alloc (.cells #[.int .i64 qi, .int .i64 qa, .int .i64 qb, .int .i64 qx, .int .i64 qy, .int .i64 qz, .int .i64 qk] 28)) ⟨w.heap.size + 1, 6, none⟩ = some (.int .i64 qk) := by simp [go_sem]
  have lq : w.heap.size + 1 < ((w.alloc (.cells #[.int .i64 pi, .int .i64 pa, .int .i64 pb, .int .i64 px, .int .i64 py, .int .i64 pz, .int .i64 pk] 28)).alloc (.cells #[.int .i64 qi, .int .i64 qa, .int .i64 qb, .int .i64 qx, .int .i64 qy, .int .i64 qz, .int .i64 qk] 28)).heap.size := by simp <;> omega
  have HB := Lib.hid (show Below w.heap.size w ((w.alloc (.cells #[.int .i64 pi, .int .i64 pa, .int .i64 pb, .int .i64 px, .int .i64 py, .int .i64 pz, .int .i64 pk] 28)).alloc (.cells #[.int .i64 qi, .int .i64 qa, .int .i64 qb, .int .i64 qx, .int .i64 qy, .int .i64 qz, .int .i64 qk] 28)) from (((Below.refl _ _).alloc (by simp <;> omega) _).alloc (by simp <;> omega) _))
  go_enter Try.func54, Try.ntmps54
  go_wp2_with fail
  generalize (w.alloc (.cells #[.int .i64 pi, .int .i64 pa, .int .i64 pb, .int .i64 px, .int .i64 py, .int .i64 pz, .int .i64 pk] 28)).alloc (.cells #[.int .i64 qi, .int .i64 qa, .int .i64 qb, .int .i64 qx, .int .i64 qy, .int .i64 qz, .int .i64 qk] 28) = w1 at *
  go_ret
  exact ⟨rfl, HB.out⟩
set_option maxRecDepth 100000 in
set_option maxHeartbeats 2000000 in
theorem bhd_2 (pi pa pb px py pz pk qi qa qb qx qy qz qk : Int) (c0 : ¬ qa < pa) (c1 : (pa == qa) = true) (c2 : qb < pb) (w : World) :
    Calls Try.prog 54 #[.agg #[.int .i64 pi, .int .i64 pa, .int .i64 pb, .int .i64 px, .int .i64 py, .int .i64 pz, .int .i64 pk], .agg #[.int .i64 qi, .int .i64 qa, .int .i64 qb, .int .i64 qx, .int .i64 qy, .int .i64 qz, .int .i64 qk]] w fun e_ w' => e_ = .returned (.bool true) ∧ Below w.heap.size w w' := by
  have p0 : World.cell? ((w.alloc (.cells #[.int .i64 pi, .int .i64 pa, .int .i64 pb, .int .i64 px, .int .i64 py, .int .i64 pz, .int .i64 pk] 28)).alloc (.cells #[.int .i64 qi, .int .i64 qa, .int .i64 qb, .int .i64 qx, .int .i64 qy, .int .i64 qz, .int .i64 qk] 28)) ⟨w.heap.size, 0, none⟩ = some (.int .i64 pi) := by simp [go_sem]
  have p1 : World.cell? ((w.alloc (.cells #[.int .i64 pi, .int .i64 pa, .int .i64 pb, .int .i64 px, .int .i64 py, .int .i64 pz, .int .i64 pk] 28)).alloc (.cells #[.int .i64 qi, .int .i64 qa, .int .i64 qb, .int .i64 qx, .int .i64 qy, .int .i64 qz, .int .i64 qk] 28)) ⟨w.heap.size, 1, none⟩ = some (.int .i64 pa) := by simp [go_sem]
  have p2 : World.cell? ((w.alloc (.cells #[.int .i64 pi, .int .i64 pa, .int .i64 pb, .int .i64 px, .int .i64 py, .int .i64 pz, .int .i64 pk] 28)).alloc (.cells #[.int .i64 qi, .int .i64 qa, .int .i64 qb, .int .i64 qx, .int .i64 qy, .int .i64 qz, .int .i64 qk] 28)) ⟨w.heap.size, 2, none⟩ = some (.int .i64 pb) := by simp [go_sem]
  have p3 : World.cell? ((w.alloc (.cells #[.int .i64 pi, .int .i64 pa, .int .i64 pb, .int .i64 px, .int .i64 py, .int .i64 pz, .int .i64 pk] 28)).alloc (.cells #[.int .i64 qi, .int .i64 qa, .int .i64 qb, .int .i64 qx, .int .i64 qy, .int .i64 qz, .int .i64 qk] 28)) ⟨w.heap.size, 3, none⟩ = some (.int .i64 px) := by simp [go_sem]
  have p4 : World.cell? ((w.alloc (.cells #[.int .i64 pi, .int .i64 pa, .int .i64 pb, .int .i64 px, .int .i64 py, .int .i64 pz, .int .i64 pk] 28)).alloc (.cells #[.int .i64 qi, .int .i64 qa, .int .i64 qb, .int .i64 qx, .int .i64 qy, .int .i64 qz, .int .i64 qk] 28)) ⟨w.heap.size, 4, none⟩ = some (.int .i64 py) := by simp [go_sem]
  have p5 : World.cell? ((w.alloc (.cells #[.int .i64 pi, .int .i64 pa, .int .i64 pb, .int .i64 px, .int .i64 py, .int .i64 pz, .int .i64 pk] 28)).alloc (.cells #[.int .i64 qi, .int .i64 qa, .int .i64 qb, .int .i64 qx, .int .i64 qy, .int .i64 qz, .int .i64 qk] 28)) ⟨w.heap.size, 5, none⟩ = some (.int .i64 pz) := by simp [go_sem]
  have p6 : World.cell? ((w.alloc (.cells #[.int .i64 pi, .int .i64 pa, .int .i64 pb, .int .i64 px, .int .i64 py, .int .i64 pz, .int .i64 pk] 28)).alloc (.cells #[.int .i64 qi, .int .i64 qa, .int .i64 qb, .int .i64 qx, .int .i64 qy, .int .i64 qz, .int .i64 qk] 28)) ⟨w.heap.size, 6, none⟩ = some (.int .i64 pk) := by simp [go_sem]
  have lp : w.heap.size < ((w.alloc (.cells #[.int .i64 pi, .int .i64 pa, .int .i64 pb, .int .i64 px, .int .i64 py, .int .i64 pz, .int .i64 pk] 28)).alloc (.cells #[.int .i64 qi, .int .i64 qa, .int .i64 qb, .int .i64 qx, .int .i64 qy, .int .i64 qz, .int .i64 qk] 28)).heap.size := by simp <;> omega
  have q0 : World.cell? ((w.alloc (.cells #[.int .i64 pi, .int .i64 pa, .int .i64 pb, .int .i64 px, .int .i64 py, .int .i64 pz, .int .i64 pk] 28)).alloc (.cells #[.int .i64 qi, .int .i64 qa, .int .i64 qb, .int .i64 qx, .int .i64 qy, .int .i64 qz, .int .i64 qk] 28)) ⟨w.heap.size + 1, 0, none⟩ = some (.int .i64 qi) := by simp [go_sem]
  have q1 : World.cell? ((w.alloc (.cells #[.int .i64 pi, .int .i64 pa, .int .i64 pb, .int .i64 px, .int .i64 py, .int .i64 pz, .int .i64 pk] 28)).alloc (.cells #[.int .i64 qi, .int .i64 qa, .int .i64 qb, .int .i64 qx, .int .i64 qy, .int .i64 qz, .int .i64 qk] 28)) ⟨w.heap.size + 1, 1, none⟩ = some (.int .i64 qa) := by simp [go_sem]
  have q2 : World.cell? ((w.alloc (.cells #[.int .i64 pi, .int .i64 pa, .int .i64 pb, .int .i64 px, .int .i64 py, .int .i64 pz, .int .i64 pk] 28)).alloc (.cells #[.int .i64 qi, .int .i64 qa, .int .i64 qb, .int .i64 qx, .int .i64 qy, .int .i64 qz, .int .i64 qk] 28)) ⟨w.heap.size + 1, 2, none⟩ = some (.int .i64 qb) := by simp [go_sem]
  have q3 : World.cell? ((w.alloc (.cells #[.int .i64 pi, .int .i64 pa, .int .i64 pb, .int .i64 px, .int .i64 py, .int .i64 pz, .int .i64 pk] 28)).alloc (.cells #[.int .i64 qi, .int .i64 qa, .int .i64 qb, .int .i64 qx, .int .i64 qy, .int .i64 qz, .int .i64 qk] 28)) ⟨w.heap.size + 1, 3, none⟩ = some (.int .i64 qx) := by simp [go_sem]
  have q4 : World.cell? ((w.alloc (.cells #[.int .i64 pi, .int .i64 pa, .int .i64 pb, .int .i64 px, .int .i64 py, .int .i64 pz, .int .i64 pk] 28)).alloc (.cells #[.int .i64 qi, .int .i64 qa, .int .i64 qb, .int .i64 qx, .int .i64 qy, .int .i64 qz, .int .i64 qk] 28)) ⟨w.heap.size + 1, 4, none⟩ = some (.int .i64 qy) := by simp [go_sem]
  have q5 : World.cell? ((w.alloc (.cells #[.int .i64 pi, .int .i64 pa, .int .i64 pb, .int .i64 px, .int .i64 py, .int .i64 pz, .int .i64 pk] 28)).alloc (.cells #[.int .i64 qi, .int .i64 qa, .int .i64 qb, .int .i64 qx, .int .i64 qy, .int .i64 qz, .int .i64 qk] 28)) ⟨w.heap.size + 1, 5, none⟩ = some (.int .i64 qz) := by simp [go_sem]
  have q6 : World.cell? ((w.alloc (.cells #[.int .i64 pi, .int .i64 pa, .int .i64 pb, .int .i64 px, .int .i64 py, .int .i64 pz, .int .i64 pk] 28)).alloc (.cells #[.int .i64 qi, .int .i64 qa, .int .i64 qb, .int .i64 qx, .int .i64 qy, .int .i64 qz, .int .i64 qk] 28)) ⟨w.heap.size + 1, 6, none⟩ = some (.int .i64 qk) := by simp [go_sem]
  have lq : w.heap.size + 1 < ((w.alloc (.cells #[.int .i64 pi, .int .i64 pa, .int .i64 pb, .int .i64 px, .int .i64 py, .int .i64 pz, .int .i64 pk] 28)).alloc (.cells #[.int .i64 qi, .int .i64 qa, .int .i64 qb, .int .i64 qx, .int .i64 qy, .int .i64 qz, .int .i64 qk] 28)).heap.size := by simp <;> omega
  have HB := Lib.hid (show Below w.heap.size w ((w.alloc (.cells #[.int .i64 pi, .int .i64 pa, .int .i64 pb, .int .i64 px, .int .i64 py, .int .i64 pz, .int .i64 pk] 28)).alloc (.cells #[.int .i64 qi, .int .i64 qa, .int .i64 qb, .int .i64 qx, .int .i64 qy, .int .i64 qz, .int .i64 qk] 28)) from (((Below.refl _ _).alloc (by simp <;> omega) _).alloc (by simp <;> omega) _))
  go_enter Try.func54, Try.ntmps54
  go_wp2_with fail
  generalize (w.alloc (.cells #[.int .i64 pi, .int .i64 pa, .int .i64 pb, .int .i64 px, .int .i64 py, .int .i64 pz, .int .i64 pk] 28)).alloc (.cells #[.int .i64 qi, .int .i64 qa, .int .i64 qb, .int .i64 qx, .int .i64 qy, .int .i64 qz, .int .i64 qk] 28) = w1 at *
  go_ret
  exact ⟨rfl, HB.out⟩
set_option maxRecDepth 100000 in
set_option maxHeartbeats 2000000 in
theorem bhd_3 (pi pa pb px py pz pk qi qa qb qx qy qz qk : Int) (c0 : ¬ qa < pa) (c1 : (pa == qa) = true) (c2 : ¬ qb < pb) (w : World) :
    Calls Try.prog 54 #[.agg #[.int .i64 pi, .int .i64 pa, .int .i64 pb, .int .i64 px, .int .i64 py, .int .i64 pz, .int .i64 pk], .agg #[.int .i64 qi, .int .i64 qa, .int .i64 qb, .int .i64 qx, .int .i64 qy, .int .i64 qz, .int .i64 qk]] w fun e_ w' => e_ = .returned (.bool false) ∧ Below w.heap.size w w' := by
  have p0 : World.cell? ((w.alloc (.cells #[.int .i64 pi, .int .i64 pa, .int .i64 pb, .int .i64 px, .int .i64 py, .int .i64 pz, .int .i64 pk] 28)).alloc (.cells #[.int .i64 qi, .int .i64 qa, .int .i64 qb, .int .i64 qx, .int .i64 qy, .int .i64 qz, .int .i64 qk] 28)) ⟨w.heap.size, 0, none⟩ = some (.int .i64 pi) := by simp [go_sem]
  have p1 : World.cell? ((w.alloc (.cells #[.int .i64 pi, .int .i64 pa, .int .i64 pb, .int .i64 px, .int .i64 py, .int .i64 pz, .int .i64 pk] 28)).alloc (.cells #[.int .i64 qi, .int .i64 qa, .int .i64 qb, .int .i64 qx, .int .i64 qy, .int .i64 qz, .int .i64 qk] 28)) ⟨w.heap.size, 1, none⟩ = some (.int .i64 pa) := by simp [go_sem]
  have p2 : World.cell? ((w.alloc (.cells #[.int .i64 pi, .int .i64 pa, .int .i64 pb, .int .i64 px, .int .i64 py, .int .i64 pz, .int .i64 pk] 28)).alloc (.cells #[.int .i64 qi, .int .i64 qa, .int .i64 qb, .int .i64 qx, .int .i64 qy, .int .i64 qz, .int .i64 qk] 28)) ⟨w.heap.size, 2, none⟩ = some (.int .i64 pb) := by simp [go_sem]
  have p3 : World.cell? ((w.alloc (.cells #[.int .i64 pi, .int .i64 pa, .int .i64 pb, .int .i64 px, .int .i64 py, .int .i64 pz, .int .i64 pk] 28)).alloc (.cells #[.int .i64 qi, .int .i64 qa, .int .i64 qb, .int .i64 qx, .int .i64 qy, .int .i64 qz, .int .i64 qk] 28)) ⟨w.heap.size, 3, none⟩ = some (.int .i64 px) := by simp [go_sem]
  have p4 : World.cell? ((w.alloc (.cells #[.int .i64 pi, .int .i64 pa, .int .i64 pb, .int .i64 px, .int .i64 py, .int .i64 pz, .int .i64 pk] 28)).alloc (.cells #[.int .i64 qi, .int .i64 qa, .int .i64 qb, .int .i64 qx, .int .i64 qy, .int .i64 qz, .int .i64 qk] 28)) ⟨w.heap.size, 4, none⟩ = some (.int .i64 py) := by simp [go_sem]
  have p5 : World.cell? ((w.alloc (.cells #[.int .i64 pi, .int .i64 pa, .int .i64 pb, .int .i64 px, .int .i64 py, .int .i64 pz, .int .i64 pk] 28)).alloc (.cells #[.int .i64 qi, .int .i64 qa, .int .i64 qb, .int .i64 qx, .int .i64 qy, .int .i64 qz, .int .i64 qk] 28)) ⟨w.heap.size, 5, none⟩ = some (.int .i64 pz) := by simp [go_sem]
  have p6 : World.cell? ((w.alloc (.cells #[.int .i64 pi, .int .i64 pa, .int .i64 pb, .int .i64 px, .int .i64 py, .int .i64 pz, .int .i64 pk] 28)).alloc (.cells #[.int .i64 qi, .int .i64 qa, .int .i64 qb, .int .i64 qx, .int .i64 qy, .int .i64 qz, .int .i64 qk] 28)) ⟨w.heap.size, 6, none⟩ = some (.int .i64 pk) := by simp [go_sem]
  have lp : w.heap.size < ((w.alloc (.cells #[.int .i64 pi, .int .i64 pa, .int .i64 pb, .int .i64 px, .int .i64 py, .int .i64 pz, .int .i64 pk] 28)).alloc (.cells #[.int .i64 qi, .int .i64 qa, .int .i64 qb, .int .i64 qx, .int .i64 qy, .int .i64 qz, .int .i64 qk] 28)).heap.size := by simp <;> omega
  have q0 : World.cell? ((w.alloc (.cells #[.int .i64 pi, .int .i64 pa, .int .i64 pb, .int .i64 px, .int .i64 py, .int .i64 pz, .int .i64 pk] 28)).alloc (.cells #[.int .i64 qi, .int .i64 qa, .int .i64 qb, .int .i64 qx, .int .i64 qy, .int .i64 qz, .int .i64 qk] 28)) ⟨w.heap.size + 1, 0, none⟩ = some (.int .i64 qi) := by simp [go_sem]
  have q1 : World.cell? ((w.alloc (.cells #[.int .i64 pi, .int .i64 pa, .int .i64 pb, .int .i64 px, .int .i64 py, .int .i64 pz, .int .i64 pk] 28)).alloc (.cells #[.int .i64 qi, .int .i64 qa, .int .i64 qb, .int .i64 qx, .int .i64 qy, .int .i64 qz, .int .i64 qk] 28)) ⟨w.heap.size + 1, 1, none⟩ = some (.int .i64 qa) := by simp [go_sem]
  have q2 : World.cell? ((w.alloc (.cells #[.int .i64 pi, .int .i64 pa, .int .i64 pb, .int .i64 px, .int .i64 py, .int .i64 pz, .int .i64 pk] 28)).alloc (.cells #[.int .i64 qi, .int .i64 qa, .int .i64 qb, .int .i64 qx, .int .i64 qy, .int .i64 qz, .int .i64 qk] 28)) ⟨w.heap.size + 1, 2, none⟩ = some (.int .i64 qb) := by simp [go_sem]
  have q3 : World.cell? ((w.alloc (.cells #[.int .i64 pi, .int .i64 pa, .int .i64 pb, .int .i64 px, .int .i64 py, .int .i64 pz, .int .i64 pk] 28)).alloc (.cells #[.int .i64 qi, .int .i64 qa, .int .i64 qb, .int .i64 qx, .int .i64 qy, .int .i64 qz, .int .i64 qk] 28)) ⟨w.heap.size + 1, 3, none⟩ = some (.int .i64 qx) := by simp [go_sem]
  have q4 : World.cell? ((w.alloc (.cells #[.int .i64 pi, .int .i64 pa, .int .i64 pb, .int .i64 px, .int .i64 py, .int .i64 pz, .int .i64 pk] 28)).alloc (.cells #[.int .i64 qi, .int .i64 qa, .int .i64 qb, .int .i64 qx, .int .i64 qy, .int .i64 qz, .int .i64 qk] 28)) ⟨w.heap.size + 1, 4, none⟩ = some (.int .i64 qy) := by simp [go_sem]
  have q5 : World.cell? ((w.alloc (.cells #[.int .i64 pi, .int .i64 pa, .int .i64 pb, .int .i64 px, .int .i64 py, .int .i64 pz, .int .i64 pk] 28)).alloc (.cells #[.int .i64 qi, .int .i64 qa, .int .i64 qb, .int .i64 qx, .int .i64 qy, .int .i64 qz, .int .i64 qk] 28)) ⟨w.heap.size + 1, 5, none⟩ = some (.int .i64 qz) := by simp [go_sem]
  have q6 : World.cell? ((w.alloc (.cells #[.int .i64 pi, .int .i64 pa, .int .i64 pb, .int .i64 px, .int .i64 py, .int .i64 pz, .int .i64 pk] 28)).alloc (.cells #[.int .i64 qi, .int .i64 qa, .int .i64 qb, .int .i64 qx, .int .i64 qy, .int .i64 qz, .int .i64 qk] 28)) ⟨w.heap.size + 1, 6, none⟩ = some (.int .i64 qk) := by simp [go_sem]
  have lq : w.heap.size + 1 < ((w.alloc (.cells #[.int .i64 pi, .int .i64 pa, .int .i64 pb, .int .i64 px, .int .i64 py, .int .i64 pz, .int .i64 pk] 28)).alloc (.cells #[.int .i64 qi, .int .i64 qa, .int .i64 qb, .int .i64 qx, .int .i64 qy, .int .i64 qz, .int .i64 qk] 28)).heap.size := by simp <;> omega
  have HB := Lib.hid (show Below w.heap.size w ((w.alloc (.cells #[.int .i64 pi, .int .i64 pa, .int .i64 pb, .int .i64 px, .int .i64 py, .int .i64 pz, .int .i64 pk] 28)).alloc (.cells #[.int .i64 qi, .int .i64 qa, .int .i64 qb, .int .i64 qx, .int .i64 qy, .int .i64 qz, .int .i64 qk] 28)) from (((Below.refl _ _).alloc (by simp <;> omega) _).alloc (by simp <;> omega) _))
  go_enter Try.func54, Try.ntmps54
  go_wp2_with fail
  generalize (w.alloc (.cells #[.int .i64 pi, .int .i64 pa, .int .i64 pb, .int .i64 px, .int .i64 py, .int .i64 pz, .int .i64 pk] 28)).alloc (.cells #[.int .i64 qi, .int .i64 qa, .int .i64 qb, .int .i64 qx, .int .i64 qy, .int .i64 qz, .int .i64 qk] 28) = w1 at *
  go_ret
  exact ⟨rfl, HB.out⟩
theorem bhd_is (p q : Pl) (r : Bool) (hr : bhd p q = r) (w : World) :
    Calls Try.prog 54 #[.agg #[.int .i64 p.id, .int .i64 p.row, .int .i64 p.pos, .int .i64 p.ex, .int .i64 p.ey, .int .i64 p.ez, .int .i64 p.kd], .agg #[.int .i64 q.id, .int .i64 q.row, .int .i64 q.pos, .int .i64 q.ex, .int .i64 q.ey, .int .i64 q.ez, .int .i64 q.kd]] w fun e_ w' => e_ = .returned (.bool r) ∧ Below w.heap.size w w' := by
  obtain ⟨pi, pa, pb, px, py, pz, pk⟩ := p
  obtain ⟨qi, qa, qb, qx, qy, qz, qk⟩ := q
  dsimp only at *
  have e : bhd ⟨pi, pa, pb, px, py, pz, pk⟩ ⟨qi, qa, qb, qx, qy, qz, qk⟩ = (decide (qa < pa) || (decide (pa = qa) && decide (qb < pb))) := rfl
  rw [e] at hr
  clear e
  by_cases h1 : qa < pa
  · rw [decide_eq_true h1] at hr
    subst hr
    exact bhd_0 pi pa pb px py pz pk qi qa qb qx qy qz qk h1 w
  rw [decide_eq_false h1] at hr
  by_cases h2 : pa = qa
  · rw [decide_eq_true (by omega)] at hr
    have h3 : (pa == qa) = true := by simp [h2]
    by_cases h4 : qb < pb
    · rw [decide_eq_true h4] at hr
      subst hr
      exact bhd_2 pi pa pb px py pz pk qi qa qb qx qy qz qk h1 h3 h4 w
    · rw [decide_eq_false h4] at hr
      subst hr
      exact bhd_3 pi pa pb px py pz pk qi qa qb qx qy qz qk h1 h3 h4 w
  · rw [decide_eq_false (show ¬ (pa = qa) by omega)] at hr
    have h3 : (pa == qa) = false := by simp [h2]
    subst hr
    exact bhd_1 pi pa pb px py pz pk qi qa qb qx qy qz qk h1 h3 w
set_option maxRecDepth 100000 in
set_option maxHeartbeats 2000000 in
theorem bef_0 (pi pa pb px py pz pk qi qa qb qx qy qz qk : Int) (c0 : pa < qa) (w : World) :
    Calls Try.prog 25 #[.agg #[.int .i64 pi, .int .i64 pa, .int .i64 pb, .int .i64 px, .int .i64 py, .int .i64 pz, .int .i64 pk], .agg #[.int .i64 qi, .int .i64 qa, .int .i64 qb, .int .i64 qx, .int .i64 qy, .int .i64 qz, .int .i64 qk]] w fun e_ w' => e_ = .returned (.bool true) ∧ Below w.heap.size w w' := by
  have p0 : World.cell? ((w.alloc (.cells #[.int .i64 pi, .int .i64 pa, .int .i64 pb, .int .i64 px, .int .i64 py, .int .i64 pz, .int .i64 pk] 28)).alloc (.cells #[.int .i64 qi, .int .i64 qa, .int .i64 qb, .int .i64 qx, .int .i64 qy, .int .i64 qz, .int .i64 qk] 28)) ⟨w.heap.size, 0, none⟩ = some (.int .i64 pi) := by simp [go_sem]
  have p1 : World.cell? ((w.alloc (.cells #[.int .i64 pi, .int .i64 pa, .int .i64 pb, .int .i64 px, .int .i64 py, .int .i64 pz, .int .i64 pk] 28)).alloc (.cells #[.int .i64 qi, .int .i64 qa, .int .i64 qb, .int .i64 qx, .int .i64 qy, .int .i64 qz, .int .i64 qk] 28)) ⟨w.heap.size, 1, none⟩ = some (.int .i64 pa) := by simp [go_sem]
  have p2 : World.cell? ((w.alloc (.cells #[.int .i64 pi, .int .i64 pa, .int .i64 pb, .int .i64 px, .int .i64 py, .int .i64 pz, .int .i64 pk] 28)).alloc (.cells #[.int .i64 qi, .int .i64 qa, .int .i64 qb, .int .i64 qx, .int .i64 qy, .int .i64 qz, .int .i64 qk] 28)) ⟨w.heap.size, 2, none⟩ = some (.int .i64 pb) := by simp [go_sem]
  have p3 : World.cell? ((w.alloc (.cells #[.int .i64 pi, .int .i64 pa, .int .i64 pb, .int .i64 px, .int .i64 py, .int .i64 pz, .int .i64 pk] 28)).alloc (.cells #[.int .i64 qi, .int .i64 qa, .int .i64 qb, .int .i64 qx, .int .i64 qy, .int .i64 qz, .int .i64 qk] 28)) ⟨w.heap.size, 3, none⟩ = some (.int .i64 px) := by simp [go_sem]
  have p4 : World.cell? ((w.alloc (.cells #[.int .i64 pi, .int .i64 pa, .int .i64 pb, .int .i64 px, .int .i64 py, .int .i64 pz, .int .i64 pk] 28)).alloc (.cells #[.int .i64 qi, .int .i64 qa, .int .i64 qb, .int .i64 qx, .int .i64 qy, .int .i64 qz, .int .i64 qk] 28)) ⟨w.heap.size, 4, none⟩ = some (.int .i64 py) := by simp [go_sem]
  have p5 : World.cell? ((w.alloc (.cells #[.int .i64 pi, .int .i64 pa, .int .i64 pb, .int .i64 px, .int .i64 py, .int .i64 pz, .int .i64 pk] 28)).alloc (.cells #[.int .i64 qi, .int .i64 qa, .int .i64 qb, .int .i64 qx, .int .i64 qy, .int .i64 qz, .int .i64 qk] 28)) ⟨w.heap.size, 5, none⟩ = some (.int .i64 pz) := by simp [go_sem]
  have p6 : World.cell? ((w.alloc (.cells #[.int .i64 pi, .int .i64 pa, .int .i64 pb, .int .i64 px, .int .i64 py, .int .i64 pz, .int .i64 pk] 28)).alloc (.cells #[.int .i64 qi, .int .i64 qa, .int .i64 qb, .int .i64 qx, .int .i64 qy, .int .i64 qz, .int .i64 qk] 28)) ⟨w.heap.size, 6, none⟩ = some (.int .i64 pk) := by simp [go_sem]
  have lp : w.heap.size < ((w.alloc (.cells #[.int .i64 pi, .int .i64 pa, .int .i64 pb, .int .i64 px, .int .i64 py, .int .i64 pz, .int .i64 pk] 28)).alloc (.cells #[.int .i64 qi, .int .i64 qa, .int .i64 qb, .int .i64 qx, .int .i64 qy, .int .i64 qz, .int .i64 qk] 28)).heap.size := by simp <;> omega
  have q0 : World.cell? ((w.alloc (.cells #[.int .i64 pi, .int .i64 pa, .int .i64 pb, .int .i64 px, .int .i64 py, .int .i64 pz, .int .i64 pk] 28)).alloc (.cells #[.int .i64 qi, .int .i64 qa, .int .i64 qb, .int .i64 qx, .int .i64 qy, .int .i64 qz, .int .i64 qk] 28)) ⟨w.heap.size + 1, 0, none⟩ = some (.int .i64 qi) := by simp [go_sem]
  have q1 : World.cell? ((w.alloc (.cells #[.int .i64 pi, .int .i64 pa, .int .i64 pb, .int .i64 px, .int .i64 py, .int .i64 pz, .int .i64 pk] 28)).alloc (.cells #[.int .i64 qi, .int .i64 qa, .int .i64 qb, .int .i64 qx, .int .i64 qy, .int .i64 qz, .int .i64 qk] 28)) ⟨w.heap.size + 1, 1, none⟩ = some (.int .i64 qa) := by simp [go_sem]
  have q2 : World.cell? ((w.alloc (.cells #[.int .i64 pi, .int .i64 pa, .int .i64 pb, .int .i64 px, .int .i64 py, .int .i64 pz, .int .i64 pk] 28)).alloc (.cells #[.int .i64 qi, .int .i64 qa, .int .i64 qb, .int .i64 qx, .int .i64 qy, .int .i64 qz, .int .i64 qk] 28)) ⟨w.heap.size + 1, 2, none⟩ = some (.int .i64 qb) := by simp [go_sem]
  have q3 : World.cell? ((w.alloc (.cells #[.int .i64 pi, .int .i64 pa, .int .i64 pb, .int .i64 px, .int .i64 py, .int .i64 pz, .int .i64 pk] 28)).alloc (.cells #[.int .i64 qi, .int .i64 qa, .int .i64 qb, .int .i64 qx, .int .i64 qy, .int .i64 qz, .int .i64 qk] 28)) ⟨w.heap.size + 1, 3, none⟩ = some (.int .i64 qx) := by simp [go_sem]
  have q4 : World.cell? ((w.alloc (.cells #[.int .i64 pi, .int .i64 pa, .int .i64 pb, .int .i64 px, .int .i64 py, .int .i64 pz, .int .i64 pk] 28)).alloc (.cells #[.int .i64 qi, .int .i64 qa, .int .i64 qb, .int .i64 qx, .int .i64 qy, .int .i64 qz, .int .i64 qk] 28)) ⟨w.heap.size + 1, 4, none⟩ = some (.int .i64 qy) := by simp [go_sem]
  have q5 : World.cell? ((w.alloc (.cells #[.int .i64 pi, .int .i64 pa, .int .i64 pb, .int .i64 px, .int .i64 py, .int .i64 pz, .int .i64 pk] 28)).alloc (.cells #[.int .i64 qi, .int .i64 qa, .int .i64 qb, .int .i64 qx, .int .i64 qy, .int .i64 qz, .int .i64 qk] 28)) ⟨w.heap.size + 1, 5, none⟩ = some (.int .i64 qz) := by simp [go_sem]
  have q6 : World.cell? ((w.alloc (.cells #[.int .i64 pi, .int .i64 pa, .int .i64 pb, .int .i64 px, .int .i64 py, .int .i64 pz, .int .i64 pk] 28)).alloc (.cells #[.int .i64 qi, .int .i64 qa, .int .i64 qb, .int .i64 qx, .int .i64 qy, .int .i64 qz, .int .i64 qk] 28)) ⟨w.heap.size + 1, 6, none⟩ = some (.int .i64 qk) := by simp [go_sem]
  have lq : w.heap.size + 1 < ((w.alloc (.cells #[.int .i64 pi, .int .i64 pa, .int .i64 pb, .int .i64 px, .int .i64 py, .int .i64 pz, .int .i64 pk] 28)).alloc (.cells #[.int .i64 qi, .int .i64 qa, .int .i64 qb, .int .i64 qx, .int .i64 qy, .int .i64 qz, .int .i64 qk] 28)).heap.size := by simp <;> omega
  have HB := Lib.hid (show Below w.heap.size w ((w.alloc (.cells #[.int .i64 pi, .int .i64 pa, .int .i64 pb, .int .i64 px, .int .i64 py, .int .i64 pz, .int .i64 pk] 28)).alloc (.cells #[.int .i64 qi, .int .i64 qa, .int .i64 qb, .int .i64 qx, .int .i64 qy, .int .i64 qz, .int .i64 qk] 28)) from (((Below.refl _ _).alloc (by simp <;> omega) _).alloc (by simp <;> omega) _))
  go_enter Try.func25, Try.ntmps25
  go_wp2_with fail
  generalize (w.alloc (.cells #[.int .i64 pi, .int .i64 pa, .int .i64 pb, .int .i64 px, .int .i64 py, .int .i64 pz, .int .i64 pk] 28)).alloc (.cells #[.int .i64 qi, .int .i64 qa, .int .i64 qb, .int .i64 qx, .int .i64 qy, .int .i64 qz, .int .i64 qk] 28) = w1 at *
  go_ret
  exact ⟨rfl, HB.out⟩
set_option maxRecDepth 100000 in
set_option maxHeartbeats 2000000 in
theorem bef_1 (pi pa pb px py pz pk qi qa qb qx qy qz qk : Int) (c0 : ¬ pa < qa) (c1 : (pa == qa) = false) (w : World) :
    Calls Try.prog 25 #[.agg #[.int .i64 pi, .int .i64 pa, .int .i64 pb, .int .i64 px, .int .i64 py, .int .i64 pz, .int .i64 pk], .agg #[.int .i64 qi, .int .i64 qa, .int .i64 qb, .int .i64 qx, .int .i64 qy, .int .i64 qz, .int .i64 qk]] w fun e_ w' => e_ = .returned (.bool false) ∧ Below w.heap.size w w' := by
  have p0 : World.cell? ((w.alloc (.cells #[.int .i64 pi, .int .i64 pa, .int .i64 pb, .int .i64 px, .int .i64 py, .int .i64 pz, .int .i64 pk] 28)).alloc (.cells #[.int .i64 qi, .int .i64 qa, .int .i64 qb, .int .i64 qx, .int .i64 qy, .int .i64 qz, .int .i64 qk] 28)) ⟨w.heap.size, 0, none⟩ = some (.int .i64 pi) := by simp [go_sem]
  have p1 : World.cell? ((w.alloc (.cells #[.int .i64 pi, .int .i64 pa, .int .i64 pb, .int .i64 px, .int .i64 py, .int .i64 pz, .int .i64 pk] 28)).alloc (.cells #[.int .i64 qi, .int .i64 qa, .int .i64 qb, .int .i64 qx, .int .i64 qy, .int .i64 qz, .int .i64 qk] 28)) ⟨w.heap.size, 1, none⟩ = some (.int .i64 pa) := by simp [go_sem]
  have p2 : World.cell? ((w.alloc (.cells #[.int .i64 pi, .int .i64 pa, .int .i64 pb, .int .i64 px, .int .i64 py, .int .i64 pz, .int .i64 pk] 28)).alloc (.cells #[.int .i64 qi, .int .i64 qa, .int .i64 qb, .int .i64 qx, .int .i64 qy, .int .i64 qz, .int .i64 qk] 28)) ⟨w.heap.size, 2, none⟩ = some (.int .i64 pb) := by simp [go_sem]
  have p3 : World.cell? ((w.alloc (.cells #[.int .i64 pi, .int .i64 pa, .int .i64 pb, .int .i64 px, .int .i64 py, .int .i64 pz, .int .i64 pk] 28)).alloc (.cells #[.int .i64 qi, .int .i64 qa, .int .i64 qb, .int .i64 qx, .int .i64 qy, .int .i64 qz, .int .i64 qk] 28)) ⟨w.heap.size, 3, none⟩ = some (.int .i64 px) := by simp [go_sem]
  have p4 : World.cell? ((w.alloc (.cells #[.int .i64 pi, .int .i64 pa, .int .i64 pb, .int .i64 px, .int .i64 py, .int .i64 pz, .int .i64 pk] 28)).alloc (.cells #[.int .i64 qi, .int .i64 qa, .int .i64 qb, .int .i64 qx, .int .i64 qy, .int .i64 qz, .int .i64 qk] 28)) ⟨w.heap.size, 4, none⟩ = some (.int .i64 py) := by simp [go_sem]
  have p5 : World.cell? ((w.alloc (.cells #[.int .i64 pi, .int .i64 pa, .int .i64 pb, .int .i64 px, .int .i64 py, .int .i64 pz, .int .i64 pk] 28)).alloc (.cells #[.int .i64 qi, .int .i64 qa, .int .i64 qb, .int .i64 qx, .int .i64 qy, .int .i64 qz, .int .i64 qk] 28)) ⟨w.heap.size, 5, none⟩ = some (.int .i64 pz) := by simp [go_sem]
  have p6 : World.cell? ((w.alloc (.cells #[.int .i64 pi, .int .i64 pa, .int .i64 pb, .int .i64 px, .int .i64 py, .int .i64 pz, .int .i64 pk] 28)).alloc (.cells #[.int .i64 qi, .int .i64 qa, .int .i64 qb, .int .i64 qx, .int .i64 qy, .int .i64 qz, .int .i64 qk] 28)) ⟨w.heap.size, 6, none⟩ = some (.int .i64 pk) := by simp [go_sem]
  have lp : w.heap.size < ((w.alloc (.cells #[.int .i64 pi, .int .i64 pa, .int .i64 pb, .int .i64 px, .int .i64 py, .int .i64 pz, .int .i64 pk] 28)).alloc (.cells #[.int .i64 qi, .int .i64 qa, .int .i64 qb, .int .i64 qx, .int .i64 qy, .int .i64 qz, .int .i64 qk] 28)).heap.size := by simp <;> omega
  have q0 : World.cell? ((w.alloc (.cells #[.int .i64 pi, .int .i64 pa, .int .i64 pb, .int .i64 px, .int .i64 py, .int .i64 pz, .int .i64 pk] 28)).alloc (.cells #[.int .i64 qi, .int .i64 qa, .int .i64 qb, .int .i64 qx, .int .i64 qy, .int .i64 qz, .int .i64 qk] 28)) ⟨w.heap.size + 1, 0, none⟩ = some (.int .i64 qi) := by simp [go_sem]
  have q1 : World.cell? ((w.alloc (.cells #[.int .i64 pi, .int .i64 pa, .int .i64 pb, .int .i64 px, .int .i64 py, .int .i64 pz, .int .i64 pk] 28)).alloc (.cells #[.int .i64 qi, .int .i64 qa, .int .i64 qb, .int .i64 qx, .int .i64 qy, .int .i64 qz, .int .i64 qk] 28)) ⟨w.heap.size + 1, 1, none⟩ = some (.int .i64 qa) := by simp [go_sem]
  have q2 : World.cell? ((w.alloc (.cells #[.int .i64 pi, .int .i64 pa, .int .i64 pb, .int .i64 px, .int .i64 py, .int .i64 pz, .int .i64 pk] 28)).alloc (.cells #[.int .i64 qi, .int .i64 qa, .int .i64 qb, .int .i64 qx, .int .i64 qy, .int .i64 qz, .int .i64 qk] 28)) ⟨w.heap.size + 1, 2, none⟩ = some (.int .i64 qb) := by simp [go_sem]
  have q3 : World.cell? ((w.alloc (.cells #[.int .i64 pi, .int .i64 pa, .int .i64 pb, .int .i64 px, .int .i64 py, .int .i64 pz, .int .i64 pk] 28)).alloc (.cells #[.int .i64 qi, .int .i64 qa, .int .i64 qb, .int .i64 qx, .int .i64 qy, .int .i64 qz, .int .i64 qk] 28)) ⟨w.heap.size + 1, 3, none⟩ = some (.int .i64 qx) := by simp [go_sem]
  have q4 : World.cell? ((w.alloc (.cells #[.int .i64 pi, .int .i64 pa, .int .i64 pb, .int .i64 px, .int .i64 py, .int .i64 pz, .int .i64 pk] 28)).alloc (.cells #[.int .i64 qi, .int .i64 qa, .int .i64 qb, .int .i64 qx, .int .i64 qy, .int .i64 qz, .int .i64 qk] 28)) ⟨w.heap.size + 1, 4, none⟩ = some (.int .i64 qy) := by simp [go_sem]
  have q5 : World.cell? ((w.alloc (.cells #[.int .i64 pi, .int .i64 pa, .int .i64 pb, .int .i64 px, .int .i64 py, .int .i64 pz, .int .i64 pk] 28)).alloc (.cells #[.int .i64 qi, .int .i64 qa, .int .i64 qb, .int .i64 qx, .int .i64 qy, .int .i64 qz, .int .i64 qk] 28)) ⟨w.heap.size + 1, 5, none⟩ = some (.int .i64 qz) := by simp [go_sem]
  have q6 : World.cell? ((w.alloc (.cells #[.int .i64 pi, .int .i64 pa, .int .i64 pb, .int .i64 px, .int .i64 py, .int .i64 pz, .int .i64 pk] 28)).alloc (.cells #[.int .i64 qi, .int .i64 qa, .int .i64 qb, .int .i64 qx, .int .i64 qy, .int .i64 qz, .int .i64 qk] 28)) ⟨w.heap.size + 1, 6, none⟩ = some (.int .i64 qk) := by simp [go_sem]
  have lq : w.heap.size + 1 < ((w.alloc (.cells #[.int .i64 pi, .int .i64 pa, .int .i64 pb, .int .i64 px, .int .i64 py, .int .i64 pz, .int .i64 pk] 28)).alloc (.cells #[.int .i64 qi, .int .i64 qa, .int .i64 qb, .int .i64 qx, .int .i64 qy, .int .i64 qz, .int .i64 qk] 28)).heap.size := by simp <;> omega
  have HB := Lib.hid (show Below w.heap.size w ((w.alloc (.cells #[.int .i64 pi, .int .i64 pa, .int .i64 pb, .int .i64 px, .int .i64 py, .int .i64 pz, .int .i64 pk] 28)).alloc (.cells #[.int .i64 qi, .int .i64 qa, .int .i64 qb, .int .i64 qx, .int .i64 qy, .int .i64 qz, .int .i64 qk] 28)) from (((Below.refl _ _).alloc (by simp <;> omega) _).alloc (by simp <;> omega) _))
  go_enter Try.func25, Try.ntmps25
  go_wp2_with fail
  generalize (w.alloc (.cells #[.int .i64 pi, .int .i64 pa, .int .i64 pb, .int .i64 px, .int .i64 py, .int .i64 pz, .int .i64 pk] 28)).alloc (.cells #[.int .i64 qi, .int .i64 qa, .int .i64 qb, .int .i64 qx, .int .i64 qy, .int .i64 qz, .int .i64 qk] 28) = w1 at *
  go_ret
  exact ⟨rfl, HB.out⟩
set_option maxRecDepth 100000 in
set_option maxHeartbeats 2000000 in
theorem bef_2 (pi pa pb px py pz pk qi qa qb qx qy qz qk : Int) (c0 : ¬ pa < qa) (c1 : (pa == qa) = true) (c2 : pb < qb) (w : World) :
    Calls Try.prog 25 #[.agg #[.int .i64 pi, .int .i64 pa, .int .i64 pb, .int .i64 px, .int .i64 py, .int .i64 pz, .int .i64 pk], .agg #[.int .i64 qi, .int .i64 qa, .int .i64 qb, .int .i64 qx, .int .i64 qy, .int .i64 qz, .int .i64 qk]] w fun e_ w' => e_ = .returned (.bool true) ∧ Below w.heap.size w w' := by
  have p0 : World.cell? ((w.alloc (.cells #[.int .i64 pi, .int .i64 pa, .int .i64 pb, .int .i64 px, .int .i64 py, .int .i64 pz, .int .i64 pk] 28)).alloc (.cells #[.int .i64 qi, .int .i64 qa, .int .i64 qb, .int .i64 qx, .int .i64 qy, .int .i64 qz, .int .i64 qk] 28)) ⟨w.heap.size, 0, none⟩ = some (.int .i64 pi) := by simp [go_sem]
  have p1 : World.cell? ((w.alloc (.cells #[.int .i64 pi, .int .i64 pa, .int .i64 pb, .int .i64 px, .int .i64 py, .int .i64 pz, .int .i64 pk] 28)).alloc (.cells #[.int .i64 qi, .int .i64 qa, .int .i64 qb, .int .i64 qx, .int .i64 qy, .int .i64 qz, .int .i64 qk] 28)) ⟨w.heap.size, 1, none⟩ = some (.int .i64 pa) := by simp [go_sem]
  have p2 : World.cell? ((w.alloc (.cells #[.int .i64 pi, .int .i64 pa, .int .i64 pb, .int .i64 px, .int .i64 py, .int .i64 pz, .int .i64 pk] 28)).alloc (.cells #[.int .i64 qi, .int .i64 qa, .int .i64 qb, .int .i64 qx, .int .i64 qy, .int .i64 qz, .int .i64 qk] 28)) ⟨w.heap.size, 2, none⟩ = some (.int .i64 pb) := by simp [go_sem]
  have p3 : World.cell? ((w.alloc (.cells #[.int .i64 pi, .int .i64 pa, .int .i64 pb, .int .i64 px, .int .i64 py, .int .i64 pz, .int .i64 pk] 28)).alloc (.cells #[.int .i64 qi, .int .i64 qa, .int .i64 qb, .int .i64 qx, .int .i64 qy, .int .i64 qz, .int .i64 qk] 28)) ⟨w.heap.size, 3, none⟩ = some (.int .i64 px) := by simp [go_sem]
  have p4 : World.cell? ((w.alloc (.cells #[.int .i64 pi, .int .i64 pa, .int .i64 pb, .int .i64 px, .int .i64 py, .int .i64 pz, .int .i64 pk] 28)).alloc (.cells #[.int .i64 qi, .int .i64 qa, .int .i64 qb, .int .i64 qx, .int .i64 qy, .int .i64 qz, .int .i64 qk] 28)) ⟨w.heap.size, 4, none⟩ = some (.int .i64 py) := by simp [go_sem]
  have p5 : World.cell? ((w.alloc (.cells #[.int .i64 pi, .int .i64 pa, .int .i64 pb, .int .i64 px, .int .i64 py, .int .i64 pz, .int .i64 pk] 28)).alloc (.cells #[.int .i64 qi, .int .i64 qa, .int .i64 qb, .int .i64 qx, .int .i64 qy, .int .i64 qz, .int .i64 qk] 28)) ⟨w.heap.size, 5, none⟩ = some (.int .i64 pz) := by simp [go_sem]
  have p6 : World.cell? ((w.alloc (.cells #[.int .i64 pi, .int .i64 pa, .int .i64 pb, .int .i64 px, .int .i64 py, .int .i64 pz, .int .i64 pk] 28)).alloc (.cells #[.int .i64 qi, .int .i64 qa, .int .i64 qb, .int .i64 qx, .int .i64 qy, .int .i64 qz, .int .i64 qk] 28)) ⟨w.heap.size, 6, none⟩ = some (.int .i64 pk) := by simp [go_sem]
  have lp : w.heap.size < ((w.alloc (.cells #[.int .i64 pi, .int .i64 pa, .int .i64 pb, .int .i64 px, .int .i64 py, .int .i64 pz, .int .i64 pk] 28)).alloc (.cells #[.int .i64 qi, .int .i64 qa, .int .i64 qb, .int .i64 qx, .int .i64 qy, .int .i64 qz, .int .i64 qk] 28)).heap.size := by simp <;> omega
  have q0 : World.cell? ((w.alloc (.cells #[.int .i64 pi, .int .i64 pa, .int .i64 pb, .int .i64 px, .int .i64 py, .int .i64 pz, .int .i64 pk] 28)).alloc (.cells #[.int .i64 qi, .int .i64 qa, .int .i64 qb, .int .i64 qx, .int .i64 qy, .int .i64 qz, .int .i64 qk] 28)) ⟨w.heap.size + 1, 0, none⟩ = some (.int .i64 qi) := by simp [go_sem]
  have q1 : World.cell? ((w.alloc (.cells #[.int .i64 pi, .int .i64 pa, .int .i64 pb, .int .i64 px, .int .i64 py, .int .i64 pz, .int .i64 pk] 28)).alloc (.cells #[.int .i64 qi, .int .i64 qa, .int .i64 qb, .int .i64 qx, .int .i64 qy, .int .i64 qz, .int .i64 qk] 28)) ⟨w.heap.size + 1, 1, none⟩ = some (.int .i64 qa) := by simp [go_sem]
  have q2 : World.cell? ((w.alloc (.cells #[.int .i64 pi, .int .i64 pa, .int .i64 pb, .int .i64 px, .int .i64 py, .int .i64 pz, .int .i64 pk] 28)).alloc (.cells #[.int .i64 qi, .int .i64 qa, .int .i64 qb, .int .i64 qx, .int .i64 qy, .int .i64 qz, .int .i64 qk] 28)) ⟨w.heap.size + 1, 2, none⟩ = some (.int .i64 qb) := by simp [go_sem]
  have q3 : World.cell? ((w.alloc (.cells #[.int .i64 pi, .int .i64 pa, .int .i64 pb, .int .i64 px, .int .i64 py, .int .i64 pz, .int .i64 pk] 28)).alloc (.cells #[.int .i64 qi, .int .i64 qa, .int .i64 qb, .int .i64 qx, .int .i64 qy, .int .i64 qz, .int .i64 qk] 28)) ⟨w.heap.size + 1, 3, none⟩ = some (.int .i64 qx) := by simp [go_sem]
  have q4 : World.cell? ((w.alloc (.cells #[.int .i64 pi, .int .i64 pa, .int .i64 pb, .int .i64 px, .int .i64 py, .int .i64 pz, .int .i64 pk] 28)).alloc (.cells #[.int .i64 qi, .int .i64 qa, .int .i64 qb, .int .i64 qx, .int .i64 qy, .int .i64 qz, .int .i64 qk] 28)) ⟨w.heap.size + 1, 4, none⟩ = some (.int .i64 qy) := by simp [go_sem]
  have q5 : World.cell? ((w.alloc (.cells #[.int .i64 pi, .int .i64 pa, .int .i64 pb, .int .i64 px, .int .i64 py, .int .i64 pz, .int .i64 pk] 28)).alloc (.cells #[.int .i64 qi, .int .i64 qa, .int .i64 qb, .int .i64 qx, .int .i64 qy, .int .i64 qz, .int .i64 qk] 28)) ⟨w.heap.size + 1, 5, none⟩ = some (.int .i64 qz) := by simp [go_sem]
  have q6 : World.cell? ((w.alloc (.cells #[.int .i64 pi, .int .i64 pa, .int .i64 pb, .int .i64 px, .int .i64 py, .int .i64 pz, .int .i64 pk] 28)).alloc (.cells #[.int .i64 qi, .int .i64 qa, .int .i64 qb, .int .i64 qx, .int .i64 qy, .int .i64 qz, .int .i64 qk] 28)) ⟨w.heap.size + 1, 6, none⟩ = some (.int .i64 qk) := by simp [go_sem]
  have lq : w.heap.size + 1 < ((w.alloc (.cells #[.int .i64 pi, .int .i64 pa, .int .i64 pb, .int .i64 px, .int .i64 py, .int .i64 pz, .int .i64 pk] 28)).alloc (.cells #[.int .i64 qi, .int .i64 qa, .int .i64 qb, .int .i64 qx, .int .i64 qy, .int .i64 qz, .int .i64 qk] 28)).heap.size := by simp <;> omega
  have HB := Lib.hid (show Below w.heap.size w ((w.alloc (.cells #[.int .i64 pi, .int .i64 pa, .int .i64 pb, .int .i64 px, .int .i64 py, .int .i64 pz, .int .i64 pk] 28)).alloc (.cells #[.int .i64 qi, .int .i64 qa, .int .i64 qb, .int .i64 qx, .int .i64 qy, .int .i64 qz, .int .i64 qk] 28)) from (((Below.refl _ _).alloc (by simp <;> omega) _).alloc (by simp <;> omega) _))
  go_enter Try.func25, Try.ntmps25
  go_wp2_with fail
  generalize (w.alloc (.cells #[.int .i64 pi, .int .i64 pa, .int .i64 pb, .int .i64 px, .int .i64 py, .int .i64 pz, .int .i64 pk] 28)).alloc (.cells #[.int .i64 qi, .int .i64 qa, .int .i64 qb, .int .i64 qx, .int .i64 qy, .int .i64 qz, .int .i64 qk] 28) = w1 at *
  go_ret
  exact ⟨rfl, HB.out⟩
set_option maxRecDepth 100000 in
set_option maxHeartbeats 2000000 in
theorem bef_3 (pi pa pb px py pz pk qi qa qb qx qy qz qk : Int) (c0 : ¬ pa < qa) (c1 : (pa == qa) = true) (c2 : ¬ pb < qb) (w : World) :
    Calls Try.prog 25 #[.agg #[.int .i64 pi, .int .i64 pa, .int .i64 pb, .int .i64 px, .int .i64 py, .int .i64 pz, .int .i64 pk], .agg #[.int .i64 qi, .int .i64 qa, .int .i64 qb, .int .i64 qx, .int .i64 qy, .int .i64 qz, .int .i64 qk]] w fun e_ w' => e_ = .returned (.bool false) ∧ Below w.heap.size w w' := by
  have p0 : World.cell? ((w.alloc (.cells #[.int .i64 pi, .int .i64 pa, .int .i64 pb, .int .i64 px, .int .i64 py, .int .i64 pz, .int .i64 pk] 28)).alloc (.cells #[.int .i64 qi, .int .i64 qa, .int .i64 qb, .int .i64 qx, .int .i64 qy, .int .i64 qz, .int .i64 qk] 28)) ⟨w.heap.size, 0, none⟩ = some (.int .i64 pi) := by simp [go_sem]
  have p1 : World.cell? ((w.alloc (.cells #[.int .i64 pi, .int .i64 pa, .int .i64 pb, .int .i64 px, .int .i64 py, .int .i64 pz, .int .i64 pk] 28)).alloc (.cells #[.int .i64 qi, .int .i64 qa, .int .i64 qb, .int .i64 qx, .int .i64 qy, .int .i64 qz, .int .i64 qk] 28)) ⟨w.heap.size, 1, none⟩ = some (.int .i64 pa) := by simp [go_sem]
  have p2 : World.cell? ((w.alloc (.cells #[.int .i64 pi, .int .i64 pa, .int .i64 pb, .int .i64 px, .int .i64 py, .int .i64 pz, .int .i64 pk] 28)).alloc (.cells #[.int .i64 qi, .int .i64 qa, .int .i64 qb, .int .i64 qx, .int .i64 qy, .int .i64 qz, .int .i64 qk] 28)) ⟨w.heap.size, 2, none⟩ = some (.int .i64 pb) := by simp [go_sem]
  have p3 : World.cell? ((w.alloc (.cells #[.int .i64 pi, .int .i64 pa, .int .i64 pb, .int .i64 px, .int .i64 py, .int .i64 pz, .int .i64 pk] 28)).alloc (.cells #[.int .i64 qi, .int .i64 qa, .int .i64 qb, .int .i64 qx, .int .i64 qy, .int .i64 qz, .int .i64 qk] 28)) ⟨w.heap.size, 3, none⟩ = some (.int .i64 px) := by simp [go_sem]
  have p4 : World.cell? ((w.alloc (.cells #[.int .i64 pi, .int .i64 pa, .int .i64 pb, .int .i64 px, .int .i64 py, .int .i64 pz, .int .i64 pk] 28)).alloc (.cells #[.int .i64 qi, .int .i64 qa, .int .i64 qb, .int .i64 qx, .int .i64 qy, .int .i64 qz, .int .i64 qk] 28)) ⟨w.heap.size, 4, none⟩ = some (.int .i64 py) := by simp [go_sem]
  have p5 : World.cell? ((w.alloc (.cells #[.int .i64 pi, .int .i64 pa, .int .i64 pb, .int .i64 px, .int .i64 py, .int .i64 pz, .int .i64 pk] 28)).alloc (.cells #[.int .i64 qi, .int .i64 qa, .int .i64 qb, .int .i64 qx, .int .i64 qy, .int .i64 qz, .int .i64 qk] 28)) ⟨w.heap.size, 5, none⟩ = some (.int .i64 pz) := by simp [go_sem]
  have p6 : World.cell? ((w.alloc (.cells #[.int .i64 pi, .int .i64 pa, .int .i64 pb, .int .i64 px, .int .i64 py, .int .i64 pz, .int .i64 pk] 28)).alloc (.cells #[.int .i64 qi, .int .i64 qa, .int .i64 qb, .int .i64 qx, .int .i64 qy, .int .i64 qz, .int .i64 qk] 28)) ⟨w.heap.size, 6, none⟩ = some (.int .i64 pk) := by simp [go_sem]
  have lp : w.heap.size < ((w.alloc (.cells #[.int .i64 pi, .int .i64 pa, .int .i64 pb, .int .i64 px, .int .i64 py, .int .i64 pz, .int .i64 pk] 28)).alloc (.cells #[.int .i64 qi, .int .i64 qa, .int .i64 qb, .int .i64 qx, .int .i64 qy, .int .i64 qz, .int .i64 qk] 28)).heap.size := by simp <;> omega
  have q0 : World.cell? ((w.alloc (.cells #[.int .i64 pi, .int .i64 pa, .int .i64 pb, .int .i64 px, .int .i64 py, .int .i64 pz, .int .i64 pk] 28)).alloc (.cells #[.int .i64 qi, .int .i64 qa, .int .i64 qb, .int .i64 qx, .int .i64 qy, .int .i64 qz, .int .i64 qk] 28)) ⟨w.heap.size + 1, 0, none⟩ = some (.int .i64 qi) := by simp [go_sem]
  have q1 : World.cell? ((w.alloc (.cells #[.int .i64 pi, .int .i64 pa, .int .i64 pb, .int .i64 px, .int .i64 py, .int .i64 pz, .int .i64 pk] 28)).alloc (.cells #[.int .i64 qi, .int .i64 qa, .int .i64 qb, .int .i64 qx, .int .i64 qy, .int .i64 qz, .int .i64 qk] 28)) ⟨w.heap.size + 1, 1, none⟩ = some (.int .i64 qa) := by simp [go_sem]
  have q2 : World.cell? ((w.alloc (.cells #[.int .i64 pi, .int .i64 pa, .int .i64 pb, .int .i64 px, .int .i64 py, .int .i64 pz, .int .i64 pk] 28)).alloc (.cells #[.int .i64 qi, .int .i64 qa, .int .i64 qb, .int .i64 qx, .int .i64 qy, .int .i64 qz, .int .i64 qk] 28)) ⟨w.heap.size + 1, 2, none⟩ = some (.int .i64 qb) := by simp [go_sem]
  have q3 : World.cell? ((w.alloc (.cells #[.int .i64 pi, .int .i64 pa, .int .i64 pb, .int .i64 px, .int .i64 py, .int .i64 pz, .int .i64 pk] 28)).alloc (.cells #[.int .i64 qi, .int .i64 qa, .int .i64 qb, .int .i64 qx, .int .i64 qy, .int .i64 qz, .int .i64 qk] 28)) ⟨w.heap.size + 1, 3, none⟩ = some (.int .i64 qx) := by simp [go_sem]
  have q4 : World.cell? ((w.alloc (.cells #[.int .i64 pi, .int .i64 pa, .int .i64 pb, .int .i64 px, .int .i64 py, .int .i64 pz, .int .i64 pk] 28)).alloc (.cells #[.int .i64 qi, .int .i64 qa, .int .i64 qb, .int .i64 qx, .int .i64 qy, .int .i64 qz, .int .i64 qk] 28)) ⟨w.heap.size + 1, 4, none⟩ = some (.int .i64 qy) := by simp [go_sem]
  have q5 : World.cell? ((w.alloc (.cells #[.int .i64 pi, .int .i64 pa, .int .i64 pb, .int .i64 px, .int .i64 py, .int .i64 pz, .int .i64 pk] 28)).alloc (.cells #[.int .i64 qi, .int .i64 qa, .int .i64 qb, .int .i64 qx, .int .i64 qy, .int .i64 qz, .int .i64 qk] 28)) ⟨w.heap.size + 1, 5, none⟩ = some (.int .i64 qz) := by simp [go_sem]
  have q6 : World.cell? ((w.alloc (.cells #[.int .i64 pi, .int .i64 pa, .int .i64 pb, .int .i64 px, .int .i64 py, .int .i64 pz, .int .i64 pk] 28)).alloc (.cells #[.int .i64 qi, .int .i64 qa, .int .i64 qb, .int .i64 qx, .int .i64 qy, .int .i64 qz, .int .i64 qk] 28)) ⟨w.heap.size + 1, 6, none⟩ = some (.int .i64 qk) := by simp [go_sem]
  have lq : w.heap.size + 1 < ((w.alloc (.cells #[.int .i64 pi, .int .i64 pa, .int .i64 pb, .int .i64 px, .int .i64 py, .int .i64 pz, .int .i64 pk] 28)).alloc (.cells #[.int .i64 qi, .int .i64 qa, .int .i64 qb, .int .i64 qx, .int .i64 qy, .int .i64 qz, .int .i64 qk] 28)).heap.size := by simp <;> omega
  have HB := Lib.hid (show Below w.heap.size w ((w.alloc (.cells #[.int .i64 pi, .int .i64 pa, .int .i64 pb, .int .i64 px, .int .i64 py, .int .i64 pz, .int .i64 pk] 28)).alloc (.cells #[.int .i64 qi, .int .i64 qa, .int .i64 qb, .int .i64 qx, .int .i64 qy, .int .i64 qz, .int .i64 qk] 28)) from (((Below.refl _ _).alloc (by simp <;> omega) _).alloc (by simp <;> omega) _))
  go_enter Try.func25, Try.ntmps25
  go_wp2_with fail
  generalize (w.alloc (.cells #[.int .i64 pi, .int .i64 pa, .int .i64 pb, .int .i64 px, .int .i64 py, .int .i64 pz, .int .i64 pk] 28)).alloc (.cells #[.int .i64 qi, .int .i64 qa, .int .i64 qb, .int .i64 qx, .int .i64 qy, .int .i64 qz, .int .i64 qk] 28) = w1 at *
  go_ret
  exact ⟨rfl, HB.out⟩
theorem bef_is (p q : Pl) (r : Bool) (hr : bhd q p = r) (w : World) :
    Calls Try.prog 25 #[.agg #[.int .i64 p.id, .int .i64 p.row, .int .i64 p.pos, .int .i64 p.ex, .int .i64 p.ey, .int .i64 p.ez, .int .i64 p.kd], .agg #[.int .i64 q.id, .int .i64 q.row, .int .i64 q.pos, .int .i64 q.ex, .int .i64 q.ey, .int .i64 q.ez, .int .i64 q.kd]] w fun e_ w' => e_ = .returned (.bool r) ∧ Below w.heap.size w w' := by
  obtain ⟨pi, pa, pb, px, py, pz, pk⟩ := p
  obtain ⟨qi, qa, qb, qx, qy, qz, qk⟩ := q
  dsimp only at *
  have e : bhd ⟨qi, qa, qb, qx, qy, qz, qk⟩ ⟨pi, pa, pb, px, py, pz, pk⟩ = (decide (pa < qa) || (decide (qa = pa) && decide (pb < qb))) := rfl
  rw [e] at hr
  clear e
  by_cases h1 : pa < qa
  · rw [decide_eq_true h1] at hr
    subst hr
    exact bef_0 pi pa pb px py pz pk qi qa qb qx qy qz qk h1 w
  rw [decide_eq_false h1] at hr
  by_cases h2 : pa = qa
  · rw [decide_eq_true (by omega)] at hr
    have h3 : (pa == qa) = true := by simp [h2]
    by_cases h4 : pb < qb
    · rw [decide_eq_true h4] at hr
      subst hr
      exact bef_2 pi pa pb px py pz pk qi qa qb qx qy qz qk h1 h3 h4 w
    · rw [decide_eq_false h4] at hr
      subst hr
      exact bef_3 pi pa pb px py pz pk qi qa qb qx qy qz qk h1 h3 h4 w
  · rw [decide_eq_false (show ¬ (qa = pa) by omega)] at hr
    have h3 : (pa == qa) = false := by simp [h2]
    subst hr
    exact bef_1 pi pa pb px py pz pk qi qa qb qx qy qz qk h1 h3 w
theorem row_is (n : Int) (r : Bool) (hr : rw_ n = r) (w : World) : Calls Try.prog 72 #[.int .i64 n] w fun e_ w' => e_ = .returned (.bool r) ∧ w = w' := by
  go_enter Try.func72, Try.ntmps72
  go_wp2
  all_goals (go_ret; exact ⟨ret_bool (by rw [← hr, Bool.eq_iff_iff]; simp [rw_]; try omega), rfl⟩)
set_option maxRecDepth 100000 in
set_option maxHeartbeats 2000000 in
theorem plc_00 (pi pa pb px py pz pk : Int) (c0 : (pk == 1) = true) (c1 : ¬ 1 ≤ pi) (w : World) :
    Calls Try.prog 55 #[.agg #[.int .i64 pi, .int .i64 pa, .int .i64 pb, .int .i64 px, .int .i64 py, .int .i64 pz, .int .i64 pk]] w fun e_ w' => e_ = .returned (.bool false) ∧ Below w.heap.size w w' := by
  have p0 : World.cell? (w.alloc (.cells #[.int .i64 pi, .int .i64 pa, .int .i64 pb, .int .i64 px, .int .i64 py, .int .i64 pz, .int .i64 pk] 28)) ⟨w.heap.size, 0, none⟩ = some (.int .i64 pi) := by simp [go_sem]
  have p1 : World.cell? (w.alloc (.cells #[.int .i64 pi, .int .i64 pa, .int .i64 pb, .int .i64 px, .int .i64 py, .int .i64 pz, .int .i64 pk] 28)) ⟨w.heap.size, 1, none⟩ = some (.int .i64 pa) := by simp [go_sem]
  have p2 : World.cell? (w.alloc (.cells #[.int .i64 pi, .int .i64 pa, .int .i64 pb, .int .i64 px, .int .i64 py, .int .i64 pz, .int .i64 pk] 28)) ⟨w.heap.size, 2, none⟩ = some (.int .i64 pb) := by simp [go_sem]
  have p3 : World.cell? (w.alloc (.cells #[.int .i64 pi, .int .i64 pa, .int .i64 pb, .int .i64 px, .int .i64 py, .int .i64 pz, .int .i64 pk] 28)) ⟨w.heap.size, 3, none⟩ = some (.int .i64 px) := by simp [go_sem]
  have p4 : World.cell? (w.alloc (.cells #[.int .i64 pi, .int .i64 pa, .int .i64 pb, .int .i64 px, .int .i64 py, .int .i64 pz, .int .i64 pk] 28)) ⟨w.heap.size, 4, none⟩ = some (.int .i64 py) := by simp [go_sem]
  have p5 : World.cell? (w.alloc (.cells #[.int .i64 pi, .int .i64 pa, .int .i64 pb, .int .i64 px, .int .i64 py, .int .i64 pz, .int .i64 pk] 28)) ⟨w.heap.size, 5, none⟩ = some (.int .i64 pz) := by simp [go_sem]
  have p6 : World.cell? (w.alloc (.cells #[.int .i64 pi, .int .i64 pa, .int .i64 pb, .int .i64 px, .int .i64 py, .int .i64 pz, .int .i64 pk] 28)) ⟨w.heap.size, 6, none⟩ = some (.int .i64 pk) := by simp [go_sem]
  have lp : w.heap.size < (w.alloc (.cells #[.int .i64 pi, .int .i64 pa, .int .i64 pb, .int .i64 px, .int .i64 py, .int .i64 pz, .int .i64 pk] 28)).heap.size := by simp <;> omega
  have HB := Lib.hid (show Below w.heap.size w (w.alloc (.cells #[.int .i64 pi, .int .i64 pa, .int .i64 pb, .int .i64 px, .int .i64 py, .int .i64 pz, .int .i64 pk] 28)) from ((Below.refl _ _).alloc (by simp <;> omega) _))
  go_enter Try.func55, Try.ntmps55
  go_wp2_with fail
  generalize w.alloc (.cells #[.int .i64 pi, .int .i64 pa, .int .i64 pb, .int .i64 px, .int .i64 py, .int .i64 pz, .int .i64 pk] 28) = w1 at *
  go_ret
  exact ⟨rfl, HB.out⟩
set_option maxRecDepth 100000 in
set_option maxHeartbeats 2000000 in
theorem plc_01 (pi pa pb px py pz pk : Int) (c0 : (pk == 1) = true) (c1 : 1 ≤ pi) (c2 : ¬ pi ≤ 1000000) (w : World) :
    Calls Try.prog 55 #[.agg #[.int .i64 pi, .int .i64 pa, .int .i64 pb, .int .i64 px, .int .i64 py, .int .i64 pz, .int .i64 pk]] w fun e_ w' => e_ = .returned (.bool false) ∧ Below w.heap.size w w' := by
  have p0 : World.cell? (w.alloc (.cells #[.int .i64 pi, .int .i64 pa, .int .i64 pb, .int .i64 px, .int .i64 py, .int .i64 pz, .int .i64 pk] 28)) ⟨w.heap.size, 0, none⟩ = some (.int .i64 pi) := by simp [go_sem]
  have p1 : World.cell? (w.alloc (.cells #[.int .i64 pi, .int .i64 pa, .int .i64 pb, .int .i64 px, .int .i64 py, .int .i64 pz, .int .i64 pk] 28)) ⟨w.heap.size, 1, none⟩ = some (.int .i64 pa) := by simp [go_sem]
  have p2 : World.cell? (w.alloc (.cells #[.int .i64 pi, .int .i64 pa, .int .i64 pb, .int .i64 px, .int .i64 py, .int .i64 pz, .int .i64 pk] 28)) ⟨w.heap.size, 2, none⟩ = some (.int .i64 pb) := by simp [go_sem]
  have p3 : World.cell? (w.alloc (.cells #[.int .i64 pi, .int .i64 pa, .int .i64 pb, .int .i64 px, .int .i64 py, .int .i64 pz, .int .i64 pk] 28)) ⟨w.heap.size, 3, none⟩ = some (.int .i64 px) := by simp [go_sem]
  have p4 : World.cell? (w.alloc (.cells #[.int .i64 pi, .int .i64 pa, .int .i64 pb, .int .i64 px, .int .i64 py, .int .i64 pz, .int .i64 pk] 28)) ⟨w.heap.size, 4, none⟩ = some (.int .i64 py) := by simp [go_sem]
  have p5 : World.cell? (w.alloc (.cells #[.int .i64 pi, .int .i64 pa, .int .i64 pb, .int .i64 px, .int .i64 py, .int .i64 pz, .int .i64 pk] 28)) ⟨w.heap.size, 5, none⟩ = some (.int .i64 pz) := by simp [go_sem]
  have p6 : World.cell? (w.alloc (.cells #[.int .i64 pi, .int .i64 pa, .int .i64 pb, .int .i64 px, .int .i64 py, .int .i64 pz, .int .i64 pk] 28)) ⟨w.heap.size, 6, none⟩ = some (.int .i64 pk) := by simp [go_sem]
  have lp : w.heap.size < (w.alloc (.cells #[.int .i64 pi, .int .i64 pa, .int .i64 pb, .int .i64 px, .int .i64 py, .int .i64 pz, .int .i64 pk] 28)).heap.size := by simp <;> omega
  have HB := Lib.hid (show Below w.heap.size w (w.alloc (.cells #[.int .i64 pi, .int .i64 pa, .int .i64 pb, .int .i64 px, .int .i64 py, .int .i64 pz, .int .i64 pk] 28)) from ((Below.refl _ _).alloc (by simp <;> omega) _))
  go_enter Try.func55, Try.ntmps55
  go_wp2_with fail
  generalize w.alloc (.cells #[.int .i64 pi, .int .i64 pa, .int .i64 pb, .int .i64 px, .int .i64 py, .int .i64 pz, .int .i64 pk] 28) = w1 at *
  go_ret
  exact ⟨rfl, HB.out⟩
set_option maxRecDepth 100000 in
set_option maxHeartbeats 2000000 in
theorem plc_02 (pi pa pb px py pz pk : Int) (c0 : (pk == 1) = true) (c1 : 1 ≤ pi) (c2 : pi ≤ 1000000) (r0 : rw_ pa = false) (w : World) :
    Calls Try.prog 55 #[.agg #[.int .i64 pi, .int .i64 pa, .int .i64 pb, .int .i64 px, .int .i64 py, .int .i64 pz, .int .i64 pk]] w fun e_ w' => e_ = .returned (.bool false) ∧ Below w.heap.size w w' := by
  have K0 := Lib.hid (row_is pa false r0)
  clear r0
  have p0 : World.cell? (w.alloc (.cells #[.int .i64 pi, .int .i64 pa, .int .i64 pb, .int .i64 px, .int .i64 py, .int .i64 pz, .int .i64 pk] 28)) ⟨w.heap.size, 0, none⟩ = some (.int .i64 pi) := by simp [go_sem]
  have p1 : World.cell? (w.alloc (.cells #[.int .i64 pi, .int .i64 pa, .int .i64 pb, .int .i64 px, .int .i64 py, .int .i64 pz, .int .i64 pk] 28)) ⟨w.heap.size, 1, none⟩ = some (.int .i64 pa) := by simp [go_sem]
  have p2 : World.cell? (w.alloc (.cells #[.int .i64 pi, .int .i64 pa, .int .i64 pb, .int .i64 px, .int .i64 py, .int .i64 pz, .int .i64 pk] 28)) ⟨w.heap.size, 2, none⟩ = some (.int .i64 pb) := by simp [go_sem]
  have p3 : World.cell? (w.alloc (.cells #[.int .i64 pi, .int .i64 pa, .int .i64 pb, .int .i64 px, .int .i64 py, .int .i64 pz, .int .i64 pk] 28)) ⟨w.heap.size, 3, none⟩ = some (.int .i64 px) := by simp [go_sem]
  have p4 : World.cell? (w.alloc (.cells #[.int .i64 pi, .int .i64 pa, .int .i64 pb, .int .i64 px, .int .i64 py, .int .i64 pz, .int .i64 pk] 28)) ⟨w.heap.size, 4, none⟩ = some (.int .i64 py) := by simp [go_sem]
  have p5 : World.cell? (w.alloc (.cells #[.int .i64 pi, .int .i64 pa, .int .i64 pb, .int .i64 px, .int .i64 py, .int .i64 pz, .int .i64 pk] 28)) ⟨w.heap.size, 5, none⟩ = some (.int .i64 pz) := by simp [go_sem]
  have p6 : World.cell? (w.alloc (.cells #[.int .i64 pi, .int .i64 pa, .int .i64 pb, .int .i64 px, .int .i64 py, .int .i64 pz, .int .i64 pk] 28)) ⟨w.heap.size, 6, none⟩ = some (.int .i64 pk) := by simp [go_sem]
  have lp : w.heap.size < (w.alloc (.cells #[.int .i64 pi, .int .i64 pa, .int .i64 pb, .int .i64 px, .int .i64 py, .int .i64 pz, .int .i64 pk] 28)).heap.size := by simp <;> omega
  have HB := Lib.hid (show Below w.heap.size w (w.alloc (.cells #[.int .i64 pi, .int .i64 pa, .int .i64 pb, .int .i64 px, .int .i64 py, .int .i64 pz, .int .i64 pk] 28)) from ((Below.refl _ _).alloc (by simp <;> omega) _))
  go_enter Try.func55, Try.ntmps55
  go_wp2_with fail
  generalize w.alloc (.cells #[.int .i64 pi, .int .i64 pa, .int .i64 pb, .int .i64 px, .int .i64 py, .int .i64 pz, .int .i64 pk] 28) = w1 at *
  refine (K0.out _).mono ?_
  rintro e_ wq ⟨rfl, hw⟩
  subst hw
  go_wp2_with fail
  go_ret
  exact ⟨rfl, HB.out⟩
set_option maxRecDepth 100000 in
set_option maxHeartbeats 2000000 in
theorem plc_03 (pi pa pb px py pz pk : Int) (c0 : (pk == 1) = true) (c1 : 1 ≤ pi) (c2 : pi ≤ 1000000) (r0 : rw_ pa = true) (r1 : rw_ pb = false) (w : World) :
    Calls Try.prog 55 #[.agg #[.int .i64 pi, .int .i64 pa, .int .i64 pb, .int .i64 px, .int .i64 py, .int .i64 pz, .int .i64 pk]] w fun e_ w' => e_ = .returned (.bool false) ∧ Below w.heap.size w w' := by
  have K0 := Lib.hid (row_is pa true r0)
  clear r0
  have K1 := Lib.hid (row_is pb false r1)
  clear r1
  have p0 : World.cell? (w.alloc (.cells #[.int .i64 pi, .int .i64 pa, .int .i64 pb, .int .i64 px, .int .i64 py, .int .i64 pz, .int .i64 pk] 28)) ⟨w.heap.size, 0, none⟩ = some (.int .i64 pi) := by simp [go_sem]
  have p1 : World.cell? (w.alloc (.cells #[.int .i64 pi, .int .i64 pa, .int .i64 pb, .int .i64 px, .int .i64 py, .int .i64 pz, .int .i64 pk] 28)) ⟨w.heap.size, 1, none⟩ = some (.int .i64 pa) := by simp [go_sem]
  have p2 : World.cell? (w.alloc (.cells #[.int .i64 pi, .int .i64 pa, .int .i64 pb, .int .i64 px, .int .i64 py, .int .i64 pz, .int .i64 pk] 28)) ⟨w.heap.size, 2, none⟩ = some (.int .i64 pb) := by simp [go_sem]
  have p3 : World.cell? (w.alloc (.cells #[.int .i64 pi, .int .i64 pa, .int .i64 pb, .int .i64 px, .int .i64 py, .int .i64 pz, .int .i64 pk] 28)) ⟨w.heap.size, 3, none⟩ = some (.int .i64 px) := by simp [go_sem]
  have p4 : World.cell? (w.alloc (.cells #[.int .i64 pi, .int .i64 pa, .int .i64 pb, .int .i64 px, .int .i64 py, .int .i64 pz, .int .i64 pk] 28)) ⟨w.heap.size, 4, none⟩ = some (.int .i64 py) := by simp [go_sem]
  have p5 : World.cell? (w.alloc (.cells #[.int .i64 pi, .int .i64 pa, .int .i64 pb, .int .i64 px, .int .i64 py, .int .i64 pz, .int .i64 pk] 28)) ⟨w.heap.size, 5, none⟩ = some (.int .i64 pz) := by simp [go_sem]
  have p6 : World.cell? (w.alloc (.cells #[.int .i64 pi, .int .i64 pa, .int .i64 pb, .int .i64 px, .int .i64 py, .int .i64 pz, .int .i64 pk] 28)) ⟨w.heap.size, 6, none⟩ = some (.int .i64 pk) := by simp [go_sem]
  have lp : w.heap.size < (w.alloc (.cells #[.int .i64 pi, .int .i64 pa, .int .i64 pb, .int .i64 px, .int .i64 py, .int .i64 pz, .int .i64 pk] 28)).heap.size := by simp <;> omega
  have HB := Lib.hid (show Below w.heap.size w (w.alloc (.cells #[.int .i64 pi, .int .i64 pa, .int .i64 pb, .int .i64 px, .int .i64 py, .int .i64 pz, .int .i64 pk] 28)) from ((Below.refl _ _).alloc (by simp <;> omega) _))
  go_enter Try.func55, Try.ntmps55
  go_wp2_with fail
  generalize w.alloc (.cells #[.int .i64 pi, .int .i64 pa, .int .i64 pb, .int .i64 px, .int .i64 py, .int .i64 pz, .int .i64 pk] 28) = w1 at *
  refine (K0.out _).mono ?_
  rintro e_ wq ⟨rfl, hw⟩
  subst hw
  go_wp2_with fail
  refine (K1.out _).mono ?_
  rintro e_ wq ⟨rfl, hw⟩
  subst hw
  go_wp2_with fail
  go_ret
  exact ⟨rfl, HB.out⟩
set_option maxRecDepth 100000 in
set_option maxHeartbeats 2000000 in
theorem plc_04 (pi pa pb px py pz pk : Int) (c0 : (pk == 1) = true) (c1 : 1 ≤ pi) (c2 : pi ≤ 1000000) (r0 : rw_ pa = true) (r1 : rw_ pb = true) (r2 : vv px py pz = false) (w : World) :
    Calls Try.prog 55 #[.agg #[.int .i64 pi, .int .i64 pa, .int .i64 pb, .int .i64 px, .int .i64 py, .int .i64 pz, .int .i64 pk]] w fun e_ w' => e_ = .returned (.bool false) ∧ Below w.heap.size w w' := by
  have K0 := Lib.hid (row_is pa true r0)
  clear r0
  have K1 := Lib.hid (row_is pb true r1)
  clear r1
  have K2 := Lib.hid (vvalid_is px py pz false r2)
  clear r2
  have p0 : World.cell? (w.alloc (.cells #[.int .i64 pi, .int .i64 pa, .int .i64 pb, .int .i64 px, .int .i64 py, .int .i64 pz, .int .i64 pk] 28)) ⟨w.heap.size, 0, none⟩ = some (.int .i64 pi) := by simp [go_sem]
  have p1 : World.cell? (w.alloc (.cells #[.int .i64 pi, .int .i64 pa, .int .i64 pb, .int .i64 px, .int .i64 py, .int .i64 pz, .int .i64 pk] 28)) ⟨w.heap.size, 1, none⟩ = some (.int .i64 pa) := by simp [go_sem]
  have p2 : World.cell? (w.alloc (.cells #[.int .i64 pi, .int .i64 pa, .int .i64 pb, .int .i64 px, .int .i64 py, .int .i64 pz, .int .i64 pk] 28)) ⟨w.heap.size, 2, none⟩ = some (.int .i64 pb) := by simp [go_sem]
  have p3 : World.cell? (w.alloc (.cells #[.int .i64 pi, .int .i64 pa, .int .i64 pb, .int .i64 px, .int .i64 py, .int .i64 pz, .int .i64 pk] 28)) ⟨w.heap.size, 3, none⟩ = some (.int .i64 px) := by simp [go_sem]
  have p4 : World.cell? (w.alloc (.cells #[.int .i64 pi, .int .i64 pa, .int .i64 pb, .int .i64 px, .int .i64 py, .int .i64 pz, .int .i64 pk] 28)) ⟨w.heap.size, 4, none⟩ = some (.int .i64 py) := by simp [go_sem]
  have p5 : World.cell? (w.alloc (.cells #[.int .i64 pi, .int .i64 pa, .int .i64 pb, .int .i64 px, .int .i64 py, .int .i64 pz, .int .i64 pk] 28)) ⟨w.heap.size, 5, none⟩ = some (.int .i64 pz) := by simp [go_sem]
  have p6 : World.cell? (w.alloc (.cells #[.int .i64 pi, .int .i64 pa, .int .i64 pb, .int .i64 px, .int .i64 py, .int .i64 pz, .int .i64 pk] 28)) ⟨w.heap.size, 6, none⟩ = some (.int .i64 pk) := by simp [go_sem]
  have lp : w.heap.size < (w.alloc (.cells #[.int .i64 pi, .int .i64 pa, .int .i64 pb, .int .i64 px, .int .i64 py, .int .i64 pz, .int .i64 pk] 28)).heap.size := by simp <;> omega
  have HB := Lib.hid (show Below w.heap.size w (w.alloc (.cells #[.int .i64 pi, .int .i64 pa, .int .i64 pb, .int .i64 px, .int .i64 py, .int .i64 pz, .int .i64 pk] 28)) from ((Below.refl _ _).alloc (by simp <;> omega) _))
  go_enter Try.func55, Try.ntmps55
  go_wp2_with fail
  generalize w.alloc (.cells #[.int .i64 pi, .int .i64 pa, .int .i64 pb, .int .i64 px, .int .i64 py, .int .i64 pz, .int .i64 pk] 28) = w1 at *
  refine (K0.out _).mono ?_
  rintro e_ wq ⟨rfl, hw⟩
  subst hw
  go_wp2_with fail
  refine (K1.out _).mono ?_
  rintro e_ wq ⟨rfl, hw⟩
  subst hw
  go_wp2_with fail
  with_reducible refine (K2.out _).mono ?_
  rintro e_ w2 ⟨rfl, hb⟩
  replace HB := Lib.hid (on_below HB.out hb)
  replace p0 := keepc hb p0
  replace p1 := keepc hb p1
  replace p2 := keepc hb p2
  replace p3 := keepc hb p3
  replace p4 := keepc hb p4
  replace p5 := keepc hb p5
  replace p6 := keepc hb p6
  replace lp := Nat.lt_of_lt_of_le lp hb.size
  clear hb
  go_wp2_with fail
  go_ret
  exact ⟨rfl, HB.out⟩
set_option maxRecDepth 100000 in
set_option maxHeartbeats 2000000 in
theorem plc_05 (pi pa pb px py pz pk : Int) (c0 : (pk == 1) = true) (c1 : 1 ≤ pi) (c2 : pi ≤ 1000000) (r0 : rw_ pa = true) (r1 : rw_ pb = true) (r2 : vv px py pz = true) (w : World) :
    Calls Try.prog 55 #[.agg #[.int .i64 pi, .int .i64 pa, .int .i64 pb, .int .i64 px, .int .i64 py, .int .i64 pz, .int .i64 pk]] w fun e_ w' => e_ = .returned (.bool true) ∧ Below w.heap.size w w' := by
  have K0 := Lib.hid (row_is pa true r0)
  clear r0
  have K1 := Lib.hid (row_is pb true r1)
  clear r1
  have K2 := Lib.hid (vvalid_is px py pz true r2)
  clear r2
  have p0 : World.cell? (w.alloc (.cells #[.int .i64 pi, .int .i64 pa, .int .i64 pb, .int .i64 px, .int .i64 py, .int .i64 pz, .int .i64 pk] 28)) ⟨w.heap.size, 0, none⟩ = some (.int .i64 pi) := by simp [go_sem]
  have p1 : World.cell? (w.alloc (.cells #[.int .i64 pi, .int .i64 pa, .int .i64 pb, .int .i64 px, .int .i64 py, .int .i64 pz, .int .i64 pk] 28)) ⟨w.heap.size, 1, none⟩ = some (.int .i64 pa) := by simp [go_sem]
  have p2 : World.cell? (w.alloc (.cells #[.int .i64 pi, .int .i64 pa, .int .i64 pb, .int .i64 px, .int .i64 py, .int .i64 pz, .int .i64 pk] 28)) ⟨w.heap.size, 2, none⟩ = some (.int .i64 pb) := by simp [go_sem]
  have p3 : World.cell? (w.alloc (.cells #[.int .i64 pi, .int .i64 pa, .int .i64 pb, .int .i64 px, .int .i64 py, .int .i64 pz, .int .i64 pk] 28)) ⟨w.heap.size, 3, none⟩ = some (.int .i64 px) := by simp [go_sem]
  have p4 : World.cell? (w.alloc (.cells #[.int .i64 pi, .int .i64 pa, .int .i64 pb, .int .i64 px, .int .i64 py, .int .i64 pz, .int .i64 pk] 28)) ⟨w.heap.size, 4, none⟩ = some (.int .i64 py) := by simp [go_sem]
  have p5 : World.cell? (w.alloc (.cells #[.int .i64 pi, .int .i64 pa, .int .i64 pb, .int .i64 px, .int .i64 py, .int .i64 pz, .int .i64 pk] 28)) ⟨w.heap.size, 5, none⟩ = some (.int .i64 pz) := by simp [go_sem]
  have p6 : World.cell? (w.alloc (.cells #[.int .i64 pi, .int .i64 pa, .int .i64 pb, .int .i64 px, .int .i64 py, .int .i64 pz, .int .i64 pk] 28)) ⟨w.heap.size, 6, none⟩ = some (.int .i64 pk) := by simp [go_sem]
  have lp : w.heap.size < (w.alloc (.cells #[.int .i64 pi, .int .i64 pa, .int .i64 pb, .int .i64 px, .int .i64 py, .int .i64 pz, .int .i64 pk] 28)).heap.size := by simp <;> omega
  have HB := Lib.hid (show Below w.heap.size w (w.alloc (.cells #[.int .i64 pi, .int .i64 pa, .int .i64 pb, .int .i64 px, .int .i64 py, .int .i64 pz, .int .i64 pk] 28)) from ((Below.refl _ _).alloc (by simp <;> omega) _))
  go_enter Try.func55, Try.ntmps55
  go_wp2_with fail
  generalize w.alloc (.cells #[.int .i64 pi, .int .i64 pa, .int .i64 pb, .int .i64 px, .int .i64 py, .int .i64 pz, .int .i64 pk] 28) = w1 at *
  refine (K0.out _).mono ?_
  rintro e_ wq ⟨rfl, hw⟩
  subst hw
  go_wp2_with fail
  refine (K1.out _).mono ?_
  rintro e_ wq ⟨rfl, hw⟩
  subst hw
  go_wp2_with fail
  with_reducible refine (K2.out _).mono ?_
  rintro e_ w2 ⟨rfl, hb⟩
  replace HB := Lib.hid (on_below HB.out hb)
  replace p0 := keepc hb p0
  replace p1 := keepc hb p1
  replace p2 := keepc hb p2
  replace p3 := keepc hb p3
  replace p4 := keepc hb p4
  replace p5 := keepc hb p5
  replace p6 := keepc hb p6
  replace lp := Nat.lt_of_lt_of_le lp hb.size
  clear hb
  go_wp2_with fail
  go_ret
  exact ⟨rfl, HB.out⟩
set_option maxRecDepth 100000 in
set_option maxHeartbeats 2000000 in
theorem plc_10 (pi pa pb px py pz pk : Int) (c0 : (pk == 1) = false) (c1 : (pk == 2) = true) (c2 : ¬ 1 ≤ pi) (w : World) :
    Calls Try.prog 55 #[.agg #[.int .i64 pi, .int .i64 pa, .int .i64 pb, .int .i64 px, .int .i64 py, .int .i64 pz, .int .i64 pk]] w fun e_ w' => e_ = .returned (.bool false) ∧ Below w.heap.size w w' := by
  have p0 : World.cell? (w.alloc (.cells #[.int .i64 pi, .int .i64 pa, .int .i64 pb, .int .i64 px, .int .i64 py, .int .i64 pz, .int .i64 pk] 28)) ⟨w.heap.size, 0, none⟩ = some (.int .i64 pi) := by simp [go_sem]
  have p1 : World.cell? (w.alloc (.cells #[.int .i64 pi, .int .i64 pa, .int .i64 pb, .int .i64 px, .int .i64 py, .int .i64 pz, .int .i64 pk] 28)) ⟨w.heap.size, 1, none⟩ = some (.int .i64 pa) := by simp [go_sem]
  have p2 : World.cell? (w.alloc (.cells #[.int .i64 pi, .int .i64 pa, .int .i64 pb, .int .i64 px, .int .i64 py, .int .i64 pz, .int .i64 pk] 28)) ⟨w.heap.size, 2, none⟩ = some (.int .i64 pb) := by simp [go_sem]
  have p3 : World.cell? (w.alloc (.cells #[.int .i64 pi, .int .i64 pa, .int .i64 pb, .int .i64 px, .int .i64 py, .int .i64 pz, .int .i64 pk] 28)) ⟨w.heap.size, 3, none⟩ = some (.int .i64 px) := by simp [go_sem]
  have p4 : World.cell? (w.alloc (.cells #[.int .i64 pi, .int .i64 pa, .int .i64 pb, .int .i64 px, .int .i64 py, .int .i64 pz, .int .i64 pk] 28)) ⟨w.heap.size, 4, none⟩ = some (.int .i64 py) := by simp [go_sem]
  have p5 : World.cell? (w.alloc (.cells #[.int .i64 pi, .int .i64 pa, .int .i64 pb, .int .i64 px, .int .i64 py, .int .i64 pz, .int .i64 pk] 28)) ⟨w.heap.size, 5, none⟩ = some (.int .i64 pz) := by simp [go_sem]
  have p6 : World.cell? (w.alloc (.cells #[.int .i64 pi, .int .i64 pa, .int .i64 pb, .int .i64 px, .int .i64 py, .int .i64 pz, .int .i64 pk] 28)) ⟨w.heap.size, 6, none⟩ = some (.int .i64 pk) := by simp [go_sem]
  have lp : w.heap.size < (w.alloc (.cells #[.int .i64 pi, .int .i64 pa, .int .i64 pb, .int .i64 px, .int .i64 py, .int .i64 pz, .int .i64 pk] 28)).heap.size := by simp <;> omega
  have HB := Lib.hid (show Below w.heap.size w (w.alloc (.cells #[.int .i64 pi, .int .i64 pa, .int .i64 pb, .int .i64 px, .int .i64 py, .int .i64 pz, .int .i64 pk] 28)) from ((Below.refl _ _).alloc (by simp <;> omega) _))
  go_enter Try.func55, Try.ntmps55
  go_wp2_with fail
  generalize w.alloc (.cells #[.int .i64 pi, .int .i64 pa, .int .i64 pb, .int .i64 px, .int .i64 py, .int .i64 pz, .int .i64 pk] 28) = w1 at *
  go_ret
  exact ⟨rfl, HB.out⟩
set_option maxRecDepth 100000 in
set_option maxHeartbeats 2000000 in
theorem plc_11 (pi pa pb px py pz pk : Int) (c0 : (pk == 1) = false) (c1 : (pk == 2) = true) (c2 : 1 ≤ pi) (c3 : ¬ pi ≤ 1000000) (w : World) :
    Calls Try.prog 55 #[.agg #[.int .i64 pi, .int .i64 pa, .int .i64 pb, .int .i64 px, .int .i64 py, .int .i64 pz, .int .i64 pk]] w fun e_ w' => e_ = .returned (.bool false) ∧ Below w.heap.size w w' := by
  have p0 : World.cell? (w.alloc (.cells #[.int .i64 pi, .int .i64 pa, .int .i64 pb, .int .i64 px, .int .i64 py, .int .i64 pz, .int .i64 pk] 28)) ⟨w.heap.size, 0, none⟩ = some (.int .i64 pi) := by simp [go_sem]
  have p1 : World.cell? (w.alloc (.cells #[.int .i64 pi, .int .i64 pa, .int .i64 pb, .int .i64 px, .int .i64 py, .int .i64 pz, .int .i64 pk] 28)) ⟨w.heap.size, 1, none⟩ = some (.int .i64 pa) := by simp [go_sem]
  have p2 : World.cell? (w.alloc (.cells #[.int .i64 pi, .int .i64 pa, .int .i64 pb, .int .i64 px, .int .i64 py, .int .i64 pz, .int .i64 pk] 28)) ⟨w.heap.size, 2, none⟩ = some (.int .i64 pb) := by simp [go_sem]
  have p3 : World.cell? (w.alloc (.cells #[.int .i64 pi, .int .i64 pa, .int .i64 pb, .int .i64 px, .int .i64 py, .int .i64 pz, .int .i64 pk] 28)) ⟨w.heap.size, 3, none⟩ = some (.int .i64 px) := by simp [go_sem]
  have p4 : World.cell? (w.alloc (.cells #[.int .i64 pi, .int .i64 pa, .int .i64 pb, .int .i64 px, .int .i64 py, .int .i64 pz, .int .i64 pk] 28)) ⟨w.heap.size, 4, none⟩ = some (.int .i64 py) := by simp [go_sem]
  have p5 : World.cell? (w.alloc (.cells #[.int .i64 pi, .int .i64 pa, .int .i64 pb, .int .i64 px, .int .i64 py, .int .i64 pz, .int .i64 pk] 28)) ⟨w.heap.size, 5, none⟩ = some (.int .i64 pz) := by simp [go_sem]
  have p6 : World.cell? (w.alloc (.cells #[.int .i64 pi, .int .i64 pa, .int .i64 pb, .int .i64 px, .int .i64 py, .int .i64 pz, .int .i64 pk] 28)) ⟨w.heap.size, 6, none⟩ = some (.int .i64 pk) := by simp [go_sem]
  have lp : w.heap.size < (w.alloc (.cells #[.int .i64 pi, .int .i64 pa, .int .i64 pb, .int .i64 px, .int .i64 py, .int .i64 pz, .int .i64 pk] 28)).heap.size := by simp <;> omega
  have HB := Lib.hid (show Below w.heap.size w (w.alloc (.cells #[.int .i64 pi, .int .i64 pa, .int .i64 pb, .int .i64 px, .int .i64 py, .int .i64 pz, .int .i64 pk] 28)) from ((Below.refl _ _).alloc (by simp <;> omega) _))
  go_enter Try.func55, Try.ntmps55
  go_wp2_with fail
  generalize w.alloc (.cells #[.int .i64 pi, .int .i64 pa, .int .i64 pb, .int .i64 px, .int .i64 py, .int .i64 pz, .int .i64 pk] 28) = w1 at *
  go_ret
  exact ⟨rfl, HB.out⟩
set_option maxRecDepth 100000 in
set_option maxHeartbeats 2000000 in
theorem plc_12 (pi pa pb px py pz pk : Int) (c0 : (pk == 1) = false) (c1 : (pk == 2) = true) (c2 : 1 ≤ pi) (c3 : pi ≤ 1000000) (r0 : rw_ pa = false) (w : World) :
    Calls Try.prog 55 #[.agg #[.int .i64 pi, .int .i64 pa, .int .i64 pb, .int .i64 px, .int .i64 py, .int .i64 pz, .int .i64 pk]] w fun e_ w' => e_ = .returned (.bool false) ∧ Below w.heap.size w w' := by
  have K0 := Lib.hid (row_is pa false r0)
  clear r0
  have p0 : World.cell? (w.alloc (.cells #[.int .i64 pi, .int .i64 pa, .int .i64 pb, .int .i64 px, .int .i64 py, .int .i64 pz, .int .i64 pk] 28)) ⟨w.heap.size, 0, none⟩ = some (.int .i64 pi) := by simp [go_sem]
  have p1 : World.cell? (w.alloc (.cells #[.int .i64 pi, .int .i64 pa, .int .i64 pb, .int .i64 px, .int .i64 py, .int .i64 pz, .int .i64 pk] 28)) ⟨w.heap.size, 1, none⟩ = some (.int .i64 pa) := by simp [go_sem]
  have p2 : World.cell? (w.alloc (.cells #[.int .i64 pi, .int .i64 pa, .int .i64 pb, .int .i64 px, .int .i64 py, .int .i64 pz, .int .i64 pk] 28)) ⟨w.heap.size, 2, none⟩ = some (.int .i64 pb) := by simp [go_sem]
  have p3 : World.cell? (w.alloc (.cells #[.int .i64 pi, .int .i64 pa, .int .i64 pb, .int .i64 px, .int .i64 py, .int .i64 pz, .int .i64 pk] 28)) ⟨w.heap.size, 3, none⟩ = some (.int .i64 px) := by simp [go_sem]
  have p4 : World.cell? (w.alloc (.cells #[.int .i64 pi, .int .i64 pa, .int .i64 pb, .int .i64 px, .int .i64 py, .int .i64 pz, .int .i64 pk] 28)) ⟨w.heap.size, 4, none⟩ = some (.int .i64 py) := by simp [go_sem]
  have p5 : World.cell? (w.alloc (.cells #[.int .i64 pi, .int .i64 pa, .int .i64 pb, .int .i64 px, .int .i64 py, .int .i64 pz, .int .i64 pk] 28)) ⟨w.heap.size, 5, none⟩ = some (.int .i64 pz) := by simp [go_sem]
  have p6 : World.cell? (w.alloc (.cells #[.int .i64 pi, .int .i64 pa, .int .i64 pb, .int .i64 px, .int .i64 py, .int .i64 pz, .int .i64 pk] 28)) ⟨w.heap.size, 6, none⟩ = some (.int .i64 pk) := by simp [go_sem]
  have lp : w.heap.size < (w.alloc (.cells #[.int .i64 pi, .int .i64 pa, .int .i64 pb, .int .i64 px, .int .i64 py, .int .i64 pz, .int .i64 pk] 28)).heap.size := by simp <;> omega
  have HB := Lib.hid (show Below w.heap.size w (w.alloc (.cells #[.int .i64 pi, .int .i64 pa, .int .i64 pb, .int .i64 px, .int .i64 py, .int .i64 pz, .int .i64 pk] 28)) from ((Below.refl _ _).alloc (by simp <;> omega) _))
  go_enter Try.func55, Try.ntmps55
  go_wp2_with fail
  generalize w.alloc (.cells #[.int .i64 pi, .int .i64 pa, .int .i64 pb, .int .i64 px, .int .i64 py, .int .i64 pz, .int .i64 pk] 28) = w1 at *
  refine (K0.out _).mono ?_
  rintro e_ wq ⟨rfl, hw⟩
  subst hw
  go_wp2_with fail
  go_ret
  exact ⟨rfl, HB.out⟩
set_option maxRecDepth 100000 in
set_option maxHeartbeats 2000000 in
theorem plc_13 (pi pa pb px py pz pk : Int) (c0 : (pk == 1) = false) (c1 : (pk == 2) = true) (c2 : 1 ≤ pi) (c3 : pi ≤ 1000000) (r0 : rw_ pa = true) (r1 : rw_ pb = false) (w : World) :
    Calls Try.prog 55 #[.agg #[.int .i64 pi, .int .i64 pa, .int .i64 pb, .int .i64 px, .int .i64 py, .int .i64 pz, .int .i64 pk]] w fun e_ w' => e_ = .returned (.bool false) ∧ Below w.heap.size w w' := by
  have K0 := Lib.hid (row_is pa true r0)
  clear r0
  have K1 := Lib.hid (row_is pb false r1)
  clear r1
  have p0 : World.cell? (w.alloc (.cells #[.int .i64 pi, .int .i64 pa, .int .i64 pb, .int .i64 px, .int .i64 py, .int .i64 pz, .int .i64 pk] 28)) ⟨w.heap.size, 0, none⟩ = some (.int .i64 pi) := by simp [go_sem]
  have p1 : World.cell? (w.alloc (.cells #[.int .i64 pi, .int .i64 pa, .int .i64 pb, .int .i64 px, .int .i64 py, .int .i64 pz, .int .i64 pk] 28)) ⟨w.heap.size, 1, none⟩ = some (.int .i64 pa) := by simp [go_sem]
  have p2 : World.cell? (w.alloc (.cells #[.int .i64 pi, .int .i64 pa, .int .i64 pb, .int .i64 px, .int .i64 py, .int .i64 pz, .int .i64 pk] 28)) ⟨w.heap.size, 2, none⟩ = some (.int .i64 pb) := by simp [go_sem]
  have p3 : World.cell? (w.alloc (.cells #[.int .i64 pi, .int .i64 pa, .int .i64 pb, .int .i64 px, .int .i64 py, .int .i64 pz, .int .i64 pk] 28)) ⟨w.heap.size, 3, none⟩ = some (.int .i64 px) := by simp [go_sem]
  have p4 : World.cell? (w.alloc (.cells #[.int .i64 pi, .int .i64 pa, .int .i64 pb, .int .i64 px, .int .i64 py, .int .i64 pz, .int .i64 pk] 28)) ⟨w.heap.size, 4, none⟩ = some (.int .i64 py) := by simp [go_sem]
  have p5 : World.cell? (w.alloc (.cells #[.int .i64 pi, .int .i64 pa, .int .i64 pb, .int .i64 px, .int .i64 py, .int .i64 pz, .int .i64 pk] 28)) ⟨w.heap.size, 5, none⟩ = some (.int .i64 pz) := by simp [go_sem]
  have p6 : World.cell? (w.alloc (.cells #[.int .i64 pi, .int .i64 pa, .int .i64 pb, .int .i64 px, .int .i64 py, .int .i64 pz, .int .i64 pk] 28)) ⟨w.heap.size, 6, none⟩ = some (.int .i64 pk) := by simp [go_sem]
  have lp : w.heap.size < (w.alloc (.cells #[.int .i64 pi, .int .i64 pa, .int .i64 pb, .int .i64 px, .int .i64 py, .int .i64 pz, .int .i64 pk] 28)).heap.size := by simp <;> omega
  have HB := Lib.hid (show Below w.heap.size w (w.alloc (.cells #[.int .i64 pi, .int .i64 pa, .int .i64 pb, .int .i64 px, .int .i64 py, .int .i64 pz, .int .i64 pk] 28)) from ((Below.refl _ _).alloc (by simp <;> omega) _))
  go_enter Try.func55, Try.ntmps55
  go_wp2_with fail
  generalize w.alloc (.cells #[.int .i64 pi, .int .i64 pa, .int .i64 pb, .int .i64 px, .int .i64 py, .int .i64 pz, .int .i64 pk] 28) = w1 at *
  refine (K0.out _).mono ?_
  rintro e_ wq ⟨rfl, hw⟩
  subst hw
  go_wp2_with fail
  refine (K1.out _).mono ?_
  rintro e_ wq ⟨rfl, hw⟩
  subst hw
  go_wp2_with fail
  go_ret
  exact ⟨rfl, HB.out⟩
set_option maxRecDepth 100000 in
set_option maxHeartbeats 2000000 in
theorem plc_14 (pi pa pb px py pz pk : Int) (c0 : (pk == 1) = false) (c1 : (pk == 2) = true) (c2 : 1 ≤ pi) (c3 : pi ≤ 1000000) (r0 : rw_ pa = true) (r1 : rw_ pb = true) (r2 : vv px py pz = false) (w : World) :
    Calls Try.prog 55 #[.agg #[.int .i64 pi, .int .i64 pa, .int .i64 pb, .int .i64 px, .int .i64 py, .int .i64 pz, .int .i64 pk]] w fun e_ w' => e_ = .returned (.bool false) ∧ Below w.heap.size w w' := by
  have K0 := Lib.hid (row_is pa true r0)
  clear r0
  have K1 := Lib.hid (row_is pb true r1)
  clear r1
  have K2 := Lib.hid (vvalid_is px py pz false r2)
  clear r2
  have p0 : World.cell? (w.alloc (.cells #[.int .i64 pi, .int .i64 pa, .int .i64 pb, .int .i64 px, .int .i64 py, .int .i64 pz, .int .i64 pk] 28)) ⟨w.heap.size, 0, none⟩ = some (.int .i64 pi) := by simp [go_sem]
  have p1 : World.cell? (w.alloc (.cells #[.int .i64 pi, .int .i64 pa, .int .i64 pb, .int .i64 px, .int .i64 py, .int .i64 pz, .int .i64 pk] 28)) ⟨w.heap.size, 1, none⟩ = some (.int .i64 pa) := by simp [go_sem]
  have p2 : World.cell? (w.alloc (.cells #[.int .i64 pi, .int .i64 pa, .int .i64 pb, .int .i64 px, .int .i64 py, .int .i64 pz, .int .i64 pk] 28)) ⟨w.heap.size, 2, none⟩ = some (.int .i64 pb) := by simp [go_sem]
  have p3 : World.cell? (w.alloc (.cells #[.int .i64 pi, .int .i64 pa, .int .i64 pb, .int .i64 px, .int .i64 py, .int .i64 pz, .int .i64 pk] 28)) ⟨w.heap.size, 3, none⟩ = some (.int .i64 px) := by simp [go_sem]
  have p4 : World.cell? (w.alloc (.cells #[.int .i64 pi, .int .i64 pa, .int .i64 pb, .int .i64 px, .int .i64 py, .int .i64 pz, .int .i64 pk] 28)) ⟨w.heap.size, 4, none⟩ = some (.int .i64 py) := by simp [go_sem]
  have p5 : World.cell? (w.alloc (.cells #[.int .i64 pi, .int .i64 pa, .int .i64 pb, .int .i64 px, .int .i64 py, .int .i64 pz, .int .i64 pk] 28)) ⟨w.heap.size, 5, none⟩ = some (.int .i64 pz) := by simp [go_sem]
  have p6 : World.cell? (w.alloc (.cells #[.int .i64 pi, .int .i64 pa, .int .i64 pb, .int .i64 px, .int .i64 py, .int .i64 pz, .int .i64 pk] 28)) ⟨w.heap.size, 6, none⟩ = some (.int .i64 pk) := by simp [go_sem]
  have lp : w.heap.size < (w.alloc (.cells #[.int .i64 pi, .int .i64 pa, .int .i64 pb, .int .i64 px, .int .i64 py, .int .i64 pz, .int .i64 pk] 28)).heap.size := by simp <;> omega
  have HB := Lib.hid (show Below w.heap.size w (w.alloc (.cells #[.int .i64 pi, .int .i64 pa, .int .i64 pb, .int .i64 px, .int .i64 py, .int .i64 pz, .int .i64 pk] 28)) from ((Below.refl _ _).alloc (by simp <;> omega) _))
  go_enter Try.func55, Try.ntmps55
  go_wp2_with fail
  generalize w.alloc (.cells #[.int .i64 pi, .int .i64 pa, .int .i64 pb, .int .i64 px, .int .i64 py, .int .i64 pz, .int .i64 pk] 28) = w1 at *
  refine (K0.out _).mono ?_
  rintro e_ wq ⟨rfl, hw⟩
  subst hw
  go_wp2_with fail
  refine (K1.out _).mono ?_
  rintro e_ wq ⟨rfl, hw⟩
  subst hw
  go_wp2_with fail
  with_reducible refine (K2.out _).mono ?_
  rintro e_ w2 ⟨rfl, hb⟩
  replace HB := Lib.hid (on_below HB.out hb)
  replace p0 := keepc hb p0
  replace p1 := keepc hb p1
  replace p2 := keepc hb p2
  replace p3 := keepc hb p3
  replace p4 := keepc hb p4
  replace p5 := keepc hb p5
  replace p6 := keepc hb p6
  replace lp := Nat.lt_of_lt_of_le lp hb.size
  clear hb
  go_wp2_with fail
  go_ret
  exact ⟨rfl, HB.out⟩
set_option maxRecDepth 100000 in
set_option maxHeartbeats 2000000 in
theorem plc_15 (pi pa pb px py pz pk : Int) (c0 : (pk == 1) = false) (c1 : (pk == 2) = true) (c2 : 1 ≤ pi) (c3 : pi ≤ 1000000) (r0 : rw_ pa = true) (r1 : rw_ pb = true) (r2 : vv px py pz = true) (w : World) :
    Calls Try.prog 55 #[.agg #[.int .i64 pi, .int .i64 pa, .int .i64 pb, .int .i64 px, .int .i64 py, .int .i64 pz, .int .i64 pk]] w fun e_ w' => e_ = .returned (.bool true) ∧ Below w.heap.size w w' := by
  have K0 := Lib.hid (row_is pa true r0)
  clear r0
  have K1 := Lib.hid (row_is pb true r1)
  clear r1
  have K2 := Lib.hid (vvalid_is px py pz true r2)
  clear r2
  have p0 : World.cell? (w.alloc (.cells #[.int .i64 pi, .int .i64 pa, .int .i64 pb, .int .i64 px, .int .i64 py, .int .i64 pz, .int .i64 pk] 28)) ⟨w.heap.size, 0, none⟩ = some (.int .i64 pi) := by simp [go_sem]
  have p1 : World.cell? (w.alloc (.cells #[.int .i64 pi, .int .i64 pa, .int .i64 pb, .int .i64 px, .int .i64 py, .int .i64 pz, .int .i64 pk] 28)) ⟨w.heap.size, 1, none⟩ = some (.int .i64 pa) := by simp [go_sem]
  have p2 : World.cell? (w.alloc (.cells #[.int .i64 pi, .int .i64 pa, .int .i64 pb, .int .i64 px, .int .i64 py, .int .i64 pz, .int .i64 pk] 28)) ⟨w.heap.size, 2, none⟩ = some (.int .i64 pb) := by simp [go_sem]
  have p3 : World.cell? (w.alloc (.cells #[.int .i64 pi, .int .i64 pa, .int .i64 pb, .int .i64 px, .int .i64 py, .int .i64 pz, .int .i64 pk] 28)) ⟨w.heap.size, 3, none⟩ = some (.int .i64 px) := by simp [go_sem]
  have p4 : World.cell? (w.alloc (.cells #[.int .i64 pi, .int .i64 pa, .int .i64 pb, .int .i64 px, .int .i64 py, .int .i64 pz, .int .i64 pk] 28)) ⟨w.heap.size, 4, none⟩ = some (.int .i64 py) := by simp [go_sem]
  have p5 : World.cell? (w.alloc (.cells #[.int .i64 pi, .int .i64 pa, .int .i64 pb, .int .i64 px, .int .i64 py, .int .i64 pz, .int .i64 pk] 28)) ⟨w.heap.size, 5, none⟩ = some (.int .i64 pz) := by simp [go_sem]
  have p6 : World.cell? (w.alloc (.cells #[.int .i64 pi, .int .i64 pa, .int .i64 pb, .int .i64 px, .int .i64 py, .int .i64 pz, .int .i64 pk] 28)) ⟨w.heap.size, 6, none⟩ = some (.int .i64 pk) := by simp [go_sem]
  have lp : w.heap.size < (w.alloc (.cells #[.int .i64 pi, .int .i64 pa, .int .i64 pb, .int .i64 px, .int .i64 py, .int .i64 pz, .int .i64 pk] 28)).heap.size := by simp <;> omega
  have HB := Lib.hid (show Below w.heap.size w (w.alloc (.cells #[.int .i64 pi, .int .i64 pa, .int .i64 pb, .int .i64 px, .int .i64 py, .int .i64 pz, .int .i64 pk] 28)) from ((Below.refl _ _).alloc (by simp <;> omega) _))
  go_enter Try.func55, Try.ntmps55
  go_wp2_with fail
  generalize w.alloc (.cells #[.int .i64 pi, .int .i64 pa, .int .i64 pb, .int .i64 px, .int .i64 py, .int .i64 pz, .int .i64 pk] 28) = w1 at *
  refine (K0.out _).mono ?_
  rintro e_ wq ⟨rfl, hw⟩
  subst hw
  go_wp2_with fail
  refine (K1.out _).mono ?_
  rintro e_ wq ⟨rfl, hw⟩
  subst hw
  go_wp2_with fail
  with_reducible refine (K2.out _).mono ?_
  rintro e_ w2 ⟨rfl, hb⟩
  replace HB := Lib.hid (on_below HB.out hb)
  replace p0 := keepc hb p0
  replace p1 := keepc hb p1
  replace p2 := keepc hb p2
  replace p3 := keepc hb p3
  replace p4 := keepc hb p4
  replace p5 := keepc hb p5
  replace p6 := keepc hb p6
  replace lp := Nat.lt_of_lt_of_le lp hb.size
  clear hb
  go_wp2_with fail
  go_ret
  exact ⟨rfl, HB.out⟩
set_option maxRecDepth 100000 in
set_option maxHeartbeats 2000000 in
theorem plc_20 (pi pa pb px py pz pk : Int) (c0 : (pk == 1) = false) (c1 : (pk == 2) = false) (c2 : ¬ 1 ≤ pi) (w : World) :
    Calls Try.prog 55 #[.agg #[.int .i64 pi, .int .i64 pa, .int .i64 pb, .int .i64 px, .int .i64 py, .int .i64 pz, .int .i64 pk]] w fun e_ w' => e_ = .returned (.bool false) ∧ Below w.heap.size w w' := by
  have p0 : World.cell? (w.alloc (.cells #[.int .i64 pi, .int .i64 pa, .int .i64 pb, .int .i64 px, .int .i64 py, .int .i64 pz, .int .i64 pk] 28)) ⟨w.heap.size, 0, none⟩ = some (.int .i64 pi) := by simp [go_sem]
  have p1 : World.cell? (w.alloc (.cells #[.int .i64 pi, .int .i64 pa, .int .i64 pb, .int .i64 px, .int .i64 py, .int .i64 pz, .int .i64 pk] 28)) ⟨w.heap.size, 1, none⟩ = some (.int .i64 pa) := by simp [go_sem]
  have p2 : World.cell? (w.alloc (.cells #[.int .i64 pi, .int .i64 pa, .int .i64 pb, .int .i64 px, .int .i64 py, .int .i64 pz, .int .i64 pk] 28)) ⟨w.heap.size, 2, none⟩ = some (.int .i64 pb) := by simp [go_sem]
  have p3 : World.cell? (w.alloc (.cells #[.int .i64 pi, .int .i64 pa, .int .i64 pb, .int .i64 px, .int .i64 py, .int .i64 pz, .int .i64 pk] 28)) ⟨w.heap.size, 3, none⟩ = some (.int .i64 px) := by simp [go_sem]
  have p4 : World.cell? (w.alloc (.cells #[.int .i64 pi, .int .i64 pa, .int .i64 pb, .int .i64 px, .int .i64 py, .int .i64 pz, .int .i64 pk] 28)) ⟨w.heap.size, 4, none⟩ = some (.int .i64 py) := by simp [go_sem]
  have p5 : World.cell? (w.alloc (.cells #[.int .i64 pi, .int .i64 pa, .int .i64 pb, .int .i64 px, .int .i64 py, .int .i64 pz, .int .i64 pk] 28)) ⟨w.heap.size, 5, none⟩ = some (.int .i64 pz) := by simp [go_sem]
  have p6 : World.cell? (w.alloc (.cells #[.int .i64 pi, .int .i64 pa, .int .i64 pb, .int .i64 px, .int .i64 py, .int .i64 pz, .int .i64 pk] 28)) ⟨w.heap.size, 6, none⟩ = some (.int .i64 pk) := by simp [go_sem]
  have lp : w.heap.size < (w.alloc (.cells #[.int .i64 pi, .int .i64 pa, .int .i64 pb, .int .i64 px, .int .i64 py, .int .i64 pz, .int .i64 pk] 28)).heap.size := by simp <;> omega
  have HB := Lib.hid (show Below w.heap.size w (w.alloc (.cells #[.int .i64 pi, .int .i64 pa, .int .i64 pb, .int .i64 px, .int .i64 py, .int .i64 pz, .int .i64 pk] 28)) from ((Below.refl _ _).alloc (by simp <;> omega) _))
  go_enter Try.func55, Try.ntmps55
  go_wp2_with fail
  generalize w.alloc (.cells #[.int .i64 pi, .int .i64 pa, .int .i64 pb, .int .i64 px, .int .i64 py, .int .i64 pz, .int .i64 pk] 28) = w1 at *
  go_ret
  exact ⟨rfl, HB.out⟩
set_option maxRecDepth 100000 in
set_option maxHeartbeats 2000000 in
theorem plc_21 (pi pa pb px py pz pk : Int) (c0 : (pk == 1) = false) (c1 : (pk == 2) = false) (c2 : 1 ≤ pi) (c3 : ¬ pi ≤ 1000000) (w : World) :
    Calls Try.prog 55 #[.agg #[.int .i64 pi, .int .i64 pa, .int .i64 pb, .int .i64 px, .int .i64 py, .int .i64 pz, .int .i64 pk]] w fun e_ w' => e_ = .returned (.bool false) ∧ Below w.heap.size w w' := by
  have p0 : World.cell? (w.alloc (.cells #[.int .i64 pi, .int .i64 pa, .int .i64 pb, .int .i64 px, .int .i64 py, .int .i64 pz, .int .i64 pk] 28)) ⟨w.heap.size, 0, none⟩ = some (.int .i64 pi) := by simp [go_sem]
  have p1 : World.cell? (w.alloc (.cells #[.int .i64 pi, .int .i64 pa, .int .i64 pb, .int .i64 px, .int .i64 py, .int .i64 pz, .int .i64 pk] 28)) ⟨w.heap.size, 1, none⟩ = some (.int .i64 pa) := by simp [go_sem]
  have p2 : World.cell? (w.alloc (.cells #[.int .i64 pi, .int .i64 pa, .int .i64 pb, .int .i64 px, .int .i64 py, .int .i64 pz, .int .i64 pk] 28)) ⟨w.heap.size, 2, none⟩ = some (.int .i64 pb) := by simp [go_sem]
  have p3 : World.cell? (w.alloc (.cells #[.int .i64 pi, .int .i64 pa, .int .i64 pb, .int .i64 px, .int .i64 py, .int .i64 pz, .int .i64 pk] 28)) ⟨w.heap.size, 3, none⟩ = some (.int .i64 px) := by simp [go_sem]
  have p4 : World.cell? (w.alloc (.cells #[.int .i64 pi, .int .i64 pa, .int .i64 pb, .int .i64 px, .int .i64 py, .int .i64 pz, .int .i64 pk] 28)) ⟨w.heap.size, 4, none⟩ = some (.int .i64 py) := by simp [go_sem]
  have p5 : World.cell? (w.alloc (.cells #[.int .i64 pi, .int .i64 pa, .int .i64 pb, .int .i64 px, .int .i64 py, .int .i64 pz, .int .i64 pk] 28)) ⟨w.heap.size, 5, none⟩ = some (.int .i64 pz) := by simp [go_sem]
  have p6 : World.cell? (w.alloc (.cells #[.int .i64 pi, .int .i64 pa, .int .i64 pb, .int .i64 px, .int .i64 py, .int .i64 pz, .int .i64 pk] 28)) ⟨w.heap.size, 6, none⟩ = some (.int .i64 pk) := by simp [go_sem]
  have lp : w.heap.size < (w.alloc (.cells #[.int .i64 pi, .int .i64 pa, .int .i64 pb, .int .i64 px, .int .i64 py, .int .i64 pz, .int .i64 pk] 28)).heap.size := by simp <;> omega
  have HB := Lib.hid (show Below w.heap.size w (w.alloc (.cells #[.int .i64 pi, .int .i64 pa, .int .i64 pb, .int .i64 px, .int .i64 py, .int .i64 pz, .int .i64 pk] 28)) from ((Below.refl _ _).alloc (by simp <;> omega) _))
  go_enter Try.func55, Try.ntmps55
  go_wp2_with fail
  generalize w.alloc (.cells #[.int .i64 pi, .int .i64 pa, .int .i64 pb, .int .i64 px, .int .i64 py, .int .i64 pz, .int .i64 pk] 28) = w1 at *
  go_ret
  exact ⟨rfl, HB.out⟩
set_option maxRecDepth 100000 in
set_option maxHeartbeats 2000000 in
theorem plc_22 (pi pa pb px py pz pk : Int) (c0 : (pk == 1) = false) (c1 : (pk == 2) = false) (c2 : 1 ≤ pi) (c3 : pi ≤ 1000000) (r0 : rw_ pa = false) (w : World) :
    Calls Try.prog 55 #[.agg #[.int .i64 pi, .int .i64 pa, .int .i64 pb, .int .i64 px, .int .i64 py, .int .i64 pz, .int .i64 pk]] w fun e_ w' => e_ = .returned (.bool false) ∧ Below w.heap.size w w' := by
  have K0 := Lib.hid (row_is pa false r0)
  clear r0
  have p0 : World.cell? (w.alloc (.cells #[.int .i64 pi, .int .i64 pa, .int .i64 pb, .int .i64 px, .int .i64 py, .int .i64 pz, .int .i64 pk] 28)) ⟨w.heap.size, 0, none⟩ = some (.int .i64 pi) := by simp [go_sem]
  have p1 : World.cell? (w.alloc (.cells #[.int .i64 pi, .int .i64 pa, .int .i64 pb, .int .i64 px, .int .i64 py, .int .i64 pz, .int .i64 pk] 28)) ⟨w.heap.size, 1, none⟩ = some (.int .i64 pa) := by simp [go_sem]
  have p2 : World.cell? (w.alloc (.cells #[.int .i64 pi, .int .i64 pa, .int .i64 pb, .int .i64 px, .int .i64 py, .int .i64 pz, .int .i64 pk] 28)) ⟨w.heap.size, 2, none⟩ = some (.int .i64 pb) := by simp [go_sem]
  have p3 : World.cell? (w.alloc (.cells #[.int .i64 pi, .int .i64 pa, .int .i64 pb, .int .i64 px, .int .i64 py, .int .i64 pz, .int .i64 pk] 28)) ⟨w.heap.size, 3, none⟩ = some (.int .i64 px) := by simp [go_sem]
  have p4 : World.cell? (w.alloc (.cells #[.int .i64 pi, .int .i64 pa, .int .i64 pb, .int .i64 px, .int .i64 py, .int .i64 pz, .int .i64 pk] 28)) ⟨w.heap.size, 4, none⟩ = some (.int .i64 py) := by simp [go_sem]
  have p5 : World.cell? (w.alloc (.cells #[.int .i64 pi, .int .i64 pa, .int .i64 pb, .int .i64 px, .int .i64 py, .int .i64 pz, .int .i64 pk] 28)) ⟨w.heap.size, 5, none⟩ = some (.int .i64 pz) := by simp [go_sem]
  have p6 : World.cell? (w.alloc (.cells #[.int .i64 pi, .int .i64 pa, .int .i64 pb, .int .i64 px, .int .i64 py, .int .i64 pz, .int .i64 pk] 28)) ⟨w.heap.size, 6, none⟩ = some (.int .i64 pk) := by simp [go_sem]
  have lp : w.heap.size < (w.alloc (.cells #[.int .i64 pi, .int .i64 pa, .int .i64 pb, .int .i64 px, .int .i64 py, .int .i64 pz, .int .i64 pk] 28)).heap.size := by simp <;> omega
  have HB := Lib.hid (show Below w.heap.size w (w.alloc (.cells #[.int .i64 pi, .int .i64 pa, .int .i64 pb, .int .i64 px, .int .i64 py, .int .i64 pz, .int .i64 pk] 28)) from ((Below.refl _ _).alloc (by simp <;> omega) _))
  go_enter Try.func55, Try.ntmps55
  go_wp2_with fail
  generalize w.alloc (.cells #[.int .i64 pi, .int .i64 pa, .int .i64 pb, .int .i64 px, .int .i64 py, .int .i64 pz, .int .i64 pk] 28) = w1 at *
  refine (K0.out _).mono ?_
  rintro e_ wq ⟨rfl, hw⟩
  subst hw
  go_wp2_with fail
  go_ret
  exact ⟨rfl, HB.out⟩
set_option maxRecDepth 100000 in
set_option maxHeartbeats 2000000 in
theorem plc_23 (pi pa pb px py pz pk : Int) (c0 : (pk == 1) = false) (c1 : (pk == 2) = false) (c2 : 1 ≤ pi) (c3 : pi ≤ 1000000) (r0 : rw_ pa = true) (r1 : rw_ pb = false) (w : World) :
    Calls Try.prog 55 #[.agg #[.int .i64 pi, .int .i64 pa, .int .i64 pb, .int .i64 px, .int .i64 py, .int .i64 pz, .int .i64 pk]] w fun e_ w' => e_ = .returned (.bool false) ∧ Below w.heap.size w w' := by
  have K0 := Lib.hid (row_is pa true r0)
  clear r0
  have K1 := Lib.hid (row_is pb false r1)
  clear r1
  have p0 : World.cell? (w.alloc (.cells #[.int .i64 pi, .int .i64 pa, .int .i64 pb, .int .i64 px, .int .i64 py, .int .i64 pz, .int .i64 pk] 28)) ⟨w.heap.size, 0, none⟩ = some (.int .i64 pi) := by simp [go_sem]
  have p1 : World.cell? (w.alloc (.cells #[.int .i64 pi, .int .i64 pa, .int .i64 pb, .int .i64 px, .int .i64 py, .int .i64 pz, .int .i64 pk] 28)) ⟨w.heap.size, 1, none⟩ = some (.int .i64 pa) := by simp [go_sem]
  have p2 : World.cell? (w.alloc (.cells #[.int .i64 pi, .int .i64 pa, .int .i64 pb, .int .i64 px, .int .i64 py, .int .i64 pz, .int .i64 pk] 28)) ⟨w.heap.size, 2, none⟩ = some (.int .i64 pb) := by simp [go_sem]
  have p3 : World.cell? (w.alloc (.cells #[.int .i64 pi, .int .i64 pa, .int .i64 pb, .int .i64 px, .int .i64 py, .int .i64 pz, .int .i64 pk] 28)) ⟨w.heap.size, 3, none⟩ = some (.int .i64 px) := by simp [go_sem]
  have p4 : World.cell? (w.alloc (.cells #[.int .i64 pi, .int .i64 pa, .int .i64 pb, .int .i64 px, .int .i64 py, .int .i64 pz, .int .i64 pk] 28)) ⟨w.heap.size, 4, none⟩ = some (.int .i64 py) := by simp [go_sem]
  have p5 : World.cell? (w.alloc (.cells #[.int .i64 pi, .int .i64 pa, .int .i64 pb, .int .i64 px, .int .i64 py, .int .i64 pz, .int .i64 pk] 28)) ⟨w.heap.size, 5, none⟩ = some (.int .i64 pz) := by simp [go_sem]
  have p6 : World.cell? (w.alloc (.cells #[.int .i64 pi, .int .i64 pa, .int .i64 pb, .int .i64 px, .int .i64 py, .int .i64 pz, .int .i64 pk] 28)) ⟨w.heap.size, 6, none⟩ = some (.int .i64 pk) := by simp [go_sem]
  have lp : w.heap.size < (w.alloc (.cells #[.int .i64 pi, .int .i64 pa, .int .i64 pb, .int .i64 px, .int .i64 py, .int .i64 pz, .int .i64 pk] 28)).heap.size := by simp <;> omega
  have HB := Lib.hid (show Below w.heap.size w (w.alloc (.cells #[.int .i64 pi, .int .i64 pa, .int .i64 pb, .int .i64 px, .int .i64 py, .int .i64 pz, .int .i64 pk] 28)) from ((Below.refl _ _).alloc (by simp <;> omega) _))
  go_enter Try.func55, Try.ntmps55
  go_wp2_with fail
  generalize w.alloc (.cells #[.int .i64 pi, .int .i64 pa, .int .i64 pb, .int .i64 px, .int .i64 py, .int .i64 pz, .int .i64 pk] 28) = w1 at *
  refine (K0.out _).mono ?_
  rintro e_ wq ⟨rfl, hw⟩
  subst hw
  go_wp2_with fail
  refine (K1.out _).mono ?_
  rintro e_ wq ⟨rfl, hw⟩
  subst hw
  go_wp2_with fail
  go_ret
  exact ⟨rfl, HB.out⟩
set_option maxRecDepth 100000 in
set_option maxHeartbeats 2000000 in
theorem plc_24 (pi pa pb px py pz pk : Int) (c0 : (pk == 1) = false) (c1 : (pk == 2) = false) (c2 : 1 ≤ pi) (c3 : pi ≤ 1000000) (r0 : rw_ pa = true) (r1 : rw_ pb = true) (r2 : vv px py pz = false) (w : World) :
    Calls Try.prog 55 #[.agg #[.int .i64 pi, .int .i64 pa, .int .i64 pb, .int .i64 px, .int .i64 py, .int .i64 pz, .int .i64 pk]] w fun e_ w' => e_ = .returned (.bool false) ∧ Below w.heap.size w w' := by
  have K0 := Lib.hid (row_is pa true r0)
  clear r0
  have K1 := Lib.hid (row_is pb true r1)
  clear r1
  have K2 := Lib.hid (vvalid_is px py pz false r2)
  clear r2
  have p0 : World.cell? (w.alloc (.cells #[.int .i64 pi, .int .i64 pa, .int .i64 pb, .int .i64 px, .int .i64 py, .int .i64 pz, .int .i64 pk] 28)) ⟨w.heap.size, 0, none⟩ = some (.int .i64 pi) := by simp [go_sem]
  have p1 : World.cell? (w.alloc (.cells #[.int .i64 pi, .int .i64 pa, .int .i64 pb, .int .i64 px, .int .i64 py, .int .i64 pz, .int .i64 pk] 28)) ⟨w.heap.size, 1, none⟩ = some (.int .i64 pa) := by simp [go_sem]
  have p2 : World.cell? (w.alloc (.cells #[.int .i64 pi, .int .i64 pa, .int .i64 pb, .int .i64 px, .int .i64 py, .int .i64 pz, .int .i64 pk] 28)) ⟨w.heap.size, 2, none⟩ = some (.int .i64 pb) := by simp [go_sem]
  have p3 : World.cell? (w.alloc (.cells #[.int .i64 pi, .int .i64 pa, .int .i64 pb, .int .i64 px, .int .i64 py, .int .i64 pz, .int .i64 pk] 28)) ⟨w.heap.size, 3, none⟩ = some (.int .i64 px) := by simp [go_sem]
  have p4 : World.cell? (w.alloc (.cells #[.int .i64 pi, .int .i64 pa, .int .i64 pb, .int .i64 px, .int .i64 py, .int .i64 pz, .int .i64 pk] 28)) ⟨w.heap.size, 4, none⟩ = some (.int .i64 py) := by simp [go_sem]
  have p5 : World.cell? (w.alloc (.cells #[.int .i64 pi, .int .i64 pa, .int .i64 pb, .int .i64 px, .int .i64 py, .int .i64 pz, .int .i64 pk] 28)) ⟨w.heap.size, 5, none⟩ = some (.int .i64 pz) := by simp [go_sem]
  have p6 : World.cell? (w.alloc (.cells #[.int .i64 pi, .int .i64 pa, .int .i64 pb, .int .i64 px, .int .i64 py, .int .i64 pz, .int .i64 pk] 28)) ⟨w.heap.size, 6, none⟩ = some (.int .i64 pk) := by simp [go_sem]
  have lp : w.heap.size < (w.alloc (.cells #[.int .i64 pi, .int .i64 pa, .int .i64 pb, .int .i64 px, .int .i64 py, .int .i64 pz, .int .i64 pk] 28)).heap.size := by simp <;> omega
  have HB := Lib.hid (show Below w.heap.size w (w.alloc (.cells #[.int .i64 pi, .int .i64 pa, .int .i64 pb, .int .i64 px, .int .i64 py, .int .i64 pz, .int .i64 pk] 28)) from ((Below.refl _ _).alloc (by simp <;> omega) _))
  go_enter Try.func55, Try.ntmps55
  go_wp2_with fail
  generalize w.alloc (.cells #[.int .i64 pi, .int .i64 pa, .int .i64 pb, .int .i64 px, .int .i64 py, .int .i64 pz, .int .i64 pk] 28) = w1 at *
  refine (K0.out _).mono ?_
  rintro e_ wq ⟨rfl, hw⟩
  subst hw
  go_wp2_with fail
  refine (K1.out _).mono ?_
  rintro e_ wq ⟨rfl, hw⟩
  subst hw
  go_wp2_with fail
  with_reducible refine (K2.out _).mono ?_
  rintro e_ w2 ⟨rfl, hb⟩
  replace HB := Lib.hid (on_below HB.out hb)
  replace p0 := keepc hb p0
  replace p1 := keepc hb p1
  replace p2 := keepc hb p2
  replace p3 := keepc hb p3
  replace p4 := keepc hb p4
  replace p5 := keepc hb p5
  replace p6 := keepc hb p6
  replace lp := Nat.lt_of_lt_of_le lp hb.size
  clear hb
  go_wp2_with fail
  go_ret
  exact ⟨rfl, HB.out⟩
set_option maxRecDepth 100000 in
set_option maxHeartbeats 2000000 in
theorem plc_25 (pi pa pb px py pz pk : Int) (c0 : (pk == 1) = false) (c1 : (pk == 2) = false) (c2 : 1 ≤ pi) (c3 : pi ≤ 1000000) (r0 : rw_ pa = true) (r1 : rw_ pb = true) (r2 : vv px py pz = true) (w : World) :
    Calls Try.prog 55 #[.agg #[.int .i64 pi, .int .i64 pa, .int .i64 pb, .int .i64 px, .int .i64 py, .int .i64 pz, .int .i64 pk]] w fun e_ w' => e_ = .returned (.bool false) ∧ Below w.heap.size w w' := by
  have K0 := Lib.hid (row_is pa true r0)
  clear r0
  have K1 := Lib.hid (row_is pb true r1)
  clear r1
  have K2 := Lib.hid (vvalid_is px py pz true r2)
  clear r2
  have p0 : World.cell? (w.alloc (.cells #[.int .i64 pi, .int .i64 pa, .int .i64 pb, .int .i64 px, .int .i64 py, .int .i64 pz, .int .i64 pk] 28)) ⟨w.heap.size, 0, none⟩ = some (.int .i64 pi) := by simp [go_sem]
  have p1 : World.cell? (w.alloc (.cells #[.int .i64 pi, .int .i64 pa, .int .i64 pb, .int .i64 px, .int .i64 py, .int .i64 pz, .int .i64 pk] 28)) ⟨w.heap.size, 1, none⟩ = some (.int .i64 pa) := by simp [go_sem]
  have p2 : World.cell? (w.alloc (.cells #[.int .i64 pi, .int .i64 pa, .int .i64 pb, .int .i64 px, .int .i64 py, .int .i64 pz, .int .i64 pk] 28)) ⟨w.heap.size, 2, none⟩ = some (.int .i64 pb) := by simp [go_sem]
  have p3 : World.cell? (w.alloc (.cells #[.int .i64 pi, .int .i64 pa, .int .i64 pb, .int .i64 px, .int .i64 py, .int .i64 pz, .int .i64 pk] 28)) ⟨w.heap.size, 3, none⟩ = some (.int .i64 px) := by simp [go_sem]
  have p4 : World.cell? (w.alloc (.cells #[.int .i64 pi, .int .i64 pa, .int .i64 pb, .int .i64 px, .int .i64 py, .int .i64 pz, .int .i64 pk] 28)) ⟨w.heap.size, 4, none⟩ = some (.int .i64 py) := by simp [go_sem]
  have p5 : World.cell? (w.alloc (.cells #[.int .i64 pi, .int .i64 pa, .int .i64 pb, .int .i64 px, .int .i64 py, .int .i64 pz, .int .i64 pk] 28)) ⟨w.heap.size, 5, none⟩ = some (.int .i64 pz) := by simp [go_sem]
  have p6 : World.cell? (w.alloc (.cells #[.int .i64 pi, .int .i64 pa, .int .i64 pb, .int .i64 px, .int .i64 py, .int .i64 pz, .int .i64 pk] 28)) ⟨w.heap.size, 6, none⟩ = some (.int .i64 pk) := by simp [go_sem]
  have lp : w.heap.size < (w.alloc (.cells #[.int .i64 pi, .int .i64 pa, .int .i64 pb, .int .i64 px, .int .i64 py, .int .i64 pz, .int .i64 pk] 28)).heap.size := by simp <;> omega
  have HB := Lib.hid (show Below w.heap.size w (w.alloc (.cells #[.int .i64 pi, .int .i64 pa, .int .i64 pb, .int .i64 px, .int .i64 py, .int .i64 pz, .int .i64 pk] 28)) from ((Below.refl _ _).alloc (by simp <;> omega) _))
  go_enter Try.func55, Try.ntmps55
  go_wp2_with fail
  generalize w.alloc (.cells #[.int .i64 pi, .int .i64 pa, .int .i64 pb, .int .i64 px, .int .i64 py, .int .i64 pz, .int .i64 pk] 28) = w1 at *
  refine (K0.out _).mono ?_
  rintro e_ wq ⟨rfl, hw⟩
  subst hw
  go_wp2_with fail
  refine (K1.out _).mono ?_
  rintro e_ wq ⟨rfl, hw⟩
  subst hw
  go_wp2_with fail
  with_reducible refine (K2.out _).mono ?_
  rintro e_ w2 ⟨rfl, hb⟩
  replace HB := Lib.hid (on_below HB.out hb)
  replace p0 := keepc hb p0
  replace p1 := keepc hb p1
  replace p2 := keepc hb p2
  replace p3 := keepc hb p3
  replace p4 := keepc hb p4
  replace p5 := keepc hb p5
  replace p6 := keepc hb p6
  replace lp := Nat.lt_of_lt_of_le lp hb.size
  clear hb
  go_wp2_with fail
  go_ret
  exact ⟨rfl, HB.out⟩
theorem plk_0 (pi pa pb px py pz pk : Int) (k0 : (pk == 1) = true) (r : Bool) (hr : (vv px py pz && (decide (1 ≤ pi) && decide (pi ≤ 1000000)) && rw_ pa && rw_ pb && true) = r) (w : World) :
    Calls Try.prog 55 #[.agg #[.int .i64 pi, .int .i64 pa, .int .i64 pb, .int .i64 px, .int .i64 py, .int .i64 pz, .int .i64 pk]] w fun e_ w' => e_ = .returned (.bool r) ∧ Below w.heap.size w w' := by
  by_cases h1 : 1 ≤ pi
  rotate_left
  · rw [decide_eq_false h1] at hr
    obtain rfl : false = r := by rw [← hr]; simp
    exact plc_00 pi pa pb px py pz pk k0 h1 w
  by_cases h2 : pi ≤ 1000000
  rotate_left
  · rw [decide_eq_false h2] at hr
    obtain rfl : false = r := by rw [← hr]; simp
    exact plc_01 pi pa pb px py pz pk k0 h1 h2 w
  cases h3 : rw_ pa
  · rw [h3] at hr
    obtain rfl : false = r := by rw [← hr]; simp
    exact plc_02 pi pa pb px py pz pk k0 h1 h2 h3 w
  cases h4 : rw_ pb
  · rw [h4] at hr
    obtain rfl : false = r := by rw [← hr]; simp
    exact plc_03 pi pa pb px py pz pk k0 h1 h2 h3 h4 w
  cases h5 : vv px py pz
  · rw [h5] at hr
    obtain rfl : false = r := by rw [← hr]; simp
    exact plc_04 pi pa pb px py pz pk k0 h1 h2 h3 h4 h5 w
  · rw [h3, h4, h5, decide_eq_true h1, decide_eq_true h2] at hr
    obtain rfl : true = r := by rw [← hr]; rfl
    exact plc_05 pi pa pb px py pz pk k0 h1 h2 h3 h4 h5 w
theorem plk_1 (pi pa pb px py pz pk : Int) (k0 : (pk == 1) = false) (k1 : (pk == 2) = true) (r : Bool) (hr : (vv px py pz && (decide (1 ≤ pi) && decide (pi ≤ 1000000)) && rw_ pa && rw_ pb && true) = r) (w : World) :
    Calls Try.prog 55 #[.agg #[.int .i64 pi, .int .i64 pa, .int .i64 pb, .int .i64 px, .int .i64 py, .int .i64 pz, .int .i64 pk]] w fun e_ w' => e_ = .returned (.bool r) ∧ Below w.heap.size w w' := by
  by_cases h1 : 1 ≤ pi
  rotate_left
  · rw [decide_eq_false h1] at hr
    obtain rfl : false = r := by rw [← hr]; simp
    exact plc_10 pi pa pb px py pz pk k0 k1 h1 w
  by_cases h2 : pi ≤ 1000000
  rotate_left
  · rw [decide_eq_false h2] at hr
    obtain rfl : false = r := by rw [← hr]; simp
    exact plc_11 pi pa pb px py pz pk k0 k1 h1 h2 w
  cases h3 : rw_ pa
  · rw [h3] at hr
    obtain rfl : false = r := by rw [← hr]; simp
    exact plc_12 pi pa pb px py pz pk k0 k1 h1 h2 h3 w
  cases h4 : rw_ pb
  · rw [h4] at hr
    obtain rfl : false = r := by rw [← hr]; simp
    exact plc_13 pi pa pb px py pz pk k0 k1 h1 h2 h3 h4 w
  cases h5 : vv px py pz
  · rw [h5] at hr
    obtain rfl : false = r := by rw [← hr]; simp
    exact plc_14 pi pa pb px py pz pk k0 k1 h1 h2 h3 h4 h5 w
  · rw [h3, h4, h5, decide_eq_true h1, decide_eq_true h2] at hr
    obtain rfl : true = r := by rw [← hr]; rfl
    exact plc_15 pi pa pb px py pz pk k0 k1 h1 h2 h3 h4 h5 w
theorem plk_2 (pi pa pb px py pz pk : Int) (k0 : (pk == 1) = false) (k1 : (pk == 2) = false) (r : Bool) (hr : (vv px py pz && (decide (1 ≤ pi) && decide (pi ≤ 1000000)) && rw_ pa && rw_ pb && false) = r) (w : World) :
    Calls Try.prog 55 #[.agg #[.int .i64 pi, .int .i64 pa, .int .i64 pb, .int .i64 px, .int .i64 py, .int .i64 pz, .int .i64 pk]] w fun e_ w' => e_ = .returned (.bool r) ∧ Below w.heap.size w w' := by
  by_cases h1 : 1 ≤ pi
  rotate_left
  · rw [decide_eq_false h1] at hr
    obtain rfl : false = r := by rw [← hr]; simp
    exact plc_20 pi pa pb px py pz pk k0 k1 h1 w
  by_cases h2 : pi ≤ 1000000
  rotate_left
  · rw [decide_eq_false h2] at hr
    obtain rfl : false = r := by rw [← hr]; simp
    exact plc_21 pi pa pb px py pz pk k0 k1 h1 h2 w
  cases h3 : rw_ pa
  · rw [h3] at hr
    obtain rfl : false = r := by rw [← hr]; simp
    exact plc_22 pi pa pb px py pz pk k0 k1 h1 h2 h3 w
  cases h4 : rw_ pb
  · rw [h4] at hr
    obtain rfl : false = r := by rw [← hr]; simp
    exact plc_23 pi pa pb px py pz pk k0 k1 h1 h2 h3 h4 w
  cases h5 : vv px py pz
  · rw [h5] at hr
    obtain rfl : false = r := by rw [← hr]; simp
    exact plc_24 pi pa pb px py pz pk k0 k1 h1 h2 h3 h4 h5 w
  · rw [h3, h4, h5, decide_eq_true h1, decide_eq_true h2] at hr
    obtain rfl : false = r := by rw [← hr]; rfl
    exact plc_25 pi pa pb px py pz pk k0 k1 h1 h2 h3 h4 h5 w
theorem plc_is (p : Pl) (r : Bool) (hr : plOk p = r) (w : World) :
    Calls Try.prog 55 #[.agg #[.int .i64 p.id, .int .i64 p.row, .int .i64 p.pos, .int .i64 p.ex, .int .i64 p.ey, .int .i64 p.ez, .int .i64 p.kd]] w fun e_ w' => e_ = .returned (.bool r) ∧ Below w.heap.size w w' := by
  obtain ⟨pi, pa, pb, px, py, pz, pk⟩ := p
  dsimp only at *
  have e : plOk ⟨pi, pa, pb, px, py, pz, pk⟩ = (vv px py pz && (decide (1 ≤ pi) && decide (pi ≤ 1000000)) && rw_ pa && rw_ pb && ((pk == 1) || (pk == 2))) := rfl
  rw [e] at hr
  clear e
  cases k0 : (pk == 1)
  · rw [k0] at hr
    cases k1 : (pk == 2)
    · rw [k1] at hr
      exact plk_2 pi pa pb px py pz pk k0 k1 r hr w
    · rw [k1] at hr
      exact plk_1 pi pa pb px py pz pk k0 k1 r hr w
  · rw [k0] at hr
    exact plk_0 pi pa pb px py pz pk k0 r hr w
end Go.Proofs.Ytgikpcoaennkgaa

namespace Go.Proofs.Ytgikpcoaennkgaa
open Go.RowKit Go.Sort
open Go.RowKit (Below)
open Go.Maps (Keyed)
set_option linter.unusedVariables false
set_option linter.unusedSimpArgs false
attribute [local go_sem] Oper.semAt_some

theorem keyInt : Keyed Try.prog 3 := Go.Maps.int_keyed Try.underlying3
theorem zeroInt (w : World) : (zeroValue 3).run Try.prog w = .ok (.int .i64 0) w := by kernel_rfl
theorem wf_of {x : Int} (h : I64 x) : (Lit.int .i64 x).wf = true := by
  have e1 : IntKind.i64.min = -9223372036854775808 := rfl
  have e2 : IntKind.i64.max = 9223372036854775807 := rfl
  unfold I64 at h
  simp [Lit.wf, e1, e2]
  omega
theorem keyI {x : Int} (h : I64 x) : keyOf Try.prog 3 (.int .i64 x) = some (.int .i64 x) := Go.Maps.keyOf_int_mk Try.underlying3 (wf_of h)
theorem makeMapI {t k e : TypeId} (ht : Try.prog.underlying t = some (.map k e)) (n : Int) (w : World) : (Instr.makeMap t (some (.int .i64 n))).run Try.prog w = .ok (.map (some w.heap.size)) (w.alloc (.map #[] 0)) := by
  simp [Instr.makeMap, run_underlying ht, asInt, newObj, Result.andThen]
  try rfl
theorem om_below {P : Program} {k : TypeId} {R : Value → Option (DataW Unit × List MemPlace)} {w w' : World} {b n : Nat} {D : DataW Unit} (h : w.ownsMap P k R b n D) (hb : Below w.heap.size w w') : w'.ownsMap P k R b n D := by
  have hlt := h.lt
  obtain ⟨es, clock, h1, h2⟩ := h
  exact ⟨es, clock, (hb.block b hlt).trans h1, h2⟩

theorem wr_up {k : Nat} (h : k ≤ 100000) : IntKind.i64.wrap ((k : Int) + 1) = (k : Int) + 1 := IntWalk.i64_in _ ⟨by omega, by omega⟩
theorem wr_up' {k : Nat} (h : k ≤ 100000) : wrap64 ((k : Int) + 1) = (k : Int) + 1 := IntWalk.wrap64_in _ ⟨by omega, by omega⟩
theorem wr_down {k k1 : Nat} (e : k = k1 + 1) (h : k ≤ 100000) : IntKind.i64.wrap ((k : Int) - 1) = (k1 : Int) := by subst e; rw [show ((k1 + 1 : Nat) : Int) - 1 = (k1 : Int) by omega]; exact IntWalk.i64_in _ ⟨by omega, by omega⟩
theorem wr_down' {k k1 : Nat} (e : k = k1 + 1) (h : k ≤ 100000) : wrap64 ((k : Int) - 1) = (k1 : Int) := by subst e; rw [show ((k1 + 1 : Nat) : Int) - 1 = (k1 : Int) by omega]; exact IntWalk.wrap64_in _ ⟨by omega, by omega⟩
/-- What indexed answers. -/
def IxR (w w' : World) (L : List Pl) (e : Ending) : Prop :=
  (∃ mb, e = .returned (.tuple #[.map mb, .bool false]) ∧ ¬ PlOk3 L) ∨ (∃ b, e = .returned (.tuple #[.map (some b), .bool true]) ∧ PlOk3 L ∧ w.heap.size ≤ b ∧ w'.ownsMap Try.prog 3 (plainElem (H := Unit) Try.prog 3) b L.length (mpD L L.length))
set_option maxRecDepth 100000 in
set_option maxHeartbeats 4000000 in
theorem indexed_is (A : Option Addr) (C : Nat) (L : List Pl) (w : World) (hl : PlS w A L) :
    Calls Try.prog 37 #[.slice A L.length C] w fun e_ w' => IxR w w' L e_ ∧ Below w.heap.size w w' := by
  have HL := Lib.hid hl
  clear hl
  have hmm := fun n W => makeMapI Try.underlying77 n W
  have hmf : ∀ (fn : Fn) (first cap : Array Value) (w : World), (Instr.makeFunc fn first cap).run Try.prog w = .ok (.func fn first cap) w := fun _ _ _ _ => rfl
  by_cases h300 : L.length ≤ 300
  rotate_left
  · go_enter Try.func37, Try.ntmps37
    go_wp2_with fail
    go_ret2
    exact ⟨.inl ⟨none, rfl, fun h => h300 h.few⟩, Below.refl _ _⟩
  go_enter Try.func37, Try.ntmps37
  go_wp2_with fail
  clear hmm hmf
  go_loopw [16] (fun i wr => ∃ k : Nat, k ≤ L.length ∧ i = .int .i64 k ∧ Hid ((∀ j, j < k → plOk (gdP L j) = true) ∧ (∀ j, j + 1 < k → bhd (gdP L (j + 1)) (gdP L j) = true)) ∧ Hid (wr.ownsMap Try.prog 3 (plainElem (H := Unit) Try.prog 3) w.heap.size k (mpD L k)) ∧ Below w.heap.size w wr) (fun i _ => L.length - (intOf i).toNat)
  case atStart => exact ⟨0, Nat.zero_le _, rfl, ⟨fun j hj => absurd hj (Nat.not_lt_zero j), fun j hj => absurd hj (Nat.not_lt_zero _)⟩, World.ownsMap_made _ _ _ _, (Below.refl _ _).alloc (Nat.le_refl _) _⟩
  case round =>
    obtain ⟨k, hk, rfl, HK, HOW, hW⟩ := hrel
    have HW := Lib.hid hW
    by_cases hlt : k < L.length
    rotate_left
    · obtain rfl : k = L.length := by omega
      have how := HOW.out
      go_wp2_with (first | (at_len; refine wpList_len_own _ rfl _ 77 rfl 3 3 Try.underlying77 _ w.heap.size L.length _ rfl how ?_) | go_in)
      go_ret2
      obtain ⟨hz1, hz2⟩ := mpD_size (H := Unit) L L.length
      by_cases hd : Dst L L.length
      · have e1 : (((Maps.size (mpD (H := Unit) L L.length) : Nat) : Int) == (L.length : Int)) = true := by rw [hz2.2 hd]; simp
        rw [e1]
        exact ⟨.inr ⟨w.heap.size, rfl, ⟨h300, HK.out.1, HK.out.2, hd⟩, Nat.le_refl _, how⟩, HW.out⟩
      · have e1 : (((Maps.size (mpD (H := Unit) L L.length) : Nat) : Int) == (L.length : Int)) = false := by have : ¬ Maps.size (mpD (H := Unit) L L.length) = L.length := fun e => hd (hz2.1 e); simp; omega
        rw [e1]
        exact ⟨.inl ⟨_, rfl, fun h => hd h.dst⟩, HW.out⟩
    obtain ⟨b0, o0, rfl, e0, e1, e2, e3, e4, e5, e6⟩ := HL.out.below hW k hlt
    have w1_ := wr_up (k := k) (by omega)
    have w2_ := wr_up' (k := k) (by omega)
    have hWn := hW.size
    clear hW
    have HU := Lib.hid (show ∃ u, gdP L k = u from ⟨_, rfl⟩)
    obtain ⟨u, hu⟩ := HU.out
    clear HU
    rw [hu] at e0 e1 e2 e3 e4 e5 e6
    have HU := Lib.hid hu
    clear hu
    obtain ⟨pi, pa, pb, px, py, pz, pk⟩ := u
    dsimp only at e0 e1 e2 e3 e4 e5 e6
    cases hp : plOk ⟨pi, pa, pb, px, py, pz, pk⟩
    · have KP := Lib.hid (plc_is ⟨pi, pa, pb, px, py, pz, pk⟩ false hp)
      have KPF := Lib.hid hp
      clear hp
      have HB := Lib.hid (Below.refl wr.heap.size wr)
      go_wp2_with fail
      have q0 : World.cell? (wr.alloc (.cells #[.int .i64 pi, .int .i64 pa, .int .i64 pb, .int .i64 px, .int .i64 py, .int .i64 pz, .int .i64 pk] 28)) ⟨wr.heap.size, 0, none⟩ = some (.int .i64 pi) := by simp [go_sem]
      have q1 : World.cell? (wr.alloc (.cells #[.int .i64 pi, .int .i64 pa, .int .i64 pb, .int .i64 px, .int .i64 py, .int .i64 pz, .int .i64 pk] 28)) ⟨wr.heap.size, 1, none⟩ = some (.int .i64 pa) := by simp [go_sem]
      have q2 : World.cell? (wr.alloc (.cells #[.int .i64 pi, .int .i64 pa, .int .i64 pb, .int .i64 px, .int .i64 py, .int .i64 pz, .int .i64 pk] 28)) ⟨wr.heap.size, 2, none⟩ = some (.int .i64 pb) := by simp [go_sem]
      have q3 : World.cell? (wr.alloc (.cells #[.int .i64 pi, .int .i64 pa, .int .i64 pb, .int .i64 px, .int .i64 py, .int .i64 pz, .int .i64 pk] 28)) ⟨wr.heap.size, 3, none⟩ = some (.int .i64 px) := by simp [go_sem]
      have q4 : World.cell? (wr.alloc (.cells #[.int .i64 pi, .int .i64 pa, .int .i64 pb, .int .i64 px, .int .i64 py, .int .i64 pz, .int .i64 pk] 28)) ⟨wr.heap.size, 4, none⟩ = some (.int .i64 py) := by simp [go_sem]
      have q5 : World.cell? (wr.alloc (.cells #[.int .i64 pi, .int .i64 pa, .int .i64 pb, .int .i64 px, .int .i64 py, .int .i64 pz, .int .i64 pk] 28)) ⟨wr.heap.size, 5, none⟩ = some (.int .i64 pz) := by simp [go_sem]
      have q6 : World.cell? (wr.alloc (.cells #[.int .i64 pi, .int .i64 pa, .int .i64 pb, .int .i64 px, .int .i64 py, .int .i64 pz, .int .i64 pk] 28)) ⟨wr.heap.size, 6, none⟩ = some (.int .i64 pk) := by simp [go_sem]
      have hb : Below wr.heap.size wr (wr.alloc (.cells #[.int .i64 pi, .int .i64 pa, .int .i64 pb, .int .i64 px, .int .i64 py, .int .i64 pz, .int .i64 pk] 28)) := below_new _ _
      generalize wr.alloc (.cells #[.int .i64 pi, .int .i64 pa, .int .i64 pb, .int .i64 px, .int .i64 py, .int .i64 pz, .int .i64 pk] 28) = w2 at *
      have HOW2 := Lib.hid (om_below HOW.out hb)
      replace HB := Lib.hid (on_below HB.out hb)
      replace e0 := keepc hb e0
      replace e1 := keepc hb e1
      replace e2 := keepc hb e2
      replace e3 := keepc hb e3
      replace e4 := keepc hb e4
      replace e5 := keepc hb e5
      replace e6 := keepc hb e6
      clear hb
      have kp : ∀ {Wq_ : World}, Below w2.heap.size w2 Wq_ → Wq_.cell? ⟨wr.heap.size, 0, none⟩ = some (.int .i64 pi) ∧ Wq_.cell? ⟨wr.heap.size, 1, none⟩ = some (.int .i64 pa) ∧ Wq_.cell? ⟨wr.heap.size, 2, none⟩ = some (.int .i64 pb) ∧ Wq_.cell? ⟨wr.heap.size, 3, none⟩ = some (.int .i64 px) ∧ Wq_.cell? ⟨wr.heap.size, 4, none⟩ = some (.int .i64 py) ∧ Wq_.cell? ⟨wr.heap.size, 5, none⟩ = some (.int .i64 pz) ∧ Wq_.cell? ⟨wr.heap.size, 6, none⟩ = some (.int .i64 pk) := fun h => ⟨keepc h q0, keepc h q1, keepc h q2, keepc h q3, keepc h q4, keepc h q5, keepc h q6⟩
      have hB : Below w2.heap.size w2 w2.drew := (Below.refl _ _).drew
      refine wp_region_held_drew (S := fun Wq_ => Wq_.cell? ⟨wr.heap.size, 0, none⟩ = some (.int .i64 pi) ∧ Wq_.cell? ⟨wr.heap.size, 1, none⟩ = some (.int .i64 pa) ∧ Wq_.cell? ⟨wr.heap.size, 2, none⟩ = some (.int .i64 pb) ∧ Wq_.cell? ⟨wr.heap.size, 3, none⟩ = some (.int .i64 px) ∧ Wq_.cell? ⟨wr.heap.size, 4, none⟩ = some (.int .i64 py) ∧ Wq_.cell? ⟨wr.heap.size, 5, none⟩ = some (.int .i64 pz) ∧ Wq_.cell? ⟨wr.heap.size, 6, none⟩ = some (.int .i64 pk)) (by kernel_rfl) (kp (Below.refl _ _).drew) fun HL_ => ?_
      generalize w2.drew = wq0_ at *
      refine wpAnyH_take (i := 0) (v := .agg #[.int .i64 pi, .int .i64 pa, .int .i64 pb, .int .i64 px, .int .i64 py, .int .i64 pz, .int .i64 pk]) rfl (by kernel_rfl) (by kernel_rfl) (by kernel_rfl) (fun _ _ _ h => h) (Or.inl ⟨by kernel_rfl, ?_⟩) HL_ ?_
      · rintro Wl ⟨s0, s1, s2, s3, s4, s5, s6⟩
        go_simp
      simp only [Act.put, List.getElem_toArray, List.getElem_cons_succ, List.getElem_cons_zero, List.setIfInBounds_toArray, List.set_cons_zero, List.set_cons_succ]
      refine wpAnyH_ready (rs := [1]) (by kernel_rfl) (by simp) ?_
      refine AllReadyH.cons (o := _) rfl (fun K hK => ?_) AllReadyH.nil
      go_simp
      with_reducible refine (KP.out _).mono ?_
      rintro e_ wq1_ ⟨rfl, hb⟩
      replace hB := on_below hB hb
      clear hb
      refine hK.out _ _ (kp hB) fun HL_ => ?_
      clear hK K
      refine wpAnyH_take (i := 2) (v := .bool true) rfl (by kernel_rfl) (by kernel_rfl) (by kernel_rfl) (fun _ _ _ h => h) (Or.inl ⟨by kernel_rfl, ?_⟩) HL_ ?_
      · rintro Wl ⟨s0, s1, s2, s3, s4, s5, s6⟩
        go_simp
      simp only [Act.put, List.getElem_toArray, List.getElem_cons_succ, List.getElem_cons_zero, List.setIfInBounds_toArray, List.set_cons_zero, List.set_cons_succ]
      refine wpAnyH_take (i := 3) (v := .bool true) rfl (by kernel_rfl) (by kernel_rfl) (by kernel_rfl) (fun _ _ _ h => h) (Or.inl ⟨by kernel_rfl, ?_⟩) HL_ ?_
      · rintro Wl ⟨s0, s1, s2, s3, s4, s5, s6⟩
        go_simp
      simp only [Act.put, List.getElem_toArray, List.getElem_cons_succ, List.getElem_cons_zero, List.setIfInBounds_toArray, List.set_cons_zero, List.set_cons_succ]
      refine wpAnyH_take (i := 4) (v := undef) rfl (by kernel_rfl) (by kernel_rfl) (by kernel_rfl) (fun _ _ _ h => h) (Or.inr ⟨by kernel_rfl, rfl⟩) HL_ ?_
      simp only [Act.put, List.getElem_toArray, List.getElem_cons_succ, List.getElem_cons_zero, List.setIfInBounds_toArray, List.set_cons_zero, List.set_cons_succ]
      refine wpAnyH_take (i := 5) (v := undef) rfl (by kernel_rfl) (by kernel_rfl) (by kernel_rfl) (fun _ _ _ h => h) (Or.inr ⟨by kernel_rfl, rfl⟩) HL_ ?_
      simp only [Act.put, List.getElem_toArray, List.getElem_cons_succ, List.getElem_cons_zero, List.setIfInBounds_toArray, List.set_cons_zero, List.set_cons_succ]
      refine wpAnyH_take (i := 6) (v := undef) rfl (by kernel_rfl) (by kernel_rfl) (by kernel_rfl) (fun _ _ _ h => h) (Or.inr ⟨by kernel_rfl, rfl⟩) HL_ ?_
      simp only [Act.put, List.getElem_toArray, List.getElem_cons_succ, List.getElem_cons_zero, List.setIfInBounds_toArray, List.set_cons_zero, List.set_cons_succ]
      refine wpAnyH_take (i := 7) (v := undef) rfl (by kernel_rfl) (by kernel_rfl) (by kernel_rfl) (fun _ _ _ h => h) (Or.inr ⟨by kernel_rfl, rfl⟩) HL_ ?_
      simp only [Act.put, List.getElem_toArray, List.getElem_cons_succ, List.getElem_cons_zero, List.setIfInBounds_toArray, List.set_cons_zero, List.set_cons_succ]
      refine wpAnyH_take (i := 8) (v := undef) rfl (by kernel_rfl) (by kernel_rfl) (by kernel_rfl) (fun _ _ _ h => h) (Or.inr ⟨by kernel_rfl, rfl⟩) HL_ ?_
      simp only [Act.put, List.getElem_toArray, List.getElem_cons_succ, List.getElem_cons_zero, List.setIfInBounds_toArray, List.set_cons_zero, List.set_cons_succ]
      refine wpAnyH_take (i := 9) (v := undef) rfl (by kernel_rfl) (by kernel_rfl) (by kernel_rfl) (fun _ _ _ h => h) (Or.inr ⟨by kernel_rfl, rfl⟩) HL_ ?_
      simp only [Act.put, List.getElem_toArray, List.getElem_cons_succ, List.getElem_cons_zero, List.setIfInBounds_toArray, List.set_cons_zero, List.set_cons_succ]
      refine wpAnyH_take (i := 10) (v := undef) rfl (by kernel_rfl) (by kernel_rfl) (by kernel_rfl) (fun _ _ _ h => h) (Or.inr ⟨by kernel_rfl, rfl⟩) HL_ ?_
      simp only [Act.put, List.getElem_toArray, List.getElem_cons_succ, List.getElem_cons_zero, List.setIfInBounds_toArray, List.set_cons_zero, List.set_cons_succ]
      refine wpAnyH_take (i := 11) (v := undef) rfl (by kernel_rfl) (by kernel_rfl) (by kernel_rfl) (fun _ _ _ h => h) (Or.inr ⟨by kernel_rfl, rfl⟩) HL_ ?_
      simp only [Act.put, List.getElem_toArray, List.getElem_cons_succ, List.getElem_cons_zero, List.setIfInBounds_toArray, List.set_cons_zero, List.set_cons_succ]
      refine wpAnyH_take (i := 12) (v := undef) rfl (by kernel_rfl) (by kernel_rfl) (by kernel_rfl) (fun _ _ _ h => h) (Or.inr ⟨by kernel_rfl, rfl⟩) HL_ ?_
      simp only [Act.put, List.getElem_toArray, List.getElem_cons_succ, List.getElem_cons_zero, List.setIfInBounds_toArray, List.set_cons_zero, List.set_cons_succ]
      refine wpAnyH_take (i := 13) (v := undef) rfl (by kernel_rfl) (by kernel_rfl) (by kernel_rfl) (fun _ _ _ h => h) (Or.inr ⟨by kernel_rfl, rfl⟩) HL_ ?_
      simp only [Act.put, List.getElem_toArray, List.getElem_cons_succ, List.getElem_cons_zero, List.setIfInBounds_toArray, List.set_cons_zero, List.set_cons_succ]
      refine wpAnyH_take (i := 14) (v := undef) rfl (by kernel_rfl) (by kernel_rfl) (by kernel_rfl) (fun _ _ _ h => h) (Or.inr ⟨by kernel_rfl, rfl⟩) HL_ ?_
      simp only [Act.put, List.getElem_toArray, List.getElem_cons_succ, List.getElem_cons_zero, List.setIfInBounds_toArray, List.set_cons_zero, List.set_cons_succ]
      refine wpAnyH_take (i := 15) (v := undef) rfl (by kernel_rfl) (by kernel_rfl) (by kernel_rfl) (fun _ _ _ h => h) (Or.inr ⟨by kernel_rfl, rfl⟩) HL_ ?_
      simp only [Act.put, List.getElem_toArray, List.getElem_cons_succ, List.getElem_cons_zero, List.setIfInBounds_toArray, List.set_cons_zero, List.set_cons_succ]
      refine wpAnyH_take (i := 16) (v := undef) rfl (by kernel_rfl) (by kernel_rfl) (by kernel_rfl) (fun _ _ _ h => h) (Or.inr ⟨by kernel_rfl, rfl⟩) HL_ ?_
      simp only [Act.put, List.getElem_toArray, List.getElem_cons_succ, List.getElem_cons_zero, List.setIfInBounds_toArray, List.set_cons_zero, List.set_cons_succ]
      refine wpAnyH_take (i := 17) (v := .bool true) rfl (by kernel_rfl) (by kernel_rfl) (by kernel_rfl) (fun _ _ _ h => h) (Or.inl ⟨by kernel_rfl, ?_⟩) HL_ ?_
      · rintro Wl ⟨s0, s1, s2, s3, s4, s5, s6⟩
        go_simp
      simp only [Act.put, List.getElem_toArray, List.getElem_cons_succ, List.getElem_cons_zero, List.setIfInBounds_toArray, List.set_cons_zero, List.set_cons_succ]
      refine wpAnyH_done (by kernel_rfl) ?_ _
      clear HL_ kp
      generalize wq1_ = wh at *
      go_wp2_with fail
      go_ret2
      exact ⟨.inl ⟨none, rfl, fun h => by have h1 := h.each k hlt; rw [HU.out] at h1; rw [KPF.out] at h1; cases h1⟩, HW.out.trans ((on_below HB.out hB).mono hWn)⟩
    have KP := Lib.hid (plc_is ⟨pi, pa, pb, px, py, pz, pk⟩ true hp)
    have KPF := Lib.hid hp
    have hrg := plOk_rng hp
    clear hp
    have hkey := keyI (x := pi) ⟨by have := hrg.1.1; simp only at this; omega, by have := hrg.1.2; simp only at this; omega⟩
    clear hrg
    by_cases h0 : 0 < k
    rotate_left
    · have hz : ¬ (0 : Int) < (k : Int) := by omega
      have HB := Lib.hid (Below.refl wr.heap.size wr)
      go_wp2_with fail
      have q0 : World.cell? (wr.alloc (.cells #[.int .i64 pi, .int .i64 pa, .int .i64 pb, .int .i64 px, .int .i64 py, .int .i64 pz, .int .i64 pk] 28)) ⟨wr.heap.size, 0, none⟩ = some (.int .i64 pi) := by simp [go_sem]
      have q1 : World.cell? (wr.alloc (.cells #[.int .i64 pi, .int .i64 pa, .int .i64 pb, .int .i64 px, .int .i64 py, .int .i64 pz, .int .i64 pk] 28)) ⟨wr.heap.size, 1, none⟩ = some (.int .i64 pa) := by simp [go_sem]
      have q2 : World.cell? (wr.alloc (.cells #[.int .i64 pi, .int .i64 pa, .int .i64 pb, .int .i64 px, .int .i64 py, .int .i64 pz, .int .i64 pk] 28)) ⟨wr.heap.size, 2, none⟩ = some (.int .i64 pb) := by simp [go_sem]
      have q3 : World.cell? (wr.alloc (.cells #[.int .i64 pi, .int .i64 pa, .int .i64 pb, .int .i64 px, .int .i64 py, .int .i64 pz, .int .i64 pk] 28)) ⟨wr.heap.size, 3, none⟩ = some (.int .i64 px) := by simp [go_sem]
      have q4 : World.cell? (wr.alloc (.cells #[.int .i64 pi, .int .i64 pa, .int .i64 pb, .int .i64 px, .int .i64 py, .int .i64 pz, .int .i64 pk] 28)) ⟨wr.heap.size, 4, none⟩ = some (.int .i64 py) := by simp [go_sem]
      have q5 : World.cell? (wr.alloc (.cells #[.int .i64 pi, .int .i64 pa, .int .i64 pb, .int .i64 px, .int .i64 py, .int .i64 pz, .int .i64 pk] 28)) ⟨wr.heap.size, 5, none⟩ = some (.int .i64 pz) := by simp [go_sem]
      have q6 : World.cell? (wr.alloc (.cells #[.int .i64 pi, .int .i64 pa, .int .i64 pb, .int .i64 px, .int .i64 py, .int .i64 pz, .int .i64 pk] 28)) ⟨wr.heap.size, 6, none⟩ = some (.int .i64 pk) := by simp [go_sem]
      have hb : Below wr.heap.size wr (wr.alloc (.cells #[.int .i64 pi, .int .i64 pa, .int .i64 pb, .int .i64 px, .int .i64 py, .int .i64 pz, .int .i64 pk] 28)) := below_new _ _
      generalize wr.alloc (.cells #[.int .i64 pi, .int .i64 pa, .int .i64 pb, .int .i64 px, .int .i64 py, .int .i64 pz, .int .i64 pk] 28) = w2 at *
      have HOW2 := Lib.hid (om_below HOW.out hb)
      replace HB := Lib.hid (on_below HB.out hb)
      replace e0 := keepc hb e0
      replace e1 := keepc hb e1
      replace e2 := keepc hb e2
      replace e3 := keepc hb e3
      replace e4 := keepc hb e4
      replace e5 := keepc hb e5
      replace e6 := keepc hb e6
      clear hb
      have kp : ∀ {Wq_ : World}, Below w2.heap.size w2 Wq_ → Wq_.cell? ⟨wr.heap.size, 0, none⟩ = some (.int .i64 pi) ∧ Wq_.cell? ⟨wr.heap.size, 1, none⟩ = some (.int .i64 pa) ∧ Wq_.cell? ⟨wr.heap.size, 2, none⟩ = some (.int .i64 pb) ∧ Wq_.cell? ⟨wr.heap.size, 3, none⟩ = some (.int .i64 px) ∧ Wq_.cell? ⟨wr.heap.size, 4, none⟩ = some (.int .i64 py) ∧ Wq_.cell? ⟨wr.heap.size, 5, none⟩ = some (.int .i64 pz) ∧ Wq_.cell? ⟨wr.heap.size, 6, none⟩ = some (.int .i64 pk) := fun h => ⟨keepc h q0, keepc h q1, keepc h q2, keepc h q3, keepc h q4, keepc h q5, keepc h q6⟩
      have hB : Below w2.heap.size w2 w2.drew := (Below.refl _ _).drew
      refine wp_region_held_drew (S := fun Wq_ => Wq_.cell? ⟨wr.heap.size, 0, none⟩ = some (.int .i64 pi) ∧ Wq_.cell? ⟨wr.heap.size, 1, none⟩ = some (.int .i64 pa) ∧ Wq_.cell? ⟨wr.heap.size, 2, none⟩ = some (.int .i64 pb) ∧ Wq_.cell? ⟨wr.heap.size, 3, none⟩ = some (.int .i64 px) ∧ Wq_.cell? ⟨wr.heap.size, 4, none⟩ = some (.int .i64 py) ∧ Wq_.cell? ⟨wr.heap.size, 5, none⟩ = some (.int .i64 pz) ∧ Wq_.cell? ⟨wr.heap.size, 6, none⟩ = some (.int .i64 pk)) (by kernel_rfl) (kp (Below.refl _ _).drew) fun HL_ => ?_
      generalize w2.drew = wq0_ at *
      refine wpAnyH_take (i := 0) (v := .agg #[.int .i64 pi, .int .i64 pa, .int .i64 pb, .int .i64 px, .int .i64 py, .int .i64 pz, .int .i64 pk]) rfl (by kernel_rfl) (by kernel_rfl) (by kernel_rfl) (fun _ _ _ h => h) (Or.inl ⟨by kernel_rfl, ?_⟩) HL_ ?_
      · rintro Wl ⟨s0, s1, s2, s3, s4, s5, s6⟩
        go_simp
      simp only [Act.put, List.getElem_toArray, List.getElem_cons_succ, List.getElem_cons_zero, List.setIfInBounds_toArray, List.set_cons_zero, List.set_cons_succ]
      refine wpAnyH_ready (rs := [1]) (by kernel_rfl) (by simp) ?_
      refine AllReadyH.cons (o := _) rfl (fun K hK => ?_) AllReadyH.nil
      go_simp
      with_reducible refine (KP.out _).mono ?_
      rintro e_ wq1_ ⟨rfl, hb⟩
      replace hB := on_below hB hb
      clear hb
      refine hK.out _ _ (kp hB) fun HL_ => ?_
      clear hK K
      refine wpAnyH_take (i := 2) (v := .bool false) rfl (by kernel_rfl) (by kernel_rfl) (by kernel_rfl) (fun _ _ _ h => h) (Or.inl ⟨by kernel_rfl, ?_⟩) HL_ ?_
      · rintro Wl ⟨s0, s1, s2, s3, s4, s5, s6⟩
        go_simp
      simp only [Act.put, List.getElem_toArray, List.getElem_cons_succ, List.getElem_cons_zero, List.setIfInBounds_toArray, List.set_cons_zero, List.set_cons_succ]
      refine wpAnyH_take (i := 3) (v := .bool false) rfl (by kernel_rfl) (by kernel_rfl) (by kernel_rfl) (fun _ _ _ h => h) (Or.inl ⟨by kernel_rfl, ?_⟩) HL_ ?_
      · rintro Wl ⟨s0, s1, s2, s3, s4, s5, s6⟩
        go_simp
      simp only [Act.put, List.getElem_toArray, List.getElem_cons_succ, List.getElem_cons_zero, List.setIfInBounds_toArray, List.set_cons_zero, List.set_cons_succ]
      refine wpAnyH_take (i := 4) (v := .int .i64 (k : Int)) rfl (by kernel_rfl) (by kernel_rfl) (by kernel_rfl) (fun _ _ _ h => h) (Or.inl ⟨by kernel_rfl, ?_⟩) HL_ ?_
      · rintro Wl ⟨s0, s1, s2, s3, s4, s5, s6⟩
        go_simp
      simp only [Act.put, List.getElem_toArray, List.getElem_cons_succ, List.getElem_cons_zero, List.setIfInBounds_toArray, List.set_cons_zero, List.set_cons_succ]
      refine wpAnyH_take (i := 5) (v := .bool false) rfl (by kernel_rfl) (by kernel_rfl) (by kernel_rfl) (fun _ _ _ h => h) (Or.inl ⟨by kernel_rfl, ?_⟩) HL_ ?_
      · rintro Wl ⟨s0, s1, s2, s3, s4, s5, s6⟩
        go_simp
      simp only [Act.put, List.getElem_toArray, List.getElem_cons_succ, List.getElem_cons_zero, List.setIfInBounds_toArray, List.set_cons_zero, List.set_cons_succ]
      refine wpAnyH_take (i := 6) (v := .bool false) rfl (by kernel_rfl) (by kernel_rfl) (by kernel_rfl) (fun _ _ _ h => h) (Or.inl ⟨by kernel_rfl, ?_⟩) HL_ ?_
      · rintro Wl ⟨s0, s1, s2, s3, s4, s5, s6⟩
        go_simp
      simp only [Act.put, List.getElem_toArray, List.getElem_cons_succ, List.getElem_cons_zero, List.setIfInBounds_toArray, List.set_cons_zero, List.set_cons_succ]
      refine wpAnyH_take (i := 7) (v := undef) rfl (by kernel_rfl) (by kernel_rfl) (by kernel_rfl) (fun _ _ _ h => h) (Or.inr ⟨by kernel_rfl, rfl⟩) HL_ ?_
      simp only [Act.put, List.getElem_toArray, List.getElem_cons_succ, List.getElem_cons_zero, List.setIfInBounds_toArray, List.set_cons_zero, List.set_cons_succ]
      refine wpAnyH_take (i := 8) (v := undef) rfl (by kernel_rfl) (by kernel_rfl) (by kernel_rfl) (fun _ _ _ h => h) (Or.inr ⟨by kernel_rfl, rfl⟩) HL_ ?_
      simp only [Act.put, List.getElem_toArray, List.getElem_cons_succ, List.getElem_cons_zero, List.setIfInBounds_toArray, List.set_cons_zero, List.set_cons_succ]
      refine wpAnyH_take (i := 9) (v := undef) rfl (by kernel_rfl) (by kernel_rfl) (by kernel_rfl) (fun _ _ _ h => h) (Or.inr ⟨by kernel_rfl, rfl⟩) HL_ ?_
      simp only [Act.put, List.getElem_toArray, List.getElem_cons_succ, List.getElem_cons_zero, List.setIfInBounds_toArray, List.set_cons_zero, List.set_cons_succ]
      refine wpAnyH_take (i := 10) (v := undef) rfl (by kernel_rfl) (by kernel_rfl) (by kernel_rfl) (fun _ _ _ h => h) (Or.inr ⟨by kernel_rfl, rfl⟩) HL_ ?_
      simp only [Act.put, List.getElem_toArray, List.getElem_cons_succ, List.getElem_cons_zero, List.setIfInBounds_toArray, List.set_cons_zero, List.set_cons_succ]
      refine wpAnyH_take (i := 11) (v := undef) rfl (by kernel_rfl) (by kernel_rfl) (by kernel_rfl) (fun _ _ _ h => h) (Or.inr ⟨by kernel_rfl, rfl⟩) HL_ ?_
      simp only [Act.put, List.getElem_toArray, List.getElem_cons_succ, List.getElem_cons_zero, List.setIfInBounds_toArray, List.set_cons_zero, List.set_cons_succ]
      refine wpAnyH_take (i := 12) (v := undef) rfl (by kernel_rfl) (by kernel_rfl) (by kernel_rfl) (fun _ _ _ h => h) (Or.inr ⟨by kernel_rfl, rfl⟩) HL_ ?_
      simp only [Act.put, List.getElem_toArray, List.getElem_cons_succ, List.getElem_cons_zero, List.setIfInBounds_toArray, List.set_cons_zero, List.set_cons_succ]
      refine wpAnyH_take (i := 13) (v := undef) rfl (by kernel_rfl) (by kernel_rfl) (by kernel_rfl) (fun _ _ _ h => h) (Or.inr ⟨by kernel_rfl, rfl⟩) HL_ ?_
      simp only [Act.put, List.getElem_toArray, List.getElem_cons_succ, List.getElem_cons_zero, List.setIfInBounds_toArray, List.set_cons_zero, List.set_cons_succ]
      refine wpAnyH_take (i := 14) (v := undef) rfl (by kernel_rfl) (by kernel_rfl) (by kernel_rfl) (fun _ _ _ h => h) (Or.inr ⟨by kernel_rfl, rfl⟩) HL_ ?_
      simp only [Act.put, List.getElem_toArray, List.getElem_cons_succ, List.getElem_cons_zero, List.setIfInBounds_toArray, List.set_cons_zero, List.set_cons_succ]
      refine wpAnyH_take (i := 15) (v := undef) rfl (by kernel_rfl) (by kernel_rfl) (by kernel_rfl) (fun _ _ _ h => h) (Or.inr ⟨by kernel_rfl, rfl⟩) HL_ ?_
      simp only [Act.put, List.getElem_toArray, List.getElem_cons_succ, List.getElem_cons_zero, List.setIfInBounds_toArray, List.set_cons_zero, List.set_cons_succ]
      refine wpAnyH_take (i := 16) (v := .bool false) rfl (by kernel_rfl) (by kernel_rfl) (by kernel_rfl) (fun _ _ _ h => h) (Or.inl ⟨by kernel_rfl, ?_⟩) HL_ ?_
      · rintro Wl ⟨s0, s1, s2, s3, s4, s5, s6⟩
        go_simp
      simp only [Act.put, List.getElem_toArray, List.getElem_cons_succ, List.getElem_cons_zero, List.setIfInBounds_toArray, List.set_cons_zero, List.set_cons_succ]
      refine wpAnyH_take (i := 17) (v := .bool false) rfl (by kernel_rfl) (by kernel_rfl) (by kernel_rfl) (fun _ _ _ h => h) (Or.inl ⟨by kernel_rfl, ?_⟩) HL_ ?_
      · rintro Wl ⟨s0, s1, s2, s3, s4, s5, s6⟩
        go_simp
      simp only [Act.put, List.getElem_toArray, List.getElem_cons_succ, List.getElem_cons_zero, List.setIfInBounds_toArray, List.set_cons_zero, List.set_cons_succ]
      refine wpAnyH_done (by kernel_rfl) ?_ _
      clear HL_ kp
      generalize wq1_ = wh at *
      have HOW3 := Lib.hid (om_below HOW2.out hB)
      have HW9 := Lib.hid (HW.out.trans ((on_below HB.out hB).mono hWn))
      replace q0 := keepc hB q0
      clear hB q1 q2 q3 q4 q5 q6
      have how2 := HOW3.out
      go_wp2_with (first | (at_mapUpdate; refine wpList_mapUpdate_own _ rfl _ _ _ 77 rfl 3 3 keyInt Try.underlying77 (plainElem (H := Unit) Try.prog 3) w.heap.size k _ rfl how2 (by unfold maxLen; omega) _ _ _ rfl rfl hkey _ [] (plainElem_int Try.underlying3 (wf_of ⟨by omega, by omega⟩)) ?_; intro w9 hown1 hgrow1) | go_in)
      go_roundw
      case rel => exact ⟨k + 1, hlt, int_of (by first | rfl | exact w1_ | exact w2_), ⟨(fun j hj => by have e : j = k := (by omega); subst e; rw [HU.out]; exact KPF.out), (fun j hj => by omega)⟩, (by have e : mpD (H := Unit) L (k + 1) = (mpD L k).put (.int .i64 (gdP L k).id) (.lit (.int .i64 (k : Int))) := rfl; rw [e, HU.out]; exact hown1), HW9.out.grown hgrow1 HW9.out.size (fun j hj => by cases hj; exact Nat.le_refl _)⟩
      case measure => simp [intOf, w1_, w2_]; clear w1_ w2_; omega
    obtain ⟨k1, hk1⟩ : ∃ k1, k = k1 + 1 := ⟨k - 1, by omega⟩
    obtain ⟨b1, o1, eA, d0, d1, d2, d3, d4, d5, d6⟩ := HL.out.below HW.out k1 (by omega)
    injection eA with eA
    injection eA with eb eo _
    subst eb eo
    have HR := Lib.hid (show ∃ u, gdP L k1 = u from ⟨_, rfl⟩)
    obtain ⟨u, hu⟩ := HR.out
    clear HR
    rw [hu] at d0 d1 d2 d3 d4 d5 d6
    have HR := Lib.hid hu
    clear hu
    obtain ⟨ri, ra, rb, rx, ry, rz, rk⟩ := u
    dsimp only at d0 d1 d2 d3 d4 d5 d6
    have hz : (0 : Int) < (k : Int) := by omega
    have z1 := wr_down hk1 (by omega)
    have z2 := wr_down' hk1 (by omega)
    have z3 : (k1 : Int) < L.length := by omega
    have z4 : (k : Int) < L.length := by omega
    have HK1 := Lib.hid hk1
    clear hk1
    cases hq : bhd ⟨pi, pa, pb, px, py, pz, pk⟩ ⟨ri, ra, rb, rx, ry, rz, rk⟩
    · have KQ := Lib.hid (bhd_is ⟨pi, pa, pb, px, py, pz, pk⟩ ⟨ri, ra, rb, rx, ry, rz, rk⟩ false hq)
      have KQF := Lib.hid hq
      clear hq
      have HB := Lib.hid (Below.refl wr.heap.size wr)
      go_wp2_with fail
      have q0 : World.cell? (wr.alloc (.cells #[.int .i64 pi, .int .i64 pa, .int .i64 pb, .int .i64 px, .int .i64 py, .int .i64 pz, .int .i64 pk] 28)) ⟨wr.heap.size, 0, none⟩ = some (.int .i64 pi) := by simp [go_sem]
      have q1 : World.cell? (wr.alloc (.cells #[.int .i64 pi, .int .i64 pa, .int .i64 pb, .int .i64 px, .int .i64 py, .int .i64 pz, .int .i64 pk] 28)) ⟨wr.heap.size, 1, none⟩ = some (.int .i64 pa) := by simp [go_sem]
      have q2 : World.cell? (wr.alloc (.cells #[.int .i64 pi, .int .i64 pa, .int .i64 pb, .int .i64 px, .int .i64 py, .int .i64 pz, .int .i64 pk] 28)) ⟨wr.heap.size, 2, none⟩ = some (.int .i64 pb) := by simp [go_sem]
      have q3 : World.cell? (wr.alloc (.cells #[.int .i64 pi, .int .i64 pa, .int .i64 pb, .int .i64 px, .int .i64 py, .int .i64 pz, .int .i64 pk] 28)) ⟨wr.heap.size, 3, none⟩ = some (.int .i64 px) := by simp [go_sem]
      have q4 : World.cell? (wr.alloc (.cells #[.int .i64 pi, .int .i64 pa, .int .i64 pb, .int .i64 px, .int .i64 py, .int .i64 pz, .int .i64 pk] 28)) ⟨wr.heap.size, 4, none⟩ = some (.int .i64 py) := by simp [go_sem]
      have q5 : World.cell? (wr.alloc (.cells #[.int .i64 pi, .int .i64 pa, .int .i64 pb, .int .i64 px, .int .i64 py, .int .i64 pz, .int .i64 pk] 28)) ⟨wr.heap.size, 5, none⟩ = some (.int .i64 pz) := by simp [go_sem]
      have q6 : World.cell? (wr.alloc (.cells #[.int .i64 pi, .int .i64 pa, .int .i64 pb, .int .i64 px, .int .i64 py, .int .i64 pz, .int .i64 pk] 28)) ⟨wr.heap.size, 6, none⟩ = some (.int .i64 pk) := by simp [go_sem]
      have hb : Below wr.heap.size wr (wr.alloc (.cells #[.int .i64 pi, .int .i64 pa, .int .i64 pb, .int .i64 px, .int .i64 py, .int .i64 pz, .int .i64 pk] 28)) := below_new _ _
      generalize wr.alloc (.cells #[.int .i64 pi, .int .i64 pa, .int .i64 pb, .int .i64 px, .int .i64 py, .int .i64 pz, .int .i64 pk] 28) = w2 at *
      have HOW2 := Lib.hid (om_below HOW.out hb)
      replace HB := Lib.hid (on_below HB.out hb)
      replace e0 := keepc hb e0
      replace e1 := keepc hb e1
      replace e2 := keepc hb e2
      replace e3 := keepc hb e3
      replace e4 := keepc hb e4
      replace e5 := keepc hb e5
      replace e6 := keepc hb e6
      replace d0 := keepc hb d0
      replace d1 := keepc hb d1
      replace d2 := keepc hb d2
      replace d3 := keepc hb d3
      replace d4 := keepc hb d4
      replace d5 := keepc hb d5
      replace d6 := keepc hb d6
      clear hb
      have kp : ∀ {Wq_ : World}, Below w2.heap.size w2 Wq_ → Wq_.cell? ⟨wr.heap.size, 0, none⟩ = some (.int .i64 pi) ∧ Wq_.cell? ⟨wr.heap.size, 1, none⟩ = some (.int .i64 pa) ∧ Wq_.cell? ⟨wr.heap.size, 2, none⟩ = some (.int .i64 pb) ∧ Wq_.cell? ⟨wr.heap.size, 3, none⟩ = some (.int .i64 px) ∧ Wq_.cell? ⟨wr.heap.size, 4, none⟩ = some (.int .i64 py) ∧ Wq_.cell? ⟨wr.heap.size, 5, none⟩ = some (.int .i64 pz) ∧ Wq_.cell? ⟨wr.heap.size, 6, none⟩ = some (.int .i64 pk) ∧ Wq_.cell? ⟨b0, o0 + k1 * 7, none⟩ = some (.int .i64 ri) ∧ Wq_.cell? ⟨b0, o0 + k1 * 7 + 1, none⟩ = some (.int .i64 ra) ∧ Wq_.cell? ⟨b0, o0 + k1 * 7 + 2, none⟩ = some (.int .i64 rb) ∧ Wq_.cell? ⟨b0, o0 + k1 * 7 + 3, none⟩ = some (.int .i64 rx) ∧ Wq_.cell? ⟨b0, o0 + k1 * 7 + 4, none⟩ = some (.int .i64 ry) ∧ Wq_.cell? ⟨b0, o0 + k1 * 7 + 5, none⟩ = some (.int .i64 rz) ∧ Wq_.cell? ⟨b0, o0 + k1 * 7 + 6, none⟩ = some (.int .i64 rk) := fun h => ⟨keepc h q0, keepc h q1, keepc h q2, keepc h q3, keepc h q4, keepc h q5, keepc h q6, keepc h d0, keepc h d1, keepc h d2, keepc h d3, keepc h d4, keepc h d5, keepc h d6⟩
      have hB : Below w2.heap.size w2 w2.drew := (Below.refl _ _).drew
      refine wp_region_held_drew (S := fun Wq_ => Wq_.cell? ⟨wr.heap.size, 0, none⟩ = some (.int .i64 pi) ∧ Wq_.cell? ⟨wr.heap.size, 1, none⟩ = some (.int .i64 pa) ∧ Wq_.cell? ⟨wr.heap.size, 2, none⟩ = some (.int .i64 pb) ∧ Wq_.cell? ⟨wr.heap.size, 3, none⟩ = some (.int .i64 px) ∧ Wq_.cell? ⟨wr.heap.size, 4, none⟩ = some (.int .i64 py) ∧ Wq_.cell? ⟨wr.heap.size, 5, none⟩ = some (.int .i64 pz) ∧ Wq_.cell? ⟨wr.heap.size, 6, none⟩ = some (.int .i64 pk) ∧ Wq_.cell? ⟨b0, o0 + k1 * 7, none⟩ = some (.int .i64 ri) ∧ Wq_.cell? ⟨b0, o0 + k1 * 7 + 1, none⟩ = some (.int .i64 ra) ∧ Wq_.cell? ⟨b0, o0 + k1 * 7 + 2, none⟩ = some (.int .i64 rb) ∧ Wq_.cell? ⟨b0, o0 + k1 * 7 + 3, none⟩ = some (.int .i64 rx) ∧ Wq_.cell? ⟨b0, o0 + k1 * 7 + 4, none⟩ = some (.int .i64 ry) ∧ Wq_.cell? ⟨b0, o0 + k1 * 7 + 5, none⟩ = some (.int .i64 rz) ∧ Wq_.cell? ⟨b0, o0 + k1 * 7 + 6, none⟩ = some (.int .i64 rk)) (by kernel_rfl) (kp (Below.refl _ _).drew) fun HL_ => ?_
      generalize w2.drew = wq0_ at *
      refine wpAnyH_take (i := 0) (v := .agg #[.int .i64 pi, .int .i64 pa, .int .i64 pb, .int .i64 px, .int .i64 py, .int .i64 pz, .int .i64 pk]) rfl (by kernel_rfl) (by kernel_rfl) (by kernel_rfl) (fun _ _ _ h => h) (Or.inl ⟨by kernel_rfl, ?_⟩) HL_ ?_
      · rintro Wl ⟨s0, s1, s2, s3, s4, s5, s6, s7, s8, s9, s10, s11, s12, s13⟩
        go_simp
      simp only [Act.put, List.getElem_toArray, List.getElem_cons_succ, List.getElem_cons_zero, List.setIfInBounds_toArray, List.set_cons_zero, List.set_cons_succ]
      refine wpAnyH_ready (rs := [1]) (by kernel_rfl) (by simp) ?_
      refine AllReadyH.cons (o := _) rfl (fun K hK => ?_) AllReadyH.nil
      go_simp
      with_reducible refine (KP.out _).mono ?_
      rintro e_ wq1_ ⟨rfl, hb⟩
      replace hB := on_below hB hb
      clear hb
      refine hK.out _ _ (kp hB) fun HL_ => ?_
      clear hK K
      refine wpAnyH_take (i := 2) (v := .bool false) rfl (by kernel_rfl) (by kernel_rfl) (by kernel_rfl) (fun _ _ _ h => h) (Or.inl ⟨by kernel_rfl, ?_⟩) HL_ ?_
      · rintro Wl ⟨s0, s1, s2, s3, s4, s5, s6, s7, s8, s9, s10, s11, s12, s13⟩
        go_simp
      simp only [Act.put, List.getElem_toArray, List.getElem_cons_succ, List.getElem_cons_zero, List.setIfInBounds_toArray, List.set_cons_zero, List.set_cons_succ]
      refine wpAnyH_take (i := 3) (v := .bool false) rfl (by kernel_rfl) (by kernel_rfl) (by kernel_rfl) (fun _ _ _ h => h) (Or.inl ⟨by kernel_rfl, ?_⟩) HL_ ?_
      · rintro Wl ⟨s0, s1, s2, s3, s4, s5, s6, s7, s8, s9, s10, s11, s12, s13⟩
        go_simp
      simp only [Act.put, List.getElem_toArray, List.getElem_cons_succ, List.getElem_cons_zero, List.setIfInBounds_toArray, List.set_cons_zero, List.set_cons_succ]
      refine wpAnyH_take (i := 4) (v := .int .i64 (k : Int)) rfl (by kernel_rfl) (by kernel_rfl) (by kernel_rfl) (fun _ _ _ h => h) (Or.inl ⟨by kernel_rfl, ?_⟩) HL_ ?_
      · rintro Wl ⟨s0, s1, s2, s3, s4, s5, s6, s7, s8, s9, s10, s11, s12, s13⟩
        go_simp
      simp only [Act.put, List.getElem_toArray, List.getElem_cons_succ, List.getElem_cons_zero, List.setIfInBounds_toArray, List.set_cons_zero, List.set_cons_succ]
      refine wpAnyH_take (i := 5) (v := .bool true) rfl (by kernel_rfl) (by kernel_rfl) (by kernel_rfl) (fun _ _ _ h => h) (Or.inl ⟨by kernel_rfl, ?_⟩) HL_ ?_
      · rintro Wl ⟨s0, s1, s2, s3, s4, s5, s6, s7, s8, s9, s10, s11, s12, s13⟩
        go_simp
      simp only [Act.put, List.getElem_toArray, List.getElem_cons_succ, List.getElem_cons_zero, List.setIfInBounds_toArray, List.set_cons_zero, List.set_cons_succ]
      refine wpAnyH_take (i := 6) (v := .bool true) rfl (by kernel_rfl) (by kernel_rfl) (by kernel_rfl) (fun _ _ _ h => h) (Or.inl ⟨by kernel_rfl, ?_⟩) HL_ ?_
      · rintro Wl ⟨s0, s1, s2, s3, s4, s5, s6, s7, s8, s9, s10, s11, s12, s13⟩
        go_simp
      simp only [Act.put, List.getElem_toArray, List.getElem_cons_succ, List.getElem_cons_zero, List.setIfInBounds_toArray, List.set_cons_zero, List.set_cons_succ]
      refine wpAnyH_take (i := 7) (v := .func (.func 54) #[] #[]) rfl (by kernel_rfl) (by kernel_rfl) (by kernel_rfl) (fun _ _ _ h => h) (Or.inl ⟨by kernel_rfl, ?_⟩) HL_ ?_
      · rintro Wl ⟨s0, s1, s2, s3, s4, s5, s6, s7, s8, s9, s10, s11, s12, s13⟩
        go_simp
      simp only [Act.put, List.getElem_toArray, List.getElem_cons_succ, List.getElem_cons_zero, List.setIfInBounds_toArray, List.set_cons_zero, List.set_cons_succ]
      refine wpAnyH_take (i := 8) (v := .agg #[.int .i64 pi, .int .i64 pa, .int .i64 pb, .int .i64 px, .int .i64 py, .int .i64 pz, .int .i64 pk]) rfl (by kernel_rfl) (by kernel_rfl) (by kernel_rfl) (fun _ _ _ h => h) (Or.inl ⟨by kernel_rfl, ?_⟩) HL_ ?_
      · rintro Wl ⟨s0, s1, s2, s3, s4, s5, s6, s7, s8, s9, s10, s11, s12, s13⟩
        go_simp
      simp only [Act.put, List.getElem_toArray, List.getElem_cons_succ, List.getElem_cons_zero, List.setIfInBounds_toArray, List.set_cons_zero, List.set_cons_succ]
      refine wpAnyH_take (i := 9) (v := .slice (some ⟨b0, o0, none⟩) L.length C) rfl (by kernel_rfl) (by kernel_rfl) (by kernel_rfl) (fun _ _ _ h => h) (Or.inl ⟨by kernel_rfl, ?_⟩) HL_ ?_
      · rintro Wl ⟨s0, s1, s2, s3, s4, s5, s6, s7, s8, s9, s10, s11, s12, s13⟩
        go_simp
      simp only [Act.put, List.getElem_toArray, List.getElem_cons_succ, List.getElem_cons_zero, List.setIfInBounds_toArray, List.set_cons_zero, List.set_cons_succ]
      refine wpAnyH_take (i := 10) (v := .int .i64 (k : Int)) rfl (by kernel_rfl) (by kernel_rfl) (by kernel_rfl) (fun _ _ _ h => h) (Or.inl ⟨by kernel_rfl, ?_⟩) HL_ ?_
      · rintro Wl ⟨s0, s1, s2, s3, s4, s5, s6, s7, s8, s9, s10, s11, s12, s13⟩
        go_simp
      simp only [Act.put, List.getElem_toArray, List.getElem_cons_succ, List.getElem_cons_zero, List.setIfInBounds_toArray, List.set_cons_zero, List.set_cons_succ]
      refine wpAnyH_take (i := 11) (v := .int .i64 (k1 : Int)) rfl (by kernel_rfl) (by kernel_rfl) (by kernel_rfl) (fun _ _ _ h => h) (Or.inl ⟨by kernel_rfl, ?_⟩) HL_ ?_
      · rintro Wl ⟨s0, s1, s2, s3, s4, s5, s6, s7, s8, s9, s10, s11, s12, s13⟩
        go_simp
      simp only [Act.put, List.getElem_toArray, List.getElem_cons_succ, List.getElem_cons_zero, List.setIfInBounds_toArray, List.set_cons_zero, List.set_cons_succ]
      refine wpAnyH_take (i := 12) (v := .pointer (some ⟨b0, o0 + k1 * 7, none⟩)) rfl (by kernel_rfl) (by kernel_rfl) (by kernel_rfl) (fun _ _ _ h => h) (Or.inl ⟨by kernel_rfl, ?_⟩) HL_ ?_
      · rintro Wl ⟨s0, s1, s2, s3, s4, s5, s6, s7, s8, s9, s10, s11, s12, s13⟩
        go_simp
      simp only [Act.put, List.getElem_toArray, List.getElem_cons_succ, List.getElem_cons_zero, List.setIfInBounds_toArray, List.set_cons_zero, List.set_cons_succ]
      refine wpAnyH_take (i := 13) (v := .agg #[.int .i64 ri, .int .i64 ra, .int .i64 rb, .int .i64 rx, .int .i64 ry, .int .i64 rz, .int .i64 rk]) rfl (by kernel_rfl) (by kernel_rfl) (by kernel_rfl) (fun _ _ _ h => h) (Or.inl ⟨by kernel_rfl, ?_⟩) HL_ ?_
      · rintro Wl ⟨s0, s1, s2, s3, s4, s5, s6, s7, s8, s9, s10, s11, s12, s13⟩
        go_simp
      simp only [Act.put, List.getElem_toArray, List.getElem_cons_succ, List.getElem_cons_zero, List.setIfInBounds_toArray, List.set_cons_zero, List.set_cons_succ]
      refine wpAnyH_ready (rs := [14]) (by kernel_rfl) (by simp) ?_
      refine AllReadyH.cons (o := _) rfl (fun K hK => ?_) AllReadyH.nil
      go_simp
      with_reducible refine (KQ.out _).mono ?_
      rintro e_ wq2_ ⟨rfl, hb⟩
      replace hB := on_below hB hb
      clear hb
      refine hK.out _ _ (kp hB) fun HL_ => ?_
      clear hK K
      refine wpAnyH_take (i := 15) (v := .bool true) rfl (by kernel_rfl) (by kernel_rfl) (by kernel_rfl) (fun _ _ _ h => h) (Or.inl ⟨by kernel_rfl, ?_⟩) HL_ ?_
      · rintro Wl ⟨s0, s1, s2, s3, s4, s5, s6, s7, s8, s9, s10, s11, s12, s13⟩
        go_simp
      simp only [Act.put, List.getElem_toArray, List.getElem_cons_succ, List.getElem_cons_zero, List.setIfInBounds_toArray, List.set_cons_zero, List.set_cons_succ]
      refine wpAnyH_take (i := 16) (v := .bool true) rfl (by kernel_rfl) (by kernel_rfl) (by kernel_rfl) (fun _ _ _ h => h) (Or.inl ⟨by kernel_rfl, ?_⟩) HL_ ?_
      · rintro Wl ⟨s0, s1, s2, s3, s4, s5, s6, s7, s8, s9, s10, s11, s12, s13⟩
        go_simp
      simp only [Act.put, List.getElem_toArray, List.getElem_cons_succ, List.getElem_cons_zero, List.setIfInBounds_toArray, List.set_cons_zero, List.set_cons_succ]
      refine wpAnyH_take (i := 17) (v := .bool true) rfl (by kernel_rfl) (by kernel_rfl) (by kernel_rfl) (fun _ _ _ h => h) (Or.inl ⟨by kernel_rfl, ?_⟩) HL_ ?_
      · rintro Wl ⟨s0, s1, s2, s3, s4, s5, s6, s7, s8, s9, s10, s11, s12, s13⟩
        go_simp
      simp only [Act.put, List.getElem_toArray, List.getElem_cons_succ, List.getElem_cons_zero, List.setIfInBounds_toArray, List.set_cons_zero, List.set_cons_succ]
      refine wpAnyH_done (by kernel_rfl) ?_ _
      clear HL_ kp
      generalize wq2_ = wh at *
      go_wp2_with fail
      go_ret2
      exact ⟨.inl ⟨none, rfl, fun h => by have h1 := h.rise k1 (by have := HK1.out; omega); rw [← HK1.out, HU.out, HR.out, KQF.out] at h1; cases h1⟩, HW.out.trans ((on_below HB.out hB).mono hWn)⟩
    · have KQ := Lib.hid (bhd_is ⟨pi, pa, pb, px, py, pz, pk⟩ ⟨ri, ra, rb, rx, ry, rz, rk⟩ true hq)
      have KQF := Lib.hid hq
      clear hq
      have HB := Lib.hid (Below.refl wr.heap.size wr)
      go_wp2_with fail
      have q0 : World.cell? (wr.alloc (.cells #[.int .i64 pi, .int .i64 pa, .int .i64 pb, .int .i64 px, .int .i64 py, .int .i64 pz, .int .i64 pk] 28)) ⟨wr.heap.size, 0, none⟩ = some (.int .i64 pi) := by simp [go_sem]
      have q1 : World.cell? (wr.alloc (.cells #[.int .i64 pi, .int .i64 pa, .int .i64 pb, .int .i64 px, .int .i64 py, .int .i64 pz, .int .i64 pk] 28)) ⟨wr.heap.size, 1, none⟩ = some (.int .i64 pa) := by simp [go_sem]
      have q2 : World.cell? (wr.alloc (.cells #[.int .i64 pi, .int .i64 pa, .int .i64 pb, .int .i64 px, .int .i64 py, .int .i64 pz, .int .i64 pk] 28)) ⟨wr.heap.size, 2, none⟩ = some (.int .i64 pb) := by simp [go_sem]
      have q3 : World.cell? (wr.alloc (.cells #[.int .i64 pi, .int .i64 pa, .int .i64 pb, .int .i64 px, .int .i64 py, .int .i64 pz, .int .i64 pk] 28)) ⟨wr.heap.size, 3, none⟩ = some (.int .i64 px) := by simp [go_sem]
      have q4 : World.cell? (wr.alloc (.cells #[.int .i64 pi, .int .i64 pa, .int .i64 pb, .int .i64 px, .int .i64 py, .int .i64 pz, .int .i64 pk] 28)) ⟨wr.heap.size, 4, none⟩ = some (.int .i64 py) := by simp [go_sem]
      have q5 : World.cell? (wr.alloc (.cells #[.int .i64 pi, .int .i64 pa, .int .i64 pb, .int .i64 px, .int .i64 py, .int .i64 pz, .int .i64 pk] 28)) ⟨wr.heap.size, 5, none⟩ = some (.int .i64 pz) := by simp [go_sem]
      have q6 : World.cell? (wr.alloc (.cells #[.int .i64 pi, .int .i64 pa, .int .i64 pb, .int .i64 px, .int .i64 py, .int .i64 pz, .int .i64 pk] 28)) ⟨wr.heap.size, 6, none⟩ = some (.int .i64 pk) := by simp [go_sem]
      have hb : Below wr.heap.size wr (wr.alloc (.cells #[.int .i64 pi, .int .i64 pa, .int .i64 pb, .int .i64 px, .int .i64 py, .int .i64 pz, .int .i64 pk] 28)) := below_new _ _
      generalize wr.alloc (.cells #[.int .i64 pi, .int .i64 pa, .int .i64 pb, .int .i64 px, .int .i64 py, .int .i64 pz, .int .i64 pk] 28) = w2 at *
      have HOW2 := Lib.hid (om_below HOW.out hb)
      replace HB := Lib.hid (on_below HB.out hb)
      replace e0 := keepc hb e0
      replace e1 := keepc hb e1
      replace e2 := keepc hb e2
      replace e3 := keepc hb e3
      replace e4 := keepc hb e4
      replace e5 := keepc hb e5
      replace e6 := keepc hb e6
      replace d0 := keepc hb d0
      replace d1 := keepc hb d1
      replace d2 := keepc hb d2
      replace d3 := keepc hb d3
      replace d4 := keepc hb d4
      replace d5 := keepc hb d5
      replace d6 := keepc hb d6
      clear hb
      have kp : ∀ {Wq_ : World}, Below w2.heap.size w2 Wq_ → Wq_.cell? ⟨wr.heap.size, 0, none⟩ = some (.int .i64 pi) ∧ Wq_.cell? ⟨wr.heap.size, 1, none⟩ = some (.int .i64 pa) ∧ Wq_.cell? ⟨wr.heap.size, 2, none⟩ = some (.int .i64 pb) ∧ Wq_.cell? ⟨wr.heap.size, 3, none⟩ = some (.int .i64 px) ∧ Wq_.cell? ⟨wr.heap.size, 4, none⟩ = some (.int .i64 py) ∧ Wq_.cell? ⟨wr.heap.size, 5, none⟩ = some (.int .i64 pz) ∧ Wq_.cell? ⟨wr.heap.size, 6, none⟩ = some (.int .i64 pk) ∧ Wq_.cell? ⟨b0, o0 + k1 * 7, none⟩ = some (.int .i64 ri) ∧ Wq_.cell? ⟨b0, o0 + k1 * 7 + 1, none⟩ = some (.int .i64 ra) ∧ Wq_.cell? ⟨b0, o0 + k1 * 7 + 2, none⟩ = some (.int .i64 rb) ∧ Wq_.cell? ⟨b0, o0 + k1 * 7 + 3, none⟩ = some (.int .i64 rx) ∧ Wq_.cell? ⟨b0, o0 + k1 * 7 + 4, none⟩ = some (.int .i64 ry) ∧ Wq_.cell? ⟨b0, o0 + k1 * 7 + 5, none⟩ = some (.int .i64 rz) ∧ Wq_.cell? ⟨b0, o0 + k1 * 7 + 6, none⟩ = some (.int .i64 rk) := fun h => ⟨keepc h q0, keepc h q1, keepc h q2, keepc h q3, keepc h q4, keepc h q5, keepc h q6, keepc h d0, keepc h d1, keepc h d2, keepc h d3, keepc h d4, keepc h d5, keepc h d6⟩
      have hB : Below w2.heap.size w2 w2.drew := (Below.refl _ _).drew
      refine wp_region_held_drew (S := fun Wq_ => Wq_.cell? ⟨wr.heap.size, 0, none⟩ = some (.int .i64 pi) ∧ Wq_.cell? ⟨wr.heap.size, 1, none⟩ = some (.int .i64 pa) ∧ Wq_.cell? ⟨wr.heap.size, 2, none⟩ = some (.int .i64 pb) ∧ Wq_.cell? ⟨wr.heap.size, 3, none⟩ = some (.int .i64 px) ∧ Wq_.cell? ⟨wr.heap.size, 4, none⟩ = some (.int .i64 py) ∧ Wq_.cell? ⟨wr.heap.size, 5, none⟩ = some (.int .i64 pz) ∧ Wq_.cell? ⟨wr.heap.size, 6, none⟩ = some (.int .i64 pk) ∧ Wq_.cell? ⟨b0, o0 + k1 * 7, none⟩ = some (.int .i64 ri) ∧ Wq_.cell? ⟨b0, o0 + k1 * 7 + 1, none⟩ = some (.int .i64 ra) ∧ Wq_.cell? ⟨b0, o0 + k1 * 7 + 2, none⟩ = some (.int .i64 rb) ∧ Wq_.cell? ⟨b0, o0 + k1 * 7 + 3, none⟩ = some (.int .i64 rx) ∧ Wq_.cell? ⟨b0, o0 + k1 * 7 + 4, none⟩ = some (.int .i64 ry) ∧ Wq_.cell? ⟨b0, o0 + k1 * 7 + 5, none⟩ = some (.int .i64 rz) ∧ Wq_.cell? ⟨b0, o0 + k1 * 7 + 6, none⟩ = some (.int .i64 rk)) (by kernel_rfl) (kp (Below.refl _ _).drew) fun HL_ => ?_
      generalize w2.drew = wq0_ at *
      refine wpAnyH_take (i := 0) (v := .agg #[.int .i64 pi, .int .i64 pa, .int .i64 pb, .int .i64 px, .int .i64 py, .int .i64 pz, .int .i64 pk]) rfl (by kernel_rfl) (by kernel_rfl) (by kernel_rfl) (fun _ _ _ h => h) (Or.inl ⟨by kernel_rfl, ?_⟩) HL_ ?_
      · rintro Wl ⟨s0, s1, s2, s3, s4, s5, s6, s7, s8, s9, s10, s11, s12, s13⟩
        go_simp
      simp only [Act.put, List.getElem_toArray, List.getElem_cons_succ, List.getElem_cons_zero, List.setIfInBounds_toArray, List.set_cons_zero, List.set_cons_succ]
      refine wpAnyH_ready (rs := [1]) (by kernel_rfl) (by simp) ?_
      refine AllReadyH.cons (o := _) rfl (fun K hK => ?_) AllReadyH.nil
      go_simp
      with_reducible refine (KP.out _).mono ?_
      rintro e_ wq1_ ⟨rfl, hb⟩
      replace hB := on_below hB hb
      clear hb
      refine hK.out _ _ (kp hB) fun HL_ => ?_
      clear hK K
      refine wpAnyH_take (i := 2) (v := .bool false) rfl (by kernel_rfl) (by kernel_rfl) (by kernel_rfl) (fun _ _ _ h => h) (Or.inl ⟨by kernel_rfl, ?_⟩) HL_ ?_
      · rintro Wl ⟨s0, s1, s2, s3, s4, s5, s6, s7, s8, s9, s10, s11, s12, s13⟩
        go_simp
      simp only [Act.put, List.getElem_toArray, List.getElem_cons_succ, List.getElem_cons_zero, List.setIfInBounds_toArray, List.set_cons_zero, List.set_cons_succ]
      refine wpAnyH_take (i := 3) (v := .bool false) rfl (by kernel_rfl) (by kernel_rfl) (by kernel_rfl) (fun _ _ _ h => h) (Or.inl ⟨by kernel_rfl, ?_⟩) HL_ ?_
      · rintro Wl ⟨s0, s1, s2, s3, s4, s5, s6, s7, s8, s9, s10, s11, s12, s13⟩
        go_simp
      simp only [Act.put, List.getElem_toArray, List.getElem_cons_succ, List.getElem_cons_zero, List.setIfInBounds_toArray, List.set_cons_zero, List.set_cons_succ]
      refine wpAnyH_take (i := 4) (v := .int .i64 (k : Int)) rfl (by kernel_rfl) (by kernel_rfl) (by kernel_rfl) (fun _ _ _ h => h) (Or.inl ⟨by kernel_rfl, ?_⟩) HL_ ?_
      · rintro Wl ⟨s0, s1, s2, s3, s4, s5, s6, s7, s8, s9, s10, s11, s12, s13⟩
        go_simp
      simp only [Act.put, List.getElem_toArray, List.getElem_cons_succ, List.getElem_cons_zero, List.setIfInBounds_toArray, List.set_cons_zero, List.set_cons_succ]
      refine wpAnyH_take (i := 5) (v := .bool true) rfl (by kernel_rfl) (by kernel_rfl) (by kernel_rfl) (fun _ _ _ h => h) (Or.inl ⟨by kernel_rfl, ?_⟩) HL_ ?_
      · rintro Wl ⟨s0, s1, s2, s3, s4, s5, s6, s7, s8, s9, s10, s11, s12, s13⟩
        go_simp
      simp only [Act.put, List.getElem_toArray, List.getElem_cons_succ, List.getElem_cons_zero, List.setIfInBounds_toArray, List.set_cons_zero, List.set_cons_succ]
      refine wpAnyH_take (i := 6) (v := .bool true) rfl (by kernel_rfl) (by kernel_rfl) (by kernel_rfl) (fun _ _ _ h => h) (Or.inl ⟨by kernel_rfl, ?_⟩) HL_ ?_
      · rintro Wl ⟨s0, s1, s2, s3, s4, s5, s6, s7, s8, s9, s10, s11, s12, s13⟩
        go_simp
      simp only [Act.put, List.getElem_toArray, List.getElem_cons_succ, List.getElem_cons_zero, List.setIfInBounds_toArray, List.set_cons_zero, List.set_cons_succ]
      refine wpAnyH_take (i := 7) (v := .func (.func 54) #[] #[]) rfl (by kernel_rfl) (by kernel_rfl) (by kernel_rfl) (fun _ _ _ h => h) (Or.inl ⟨by kernel_rfl, ?_⟩) HL_ ?_
      · rintro Wl ⟨s0, s1, s2, s3, s4, s5, s6, s7, s8, s9, s10, s11, s12, s13⟩
        go_simp
      simp only [Act.put, List.getElem_toArray, List.getElem_cons_succ, List.getElem_cons_zero, List.setIfInBounds_toArray, List.set_cons_zero, List.set_cons_succ]
      refine wpAnyH_take (i := 8) (v := .agg #[.int .i64 pi, .int .i64 pa, .int .i64 pb, .int .i64 px, .int .i64 py, .int .i64 pz, .int .i64 pk]) rfl (by kernel_rfl) (by kernel_rfl) (by kernel_rfl) (fun _ _ _ h => h) (Or.inl ⟨by kernel_rfl, ?_⟩) HL_ ?_
      · rintro Wl ⟨s0, s1, s2, s3, s4, s5, s6, s7, s8, s9, s10, s11, s12, s13⟩
        go_simp
      simp only [Act.put, List.getElem_toArray, List.getElem_cons_succ, List.getElem_cons_zero, List.setIfInBounds_toArray, List.set_cons_zero, List.set_cons_succ]
      refine wpAnyH_take (i := 9) (v := .slice (some ⟨b0, o0, none⟩) L.length C) rfl (by kernel_rfl) (by kernel_rfl) (by kernel_rfl) (fun _ _ _ h => h) (Or.inl ⟨by kernel_rfl, ?_⟩) HL_ ?_
      · rintro Wl ⟨s0, s1, s2, s3, s4, s5, s6, s7, s8, s9, s10, s11, s12, s13⟩
        go_simp
      simp only [Act.put, List.getElem_toArray, List.getElem_cons_succ, List.getElem_cons_zero, List.setIfInBounds_toArray, List.set_cons_zero, List.set_cons_succ]
      refine wpAnyH_take (i := 10) (v := .int .i64 (k : Int)) rfl (by kernel_rfl) (by kernel_rfl) (by kernel_rfl) (fun _ _ _ h => h) (Or.inl ⟨by kernel_rfl, ?_⟩) HL_ ?_
      · rintro Wl ⟨s0, s1, s2, s3, s4, s5, s6, s7, s8, s9, s10, s11, s12, s13⟩
        go_simp
      simp only [Act.put, List.getElem_toArray, List.getElem_cons_succ, List.getElem_cons_zero, List.setIfInBounds_toArray, List.set_cons_zero, List.set_cons_succ]
      refine wpAnyH_take (i := 11) (v := .int .i64 (k1 : Int)) rfl (by kernel_rfl) (by kernel_rfl) (by kernel_rfl) (fun _ _ _ h => h) (Or.inl ⟨by kernel_rfl, ?_⟩) HL_ ?_
      · rintro Wl ⟨s0, s1, s2, s3, s4, s5, s6, s7, s8, s9, s10, s11, s12, s13⟩
        go_simp
      simp only [Act.put, List.getElem_toArray, List.getElem_cons_succ, List.getElem_cons_zero, List.setIfInBounds_toArray, List.set_cons_zero, List.set_cons_succ]
      refine wpAnyH_take (i := 12) (v := .pointer (some ⟨b0, o0 + k1 * 7, none⟩)) rfl (by kernel_rfl) (by kernel_rfl) (by kernel_rfl) (fun _ _ _ h => h) (Or.inl ⟨by kernel_rfl, ?_⟩) HL_ ?_
      · rintro Wl ⟨s0, s1, s2, s3, s4, s5, s6, s7, s8, s9, s10, s11, s12, s13⟩
        go_simp
      simp only [Act.put, List.getElem_toArray, List.getElem_cons_succ, List.getElem_cons_zero, List.setIfInBounds_toArray, List.set_cons_zero, List.set_cons_succ]
      refine wpAnyH_take (i := 13) (v := .agg #[.int .i64 ri, .int .i64 ra, .int .i64 rb, .int .i64 rx, .int .i64 ry, .int .i64 rz, .int .i64 rk]) rfl (by kernel_rfl) (by kernel_rfl) (by kernel_rfl) (fun _ _ _ h => h) (Or.inl ⟨by kernel_rfl, ?_⟩) HL_ ?_
      · rintro Wl ⟨s0, s1, s2, s3, s4, s5, s6, s7, s8, s9, s10, s11, s12, s13⟩
        go_simp
      simp only [Act.put, List.getElem_toArray, List.getElem_cons_succ, List.getElem_cons_zero, List.setIfInBounds_toArray, List.set_cons_zero, List.set_cons_succ]
      refine wpAnyH_ready (rs := [14]) (by kernel_rfl) (by simp) ?_
      refine AllReadyH.cons (o := _) rfl (fun K hK => ?_) AllReadyH.nil
      go_simp
      with_reducible refine (KQ.out _).mono ?_
      rintro e_ wq2_ ⟨rfl, hb⟩
      replace hB := on_below hB hb
      clear hb
      refine hK.out _ _ (kp hB) fun HL_ => ?_
      clear hK K
      refine wpAnyH_take (i := 15) (v := .bool false) rfl (by kernel_rfl) (by kernel_rfl) (by kernel_rfl) (fun _ _ _ h => h) (Or.inl ⟨by kernel_rfl, ?_⟩) HL_ ?_
      · rintro Wl ⟨s0, s1, s2, s3, s4, s5, s6, s7, s8, s9, s10, s11, s12, s13⟩
        go_simp
      simp only [Act.put, List.getElem_toArray, List.getElem_cons_succ, List.getElem_cons_zero, List.setIfInBounds_toArray, List.set_cons_zero, List.set_cons_succ]
      refine wpAnyH_take (i := 16) (v := .bool false) rfl (by kernel_rfl) (by kernel_rfl) (by kernel_rfl) (fun _ _ _ h => h) (Or.inl ⟨by kernel_rfl, ?_⟩) HL_ ?_
      · rintro Wl ⟨s0, s1, s2, s3, s4, s5, s6, s7, s8, s9, s10, s11, s12, s13⟩
        go_simp
      simp only [Act.put, List.getElem_toArray, List.getElem_cons_succ, List.getElem_cons_zero, List.setIfInBounds_toArray, List.set_cons_zero, List.set_cons_succ]
      refine wpAnyH_take (i := 17) (v := .bool false) rfl (by kernel_rfl) (by kernel_rfl) (by kernel_rfl) (fun _ _ _ h => h) (Or.inl ⟨by kernel_rfl, ?_⟩) HL_ ?_
      · rintro Wl ⟨s0, s1, s2, s3, s4, s5, s6, s7, s8, s9, s10, s11, s12, s13⟩
        go_simp
      simp only [Act.put, List.getElem_toArray, List.getElem_cons_succ, List.getElem_cons_zero, List.setIfInBounds_toArray, List.set_cons_zero, List.set_cons_succ]
      refine wpAnyH_done (by kernel_rfl) ?_ _
      clear HL_ kp
      generalize wq2_ = wh at *
      have HOW3 := Lib.hid (om_below HOW2.out hB)
      have HW9 := Lib.hid (HW.out.trans ((on_below HB.out hB).mono hWn))
      replace q0 := keepc hB q0
      clear hB q1 q2 q3 q4 q5 q6
      have how2 := HOW3.out
      go_wp2_with (first | (at_mapUpdate; refine wpList_mapUpdate_own _ rfl _ _ _ 77 rfl 3 3 keyInt Try.underlying77 (plainElem (H := Unit) Try.prog 3) w.heap.size k _ rfl how2 (by unfold maxLen; omega) _ _ _ rfl rfl hkey _ [] (plainElem_int Try.underlying3 (wf_of ⟨by omega, by omega⟩)) ?_; intro w9 hown1 hgrow1) | go_in)
      go_roundw
      case rel => exact ⟨k + 1, hlt, int_of (by first | rfl | exact w1_ | exact w2_), ⟨(fun j hj => by by_cases e : j = k; (subst e; rw [HU.out]; exact KPF.out); exact HK.out.1 j (by omega)), (fun j hj => by by_cases e : j = k1; (subst e; rw [← HK1.out, HU.out, HR.out]; exact KQF.out); exact HK.out.2 j (by have := HK1.out; omega))⟩, (by have e : mpD (H := Unit) L (k + 1) = (mpD L k).put (.int .i64 (gdP L k).id) (.lit (.int .i64 (k : Int))) := rfl; rw [e, HU.out]; exact hown1), HW9.out.grown hgrow1 HW9.out.size (fun j hj => by cases hj; exact Nat.le_refl _)⟩
      case measure => simp [intOf, w1_, w2_]; clear w1_ w2_; omega
end Go.Proofs.Ytgikpcoaennkgaa
