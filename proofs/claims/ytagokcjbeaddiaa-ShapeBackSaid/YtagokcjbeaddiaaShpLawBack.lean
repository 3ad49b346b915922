/-
  ShapeBack.
-/
import Derived.Test.YtagokcjbeaddiaaShpY
import Derived.Test.YtagokcjbeaddiaaRows
import Derived.ProofKit
import Derived.OpenShut
import Derived.Deep.DeepHandedRow
import Derived.Deep.DeepWitnessRowRef
import Derived.MakeChecks
import Derived.Deep.DeepCutAuto
namespace Go.Proofs.Ytagokcjbeaddiaa.LawBack
open Go.RowKit Go.Sort
open Go.RowKit (Below)
set_option linter.unusedVariables false
set_option linter.unusedSimpArgs false

set_option maxRecDepth 100000 in
set_option maxHeartbeats 4000000 in
theorem back_1 (A : Option Addr) (C : Nat) (xs ys : List (Int × Int)) (lo hi a b c d e f : Int) (hy : xs.take 20 = ys) (hly : ys.length ≤ 9223372036854775806) (h1 : ClR ys lo hi a b c d e f ⟨0, 0, 0, 0, false⟩ 1) (h2 : ClR ys lo hi d e f a b c ⟨0, 0, 0, 0, false⟩ 1) (w : World) (hl : Lp w A C xs) (hm : SlS w A ys) :
    Calls Try.prog 6 #[.agg #[.slice A xs.length C, .int .i64 lo, .int .i64 hi], .agg #[.int .i64 a, .int .i64 b, .int .i64 c], .agg #[.int .i64 d, .int .i64 e, .int .i64 f]] w fun e_ w' => e_ = .returned (.bool true) ∧ Below w.heap.size w w' := by
  have HL := Lib.hid hl
  clear hl
  have HM := Lib.hid hm
  clear hm
  have C1 := Lib.hid (fun W (h : SlS W A ys) => pclip_is A C ys lo hi a b c d e f hly ⟨0, 0, 0, 0, false⟩ 1 h1 W h)
  have C2 := Lib.hid (fun W (h : SlS W A ys) => pclip_is A C ys lo hi d e f a b c hly ⟨0, 0, 0, 0, false⟩ 1 h2 W h)
  clear h1 h2
  go_enter Try.func6, Try.ntmps6
  go_wp2_with fail
  obtain ⟨w1, hw1⟩ : ∃ V, (((w.alloc (.cells #[.slice A xs.length C, .int .i64 lo, .int .i64 hi] 24)).alloc (.cells #[.int .i64 a, .int .i64 b, .int .i64 c] 26)).alloc (.cells #[.int .i64 d, .int .i64 e, .int .i64 f] 26)) = V := ⟨_, rfl⟩
  obtain ⟨hB_, kb, kp, kq⟩ := boxes3 _ _ _ _ hw1
  rw [hw1]
  clear hw1
  have HB := Lib.hid hB_
  clear hB_
  have b0 := (cells3 kb).1
  have b1 := (cells3 kb).2.1
  have b2 := (cells3 kb).2.2
  have lb := block_lt b0
  have p0 := (cells3 kp).1
  have p1 := (cells3 kp).2.1
  have p2 := (cells3 kp).2.2
  have lp := block_lt p0
  have q0 := (cells3 kq).1
  have q1 := (cells3 kq).2.1
  have q2 := (cells3 kq).2.2
  have lq := block_lt q0
  with_reducible refine (head_any _).mono ?_
  rintro e_ w2 ⟨rfl, hb⟩
  replace HB := Lib.hid (on_below HB.out hb)
  replace b0 := keepc hb b0
  replace b1 := keepc hb b1
  replace b2 := keepc hb b2
  replace p0 := keepc hb p0
  replace p1 := keepc hb p1
  replace p2 := keepc hb p2
  replace q0 := keepc hb q0
  replace q1 := keepc hb q1
  replace q2 := keepc hb q2
  replace kb := blk_on kb hb
  replace kp := blk_on kp hb
  replace kq := blk_on kq hb
  replace lb := Nat.lt_of_lt_of_le lb hb.size
  replace lp := Nat.lt_of_lt_of_le lp hb.size
  replace lq := Nat.lt_of_lt_of_le lq hb.size
  clear hb
  go_wp2_with fail
  have CF := Lib.hid (fun W (h : Lp W A C xs) => few_is A C xs lo hi W h)
  rw [hy] at CF
  with_reducible refine (CF.out _ (HL.out.below HB.out)).mono ?_
  rintro e_ w3 ⟨rfl, hb⟩
  replace HB := Lib.hid (on_below HB.out hb)
  replace b0 := keepc hb b0
  replace b1 := keepc hb b1
  replace b2 := keepc hb b2
  replace p0 := keepc hb p0
  replace p1 := keepc hb p1
  replace p2 := keepc hb p2
  replace q0 := keepc hb q0
  replace q1 := keepc hb q1
  replace q2 := keepc hb q2
  replace kb := blk_on kb hb
  replace kp := blk_on kp hb
  replace kq := blk_on kq hb
  replace lb := Nat.lt_of_lt_of_le lb hb.size
  replace lp := Nat.lt_of_lt_of_le lp hb.size
  replace lq := Nat.lt_of_lt_of_le lq hb.size
  clear hb
  have fb0 : World.frozen? w3 ⟨w.heap.size, 0, none⟩ = false := by simp [World.frozen?, kb]
  have fb1 : World.frozen? w3 ⟨w.heap.size, 1, none⟩ = false := by simp [World.frozen?, kb]
  have fb2 : World.frozen? w3 ⟨w.heap.size, 2, none⟩ = false := by simp [World.frozen?, kb]
  go_wp2_with fail
  clear CF fb0 fb1 fb2 b0 b1 b2 p0 p1 p2 q0 q1 q2 lb lp lq
  replace kb : (((w3.setCell ⟨w.heap.size, 0, none⟩ (.slice A ys.length C)).setCell ⟨w.heap.size, 1, none⟩ (.int .i64 lo)).setCell ⟨w.heap.size, 2, none⟩ (.int .i64 hi)).heap[w.heap.size]? = some (.cells #[.slice A ys.length C, .int .i64 lo, .int .i64 hi] 24 (0, 0)) := set_cells (set_cells (set_cells kb 0 _) 1 _) 2 _
  replace kp : (((w3.setCell ⟨w.heap.size, 0, none⟩ (.slice A ys.length C)).setCell ⟨w.heap.size, 1, none⟩ (.int .i64 lo)).setCell ⟨w.heap.size, 2, none⟩ (.int .i64 hi)).heap[w.heap.size + 1]? = _ := blk_far (blk_far (blk_far kp (by omega)) (by omega)) (by omega)
  replace kq : (((w3.setCell ⟨w.heap.size, 0, none⟩ (.slice A ys.length C)).setCell ⟨w.heap.size, 1, none⟩ (.int .i64 lo)).setCell ⟨w.heap.size, 2, none⟩ (.int .i64 hi)).heap[w.heap.size + 1 + 1]? = _ := blk_far (blk_far (blk_far kq (by omega)) (by omega)) (by omega)
  replace HB := Lib.hid (show Below w.heap.size w (((w3.setCell ⟨w.heap.size, 0, none⟩ (.slice A ys.length C)).setCell ⟨w.heap.size, 1, none⟩ (.int .i64 lo)).setCell ⟨w.heap.size, 2, none⟩ (.int .i64 hi)) from ((HB.out.setCell (by simp <;> omega) _).setCell (by simp <;> omega) _).setCell (by simp <;> omega) _)
  generalize (((w3.setCell ⟨w.heap.size, 0, none⟩ (.slice A ys.length C)).setCell ⟨w.heap.size, 1, none⟩ (.int .i64 lo)).setCell ⟨w.heap.size, 2, none⟩ (.int .i64 hi)) = w4 at *
  have b0 := (cells3 kb).1
  have b1 := (cells3 kb).2.1
  have b2 := (cells3 kb).2.2
  have lb := block_lt b0
  have p0 := (cells3 kp).1
  have p1 := (cells3 kp).2.1
  have p2 := (cells3 kp).2.2
  have lp := block_lt p0
  have q0 := (cells3 kq).1
  have q1 := (cells3 kq).2.1
  have q2 := (cells3 kq).2.2
  have lq := block_lt q0
  go_wp2_with fail
  with_reducible refine (C1.out _ (HM.out.below HB.out)).mono ?_
  rintro e_ w5 ⟨rfl, hb⟩
  replace HB := Lib.hid (on_below HB.out hb)
  replace b0 := keepc hb b0
  replace b1 := keepc hb b1
  replace b2 := keepc hb b2
  replace p0 := keepc hb p0
  replace p1 := keepc hb p1
  replace p2 := keepc hb p2
  replace q0 := keepc hb q0
  replace q1 := keepc hb q1
  replace q2 := keepc hb q2
  replace kb := blk_on kb hb
  replace kp := blk_on kp hb
  replace kq := blk_on kq hb
  replace lb := Nat.lt_of_lt_of_le lb hb.size
  replace lp := Nat.lt_of_lt_of_le lp hb.size
  replace lq := Nat.lt_of_lt_of_le lq hb.size
  clear hb
  go_wp2_with fail
  have m0 : World.cell? (w5.alloc (.cells #[.int .i64 0, .int .i64 0] 37)) ⟨w5.heap.size, 0, none⟩ = some (.int .i64 0) := by simp [go_sem]
  have m1 : World.cell? (w5.alloc (.cells #[.int .i64 0, .int .i64 0] 37)) ⟨w5.heap.size, 1, none⟩ = some (.int .i64 0) := by simp [go_sem]
  have lm : w5.heap.size < (w5.alloc (.cells #[.int .i64 0, .int .i64 0] 37)).heap.size := by simp
  have zm : (w5.alloc (.cells #[.int .i64 0, .int .i64 0] 37)).heap.size = w5.heap.size + 1 := by simp
  have hb : Below w5.heap.size w5 (w5.alloc (.cells #[.int .i64 0, .int .i64 0] 37)) := below_new _ _
  generalize w5.alloc (.cells #[.int .i64 0, .int .i64 0] 37) = w6 at *
  replace HB := Lib.hid (on_below HB.out hb)
  replace b0 := keepc hb b0
  replace b1 := keepc hb b1
  replace b2 := keepc hb b2
  replace p0 := keepc hb p0
  replace p1 := keepc hb p1
  replace p2 := keepc hb p2
  replace q0 := keepc hb q0
  replace q1 := keepc hb q1
  replace q2 := keepc hb q2
  replace kb := blk_on kb hb
  replace kp := blk_on kp hb
  replace kq := blk_on kq hb
  replace lb := Nat.lt_of_lt_of_le lb hb.size
  replace lp := Nat.lt_of_lt_of_le lp hb.size
  replace lq := Nat.lt_of_lt_of_le lq hb.size
  clear hb
  generalize w5.heap.size = gm at *
  have n0 : World.cell? (w6.alloc (.cells #[.int .i64 0, .int .i64 0] 37)) ⟨gm + 1, 0, none⟩ = some (.int .i64 0) := by rw [← zm]; simp [go_sem]
  have n1 : World.cell? (w6.alloc (.cells #[.int .i64 0, .int .i64 0] 37)) ⟨gm + 1, 1, none⟩ = some (.int .i64 0) := by rw [← zm]; simp [go_sem]
  have ln : gm + 1 < (w6.alloc (.cells #[.int .i64 0, .int .i64 0] 37)).heap.size := by rw [← zm]; simp
  have hb : Below w6.heap.size w6 (w6.alloc (.cells #[.int .i64 0, .int .i64 0] 37)) := below_new _ _
  generalize w6.alloc (.cells #[.int .i64 0, .int .i64 0] 37) = w7 at *
  replace HB := Lib.hid (on_below HB.out hb)
  replace b0 := keepc hb b0
  replace b1 := keepc hb b1
  replace b2 := keepc hb b2
  replace p0 := keepc hb p0
  replace p1 := keepc hb p1
  replace p2 := keepc hb p2
  replace q0 := keepc hb q0
  replace q1 := keepc hb q1
  replace q2 := keepc hb q2
  replace m0 := keepc hb m0
  replace m1 := keepc hb m1
  replace kb := blk_on kb hb
  replace kp := blk_on kp hb
  replace kq := blk_on kq hb
  replace lb := Nat.lt_of_lt_of_le lb hb.size
  replace lp := Nat.lt_of_lt_of_le lp hb.size
  replace lq := Nat.lt_of_lt_of_le lq hb.size
  replace lm := Nat.lt_of_lt_of_le lm hb.size
  clear hb
  clear zm
  have nn : gm < gm + 1 := Nat.lt_succ_self _
  generalize gm + 1 = gn at *
  go_wp2_with fail
  with_reducible refine (C2.out _ (HM.out.below HB.out)).mono ?_
  rintro e_ w8 ⟨rfl, hb⟩
  replace HB := Lib.hid (on_below HB.out hb)
  replace b0 := keepc hb b0
  replace b1 := keepc hb b1
  replace b2 := keepc hb b2
  replace p0 := keepc hb p0
  replace p1 := keepc hb p1
  replace p2 := keepc hb p2
  replace q0 := keepc hb q0
  replace q1 := keepc hb q1
  replace q2 := keepc hb q2
  replace m0 := keepc hb m0
  replace m1 := keepc hb m1
  replace n0 := keepc hb n0
  replace n1 := keepc hb n1
  replace kb := blk_on kb hb
  replace kp := blk_on kp hb
  replace kq := blk_on kq hb
  replace lb := Nat.lt_of_lt_of_le lb hb.size
  replace lp := Nat.lt_of_lt_of_le lp hb.size
  replace lq := Nat.lt_of_lt_of_le lq hb.size
  replace lm := Nat.lt_of_lt_of_le lm hb.size
  replace ln := Nat.lt_of_lt_of_le ln hb.size
  clear hb
  go_wp2_with fail
  have u0 : World.cell? (w8.alloc (.cells #[.int .i64 0, .int .i64 0] 37)) ⟨w8.heap.size, 0, none⟩ = some (.int .i64 0) := by simp [go_sem]
  have u1 : World.cell? (w8.alloc (.cells #[.int .i64 0, .int .i64 0] 37)) ⟨w8.heap.size, 1, none⟩ = some (.int .i64 0) := by simp [go_sem]
  have lu : w8.heap.size < (w8.alloc (.cells #[.int .i64 0, .int .i64 0] 37)).heap.size := by simp
  have zu : (w8.alloc (.cells #[.int .i64 0, .int .i64 0] 37)).heap.size = w8.heap.size + 1 := by simp
  have hb : Below w8.heap.size w8 (w8.alloc (.cells #[.int .i64 0, .int .i64 0] 37)) := below_new _ _
  generalize w8.alloc (.cells #[.int .i64 0, .int .i64 0] 37) = w9 at *
  replace HB := Lib.hid (on_below HB.out hb)
  replace b0 := keepc hb b0
  replace b1 := keepc hb b1
  replace b2 := keepc hb b2
  replace p0 := keepc hb p0
  replace p1 := keepc hb p1
  replace p2 := keepc hb p2
  replace q0 := keepc hb q0
  replace q1 := keepc hb q1
  replace q2 := keepc hb q2
  replace m0 := keepc hb m0
  replace m1 := keepc hb m1
  replace n0 := keepc hb n0
  replace n1 := keepc hb n1
  replace kb := blk_on kb hb
  replace kp := blk_on kp hb
  replace kq := blk_on kq hb
  replace lb := Nat.lt_of_lt_of_le lb hb.size
  replace lp := Nat.lt_of_lt_of_le lp hb.size
  replace lq := Nat.lt_of_lt_of_le lq hb.size
  replace lm := Nat.lt_of_lt_of_le lm hb.size
  replace ln := Nat.lt_of_lt_of_le ln hb.size
  clear hb
  generalize w8.heap.size = gu at *
  have v0 : World.cell? (w9.alloc (.cells #[.int .i64 0, .int .i64 0] 37)) ⟨gu + 1, 0, none⟩ = some (.int .i64 0) := by rw [← zu]; simp [go_sem]
  have v1 : World.cell? (w9.alloc (.cells #[.int .i64 0, .int .i64 0] 37)) ⟨gu + 1, 1, none⟩ = some (.int .i64 0) := by rw [← zu]; simp [go_sem]
  have lv : gu + 1 < (w9.alloc (.cells #[.int .i64 0, .int .i64 0] 37)).heap.size := by rw [← zu]; simp
  have hb : Below w9.heap.size w9 (w9.alloc (.cells #[.int .i64 0, .int .i64 0] 37)) := below_new _ _
  generalize w9.alloc (.cells #[.int .i64 0, .int .i64 0] 37) = w10 at *
  replace HB := Lib.hid (on_below HB.out hb)
  replace b0 := keepc hb b0
  replace b1 := keepc hb b1
  replace b2 := keepc hb b2
  replace p0 := keepc hb p0
  replace p1 := keepc hb p1
  replace p2 := keepc hb p2
  replace q0 := keepc hb q0
  replace q1 := keepc hb q1
  replace q2 := keepc hb q2
  replace m0 := keepc hb m0
  replace m1 := keepc hb m1
  replace n0 := keepc hb n0
  replace n1 := keepc hb n1
  replace u0 := keepc hb u0
  replace u1 := keepc hb u1
  replace kb := blk_on kb hb
  replace kp := blk_on kp hb
  replace kq := blk_on kq hb
  replace lb := Nat.lt_of_lt_of_le lb hb.size
  replace lp := Nat.lt_of_lt_of_le lp hb.size
  replace lq := Nat.lt_of_lt_of_le lq hb.size
  replace lm := Nat.lt_of_lt_of_le lm hb.size
  replace ln := Nat.lt_of_lt_of_le ln hb.size
  replace lu := Nat.lt_of_lt_of_le lu hb.size
  clear hb
  clear zu
  have nv : gu < gu + 1 := Nat.lt_succ_self _
  generalize gu + 1 = gv at *
  go_wp2_with fail
  go_ret
  exact ⟨rfl, HB.out⟩
set_option maxRecDepth 100000 in
set_option maxHeartbeats 4000000 in
theorem back_2 (A : Option Addr) (C : Nat) (xs ys : List (Int × Int)) (lo hi a b c d e f : Int) (hy : xs.take 20 = ys) (hly : ys.length ≤ 9223372036854775806) (h1 : ClR ys lo hi a b c d e f ⟨0, 1, 0, 1, false⟩ 0) (h2 : ClR ys lo hi d e f a b c ⟨0, 1, 0, 1, false⟩ 0) (w : World) (hl : Lp w A C xs) (hm : SlS w A ys) :
    Calls Try.prog 6 #[.agg #[.slice A xs.length C, .int .i64 lo, .int .i64 hi], .agg #[.int .i64 a, .int .i64 b, .int .i64 c], .agg #[.int .i64 d, .int .i64 e, .int .i64 f]] w fun e_ w' => e_ = .returned (.bool true) ∧ Below w.heap.size w w' := by
  have HL := Lib.hid hl
  clear hl
  have HM := Lib.hid hm
  clear hm
  have e1 := fun W => rat_eq (a := 0) (b := 1) (x := 0) (y := 1) (r := true) (by decide) W
  have C1 := Lib.hid (fun W (h : SlS W A ys) => pclip_is A C ys lo hi a b c d e f hly ⟨0, 1, 0, 1, false⟩ 0 h1 W h)
  have C2 := Lib.hid (fun W (h : SlS W A ys) => pclip_is A C ys lo hi d e f a b c hly ⟨0, 1, 0, 1, false⟩ 0 h2 W h)
  clear h1 h2
  go_enter Try.func6, Try.ntmps6
  go_wp2_with fail
  obtain ⟨w1, hw1⟩ : ∃ V, (((w.alloc (.cells #[.slice A xs.length C, .int .i64 lo, .int .i64 hi] 24)).alloc (.cells #[.int .i64 a, .int .i64 b, .int .i64 c] 26)).alloc (.cells #[.int .i64 d, .int .i64 e, .int .i64 f] 26)) = V := ⟨_, rfl⟩
  obtain ⟨hB_, kb, kp, kq⟩ := boxes3 _ _ _ _ hw1
  rw [hw1]
  clear hw1
  have HB := Lib.hid hB_
  clear hB_
  have b0 := (cells3 kb).1
  have b1 := (cells3 kb).2.1
  have b2 := (cells3 kb).2.2
  have lb := block_lt b0
  have p0 := (cells3 kp).1
  have p1 := (cells3 kp).2.1
  have p2 := (cells3 kp).2.2
  have lp := block_lt p0
  have q0 := (cells3 kq).1
  have q1 := (cells3 kq).2.1
  have q2 := (cells3 kq).2.2
  have lq := block_lt q0
  with_reducible refine (head_any _).mono ?_
  rintro e_ w2 ⟨rfl, hb⟩
  replace HB := Lib.hid (on_below HB.out hb)
  replace b0 := keepc hb b0
  replace b1 := keepc hb b1
  replace b2 := keepc hb b2
  replace p0 := keepc hb p0
  replace p1 := keepc hb p1
  replace p2 := keepc hb p2
  replace q0 := keepc hb q0
  replace q1 := keepc hb q1
  replace q2 := keepc hb q2
  replace kb := blk_on kb hb
  replace kp := blk_on kp hb
  replace kq := blk_on kq hb
  replace lb := Nat.lt_of_lt_of_le lb hb.size
  replace lp := Nat.lt_of_lt_of_le lp hb.size
  replace lq := Nat.lt_of_lt_of_le lq hb.size
  clear hb
  go_wp2_with fail
  have CF := Lib.hid (fun W (h : Lp W A C xs) => few_is A C xs lo hi W h)
  rw [hy] at CF
  with_reducible refine (CF.out _ (HL.out.below HB.out)).mono ?_
  rintro e_ w3 ⟨rfl, hb⟩
  replace HB := Lib.hid (on_below HB.out hb)
  replace b0 := keepc hb b0
  replace b1 := keepc hb b1
  replace b2 := keepc hb b2
  replace p0 := keepc hb p0
  replace p1 := keepc hb p1
  replace p2 := keepc hb p2
  replace q0 := keepc hb q0
  replace q1 := keepc hb q1
  replace q2 := keepc hb q2
  replace kb := blk_on kb hb
  replace kp := blk_on kp hb
  replace kq := blk_on kq hb
  replace lb := Nat.lt_of_lt_of_le lb hb.size
  replace lp := Nat.lt_of_lt_of_le lp hb.size
  replace lq := Nat.lt_of_lt_of_le lq hb.size
  clear hb
  have fb0 : World.frozen? w3 ⟨w.heap.size, 0, none⟩ = false := by simp [World.frozen?, kb]
  have fb1 : World.frozen? w3 ⟨w.heap.size, 1, none⟩ = false := by simp [World.frozen?, kb]
  have fb2 : World.frozen? w3 ⟨w.heap.size, 2, none⟩ = false := by simp [World.frozen?, kb]
  go_wp2_with fail
  clear CF fb0 fb1 fb2 b0 b1 b2 p0 p1 p2 q0 q1 q2 lb lp lq
  replace kb : (((w3.setCell ⟨w.heap.size, 0, none⟩ (.slice A ys.length C)).setCell ⟨w.heap.size, 1, none⟩ (.int .i64 lo)).setCell ⟨w.heap.size, 2, none⟩ (.int .i64 hi)).heap[w.heap.size]? = some (.cells #[.slice A ys.length C, .int .i64 lo, .int .i64 hi] 24 (0, 0)) := set_cells (set_cells (set_cells kb 0 _) 1 _) 2 _
  replace kp : (((w3.setCell ⟨w.heap.size, 0, none⟩ (.slice A ys.length C)).setCell ⟨w.heap.size, 1, none⟩ (.int .i64 lo)).setCell ⟨w.heap.size, 2, none⟩ (.int .i64 hi)).heap[w.heap.size + 1]? = _ := blk_far (blk_far (blk_far kp (by omega)) (by omega)) (by omega)
  replace kq : (((w3.setCell ⟨w.heap.size, 0, none⟩ (.slice A ys.length C)).setCell ⟨w.heap.size, 1, none⟩ (.int .i64 lo)).setCell ⟨w.heap.size, 2, none⟩ (.int .i64 hi)).heap[w.heap.size + 1 + 1]? = _ := blk_far (blk_far (blk_far kq (by omega)) (by omega)) (by omega)
  replace HB := Lib.hid (show Below w.heap.size w (((w3.setCell ⟨w.heap.size, 0, none⟩ (.slice A ys.length C)).setCell ⟨w.heap.size, 1, none⟩ (.int .i64 lo)).setCell ⟨w.heap.size, 2, none⟩ (.int .i64 hi)) from ((HB.out.setCell (by simp <;> omega) _).setCell (by simp <;> omega) _).setCell (by simp <;> omega) _)
  generalize (((w3.setCell ⟨w.heap.size, 0, none⟩ (.slice A ys.length C)).setCell ⟨w.heap.size, 1, none⟩ (.int .i64 lo)).setCell ⟨w.heap.size, 2, none⟩ (.int .i64 hi)) = w4 at *
  have b0 := (cells3 kb).1
  have b1 := (cells3 kb).2.1
  have b2 := (cells3 kb).2.2
  have lb := block_lt b0
  have p0 := (cells3 kp).1
  have p1 := (cells3 kp).2.1
  have p2 := (cells3 kp).2.2
  have lp := block_lt p0
  have q0 := (cells3 kq).1
  have q1 := (cells3 kq).2.1
  have q2 := (cells3 kq).2.2
  have lq := block_lt q0
  go_wp2_with fail
  with_reducible refine (C1.out _ (HM.out.below HB.out)).mono ?_
  rintro e_ w5 ⟨rfl, hb⟩
  replace HB := Lib.hid (on_below HB.out hb)
  replace b0 := keepc hb b0
  replace b1 := keepc hb b1
  replace b2 := keepc hb b2
  replace p0 := keepc hb p0
  replace p1 := keepc hb p1
  replace p2 := keepc hb p2
  replace q0 := keepc hb q0
  replace q1 := keepc hb q1
  replace q2 := keepc hb q2
  replace kb := blk_on kb hb
  replace kp := blk_on kp hb
  replace kq := blk_on kq hb
  replace lb := Nat.lt_of_lt_of_le lb hb.size
  replace lp := Nat.lt_of_lt_of_le lp hb.size
  replace lq := Nat.lt_of_lt_of_le lq hb.size
  clear hb
  go_wp2_with fail
  have m0 : World.cell? (w5.alloc (.cells #[.int .i64 0, .int .i64 1] 37)) ⟨w5.heap.size, 0, none⟩ = some (.int .i64 0) := by simp [go_sem]
  have m1 : World.cell? (w5.alloc (.cells #[.int .i64 0, .int .i64 1] 37)) ⟨w5.heap.size, 1, none⟩ = some (.int .i64 1) := by simp [go_sem]
  have lm : w5.heap.size < (w5.alloc (.cells #[.int .i64 0, .int .i64 1] 37)).heap.size := by simp
  have zm : (w5.alloc (.cells #[.int .i64 0, .int .i64 1] 37)).heap.size = w5.heap.size + 1 := by simp
  have hb : Below w5.heap.size w5 (w5.alloc (.cells #[.int .i64 0, .int .i64 1] 37)) := below_new _ _
  generalize w5.alloc (.cells #[.int .i64 0, .int .i64 1] 37) = w6 at *
  replace HB := Lib.hid (on_below HB.out hb)
  replace b0 := keepc hb b0
  replace b1 := keepc hb b1
  replace b2 := keepc hb b2
  replace p0 := keepc hb p0
  replace p1 := keepc hb p1
  replace p2 := keepc hb p2
  replace q0 := keepc hb q0
  replace q1 := keepc hb q1
  replace q2 := keepc hb q2
  replace kb := blk_on kb hb
  replace kp := blk_on kp hb
  replace kq := blk_on kq hb
  replace lb := Nat.lt_of_lt_of_le lb hb.size
  replace lp := Nat.lt_of_lt_of_le lp hb.size
  replace lq := Nat.lt_of_lt_of_le lq hb.size
  clear hb
  generalize w5.heap.size = gm at *
  have n0 : World.cell? (w6.alloc (.cells #[.int .i64 0, .int .i64 1] 37)) ⟨gm + 1, 0, none⟩ = some (.int .i64 0) := by rw [← zm]; simp [go_sem]
  have n1 : World.cell? (w6.alloc (.cells #[.int .i64 0, .int .i64 1] 37)) ⟨gm + 1, 1, none⟩ = some (.int .i64 1) := by rw [← zm]; simp [go_sem]
  have ln : gm + 1 < (w6.alloc (.cells #[.int .i64 0, .int .i64 1] 37)).heap.size := by rw [← zm]; simp
  have hb : Below w6.heap.size w6 (w6.alloc (.cells #[.int .i64 0, .int .i64 1] 37)) := below_new _ _
  generalize w6.alloc (.cells #[.int .i64 0, .int .i64 1] 37) = w7 at *
  replace HB := Lib.hid (on_below HB.out hb)
  replace b0 := keepc hb b0
  replace b1 := keepc hb b1
  replace b2 := keepc hb b2
  replace p0 := keepc hb p0
  replace p1 := keepc hb p1
  replace p2 := keepc hb p2
  replace q0 := keepc hb q0
  replace q1 := keepc hb q1
  replace q2 := keepc hb q2
  replace m0 := keepc hb m0
  replace m1 := keepc hb m1
  replace kb := blk_on kb hb
  replace kp := blk_on kp hb
  replace kq := blk_on kq hb
  replace lb := Nat.lt_of_lt_of_le lb hb.size
  replace lp := Nat.lt_of_lt_of_le lp hb.size
  replace lq := Nat.lt_of_lt_of_le lq hb.size
  replace lm := Nat.lt_of_lt_of_le lm hb.size
  clear hb
  clear zm
  have nn : gm < gm + 1 := Nat.lt_succ_self _
  generalize gm + 1 = gn at *
  go_wp2_with fail
  with_reducible refine (C2.out _ (HM.out.below HB.out)).mono ?_
  rintro e_ w8 ⟨rfl, hb⟩
  replace HB := Lib.hid (on_below HB.out hb)
  replace b0 := keepc hb b0
  replace b1 := keepc hb b1
  replace b2 := keepc hb b2
  replace p0 := keepc hb p0
  replace p1 := keepc hb p1
  replace p2 := keepc hb p2
  replace q0 := keepc hb q0
  replace q1 := keepc hb q1
  replace q2 := keepc hb q2
  replace m0 := keepc hb m0
  replace m1 := keepc hb m1
  replace n0 := keepc hb n0
  replace n1 := keepc hb n1
  replace kb := blk_on kb hb
  replace kp := blk_on kp hb
  replace kq := blk_on kq hb
  replace lb := Nat.lt_of_lt_of_le lb hb.size
  replace lp := Nat.lt_of_lt_of_le lp hb.size
  replace lq := Nat.lt_of_lt_of_le lq hb.size
  replace lm := Nat.lt_of_lt_of_le lm hb.size
  replace ln := Nat.lt_of_lt_of_le ln hb.size
  clear hb
  go_wp2_with fail
  have u0 : World.cell? (w8.alloc (.cells #[.int .i64 0, .int .i64 1] 37)) ⟨w8.heap.size, 0, none⟩ = some (.int .i64 0) := by simp [go_sem]
  have u1 : World.cell? (w8.alloc (.cells #[.int .i64 0, .int .i64 1] 37)) ⟨w8.heap.size, 1, none⟩ = some (.int .i64 1) := by simp [go_sem]
  have lu : w8.heap.size < (w8.alloc (.cells #[.int .i64 0, .int .i64 1] 37)).heap.size := by simp
  have zu : (w8.alloc (.cells #[.int .i64 0, .int .i64 1] 37)).heap.size = w8.heap.size + 1 := by simp
  have hb : Below w8.heap.size w8 (w8.alloc (.cells #[.int .i64 0, .int .i64 1] 37)) := below_new _ _
  generalize w8.alloc (.cells #[.int .i64 0, .int .i64 1] 37) = w9 at *
  replace HB := Lib.hid (on_below HB.out hb)
  replace b0 := keepc hb b0
  replace b1 := keepc hb b1
  replace b2 := keepc hb b2
  replace p0 := keepc hb p0
  replace p1 := keepc hb p1
  replace p2 := keepc hb p2
  replace q0 := keepc hb q0
  replace q1 := keepc hb q1
  replace q2 := keepc hb q2
  replace m0 := keepc hb m0
  replace m1 := keepc hb m1
  replace n0 := keepc hb n0
  replace n1 := keepc hb n1
  replace kb := blk_on kb hb
  replace kp := blk_on kp hb
  replace kq := blk_on kq hb
  replace lb := Nat.lt_of_lt_of_le lb hb.size
  replace lp := Nat.lt_of_lt_of_le lp hb.size
  replace lq := Nat.lt_of_lt_of_le lq hb.size
  replace lm := Nat.lt_of_lt_of_le lm hb.size
  replace ln := Nat.lt_of_lt_of_le ln hb.size
  clear hb
  generalize w8.heap.size = gu at *
  have v0 : World.cell? (w9.alloc (.cells #[.int .i64 0, .int .i64 1] 37)) ⟨gu + 1, 0, none⟩ = some (.int .i64 0) := by rw [← zu]; simp [go_sem]
  have v1 : World.cell? (w9.alloc (.cells #[.int .i64 0, .int .i64 1] 37)) ⟨gu + 1, 1, none⟩ = some (.int .i64 1) := by rw [← zu]; simp [go_sem]
  have lv : gu + 1 < (w9.alloc (.cells #[.int .i64 0, .int .i64 1] 37)).heap.size := by rw [← zu]; simp
  have hb : Below w9.heap.size w9 (w9.alloc (.cells #[.int .i64 0, .int .i64 1] 37)) := below_new _ _
  generalize w9.alloc (.cells #[.int .i64 0, .int .i64 1] 37) = w10 at *
  replace HB := Lib.hid (on_below HB.out hb)
  replace b0 := keepc hb b0
  replace b1 := keepc hb b1
  replace b2 := keepc hb b2
  replace p0 := keepc hb p0
  replace p1 := keepc hb p1
  replace p2 := keepc hb p2
  replace q0 := keepc hb q0
  replace q1 := keepc hb q1
  replace q2 := keepc hb q2
  replace m0 := keepc hb m0
  replace m1 := keepc hb m1
  replace n0 := keepc hb n0
  replace n1 := keepc hb n1
  replace u0 := keepc hb u0
  replace u1 := keepc hb u1
  replace kb := blk_on kb hb
  replace kp := blk_on kp hb
  replace kq := blk_on kq hb
  replace lb := Nat.lt_of_lt_of_le lb hb.size
  replace lp := Nat.lt_of_lt_of_le lp hb.size
  replace lq := Nat.lt_of_lt_of_le lq hb.size
  replace lm := Nat.lt_of_lt_of_le lm hb.size
  replace ln := Nat.lt_of_lt_of_le ln hb.size
  replace lu := Nat.lt_of_lt_of_le lu hb.size
  clear hb
  clear zu
  have nv : gu < gu + 1 := Nat.lt_succ_self _
  generalize gu + 1 = gv at *
  go_wp2_with fail
  go_ret
  exact ⟨rfl, HB.out⟩
set_option maxRecDepth 100000 in
set_option maxHeartbeats 4000000 in
theorem back_3 (A : Option Addr) (C : Nat) (xs ys : List (Int × Int)) (lo hi a b c d e f : Int) (hy : xs.take 20 = ys) (hly : ys.length ≤ 9223372036854775806) (ra rb rc rd p q : Int) (hb : 1 ≤ rb ∧ rb ≤ 32000000) (hd : 1 ≤ rd ∧ rd ≤ 32000000) (hq : ra + q = rb) (hp : rc + p = rd) (h1 : ClR ys lo hi a b c d e f ⟨ra, rb, rc, rd, true⟩ 0) (h2 : ClR ys lo hi d e f a b c ⟨p, rd, q, rb, true⟩ 0) (w : World) (hl : Lp w A C xs) (hm : SlS w A ys) :
    Calls Try.prog 6 #[.agg #[.slice A xs.length C, .int .i64 lo, .int .i64 hi], .agg #[.int .i64 a, .int .i64 b, .int .i64 c], .agg #[.int .i64 d, .int .i64 e, .int .i64 f]] w fun e_ w' => e_ = .returned (.bool true) ∧ Below w.heap.size w w' := by
  have HL := Lib.hid hl
  clear hl
  have HM := Lib.hid hm
  clear hm
  have e1 : wrap64 (ra + q) = rb := by rw [hq]; exact IntWalk.wrap64_in _ ⟨by omega, by omega⟩
  have e2 : IntKind.i64.wrap (ra + q) = rb := by rw [hq]; exact IntWalk.i64_in _ ⟨by omega, by omega⟩
  have e3 : wrap64 (rc + p) = rd := by rw [hp]; exact IntWalk.wrap64_in _ ⟨by omega, by omega⟩
  have e4 : IntKind.i64.wrap (rc + p) = rd := by rw [hp]; exact IntWalk.i64_in _ ⟨by omega, by omega⟩
  clear hp hq hb hd
  have C1 := Lib.hid (fun W (h : SlS W A ys) => pclip_is A C ys lo hi a b c d e f hly ⟨ra, rb, rc, rd, true⟩ 0 h1 W h)
  have C2 := Lib.hid (fun W (h : SlS W A ys) => pclip_is A C ys lo hi d e f a b c hly ⟨p, rd, q, rb, true⟩ 0 h2 W h)
  clear h1 h2
  go_enter Try.func6, Try.ntmps6
  go_wp2_with fail
  obtain ⟨w1, hw1⟩ : ∃ V, (((w.alloc (.cells #[.slice A xs.length C, .int .i64 lo, .int .i64 hi] 24)).alloc (.cells #[.int .i64 a, .int .i64 b, .int .i64 c] 26)).alloc (.cells #[.int .i64 d, .int .i64 e, .int .i64 f] 26)) = V := ⟨_, rfl⟩
  obtain ⟨hB_, kb, kp, kq⟩ := boxes3 _ _ _ _ hw1
  rw [hw1]
  clear hw1
  have HB := Lib.hid hB_
  clear hB_
  have b0 := (cells3 kb).1
  have b1 := (cells3 kb).2.1
  have b2 := (cells3 kb).2.2
  have lb := block_lt b0
  have p0 := (cells3 kp).1
  have p1 := (cells3 kp).2.1
  have p2 := (cells3 kp).2.2
  have lp := block_lt p0
  have q0 := (cells3 kq).1
  have q1 := (cells3 kq).2.1
  have q2 := (cells3 kq).2.2
  have lq := block_lt q0
  with_reducible refine (head_any _).mono ?_
  rintro e_ w2 ⟨rfl, hb⟩
  replace HB := Lib.hid (on_below HB.out hb)
  replace b0 := keepc hb b0
  replace b1 := keepc hb b1
  replace b2 := keepc hb b2
  replace p0 := keepc hb p0
  replace p1 := keepc hb p1
  replace p2 := keepc hb p2
  replace q0 := keepc hb q0
  replace q1 := keepc hb q1
  replace q2 := keepc hb q2
  replace kb := blk_on kb hb
  replace kp := blk_on kp hb
  replace kq := blk_on kq hb
  replace lb := Nat.lt_of_lt_of_le lb hb.size
  replace lp := Nat.lt_of_lt_of_le lp hb.size
  replace lq := Nat.lt_of_lt_of_le lq hb.size
  clear hb
  go_wp2_with fail
  have CF := Lib.hid (fun W (h : Lp W A C xs) => few_is A C xs lo hi W h)
  rw [hy] at CF
  with_reducible refine (CF.out _ (HL.out.below HB.out)).mono ?_
  rintro e_ w3 ⟨rfl, hb⟩
  replace HB := Lib.hid (on_below HB.out hb)
  replace b0 := keepc hb b0
  replace b1 := keepc hb b1
  replace b2 := keepc hb b2
  replace p0 := keepc hb p0
  replace p1 := keepc hb p1
  replace p2 := keepc hb p2
  replace q0 := keepc hb q0
  replace q1 := keepc hb q1
  replace q2 := keepc hb q2
  replace kb := blk_on kb hb
  replace kp := blk_on kp hb
  replace kq := blk_on kq hb
  replace lb := Nat.lt_of_lt_of_le lb hb.size
  replace lp := Nat.lt_of_lt_of_le lp hb.size
  replace lq := Nat.lt_of_lt_of_le lq hb.size
  clear hb
  have fb0 : World.frozen? w3 ⟨w.heap.size, 0, none⟩ = false := by simp [World.frozen?, kb]
  have fb1 : World.frozen? w3 ⟨w.heap.size, 1, none⟩ = false := by simp [World.frozen?, kb]
  have fb2 : World.frozen? w3 ⟨w.heap.size, 2, none⟩ = false := by simp [World.frozen?, kb]
  go_wp2_with fail
  clear CF fb0 fb1 fb2 b0 b1 b2 p0 p1 p2 q0 q1 q2 lb lp lq
  replace kb : (((w3.setCell ⟨w.heap.size, 0, none⟩ (.slice A ys.length C)).setCell ⟨w.heap.size, 1, none⟩ (.int .i64 lo)).setCell ⟨w.heap.size, 2, none⟩ (.int .i64 hi)).heap[w.heap.size]? = some (.cells #[.slice A ys.length C, .int .i64 lo, .int .i64 hi] 24 (0, 0)) := set_cells (set_cells (set_cells kb 0 _) 1 _) 2 _
  replace kp : (((w3.setCell ⟨w.heap.size, 0, none⟩ (.slice A ys.length C)).setCell ⟨w.heap.size, 1, none⟩ (.int .i64 lo)).setCell ⟨w.heap.size, 2, none⟩ (.int .i64 hi)).heap[w.heap.size + 1]? = _ := blk_far (blk_far (blk_far kp (by omega)) (by omega)) (by omega)
  replace kq : (((w3.setCell ⟨w.heap.size, 0, none⟩ (.slice A ys.length C)).setCell ⟨w.heap.size, 1, none⟩ (.int .i64 lo)).setCell ⟨w.heap.size, 2, none⟩ (.int .i64 hi)).heap[w.heap.size + 1 + 1]? = _ := blk_far (blk_far (blk_far kq (by omega)) (by omega)) (by omega)
  replace HB := Lib.hid (show Below w.heap.size w (((w3.setCell ⟨w.heap.size, 0, none⟩ (.slice A ys.length C)).setCell ⟨w.heap.size, 1, none⟩ (.int .i64 lo)).setCell ⟨w.heap.size, 2, none⟩ (.int .i64 hi)) from ((HB.out.setCell (by simp <;> omega) _).setCell (by simp <;> omega) _).setCell (by simp <;> omega) _)
  generalize (((w3.setCell ⟨w.heap.size, 0, none⟩ (.slice A ys.length C)).setCell ⟨w.heap.size, 1, none⟩ (.int .i64 lo)).setCell ⟨w.heap.size, 2, none⟩ (.int .i64 hi)) = w4 at *
  have b0 := (cells3 kb).1
  have b1 := (cells3 kb).2.1
  have b2 := (cells3 kb).2.2
  have lb := block_lt b0
  have p0 := (cells3 kp).1
  have p1 := (cells3 kp).2.1
  have p2 := (cells3 kp).2.2
  have lp := block_lt p0
  have q0 := (cells3 kq).1
  have q1 := (cells3 kq).2.1
  have q2 := (cells3 kq).2.2
  have lq := block_lt q0
  go_wp2_with fail
  with_reducible refine (C1.out _ (HM.out.below HB.out)).mono ?_
  rintro e_ w5 ⟨rfl, hb⟩
  replace HB := Lib.hid (on_below HB.out hb)
  replace b0 := keepc hb b0
  replace b1 := keepc hb b1
  replace b2 := keepc hb b2
  replace p0 := keepc hb p0
  replace p1 := keepc hb p1
  replace p2 := keepc hb p2
  replace q0 := keepc hb q0
  replace q1 := keepc hb q1
  replace q2 := keepc hb q2
  replace kb := blk_on kb hb
  replace kp := blk_on kp hb
  replace kq := blk_on kq hb
  replace lb := Nat.lt_of_lt_of_le lb hb.size
  replace lp := Nat.lt_of_lt_of_le lp hb.size
  replace lq := Nat.lt_of_lt_of_le lq hb.size
  clear hb
  go_wp2_with fail
  have m0 : World.cell? (w5.alloc (.cells #[.int .i64 ra, .int .i64 rb] 37)) ⟨w5.heap.size, 0, none⟩ = some (.int .i64 ra) := by simp [go_sem]
  have m1 : World.cell? (w5.alloc (.cells #[.int .i64 ra, .int .i64 rb] 37)) ⟨w5.heap.size, 1, none⟩ = some (.int .i64 rb) := by simp [go_sem]
  have lm : w5.heap.size < (w5.alloc (.cells #[.int .i64 ra, .int .i64 rb] 37)).heap.size := by simp
  have zm : (w5.alloc (.cells #[.int .i64 ra, .int .i64 rb] 37)).heap.size = w5.heap.size + 1 := by simp
  have hb : Below w5.heap.size w5 (w5.alloc (.cells #[.int .i64 ra, .int .i64 rb] 37)) := below_new _ _
  generalize w5.alloc (.cells #[.int .i64 ra, .int .i64 rb] 37) = w6 at *
  replace HB := Lib.hid (on_below HB.out hb)
  replace b0 := keepc hb b0
  replace b1 := keepc hb b1
  replace b2 := keepc hb b2
  replace p0 := keepc hb p0
  replace p1 := keepc hb p1
  replace p2 := keepc hb p2
  replace q0 := keepc hb q0
  replace q1 := keepc hb q1
  replace q2 := keepc hb q2
  replace kb := blk_on kb hb
  replace kp := blk_on kp hb
  replace kq := blk_on kq hb
  replace lb := Nat.lt_of_lt_of_le lb hb.size
  replace lp := Nat.lt_of_lt_of_le lp hb.size
  replace lq := Nat.lt_of_lt_of_le lq hb.size
  clear hb
  generalize w5.heap.size = gm at *
  have n0 : World.cell? (w6.alloc (.cells #[.int .i64 rc, .int .i64 rd] 37)) ⟨gm + 1, 0, none⟩ = some (.int .i64 rc) := by rw [← zm]; simp [go_sem]
  have n1 : World.cell? (w6.alloc (.cells #[.int .i64 rc, .int .i64 rd] 37)) ⟨gm + 1, 1, none⟩ = some (.int .i64 rd) := by rw [← zm]; simp [go_sem]
  have ln : gm + 1 < (w6.alloc (.cells #[.int .i64 rc, .int .i64 rd] 37)).heap.size := by rw [← zm]; simp
  have hb : Below w6.heap.size w6 (w6.alloc (.cells #[.int .i64 rc, .int .i64 rd] 37)) := below_new _ _
  generalize w6.alloc (.cells #[.int .i64 rc, .int .i64 rd] 37) = w7 at *
  replace HB := Lib.hid (on_below HB.out hb)
  replace b0 := keepc hb b0
  replace b1 := keepc hb b1
  replace b2 := keepc hb b2
  replace p0 := keepc hb p0
  replace p1 := keepc hb p1
  replace p2 := keepc hb p2
  replace q0 := keepc hb q0
  replace q1 := keepc hb q1
  replace q2 := keepc hb q2
  replace m0 := keepc hb m0
  replace m1 := keepc hb m1
  replace kb := blk_on kb hb
  replace kp := blk_on kp hb
  replace kq := blk_on kq hb
  replace lb := Nat.lt_of_lt_of_le lb hb.size
  replace lp := Nat.lt_of_lt_of_le lp hb.size
  replace lq := Nat.lt_of_lt_of_le lq hb.size
  replace lm := Nat.lt_of_lt_of_le lm hb.size
  clear hb
  clear zm
  have nn : gm < gm + 1 := Nat.lt_succ_self _
  generalize gm + 1 = gn at *
  go_wp2_with fail
  with_reducible refine (C2.out _ (HM.out.below HB.out)).mono ?_
  rintro e_ w8 ⟨rfl, hb⟩
  replace HB := Lib.hid (on_below HB.out hb)
  replace b0 := keepc hb b0
  replace b1 := keepc hb b1
  replace b2 := keepc hb b2
  replace p0 := keepc hb p0
  replace p1 := keepc hb p1
  replace p2 := keepc hb p2
  replace q0 := keepc hb q0
  replace q1 := keepc hb q1
  replace q2 := keepc hb q2
  replace m0 := keepc hb m0
  replace m1 := keepc hb m1
  replace n0 := keepc hb n0
  replace n1 := keepc hb n1
  replace kb := blk_on kb hb
  replace kp := blk_on kp hb
  replace kq := blk_on kq hb
  replace lb := Nat.lt_of_lt_of_le lb hb.size
  replace lp := Nat.lt_of_lt_of_le lp hb.size
  replace lq := Nat.lt_of_lt_of_le lq hb.size
  replace lm := Nat.lt_of_lt_of_le lm hb.size
  replace ln := Nat.lt_of_lt_of_le ln hb.size
  clear hb
  go_wp2_with fail
  have u0 : World.cell? (w8.alloc (.cells #[.int .i64 p, .int .i64 rd] 37)) ⟨w8.heap.size, 0, none⟩ = some (.int .i64 p) := by simp [go_sem]
  have u1 : World.cell? (w8.alloc (.cells #[.int .i64 p, .int .i64 rd] 37)) ⟨w8.heap.size, 1, none⟩ = some (.int .i64 rd) := by simp [go_sem]
  have lu : w8.heap.size < (w8.alloc (.cells #[.int .i64 p, .int .i64 rd] 37)).heap.size := by simp
  have zu : (w8.alloc (.cells #[.int .i64 p, .int .i64 rd] 37)).heap.size = w8.heap.size + 1 := by simp
  have hb : Below w8.heap.size w8 (w8.alloc (.cells #[.int .i64 p, .int .i64 rd] 37)) := below_new _ _
  generalize w8.alloc (.cells #[.int .i64 p, .int .i64 rd] 37) = w9 at *
  replace HB := Lib.hid (on_below HB.out hb)
  replace b0 := keepc hb b0
  replace b1 := keepc hb b1
  replace b2 := keepc hb b2
  replace p0 := keepc hb p0
  replace p1 := keepc hb p1
  replace p2 := keepc hb p2
  replace q0 := keepc hb q0
  replace q1 := keepc hb q1
  replace q2 := keepc hb q2
  replace m0 := keepc hb m0
  replace m1 := keepc hb m1
  replace n0 := keepc hb n0
  replace n1 := keepc hb n1
  replace kb := blk_on kb hb
  replace kp := blk_on kp hb
  replace kq := blk_on kq hb
  replace lb := Nat.lt_of_lt_of_le lb hb.size
  replace lp := Nat.lt_of_lt_of_le lp hb.size
  replace lq := Nat.lt_of_lt_of_le lq hb.size
  replace lm := Nat.lt_of_lt_of_le lm hb.size
  replace ln := Nat.lt_of_lt_of_le ln hb.size
  clear hb
  generalize w8.heap.size = gu at *
  have v0 : World.cell? (w9.alloc (.cells #[.int .i64 q, .int .i64 rb] 37)) ⟨gu + 1, 0, none⟩ = some (.int .i64 q) := by rw [← zu]; simp [go_sem]
  have v1 : World.cell? (w9.alloc (.cells #[.int .i64 q, .int .i64 rb] 37)) ⟨gu + 1, 1, none⟩ = some (.int .i64 rb) := by rw [← zu]; simp [go_sem]
  have lv : gu + 1 < (w9.alloc (.cells #[.int .i64 q, .int .i64 rb] 37)).heap.size := by rw [← zu]; simp
  have hb : Below w9.heap.size w9 (w9.alloc (.cells #[.int .i64 q, .int .i64 rb] 37)) := below_new _ _
  generalize w9.alloc (.cells #[.int .i64 q, .int .i64 rb] 37) = w10 at *
  replace HB := Lib.hid (on_below HB.out hb)
  replace b0 := keepc hb b0
  replace b1 := keepc hb b1
  replace b2 := keepc hb b2
  replace p0 := keepc hb p0
  replace p1 := keepc hb p1
  replace p2 := keepc hb p2
  replace q0 := keepc hb q0
  replace q1 := keepc hb q1
  replace q2 := keepc hb q2
  replace m0 := keepc hb m0
  replace m1 := keepc hb m1
  replace n0 := keepc hb n0
  replace n1 := keepc hb n1
  replace u0 := keepc hb u0
  replace u1 := keepc hb u1
  replace kb := blk_on kb hb
  replace kp := blk_on kp hb
  replace kq := blk_on kq hb
  replace lb := Nat.lt_of_lt_of_le lb hb.size
  replace lp := Nat.lt_of_lt_of_le lp hb.size
  replace lq := Nat.lt_of_lt_of_le lq hb.size
  replace lm := Nat.lt_of_lt_of_le lm hb.size
  replace ln := Nat.lt_of_lt_of_le ln hb.size
  replace lu := Nat.lt_of_lt_of_le lu hb.size
  clear hb
  clear zu
  have nv : gu < gu + 1 := Nat.lt_succ_self _
  generalize gu + 1 = gv at *
  go_wp2_with fail
  go_ret
  exact ⟨rfl, HB.out⟩
theorem clres_back {r s : Rg} (h : Rev r s) (hh : hitB r = true) : clres s = ⟨r.hd - r.hn, r.hd, r.ld - r.ln, r.ld, true⟩ := by
  have e := rev_hit h
  obtain ⟨h1, h2, h3, h4, _⟩ := h
  unfold clres
  rw [if_pos (by rw [e]; exact hh), h1, h2, h3, h4]
theorem law_any (bA : Option Addr) (bC : Nat) (b : List (Int × Int)) (bl bh fx fy fz tx ty tz : Int) (w : World) (hb : Lp w bA bC b) :
    Calls Try.prog 6 #[.agg #[.slice bA b.length bC, .int .i64 bl, .int .i64 bh], .agg #[.int .i64 fx, .int .i64 fy, .int .i64 fz], .agg #[.int .i64 tx, .int .i64 ty, .int .i64 tz]] w fun e_ w' => e_ = .returned (.bool true) ∧ Below w.heap.size w w' := by
  have hm : SlS w bA (b.take 20) := (hb.take 20).sl
  have hly : (b.take 20).length ≤ 9223372036854775806 := by rw [List.length_take]; omega
  by_cases h : Bok (b.take 20) bl bh ∧ V3 fx fy fz ∧ V3 tx ty tz ∧ ¬ (fx = tx ∧ fy = ty ∧ fz = tz)
  · obtain ⟨h1, h2, h3, h4⟩ := h
    have h5 : ¬ (tx = fx ∧ ty = fy ∧ tz = fz) := fun k => h4 ⟨k.1.symm, k.2.1.symm, k.2.2.symm⟩
    have hrev := rev_clp (cnd (b.take 20) bl bh fx fy fz tx ty tz) rev_r0
    rw [← cnd_back] at hrev
    have ok := clp_ok (m := 32000000) (r := r0) ⟨by decide, by decide, by decide, by decide⟩ (cnd_bd h1 h2 h3)
    by_cases hh : hitB (clp r0 (cnd (b.take 20) bl bh fx fy fz tx ty tz)) = true
    · refine back_3 bA bC b (b.take 20) bl bh fx fy fz tx ty tz rfl hly _ _ _ _ _ _ ok.ld ok.hd ?_ ?_ (Or.inr ⟨h1, h2, h3, h4, rfl, by unfold clres; rw [if_pos hh]⟩) (Or.inr ⟨h1, h3, h2, h5, rfl, clres_back hrev hh⟩) w hb hm
      · omega
      · omega
    · refine back_2 bA bC b (b.take 20) bl bh fx fy fz tx ty tz rfl hly (Or.inr ⟨h1, h2, h3, h4, rfl, by unfold clres; rw [if_neg hh]⟩) (Or.inr ⟨h1, h3, h2, h5, rfl, by unfold clres; rw [if_neg (by rw [rev_hit hrev]; exact hh)]⟩) w hb hm
  · exact back_1 bA bC b (b.take 20) bl bh fx fy fz tx ty tz rfl hly (Or.inl ⟨h, rfl, rfl⟩) (Or.inl ⟨fun k => h ⟨k.1, k.2.2.1, k.2.1, fun q => k.2.2.2 ⟨q.1.symm, q.2.1.symm, q.2.2.symm⟩⟩, rfl, rfl⟩) w hb hm
/-! ### The row -/
open Go.ChangeShapes Go.WideShapes Go.ChangeAt Go.Joins
theorem u8_in {x : Int} (h : (Lit.int .u8 x).wf = true) : 0 ≤ x ∧ x ≤ 255 := by
  have e1 : IntKind.u8.min = 0 := rfl
  have e2 : IntKind.u8.max = 255 := rfl
  simp [Lit.wf, e1, e2] at h
  exact h
theorem own : ownKnob Try.prog.godebug = none := by kernel_rfl
noncomputable def laidWorld (os : Os) : World := World.holding Try.prog os ⟨#[], #[], []⟩
theorem laidWorld_met (os : Os) (args : Array Value) : laidMet Try.prog [] ((laidWorld os).forCall (fun _ _ => 0) ⟨#[], args, []⟩).memory :=
  laidMet_of_run' 8 (by kernel_rfl) (by kernel_rfl)

set_option maxRecDepth 100000 in
theorem contract (H : Type) (enc : TypeId × Value → H) (W : World) (base : Nat) (args : Array Value) (ds gs : List (DataW H)) (before : List MemPlace)
    (hval : ∀ (j : Nat) t v, Try.f6.params[j]? = some t → args[j]? = some v → Value.okWide Try.prog W .any base t v)
    (hW : DataW.Whole enc Try.prog Try.f6.params.toList Rows.shapeBackSpec.vars false W args.toList ds gs before) :
    Calls Try.prog 6 args W fun e W' => ∃ v, e = .returned v ∧ Rows.shapeBackSpec.post enc Try.prog Try.f6 false true false false W args v W' := by
  have hW' := hW
  have hold : ∀ q ∈ before, decide (q.block < W.heap.size) = true := fun q hq => by simpa using hW.lt q hq
  obtain ⟨p, q, hA0, hV, rfl, hfz, hnd⟩ := hW
  have hA : DataW.TrodAll enc Try.prog W 0 (fun _ => true) true Try.f6.params.toList args.toList ds p := hA0
  rw [Try.params6] at hA hval
  obtain ⟨v0, vs0, d0, ds0, p0, q0, hargs, rfl, rfl, h0, r0⟩ := trodAll_cons hA
  obtain ⟨v1, vs1, d1, ds1, p1, q1, rfl, rfl, rfl, h1, r1⟩ := trodAll_cons r0
  obtain ⟨v2, vs2, d2, ds2, p2, q2, rfl, rfl, rfl, h2, r2⟩ := trodAll_cons r1
  obtain ⟨rfl, rfl, rfl⟩ := trodAll_nil r2
  obtain rfl : args = #[v0, v1, v2] := Array.toList_inj.1 hargs
  obtain ⟨rfl, rfl⟩ := trodVars_none hV
  obtain ⟨bA, bC, b, bl, bh, rfl, lb, jb, ibl, ibh, shutb⟩ := open_body (hval 0 24 v0 rfl rfl) h0
  obtain ⟨fx, fy, fz, rfl, rfl, rfl, ifx, ify, ifz⟩ := open_vec (hval 1 26 v1 rfl rfl) h1
  obtain ⟨tx, ty, tz, rfl, rfl, rfl, itx, ity, itz⟩ := open_vec (hval 2 26 v2 rfl rfl) h2
  clear hA0
  refine (law_any bA bC b bl bh fx fy fz tx ty tz W lb).mono fun e W' ⟨he, bel⟩ => ?_
  subst he
  exact ⟨_, rfl, _, _, _, [], _, [], hW', trodAll_mk1 (shut_bool Try.underlying4 _), (trodAll_cons_mk (shutb W' (fun b => decide (b < W.heap.size)) bel (fun q hq => hold q (by simp [hq]))) (trodAll_cons_mk (shut_vec ifx ify ifz) (trodAll_cons_mk (shut_vec itx ity itz) trodAll_mk0))), rfl, bel.frame _, fun h => by cases h⟩

theorem reads (os : Os) {H : Type} (enc : TypeId × Value → H) : ∃ places, DataW.whole enc Try.prog ((laidWorld os).forCall (fun _ _ => 0) ⟨#[], #[.agg #[.slice none 0 0, .int .i64 0, .int .i64 0], .agg #[.int .i64 0, .int .i64 0, .int .i64 0], .agg #[.int .i64 0, .int .i64 0, .int .i64 0]], []⟩).memory Try.f6.params.toList Rows.shapeBackSpec.vars false (#[.agg #[.slice none 0 0, .int .i64 0, .int .i64 0], .agg #[.int .i64 0, .int .i64 0, .int .i64 0], .agg #[.int .i64 0, .int .i64 0, .int .i64 0]] : Array Value).toList 8 = some ([.agg [.nil, .lit (.int .i64 0), .lit (.int .i64 0)], .agg [.lit (.int .i64 0), .lit (.int .i64 0), .lit (.int .i64 0)], .agg [.lit (.int .i64 0), .lit (.int .i64 0), .lit (.int .i64 0)]], [], places) :=
  ⟨[], by kernel_rfl⟩

set_option maxRecDepth 100000 in
theorem lifted (os : Os) (started : os.Started) (H : Type) (enc : TypeId × Value → H) (F : Stop.Interp) :
    ReturnsInHanded {} Try.checked os 6 .any ((OpenSpec.ofChange Rows.shapeBackSpec).preRow enc Try.prog Try.f6 Rows.shapeBackRow.domain false Rows.shapeBackRow.laid) (((OpenSpec.ofChange Rows.shapeBackSpec).at F).post enc Try.prog Try.f6 false true false false) := by
  obtain ⟨places, hx⟩ := reads os enc
  refine returnsInHanded_of_row (C := Try.checked) (s := OpenSpec.ofChange Rows.shapeBackSpec) own started (by kernel_rfl) Try.func6
    (witness_row_atRef (enc := enc) (C := Try.checked) false (laidWorld os) #[.agg #[.slice none 0 0, .int .i64 0, .int .i64 0], .agg #[.int .i64 0, .int .i64 0, .int .i64 0], .agg #[.int .i64 0, .int .i64 0, .int .i64 0]] rfl (by kernel_rfl) (by kernel_rfl) (by kernel_rfl)
      (OpenSpec.preRow_of_cond 8 hx (by kernel_rfl) (fun k hk => by cases hk) (by kernel_rfl) (laidWorld_met os _))) ?_
  intro W base args ds gs before hval hW _ hcond _ hL hsh _
  exact contract H enc W base args ds gs before hval hW

/-- The statement. -/
theorem said : Rows.ShapeBackSaid :=
  OpenClaim.holds_of_cond 6 Try.f6 rfl rfl rfl rfl rfl rfl rfl ⟨rfl, rfl, rfl, rfl, rfl⟩ rfl rfl rfl rfl rfl (by kernel_rfl) Try.func6 (by kernel_rfl)
    (of_decide_eq_true (by kernel_rfl)) (by unfold Func.isWrapper; first | (rw [if_pos (by decide +kernel)]; kernel_rfl) | (rw [if_neg (by decide +kernel)]; exact ⟨rfl, rfl⟩))
    (fun os started H enc _ F => by rw [OpenClaim.pre_eq_preRow]; exact lifted os started H enc F)
end Go.Proofs.Ytagokcjbeaddiaa.LawBack
