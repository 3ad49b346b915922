/-
  ShapeMoved: the walk.
-/
import Derived.Test.YtagokcjbeaddiaaShpZ
namespace Go.Proofs.Ytagokcjbeaddiaa.LawMoved
open Go.RowKit Go.Sort
open Go.RowKit (Below)
set_option linter.unusedVariables false
set_option linter.unusedSimpArgs false

set_option maxRecDepth 100000 in
set_option maxHeartbeats 4000000 in
theorem mvd_1 (A : Option Addr) (C : Nat) (xs ys : List (Int × Int)) (lo hi a b c d e f x y z : Int) (hy : xs.take 20 = ys) (hly : ys.length ≤ 9223372036854775806) (h1 : vv a b c = false) (w : World) (hl : Lp w A C xs) (hm : SlS w A ys) :
    Calls Try.prog 7 #[.agg #[.slice A xs.length C, .int .i64 lo, .int .i64 hi], .agg #[.int .i64 a, .int .i64 b, .int .i64 c], .agg #[.int .i64 d, .int .i64 e, .int .i64 f], .agg #[.int .i64 x, .int .i64 y, .int .i64 z]] w fun e_ w' => e_ = .returned (.bool true) ∧ Below w.heap.size w w' := by
  have HL := Lib.hid hl
  clear hl
  have HM := Lib.hid hm
  clear hm
  go_enter Try.func7, Try.ntmps7
  go_wp2_with fail
  obtain ⟨w1, hw1⟩ : ∃ V, ((((w.alloc (.cells #[.slice A xs.length C, .int .i64 lo, .int .i64 hi] 24)).alloc (.cells #[.int .i64 a, .int .i64 b, .int .i64 c] 26)).alloc (.cells #[.int .i64 d, .int .i64 e, .int .i64 f] 26)).alloc (.cells #[.int .i64 x, .int .i64 y, .int .i64 z] 26)) = V := ⟨_, rfl⟩
  obtain ⟨hB_, kb, kp, kq, ks⟩ := boxes4 _ _ _ _ _ hw1
  rw [hw1]
  clear hw1
  have HB := Lib.hid hB_
  clear hB_
  have b0 := (cells3 kb).1
  have b1 := (cells3 kb).2.1
  have b2 := (cells3 kb).2.2
  have lb := block_lt b0
  have p0 := (cells3 kp).1
  have p1 := (cells3 kp).2.1
  have p2 := (cells3 kp).2.2
  have lp := block_lt p0
  have q0 := (cells3 kq).1
  have q1 := (cells3 kq).2.1
  have q2 := (cells3 kq).2.2
  have lq := block_lt q0
  have s0 := (cells3 ks).1
  have s1 := (cells3 ks).2.1
  have s2 := (cells3 ks).2.2
  have ls := block_lt s0
  with_reducible refine (head_any _).mono ?_
  rintro e_ w2 ⟨rfl, hb⟩
  replace HB := Lib.hid (on_below HB.out hb)
  replace b0 := keepc hb b0
  replace b1 := keepc hb b1
  replace b2 := keepc hb b2
  replace p0 := keepc hb p0
  replace p1 := keepc hb p1
  replace p2 := keepc hb p2
  replace q0 := keepc hb q0
  replace q1 := keepc hb q1
  replace q2 := keepc hb q2
  replace s0 := keepc hb s0
  replace s1 := keepc hb s1
  replace s2 := keepc hb s2
  replace kb := blk_on kb hb
  replace kp := blk_on kp hb
  replace kq := blk_on kq hb
  replace ks := blk_on ks hb
  replace lb := Nat.lt_of_lt_of_le lb hb.size
  replace lp := Nat.lt_of_lt_of_le lp hb.size
  replace lq := Nat.lt_of_lt_of_le lq hb.size
  replace ls := Nat.lt_of_lt_of_le ls hb.size
  clear hb
  go_wp2_with fail
  have CF := Lib.hid (fun W (h : Lp W A C xs) => few_is A C xs lo hi W h)
  rw [hy] at CF
  with_reducible refine (CF.out _ (HL.out.below HB.out)).mono ?_
  rintro e_ w3 ⟨rfl, hb⟩
  replace HB := Lib.hid (on_below HB.out hb)
  replace b0 := keepc hb b0
  replace b1 := keepc hb b1
  replace b2 := keepc hb b2
  replace p0 := keepc hb p0
  replace p1 := keepc hb p1
  replace p2 := keepc hb p2
  replace q0 := keepc hb q0
  replace q1 := keepc hb q1
  replace q2 := keepc hb q2
  replace s0 := keepc hb s0
  replace s1 := keepc hb s1
  replace s2 := keepc hb s2
  replace kb := blk_on kb hb
  replace kp := blk_on kp hb
  replace kq := blk_on kq hb
  replace ks := blk_on ks hb
  replace lb := Nat.lt_of_lt_of_le lb hb.size
  replace lp := Nat.lt_of_lt_of_le lp hb.size
  replace lq := Nat.lt_of_lt_of_le lq hb.size
  replace ls := Nat.lt_of_lt_of_le ls hb.size
  clear hb
  have fb0 : World.frozen? w3 ⟨w.heap.size, 0, none⟩ = false := by simp [World.frozen?, kb]
  have fb1 : World.frozen? w3 ⟨w.heap.size, 1, none⟩ = false := by simp [World.frozen?, kb]
  have fb2 : World.frozen? w3 ⟨w.heap.size, 2, none⟩ = false := by simp [World.frozen?, kb]
  go_wp2_with fail
  clear CF fb0 fb1 fb2 b0 b1 b2 p0 p1 p2 q0 q1 q2 s0 s1 s2 lb lp lq ls
  replace kb : (((w3.setCell ⟨w.heap.size, 0, none⟩ (.slice A ys.length C)).setCell ⟨w.heap.size, 1, none⟩ (.int .i64 lo)).setCell ⟨w.heap.size, 2, none⟩ (.int .i64 hi)).heap[w.heap.size]? = some (.cells #[.slice A ys.length C, .int .i64 lo, .int .i64 hi] 24 (0, 0)) := set_cells (set_cells (set_cells kb 0 _) 1 _) 2 _
  replace kp : (((w3.setCell ⟨w.heap.size, 0, none⟩ (.slice A ys.length C)).setCell ⟨w.heap.size, 1, none⟩ (.int .i64 lo)).setCell ⟨w.heap.size, 2, none⟩ (.int .i64 hi)).heap[w.heap.size + 1]? = _ := blk_far (blk_far (blk_far kp (by omega)) (by omega)) (by omega)
  replace kq : (((w3.setCell ⟨w.heap.size, 0, none⟩ (.slice A ys.length C)).setCell ⟨w.heap.size, 1, none⟩ (.int .i64 lo)).setCell ⟨w.heap.size, 2, none⟩ (.int .i64 hi)).heap[w.heap.size + 1 + 1]? = _ := blk_far (blk_far (blk_far kq (by omega)) (by omega)) (by omega)
  replace ks : (((w3.setCell ⟨w.heap.size, 0, none⟩ (.slice A ys.length C)).setCell ⟨w.heap.size, 1, none⟩ (.int .i64 lo)).setCell ⟨w.heap.size, 2, none⟩ (.int .i64 hi)).heap[w.heap.size + 1 + 1 + 1]? = _ := blk_far (blk_far (blk_far ks (by omega)) (by omega)) (by omega)
  replace HB := Lib.hid (show Below w.heap.size w (((w3.setCell ⟨w.heap.size, 0, none⟩ (.slice A ys.length C)).setCell ⟨w.heap.size, 1, none⟩ (.int .i64 lo)).setCell ⟨w.heap.size, 2, none⟩ (.int .i64 hi)) from ((HB.out.setCell (by simp <;> omega) _).setCell (by simp <;> omega) _).setCell (by simp <;> omega) _)
  generalize (((w3.setCell ⟨w.heap.size, 0, none⟩ (.slice A ys.length C)).setCell ⟨w.heap.size, 1, none⟩ (.int .i64 lo)).setCell ⟨w.heap.size, 2, none⟩ (.int .i64 hi)) = w4 at *
  have b0 := (cells3 kb).1
  have b1 := (cells3 kb).2.1
  have b2 := (cells3 kb).2.2
  have lb := block_lt b0
  have p0 := (cells3 kp).1
  have p1 := (cells3 kp).2.1
  have p2 := (cells3 kp).2.2
  have lp := block_lt p0
  have q0 := (cells3 kq).1
  have q1 := (cells3 kq).2.1
  have q2 := (cells3 kq).2.2
  have lq := block_lt q0
  have s0 := (cells3 ks).1
  have s1 := (cells3 ks).2.1
  have s2 := (cells3 ks).2.2
  have ls := block_lt s0
  go_wp2_with fail
  with_reducible refine (qpoint_is a b c false h1 _).mono ?_
  rintro e_ w5 ⟨rfl, hb⟩
  replace HB := Lib.hid (on_below HB.out hb)
  replace b0 := keepc hb b0
  replace b1 := keepc hb b1
  replace b2 := keepc hb b2
  replace p0 := keepc hb p0
  replace p1 := keepc hb p1
  replace p2 := keepc hb p2
  replace q0 := keepc hb q0
  replace q1 := keepc hb q1
  replace q2 := keepc hb q2
  replace s0 := keepc hb s0
  replace s1 := keepc hb s1
  replace s2 := keepc hb s2
  replace kb := blk_on kb hb
  replace kp := blk_on kp hb
  replace kq := blk_on kq hb
  replace ks := blk_on ks hb
  replace lb := Nat.lt_of_lt_of_le lb hb.size
  replace lp := Nat.lt_of_lt_of_le lp hb.size
  replace lq := Nat.lt_of_lt_of_le lq hb.size
  replace ls := Nat.lt_of_lt_of_le ls hb.size
  clear hb
  go_wp2_with fail
  go_ret
  exact ⟨rfl, HB.out⟩
set_option maxRecDepth 100000 in
set_option maxHeartbeats 4000000 in
theorem mvd_2 (A : Option Addr) (C : Nat) (xs ys : List (Int × Int)) (lo hi a b c d e f x y z : Int) (hy : xs.take 20 = ys) (hly : ys.length ≤ 9223372036854775806) (h1 : vv a b c = true) (h2 : vv d e f = false) (w : World) (hl : Lp w A C xs) (hm : SlS w A ys) :
    Calls Try.prog 7 #[.agg #[.slice A xs.length C, .int .i64 lo, .int .i64 hi], .agg #[.int .i64 a, .int .i64 b, .int .i64 c], .agg #[.int .i64 d, .int .i64 e, .int .i64 f], .agg #[.int .i64 x, .int .i64 y, .int .i64 z]] w fun e_ w' => e_ = .returned (.bool true) ∧ Below w.heap.size w w' := by
  have HL := Lib.hid hl
  clear hl
  have HM := Lib.hid hm
  clear hm
  go_enter Try.func7, Try.ntmps7
  go_wp2_with fail
  obtain ⟨w1, hw1⟩ : ∃ V, ((((w.alloc (.cells #[.slice A xs.length C, .int .i64 lo, .int .i64 hi] 24)).alloc (.cells #[.int .i64 a, .int .i64 b, .int .i64 c] 26)).alloc (.cells #[.int .i64 d, .int .i64 e, .int .i64 f] 26)).alloc (.cells #[.int .i64 x, .int .i64 y, .int .i64 z] 26)) = V := ⟨_, rfl⟩
  obtain ⟨hB_, kb, kp, kq, ks⟩ := boxes4 _ _ _ _ _ hw1
  rw [hw1]
  clear hw1
  have HB := Lib.hid hB_
  clear hB_
  have b0 := (cells3 kb).1
  have b1 := (cells3 kb).2.1
  have b2 := (cells3 kb).2.2
  have lb := block_lt b0
  have p0 := (cells3 kp).1
  have p1 := (cells3 kp).2.1
  have p2 := (cells3 kp).2.2
  have lp := block_lt p0
  have q0 := (cells3 kq).1
  have q1 := (cells3 kq).2.1
  have q2 := (cells3 kq).2.2
  have lq := block_lt q0
  have s0 := (cells3 ks).1
  have s1 := (cells3 ks).2.1
  have s2 := (cells3 ks).2.2
  have ls := block_lt s0
  with_reducible refine (head_any _).mono ?_
  rintro e_ w2 ⟨rfl, hb⟩
  replace HB := Lib.hid (on_below HB.out hb)
  replace b0 := keepc hb b0
  replace b1 := keepc hb b1
  replace b2 := keepc hb b2
  replace p0 := keepc hb p0
  replace p1 := keepc hb p1
  replace p2 := keepc hb p2
  replace q0 := keepc hb q0
  replace q1 := keepc hb q1
  replace q2 := keepc hb q2
  replace s0 := keepc hb s0
  replace s1 := keepc hb s1
  replace s2 := keepc hb s2
  replace kb := blk_on kb hb
  replace kp := blk_on kp hb
  replace kq := blk_on kq hb
  replace ks := blk_on ks hb
  replace lb := Nat.lt_of_lt_of_le lb hb.size
  replace lp := Nat.lt_of_lt_of_le lp hb.size
  replace lq := Nat.lt_of_lt_of_le lq hb.size
  replace ls := Nat.lt_of_lt_of_le ls hb.size
  clear hb
  go_wp2_with fail
  have CF := Lib.hid (fun W (h : Lp W A C xs) => few_is A C xs lo hi W h)
  rw [hy] at CF
  with_reducible refine (CF.out _ (HL.out.below HB.out)).mono ?_
  rintro e_ w3 ⟨rfl, hb⟩
  replace HB := Lib.hid (on_below HB.out hb)
  replace b0 := keepc hb b0
  replace b1 := keepc hb b1
  replace b2 := keepc hb b2
  replace p0 := keepc hb p0
  replace p1 := keepc hb p1
  replace p2 := keepc hb p2
  replace q0 := keepc hb q0
  replace q1 := keepc hb q1
  replace q2 := keepc hb q2
  replace s0 := keepc hb s0
  replace s1 := keepc hb s1
  replace s2 := keepc hb s2
  replace kb := blk_on kb hb
  replace kp := blk_on kp hb
  replace kq := blk_on kq hb
  replace ks := blk_on ks hb
  replace lb := Nat.lt_of_lt_of_le lb hb.size
  replace lp := Nat.lt_of_lt_of_le lp hb.size
  replace lq := Nat.lt_of_lt_of_le lq hb.size
  replace ls := Nat.lt_of_lt_of_le ls hb.size
  clear hb
  have fb0 : World.frozen? w3 ⟨w.heap.size, 0, none⟩ = false := by simp [World.frozen?, kb]
  have fb1 : World.frozen? w3 ⟨w.heap.size, 1, none⟩ = false := by simp [World.frozen?, kb]
  have fb2 : World.frozen? w3 ⟨w.heap.size, 2, none⟩ = false := by simp [World.frozen?, kb]
  go_wp2_with fail
  clear CF fb0 fb1 fb2 b0 b1 b2 p0 p1 p2 q0 q1 q2 s0 s1 s2 lb lp lq ls
  replace kb : (((w3.setCell ⟨w.heap.size, 0, none⟩ (.slice A ys.length C)).setCell ⟨w.heap.size, 1, none⟩ (.int .i64 lo)).setCell ⟨w.heap.size, 2, none⟩ (.int .i64 hi)).heap[w.heap.size]? = some (.cells #[.slice A ys.length C, .int .i64 lo, .int .i64 hi] 24 (0, 0)) := set_cells (set_cells (set_cells kb 0 _) 1 _) 2 _
  replace kp : (((w3.setCell ⟨w.heap.size, 0, none⟩ (.slice A ys.length C)).setCell ⟨w.heap.size, 1, none⟩ (.int .i64 lo)).setCell ⟨w.heap.size, 2, none⟩ (.int .i64 hi)).heap[w.heap.size + 1]? = _ := blk_far (blk_far (blk_far kp (by omega)) (by omega)) (by omega)
  replace kq : (((w3.setCell ⟨w.heap.size, 0, none⟩ (.slice A ys.length C)).setCell ⟨w.heap.size, 1, none⟩ (.int .i64 lo)).setCell ⟨w.heap.size, 2, none⟩ (.int .i64 hi)).heap[w.heap.size + 1 + 1]? = _ := blk_far (blk_far (blk_far kq (by omega)) (by omega)) (by omega)
  replace ks : (((w3.setCell ⟨w.heap.size, 0, none⟩ (.slice A ys.length C)).setCell ⟨w.heap.size, 1, none⟩ (.int .i64 lo)).setCell ⟨w.heap.size, 2, none⟩ (.int .i64 hi)).heap[w.heap.size + 1 + 1 + 1]? = _ := blk_far (blk_far (blk_far ks (by omega)) (by omega)) (by omega)
  replace HB := Lib.hid (show Below w.heap.size w (((w3.setCell ⟨w.heap.size, 0, none⟩ (.slice A ys.length C)).setCell ⟨w.heap.size, 1, none⟩ (.int .i64 lo)).setCell ⟨w.heap.size, 2, none⟩ (.int .i64 hi)) from ((HB.out.setCell (by simp <;> omega) _).setCell (by simp <;> omega) _).setCell (by simp <;> omega) _)
  generalize (((w3.setCell ⟨w.heap.size, 0, none⟩ (.slice A ys.length C)).setCell ⟨w.heap.size, 1, none⟩ (.int .i64 lo)).setCell ⟨w.heap.size, 2, none⟩ (.int .i64 hi)) = w4 at *
  have b0 := (cells3 kb).1
  have b1 := (cells3 kb).2.1
  have b2 := (cells3 kb).2.2
  have lb := block_lt b0
  have p0 := (cells3 kp).1
  have p1 := (cells3 kp).2.1
  have p2 := (cells3 kp).2.2
  have lp := block_lt p0
  have q0 := (cells3 kq).1
  have q1 := (cells3 kq).2.1
  have q2 := (cells3 kq).2.2
  have lq := block_lt q0
  have s0 := (cells3 ks).1
  have s1 := (cells3 ks).2.1
  have s2 := (cells3 ks).2.2
  have ls := block_lt s0
  go_wp2_with fail
  with_reducible refine (qpoint_is a b c true h1 _).mono ?_
  rintro e_ w5 ⟨rfl, hb⟩
  replace HB := Lib.hid (on_below HB.out hb)
  replace b0 := keepc hb b0
  replace b1 := keepc hb b1
  replace b2 := keepc hb b2
  replace p0 := keepc hb p0
  replace p1 := keepc hb p1
  replace p2 := keepc hb p2
  replace q0 := keepc hb q0
  replace q1 := keepc hb q1
  replace q2 := keepc hb q2
  replace s0 := keepc hb s0
  replace s1 := keepc hb s1
  replace s2 := keepc hb s2
  replace kb := blk_on kb hb
  replace kp := blk_on kp hb
  replace kq := blk_on kq hb
  replace ks := blk_on ks hb
  replace lb := Nat.lt_of_lt_of_le lb hb.size
  replace lp := Nat.lt_of_lt_of_le lp hb.size
  replace lq := Nat.lt_of_lt_of_le lq hb.size
  replace ls := Nat.lt_of_lt_of_le ls hb.size
  clear hb
  go_wp2_with fail
  with_reducible refine (qpoint_is d e f false h2 _).mono ?_
  rintro e_ w6 ⟨rfl, hb⟩
  replace HB := Lib.hid (on_below HB.out hb)
  replace b0 := keepc hb b0
  replace b1 := keepc hb b1
  replace b2 := keepc hb b2
  replace p0 := keepc hb p0
  replace p1 := keepc hb p1
  replace p2 := keepc hb p2
  replace q0 := keepc hb q0
  replace q1 := keepc hb q1
  replace q2 := keepc hb q2
  replace s0 := keepc hb s0
  replace s1 := keepc hb s1
  replace s2 := keepc hb s2
  replace kb := blk_on kb hb
  replace kp := blk_on kp hb
  replace kq := blk_on kq hb
  replace ks := blk_on ks hb
  replace lb := Nat.lt_of_lt_of_le lb hb.size
  replace lp := Nat.lt_of_lt_of_le lp hb.size
  replace lq := Nat.lt_of_lt_of_le lq hb.size
  replace ls := Nat.lt_of_lt_of_le ls hb.size
  clear hb
  go_wp2_with fail
  go_ret
  exact ⟨rfl, HB.out⟩
set_option maxRecDepth 100000 in
set_option maxHeartbeats 4000000 in
theorem mvd_3 (A : Option Addr) (C : Nat) (xs ys : List (Int × Int)) (lo hi a b c d e f x y z : Int) (hy : xs.take 20 = ys) (hly : ys.length ≤ 9223372036854775806) (h1 : vv a b c = true) (h2 : vv d e f = true) (h3 : vv x y z = false) (w : World) (hl : Lp w A C xs) (hm : SlS w A ys) :
    Calls Try.prog 7 #[.agg #[.slice A xs.length C, .int .i64 lo, .int .i64 hi], .agg #[.int .i64 a, .int .i64 b, .int .i64 c], .agg #[.int .i64 d, .int .i64 e, .int .i64 f], .agg #[.int .i64 x, .int .i64 y, .int .i64 z]] w fun e_ w' => e_ = .returned (.bool true) ∧ Below w.heap.size w w' := by
  have HL := Lib.hid hl
  clear hl
  have HM := Lib.hid hm
  clear hm
  go_enter Try.func7, Try.ntmps7
  go_wp2_with fail
  obtain ⟨w1, hw1⟩ : ∃ V, ((((w.alloc (.cells #[.slice A xs.length C, .int .i64 lo, .int .i64 hi] 24)).alloc (.cells #[.int .i64 a, .int .i64 b, .int .i64 c] 26)).alloc (.cells #[.int .i64 d, .int .i64 e, .int .i64 f] 26)).alloc (.cells #[.int .i64 x, .int .i64 y, .int .i64 z] 26)) = V := ⟨_, rfl⟩
  obtain ⟨hB_, kb, kp, kq, ks⟩ := boxes4 _ _ _ _ _ hw1
  rw [hw1]
  clear hw1
  have HB := Lib.hid hB_
  clear hB_
  have b0 := (cells3 kb).1
  have b1 := (cells3 kb).2.1
  have b2 := (cells3 kb).2.2
  have lb := block_lt b0
  have p0 := (cells3 kp).1
  have p1 := (cells3 kp).2.1
  have p2 := (cells3 kp).2.2
  have lp := block_lt p0
  have q0 := (cells3 kq).1
  have q1 := (cells3 kq).2.1
  have q2 := (cells3 kq).2.2
  have lq := block_lt q0
  have s0 := (cells3 ks).1
  have s1 := (cells3 ks).2.1
  have s2 := (cells3 ks).2.2
  have ls := block_lt s0
  with_reducible refine (head_any _).mono ?_
  rintro e_ w2 ⟨rfl, hb⟩
  replace HB := Lib.hid (on_below HB.out hb)
  replace b0 := keepc hb b0
  replace b1 := keepc hb b1
  replace b2 := keepc hb b2
  replace p0 := keepc hb p0
  replace p1 := keepc hb p1
  replace p2 := keepc hb p2
  replace q0 := keepc hb q0
  replace q1 := keepc hb q1
  replace q2 := keepc hb q2
  replace s0 := keepc hb s0
  replace s1 := keepc hb s1
  replace s2 := keepc hb s2
  replace kb := blk_on kb hb
  replace kp := blk_on kp hb
  replace kq := blk_on kq hb
  replace ks := blk_on ks hb
  replace lb := Nat.lt_of_lt_of_le lb hb.size
  replace lp := Nat.lt_of_lt_of_le lp hb.size
  replace lq := Nat.lt_of_lt_of_le lq hb.size
  replace ls := Nat.lt_of_lt_of_le ls hb.size
  clear hb
  go_wp2_with fail
  have CF := Lib.hid (fun W (h : Lp W A C xs) => few_is A C xs lo hi W h)
  rw [hy] at CF
  with_reducible refine (CF.out _ (HL.out.below HB.out)).mono ?_
  rintro e_ w3 ⟨rfl, hb⟩
  replace HB := Lib.hid (on_below HB.out hb)
  replace b0 := keepc hb b0
  replace b1 := keepc hb b1
  replace b2 := keepc hb b2
  replace p0 := keepc hb p0
  replace p1 := keepc hb p1
  replace p2 := keepc hb p2
  replace q0 := keepc hb q0
  replace q1 := keepc hb q1
  replace q2 := keepc hb q2
  replace s0 := keepc hb s0
  replace s1 := keepc hb s1
  replace s2 := keepc hb s2
  replace kb := blk_on kb hb
  replace kp := blk_on kp hb
  replace kq := blk_on kq hb
  replace ks := blk_on ks hb
  replace lb := Nat.lt_of_lt_of_le lb hb.size
  replace lp := Nat.lt_of_lt_of_le lp hb.size
  replace lq := Nat.lt_of_lt_of_le lq hb.size
  replace ls := Nat.lt_of_lt_of_le ls hb.size
  clear hb
  have fb0 : World.frozen? w3 ⟨w.heap.size, 0, none⟩ = false := by simp [World.frozen?, kb]
  have fb1 : World.frozen? w3 ⟨w.heap.size, 1, none⟩ = false := by simp [World.frozen?, kb]
  have fb2 : World.frozen? w3 ⟨w.heap.size, 2, none⟩ = false := by simp [World.frozen?, kb]
  go_wp2_with fail
  clear CF fb0 fb1 fb2 b0 b1 b2 p0 p1 p2 q0 q1 q2 s0 s1 s2 lb lp lq ls
  replace kb : (((w3.setCell ⟨w.heap.size, 0, none⟩ (.slice A ys.length C)).setCell ⟨w.heap.size, 1, none⟩ (.int .i64 lo)).setCell ⟨w.heap.size, 2, none⟩ (.int .i64 hi)).heap[w.heap.size]? = some (.cells #[.slice A ys.length C, .int .i64 lo, .int .i64 hi] 24 (0, 0)) := set_cells (set_cells (set_cells kb 0 _) 1 _) 2 _
  replace kp : (((w3.setCell ⟨w.heap.size, 0, none⟩ (.slice A ys.length C)).setCell ⟨w.heap.size, 1, none⟩ (.int .i64 lo)).setCell ⟨w.heap.size, 2, none⟩ (.int .i64 hi)).heap[w.heap.size + 1]? = _ := blk_far (blk_far (blk_far kp (by omega)) (by omega)) (by omega)
  replace kq : (((w3.setCell ⟨w.heap.size, 0, none⟩ (.slice A ys.length C)).setCell ⟨w.heap.size, 1, none⟩ (.int .i64 lo)).setCell ⟨w.heap.size, 2, none⟩ (.int .i64 hi)).heap[w.heap.size + 1 + 1]? = _ := blk_far (blk_far (blk_far kq (by omega)) (by omega)) (by omega)
  replace ks : (((w3.setCell ⟨w.heap.size, 0, none⟩ (.slice A ys.length C)).setCell ⟨w.heap.size, 1, none⟩ (.int .i64 lo)).setCell ⟨w.heap.size, 2, none⟩ (.int .i64 hi)).heap[w.heap.size + 1 + 1 + 1]? = _ := blk_far (blk_far (blk_far ks (by omega)) (by omega)) (by omega)
  replace HB := Lib.hid (show Below w.heap.size w (((w3.setCell ⟨w.heap.size, 0, none⟩ (.slice A ys.length C)).setCell ⟨w.heap.size, 1, none⟩ (.int .i64 lo)).setCell ⟨w.heap.size, 2, none⟩ (.int .i64 hi)) from ((HB.out.setCell (by simp <;> omega) _).setCell (by simp <;> omega) _).setCell (by simp <;> omega) _)
  generalize (((w3.setCell ⟨w.heap.size, 0, none⟩ (.slice A ys.length C)).setCell ⟨w.heap.size, 1, none⟩ (.int .i64 lo)).setCell ⟨w.heap.size, 2, none⟩ (.int .i64 hi)) = w4 at *
  have b0 := (cells3 kb).1
  have b1 := (cells3 kb).2.1
  have b2 := (cells3 kb).2.2
  have lb := block_lt b0
  have p0 := (cells3 kp).1
  have p1 := (cells3 kp).2.1
  have p2 := (cells3 kp).2.2
  have lp := block_lt p0
  have q0 := (cells3 kq).1
  have q1 := (cells3 kq).2.1
  have q2 := (cells3 kq).2.2
  have lq := block_lt q0
  have s0 := (cells3 ks).1
  have s1 := (cells3 ks).2.1
  have s2 := (cells3 ks).2.2
  have ls := block_lt s0
  go_wp2_with fail
  with_reducible refine (qpoint_is a b c true h1 _).mono ?_
  rintro e_ w5 ⟨rfl, hb⟩
  replace HB := Lib.hid (on_below HB.out hb)
  replace b0 := keepc hb b0
  replace b1 := keepc hb b1
  replace b2 := keepc hb b2
  replace p0 := keepc hb p0
  replace p1 := keepc hb p1
  replace p2 := keepc hb p2
  replace q0 := keepc hb q0
  replace q1 := keepc hb q1
  replace q2 := keepc hb q2
  replace s0 := keepc hb s0
  replace s1 := keepc hb s1
  replace s2 := keepc hb s2
  replace kb := blk_on kb hb
  replace kp := blk_on kp hb
  replace kq := blk_on kq hb
  replace ks := blk_on ks hb
  replace lb := Nat.lt_of_lt_of_le lb hb.size
  replace lp := Nat.lt_of_lt_of_le lp hb.size
  replace lq := Nat.lt_of_lt_of_le lq hb.size
  replace ls := Nat.lt_of_lt_of_le ls hb.size
  clear hb
  go_wp2_with fail
  with_reducible refine (qpoint_is d e f true h2 _).mono ?_
  rintro e_ w6 ⟨rfl, hb⟩
  replace HB := Lib.hid (on_below HB.out hb)
  replace b0 := keepc hb b0
  replace b1 := keepc hb b1
  replace b2 := keepc hb b2
  replace p0 := keepc hb p0
  replace p1 := keepc hb p1
  replace p2 := keepc hb p2
  replace q0 := keepc hb q0
  replace q1 := keepc hb q1
  replace q2 := keepc hb q2
  replace s0 := keepc hb s0
  replace s1 := keepc hb s1
  replace s2 := keepc hb s2
  replace kb := blk_on kb hb
  replace kp := blk_on kp hb
  replace kq := blk_on kq hb
  replace ks := blk_on ks hb
  replace lb := Nat.lt_of_lt_of_le lb hb.size
  replace lp := Nat.lt_of_lt_of_le lp hb.size
  replace lq := Nat.lt_of_lt_of_le lq hb.size
  replace ls := Nat.lt_of_lt_of_le ls hb.size
  clear hb
  go_wp2_with fail
  with_reducible refine (qpoint_is x y z false h3 _).mono ?_
  rintro e_ w7 ⟨rfl, hb⟩
  replace HB := Lib.hid (on_below HB.out hb)
  replace b0 := keepc hb b0
  replace b1 := keepc hb b1
  replace b2 := keepc hb b2
  replace p0 := keepc hb p0
  replace p1 := keepc hb p1
  replace p2 := keepc hb p2
  replace q0 := keepc hb q0
  replace q1 := keepc hb q1
  replace q2 := keepc hb q2
  replace s0 := keepc hb s0
  replace s1 := keepc hb s1
  replace s2 := keepc hb s2
  replace kb := blk_on kb hb
  replace kp := blk_on kp hb
  replace kq := blk_on kq hb
  replace ks := blk_on ks hb
  replace lb := Nat.lt_of_lt_of_le lb hb.size
  replace lp := Nat.lt_of_lt_of_le lp hb.size
  replace lq := Nat.lt_of_lt_of_le lq hb.size
  replace ls := Nat.lt_of_lt_of_le ls hb.size
  clear hb
  go_wp2_with fail
  go_ret
  exact ⟨rfl, HB.out⟩
set_option maxRecDepth 100000 in
set_option maxHeartbeats 4000000 in
theorem mvd_4 (A : Option Addr) (C : Nat) (xs ys : List (Int × Int)) (lo hi a b c d e f x y z : Int) (hy : xs.take 20 = ys) (hly : ys.length ≤ 9223372036854775806) (h1 : vv a b c = true) (h2 : vv d e f = true) (h3 : vv x y z = true) (h4 : MvE ys lo hi x y z 1) (h5 : false = true ↔ Bok ys lo hi) (w : World) (hl : Lp w A C xs) (hm : SlS w A ys) :
    Calls Try.prog 7 #[.agg #[.slice A xs.length C, .int .i64 lo, .int .i64 hi], .agg #[.int .i64 a, .int .i64 b, .int .i64 c], .agg #[.int .i64 d, .int .i64 e, .int .i64 f], .agg #[.int .i64 x, .int .i64 y, .int .i64 z]] w fun e_ w' => e_ = .returned (.bool true) ∧ Below w.heap.size w w' := by
  have HL := Lib.hid hl
  clear hl
  have HM := Lib.hid hm
  clear hm
  have C1 := Lib.hid (fun W (h : SlS W A ys) => move_no A C ys lo hi x y z 1 hly h4 (by decide) W h)
  have C2 := Lib.hid (fun W (h : SlS W A ys) => qvalid_is A C ys lo hi (by omega) false h5 W h)
  clear h4 h5
  go_enter Try.func7, Try.ntmps7
  go_wp2_with fail
  obtain ⟨w1, hw1⟩ : ∃ V, ((((w.alloc (.cells #[.slice A xs.length C, .int .i64 lo, .int .i64 hi] 24)).alloc (.cells #[.int .i64 a, .int .i64 b, .int .i64 c] 26)).alloc (.cells #[.int .i64 d, .int .i64 e, .int .i64 f] 26)).alloc (.cells #[.int .i64 x, .int .i64 y, .int .i64 z] 26)) = V := ⟨_, rfl⟩
  obtain ⟨hB_, kb, kp, kq, ks⟩ := boxes4 _ _ _ _ _ hw1
  rw [hw1]
  clear hw1
  have HB := Lib.hid hB_
  clear hB_
  have b0 := (cells3 kb).1
  have b1 := (cells3 kb).2.1
  have b2 := (cells3 kb).2.2
  have lb := block_lt b0
  have p0 := (cells3 kp).1
  have p1 := (cells3 kp).2.1
  have p2 := (cells3 kp).2.2
  have lp := block_lt p0
  have q0 := (cells3 kq).1
  have q1 := (cells3 kq).2.1
  have q2 := (cells3 kq).2.2
  have lq := block_lt q0
  have s0 := (cells3 ks).1
  have s1 := (cells3 ks).2.1
  have s2 := (cells3 ks).2.2
  have ls := block_lt s0
  with_reducible refine (head_any _).mono ?_
  rintro e_ w2 ⟨rfl, hb⟩
  replace HB := Lib.hid (on_below HB.out hb)
  replace b0 := keepc hb b0
  replace b1 := keepc hb b1
  replace b2 := keepc hb b2
  replace p0 := keepc hb p0
  replace p1 := keepc hb p1
  replace p2 := keepc hb p2
  replace q0 := keepc hb q0
  replace q1 := keepc hb q1
  replace q2 := keepc hb q2
  replace s0 := keepc hb s0
  replace s1 := keepc hb s1
  replace s2 := keepc hb s2
  replace kb := blk_on kb hb
  replace kp := blk_on kp hb
  replace kq := blk_on kq hb
  replace ks := blk_on ks hb
  replace lb := Nat.lt_of_lt_of_le lb hb.size
  replace lp := Nat.lt_of_lt_of_le lp hb.size
  replace lq := Nat.lt_of_lt_of_le lq hb.size
  replace ls := Nat.lt_of_lt_of_le ls hb.size
  clear hb
  go_wp2_with fail
  have CF := Lib.hid (fun W (h : Lp W A C xs) => few_is A C xs lo hi W h)
  rw [hy] at CF
  with_reducible refine (CF.out _ (HL.out.below HB.out)).mono ?_
  rintro e_ w3 ⟨rfl, hb⟩
  replace HB := Lib.hid (on_below HB.out hb)
  replace b0 := keepc hb b0
  replace b1 := keepc hb b1
  replace b2 := keepc hb b2
  replace p0 := keepc hb p0
  replace p1 := keepc hb p1
  replace p2 := keepc hb p2
  replace q0 := keepc hb q0
  replace q1 := keepc hb q1
  replace q2 := keepc hb q2
  replace s0 := keepc hb s0
  replace s1 := keepc hb s1
  replace s2 := keepc hb s2
  replace kb := blk_on kb hb
  replace kp := blk_on kp hb
  replace kq := blk_on kq hb
  replace ks := blk_on ks hb
  replace lb := Nat.lt_of_lt_of_le lb hb.size
  replace lp := Nat.lt_of_lt_of_le lp hb.size
  replace lq := Nat.lt_of_lt_of_le lq hb.size
  replace ls := Nat.lt_of_lt_of_le ls hb.size
  clear hb
  have fb0 : World.frozen? w3 ⟨w.heap.size, 0, none⟩ = false := by simp [World.frozen?, kb]
  have fb1 : World.frozen? w3 ⟨w.heap.size, 1, none⟩ = false := by simp [World.frozen?, kb]
  have fb2 : World.frozen? w3 ⟨w.heap.size, 2, none⟩ = false := by simp [World.frozen?, kb]
  go_wp2_with fail
  clear CF fb0 fb1 fb2 b0 b1 b2 p0 p1 p2 q0 q1 q2 s0 s1 s2 lb lp lq ls
  replace kb : (((w3.setCell ⟨w.heap.size, 0, none⟩ (.slice A ys.length C)).setCell ⟨w.heap.size, 1, none⟩ (.int .i64 lo)).setCell ⟨w.heap.size, 2, none⟩ (.int .i64 hi)).heap[w.heap.size]? = some (.cells #[.slice A ys.length C, .int .i64 lo, .int .i64 hi] 24 (0, 0)) := set_cells (set_cells (set_cells kb 0 _) 1 _) 2 _
  replace kp : (((w3.setCell ⟨w.heap.size, 0, none⟩ (.slice A ys.length C)).setCell ⟨w.heap.size, 1, none⟩ (.int .i64 lo)).setCell ⟨w.heap.size, 2, none⟩ (.int .i64 hi)).heap[w.heap.size + 1]? = _ := blk_far (blk_far (blk_far kp (by omega)) (by omega)) (by omega)
  replace kq : (((w3.setCell ⟨w.heap.size, 0, none⟩ (.slice A ys.length C)).setCell ⟨w.heap.size, 1, none⟩ (.int .i64 lo)).setCell ⟨w.heap.size, 2, none⟩ (.int .i64 hi)).heap[w.heap.size + 1 + 1]? = _ := blk_far (blk_far (blk_far kq (by omega)) (by omega)) (by omega)
  replace ks : (((w3.setCell ⟨w.heap.size, 0, none⟩ (.slice A ys.length C)).setCell ⟨w.heap.size, 1, none⟩ (.int .i64 lo)).setCell ⟨w.heap.size, 2, none⟩ (.int .i64 hi)).heap[w.heap.size + 1 + 1 + 1]? = _ := blk_far (blk_far (blk_far ks (by omega)) (by omega)) (by omega)
  replace HB := Lib.hid (show Below w.heap.size w (((w3.setCell ⟨w.heap.size, 0, none⟩ (.slice A ys.length C)).setCell ⟨w.heap.size, 1, none⟩ (.int .i64 lo)).setCell ⟨w.heap.size, 2, none⟩ (.int .i64 hi)) from ((HB.out.setCell (by simp <;> omega) _).setCell (by simp <;> omega) _).setCell (by simp <;> omega) _)
  generalize (((w3.setCell ⟨w.heap.size, 0, none⟩ (.slice A ys.length C)).setCell ⟨w.heap.size, 1, none⟩ (.int .i64 lo)).setCell ⟨w.heap.size, 2, none⟩ (.int .i64 hi)) = w4 at *
  have b0 := (cells3 kb).1
  have b1 := (cells3 kb).2.1
  have b2 := (cells3 kb).2.2
  have lb := block_lt b0
  have p0 := (cells3 kp).1
  have p1 := (cells3 kp).2.1
  have p2 := (cells3 kp).2.2
  have lp := block_lt p0
  have q0 := (cells3 kq).1
  have q1 := (cells3 kq).2.1
  have q2 := (cells3 kq).2.2
  have lq := block_lt q0
  have s0 := (cells3 ks).1
  have s1 := (cells3 ks).2.1
  have s2 := (cells3 ks).2.2
  have ls := block_lt s0
  go_wp2_with fail
  with_reducible refine (qpoint_is a b c true h1 _).mono ?_
  rintro e_ w5 ⟨rfl, hb⟩
  replace HB := Lib.hid (on_below HB.out hb)
  replace b0 := keepc hb b0
  replace b1 := keepc hb b1
  replace b2 := keepc hb b2
  replace p0 := keepc hb p0
  replace p1 := keepc hb p1
  replace p2 := keepc hb p2
  replace q0 := keepc hb q0
  replace q1 := keepc hb q1
  replace q2 := keepc hb q2
  replace s0 := keepc hb s0
  replace s1 := keepc hb s1
  replace s2 := keepc hb s2
  replace kb := blk_on kb hb
  replace kp := blk_on kp hb
  replace kq := blk_on kq hb
  replace ks := blk_on ks hb
  replace lb := Nat.lt_of_lt_of_le lb hb.size
  replace lp := Nat.lt_of_lt_of_le lp hb.size
  replace lq := Nat.lt_of_lt_of_le lq hb.size
  replace ls := Nat.lt_of_lt_of_le ls hb.size
  clear hb
  go_wp2_with fail
  with_reducible refine (qpoint_is d e f true h2 _).mono ?_
  rintro e_ w6 ⟨rfl, hb⟩
  replace HB := Lib.hid (on_below HB.out hb)
  replace b0 := keepc hb b0
  replace b1 := keepc hb b1
  replace b2 := keepc hb b2
  replace p0 := keepc hb p0
  replace p1 := keepc hb p1
  replace p2 := keepc hb p2
  replace q0 := keepc hb q0
  replace q1 := keepc hb q1
  replace q2 := keepc hb q2
  replace s0 := keepc hb s0
  replace s1 := keepc hb s1
  replace s2 := keepc hb s2
  replace kb := blk_on kb hb
  replace kp := blk_on kp hb
  replace kq := blk_on kq hb
  replace ks := blk_on ks hb
  replace lb := Nat.lt_of_lt_of_le lb hb.size
  replace lp := Nat.lt_of_lt_of_le lp hb.size
  replace lq := Nat.lt_of_lt_of_le lq hb.size
  replace ls := Nat.lt_of_lt_of_le ls hb.size
  clear hb
  go_wp2_with fail
  with_reducible refine (qpoint_is x y z true h3 _).mono ?_
  rintro e_ w7 ⟨rfl, hb⟩
  replace HB := Lib.hid (on_below HB.out hb)
  replace b0 := keepc hb b0
  replace b1 := keepc hb b1
  replace b2 := keepc hb b2
  replace p0 := keepc hb p0
  replace p1 := keepc hb p1
  replace p2 := keepc hb p2
  replace q0 := keepc hb q0
  replace q1 := keepc hb q1
  replace q2 := keepc hb q2
  replace s0 := keepc hb s0
  replace s1 := keepc hb s1
  replace s2 := keepc hb s2
  replace kb := blk_on kb hb
  replace kp := blk_on kp hb
  replace kq := blk_on kq hb
  replace ks := blk_on ks hb
  replace lb := Nat.lt_of_lt_of_le lb hb.size
  replace lp := Nat.lt_of_lt_of_le lp hb.size
  replace lq := Nat.lt_of_lt_of_le lq hb.size
  replace ls := Nat.lt_of_lt_of_le ls hb.size
  clear hb
  go_wp2_with fail
  with_reducible refine (along_p a b c x y z (vv_iff.1 h1) (vv_iff.1 h3) _).mono ?_
  rintro e_ w8 ⟨rfl, hb⟩
  replace HB := Lib.hid (on_below HB.out hb)
  replace b0 := keepc hb b0
  replace b1 := keepc hb b1
  replace b2 := keepc hb b2
  replace p0 := keepc hb p0
  replace p1 := keepc hb p1
  replace p2 := keepc hb p2
  replace q0 := keepc hb q0
  replace q1 := keepc hb q1
  replace q2 := keepc hb q2
  replace s0 := keepc hb s0
  replace s1 := keepc hb s1
  replace s2 := keepc hb s2
  replace kb := blk_on kb hb
  replace kp := blk_on kp hb
  replace kq := blk_on kq hb
  replace ks := blk_on ks hb
  replace lb := Nat.lt_of_lt_of_le lb hb.size
  replace lp := Nat.lt_of_lt_of_le lp hb.size
  replace lq := Nat.lt_of_lt_of_le lq hb.size
  replace ls := Nat.lt_of_lt_of_le ls hb.size
  clear hb
  go_wp2_with fail
  have m0 : World.cell? (w8.alloc (.cells #[.int .i64 (a + x), .int .i64 (b + y), .int .i64 (c + z)] 26)) ⟨w8.heap.size, 0, none⟩ = some (.int .i64 (a + x)) := by simp [go_sem]
  have m1 : World.cell? (w8.alloc (.cells #[.int .i64 (a + x), .int .i64 (b + y), .int .i64 (c + z)] 26)) ⟨w8.heap.size, 1, none⟩ = some (.int .i64 (b + y)) := by simp [go_sem]
  have m2 : World.cell? (w8.alloc (.cells #[.int .i64 (a + x), .int .i64 (b + y), .int .i64 (c + z)] 26)) ⟨w8.heap.size, 2, none⟩ = some (.int .i64 (c + z)) := by simp [go_sem]
  have lm : w8.heap.size < (w8.alloc (.cells #[.int .i64 (a + x), .int .i64 (b + y), .int .i64 (c + z)] 26)).heap.size := by simp
  have hb : Below w8.heap.size w8 (w8.alloc (.cells #[.int .i64 (a + x), .int .i64 (b + y), .int .i64 (c + z)] 26)) := below_new _ _
  generalize w8.alloc (.cells #[.int .i64 (a + x), .int .i64 (b + y), .int .i64 (c + z)] 26) = w9 at *
  replace HB := Lib.hid (on_below HB.out hb)
  replace b0 := keepc hb b0
  replace b1 := keepc hb b1
  replace b2 := keepc hb b2
  replace p0 := keepc hb p0
  replace p1 := keepc hb p1
  replace p2 := keepc hb p2
  replace q0 := keepc hb q0
  replace q1 := keepc hb q1
  replace q2 := keepc hb q2
  replace s0 := keepc hb s0
  replace s1 := keepc hb s1
  replace s2 := keepc hb s2
  replace kb := blk_on kb hb
  replace kp := blk_on kp hb
  replace kq := blk_on kq hb
  replace ks := blk_on ks hb
  replace lb := Nat.lt_of_lt_of_le lb hb.size
  replace lp := Nat.lt_of_lt_of_le lp hb.size
  replace lq := Nat.lt_of_lt_of_le lq hb.size
  replace ls := Nat.lt_of_lt_of_le ls hb.size
  clear hb
  generalize w8.heap.size = gm at *
  go_wp2_with fail
  with_reducible refine (along_p d e f x y z (vv_iff.1 h2) (vv_iff.1 h3) _).mono ?_
  rintro e_ w10 ⟨rfl, hb⟩
  replace HB := Lib.hid (on_below HB.out hb)
  replace b0 := keepc hb b0
  replace b1 := keepc hb b1
  replace b2 := keepc hb b2
  replace p0 := keepc hb p0
  replace p1 := keepc hb p1
  replace p2 := keepc hb p2
  replace q0 := keepc hb q0
  replace q1 := keepc hb q1
  replace q2 := keepc hb q2
  replace s0 := keepc hb s0
  replace s1 := keepc hb s1
  replace s2 := keepc hb s2
  replace m0 := keepc hb m0
  replace m1 := keepc hb m1
  replace m2 := keepc hb m2
  replace kb := blk_on kb hb
  replace kp := blk_on kp hb
  replace kq := blk_on kq hb
  replace ks := blk_on ks hb
  replace lb := Nat.lt_of_lt_of_le lb hb.size
  replace lp := Nat.lt_of_lt_of_le lp hb.size
  replace lq := Nat.lt_of_lt_of_le lq hb.size
  replace ls := Nat.lt_of_lt_of_le ls hb.size
  replace lm := Nat.lt_of_lt_of_le lm hb.size
  clear hb
  go_wp2_with fail
  have n0 : World.cell? (w10.alloc (.cells #[.int .i64 (d + x), .int .i64 (e + y), .int .i64 (f + z)] 26)) ⟨w10.heap.size, 0, none⟩ = some (.int .i64 (d + x)) := by simp [go_sem]
  have n1 : World.cell? (w10.alloc (.cells #[.int .i64 (d + x), .int .i64 (e + y), .int .i64 (f + z)] 26)) ⟨w10.heap.size, 1, none⟩ = some (.int .i64 (e + y)) := by simp [go_sem]
  have n2 : World.cell? (w10.alloc (.cells #[.int .i64 (d + x), .int .i64 (e + y), .int .i64 (f + z)] 26)) ⟨w10.heap.size, 2, none⟩ = some (.int .i64 (f + z)) := by simp [go_sem]
  have ln : w10.heap.size < (w10.alloc (.cells #[.int .i64 (d + x), .int .i64 (e + y), .int .i64 (f + z)] 26)).heap.size := by simp
  have hb : Below w10.heap.size w10 (w10.alloc (.cells #[.int .i64 (d + x), .int .i64 (e + y), .int .i64 (f + z)] 26)) := below_new _ _
  generalize w10.alloc (.cells #[.int .i64 (d + x), .int .i64 (e + y), .int .i64 (f + z)] 26) = w11 at *
  replace HB := Lib.hid (on_below HB.out hb)
  replace b0 := keepc hb b0
  replace b1 := keepc hb b1
  replace b2 := keepc hb b2
  replace p0 := keepc hb p0
  replace p1 := keepc hb p1
  replace p2 := keepc hb p2
  replace q0 := keepc hb q0
  replace q1 := keepc hb q1
  replace q2 := keepc hb q2
  replace s0 := keepc hb s0
  replace s1 := keepc hb s1
  replace s2 := keepc hb s2
  replace m0 := keepc hb m0
  replace m1 := keepc hb m1
  replace m2 := keepc hb m2
  replace kb := blk_on kb hb
  replace kp := blk_on kp hb
  replace kq := blk_on kq hb
  replace ks := blk_on ks hb
  replace lb := Nat.lt_of_lt_of_le lb hb.size
  replace lp := Nat.lt_of_lt_of_le lp hb.size
  replace lq := Nat.lt_of_lt_of_le lq hb.size
  replace ls := Nat.lt_of_lt_of_le ls hb.size
  replace lm := Nat.lt_of_lt_of_le lm hb.size
  clear hb
  generalize w10.heap.size = gn at *
  go_wp2_with fail
  with_reducible refine (C1.out _ (HM.out.below HB.out)).mono ?_
  rintro e_ w12 ⟨rfl, hb⟩
  replace HB := Lib.hid (on_below HB.out hb)
  replace b0 := keepc hb b0
  replace b1 := keepc hb b1
  replace b2 := keepc hb b2
  replace p0 := keepc hb p0
  replace p1 := keepc hb p1
  replace p2 := keepc hb p2
  replace q0 := keepc hb q0
  replace q1 := keepc hb q1
  replace q2 := keepc hb q2
  replace s0 := keepc hb s0
  replace s1 := keepc hb s1
  replace s2 := keepc hb s2
  replace m0 := keepc hb m0
  replace m1 := keepc hb m1
  replace m2 := keepc hb m2
  replace n0 := keepc hb n0
  replace n1 := keepc hb n1
  replace n2 := keepc hb n2
  replace kb := blk_on kb hb
  replace kp := blk_on kp hb
  replace kq := blk_on kq hb
  replace ks := blk_on ks hb
  replace lb := Nat.lt_of_lt_of_le lb hb.size
  replace lp := Nat.lt_of_lt_of_le lp hb.size
  replace lq := Nat.lt_of_lt_of_le lq hb.size
  replace ls := Nat.lt_of_lt_of_le ls hb.size
  replace lm := Nat.lt_of_lt_of_le lm hb.size
  replace ln := Nat.lt_of_lt_of_le ln hb.size
  clear hb
  go_wp2_with fail
  have c0 : World.cell? (w12.alloc (.cells #[.slice none 0 0, .int .i64 0, .int .i64 0] 24)) ⟨w12.heap.size, 0, none⟩ = some (.slice none 0 0) := by simp [go_sem]
  have c1 : World.cell? (w12.alloc (.cells #[.slice none 0 0, .int .i64 0, .int .i64 0] 24)) ⟨w12.heap.size, 1, none⟩ = some (.int .i64 0) := by simp [go_sem]
  have c2 : World.cell? (w12.alloc (.cells #[.slice none 0 0, .int .i64 0, .int .i64 0] 24)) ⟨w12.heap.size, 2, none⟩ = some (.int .i64 0) := by simp [go_sem]
  have lc : w12.heap.size < (w12.alloc (.cells #[.slice none 0 0, .int .i64 0, .int .i64 0] 24)).heap.size := by simp
  have hb : Below w12.heap.size w12 (w12.alloc (.cells #[.slice none 0 0, .int .i64 0, .int .i64 0] 24)) := below_new _ _
  generalize w12.alloc (.cells #[.slice none 0 0, .int .i64 0, .int .i64 0] 24) = w13 at *
  replace HB := Lib.hid (on_below HB.out hb)
  replace b0 := keepc hb b0
  replace b1 := keepc hb b1
  replace b2 := keepc hb b2
  replace p0 := keepc hb p0
  replace p1 := keepc hb p1
  replace p2 := keepc hb p2
  replace q0 := keepc hb q0
  replace q1 := keepc hb q1
  replace q2 := keepc hb q2
  replace s0 := keepc hb s0
  replace s1 := keepc hb s1
  replace s2 := keepc hb s2
  replace m0 := keepc hb m0
  replace m1 := keepc hb m1
  replace m2 := keepc hb m2
  replace n0 := keepc hb n0
  replace n1 := keepc hb n1
  replace n2 := keepc hb n2
  replace kb := blk_on kb hb
  replace kp := blk_on kp hb
  replace kq := blk_on kq hb
  replace ks := blk_on ks hb
  replace lb := Nat.lt_of_lt_of_le lb hb.size
  replace lp := Nat.lt_of_lt_of_le lp hb.size
  replace lq := Nat.lt_of_lt_of_le lq hb.size
  replace ls := Nat.lt_of_lt_of_le ls hb.size
  replace lm := Nat.lt_of_lt_of_le lm hb.size
  replace ln := Nat.lt_of_lt_of_le ln hb.size
  clear hb
  generalize w12.heap.size = gc at *
  go_wp2_with fail
  with_reducible refine (C2.out _ (HM.out.below HB.out)).mono ?_
  rintro e_ w14 ⟨rfl, hb⟩
  replace HB := Lib.hid (on_below HB.out hb)
  replace b0 := keepc hb b0
  replace b1 := keepc hb b1
  replace b2 := keepc hb b2
  replace p0 := keepc hb p0
  replace p1 := keepc hb p1
  replace p2 := keepc hb p2
  replace q0 := keepc hb q0
  replace q1 := keepc hb q1
  replace q2 := keepc hb q2
  replace s0 := keepc hb s0
  replace s1 := keepc hb s1
  replace s2 := keepc hb s2
  replace m0 := keepc hb m0
  replace m1 := keepc hb m1
  replace m2 := keepc hb m2
  replace n0 := keepc hb n0
  replace n1 := keepc hb n1
  replace n2 := keepc hb n2
  replace c0 := keepc hb c0
  replace c1 := keepc hb c1
  replace c2 := keepc hb c2
  replace kb := blk_on kb hb
  replace kp := blk_on kp hb
  replace kq := blk_on kq hb
  replace ks := blk_on ks hb
  replace lb := Nat.lt_of_lt_of_le lb hb.size
  replace lp := Nat.lt_of_lt_of_le lp hb.size
  replace lq := Nat.lt_of_lt_of_le lq hb.size
  replace ls := Nat.lt_of_lt_of_le ls hb.size
  replace lm := Nat.lt_of_lt_of_le lm hb.size
  replace ln := Nat.lt_of_lt_of_le ln hb.size
  replace lc := Nat.lt_of_lt_of_le lc hb.size
  clear hb
  go_wp2_with fail
  go_ret
  exact ⟨rfl, HB.out⟩
set_option maxRecDepth 100000 in
set_option maxHeartbeats 4000000 in
theorem mvd_5 (A : Option Addr) (C : Nat) (xs ys : List (Int × Int)) (lo hi a b c d e f x y z : Int) (hy : xs.take 20 = ys) (hly : ys.length ≤ 9223372036854775806) (h1 : vv a b c = true) (h2 : vv d e f = true) (h3 : vv x y z = true) (h4 : MvE ys lo hi x y z 3) (h5 : true = true ↔ Bok ys lo hi) (w : World) (hl : Lp w A C xs) (hm : SlS w A ys) :
    Calls Try.prog 7 #[.agg #[.slice A xs.length C, .int .i64 lo, .int .i64 hi], .agg #[.int .i64 a, .int .i64 b, .int .i64 c], .agg #[.int .i64 d, .int .i64 e, .int .i64 f], .agg #[.int .i64 x, .int .i64 y, .int .i64 z]] w fun e_ w' => e_ = .returned (.bool true) ∧ Below w.heap.size w w' := by
  have HL := Lib.hid hl
  clear hl
  have HM := Lib.hid hm
  clear hm
  have C1 := Lib.hid (fun W (h : SlS W A ys) => move_no A C ys lo hi x y z 3 hly h4 (by decide) W h)
  have C2 := Lib.hid (fun W (h : SlS W A ys) => qvalid_is A C ys lo hi (by omega) true h5 W h)
  clear h4 h5
  go_enter Try.func7, Try.ntmps7
  go_wp2_with fail
  obtain ⟨w1, hw1⟩ : ∃ V, ((((w.alloc (.cells #[.slice A xs.length C, .int .i64 lo, .int .i64 hi] 24)).alloc (.cells #[.int .i64 a, .int .i64 b, .int .i64 c] 26)).alloc (.cells #[.int .i64 d, .int .i64 e, .int .i64 f] 26)).alloc (.cells #[.int .i64 x, .int .i64 y, .int .i64 z] 26)) = V := ⟨_, rfl⟩
  obtain ⟨hB_, kb, kp, kq, ks⟩ := boxes4 _ _ _ _ _ hw1
  rw [hw1]
  clear hw1
  have HB := Lib.hid hB_
  clear hB_
  have b0 := (cells3 kb).1
  have b1 := (cells3 kb).2.1
  have b2 := (cells3 kb).2.2
  have lb := block_lt b0
  have p0 := (cells3 kp).1
  have p1 := (cells3 kp).2.1
  have p2 := (cells3 kp).2.2
  have lp := block_lt p0
  have q0 := (cells3 kq).1
  have q1 := (cells3 kq).2.1
  have q2 := (cells3 kq).2.2
  have lq := block_lt q0
  have s0 := (cells3 ks).1
  have s1 := (cells3 ks).2.1
  have s2 := (cells3 ks).2.2
  have ls := block_lt s0
  with_reducible refine (head_any _).mono ?_
  rintro e_ w2 ⟨rfl, hb⟩
  replace HB := Lib.hid (on_below HB.out hb)
  replace b0 := keepc hb b0
  replace b1 := keepc hb b1
  replace b2 := keepc hb b2
  replace p0 := keepc hb p0
  replace p1 := keepc hb p1
  replace p2 := keepc hb p2
  replace q0 := keepc hb q0
  replace q1 := keepc hb q1
  replace q2 := keepc hb q2
  replace s0 := keepc hb s0
  replace s1 := keepc hb s1
  replace s2 := keepc hb s2
  replace kb := blk_on kb hb
  replace kp := blk_on kp hb
  replace kq := blk_on kq hb
  replace ks := blk_on ks hb
  replace lb := Nat.lt_of_lt_of_le lb hb.size
  replace lp := Nat.lt_of_lt_of_le lp hb.size
  replace lq := Nat.lt_of_lt_of_le lq hb.size
  replace ls := Nat.lt_of_lt_of_le ls hb.size
  clear hb
  go_wp2_with fail
  have CF := Lib.hid (fun W (h : Lp W A C xs) => few_is A C xs lo hi W h)
  rw [hy] at CF
  with_reducible refine (CF.out _ (HL.out.below HB.out)).mono ?_
  rintro e_ w3 ⟨rfl, hb⟩
  replace HB := Lib.hid (on_below HB.out hb)
  replace b0 := keepc hb b0
  replace b1 := keepc hb b1
  replace b2 := keepc hb b2
  replace p0 := keepc hb p0
  replace p1 := keepc hb p1
  replace p2 := keepc hb p2
  replace q0 := keepc hb q0
  replace q1 := keepc hb q1
  replace q2 := keepc hb q2
  replace s0 := keepc hb s0
  replace s1 := keepc hb s1
  replace s2 := keepc hb s2
  replace kb := blk_on kb hb
  replace kp := blk_on kp hb
  replace kq := blk_on kq hb
  replace ks := blk_on ks hb
  replace lb := Nat.lt_of_lt_of_le lb hb.size
  replace lp := Nat.lt_of_lt_of_le lp hb.size
  replace lq := Nat.lt_of_lt_of_le lq hb.size
  replace ls := Nat.lt_of_lt_of_le ls hb.size
  clear hb
  have fb0 : World.frozen? w3 ⟨w.heap.size, 0, none⟩ = false := by simp [World.frozen?, kb]
  have fb1 : World.frozen? w3 ⟨w.heap.size, 1, none⟩ = false := by simp [World.frozen?, kb]
  have fb2 : World.frozen? w3 ⟨w.heap.size, 2, none⟩ = false := by simp [World.frozen?, kb]
  go_wp2_with fail
  clear CF fb0 fb1 fb2 b0 b1 b2 p0 p1 p2 q0 q1 q2 s0 s1 s2 lb lp lq ls
  replace kb : (((w3.setCell ⟨w.heap.size, 0, none⟩ (.slice A ys.length C)).setCell ⟨w.heap.size, 1, none⟩ (.int .i64 lo)).setCell ⟨w.heap.size, 2, none⟩ (.int .i64 hi)).heap[w.heap.size]? = some (.cells #[.slice A ys.length C, .int .i64 lo, .int .i64 hi] 24 (0, 0)) := set_cells (set_cells (set_cells kb 0 _) 1 _) 2 _
  replace kp : (((w3.setCell ⟨w.heap.size, 0, none⟩ (.slice A ys.length C)).setCell ⟨w.heap.size, 1, none⟩ (.int .i64 lo)).setCell ⟨w.heap.size, 2, none⟩ (.int .i64 hi)).heap[w.heap.size + 1]? = _ := blk_far (blk_far (blk_far kp (by omega)) (by omega)) (by omega)
  replace kq : (((w3.setCell ⟨w.heap.size, 0, none⟩ (.slice A ys.length C)).setCell ⟨w.heap.size, 1, none⟩ (.int .i64 lo)).setCell ⟨w.heap.size, 2, none⟩ (.int .i64 hi)).heap[w.heap.size + 1 + 1]? = _ := blk_far (blk_far (blk_far kq (by omega)) (by omega)) (by omega)
  replace ks : (((w3.setCell ⟨w.heap.size, 0, none⟩ (.slice A ys.length C)).setCell ⟨w.heap.size, 1, none⟩ (.int .i64 lo)).setCell ⟨w.heap.size, 2, none⟩ (.int .i64 hi)).heap[w.heap.size + 1 + 1 + 1]? = _ := blk_far (blk_far (blk_far ks (by omega)) (by omega)) (by omega)
  replace HB := Lib.hid (show Below w.heap.size w (((w3.setCell ⟨w.heap.size, 0, none⟩ (.slice A ys.length C)).setCell ⟨w.heap.size, 1, none⟩ (.int .i64 lo)).setCell ⟨w.heap.size, 2, none⟩ (.int .i64 hi)) from ((HB.out.setCell (by simp <;> omega) _).setCell (by simp <;> omega) _).setCell (by simp <;> omega) _)
  generalize (((w3.setCell ⟨w.heap.size, 0, none⟩ (.slice A ys.length C)).setCell ⟨w.heap.size, 1, none⟩ (.int .i64 lo)).setCell ⟨w.heap.size, 2, none⟩ (.int .i64 hi)) = w4 at *
  have b0 := (cells3 kb).1
  have b1 := (cells3 kb).2.1
  have b2 := (cells3 kb).2.2
  have lb := block_lt b0
  have p0 := (cells3 kp).1
  have p1 := (cells3 kp).2.1
  have p2 := (cells3 kp).2.2
  have lp := block_lt p0
  have q0 := (cells3 kq).1
  have q1 := (cells3 kq).2.1
  have q2 := (cells3 kq).2.2
  have lq := block_lt q0
  have s0 := (cells3 ks).1
  have s1 := (cells3 ks).2.1
  have s2 := (cells3 ks).2.2
  have ls := block_lt s0
  go_wp2_with fail
  with_reducible refine (qpoint_is a b c true h1 _).mono ?_
  rintro e_ w5 ⟨rfl, hb⟩
  replace HB := Lib.hid (on_below HB.out hb)
  replace b0 := keepc hb b0
  replace b1 := keepc hb b1
  replace b2 := keepc hb b2
  replace p0 := keepc hb p0
  replace p1 := keepc hb p1
  replace p2 := keepc hb p2
  replace q0 := keepc hb q0
  replace q1 := keepc hb q1
  replace q2 := keepc hb q2
  replace s0 := keepc hb s0
  replace s1 := keepc hb s1
  replace s2 := keepc hb s2
  replace kb := blk_on kb hb
  replace kp := blk_on kp hb
  replace kq := blk_on kq hb
  replace ks := blk_on ks hb
  replace lb := Nat.lt_of_lt_of_le lb hb.size
  replace lp := Nat.lt_of_lt_of_le lp hb.size
  replace lq := Nat.lt_of_lt_of_le lq hb.size
  replace ls := Nat.lt_of_lt_of_le ls hb.size
  clear hb
  go_wp2_with fail
  with_reducible refine (qpoint_is d e f true h2 _).mono ?_
  rintro e_ w6 ⟨rfl, hb⟩
  replace HB := Lib.hid (on_below HB.out hb)
  replace b0 := keepc hb b0
  replace b1 := keepc hb b1
  replace b2 := keepc hb b2
  replace p0 := keepc hb p0
  replace p1 := keepc hb p1
  replace p2 := keepc hb p2
  replace q0 := keepc hb q0
  replace q1 := keepc hb q1
  replace q2 := keepc hb q2
  replace s0 := keepc hb s0
  replace s1 := keepc hb s1
  replace s2 := keepc hb s2
  replace kb := blk_on kb hb
  replace kp := blk_on kp hb
  replace kq := blk_on kq hb
  replace ks := blk_on ks hb
  replace lb := Nat.lt_of_lt_of_le lb hb.size
  replace lp := Nat.lt_of_lt_of_le lp hb.size
  replace lq := Nat.lt_of_lt_of_le lq hb.size
  replace ls := Nat.lt_of_lt_of_le ls hb.size
  clear hb
  go_wp2_with fail
  with_reducible refine (qpoint_is x y z true h3 _).mono ?_
  rintro e_ w7 ⟨rfl, hb⟩
  replace HB := Lib.hid (on_below HB.out hb)
  replace b0 := keepc hb b0
  replace b1 := keepc hb b1
  replace b2 := keepc hb b2
  replace p0 := keepc hb p0
  replace p1 := keepc hb p1
  replace p2 := keepc hb p2
  replace q0 := keepc hb q0
  replace q1 := keepc hb q1
  replace q2 := keepc hb q2
  replace s0 := keepc hb s0
  replace s1 := keepc hb s1
  replace s2 := keepc hb s2
  replace kb := blk_on kb hb
  replace kp := blk_on kp hb
  replace kq := blk_on kq hb
  replace ks := blk_on ks hb
  replace lb := Nat.lt_of_lt_of_le lb hb.size
  replace lp := Nat.lt_of_lt_of_le lp hb.size
  replace lq := Nat.lt_of_lt_of_le lq hb.size
  replace ls := Nat.lt_of_lt_of_le ls hb.size
  clear hb
  go_wp2_with fail
  with_reducible refine (along_p a b c x y z (vv_iff.1 h1) (vv_iff.1 h3) _).mono ?_
  rintro e_ w8 ⟨rfl, hb⟩
  replace HB := Lib.hid (on_below HB.out hb)
  replace b0 := keepc hb b0
  replace b1 := keepc hb b1
  replace b2 := keepc hb b2
  replace p0 := keepc hb p0
  replace p1 := keepc hb p1
  replace p2 := keepc hb p2
  replace q0 := keepc hb q0
  replace q1 := keepc hb q1
  replace q2 := keepc hb q2
  replace s0 := keepc hb s0
  replace s1 := keepc hb s1
  replace s2 := keepc hb s2
  replace kb := blk_on kb hb
  replace kp := blk_on kp hb
  replace kq := blk_on kq hb
  replace ks := blk_on ks hb
  replace lb := Nat.lt_of_lt_of_le lb hb.size
  replace lp := Nat.lt_of_lt_of_le lp hb.size
  replace lq := Nat.lt_of_lt_of_le lq hb.size
  replace ls := Nat.lt_of_lt_of_le ls hb.size
  clear hb
  go_wp2_with fail
  have m0 : World.cell? (w8.alloc (.cells #[.int .i64 (a + x), .int .i64 (b + y), .int .i64 (c + z)] 26)) ⟨w8.heap.size, 0, none⟩ = some (.int .i64 (a + x)) := by simp [go_sem]
  have m1 : World.cell? (w8.alloc (.cells #[.int .i64 (a + x), .int .i64 (b + y), .int .i64 (c + z)] 26)) ⟨w8.heap.size, 1, none⟩ = some (.int .i64 (b + y)) := by simp [go_sem]
  have m2 : World.cell? (w8.alloc (.cells #[.int .i64 (a + x), .int .i64 (b + y), .int .i64 (c + z)] 26)) ⟨w8.heap.size, 2, none⟩ = some (.int .i64 (c + z)) := by simp [go_sem]
  have lm : w8.heap.size < (w8.alloc (.cells #[.int .i64 (a + x), .int .i64 (b + y), .int .i64 (c + z)] 26)).heap.size := by simp
  have hb : Below w8.heap.size w8 (w8.alloc (.cells #[.int .i64 (a + x), .int .i64 (b + y), .int .i64 (c + z)] 26)) := below_new _ _
  generalize w8.alloc (.cells #[.int .i64 (a + x), .int .i64 (b + y), .int .i64 (c + z)] 26) = w9 at *
  replace HB := Lib.hid (on_below HB.out hb)
  replace b0 := keepc hb b0
  replace b1 := keepc hb b1
  replace b2 := keepc hb b2
  replace p0 := keepc hb p0
  replace p1 := keepc hb p1
  replace p2 := keepc hb p2
  replace q0 := keepc hb q0
  replace q1 := keepc hb q1
  replace q2 := keepc hb q2
  replace s0 := keepc hb s0
  replace s1 := keepc hb s1
  replace s2 := keepc hb s2
  replace kb := blk_on kb hb
  replace kp := blk_on kp hb
  replace kq := blk_on kq hb
  replace ks := blk_on ks hb
  replace lb := Nat.lt_of_lt_of_le lb hb.size
  replace lp := Nat.lt_of_lt_of_le lp hb.size
  replace lq := Nat.lt_of_lt_of_le lq hb.size
  replace ls := Nat.lt_of_lt_of_le ls hb.size
  clear hb
  generalize w8.heap.size = gm at *
  go_wp2_with fail
  with_reducible refine (along_p d e f x y z (vv_iff.1 h2) (vv_iff.1 h3) _).mono ?_
  rintro e_ w10 ⟨rfl, hb⟩
  replace HB := Lib.hid (on_below HB.out hb)
  replace b0 := keepc hb b0
  replace b1 := keepc hb b1
  replace b2 := keepc hb b2
  replace p0 := keepc hb p0
  replace p1 := keepc hb p1
  replace p2 := keepc hb p2
  replace q0 := keepc hb q0
  replace q1 := keepc hb q1
  replace q2 := keepc hb q2
  replace s0 := keepc hb s0
  replace s1 := keepc hb s1
  replace s2 := keepc hb s2
  replace m0 := keepc hb m0
  replace m1 := keepc hb m1
  replace m2 := keepc hb m2
  replace kb := blk_on kb hb
  replace kp := blk_on kp hb
  replace kq := blk_on kq hb
  replace ks := blk_on ks hb
  replace lb := Nat.lt_of_lt_of_le lb hb.size
  replace lp := Nat.lt_of_lt_of_le lp hb.size
  replace lq := Nat.lt_of_lt_of_le lq hb.size
  replace ls := Nat.lt_of_lt_of_le ls hb.size
  replace lm := Nat.lt_of_lt_of_le lm hb.size
  clear hb
  go_wp2_with fail
  have n0 : World.cell? (w10.alloc (.cells #[.int .i64 (d + x), .int .i64 (e + y), .int .i64 (f + z)] 26)) ⟨w10.heap.size, 0, none⟩ = some (.int .i64 (d + x)) := by simp [go_sem]
  have n1 : World.cell? (w10.alloc (.cells #[.int .i64 (d + x), .int .i64 (e + y), .int .i64 (f + z)] 26)) ⟨w10.heap.size, 1, none⟩ = some (.int .i64 (e + y)) := by simp [go_sem]
  have n2 : World.cell? (w10.alloc (.cells #[.int .i64 (d + x), .int .i64 (e + y), .int .i64 (f + z)] 26)) ⟨w10.heap.size, 2, none⟩ = some (.int .i64 (f + z)) := by simp [go_sem]
  have ln : w10.heap.size < (w10.alloc (.cells #[.int .i64 (d + x), .int .i64 (e + y), .int .i64 (f + z)] 26)).heap.size := by simp
  have hb : Below w10.heap.size w10 (w10.alloc (.cells #[.int .i64 (d + x), .int .i64 (e + y), .int .i64 (f + z)] 26)) := below_new _ _
  generalize w10.alloc (.cells #[.int .i64 (d + x), .int .i64 (e + y), .int .i64 (f + z)] 26) = w11 at *
  replace HB := Lib.hid (on_below HB.out hb)
  replace b0 := keepc hb b0
  replace b1 := keepc hb b1
  replace b2 := keepc hb b2
  replace p0 := keepc hb p0
  replace p1 := keepc hb p1
  replace p2 := keepc hb p2
  replace q0 := keepc hb q0
  replace q1 := keepc hb q1
  replace q2 := keepc hb q2
  replace s0 := keepc hb s0
  replace s1 := keepc hb s1
  replace s2 := keepc hb s2
  replace m0 := keepc hb m0
  replace m1 := keepc hb m1
  replace m2 := keepc hb m2
  replace kb := blk_on kb hb
  replace kp := blk_on kp hb
  replace kq := blk_on kq hb
  replace ks := blk_on ks hb
  replace lb := Nat.lt_of_lt_of_le lb hb.size
  replace lp := Nat.lt_of_lt_of_le lp hb.size
  replace lq := Nat.lt_of_lt_of_le lq hb.size
  replace ls := Nat.lt_of_lt_of_le ls hb.size
  replace lm := Nat.lt_of_lt_of_le lm hb.size
  clear hb
  generalize w10.heap.size = gn at *
  go_wp2_with fail
  with_reducible refine (C1.out _ (HM.out.below HB.out)).mono ?_
  rintro e_ w12 ⟨rfl, hb⟩
  replace HB := Lib.hid (on_below HB.out hb)
  replace b0 := keepc hb b0
  replace b1 := keepc hb b1
  replace b2 := keepc hb b2
  replace p0 := keepc hb p0
  replace p1 := keepc hb p1
  replace p2 := keepc hb p2
  replace q0 := keepc hb q0
  replace q1 := keepc hb q1
  replace q2 := keepc hb q2
  replace s0 := keepc hb s0
  replace s1 := keepc hb s1
  replace s2 := keepc hb s2
  replace m0 := keepc hb m0
  replace m1 := keepc hb m1
  replace m2 := keepc hb m2
  replace n0 := keepc hb n0
  replace n1 := keepc hb n1
  replace n2 := keepc hb n2
  replace kb := blk_on kb hb
  replace kp := blk_on kp hb
  replace kq := blk_on kq hb
  replace ks := blk_on ks hb
  replace lb := Nat.lt_of_lt_of_le lb hb.size
  replace lp := Nat.lt_of_lt_of_le lp hb.size
  replace lq := Nat.lt_of_lt_of_le lq hb.size
  replace ls := Nat.lt_of_lt_of_le ls hb.size
  replace lm := Nat.lt_of_lt_of_le lm hb.size
  replace ln := Nat.lt_of_lt_of_le ln hb.size
  clear hb
  go_wp2_with fail
  have c0 : World.cell? (w12.alloc (.cells #[.slice none 0 0, .int .i64 0, .int .i64 0] 24)) ⟨w12.heap.size, 0, none⟩ = some (.slice none 0 0) := by simp [go_sem]
  have c1 : World.cell? (w12.alloc (.cells #[.slice none 0 0, .int .i64 0, .int .i64 0] 24)) ⟨w12.heap.size, 1, none⟩ = some (.int .i64 0) := by simp [go_sem]
  have c2 : World.cell? (w12.alloc (.cells #[.slice none 0 0, .int .i64 0, .int .i64 0] 24)) ⟨w12.heap.size, 2, none⟩ = some (.int .i64 0) := by simp [go_sem]
  have lc : w12.heap.size < (w12.alloc (.cells #[.slice none 0 0, .int .i64 0, .int .i64 0] 24)).heap.size := by simp
  have hb : Below w12.heap.size w12 (w12.alloc (.cells #[.slice none 0 0, .int .i64 0, .int .i64 0] 24)) := below_new _ _
  generalize w12.alloc (.cells #[.slice none 0 0, .int .i64 0, .int .i64 0] 24) = w13 at *
  replace HB := Lib.hid (on_below HB.out hb)
  replace b0 := keepc hb b0
  replace b1 := keepc hb b1
  replace b2 := keepc hb b2
  replace p0 := keepc hb p0
  replace p1 := keepc hb p1
  replace p2 := keepc hb p2
  replace q0 := keepc hb q0
  replace q1 := keepc hb q1
  replace q2 := keepc hb q2
  replace s0 := keepc hb s0
  replace s1 := keepc hb s1
  replace s2 := keepc hb s2
  replace m0 := keepc hb m0
  replace m1 := keepc hb m1
  replace m2 := keepc hb m2
  replace n0 := keepc hb n0
  replace n1 := keepc hb n1
  replace n2 := keepc hb n2
  replace kb := blk_on kb hb
  replace kp := blk_on kp hb
  replace kq := blk_on kq hb
  replace ks := blk_on ks hb
  replace lb := Nat.lt_of_lt_of_le lb hb.size
  replace lp := Nat.lt_of_lt_of_le lp hb.size
  replace lq := Nat.lt_of_lt_of_le lq hb.size
  replace ls := Nat.lt_of_lt_of_le ls hb.size
  replace lm := Nat.lt_of_lt_of_le lm hb.size
  replace ln := Nat.lt_of_lt_of_le ln hb.size
  clear hb
  generalize w12.heap.size = gc at *
  go_wp2_with fail
  with_reducible refine (C2.out _ (HM.out.below HB.out)).mono ?_
  rintro e_ w14 ⟨rfl, hb⟩
  replace HB := Lib.hid (on_below HB.out hb)
  replace b0 := keepc hb b0
  replace b1 := keepc hb b1
  replace b2 := keepc hb b2
  replace p0 := keepc hb p0
  replace p1 := keepc hb p1
  replace p2 := keepc hb p2
  replace q0 := keepc hb q0
  replace q1 := keepc hb q1
  replace q2 := keepc hb q2
  replace s0 := keepc hb s0
  replace s1 := keepc hb s1
  replace s2 := keepc hb s2
  replace m0 := keepc hb m0
  replace m1 := keepc hb m1
  replace m2 := keepc hb m2
  replace n0 := keepc hb n0
  replace n1 := keepc hb n1
  replace n2 := keepc hb n2
  replace c0 := keepc hb c0
  replace c1 := keepc hb c1
  replace c2 := keepc hb c2
  replace kb := blk_on kb hb
  replace kp := blk_on kp hb
  replace kq := blk_on kq hb
  replace ks := blk_on ks hb
  replace lb := Nat.lt_of_lt_of_le lb hb.size
  replace lp := Nat.lt_of_lt_of_le lp hb.size
  replace lq := Nat.lt_of_lt_of_le lq hb.size
  replace ls := Nat.lt_of_lt_of_le ls hb.size
  replace lm := Nat.lt_of_lt_of_le lm hb.size
  replace ln := Nat.lt_of_lt_of_le ln hb.size
  replace lc := Nat.lt_of_lt_of_le lc hb.size
  clear hb
  go_wp2_with fail
  go_ret
  exact ⟨rfl, HB.out⟩
theorem sl_far3 {W : World} {g2 g : Nat} {L : List (Int × Int)} {u1 u2 : Value} {t : TypeId} (h : SlS W (some ⟨g2, 0, none⟩) L) (k : W.heap[g]? = some (.cells #[.slice none 0 0, u1, u2] t (0, 0))) (v0 v1 v2 : Value) : SlS (((W.setCell ⟨g, 0, none⟩ v0).setCell ⟨g, 1, none⟩ v1).setCell ⟨g, 2, none⟩ v2) (some ⟨g2, 0, none⟩) L := by
  by_cases hl : 0 < L.length
  · refine h.same fun b o e _ => ?_
    obtain ⟨rfl, rfl⟩ : g2 = b ∧ 0 = o := by simpa using e
    have hne : g2 ≠ g := by
      rintro rfl
      obtain ⟨b, o, e2, c1, _⟩ := h 0 hl
      obtain ⟨rfl, rfl⟩ : g2 = b ∧ 0 = o := by simpa using e2
      rw [show 0 + 0 * 2 = 0 from rfl, (cells3 k).1] at c1
      cases c1
    rw [Below.heap_setCell _ ⟨g, 2, none⟩ _ _ hne, Below.heap_setCell _ ⟨g, 1, none⟩ _ _ hne, Below.heap_setCell _ ⟨g, 0, none⟩ _ _ hne]
  · exact fun j hj => absurd hj (by omega)
set_option maxRecDepth 100000 in
set_option maxHeartbeats 4000000 in
theorem mvd_6 (A : Option Addr) (C : Nat) (xs ys : List (Int × Int)) (lo hi a b c d e f x y z : Int) (hy : xs.take 20 = ys) (hly : ys.length ≤ 9223372036854775806) (h1 : vv a b c = true) (h2 : vv d e f = true) (h3 : vv x y z = true) (ms : List (Int × Int)) (l h : Int) (hb1 : Bok ys lo hi) (hmb : Bok ms l h) (em : mv ys x y = ms) (el : lo + z = l) (eh : hi + z = h) (hlm : ms.length ≤ 9223372036854775806) (eb : mv ms (-x) (-y) = ys) (el2 : l + -z = lo) (eh2 : h + -z = hi) (h4 : vv (a + x) (b + y) (c + z) = false) (w : World) (hl : Lp w A C xs) (hm : SlS w A ys) :
    Calls Try.prog 7 #[.agg #[.slice A xs.length C, .int .i64 lo, .int .i64 hi], .agg #[.int .i64 a, .int .i64 b, .int .i64 c], .agg #[.int .i64 d, .int .i64 e, .int .i64 f], .agg #[.int .i64 x, .int .i64 y, .int .i64 z]] w fun e_ w' => e_ = .returned (.bool true) ∧ Below w.heap.size w w' := by
  have HL := Lib.hid hl
  clear hl
  have HM := Lib.hid hm
  clear hm
  have C1 := Lib.hid (fun W (k : SlS W A ys) => move_ok A C ys ms lo hi x y z l h hly hb1 (vv_iff.1 h3) hmb em el eh W k)
  have v3m : V3 (-x) (-y) (-z) := by obtain ⟨⟨_, _⟩, ⟨_, _⟩, _, _⟩ := vv_iff.1 h3; constructor <;> (constructor <;> omega)
  have C2 := Lib.hid (fun W (A' : Option Addr) (C' : Nat) (k : SlS W A' ms) => move_ok A' C' ms ys l h (-x) (-y) (-z) lo hi hlm hmb v3m hb1 eb el2 eh2 W k)
  have C3 := Lib.hid (fun W (A' : Option Addr) (C' : Nat) (k : SlS W A' ys) (k2 : SlS W A ys) => qsame_is A' A C' C ys ys lo hi lo hi (by omega) (by omega) true (iff_of_true rfl ⟨rfl, rfl, rfl⟩) W k k2)
  have CA := Lib.hid (fun W => along_m x y z (vv_iff.1 h3) W)
  clear v3m eb el2 eh2 em el eh hmb
  go_enter Try.func7, Try.ntmps7
  go_wp2_with fail
  obtain ⟨w1, hw1⟩ : ∃ V, ((((w.alloc (.cells #[.slice A xs.length C, .int .i64 lo, .int .i64 hi] 24)).alloc (.cells #[.int .i64 a, .int .i64 b, .int .i64 c] 26)).alloc (.cells #[.int .i64 d, .int .i64 e, .int .i64 f] 26)).alloc (.cells #[.int .i64 x, .int .i64 y, .int .i64 z] 26)) = V := ⟨_, rfl⟩
  obtain ⟨hB_, kb, kp, kq, ks⟩ := boxes4 _ _ _ _ _ hw1
  rw [hw1]
  clear hw1
  have HB := Lib.hid hB_
  clear hB_
  have b0 := (cells3 kb).1
  have b1 := (cells3 kb).2.1
  have b2 := (cells3 kb).2.2
  have lb := block_lt b0
  have p0 := (cells3 kp).1
  have p1 := (cells3 kp).2.1
  have p2 := (cells3 kp).2.2
  have lp := block_lt p0
  have q0 := (cells3 kq).1
  have q1 := (cells3 kq).2.1
  have q2 := (cells3 kq).2.2
  have lq := block_lt q0
  have s0 := (cells3 ks).1
  have s1 := (cells3 ks).2.1
  have s2 := (cells3 ks).2.2
  have ls := block_lt s0
  with_reducible refine (head_any _).mono ?_
  rintro e_ w2 ⟨rfl, hb⟩
  replace HB := Lib.hid (on_below HB.out hb)
  replace b0 := keepc hb b0
  replace b1 := keepc hb b1
  replace b2 := keepc hb b2
  replace p0 := keepc hb p0
  replace p1 := keepc hb p1
  replace p2 := keepc hb p2
  replace q0 := keepc hb q0
  replace q1 := keepc hb q1
  replace q2 := keepc hb q2
  replace s0 := keepc hb s0
  replace s1 := keepc hb s1
  replace s2 := keepc hb s2
  replace kb := blk_on kb hb
  replace kp := blk_on kp hb
  replace kq := blk_on kq hb
  replace ks := blk_on ks hb
  replace lb := Nat.lt_of_lt_of_le lb hb.size
  replace lp := Nat.lt_of_lt_of_le lp hb.size
  replace lq := Nat.lt_of_lt_of_le lq hb.size
  replace ls := Nat.lt_of_lt_of_le ls hb.size
  clear hb
  go_wp2_with fail
  have CF := Lib.hid (fun W (h : Lp W A C xs) => few_is A C xs lo hi W h)
  rw [hy] at CF
  with_reducible refine (CF.out _ (HL.out.below HB.out)).mono ?_
  rintro e_ w3 ⟨rfl, hb⟩
  replace HB := Lib.hid (on_below HB.out hb)
  replace b0 := keepc hb b0
  replace b1 := keepc hb b1
  replace b2 := keepc hb b2
  replace p0 := keepc hb p0
  replace p1 := keepc hb p1
  replace p2 := keepc hb p2
  replace q0 := keepc hb q0
  replace q1 := keepc hb q1
  replace q2 := keepc hb q2
  replace s0 := keepc hb s0
  replace s1 := keepc hb s1
  replace s2 := keepc hb s2
  replace kb := blk_on kb hb
  replace kp := blk_on kp hb
  replace kq := blk_on kq hb
  replace ks := blk_on ks hb
  replace lb := Nat.lt_of_lt_of_le lb hb.size
  replace lp := Nat.lt_of_lt_of_le lp hb.size
  replace lq := Nat.lt_of_lt_of_le lq hb.size
  replace ls := Nat.lt_of_lt_of_le ls hb.size
  clear hb
  have fb0 : World.frozen? w3 ⟨w.heap.size, 0, none⟩ = false := by simp [World.frozen?, kb]
  have fb1 : World.frozen? w3 ⟨w.heap.size, 1, none⟩ = false := by simp [World.frozen?, kb]
  have fb2 : World.frozen? w3 ⟨w.heap.size, 2, none⟩ = false := by simp [World.frozen?, kb]
  go_wp2_with fail
  clear CF fb0 fb1 fb2 b0 b1 b2 p0 p1 p2 q0 q1 q2 s0 s1 s2 lb lp lq ls
  replace kb : (((w3.setCell ⟨w.heap.size, 0, none⟩ (.slice A ys.length C)).setCell ⟨w.heap.size, 1, none⟩ (.int .i64 lo)).setCell ⟨w.heap.size, 2, none⟩ (.int .i64 hi)).heap[w.heap.size]? = some (.cells #[.slice A ys.length C, .int .i64 lo, .int .i64 hi] 24 (0, 0)) := set_cells (set_cells (set_cells kb 0 _) 1 _) 2 _
  replace kp : (((w3.setCell ⟨w.heap.size, 0, none⟩ (.slice A ys.length C)).setCell ⟨w.heap.size, 1, none⟩ (.int .i64 lo)).setCell ⟨w.heap.size, 2, none⟩ (.int .i64 hi)).heap[w.heap.size + 1]? = _ := blk_far (blk_far (blk_far kp (by omega)) (by omega)) (by omega)
  replace kq : (((w3.setCell ⟨w.heap.size, 0, none⟩ (.slice A ys.length C)).setCell ⟨w.heap.size, 1, none⟩ (.int .i64 lo)).setCell ⟨w.heap.size, 2, none⟩ (.int .i64 hi)).heap[w.heap.size + 1 + 1]? = _ := blk_far (blk_far (blk_far kq (by omega)) (by omega)) (by omega)
  replace ks : (((w3.setCell ⟨w.heap.size, 0, none⟩ (.slice A ys.length C)).setCell ⟨w.heap.size, 1, none⟩ (.int .i64 lo)).setCell ⟨w.heap.size, 2, none⟩ (.int .i64 hi)).heap[w.heap.size + 1 + 1 + 1]? = _ := blk_far (blk_far (blk_far ks (by omega)) (by omega)) (by omega)
  replace HB := Lib.hid (show Below w.heap.size w (((w3.setCell ⟨w.heap.size, 0, none⟩ (.slice A ys.length C)).setCell ⟨w.heap.size, 1, none⟩ (.int .i64 lo)).setCell ⟨w.heap.size, 2, none⟩ (.int .i64 hi)) from ((HB.out.setCell (by simp <;> omega) _).setCell (by simp <;> omega) _).setCell (by simp <;> omega) _)
  generalize (((w3.setCell ⟨w.heap.size, 0, none⟩ (.slice A ys.length C)).setCell ⟨w.heap.size, 1, none⟩ (.int .i64 lo)).setCell ⟨w.heap.size, 2, none⟩ (.int .i64 hi)) = w4 at *
  have b0 := (cells3 kb).1
  have b1 := (cells3 kb).2.1
  have b2 := (cells3 kb).2.2
  have lb := block_lt b0
  have p0 := (cells3 kp).1
  have p1 := (cells3 kp).2.1
  have p2 := (cells3 kp).2.2
  have lp := block_lt p0
  have q0 := (cells3 kq).1
  have q1 := (cells3 kq).2.1
  have q2 := (cells3 kq).2.2
  have lq := block_lt q0
  have s0 := (cells3 ks).1
  have s1 := (cells3 ks).2.1
  have s2 := (cells3 ks).2.2
  have ls := block_lt s0
  go_wp2_with fail
  with_reducible refine (qpoint_is a b c true h1 _).mono ?_
  rintro e_ w5 ⟨rfl, hb⟩
  replace HB := Lib.hid (on_below HB.out hb)
  replace b0 := keepc hb b0
  replace b1 := keepc hb b1
  replace b2 := keepc hb b2
  replace p0 := keepc hb p0
  replace p1 := keepc hb p1
  replace p2 := keepc hb p2
  replace q0 := keepc hb q0
  replace q1 := keepc hb q1
  replace q2 := keepc hb q2
  replace s0 := keepc hb s0
  replace s1 := keepc hb s1
  replace s2 := keepc hb s2
  replace kb := blk_on kb hb
  replace kp := blk_on kp hb
  replace kq := blk_on kq hb
  replace ks := blk_on ks hb
  replace lb := Nat.lt_of_lt_of_le lb hb.size
  replace lp := Nat.lt_of_lt_of_le lp hb.size
  replace lq := Nat.lt_of_lt_of_le lq hb.size
  replace ls := Nat.lt_of_lt_of_le ls hb.size
  clear hb
  go_wp2_with fail
  with_reducible refine (qpoint_is d e f true h2 _).mono ?_
  rintro e_ w6 ⟨rfl, hb⟩
  replace HB := Lib.hid (on_below HB.out hb)
  replace b0 := keepc hb b0
  replace b1 := keepc hb b1
  replace b2 := keepc hb b2
  replace p0 := keepc hb p0
  replace p1 := keepc hb p1
  replace p2 := keepc hb p2
  replace q0 := keepc hb q0
  replace q1 := keepc hb q1
  replace q2 := keepc hb q2
  replace s0 := keepc hb s0
  replace s1 := keepc hb s1
  replace s2 := keepc hb s2
  replace kb := blk_on kb hb
  replace kp := blk_on kp hb
  replace kq := blk_on kq hb
  replace ks := blk_on ks hb
  replace lb := Nat.lt_of_lt_of_le lb hb.size
  replace lp := Nat.lt_of_lt_of_le lp hb.size
  replace lq := Nat.lt_of_lt_of_le lq hb.size
  replace ls := Nat.lt_of_lt_of_le ls hb.size
  clear hb
  go_wp2_with fail
  with_reducible refine (qpoint_is x y z true h3 _).mono ?_
  rintro e_ w7 ⟨rfl, hb⟩
  replace HB := Lib.hid (on_below HB.out hb)
  replace b0 := keepc hb b0
  replace b1 := keepc hb b1
  replace b2 := keepc hb b2
  replace p0 := keepc hb p0
  replace p1 := keepc hb p1
  replace p2 := keepc hb p2
  replace q0 := keepc hb q0
  replace q1 := keepc hb q1
  replace q2 := keepc hb q2
  replace s0 := keepc hb s0
  replace s1 := keepc hb s1
  replace s2 := keepc hb s2
  replace kb := blk_on kb hb
  replace kp := blk_on kp hb
  replace kq := blk_on kq hb
  replace ks := blk_on ks hb
  replace lb := Nat.lt_of_lt_of_le lb hb.size
  replace lp := Nat.lt_of_lt_of_le lp hb.size
  replace lq := Nat.lt_of_lt_of_le lq hb.size
  replace ls := Nat.lt_of_lt_of_le ls hb.size
  clear hb
  go_wp2_with fail
  with_reducible refine (along_p a b c x y z (vv_iff.1 h1) (vv_iff.1 h3) _).mono ?_
  rintro e_ w8 ⟨rfl, hb⟩
  replace HB := Lib.hid (on_below HB.out hb)
  replace b0 := keepc hb b0
  replace b1 := keepc hb b1
  replace b2 := keepc hb b2
  replace p0 := keepc hb p0
  replace p1 := keepc hb p1
  replace p2 := keepc hb p2
  replace q0 := keepc hb q0
  replace q1 := keepc hb q1
  replace q2 := keepc hb q2
  replace s0 := keepc hb s0
  replace s1 := keepc hb s1
  replace s2 := keepc hb s2
  replace kb := blk_on kb hb
  replace kp := blk_on kp hb
  replace kq := blk_on kq hb
  replace ks := blk_on ks hb
  replace lb := Nat.lt_of_lt_of_le lb hb.size
  replace lp := Nat.lt_of_lt_of_le lp hb.size
  replace lq := Nat.lt_of_lt_of_le lq hb.size
  replace ls := Nat.lt_of_lt_of_le ls hb.size
  clear hb
  go_wp2_with fail
  have m0 : World.cell? (w8.alloc (.cells #[.int .i64 (a + x), .int .i64 (b + y), .int .i64 (c + z)] 26)) ⟨w8.heap.size, 0, none⟩ = some (.int .i64 (a + x)) := by simp [go_sem]
  have m1 : World.cell? (w8.alloc (.cells #[.int .i64 (a + x), .int .i64 (b + y), .int .i64 (c + z)] 26)) ⟨w8.heap.size, 1, none⟩ = some (.int .i64 (b + y)) := by simp [go_sem]
  have m2 : World.cell? (w8.alloc (.cells #[.int .i64 (a + x), .int .i64 (b + y), .int .i64 (c + z)] 26)) ⟨w8.heap.size, 2, none⟩ = some (.int .i64 (c + z)) := by simp [go_sem]
  have lm : w8.heap.size < (w8.alloc (.cells #[.int .i64 (a + x), .int .i64 (b + y), .int .i64 (c + z)] 26)).heap.size := by simp
  have hb : Below w8.heap.size w8 (w8.alloc (.cells #[.int .i64 (a + x), .int .i64 (b + y), .int .i64 (c + z)] 26)) := below_new _ _
  generalize w8.alloc (.cells #[.int .i64 (a + x), .int .i64 (b + y), .int .i64 (c + z)] 26) = w9 at *
  replace HB := Lib.hid (on_below HB.out hb)
  replace b0 := keepc hb b0
  replace b1 := keepc hb b1
  replace b2 := keepc hb b2
  replace p0 := keepc hb p0
  replace p1 := keepc hb p1
  replace p2 := keepc hb p2
  replace q0 := keepc hb q0
  replace q1 := keepc hb q1
  replace q2 := keepc hb q2
  replace s0 := keepc hb s0
  replace s1 := keepc hb s1
  replace s2 := keepc hb s2
  replace kb := blk_on kb hb
  replace kp := blk_on kp hb
  replace kq := blk_on kq hb
  replace ks := blk_on ks hb
  replace lb := Nat.lt_of_lt_of_le lb hb.size
  replace lp := Nat.lt_of_lt_of_le lp hb.size
  replace lq := Nat.lt_of_lt_of_le lq hb.size
  replace ls := Nat.lt_of_lt_of_le ls hb.size
  clear hb
  generalize w8.heap.size = gm at *
  go_wp2_with fail
  with_reducible refine (along_p d e f x y z (vv_iff.1 h2) (vv_iff.1 h3) _).mono ?_
  rintro e_ w10 ⟨rfl, hb⟩
  replace HB := Lib.hid (on_below HB.out hb)
  replace b0 := keepc hb b0
  replace b1 := keepc hb b1
  replace b2 := keepc hb b2
  replace p0 := keepc hb p0
  replace p1 := keepc hb p1
  replace p2 := keepc hb p2
  replace q0 := keepc hb q0
  replace q1 := keepc hb q1
  replace q2 := keepc hb q2
  replace s0 := keepc hb s0
  replace s1 := keepc hb s1
  replace s2 := keepc hb s2
  replace m0 := keepc hb m0
  replace m1 := keepc hb m1
  replace m2 := keepc hb m2
  replace kb := blk_on kb hb
  replace kp := blk_on kp hb
  replace kq := blk_on kq hb
  replace ks := blk_on ks hb
  replace lb := Nat.lt_of_lt_of_le lb hb.size
  replace lp := Nat.lt_of_lt_of_le lp hb.size
  replace lq := Nat.lt_of_lt_of_le lq hb.size
  replace ls := Nat.lt_of_lt_of_le ls hb.size
  replace lm := Nat.lt_of_lt_of_le lm hb.size
  clear hb
  go_wp2_with fail
  have n0 : World.cell? (w10.alloc (.cells #[.int .i64 (d + x), .int .i64 (e + y), .int .i64 (f + z)] 26)) ⟨w10.heap.size, 0, none⟩ = some (.int .i64 (d + x)) := by simp [go_sem]
  have n1 : World.cell? (w10.alloc (.cells #[.int .i64 (d + x), .int .i64 (e + y), .int .i64 (f + z)] 26)) ⟨w10.heap.size, 1, none⟩ = some (.int .i64 (e + y)) := by simp [go_sem]
  have n2 : World.cell? (w10.alloc (.cells #[.int .i64 (d + x), .int .i64 (e + y), .int .i64 (f + z)] 26)) ⟨w10.heap.size, 2, none⟩ = some (.int .i64 (f + z)) := by simp [go_sem]
  have ln : w10.heap.size < (w10.alloc (.cells #[.int .i64 (d + x), .int .i64 (e + y), .int .i64 (f + z)] 26)).heap.size := by simp
  have hb : Below w10.heap.size w10 (w10.alloc (.cells #[.int .i64 (d + x), .int .i64 (e + y), .int .i64 (f + z)] 26)) := below_new _ _
  generalize w10.alloc (.cells #[.int .i64 (d + x), .int .i64 (e + y), .int .i64 (f + z)] 26) = w11 at *
  replace HB := Lib.hid (on_below HB.out hb)
  replace b0 := keepc hb b0
  replace b1 := keepc hb b1
  replace b2 := keepc hb b2
  replace p0 := keepc hb p0
  replace p1 := keepc hb p1
  replace p2 := keepc hb p2
  replace q0 := keepc hb q0
  replace q1 := keepc hb q1
  replace q2 := keepc hb q2
  replace s0 := keepc hb s0
  replace s1 := keepc hb s1
  replace s2 := keepc hb s2
  replace m0 := keepc hb m0
  replace m1 := keepc hb m1
  replace m2 := keepc hb m2
  replace kb := blk_on kb hb
  replace kp := blk_on kp hb
  replace kq := blk_on kq hb
  replace ks := blk_on ks hb
  replace lb := Nat.lt_of_lt_of_le lb hb.size
  replace lp := Nat.lt_of_lt_of_le lp hb.size
  replace lq := Nat.lt_of_lt_of_le lq hb.size
  replace ls := Nat.lt_of_lt_of_le ls hb.size
  replace lm := Nat.lt_of_lt_of_le lm hb.size
  clear hb
  generalize w10.heap.size = gn at *
  go_wp2_with fail
  have HBO := Lib.hid hb1
  clear hb1
  with_reducible refine (C1.out _ (HM.out.below HB.out)).mono ?_
  rintro e_ w12 ⟨g, D, rfl, hs, hb⟩
  replace HB := Lib.hid (on_below HB.out hb)
  replace b0 := keepc hb b0
  replace b1 := keepc hb b1
  replace b2 := keepc hb b2
  replace p0 := keepc hb p0
  replace p1 := keepc hb p1
  replace p2 := keepc hb p2
  replace q0 := keepc hb q0
  replace q1 := keepc hb q1
  replace q2 := keepc hb q2
  replace s0 := keepc hb s0
  replace s1 := keepc hb s1
  replace s2 := keepc hb s2
  replace m0 := keepc hb m0
  replace m1 := keepc hb m1
  replace m2 := keepc hb m2
  replace n0 := keepc hb n0
  replace n1 := keepc hb n1
  replace n2 := keepc hb n2
  replace kb := blk_on kb hb
  replace kp := blk_on kp hb
  replace kq := blk_on kq hb
  replace ks := blk_on ks hb
  replace lb := Nat.lt_of_lt_of_le lb hb.size
  replace lp := Nat.lt_of_lt_of_le lp hb.size
  replace lq := Nat.lt_of_lt_of_le lq hb.size
  replace ls := Nat.lt_of_lt_of_le ls hb.size
  replace lm := Nat.lt_of_lt_of_le lm hb.size
  replace ln := Nat.lt_of_lt_of_le ln hb.size
  clear hb
  have HS := Lib.hid hs
  clear hs
  go_wp2_with fail
  have c0 : World.cell? (w12.alloc (.cells #[.slice (some ⟨g, 0, none⟩) ms.length D, .int .i64 l, .int .i64 h] 24)) ⟨w12.heap.size, 0, none⟩ = some (.slice (some ⟨g, 0, none⟩) ms.length D) := by simp [go_sem]
  have c1 : World.cell? (w12.alloc (.cells #[.slice (some ⟨g, 0, none⟩) ms.length D, .int .i64 l, .int .i64 h] 24)) ⟨w12.heap.size, 1, none⟩ = some (.int .i64 l) := by simp [go_sem]
  have c2 : World.cell? (w12.alloc (.cells #[.slice (some ⟨g, 0, none⟩) ms.length D, .int .i64 l, .int .i64 h] 24)) ⟨w12.heap.size, 2, none⟩ = some (.int .i64 h) := by simp [go_sem]
  have lc : w12.heap.size < (w12.alloc (.cells #[.slice (some ⟨g, 0, none⟩) ms.length D, .int .i64 l, .int .i64 h] 24)).heap.size := by simp
  have hb : Below w12.heap.size w12 (w12.alloc (.cells #[.slice (some ⟨g, 0, none⟩) ms.length D, .int .i64 l, .int .i64 h] 24)) := below_new _ _
  generalize w12.alloc (.cells #[.slice (some ⟨g, 0, none⟩) ms.length D, .int .i64 l, .int .i64 h] 24) = w13 at *
  replace HB := Lib.hid (on_below HB.out hb)
  replace HS := Lib.hid (HS.out.below hb)
  replace b0 := keepc hb b0
  replace b1 := keepc hb b1
  replace b2 := keepc hb b2
  replace p0 := keepc hb p0
  replace p1 := keepc hb p1
  replace p2 := keepc hb p2
  replace q0 := keepc hb q0
  replace q1 := keepc hb q1
  replace q2 := keepc hb q2
  replace s0 := keepc hb s0
  replace s1 := keepc hb s1
  replace s2 := keepc hb s2
  replace m0 := keepc hb m0
  replace m1 := keepc hb m1
  replace m2 := keepc hb m2
  replace n0 := keepc hb n0
  replace n1 := keepc hb n1
  replace n2 := keepc hb n2
  replace kb := blk_on kb hb
  replace kp := blk_on kp hb
  replace kq := blk_on kq hb
  replace ks := blk_on ks hb
  replace lb := Nat.lt_of_lt_of_le lb hb.size
  replace lp := Nat.lt_of_lt_of_le lp hb.size
  replace lq := Nat.lt_of_lt_of_le lq hb.size
  replace ls := Nat.lt_of_lt_of_le ls hb.size
  replace lm := Nat.lt_of_lt_of_le lm hb.size
  replace ln := Nat.lt_of_lt_of_le ln hb.size
  clear hb
  generalize w12.heap.size = gc at *
  go_wp2_with fail
  have sc : ∀ {V : World}, Below w13.heap.size w13 V → V.cell? ⟨gc, 0, none⟩ = some (.slice (some ⟨g, 0, none⟩) ms.length D) ∧ V.cell? ⟨gc, 1, none⟩ = some (.int .i64 l) ∧ V.cell? ⟨gc, 2, none⟩ = some (.int .i64 h) ∧ V.cell? ⟨w.heap.size + 1 + 1 + 1, 0, none⟩ = some (.int .i64 x) ∧ V.cell? ⟨w.heap.size + 1 + 1 + 1, 1, none⟩ = some (.int .i64 y) ∧ V.cell? ⟨w.heap.size + 1 + 1 + 1, 2, none⟩ = some (.int .i64 z) := fun h => ⟨keepc h c0, keepc h c1, keepc h c2, keepc h s0, keepc h s1, keepc h s2⟩
  refine wp_region_held_drew (S := fun V => V.cell? ⟨gc, 0, none⟩ = some (.slice (some ⟨g, 0, none⟩) ms.length D) ∧ V.cell? ⟨gc, 1, none⟩ = some (.int .i64 l) ∧ V.cell? ⟨gc, 2, none⟩ = some (.int .i64 h) ∧ V.cell? ⟨w.heap.size + 1 + 1 + 1, 0, none⟩ = some (.int .i64 x) ∧ V.cell? ⟨w.heap.size + 1 + 1 + 1, 1, none⟩ = some (.int .i64 y) ∧ V.cell? ⟨w.heap.size + 1 + 1 + 1, 2, none⟩ = some (.int .i64 z)) (by kernel_rfl) (sc (Below.refl _ _).drew) fun HL_ => ?_
  have hb0 : Below w13.heap.size w13 w13.drew := (Below.refl _ _).drew
  refine wpAnyH_take (i := 0) (v := .agg #[.slice (some ⟨g, 0, none⟩) ms.length D, .int .i64 l, .int .i64 h]) rfl (by kernel_rfl) (by kernel_rfl) (by kernel_rfl) (fun _ _ _ h => h) (Or.inl ⟨by kernel_rfl, ?_⟩) HL_ ?_
  · rintro Wl ⟨s0, s1, s2, s3, s4, s5⟩
    go_simp
  simp only [Act.put, List.getElem_toArray, List.getElem_cons_succ, List.getElem_cons_zero, List.setIfInBounds_toArray, List.set_cons_zero, List.set_cons_succ]
  refine wpAnyH_take (i := 1) (v := .agg #[.int .i64 0, .int .i64 0, .int .i64 0]) rfl (by kernel_rfl) (by kernel_rfl) (by kernel_rfl) (fun _ _ _ h => h) (Or.inl ⟨by kernel_rfl, ?_⟩) HL_ ?_
  · rintro Wl ⟨s0, s1, s2, s3, s4, s5⟩
    go_simp
  simp only [Act.put, List.getElem_toArray, List.getElem_cons_succ, List.getElem_cons_zero, List.setIfInBounds_toArray, List.set_cons_zero, List.set_cons_succ]
  refine wpAnyH_take (i := 2) (v := .agg #[.int .i64 x, .int .i64 y, .int .i64 z]) rfl (by kernel_rfl) (by kernel_rfl) (by kernel_rfl) (fun _ _ _ h => h) (Or.inl ⟨by kernel_rfl, ?_⟩) HL_ ?_
  · rintro Wl ⟨s0, s1, s2, s3, s4, s5⟩
    go_simp
  simp only [Act.put, List.getElem_toArray, List.getElem_cons_succ, List.getElem_cons_zero, List.setIfInBounds_toArray, List.set_cons_zero, List.set_cons_succ]
  refine wpAnyH_ready (rs := [3, 8]) (by kernel_rfl) (by simp) ?_
  refine AllReadyH.cons (o := _) rfl (fun K_ hK => ?_) (AllReadyH.cons (o := _) rfl (fun K_ hK => ?_) AllReadyH.nil)
  · go_simp
    with_reducible refine (CA.out _).mono ?_
    rintro e_ x1 ⟨rfl, hb⟩
    replace hb0 := on_below hb0 hb
    clear hb
    refine hK.out _ _ (sc hb0) fun HL_ => ?_
    clear hK K_
    refine wpAnyH_ready (rs := [4, 8]) (by kernel_rfl) (by simp) ?_
    refine AllReadyH.cons (o := _) rfl (fun K_ hK => ?_) (AllReadyH.cons (o := _) rfl (fun K_ hK => ?_) AllReadyH.nil)
    · go_simp
      with_reducible refine (C2.out _ _ _ (HS.out.below hb0)).mono ?_
      rintro e_ x2 ⟨g2, D2, rfl, hs, hb⟩
      replace hb0 := on_below hb0 hb
      clear hb
      have HT := Lib.hid hs
      clear hs
      refine hK.out _ _ (sc hb0) fun HL_ => ?_
      clear hK K_
      refine wpAnyH_take (i := 5) (v := .tuple #[.agg #[.slice (some ⟨g2, 0, none⟩) ys.length D2, .int .i64 lo, .int .i64 hi], .int .i64 0]) rfl (by kernel_rfl) (by kernel_rfl) (by kernel_rfl) (fun _ _ _ h => h) (Or.inl ⟨by kernel_rfl, ?_⟩) HL_ ?_
      · rintro Wl ⟨s0, s1, s2, s3, s4, s5⟩
        go_simp
      simp only [Act.put, List.getElem_toArray, List.getElem_cons_succ, List.getElem_cons_zero, List.setIfInBounds_toArray, List.set_cons_zero, List.set_cons_succ]
      refine wpAnyH_take (i := 6) (v := .agg #[.slice (some ⟨g2, 0, none⟩) ys.length D2, .int .i64 lo, .int .i64 hi]) rfl (by kernel_rfl) (by kernel_rfl) (by kernel_rfl) (fun _ _ _ h => h) (Or.inl ⟨by kernel_rfl, ?_⟩) HL_ ?_
      · rintro Wl ⟨s0, s1, s2, s3, s4, s5⟩
        go_simp
      simp only [Act.put, List.getElem_toArray, List.getElem_cons_succ, List.getElem_cons_zero, List.setIfInBounds_toArray, List.set_cons_zero, List.set_cons_succ]
      refine wpAnyH_take (i := 7) (v := .int .i64 0) rfl (by kernel_rfl) (by kernel_rfl) (by kernel_rfl) (fun _ _ _ h => h) (Or.inl ⟨by kernel_rfl, ?_⟩) HL_ ?_
      · rintro Wl ⟨s0, s1, s2, s3, s4, s5⟩
        go_simp
      simp only [Act.put, List.getElem_toArray, List.getElem_cons_succ, List.getElem_cons_zero, List.setIfInBounds_toArray, List.set_cons_zero, List.set_cons_succ]
      refine wpAnyH_ready (rs := [8]) (by kernel_rfl) (by simp) ?_
      refine AllReadyH.cons (o := _) rfl (fun K_ hK => ?_) AllReadyH.nil
      go_simp
      have kd : (x2.alloc (.cells #[.slice none 0 0, .int .i64 0, .int .i64 0] 24)).heap[x2.heap.size]? = some _ := World.alloc_heap_new _ _
      have lgd : w13.heap.size ≤ x2.heap.size := hb0.size
      replace HT := Lib.hid (HT.out.below (below_new x2 (.cells #[.slice none 0 0, .int .i64 0, .int .i64 0] 24)))
      replace hb0 : Below w13.heap.size w13 (x2.alloc (.cells #[.slice none 0 0, .int .i64 0, .int .i64 0] 24)) := hb0.alloc hb0.size _
      refine hK.out _ _ (sc hb0) fun HL_ => ?_
      clear hK K_
      obtain ⟨x3, hx3⟩ : ∃ x, (x2.alloc (.cells #[.slice none 0 0, .int .i64 0, .int .i64 0] 24)) = x := ⟨_, rfl⟩
      obtain ⟨gd, hgd⟩ : ∃ x, x2.heap.size = x := ⟨_, rfl⟩
      rw [hgd] at lgd
      rw [hgd] at kd
      rw [hx3] at kd hb0 HT ⊢
      rw [hgd]
      clear hx3 hgd
      have fd0 : World.frozen? x3 ⟨gd, 0, none⟩ = false := by simp [World.frozen?, kd]
      have fd1 : World.frozen? x3 ⟨gd, 1, none⟩ = false := by simp [World.frozen?, kd]
      have fd2 : World.frozen? x3 ⟨gd, 2, none⟩ = false := by simp [World.frozen?, kd]
      have d0 := (cells3 kd).1
      have d1 := (cells3 kd).2.1
      have d2 := (cells3 kd).2.2
      have hb : Below w13.heap.size w13 (((x3.setCell ⟨gd, 0, none⟩ (.slice (some ⟨g2, 0, none⟩) ys.length D2)).setCell ⟨gd, 1, none⟩ (.int .i64 lo)).setCell ⟨gd, 2, none⟩ (.int .i64 hi)) := ((hb0.setCell lgd _).setCell lgd _).setCell lgd _
      have kd2 : (((x3.setCell ⟨gd, 0, none⟩ (.slice (some ⟨g2, 0, none⟩) ys.length D2)).setCell ⟨gd, 1, none⟩ (.int .i64 lo)).setCell ⟨gd, 2, none⟩ (.int .i64 hi)).heap[gd]? = some (.cells #[.slice (some ⟨g2, 0, none⟩) ys.length D2, .int .i64 lo, .int .i64 hi] 24 (0, 0)) := set_cells (set_cells (set_cells kd 0 _) 1 _) 2 _
      have HT2 := Lib.hid (sl_far3 HT.out kd (.slice (some ⟨g2, 0, none⟩) ys.length D2) (.int .i64 lo) (.int .i64 hi))
      refine wpAnyH_ready (rs := [9]) (by kernel_rfl) (by simp) ?_
      refine AllReadyH.cons (o := _) rfl (fun K_ hK => ?_) AllReadyH.nil
      go_simp
      refine hK.out _ _ (sc hb) fun HL_ => ?_
      clear hK K_
      clear fd0 fd1 fd2 d0 d1 d2 kd hb0 HT lgd
      refine wpAnyH_take (i := 10) (v := .int .i64 0) rfl (by kernel_rfl) (by kernel_rfl) (by kernel_rfl) (fun _ _ _ h => h) (Or.inl ⟨by kernel_rfl, ?_⟩) HL_ ?_
      · rintro Wl ⟨s0, s1, s2, s3, s4, s5⟩
        go_simp
      simp only [Act.put, List.getElem_toArray, List.getElem_cons_succ, List.getElem_cons_zero, List.setIfInBounds_toArray, List.set_cons_zero, List.set_cons_succ]
      refine wpAnyH_done (by kernel_rfl) ?_ _
      clear HL_ sc
      generalize (((x3.setCell ⟨gd, 0, none⟩ (.slice (some ⟨g2, 0, none⟩) ys.length D2)).setCell ⟨gd, 1, none⟩ (.int .i64 lo)).setCell ⟨gd, 2, none⟩ (.int .i64 hi)) = w14 at *
      replace HB := Lib.hid (on_below HB.out hb)
      replace HS := Lib.hid (HS.out.below hb)
      replace b0 := keepc hb b0
      replace b1 := keepc hb b1
      replace b2 := keepc hb b2
      replace p0 := keepc hb p0
      replace p1 := keepc hb p1
      replace p2 := keepc hb p2
      replace q0 := keepc hb q0
      replace q1 := keepc hb q1
      replace q2 := keepc hb q2
      replace s0 := keepc hb s0
      replace s1 := keepc hb s1
      replace s2 := keepc hb s2
      replace m0 := keepc hb m0
      replace m1 := keepc hb m1
      replace m2 := keepc hb m2
      replace n0 := keepc hb n0
      replace n1 := keepc hb n1
      replace n2 := keepc hb n2
      replace c0 := keepc hb c0
      replace c1 := keepc hb c1
      replace c2 := keepc hb c2
      replace kb := blk_on kb hb
      replace kp := blk_on kp hb
      replace kq := blk_on kq hb
      replace ks := blk_on ks hb
      replace lb := Nat.lt_of_lt_of_le lb hb.size
      replace lp := Nat.lt_of_lt_of_le lp hb.size
      replace lq := Nat.lt_of_lt_of_le lq hb.size
      replace ls := Nat.lt_of_lt_of_le ls hb.size
      replace lm := Nat.lt_of_lt_of_le lm hb.size
      replace ln := Nat.lt_of_lt_of_le ln hb.size
      replace lc := Nat.lt_of_lt_of_le lc hb.size
      clear hb
      have d0 := (cells3 kd2).1
      have d1 := (cells3 kd2).2.1
      have d2 := (cells3 kd2).2.2
      have ld := block_lt d0
      clear kd2
      go_wp2_with fail
      with_reducible refine (C3.out _ _ _ HT2.out (HM.out.below HB.out)).mono ?_
      rintro e_ w15 ⟨rfl, hb⟩
      replace HB := Lib.hid (on_below HB.out hb)
      replace HS := Lib.hid (HS.out.below hb)
      replace HT2 := Lib.hid (HT2.out.below hb)
      replace b0 := keepc hb b0
      replace b1 := keepc hb b1
      replace b2 := keepc hb b2
      replace p0 := keepc hb p0
      replace p1 := keepc hb p1
      replace p2 := keepc hb p2
      replace q0 := keepc hb q0
      replace q1 := keepc hb q1
      replace q2 := keepc hb q2
      replace s0 := keepc hb s0
      replace s1 := keepc hb s1
      replace s2 := keepc hb s2
      replace m0 := keepc hb m0
      replace m1 := keepc hb m1
      replace m2 := keepc hb m2
      replace n0 := keepc hb n0
      replace n1 := keepc hb n1
      replace n2 := keepc hb n2
      replace c0 := keepc hb c0
      replace c1 := keepc hb c1
      replace c2 := keepc hb c2
      replace d0 := keepc hb d0
      replace d1 := keepc hb d1
      replace d2 := keepc hb d2
      replace kb := blk_on kb hb
      replace kp := blk_on kp hb
      replace kq := blk_on kq hb
      replace ks := blk_on ks hb
      replace lb := Nat.lt_of_lt_of_le lb hb.size
      replace lp := Nat.lt_of_lt_of_le lp hb.size
      replace lq := Nat.lt_of_lt_of_le lq hb.size
      replace ls := Nat.lt_of_lt_of_le ls hb.size
      replace lm := Nat.lt_of_lt_of_le lm hb.size
      replace ln := Nat.lt_of_lt_of_le ln hb.size
      replace lc := Nat.lt_of_lt_of_le lc hb.size
      replace ld := Nat.lt_of_lt_of_le ld hb.size
      clear hb
      go_wp2_with fail
      with_reducible refine (qpoint_is (a + x) (b + y) (c + z) false h4 _).mono ?_
      rintro e_ w16 ⟨rfl, hb⟩
      replace HB := Lib.hid (on_below HB.out hb)
      replace HS := Lib.hid (HS.out.below hb)
      replace HT2 := Lib.hid (HT2.out.below hb)
      replace b0 := keepc hb b0
      replace b1 := keepc hb b1
      replace b2 := keepc hb b2
      replace p0 := keepc hb p0
      replace p1 := keepc hb p1
      replace p2 := keepc hb p2
      replace q0 := keepc hb q0
      replace q1 := keepc hb q1
      replace q2 := keepc hb q2
      replace s0 := keepc hb s0
      replace s1 := keepc hb s1
      replace s2 := keepc hb s2
      replace m0 := keepc hb m0
      replace m1 := keepc hb m1
      replace m2 := keepc hb m2
      replace n0 := keepc hb n0
      replace n1 := keepc hb n1
      replace n2 := keepc hb n2
      replace c0 := keepc hb c0
      replace c1 := keepc hb c1
      replace c2 := keepc hb c2
      replace d0 := keepc hb d0
      replace d1 := keepc hb d1
      replace d2 := keepc hb d2
      replace kb := blk_on kb hb
      replace kp := blk_on kp hb
      replace kq := blk_on kq hb
      replace ks := blk_on ks hb
      replace lb := Nat.lt_of_lt_of_le lb hb.size
      replace lp := Nat.lt_of_lt_of_le lp hb.size
      replace lq := Nat.lt_of_lt_of_le lq hb.size
      replace ls := Nat.lt_of_lt_of_le ls hb.size
      replace lm := Nat.lt_of_lt_of_le lm hb.size
      replace ln := Nat.lt_of_lt_of_le ln hb.size
      replace lc := Nat.lt_of_lt_of_le lc hb.size
      replace ld := Nat.lt_of_lt_of_le ld hb.size
      clear hb
      go_wp2_with fail
      go_ret
      exact ⟨rfl, HB.out⟩
    · go_simp
      have kd : (x1.alloc (.cells #[.slice none 0 0, .int .i64 0, .int .i64 0] 24)).heap[x1.heap.size]? = some _ := World.alloc_heap_new _ _
      have lgd : w13.heap.size ≤ x1.heap.size := hb0.size
      replace hb0 : Below w13.heap.size w13 (x1.alloc (.cells #[.slice none 0 0, .int .i64 0, .int .i64 0] 24)) := hb0.alloc hb0.size _
      refine hK.out _ _ (sc hb0) fun HL_ => ?_
      clear hK K_
      obtain ⟨x3, hx3⟩ : ∃ x, (x1.alloc (.cells #[.slice none 0 0, .int .i64 0, .int .i64 0] 24)) = x := ⟨_, rfl⟩
      obtain ⟨gd, hgd⟩ : ∃ x, x1.heap.size = x := ⟨_, rfl⟩
      rw [hgd] at lgd
      rw [hgd] at kd
      rw [hx3] at kd hb0 ⊢
      rw [hgd]
      clear hx3 hgd
      refine wpAnyH_ready (rs := [4]) (by kernel_rfl) (by simp) ?_
      refine AllReadyH.cons (o := _) rfl (fun K_ hK => ?_) AllReadyH.nil
      go_simp
      with_reducible refine (C2.out _ _ _ (HS.out.below hb0)).mono ?_
      rintro e_ x2 ⟨g2, D2, rfl, hs, hb⟩
      replace kd := blk_on kd hb
      replace hb0 := on_below hb0 hb
      clear hb
      have HT := Lib.hid hs
      clear hs
      refine hK.out _ _ (sc hb0) fun HL_ => ?_
      clear hK K_
      refine wpAnyH_take (i := 5) (v := .tuple #[.agg #[.slice (some ⟨g2, 0, none⟩) ys.length D2, .int .i64 lo, .int .i64 hi], .int .i64 0]) rfl (by kernel_rfl) (by kernel_rfl) (by kernel_rfl) (fun _ _ _ h => h) (Or.inl ⟨by kernel_rfl, ?_⟩) HL_ ?_
      · rintro Wl ⟨s0, s1, s2, s3, s4, s5⟩
        go_simp
      simp only [Act.put, List.getElem_toArray, List.getElem_cons_succ, List.getElem_cons_zero, List.setIfInBounds_toArray, List.set_cons_zero, List.set_cons_succ]
      refine wpAnyH_take (i := 6) (v := .agg #[.slice (some ⟨g2, 0, none⟩) ys.length D2, .int .i64 lo, .int .i64 hi]) rfl (by kernel_rfl) (by kernel_rfl) (by kernel_rfl) (fun _ _ _ h => h) (Or.inl ⟨by kernel_rfl, ?_⟩) HL_ ?_
      · rintro Wl ⟨s0, s1, s2, s3, s4, s5⟩
        go_simp
      simp only [Act.put, List.getElem_toArray, List.getElem_cons_succ, List.getElem_cons_zero, List.setIfInBounds_toArray, List.set_cons_zero, List.set_cons_succ]
      refine wpAnyH_take (i := 7) (v := .int .i64 0) rfl (by kernel_rfl) (by kernel_rfl) (by kernel_rfl) (fun _ _ _ h => h) (Or.inl ⟨by kernel_rfl, ?_⟩) HL_ ?_
      · rintro Wl ⟨s0, s1, s2, s3, s4, s5⟩
        go_simp
      simp only [Act.put, List.getElem_toArray, List.getElem_cons_succ, List.getElem_cons_zero, List.setIfInBounds_toArray, List.set_cons_zero, List.set_cons_succ]
      have fd0 : World.frozen? x2 ⟨gd, 0, none⟩ = false := by simp [World.frozen?, kd]
      have fd1 : World.frozen? x2 ⟨gd, 1, none⟩ = false := by simp [World.frozen?, kd]
      have fd2 : World.frozen? x2 ⟨gd, 2, none⟩ = false := by simp [World.frozen?, kd]
      have d0 := (cells3 kd).1
      have d1 := (cells3 kd).2.1
      have d2 := (cells3 kd).2.2
      have hb : Below w13.heap.size w13 (((x2.setCell ⟨gd, 0, none⟩ (.slice (some ⟨g2, 0, none⟩) ys.length D2)).setCell ⟨gd, 1, none⟩ (.int .i64 lo)).setCell ⟨gd, 2, none⟩ (.int .i64 hi)) := ((hb0.setCell lgd _).setCell lgd _).setCell lgd _
      have kd2 : (((x2.setCell ⟨gd, 0, none⟩ (.slice (some ⟨g2, 0, none⟩) ys.length D2)).setCell ⟨gd, 1, none⟩ (.int .i64 lo)).setCell ⟨gd, 2, none⟩ (.int .i64 hi)).heap[gd]? = some (.cells #[.slice (some ⟨g2, 0, none⟩) ys.length D2, .int .i64 lo, .int .i64 hi] 24 (0, 0)) := set_cells (set_cells (set_cells kd 0 _) 1 _) 2 _
      have HT2 := Lib.hid (sl_far3 HT.out kd (.slice (some ⟨g2, 0, none⟩) ys.length D2) (.int .i64 lo) (.int .i64 hi))
      refine wpAnyH_ready (rs := [9]) (by kernel_rfl) (by simp) ?_
      refine AllReadyH.cons (o := _) rfl (fun K_ hK => ?_) AllReadyH.nil
      go_simp
      refine hK.out _ _ (sc hb) fun HL_ => ?_
      clear hK K_
      clear fd0 fd1 fd2 d0 d1 d2 kd hb0 HT lgd
      refine wpAnyH_take (i := 10) (v := .int .i64 0) rfl (by kernel_rfl) (by kernel_rfl) (by kernel_rfl) (fun _ _ _ h => h) (Or.inl ⟨by kernel_rfl, ?_⟩) HL_ ?_
      · rintro Wl ⟨s0, s1, s2, s3, s4, s5⟩
        go_simp
      simp only [Act.put, List.getElem_toArray, List.getElem_cons_succ, List.getElem_cons_zero, List.setIfInBounds_toArray, List.set_cons_zero, List.set_cons_succ]
      refine wpAnyH_done (by kernel_rfl) ?_ _
      clear HL_ sc
      generalize (((x2.setCell ⟨gd, 0, none⟩ (.slice (some ⟨g2, 0, none⟩) ys.length D2)).setCell ⟨gd, 1, none⟩ (.int .i64 lo)).setCell ⟨gd, 2, none⟩ (.int .i64 hi)) = w14 at *
      replace HB := Lib.hid (on_below HB.out hb)
      replace HS := Lib.hid (HS.out.below hb)
      replace b0 := keepc hb b0
      replace b1 := keepc hb b1
      replace b2 := keepc hb b2
      replace p0 := keepc hb p0
      replace p1 := keepc hb p1
      replace p2 := keepc hb p2
      replace q0 := keepc hb q0
      replace q1 := keepc hb q1
      replace q2 := keepc hb q2
      replace s0 := keepc hb s0
      replace s1 := keepc hb s1
      replace s2 := keepc hb s2
      replace m0 := keepc hb m0
      replace m1 := keepc hb m1
      replace m2 := keepc hb m2
      replace n0 := keepc hb n0
      replace n1 := keepc hb n1
      replace n2 := keepc hb n2
      replace c0 := keepc hb c0
      replace c1 := keepc hb c1
      replace c2 := keepc hb c2
      replace kb := blk_on kb hb
      replace kp := blk_on kp hb
      replace kq := blk_on kq hb
      replace ks := blk_on ks hb
      replace lb := Nat.lt_of_lt_of_le lb hb.size
      replace lp := Nat.lt_of_lt_of_le lp hb.size
      replace lq := Nat.lt_of_lt_of_le lq hb.size
      replace ls := Nat.lt_of_lt_of_le ls hb.size
      replace lm := Nat.lt_of_lt_of_le lm hb.size
      replace ln := Nat.lt_of_lt_of_le ln hb.size
      replace lc := Nat.lt_of_lt_of_le lc hb.size
      clear hb
      have d0 := (cells3 kd2).1
      have d1 := (cells3 kd2).2.1
      have d2 := (cells3 kd2).2.2
      have ld := block_lt d0
      clear kd2
      go_wp2_with fail
      with_reducible refine (C3.out _ _ _ HT2.out (HM.out.below HB.out)).mono ?_
      rintro e_ w15 ⟨rfl, hb⟩
      replace HB := Lib.hid (on_below HB.out hb)
      replace HS := Lib.hid (HS.out.below hb)
      replace HT2 := Lib.hid (HT2.out.below hb)
      replace b0 := keepc hb b0
      replace b1 := keepc hb b1
      replace b2 := keepc hb b2
      replace p0 := keepc hb p0
      replace p1 := keepc hb p1
      replace p2 := keepc hb p2
      replace q0 := keepc hb q0
      replace q1 := keepc hb q1
      replace q2 := keepc hb q2
      replace s0 := keepc hb s0
      replace s1 := keepc hb s1
      replace s2 := keepc hb s2
      replace m0 := keepc hb m0
      replace m1 := keepc hb m1
      replace m2 := keepc hb m2
      replace n0 := keepc hb n0
      replace n1 := keepc hb n1
      replace n2 := keepc hb n2
      replace c0 := keepc hb c0
      replace c1 := keepc hb c1
      replace c2 := keepc hb c2
      replace d0 := keepc hb d0
      replace d1 := keepc hb d1
      replace d2 := keepc hb d2
      replace kb := blk_on kb hb
      replace kp := blk_on kp hb
      replace kq := blk_on kq hb
      replace ks := blk_on ks hb
      replace lb := Nat.lt_of_lt_of_le lb hb.size
      replace lp := Nat.lt_of_lt_of_le lp hb.size
      replace lq := Nat.lt_of_lt_of_le lq hb.size
      replace ls := Nat.lt_of_lt_of_le ls hb.size
      replace lm := Nat.lt_of_lt_of_le lm hb.size
      replace ln := Nat.lt_of_lt_of_le ln hb.size
      replace lc := Nat.lt_of_lt_of_le lc hb.size
      replace ld := Nat.lt_of_lt_of_le ld hb.size
      clear hb
      go_wp2_with fail
      with_reducible refine (qpoint_is (a + x) (b + y) (c + z) false h4 _).mono ?_
      rintro e_ w16 ⟨rfl, hb⟩
      replace HB := Lib.hid (on_below HB.out hb)
      replace HS := Lib.hid (HS.out.below hb)
      replace HT2 := Lib.hid (HT2.out.below hb)
      replace b0 := keepc hb b0
      replace b1 := keepc hb b1
      replace b2 := keepc hb b2
      replace p0 := keepc hb p0
      replace p1 := keepc hb p1
      replace p2 := keepc hb p2
      replace q0 := keepc hb q0
      replace q1 := keepc hb q1
      replace q2 := keepc hb q2
      replace s0 := keepc hb s0
      replace s1 := keepc hb s1
      replace s2 := keepc hb s2
      replace m0 := keepc hb m0
      replace m1 := keepc hb m1
      replace m2 := keepc hb m2
      replace n0 := keepc hb n0
      replace n1 := keepc hb n1
      replace n2 := keepc hb n2
      replace c0 := keepc hb c0
      replace c1 := keepc hb c1
      replace c2 := keepc hb c2
      replace d0 := keepc hb d0
      replace d1 := keepc hb d1
      replace d2 := keepc hb d2
      replace kb := blk_on kb hb
      replace kp := blk_on kp hb
      replace kq := blk_on kq hb
      replace ks := blk_on ks hb
      replace lb := Nat.lt_of_lt_of_le lb hb.size
      replace lp := Nat.lt_of_lt_of_le lp hb.size
      replace lq := Nat.lt_of_lt_of_le lq hb.size
      replace ls := Nat.lt_of_lt_of_le ls hb.size
      replace lm := Nat.lt_of_lt_of_le lm hb.size
      replace ln := Nat.lt_of_lt_of_le ln hb.size
      replace lc := Nat.lt_of_lt_of_le lc hb.size
      replace ld := Nat.lt_of_lt_of_le ld hb.size
      clear hb
      go_wp2_with fail
      go_ret
      exact ⟨rfl, HB.out⟩
  · go_simp
    have kd : (w13.alloc (.cells #[.slice none 0 0, .int .i64 0, .int .i64 0] 24)).drew.heap[w13.heap.size]? = some _ := World.alloc_heap_new _ _
    have lgd : w13.heap.size ≤ w13.heap.size := Nat.le_refl _
    replace hb0 : Below w13.heap.size w13 (w13.alloc (.cells #[.slice none 0 0, .int .i64 0, .int .i64 0] 24)).drew := ((Below.refl _ _).alloc (Nat.le_refl _) _).drew
    refine hK.out _ _ (sc hb0) fun HL_ => ?_
    clear hK K_
    obtain ⟨x3, hx3⟩ : ∃ x, (w13.alloc (.cells #[.slice none 0 0, .int .i64 0, .int .i64 0] 24)).drew = x := ⟨_, rfl⟩
    obtain ⟨gd, hgd⟩ : ∃ x, w13.heap.size = x := ⟨_, rfl⟩
    replace lgd : w13.heap.size ≤ gd := Nat.le_of_eq hgd
    rw [hgd] at kd
    rw [hx3] at kd hb0 ⊢
    rw [hgd]
    clear hx3 hgd
    refine wpAnyH_ready (rs := [3]) (by kernel_rfl) (by simp) ?_
    refine AllReadyH.cons (o := _) rfl (fun K_ hK => ?_) AllReadyH.nil
    go_simp
    with_reducible refine (CA.out _).mono ?_
    rintro e_ x1 ⟨rfl, hb⟩
    replace kd := blk_on kd hb
    replace hb0 := on_below hb0 hb
    clear hb
    refine hK.out _ _ (sc hb0) fun HL_ => ?_
    clear hK K_
    refine wpAnyH_ready (rs := [4]) (by kernel_rfl) (by simp) ?_
    refine AllReadyH.cons (o := _) rfl (fun K_ hK => ?_) AllReadyH.nil
    go_simp
    with_reducible refine (C2.out _ _ _ (HS.out.below hb0)).mono ?_
    rintro e_ x2 ⟨g2, D2, rfl, hs, hb⟩
    replace kd := blk_on kd hb
    replace hb0 := on_below hb0 hb
    clear hb
    have HT := Lib.hid hs
    clear hs
    refine hK.out _ _ (sc hb0) fun HL_ => ?_
    clear hK K_
    refine wpAnyH_take (i := 5) (v := .tuple #[.agg #[.slice (some ⟨g2, 0, none⟩) ys.length D2, .int .i64 lo, .int .i64 hi], .int .i64 0]) rfl (by kernel_rfl) (by kernel_rfl) (by kernel_rfl) (fun _ _ _ h => h) (Or.inl ⟨by kernel_rfl, ?_⟩) HL_ ?_
    · rintro Wl ⟨s0, s1, s2, s3, s4, s5⟩
      go_simp
    simp only [Act.put, List.getElem_toArray, List.getElem_cons_succ, List.getElem_cons_zero, List.setIfInBounds_toArray, List.set_cons_zero, List.set_cons_succ]
    refine wpAnyH_take (i := 6) (v := .agg #[.slice (some ⟨g2, 0, none⟩) ys.length D2, .int .i64 lo, .int .i64 hi]) rfl (by kernel_rfl) (by kernel_rfl) (by kernel_rfl) (fun _ _ _ h => h) (Or.inl ⟨by kernel_rfl, ?_⟩) HL_ ?_
    · rintro Wl ⟨s0, s1, s2, s3, s4, s5⟩
      go_simp
    simp only [Act.put, List.getElem_toArray, List.getElem_cons_succ, List.getElem_cons_zero, List.setIfInBounds_toArray, List.set_cons_zero, List.set_cons_succ]
    refine wpAnyH_take (i := 7) (v := .int .i64 0) rfl (by kernel_rfl) (by kernel_rfl) (by kernel_rfl) (fun _ _ _ h => h) (Or.inl ⟨by kernel_rfl, ?_⟩) HL_ ?_
    · rintro Wl ⟨s0, s1, s2, s3, s4, s5⟩
      go_simp
    simp only [Act.put, List.getElem_toArray, List.getElem_cons_succ, List.getElem_cons_zero, List.setIfInBounds_toArray, List.set_cons_zero, List.set_cons_succ]
    have fd0 : World.frozen? x2 ⟨gd, 0, none⟩ = false := by simp [World.frozen?, kd]
    have fd1 : World.frozen? x2 ⟨gd, 1, none⟩ = false := by simp [World.frozen?, kd]
    have fd2 : World.frozen? x2 ⟨gd, 2, none⟩ = false := by simp [World.frozen?, kd]
    have d0 := (cells3 kd).1
    have d1 := (cells3 kd).2.1
    have d2 := (cells3 kd).2.2
    have hb : Below w13.heap.size w13 (((x2.setCell ⟨gd, 0, none⟩ (.slice (some ⟨g2, 0, none⟩) ys.length D2)).setCell ⟨gd, 1, none⟩ (.int .i64 lo)).setCell ⟨gd, 2, none⟩ (.int .i64 hi)) := ((hb0.setCell lgd _).setCell lgd _).setCell lgd _
    have kd2 : (((x2.setCell ⟨gd, 0, none⟩ (.slice (some ⟨g2, 0, none⟩) ys.length D2)).setCell ⟨gd, 1, none⟩ (.int .i64 lo)).setCell ⟨gd, 2, none⟩ (.int .i64 hi)).heap[gd]? = some (.cells #[.slice (some ⟨g2, 0, none⟩) ys.length D2, .int .i64 lo, .int .i64 hi] 24 (0, 0)) := set_cells (set_cells (set_cells kd 0 _) 1 _) 2 _
    have HT2 := Lib.hid (sl_far3 HT.out kd (.slice (some ⟨g2, 0, none⟩) ys.length D2) (.int .i64 lo) (.int .i64 hi))
    refine wpAnyH_ready (rs := [9]) (by kernel_rfl) (by simp) ?_
    refine AllReadyH.cons (o := _) rfl (fun K_ hK => ?_) AllReadyH.nil
    go_simp
    refine hK.out _ _ (sc hb) fun HL_ => ?_
    clear hK K_
    clear fd0 fd1 fd2 d0 d1 d2 kd hb0 HT lgd
    refine wpAnyH_take (i := 10) (v := .int .i64 0) rfl (by kernel_rfl) (by kernel_rfl) (by kernel_rfl) (fun _ _ _ h => h) (Or.inl ⟨by kernel_rfl, ?_⟩) HL_ ?_
    · rintro Wl ⟨s0, s1, s2, s3, s4, s5⟩
      go_simp
    simp only [Act.put, List.getElem_toArray, List.getElem_cons_succ, List.getElem_cons_zero, List.setIfInBounds_toArray, List.set_cons_zero, List.set_cons_succ]
    refine wpAnyH_done (by kernel_rfl) ?_ _
    clear HL_ sc
    generalize (((x2.setCell ⟨gd, 0, none⟩ (.slice (some ⟨g2, 0, none⟩) ys.length D2)).setCell ⟨gd, 1, none⟩ (.int .i64 lo)).setCell ⟨gd, 2, none⟩ (.int .i64 hi)) = w14 at *
    replace HB := Lib.hid (on_below HB.out hb)
    replace HS := Lib.hid (HS.out.below hb)
    replace b0 := keepc hb b0
    replace b1 := keepc hb b1
    replace b2 := keepc hb b2
    replace p0 := keepc hb p0
    replace p1 := keepc hb p1
    replace p2 := keepc hb p2
    replace q0 := keepc hb q0
    replace q1 := keepc hb q1
    replace q2 := keepc hb q2
    replace s0 := keepc hb s0
    replace s1 := keepc hb s1
    replace s2 := keepc hb s2
    replace m0 := keepc hb m0
    replace m1 := keepc hb m1
    replace m2 := keepc hb m2
    replace n0 := keepc hb n0
    replace n1 := keepc hb n1
    replace n2 := keepc hb n2
    replace c0 := keepc hb c0
    replace c1 := keepc hb c1
    replace c2 := keepc hb c2
    replace kb := blk_on kb hb
    replace kp := blk_on kp hb
    replace kq := blk_on kq hb
    replace ks := blk_on ks hb
    replace lb := Nat.lt_of_lt_of_le lb hb.size
    replace lp := Nat.lt_of_lt_of_le lp hb.size
    replace lq := Nat.lt_of_lt_of_le lq hb.size
    replace ls := Nat.lt_of_lt_of_le ls hb.size
    replace lm := Nat.lt_of_lt_of_le lm hb.size
    replace ln := Nat.lt_of_lt_of_le ln hb.size
    replace lc := Nat.lt_of_lt_of_le lc hb.size
    clear hb
    have d0 := (cells3 kd2).1
    have d1 := (cells3 kd2).2.1
    have d2 := (cells3 kd2).2.2
    have ld := block_lt d0
    clear kd2
    go_wp2_with fail
    with_reducible refine (C3.out _ _ _ HT2.out (HM.out.below HB.out)).mono ?_
    rintro e_ w15 ⟨rfl, hb⟩
    replace HB := Lib.hid (on_below HB.out hb)
    replace HS := Lib.hid (HS.out.below hb)
    replace HT2 := Lib.hid (HT2.out.below hb)
    replace b0 := keepc hb b0
    replace b1 := keepc hb b1
    replace b2 := keepc hb b2
    replace p0 := keepc hb p0
    replace p1 := keepc hb p1
    replace p2 := keepc hb p2
    replace q0 := keepc hb q0
    replace q1 := keepc hb q1
    replace q2 := keepc hb q2
    replace s0 := keepc hb s0
    replace s1 := keepc hb s1
    replace s2 := keepc hb s2
    replace m0 := keepc hb m0
    replace m1 := keepc hb m1
    replace m2 := keepc hb m2
    replace n0 := keepc hb n0
    replace n1 := keepc hb n1
    replace n2 := keepc hb n2
    replace c0 := keepc hb c0
    replace c1 := keepc hb c1
    replace c2 := keepc hb c2
    replace d0 := keepc hb d0
    replace d1 := keepc hb d1
    replace d2 := keepc hb d2
    replace kb := blk_on kb hb
    replace kp := blk_on kp hb
    replace kq := blk_on kq hb
    replace ks := blk_on ks hb
    replace lb := Nat.lt_of_lt_of_le lb hb.size
    replace lp := Nat.lt_of_lt_of_le lp hb.size
    replace lq := Nat.lt_of_lt_of_le lq hb.size
    replace ls := Nat.lt_of_lt_of_le ls hb.size
    replace lm := Nat.lt_of_lt_of_le lm hb.size
    replace ln := Nat.lt_of_lt_of_le ln hb.size
    replace lc := Nat.lt_of_lt_of_le lc hb.size
    replace ld := Nat.lt_of_lt_of_le ld hb.size
    clear hb
    go_wp2_with fail
    with_reducible refine (qpoint_is (a + x) (b + y) (c + z) false h4 _).mono ?_
    rintro e_ w16 ⟨rfl, hb⟩
    replace HB := Lib.hid (on_below HB.out hb)
    replace HS := Lib.hid (HS.out.below hb)
    replace HT2 := Lib.hid (HT2.out.below hb)
    replace b0 := keepc hb b0
    replace b1 := keepc hb b1
    replace b2 := keepc hb b2
    replace p0 := keepc hb p0
    replace p1 := keepc hb p1
    replace p2 := keepc hb p2
    replace q0 := keepc hb q0
    replace q1 := keepc hb q1
    replace q2 := keepc hb q2
    replace s0 := keepc hb s0
    replace s1 := keepc hb s1
    replace s2 := keepc hb s2
    replace m0 := keepc hb m0
    replace m1 := keepc hb m1
    replace m2 := keepc hb m2
    replace n0 := keepc hb n0
    replace n1 := keepc hb n1
    replace n2 := keepc hb n2
    replace c0 := keepc hb c0
    replace c1 := keepc hb c1
    replace c2 := keepc hb c2
    replace d0 := keepc hb d0
    replace d1 := keepc hb d1
    replace d2 := keepc hb d2
    replace kb := blk_on kb hb
    replace kp := blk_on kp hb
    replace kq := blk_on kq hb
    replace ks := blk_on ks hb
    replace lb := Nat.lt_of_lt_of_le lb hb.size
    replace lp := Nat.lt_of_lt_of_le lp hb.size
    replace lq := Nat.lt_of_lt_of_le lq hb.size
    replace ls := Nat.lt_of_lt_of_le ls hb.size
    replace lm := Nat.lt_of_lt_of_le lm hb.size
    replace ln := Nat.lt_of_lt_of_le ln hb.size
    replace lc := Nat.lt_of_lt_of_le lc hb.size
    replace ld := Nat.lt_of_lt_of_le ld hb.size
    clear hb
    go_wp2_with fail
    go_ret
    exact ⟨rfl, HB.out⟩
set_option maxRecDepth 100000 in
set_option maxHeartbeats 4000000 in
theorem mvd_7 (A : Option Addr) (C : Nat) (xs ys : List (Int × Int)) (lo hi a b c d e f x y z : Int) (hy : xs.take 20 = ys) (hly : ys.length ≤ 9223372036854775806) (h1 : vv a b c = true) (h2 : vv d e f = true) (h3 : vv x y z = true) (ms : List (Int × Int)) (l h : Int) (hb1 : Bok ys lo hi) (hmb : Bok ms l h) (em : mv ys x y = ms) (el : lo + z = l) (eh : hi + z = h) (hlm : ms.length ≤ 9223372036854775806) (eb : mv ms (-x) (-y) = ys) (el2 : l + -z = lo) (eh2 : h + -z = hi) (h4 : vv (a + x) (b + y) (c + z) = true) (h5 : vv (d + x) (e + y) (f + z) = false) (w : World) (hl : Lp w A C xs) (hm : SlS w A ys) :
    Calls Try.prog 7 #[.agg #[.slice A xs.length C, .int .i64 lo, .int .i64 hi], .agg #[.int .i64 a, .int .i64 b, .int .i64 c], .agg #[.int .i64 d, .int .i64 e, .int .i64 f], .agg #[.int .i64 x, .int .i64 y, .int .i64 z]] w fun e_ w' => e_ = .returned (.bool true) ∧ Below w.heap.size w w' := by
  have HL := Lib.hid hl
  clear hl
  have HM := Lib.hid hm
  clear hm
  have C1 := Lib.hid (fun W (k : SlS W A ys) => move_ok A C ys ms lo hi x y z l h hly hb1 (vv_iff.1 h3) hmb em el eh W k)
  have v3m : V3 (-x) (-y) (-z) := by obtain ⟨⟨_, _⟩, ⟨_, _⟩, _, _⟩ := vv_iff.1 h3; constructor <;> (constructor <;> omega)
  have C2 := Lib.hid (fun W (A' : Option Addr) (C' : Nat) (k : SlS W A' ms) => move_ok A' C' ms ys l h (-x) (-y) (-z) lo hi hlm hmb v3m hb1 eb el2 eh2 W k)
  have C3 := Lib.hid (fun W (A' : Option Addr) (C' : Nat) (k : SlS W A' ys) (k2 : SlS W A ys) => qsame_is A' A C' C ys ys lo hi lo hi (by omega) (by omega) true (iff_of_true rfl ⟨rfl, rfl, rfl⟩) W k k2)
  have CA := Lib.hid (fun W => along_m x y z (vv_iff.1 h3) W)
  clear v3m eb el2 eh2 em el eh hmb
  go_enter Try.func7, Try.ntmps7
  go_wp2_with fail
  obtain ⟨w1, hw1⟩ : ∃ V, ((((w.alloc (.cells #[.slice A xs.length C, .int .i64 lo, .int .i64 hi] 24)).alloc (.cells #[.int .i64 a, .int .i64 b, .int .i64 c] 26)).alloc (.cells #[.int .i64 d, .int .i64 e, .int .i64 f] 26)).alloc (.cells #[.int .i64 x, .int .i64 y, .int .i64 z] 26)) = V := ⟨_, rfl⟩
  obtain ⟨hB_, kb, kp, kq, ks⟩ := boxes4 _ _ _ _ _ hw1
  rw [hw1]
  clear hw1
  have HB := Lib.hid hB_
  clear hB_
  have b0 := (cells3 kb).1
  have b1 := (cells3 kb).2.1
  have b2 := (cells3 kb).2.2
  have lb := block_lt b0
  have p0 := (cells3 kp).1
  have p1 := (cells3 kp).2.1
  have p2 := (cells3 kp).2.2
  have lp := block_lt p0
  have q0 := (cells3 kq).1
  have q1 := (cells3 kq).2.1
  have q2 := (cells3 kq).2.2
  have lq := block_lt q0
  have s0 := (cells3 ks).1
  have s1 := (cells3 ks).2.1
  have s2 := (cells3 ks).2.2
  have ls := block_lt s0
  with_reducible refine (head_any _).mono ?_
  rintro e_ w2 ⟨rfl, hb⟩
  replace HB := Lib.hid (on_below HB.out hb)
  replace b0 := keepc hb b0
  replace b1 := keepc hb b1
  replace b2 := keepc hb b2
  replace p0 := keepc hb p0
  replace p1 := keepc hb p1
  replace p2 := keepc hb p2
  replace q0 := keepc hb q0
  replace q1 := keepc hb q1
  replace q2 := keepc hb q2
  replace s0 := keepc hb s0
  replace s1 := keepc hb s1
  replace s2 := keepc hb s2
  replace kb := blk_on kb hb
  replace kp := blk_on kp hb
  replace kq := blk_on kq hb
  replace ks := blk_on ks hb
  replace lb := Nat.lt_of_lt_of_le lb hb.size
  replace lp := Nat.lt_of_lt_of_le lp hb.size
  replace lq := Nat.lt_of_lt_of_le lq hb.size
  replace ls := Nat.lt_of_lt_of_le ls hb.size
  clear hb
  go_wp2_with fail
  have CF := Lib.hid (fun W (h : Lp W A C xs) => few_is A C xs lo hi W h)
  rw [hy] at CF
  with_reducible refine (CF.out _ (HL.out.below HB.out)).mono ?_
  rintro e_ w3 ⟨rfl, hb⟩
  replace HB := Lib.hid (on_below HB.out hb)
  replace b0 := keepc hb b0
  replace b1 := keepc hb b1
  replace b2 := keepc hb b2
  replace p0 := keepc hb p0
  replace p1 := keepc hb p1
  replace p2 := keepc hb p2
  replace q0 := keepc hb q0
  replace q1 := keepc hb q1
  replace q2 := keepc hb q2
  replace s0 := keepc hb s0
  replace s1 := keepc hb s1
  replace s2 := keepc hb s2
  replace kb := blk_on kb hb
  replace kp := blk_on kp hb
  replace kq := blk_on kq hb
  replace ks := blk_on ks hb
  replace lb := Nat.lt_of_lt_of_le lb hb.size
  replace lp := Nat.lt_of_lt_of_le lp hb.size
  replace lq := Nat.lt_of_lt_of_le lq hb.size
  replace ls := Nat.lt_of_lt_of_le ls hb.size
  clear hb
  have fb0 : World.frozen? w3 ⟨w.heap.size, 0, none⟩ = false := by simp [World.frozen?, kb]
  have fb1 : World.frozen? w3 ⟨w.heap.size, 1, none⟩ = false := by simp [World.frozen?, kb]
  have fb2 : World.frozen? w3 ⟨w.heap.size, 2, none⟩ = false := by simp [World.frozen?, kb]
  go_wp2_with fail
  clear CF fb0 fb1 fb2 b0 b1 b2 p0 p1 p2 q0 q1 q2 s0 s1 s2 lb lp lq ls
  replace kb : (((w3.setCell ⟨w.heap.size, 0, none⟩ (.slice A ys.length C)).setCell ⟨w.heap.size, 1, none⟩ (.int .i64 lo)).setCell ⟨w.heap.size, 2, none⟩ (.int .i64 hi)).heap[w.heap.size]? = some (.cells #[.slice A ys.length C, .int .i64 lo, .int .i64 hi] 24 (0, 0)) := set_cells (set_cells (set_cells kb 0 _) 1 _) 2 _
  replace kp : (((w3.setCell ⟨w.heap.size, 0, none⟩ (.slice A ys.length C)).setCell ⟨w.heap.size, 1, none⟩ (.int .i64 lo)).setCell ⟨w.heap.size, 2, none⟩ (.int .i64 hi)).heap[w.heap.size + 1]? = _ := blk_far (blk_far (blk_far kp (by omega)) (by omega)) (by omega)
  replace kq : (((w3.setCell ⟨w.heap.size, 0, none⟩ (.slice A ys.length C)).setCell ⟨w.heap.size, 1, none⟩ (.int .i64 lo)).setCell ⟨w.heap.size, 2, none⟩ (.int .i64 hi)).heap[w.heap.size + 1 + 1]? = _ := blk_far (blk_far (blk_far kq (by omega)) (by omega)) (by omega)
  replace ks : (((w3.setCell ⟨w.heap.size, 0, none⟩ (.slice A ys.length C)).setCell ⟨w.heap.size, 1, none⟩ (.int .i64 lo)).setCell ⟨w.heap.size, 2, none⟩ (.int .i64 hi)).heap[w.heap.size + 1 + 1 + 1]? = _ := blk_far (blk_far (blk_far ks (by omega)) (by omega)) (by omega)
  replace HB := Lib.hid (show Below w.heap.size w (((w3.setCell ⟨w.heap.size, 0, none⟩ (.slice A ys.length C)).setCell ⟨w.heap.size, 1, none⟩ (.int .i64 lo)).setCell ⟨w.heap.size, 2, none⟩ (.int .i64 hi)) from ((HB.out.setCell (by simp <;> omega) _).setCell (by simp <;> omega) _).setCell (by simp <;> omega) _)
  generalize (((w3.setCell ⟨w.heap.size, 0, none⟩ (.slice A ys.length C)).setCell ⟨w.heap.size, 1, none⟩ (.int .i64 lo)).setCell ⟨w.heap.size, 2, none⟩ (.int .i64 hi)) = w4 at *
  have b0 := (cells3 kb).1
  have b1 := (cells3 kb).2.1
  have b2 := (cells3 kb).2.2
  have lb := block_lt b0
  have p0 := (cells3 kp).1
  have p1 := (cells3 kp).2.1
  have p2 := (cells3 kp).2.2
  have lp := block_lt p0
  have q0 := (cells3 kq).1
  have q1 := (cells3 kq).2.1
  have q2 := (cells3 kq).2.2
  have lq := block_lt q0
  have s0 := (cells3 ks).1
  have s1 := (cells3 ks).2.1
  have s2 := (cells3 ks).2.2
  have ls := block_lt s0
  go_wp2_with fail
  with_reducible refine (qpoint_is a b c true h1 _).mono ?_
  rintro e_ w5 ⟨rfl, hb⟩
  replace HB := Lib.hid (on_below HB.out hb)
  replace b0 := keepc hb b0
  replace b1 := keepc hb b1
  replace b2 := keepc hb b2
  replace p0 := keepc hb p0
  replace p1 := keepc hb p1
  replace p2 := keepc hb p2
  replace q0 := keepc hb q0
  replace q1 := keepc hb q1
  replace q2 := keepc hb q2
  replace s0 := keepc hb s0
  replace s1 := keepc hb s1
  replace s2 := keepc hb s2
  replace kb := blk_on kb hb
  replace kp := blk_on kp hb
  replace kq := blk_on kq hb
  replace ks := blk_on ks hb
  replace lb := Nat.lt_of_lt_of_le lb hb.size
  replace lp := Nat.lt_of_lt_of_le lp hb.size
  replace lq := Nat.lt_of_lt_of_le lq hb.size
  replace ls := Nat.lt_of_lt_of_le ls hb.size
  clear hb
  go_wp2_with fail
  with_reducible refine (qpoint_is d e f true h2 _).mono ?_
  rintro e_ w6 ⟨rfl, hb⟩
  replace HB := Lib.hid (on_below HB.out hb)
  replace b0 := keepc hb b0
  replace b1 := keepc hb b1
  replace b2 := keepc hb b2
  replace p0 := keepc hb p0
  replace p1 := keepc hb p1
  replace p2 := keepc hb p2
  replace q0 := keepc hb q0
  replace q1 := keepc hb q1
  replace q2 := keepc hb q2
  replace s0 := keepc hb s0
  replace s1 := keepc hb s1
  replace s2 := keepc hb s2
  replace kb := blk_on kb hb
  replace kp := blk_on kp hb
  replace kq := blk_on kq hb
  replace ks := blk_on ks hb
  replace lb := Nat.lt_of_lt_of_le lb hb.size
  replace lp := Nat.lt_of_lt_of_le lp hb.size
  replace lq := Nat.lt_of_lt_of_le lq hb.size
  replace ls := Nat.lt_of_lt_of_le ls hb.size
  clear hb
  go_wp2_with fail
  with_reducible refine (qpoint_is x y z true h3 _).mono ?_
  rintro e_ w7 ⟨rfl, hb⟩
  replace HB := Lib.hid (on_below HB.out hb)
  replace b0 := keepc hb b0
  replace b1 := keepc hb b1
  replace b2 := keepc hb b2
  replace p0 := keepc hb p0
  replace p1 := keepc hb p1
  replace p2 := keepc hb p2
  replace q0 := keepc hb q0
  replace q1 := keepc hb q1
  replace q2 := keepc hb q2
  replace s0 := keepc hb s0
  replace s1 := keepc hb s1
  replace s2 := keepc hb s2
  replace kb := blk_on kb hb
  replace kp := blk_on kp hb
  replace kq := blk_on kq hb
  replace ks := blk_on ks hb
  replace lb := Nat.lt_of_lt_of_le lb hb.size
  replace lp := Nat.lt_of_lt_of_le lp hb.size
  replace lq := Nat.lt_of_lt_of_le lq hb.size
  replace ls := Nat.lt_of_lt_of_le ls hb.size
  clear hb
  go_wp2_with fail
  with_reducible refine (along_p a b c x y z (vv_iff.1 h1) (vv_iff.1 h3) _).mono ?_
  rintro e_ w8 ⟨rfl, hb⟩
  replace HB := Lib.hid (on_below HB.out hb)
  replace b0 := keepc hb b0
  replace b1 := keepc hb b1
  replace b2 := keepc hb b2
  replace p0 := keepc hb p0
  replace p1 := keepc hb p1
  replace p2 := keepc hb p2
  replace q0 := keepc hb q0
  replace q1 := keepc hb q1
  replace q2 := keepc hb q2
  replace s0 := keepc hb s0
  replace s1 := keepc hb s1
  replace s2 := keepc hb s2
  replace kb := blk_on kb hb
  replace kp := blk_on kp hb
  replace kq := blk_on kq hb
  replace ks := blk_on ks hb
  replace lb := Nat.lt_of_lt_of_le lb hb.size
  replace lp := Nat.lt_of_lt_of_le lp hb.size
  replace lq := Nat.lt_of_lt_of_le lq hb.size
  replace ls := Nat.lt_of_lt_of_le ls hb.size
  clear hb
  go_wp2_with fail
  have m0 : World.cell? (w8.alloc (.cells #[.int .i64 (a + x), .int .i64 (b + y), .int .i64 (c + z)] 26)) ⟨w8.heap.size, 0, none⟩ = some (.int .i64 (a + x)) := by simp [go_sem]
  have m1 : World.cell? (w8.alloc (.cells #[.int .i64 (a + x), .int .i64 (b + y), .int .i64 (c + z)] 26)) ⟨w8.heap.size, 1, none⟩ = some (.int .i64 (b + y)) := by simp [go_sem]
  have m2 : World.cell? (w8.alloc (.cells #[.int .i64 (a + x), .int .i64 (b + y), .int .i64 (c + z)] 26)) ⟨w8.heap.size, 2, none⟩ = some (.int .i64 (c + z)) := by simp [go_sem]
  have lm : w8.heap.size < (w8.alloc (.cells #[.int .i64 (a + x), .int .i64 (b + y), .int .i64 (c + z)] 26)).heap.size := by simp
  have hb : Below w8.heap.size w8 (w8.alloc (.cells #[.int .i64 (a + x), .int .i64 (b + y), .int .i64 (c + z)] 26)) := below_new _ _
  generalize w8.alloc (.cells #[.int .i64 (a + x), .int .i64 (b + y), .int .i64 (c + z)] 26) = w9 at *
  replace HB := Lib.hid (on_below HB.out hb)
  replace b0 := keepc hb b0
  replace b1 := keepc hb b1
  replace b2 := keepc hb b2
  replace p0 := keepc hb p0
  replace p1 := keepc hb p1
  replace p2 := keepc hb p2
  replace q0 := keepc hb q0
  replace q1 := keepc hb q1
  replace q2 := keepc hb q2
  replace s0 := keepc hb s0
  replace s1 := keepc hb s1
  replace s2 := keepc hb s2
  replace kb := blk_on kb hb
  replace kp := blk_on kp hb
  replace kq := blk_on kq hb
  replace ks := blk_on ks hb
  replace lb := Nat.lt_of_lt_of_le lb hb.size
  replace lp := Nat.lt_of_lt_of_le lp hb.size
  replace lq := Nat.lt_of_lt_of_le lq hb.size
  replace ls := Nat.lt_of_lt_of_le ls hb.size
  clear hb
  generalize w8.heap.size = gm at *
  go_wp2_with fail
  with_reducible refine (along_p d e f x y z (vv_iff.1 h2) (vv_iff.1 h3) _).mono ?_
  rintro e_ w10 ⟨rfl, hb⟩
  replace HB := Lib.hid (on_below HB.out hb)
  replace b0 := keepc hb b0
  replace b1 := keepc hb b1
  replace b2 := keepc hb b2
  replace p0 := keepc hb p0
  replace p1 := keepc hb p1
  replace p2 := keepc hb p2
  replace q0 := keepc hb q0
  replace q1 := keepc hb q1
  replace q2 := keepc hb q2
  replace s0 := keepc hb s0
  replace s1 := keepc hb s1
  replace s2 := keepc hb s2
  replace m0 := keepc hb m0
  replace m1 := keepc hb m1
  replace m2 := keepc hb m2
  replace kb := blk_on kb hb
  replace kp := blk_on kp hb
  replace kq := blk_on kq hb
  replace ks := blk_on ks hb
  replace lb := Nat.lt_of_lt_of_le lb hb.size
  replace lp := Nat.lt_of_lt_of_le lp hb.size
  replace lq := Nat.lt_of_lt_of_le lq hb.size
  replace ls := Nat.lt_of_lt_of_le ls hb.size
  replace lm := Nat.lt_of_lt_of_le lm hb.size
  clear hb
  go_wp2_with fail
  have n0 : World.cell? (w10.alloc (.cells #[.int .i64 (d + x), .int .i64 (e + y), .int .i64 (f + z)] 26)) ⟨w10.heap.size, 0, none⟩ = some (.int .i64 (d + x)) := by simp [go_sem]
  have n1 : World.cell? (w10.alloc (.cells #[.int .i64 (d + x), .int .i64 (e + y), .int .i64 (f + z)] 26)) ⟨w10.heap.size, 1, none⟩ = some (.int .i64 (e + y)) := by simp [go_sem]
  have n2 : World.cell? (w10.alloc (.cells #[.int .i64 (d + x), .int .i64 (e + y), .int .i64 (f + z)] 26)) ⟨w10.heap.size, 2, none⟩ = some (.int .i64 (f + z)) := by simp [go_sem]
  have ln : w10.heap.size < (w10.alloc (.cells #[.int .i64 (d + x), .int .i64 (e + y), .int .i64 (f + z)] 26)).heap.size := by simp
  have hb : Below w10.heap.size w10 (w10.alloc (.cells #[.int .i64 (d + x), .int .i64 (e + y), .int .i64 (f + z)] 26)) := below_new _ _
  generalize w10.alloc (.cells #[.int .i64 (d + x), .int .i64 (e + y), .int .i64 (f + z)] 26) = w11 at *
  replace HB := Lib.hid (on_below HB.out hb)
  replace b0 := keepc hb b0
  replace b1 := keepc hb b1
  replace b2 := keepc hb b2
  replace p0 := keepc hb p0
  replace p1 := keepc hb p1
  replace p2 := keepc hb p2
  replace q0 := keepc hb q0
  replace q1 := keepc hb q1
  replace q2 := keepc hb q2
  replace s0 := keepc hb s0
  replace s1 := keepc hb s1
  replace s2 := keepc hb s2
  replace m0 := keepc hb m0
  replace m1 := keepc hb m1
  replace m2 := keepc hb m2
  replace kb := blk_on kb hb
  replace kp := blk_on kp hb
  replace kq := blk_on kq hb
  replace ks := blk_on ks hb
  replace lb := Nat.lt_of_lt_of_le lb hb.size
  replace lp := Nat.lt_of_lt_of_le lp hb.size
  replace lq := Nat.lt_of_lt_of_le lq hb.size
  replace ls := Nat.lt_of_lt_of_le ls hb.size
  replace lm := Nat.lt_of_lt_of_le lm hb.size
  clear hb
  generalize w10.heap.size = gn at *
  go_wp2_with fail
  have HBO := Lib.hid hb1
  clear hb1
  with_reducible refine (C1.out _ (HM.out.below HB.out)).mono ?_
  rintro e_ w12 ⟨g, D, rfl, hs, hb⟩
  replace HB := Lib.hid (on_below HB.out hb)
  replace b0 := keepc hb b0
  replace b1 := keepc hb b1
  replace b2 := keepc hb b2
  replace p0 := keepc hb p0
  replace p1 := keepc hb p1
  replace p2 := keepc hb p2
  replace q0 := keepc hb q0
  replace q1 := keepc hb q1
  replace q2 := keepc hb q2
  replace s0 := keepc hb s0
  replace s1 := keepc hb s1
  replace s2 := keepc hb s2
  replace m0 := keepc hb m0
  replace m1 := keepc hb m1
  replace m2 := keepc hb m2
  replace n0 := keepc hb n0
  replace n1 := keepc hb n1
  replace n2 := keepc hb n2
  replace kb := blk_on kb hb
  replace kp := blk_on kp hb
  replace kq := blk_on kq hb
  replace ks := blk_on ks hb
  replace lb := Nat.lt_of_lt_of_le lb hb.size
  replace lp := Nat.lt_of_lt_of_le lp hb.size
  replace lq := Nat.lt_of_lt_of_le lq hb.size
  replace ls := Nat.lt_of_lt_of_le ls hb.size
  replace lm := Nat.lt_of_lt_of_le lm hb.size
  replace ln := Nat.lt_of_lt_of_le ln hb.size
  clear hb
  have HS := Lib.hid hs
  clear hs
  go_wp2_with fail
  have c0 : World.cell? (w12.alloc (.cells #[.slice (some ⟨g, 0, none⟩) ms.length D, .int .i64 l, .int .i64 h] 24)) ⟨w12.heap.size, 0, none⟩ = some (.slice (some ⟨g, 0, none⟩) ms.length D) := by simp [go_sem]
  have c1 : World.cell? (w12.alloc (.cells #[.slice (some ⟨g, 0, none⟩) ms.length D, .int .i64 l, .int .i64 h] 24)) ⟨w12.heap.size, 1, none⟩ = some (.int .i64 l) := by simp [go_sem]
  have c2 : World.cell? (w12.alloc (.cells #[.slice (some ⟨g, 0, none⟩) ms.length D, .int .i64 l, .int .i64 h] 24)) ⟨w12.heap.size, 2, none⟩ = some (.int .i64 h) := by simp [go_sem]
  have lc : w12.heap.size < (w12.alloc (.cells #[.slice (some ⟨g, 0, none⟩) ms.length D, .int .i64 l, .int .i64 h] 24)).heap.size := by simp
  have hb : Below w12.heap.size w12 (w12.alloc (.cells #[.slice (some ⟨g, 0, none⟩) ms.length D, .int .i64 l, .int .i64 h] 24)) := below_new _ _
  generalize w12.alloc (.cells #[.slice (some ⟨g, 0, none⟩) ms.length D, .int .i64 l, .int .i64 h] 24) = w13 at *
  replace HB := Lib.hid (on_below HB.out hb)
  replace HS := Lib.hid (HS.out.below hb)
  replace b0 := keepc hb b0
  replace b1 := keepc hb b1
  replace b2 := keepc hb b2
  replace p0 := keepc hb p0
  replace p1 := keepc hb p1
  replace p2 := keepc hb p2
  replace q0 := keepc hb q0
  replace q1 := keepc hb q1
  replace q2 := keepc hb q2
  replace s0 := keepc hb s0
  replace s1 := keepc hb s1
  replace s2 := keepc hb s2
  replace m0 := keepc hb m0
  replace m1 := keepc hb m1
  replace m2 := keepc hb m2
  replace n0 := keepc hb n0
  replace n1 := keepc hb n1
  replace n2 := keepc hb n2
  replace kb := blk_on kb hb
  replace kp := blk_on kp hb
  replace kq := blk_on kq hb
  replace ks := blk_on ks hb
  replace lb := Nat.lt_of_lt_of_le lb hb.size
  replace lp := Nat.lt_of_lt_of_le lp hb.size
  replace lq := Nat.lt_of_lt_of_le lq hb.size
  replace ls := Nat.lt_of_lt_of_le ls hb.size
  replace lm := Nat.lt_of_lt_of_le lm hb.size
  replace ln := Nat.lt_of_lt_of_le ln hb.size
  clear hb
  generalize w12.heap.size = gc at *
  go_wp2_with fail
  have sc : ∀ {V : World}, Below w13.heap.size w13 V → V.cell? ⟨gc, 0, none⟩ = some (.slice (some ⟨g, 0, none⟩) ms.length D) ∧ V.cell? ⟨gc, 1, none⟩ = some (.int .i64 l) ∧ V.cell? ⟨gc, 2, none⟩ = some (.int .i64 h) ∧ V.cell? ⟨w.heap.size + 1 + 1 + 1, 0, none⟩ = some (.int .i64 x) ∧ V.cell? ⟨w.heap.size + 1 + 1 + 1, 1, none⟩ = some (.int .i64 y) ∧ V.cell? ⟨w.heap.size + 1 + 1 + 1, 2, none⟩ = some (.int .i64 z) := fun h => ⟨keepc h c0, keepc h c1, keepc h c2, keepc h s0, keepc h s1, keepc h s2⟩
  refine wp_region_held_drew (S := fun V => V.cell? ⟨gc, 0, none⟩ = some (.slice (some ⟨g, 0, none⟩) ms.length D) ∧ V.cell? ⟨gc, 1, none⟩ = some (.int .i64 l) ∧ V.cell? ⟨gc, 2, none⟩ = some (.int .i64 h) ∧ V.cell? ⟨w.heap.size + 1 + 1 + 1, 0, none⟩ = some (.int .i64 x) ∧ V.cell? ⟨w.heap.size + 1 + 1 + 1, 1, none⟩ = some (.int .i64 y) ∧ V.cell? ⟨w.heap.size + 1 + 1 + 1, 2, none⟩ = some (.int .i64 z)) (by kernel_rfl) (sc (Below.refl _ _).drew) fun HL_ => ?_
  have hb0 : Below w13.heap.size w13 w13.drew := (Below.refl _ _).drew
  refine wpAnyH_take (i := 0) (v := .agg #[.slice (some ⟨g, 0, none⟩) ms.length D, .int .i64 l, .int .i64 h]) rfl (by kernel_rfl) (by kernel_rfl) (by kernel_rfl) (fun _ _ _ h => h) (Or.inl ⟨by kernel_rfl, ?_⟩) HL_ ?_
  · rintro Wl ⟨s0, s1, s2, s3, s4, s5⟩
    go_simp
  simp only [Act.put, List.getElem_toArray, List.getElem_cons_succ, List.getElem_cons_zero, List.setIfInBounds_toArray, List.set_cons_zero, List.set_cons_succ]
  refine wpAnyH_take (i := 1) (v := .agg #[.int .i64 0, .int .i64 0, .int .i64 0]) rfl (by kernel_rfl) (by kernel_rfl) (by kernel_rfl) (fun _ _ _ h => h) (Or.inl ⟨by kernel_rfl, ?_⟩) HL_ ?_
  · rintro Wl ⟨s0, s1, s2, s3, s4, s5⟩
    go_simp
  simp only [Act.put, List.getElem_toArray, List.getElem_cons_succ, List.getElem_cons_zero, List.setIfInBounds_toArray, List.set_cons_zero, List.set_cons_succ]
  refine wpAnyH_take (i := 2) (v := .agg #[.int .i64 x, .int .i64 y, .int .i64 z]) rfl (by kernel_rfl) (by kernel_rfl) (by kernel_rfl) (fun _ _ _ h => h) (Or.inl ⟨by kernel_rfl, ?_⟩) HL_ ?_
  · rintro Wl ⟨s0, s1, s2, s3, s4, s5⟩
    go_simp
  simp only [Act.put, List.getElem_toArray, List.getElem_cons_succ, List.getElem_cons_zero, List.setIfInBounds_toArray, List.set_cons_zero, List.set_cons_succ]
  refine wpAnyH_ready (rs := [3, 8]) (by kernel_rfl) (by simp) ?_
  refine AllReadyH.cons (o := _) rfl (fun K_ hK => ?_) (AllReadyH.cons (o := _) rfl (fun K_ hK => ?_) AllReadyH.nil)
  · go_simp
    with_reducible refine (CA.out _).mono ?_
    rintro e_ x1 ⟨rfl, hb⟩
    replace hb0 := on_below hb0 hb
    clear hb
    refine hK.out _ _ (sc hb0) fun HL_ => ?_
    clear hK K_
    refine wpAnyH_ready (rs := [4, 8]) (by kernel_rfl) (by simp) ?_
    refine AllReadyH.cons (o := _) rfl (fun K_ hK => ?_) (AllReadyH.cons (o := _) rfl (fun K_ hK => ?_) AllReadyH.nil)
    · go_simp
      with_reducible refine (C2.out _ _ _ (HS.out.below hb0)).mono ?_
      rintro e_ x2 ⟨g2, D2, rfl, hs, hb⟩
      replace hb0 := on_below hb0 hb
      clear hb
      have HT := Lib.hid hs
      clear hs
      refine hK.out _ _ (sc hb0) fun HL_ => ?_
      clear hK K_
      refine wpAnyH_take (i := 5) (v := .tuple #[.agg #[.slice (some ⟨g2, 0, none⟩) ys.length D2, .int .i64 lo, .int .i64 hi], .int .i64 0]) rfl (by kernel_rfl) (by kernel_rfl) (by kernel_rfl) (fun _ _ _ h => h) (Or.inl ⟨by kernel_rfl, ?_⟩) HL_ ?_
      · rintro Wl ⟨s0, s1, s2, s3, s4, s5⟩
        go_simp
      simp only [Act.put, List.getElem_toArray, List.getElem_cons_succ, List.getElem_cons_zero, List.setIfInBounds_toArray, List.set_cons_zero, List.set_cons_succ]
      refine wpAnyH_take (i := 6) (v := .agg #[.slice (some ⟨g2, 0, none⟩) ys.length D2, .int .i64 lo, .int .i64 hi]) rfl (by kernel_rfl) (by kernel_rfl) (by kernel_rfl) (fun _ _ _ h => h) (Or.inl ⟨by kernel_rfl, ?_⟩) HL_ ?_
      · rintro Wl ⟨s0, s1, s2, s3, s4, s5⟩
        go_simp
      simp only [Act.put, List.getElem_toArray, List.getElem_cons_succ, List.getElem_cons_zero, List.setIfInBounds_toArray, List.set_cons_zero, List.set_cons_succ]
      refine wpAnyH_take (i := 7) (v := .int .i64 0) rfl (by kernel_rfl) (by kernel_rfl) (by kernel_rfl) (fun _ _ _ h => h) (Or.inl ⟨by kernel_rfl, ?_⟩) HL_ ?_
      · rintro Wl ⟨s0, s1, s2, s3, s4, s5⟩
        go_simp
      simp only [Act.put, List.getElem_toArray, List.getElem_cons_succ, List.getElem_cons_zero, List.setIfInBounds_toArray, List.set_cons_zero, List.set_cons_succ]
      refine wpAnyH_ready (rs := [8]) (by kernel_rfl) (by simp) ?_
      refine AllReadyH.cons (o := _) rfl (fun K_ hK => ?_) AllReadyH.nil
      go_simp
      have kd : (x2.alloc (.cells #[.slice none 0 0, .int .i64 0, .int .i64 0] 24)).heap[x2.heap.size]? = some _ := World.alloc_heap_new _ _
      have lgd : w13.heap.size ≤ x2.heap.size := hb0.size
      replace HT := Lib.hid (HT.out.below (below_new x2 (.cells #[.slice none 0 0, .int .i64 0, .int .i64 0] 24)))
      replace hb0 : Below w13.heap.size w13 (x2.alloc (.cells #[.slice none 0 0, .int .i64 0, .int .i64 0] 24)) := hb0.alloc hb0.size _
      refine hK.out _ _ (sc hb0) fun HL_ => ?_
      clear hK K_
      obtain ⟨x3, hx3⟩ : ∃ x, (x2.alloc (.cells #[.slice none 0 0, .int .i64 0, .int .i64 0] 24)) = x := ⟨_, rfl⟩
      obtain ⟨gd, hgd⟩ : ∃ x, x2.heap.size = x := ⟨_, rfl⟩
      rw [hgd] at lgd
      rw [hgd] at kd
      rw [hx3] at kd hb0 HT ⊢
      rw [hgd]
      clear hx3 hgd
      have fd0 : World.frozen? x3 ⟨gd, 0, none⟩ = false := by simp [World.frozen?, kd]
      have fd1 : World.frozen? x3 ⟨gd, 1, none⟩ = false := by simp [World.frozen?, kd]
      have fd2 : World.frozen? x3 ⟨gd, 2, none⟩ = false := by simp [World.frozen?, kd]
      have d0 := (cells3 kd).1
      have d1 := (cells3 kd).2.1
      have d2 := (cells3 kd).2.2
      have hb : Below w13.heap.size w13 (((x3.setCell ⟨gd, 0, none⟩ (.slice (some ⟨g2, 0, none⟩) ys.length D2)).setCell ⟨gd, 1, none⟩ (.int .i64 lo)).setCell ⟨gd, 2, none⟩ (.int .i64 hi)) := ((hb0.setCell lgd _).setCell lgd _).setCell lgd _
      have kd2 : (((x3.setCell ⟨gd, 0, none⟩ (.slice (some ⟨g2, 0, none⟩) ys.length D2)).setCell ⟨gd, 1, none⟩ (.int .i64 lo)).setCell ⟨gd, 2, none⟩ (.int .i64 hi)).heap[gd]? = some (.cells #[.slice (some ⟨g2, 0, none⟩) ys.length D2, .int .i64 lo, .int .i64 hi] 24 (0, 0)) := set_cells (set_cells (set_cells kd 0 _) 1 _) 2 _
      have HT2 := Lib.hid (sl_far3 HT.out kd (.slice (some ⟨g2, 0, none⟩) ys.length D2) (.int .i64 lo) (.int .i64 hi))
      refine wpAnyH_ready (rs := [9]) (by kernel_rfl) (by simp) ?_
      refine AllReadyH.cons (o := _) rfl (fun K_ hK => ?_) AllReadyH.nil
      go_simp
      refine hK.out _ _ (sc hb) fun HL_ => ?_
      clear hK K_
      clear fd0 fd1 fd2 d0 d1 d2 kd hb0 HT lgd
      refine wpAnyH_take (i := 10) (v := .int .i64 0) rfl (by kernel_rfl) (by kernel_rfl) (by kernel_rfl) (fun _ _ _ h => h) (Or.inl ⟨by kernel_rfl, ?_⟩) HL_ ?_
      · rintro Wl ⟨s0, s1, s2, s3, s4, s5⟩
        go_simp
      simp only [Act.put, List.getElem_toArray, List.getElem_cons_succ, List.getElem_cons_zero, List.setIfInBounds_toArray, List.set_cons_zero, List.set_cons_succ]
      refine wpAnyH_done (by kernel_rfl) ?_ _
      clear HL_ sc
      generalize (((x3.setCell ⟨gd, 0, none⟩ (.slice (some ⟨g2, 0, none⟩) ys.length D2)).setCell ⟨gd, 1, none⟩ (.int .i64 lo)).setCell ⟨gd, 2, none⟩ (.int .i64 hi)) = w14 at *
      replace HB := Lib.hid (on_below HB.out hb)
      replace HS := Lib.hid (HS.out.below hb)
      replace b0 := keepc hb b0
      replace b1 := keepc hb b1
      replace b2 := keepc hb b2
      replace p0 := keepc hb p0
      replace p1 := keepc hb p1
      replace p2 := keepc hb p2
      replace q0 := keepc hb q0
      replace q1 := keepc hb q1
      replace q2 := keepc hb q2
      replace s0 := keepc hb s0
      replace s1 := keepc hb s1
      replace s2 := keepc hb s2
      replace m0 := keepc hb m0
      replace m1 := keepc hb m1
      replace m2 := keepc hb m2
      replace n0 := keepc hb n0
      replace n1 := keepc hb n1
      replace n2 := keepc hb n2
      replace c0 := keepc hb c0
      replace c1 := keepc hb c1
      replace c2 := keepc hb c2
      replace kb := blk_on kb hb
      replace kp := blk_on kp hb
      replace kq := blk_on kq hb
      replace ks := blk_on ks hb
      replace lb := Nat.lt_of_lt_of_le lb hb.size
      replace lp := Nat.lt_of_lt_of_le lp hb.size
      replace lq := Nat.lt_of_lt_of_le lq hb.size
      replace ls := Nat.lt_of_lt_of_le ls hb.size
      replace lm := Nat.lt_of_lt_of_le lm hb.size
      replace ln := Nat.lt_of_lt_of_le ln hb.size
      replace lc := Nat.lt_of_lt_of_le lc hb.size
      clear hb
      have d0 := (cells3 kd2).1
      have d1 := (cells3 kd2).2.1
      have d2 := (cells3 kd2).2.2
      have ld := block_lt d0
      clear kd2
      go_wp2_with fail
      with_reducible refine (C3.out _ _ _ HT2.out (HM.out.below HB.out)).mono ?_
      rintro e_ w15 ⟨rfl, hb⟩
      replace HB := Lib.hid (on_below HB.out hb)
      replace HS := Lib.hid (HS.out.below hb)
      replace HT2 := Lib.hid (HT2.out.below hb)
      replace b0 := keepc hb b0
      replace b1 := keepc hb b1
      replace b2 := keepc hb b2
      replace p0 := keepc hb p0
      replace p1 := keepc hb p1
      replace p2 := keepc hb p2
      replace q0 := keepc hb q0
      replace q1 := keepc hb q1
      replace q2 := keepc hb q2
      replace s0 := keepc hb s0
      replace s1 := keepc hb s1
      replace s2 := keepc hb s2
      replace m0 := keepc hb m0
      replace m1 := keepc hb m1
      replace m2 := keepc hb m2
      replace n0 := keepc hb n0
      replace n1 := keepc hb n1
      replace n2 := keepc hb n2
      replace c0 := keepc hb c0
      replace c1 := keepc hb c1
      replace c2 := keepc hb c2
      replace d0 := keepc hb d0
      replace d1 := keepc hb d1
      replace d2 := keepc hb d2
      replace kb := blk_on kb hb
      replace kp := blk_on kp hb
      replace kq := blk_on kq hb
      replace ks := blk_on ks hb
      replace lb := Nat.lt_of_lt_of_le lb hb.size
      replace lp := Nat.lt_of_lt_of_le lp hb.size
      replace lq := Nat.lt_of_lt_of_le lq hb.size
      replace ls := Nat.lt_of_lt_of_le ls hb.size
      replace lm := Nat.lt_of_lt_of_le lm hb.size
      replace ln := Nat.lt_of_lt_of_le ln hb.size
      replace lc := Nat.lt_of_lt_of_le lc hb.size
      replace ld := Nat.lt_of_lt_of_le ld hb.size
      clear hb
      go_wp2_with fail
      with_reducible refine (qpoint_is (a + x) (b + y) (c + z) true h4 _).mono ?_
      rintro e_ w16 ⟨rfl, hb⟩
      replace HB := Lib.hid (on_below HB.out hb)
      replace HS := Lib.hid (HS.out.below hb)
      replace HT2 := Lib.hid (HT2.out.below hb)
      replace b0 := keepc hb b0
      replace b1 := keepc hb b1
      replace b2 := keepc hb b2
      replace p0 := keepc hb p0
      replace p1 := keepc hb p1
      replace p2 := keepc hb p2
      replace q0 := keepc hb q0
      replace q1 := keepc hb q1
      replace q2 := keepc hb q2
      replace s0 := keepc hb s0
      replace s1 := keepc hb s1
      replace s2 := keepc hb s2
      replace m0 := keepc hb m0
      replace m1 := keepc hb m1
      replace m2 := keepc hb m2
      replace n0 := keepc hb n0
      replace n1 := keepc hb n1
      replace n2 := keepc hb n2
      replace c0 := keepc hb c0
      replace c1 := keepc hb c1
      replace c2 := keepc hb c2
      replace d0 := keepc hb d0
      replace d1 := keepc hb d1
      replace d2 := keepc hb d2
      replace kb := blk_on kb hb
      replace kp := blk_on kp hb
      replace kq := blk_on kq hb
      replace ks := blk_on ks hb
      replace lb := Nat.lt_of_lt_of_le lb hb.size
      replace lp := Nat.lt_of_lt_of_le lp hb.size
      replace lq := Nat.lt_of_lt_of_le lq hb.size
      replace ls := Nat.lt_of_lt_of_le ls hb.size
      replace lm := Nat.lt_of_lt_of_le lm hb.size
      replace ln := Nat.lt_of_lt_of_le ln hb.size
      replace lc := Nat.lt_of_lt_of_le lc hb.size
      replace ld := Nat.lt_of_lt_of_le ld hb.size
      clear hb
      go_wp2_with fail
      with_reducible refine (qpoint_is (d + x) (e + y) (f + z) false h5 _).mono ?_
      rintro e_ w17 ⟨rfl, hb⟩
      replace HB := Lib.hid (on_below HB.out hb)
      replace HS := Lib.hid (HS.out.below hb)
      replace HT2 := Lib.hid (HT2.out.below hb)
      replace b0 := keepc hb b0
      replace b1 := keepc hb b1
      replace b2 := keepc hb b2
      replace p0 := keepc hb p0
      replace p1 := keepc hb p1
      replace p2 := keepc hb p2
      replace q0 := keepc hb q0
      replace q1 := keepc hb q1
      replace q2 := keepc hb q2
      replace s0 := keepc hb s0
      replace s1 := keepc hb s1
      replace s2 := keepc hb s2
      replace m0 := keepc hb m0
      replace m1 := keepc hb m1
      replace m2 := keepc hb m2
      replace n0 := keepc hb n0
      replace n1 := keepc hb n1
      replace n2 := keepc hb n2
      replace c0 := keepc hb c0
      replace c1 := keepc hb c1
      replace c2 := keepc hb c2
      replace d0 := keepc hb d0
      replace d1 := keepc hb d1
      replace d2 := keepc hb d2
      replace kb := blk_on kb hb
      replace kp := blk_on kp hb
      replace kq := blk_on kq hb
      replace ks := blk_on ks hb
      replace lb := Nat.lt_of_lt_of_le lb hb.size
      replace lp := Nat.lt_of_lt_of_le lp hb.size
      replace lq := Nat.lt_of_lt_of_le lq hb.size
      replace ls := Nat.lt_of_lt_of_le ls hb.size
      replace lm := Nat.lt_of_lt_of_le lm hb.size
      replace ln := Nat.lt_of_lt_of_le ln hb.size
      replace lc := Nat.lt_of_lt_of_le lc hb.size
      replace ld := Nat.lt_of_lt_of_le ld hb.size
      clear hb
      go_wp2_with fail
      go_ret
      exact ⟨rfl, HB.out⟩
    · go_simp
      have kd : (x1.alloc (.cells #[.slice none 0 0, .int .i64 0, .int .i64 0] 24)).heap[x1.heap.size]? = some _ := World.alloc_heap_new _ _
      have lgd : w13.heap.size ≤ x1.heap.size := hb0.size
      replace hb0 : Below w13.heap.size w13 (x1.alloc (.cells #[.slice none 0 0, .int .i64 0, .int .i64 0] 24)) := hb0.alloc hb0.size _
      refine hK.out _ _ (sc hb0) fun HL_ => ?_
      clear hK K_
      obtain ⟨x3, hx3⟩ : ∃ x, (x1.alloc (.cells #[.slice none 0 0, .int .i64 0, .int .i64 0] 24)) = x := ⟨_, rfl⟩
      obtain ⟨gd, hgd⟩ : ∃ x, x1.heap.size = x := ⟨_, rfl⟩
      rw [hgd] at lgd
      rw [hgd] at kd
      rw [hx3] at kd hb0 ⊢
      rw [hgd]
      clear hx3 hgd
      refine wpAnyH_ready (rs := [4]) (by kernel_rfl) (by simp) ?_
      refine AllReadyH.cons (o := _) rfl (fun K_ hK => ?_) AllReadyH.nil
      go_simp
      with_reducible refine (C2.out _ _ _ (HS.out.below hb0)).mono ?_
      rintro e_ x2 ⟨g2, D2, rfl, hs, hb⟩
      replace kd := blk_on kd hb
      replace hb0 := on_below hb0 hb
      clear hb
      have HT := Lib.hid hs
      clear hs
      refine hK.out _ _ (sc hb0) fun HL_ => ?_
      clear hK K_
      refine wpAnyH_take (i := 5) (v := .tuple #[.agg #[.slice (some ⟨g2, 0, none⟩) ys.length D2, .int .i64 lo, .int .i64 hi], .int .i64 0]) rfl (by kernel_rfl) (by kernel_rfl) (by kernel_rfl) (fun _ _ _ h => h) (Or.inl ⟨by kernel_rfl, ?_⟩) HL_ ?_
      · rintro Wl ⟨s0, s1, s2, s3, s4, s5⟩
        go_simp
      simp only [Act.put, List.getElem_toArray, List.getElem_cons_succ, List.getElem_cons_zero, List.setIfInBounds_toArray, List.set_cons_zero, List.set_cons_succ]
      refine wpAnyH_take (i := 6) (v := .agg #[.slice (some ⟨g2, 0, none⟩) ys.length D2, .int .i64 lo, .int .i64 hi]) rfl (by kernel_rfl) (by kernel_rfl) (by kernel_rfl) (fun _ _ _ h => h) (Or.inl ⟨by kernel_rfl, ?_⟩) HL_ ?_
      · rintro Wl ⟨s0, s1, s2, s3, s4, s5⟩
        go_simp
      simp only [Act.put, List.getElem_toArray, List.getElem_cons_succ, List.getElem_cons_zero, List.setIfInBounds_toArray, List.set_cons_zero, List.set_cons_succ]
      refine wpAnyH_take (i := 7) (v := .int .i64 0) rfl (by kernel_rfl) (by kernel_rfl) (by kernel_rfl) (fun _ _ _ h => h) (Or.inl ⟨by kernel_rfl, ?_⟩) HL_ ?_
      · rintro Wl ⟨s0, s1, s2, s3, s4, s5⟩
        go_simp
      simp only [Act.put, List.getElem_toArray, List.getElem_cons_succ, List.getElem_cons_zero, List.setIfInBounds_toArray, List.set_cons_zero, List.set_cons_succ]
      have fd0 : World.frozen? x2 ⟨gd, 0, none⟩ = false := by simp [World.frozen?, kd]
      have fd1 : World.frozen? x2 ⟨gd, 1, none⟩ = false := by simp [World.frozen?, kd]
      have fd2 : World.frozen? x2 ⟨gd, 2, none⟩ = false := by simp [World.frozen?, kd]
      have d0 := (cells3 kd).1
      have d1 := (cells3 kd).2.1
      have d2 := (cells3 kd).2.2
      have hb : Below w13.heap.size w13 (((x2.setCell ⟨gd, 0, none⟩ (.slice (some ⟨g2, 0, none⟩) ys.length D2)).setCell ⟨gd, 1, none⟩ (.int .i64 lo)).setCell ⟨gd, 2, none⟩ (.int .i64 hi)) := ((hb0.setCell lgd _).setCell lgd _).setCell lgd _
      have kd2 : (((x2.setCell ⟨gd, 0, none⟩ (.slice (some ⟨g2, 0, none⟩) ys.length D2)).setCell ⟨gd, 1, none⟩ (.int .i64 lo)).setCell ⟨gd, 2, none⟩ (.int .i64 hi)).heap[gd]? = some (.cells #[.slice (some ⟨g2, 0, none⟩) ys.length D2, .int .i64 lo, .int .i64 hi] 24 (0, 0)) := set_cells (set_cells (set_cells kd 0 _) 1 _) 2 _
      have HT2 := Lib.hid (sl_far3 HT.out kd (.slice (some ⟨g2, 0, none⟩) ys.length D2) (.int .i64 lo) (.int .i64 hi))
      refine wpAnyH_ready (rs := [9]) (by kernel_rfl) (by simp) ?_
      refine AllReadyH.cons (o := _) rfl (fun K_ hK => ?_) AllReadyH.nil
      go_simp
      refine hK.out _ _ (sc hb) fun HL_ => ?_
      clear hK K_
      clear fd0 fd1 fd2 d0 d1 d2 kd hb0 HT lgd
      refine wpAnyH_take (i := 10) (v := .int .i64 0) rfl (by kernel_rfl) (by kernel_rfl) (by kernel_rfl) (fun _ _ _ h => h) (Or.inl ⟨by kernel_rfl, ?_⟩) HL_ ?_
      · rintro Wl ⟨s0, s1, s2, s3, s4, s5⟩
        go_simp
      simp only [Act.put, List.getElem_toArray, List.getElem_cons_succ, List.getElem_cons_zero, List.setIfInBounds_toArray, List.set_cons_zero, List.set_cons_succ]
      refine wpAnyH_done (by kernel_rfl) ?_ _
      clear HL_ sc
      generalize (((x2.setCell ⟨gd, 0, none⟩ (.slice (some ⟨g2, 0, none⟩) ys.length D2)).setCell ⟨gd, 1, none⟩ (.int .i64 lo)).setCell ⟨gd, 2, none⟩ (.int .i64 hi)) = w14 at *
      replace HB := Lib.hid (on_below HB.out hb)
      replace HS := Lib.hid (HS.out.below hb)
      replace b0 := keepc hb b0
      replace b1 := keepc hb b1
      replace b2 := keepc hb b2
      replace p0 := keepc hb p0
      replace p1 := keepc hb p1
      replace p2 := keepc hb p2
      replace q0 := keepc hb q0
      replace q1 := keepc hb q1
      replace q2 := keepc hb q2
      replace s0 := keepc hb s0
      replace s1 := keepc hb s1
      replace s2 := keepc hb s2
      replace m0 := keepc hb m0
      replace m1 := keepc hb m1
      replace m2 := keepc hb m2
      replace n0 := keepc hb n0
      replace n1 := keepc hb n1
      replace n2 := keepc hb n2
      replace c0 := keepc hb c0
      replace c1 := keepc hb c1
      replace c2 := keepc hb c2
      replace kb := blk_on kb hb
      replace kp := blk_on kp hb
      replace kq := blk_on kq hb
      replace ks := blk_on ks hb
      replace lb := Nat.lt_of_lt_of_le lb hb.size
      replace lp := Nat.lt_of_lt_of_le lp hb.size
      replace lq := Nat.lt_of_lt_of_le lq hb.size
      replace ls := Nat.lt_of_lt_of_le ls hb.size
      replace lm := Nat.lt_of_lt_of_le lm hb.size
      replace ln := Nat.lt_of_lt_of_le ln hb.size
      replace lc := Nat.lt_of_lt_of_le lc hb.size
      clear hb
      have d0 := (cells3 kd2).1
      have d1 := (cells3 kd2).2.1
      have d2 := (cells3 kd2).2.2
      have ld := block_lt d0
      clear kd2
      go_wp2_with fail
      with_reducible refine (C3.out _ _ _ HT2.out (HM.out.below HB.out)).mono ?_
      rintro e_ w15 ⟨rfl, hb⟩
      replace HB := Lib.hid (on_below HB.out hb)
      replace HS := Lib.hid (HS.out.below hb)
      replace HT2 := Lib.hid (HT2.out.below hb)
      replace b0 := keepc hb b0
      replace b1 := keepc hb b1
      replace b2 := keepc hb b2
      replace p0 := keepc hb p0
      replace p1 := keepc hb p1
      replace p2 := keepc hb p2
      replace q0 := keepc hb q0
      replace q1 := keepc hb q1
      replace q2 := keepc hb q2
      replace s0 := keepc hb s0
      replace s1 := keepc hb s1
      replace s2 := keepc hb s2
      replace m0 := keepc hb m0
      replace m1 := keepc hb m1
      replace m2 := keepc hb m2
      replace n0 := keepc hb n0
      replace n1 := keepc hb n1
      replace n2 := keepc hb n2
      replace c0 := keepc hb c0
      replace c1 := keepc hb c1
      replace c2 := keepc hb c2
      replace d0 := keepc hb d0
      replace d1 := keepc hb d1
      replace d2 := keepc hb d2
      replace kb := blk_on kb hb
      replace kp := blk_on kp hb
      replace kq := blk_on kq hb
      replace ks := blk_on ks hb
      replace lb := Nat.lt_of_lt_of_le lb hb.size
      replace lp := Nat.lt_of_lt_of_le lp hb.size
      replace lq := Nat.lt_of_lt_of_le lq hb.size
      replace ls := Nat.lt_of_lt_of_le ls hb.size
      replace lm := Nat.lt_of_lt_of_le lm hb.size
      replace ln := Nat.lt_of_lt_of_le ln hb.size
      replace lc := Nat.lt_of_lt_of_le lc hb.size
      replace ld := Nat.lt_of_lt_of_le ld hb.size
      clear hb
      go_wp2_with fail
      with_reducible refine (qpoint_is (a + x) (b + y) (c + z) true h4 _).mono ?_
      rintro e_ w16 ⟨rfl, hb⟩
      replace HB := Lib.hid (on_below HB.out hb)
      replace HS := Lib.hid (HS.out.below hb)
      replace HT2 := Lib.hid (HT2.out.below hb)
      replace b0 := keepc hb b0
      replace b1 := keepc hb b1
      replace b2 := keepc hb b2
      replace p0 := keepc hb p0
      replace p1 := keepc hb p1
      replace p2 := keepc hb p2
      replace q0 := keepc hb q0
      replace q1 := keepc hb q1
      replace q2 := keepc hb q2
      replace s0 := keepc hb s0
      replace s1 := keepc hb s1
      replace s2 := keepc hb s2
      replace m0 := keepc hb m0
      replace m1 := keepc hb m1
      replace m2 := keepc hb m2
      replace n0 := keepc hb n0
      replace n1 := keepc hb n1
      replace n2 := keepc hb n2
      replace c0 := keepc hb c0
      replace c1 := keepc hb c1
      replace c2 := keepc hb c2
      replace d0 := keepc hb d0
      replace d1 := keepc hb d1
      replace d2 := keepc hb d2
      replace kb := blk_on kb hb
      replace kp := blk_on kp hb
      replace kq := blk_on kq hb
      replace ks := blk_on ks hb
      replace lb := Nat.lt_of_lt_of_le lb hb.size
      replace lp := Nat.lt_of_lt_of_le lp hb.size
      replace lq := Nat.lt_of_lt_of_le lq hb.size
      replace ls := Nat.lt_of_lt_of_le ls hb.size
      replace lm := Nat.lt_of_lt_of_le lm hb.size
      replace ln := Nat.lt_of_lt_of_le ln hb.size
      replace lc := Nat.lt_of_lt_of_le lc hb.size
      replace ld := Nat.lt_of_lt_of_le ld hb.size
      clear hb
      go_wp2_with fail
      with_reducible refine (qpoint_is (d + x) (e + y) (f + z) false h5 _).mono ?_
      rintro e_ w17 ⟨rfl, hb⟩
      replace HB := Lib.hid (on_below HB.out hb)
      replace HS := Lib.hid (HS.out.below hb)
      replace HT2 := Lib.hid (HT2.out.below hb)
      replace b0 := keepc hb b0
      replace b1 := keepc hb b1
      replace b2 := keepc hb b2
      replace p0 := keepc hb p0
      replace p1 := keepc hb p1
      replace p2 := keepc hb p2
      replace q0 := keepc hb q0
      replace q1 := keepc hb q1
      replace q2 := keepc hb q2
      replace s0 := keepc hb s0
      replace s1 := keepc hb s1
      replace s2 := keepc hb s2
      replace m0 := keepc hb m0
      replace m1 := keepc hb m1
      replace m2 := keepc hb m2
      replace n0 := keepc hb n0
      replace n1 := keepc hb n1
      replace n2 := keepc hb n2
      replace c0 := keepc hb c0
      replace c1 := keepc hb c1
      replace c2 := keepc hb c2
      replace d0 := keepc hb d0
      replace d1 := keepc hb d1
      replace d2 := keepc hb d2
      replace kb := blk_on kb hb
      replace kp := blk_on kp hb
      replace kq := blk_on kq hb
      replace ks := blk_on ks hb
      replace lb := Nat.lt_of_lt_of_le lb hb.size
      replace lp := Nat.lt_of_lt_of_le lp hb.size
      replace lq := Nat.lt_of_lt_of_le lq hb.size
      replace ls := Nat.lt_of_lt_of_le ls hb.size
      replace lm := Nat.lt_of_lt_of_le lm hb.size
      replace ln := Nat.lt_of_lt_of_le ln hb.size
      replace lc := Nat.lt_of_lt_of_le lc hb.size
      replace ld := Nat.lt_of_lt_of_le ld hb.size
      clear hb
      go_wp2_with fail
      go_ret
      exact ⟨rfl, HB.out⟩
  · go_simp
    have kd : (w13.alloc (.cells #[.slice none 0 0, .int .i64 0, .int .i64 0] 24)).drew.heap[w13.heap.size]? = some _ := World.alloc_heap_new _ _
    have lgd : w13.heap.size ≤ w13.heap.size := Nat.le_refl _
    replace hb0 : Below w13.heap.size w13 (w13.alloc (.cells #[.slice none 0 0, .int .i64 0, .int .i64 0] 24)).drew := ((Below.refl _ _).alloc (Nat.le_refl _) _).drew
    refine hK.out _ _ (sc hb0) fun HL_ => ?_
    clear hK K_
    obtain ⟨x3, hx3⟩ : ∃ x, (w13.alloc (.cells #[.slice none 0 0, .int .i64 0, .int .i64 0] 24)).drew = x := ⟨_, rfl⟩
    obtain ⟨gd, hgd⟩ : ∃ x, w13.heap.size = x := ⟨_, rfl⟩
    replace lgd : w13.heap.size ≤ gd := Nat.le_of_eq hgd
    rw [hgd] at kd
    rw [hx3] at kd hb0 ⊢
    rw [hgd]
    clear hx3 hgd
    refine wpAnyH_ready (rs := [3]) (by kernel_rfl) (by simp) ?_
    refine AllReadyH.cons (o := _) rfl (fun K_ hK => ?_) AllReadyH.nil
    go_simp
    with_reducible refine (CA.out _).mono ?_
    rintro e_ x1 ⟨rfl, hb⟩
    replace kd := blk_on kd hb
    replace hb0 := on_below hb0 hb
    clear hb
    refine hK.out _ _ (sc hb0) fun HL_ => ?_
    clear hK K_
    refine wpAnyH_ready (rs := [4]) (by kernel_rfl) (by simp) ?_
    refine AllReadyH.cons (o := _) rfl (fun K_ hK => ?_) AllReadyH.nil
    go_simp
    with_reducible refine (C2.out _ _ _ (HS.out.below hb0)).mono ?_
    rintro e_ x2 ⟨g2, D2, rfl, hs, hb⟩
    replace kd := blk_on kd hb
    replace hb0 := on_below hb0 hb
    clear hb
    have HT := Lib.hid hs
    clear hs
    refine hK.out _ _ (sc hb0) fun HL_ => ?_
    clear hK K_
    refine wpAnyH_take (i := 5) (v := .tuple #[.agg #[.slice (some ⟨g2, 0, none⟩) ys.length D2, .int .i64 lo, .int .i64 hi], .int .i64 0]) rfl (by kernel_rfl) (by kernel_rfl) (by kernel_rfl) (fun _ _ _ h => h) (Or.inl ⟨by kernel_rfl, ?_⟩) HL_ ?_
    · rintro Wl ⟨s0, s1, s2, s3, s4, s5⟩
      go_simp
    simp only [Act.put, List.getElem_toArray, List.getElem_cons_succ, List.getElem_cons_zero, List.setIfInBounds_toArray, List.set_cons_zero, List.set_cons_succ]
    refine wpAnyH_take (i := 6) (v := .agg #[.slice (some ⟨g2, 0, none⟩) ys.length D2, .int .i64 lo, .int .i64 hi]) rfl (by kernel_rfl) (by kernel_rfl) (by kernel_rfl) (fun _ _ _ h => h) (Or.inl ⟨by kernel_rfl, ?_⟩) HL_ ?_
    · rintro Wl ⟨s0, s1, s2, s3, s4, s5⟩
      go_simp
    simp only [Act.put, List.getElem_toArray, List.getElem_cons_succ, List.getElem_cons_zero, List.setIfInBounds_toArray, List.set_cons_zero, List.set_cons_succ]
    refine wpAnyH_take (i := 7) (v := .int .i64 0) rfl (by kernel_rfl) (by kernel_rfl) (by kernel_rfl) (fun _ _ _ h => h) (Or.inl ⟨by kernel_rfl, ?_⟩) HL_ ?_
    · rintro Wl ⟨s0, s1, s2, s3, s4, s5⟩
      go_simp
    simp only [Act.put, List.getElem_toArray, List.getElem_cons_succ, List.getElem_cons_zero, List.setIfInBounds_toArray, List.set_cons_zero, List.set_cons_succ]
    have fd0 : World.frozen? x2 ⟨gd, 0, none⟩ = false := by simp [World.frozen?, kd]
    have fd1 : World.frozen? x2 ⟨gd, 1, none⟩ = false := by simp [World.frozen?, kd]
    have fd2 : World.frozen? x2 ⟨gd, 2, none⟩ = false := by simp [World.frozen?, kd]
    have d0 := (cells3 kd).1
    have d1 := (cells3 kd).2.1
    have d2 := (cells3 kd).2.2
    have hb : Below w13.heap.size w13 (((x2.setCell ⟨gd, 0, none⟩ (.slice (some ⟨g2, 0, none⟩) ys.length D2)).setCell ⟨gd, 1, none⟩ (.int .i64 lo)).setCell ⟨gd, 2, none⟩ (.int .i64 hi)) := ((hb0.setCell lgd _).setCell lgd _).setCell lgd _
    have kd2 : (((x2.setCell ⟨gd, 0, none⟩ (.slice (some ⟨g2, 0, none⟩) ys.length D2)).setCell ⟨gd, 1, none⟩ (.int .i64 lo)).setCell ⟨gd, 2, none⟩ (.int .i64 hi)).heap[gd]? = some (.cells #[.slice (some ⟨g2, 0, none⟩) ys.length D2, .int .i64 lo, .int .i64 hi] 24 (0, 0)) := set_cells (set_cells (set_cells kd 0 _) 1 _) 2 _
    have HT2 := Lib.hid (sl_far3 HT.out kd (.slice (some ⟨g2, 0, none⟩) ys.length D2) (.int .i64 lo) (.int .i64 hi))
    refine wpAnyH_ready (rs := [9]) (by kernel_rfl) (by simp) ?_
    refine AllReadyH.cons (o := _) rfl (fun K_ hK => ?_) AllReadyH.nil
    go_simp
    refine hK.out _ _ (sc hb) fun HL_ => ?_
    clear hK K_
    clear fd0 fd1 fd2 d0 d1 d2 kd hb0 HT lgd
    refine wpAnyH_take (i := 10) (v := .int .i64 0) rfl (by kernel_rfl) (by kernel_rfl) (by kernel_rfl) (fun _ _ _ h => h) (Or.inl ⟨by kernel_rfl, ?_⟩) HL_ ?_
    · rintro Wl ⟨s0, s1, s2, s3, s4, s5⟩
      go_simp
    simp only [Act.put, List.getElem_toArray, List.getElem_cons_succ, List.getElem_cons_zero, List.setIfInBounds_toArray, List.set_cons_zero, List.set_cons_succ]
    refine wpAnyH_done (by kernel_rfl) ?_ _
    clear HL_ sc
    generalize (((x2.setCell ⟨gd, 0, none⟩ (.slice (some ⟨g2, 0, none⟩) ys.length D2)).setCell ⟨gd, 1, none⟩ (.int .i64 lo)).setCell ⟨gd, 2, none⟩ (.int .i64 hi)) = w14 at *
    replace HB := Lib.hid (on_below HB.out hb)
    replace HS := Lib.hid (HS.out.below hb)
    replace b0 := keepc hb b0
    replace b1 := keepc hb b1
    replace b2 := keepc hb b2
    replace p0 := keepc hb p0
    replace p1 := keepc hb p1
    replace p2 := keepc hb p2
    replace q0 := keepc hb q0
    replace q1 := keepc hb q1
    replace q2 := keepc hb q2
    replace s0 := keepc hb s0
    replace s1 := keepc hb s1
    replace s2 := keepc hb s2
    replace m0 := keepc hb m0
    replace m1 := keepc hb m1
    replace m2 := keepc hb m2
    replace n0 := keepc hb n0
    replace n1 := keepc hb n1
    replace n2 := keepc hb n2
    replace c0 := keepc hb c0
    replace c1 := keepc hb c1
    replace c2 := keepc hb c2
    replace kb := blk_on kb hb
    replace kp := blk_on kp hb
    replace kq := blk_on kq hb
    replace ks := blk_on ks hb
    replace lb := Nat.lt_of_lt_of_le lb hb.size
    replace lp := Nat.lt_of_lt_of_le lp hb.size
    replace lq := Nat.lt_of_lt_of_le lq hb.size
    replace ls := Nat.lt_of_lt_of_le ls hb.size
    replace lm := Nat.lt_of_lt_of_le lm hb.size
    replace ln := Nat.lt_of_lt_of_le ln hb.size
    replace lc := Nat.lt_of_lt_of_le lc hb.size
    clear hb
    have d0 := (cells3 kd2).1
    have d1 := (cells3 kd2).2.1
    have d2 := (cells3 kd2).2.2
    have ld := block_lt d0
    clear kd2
    go_wp2_with fail
    with_reducible refine (C3.out _ _ _ HT2.out (HM.out.below HB.out)).mono ?_
    rintro e_ w15 ⟨rfl, hb⟩
    replace HB := Lib.hid (on_below HB.out hb)
    replace HS := Lib.hid (HS.out.below hb)
    replace HT2 := Lib.hid (HT2.out.below hb)
    replace b0 := keepc hb b0
    replace b1 := keepc hb b1
    replace b2 := keepc hb b2
    replace p0 := keepc hb p0
    replace p1 := keepc hb p1
    replace p2 := keepc hb p2
    replace q0 := keepc hb q0
    replace q1 := keepc hb q1
    replace q2 := keepc hb q2
    replace s0 := keepc hb s0
    replace s1 := keepc hb s1
    replace s2 := keepc hb s2
    replace m0 := keepc hb m0
    replace m1 := keepc hb m1
    replace m2 := keepc hb m2
    replace n0 := keepc hb n0
    replace n1 := keepc hb n1
    replace n2 := keepc hb n2
    replace c0 := keepc hb c0
    replace c1 := keepc hb c1
    replace c2 := keepc hb c2
    replace d0 := keepc hb d0
    replace d1 := keepc hb d1
    replace d2 := keepc hb d2
    replace kb := blk_on kb hb
    replace kp := blk_on kp hb
    replace kq := blk_on kq hb
    replace ks := blk_on ks hb
    replace lb := Nat.lt_of_lt_of_le lb hb.size
    replace lp := Nat.lt_of_lt_of_le lp hb.size
    replace lq := Nat.lt_of_lt_of_le lq hb.size
    replace ls := Nat.lt_of_lt_of_le ls hb.size
    replace lm := Nat.lt_of_lt_of_le lm hb.size
    replace ln := Nat.lt_of_lt_of_le ln hb.size
    replace lc := Nat.lt_of_lt_of_le lc hb.size
    replace ld := Nat.lt_of_lt_of_le ld hb.size
    clear hb
    go_wp2_with fail
    with_reducible refine (qpoint_is (a + x) (b + y) (c + z) true h4 _).mono ?_
    rintro e_ w16 ⟨rfl, hb⟩
    replace HB := Lib.hid (on_below HB.out hb)
    replace HS := Lib.hid (HS.out.below hb)
    replace HT2 := Lib.hid (HT2.out.below hb)
    replace b0 := keepc hb b0
    replace b1 := keepc hb b1
    replace b2 := keepc hb b2
    replace p0 := keepc hb p0
    replace p1 := keepc hb p1
    replace p2 := keepc hb p2
    replace q0 := keepc hb q0
    replace q1 := keepc hb q1
    replace q2 := keepc hb q2
    replace s0 := keepc hb s0
    replace s1 := keepc hb s1
    replace s2 := keepc hb s2
    replace m0 := keepc hb m0
    replace m1 := keepc hb m1
    replace m2 := keepc hb m2
    replace n0 := keepc hb n0
    replace n1 := keepc hb n1
    replace n2 := keepc hb n2
    replace c0 := keepc hb c0
    replace c1 := keepc hb c1
    replace c2 := keepc hb c2
    replace d0 := keepc hb d0
    replace d1 := keepc hb d1
    replace d2 := keepc hb d2
    replace kb := blk_on kb hb
    replace kp := blk_on kp hb
    replace kq := blk_on kq hb
    replace ks := blk_on ks hb
    replace lb := Nat.lt_of_lt_of_le lb hb.size
    replace lp := Nat.lt_of_lt_of_le lp hb.size
    replace lq := Nat.lt_of_lt_of_le lq hb.size
    replace ls := Nat.lt_of_lt_of_le ls hb.size
    replace lm := Nat.lt_of_lt_of_le lm hb.size
    replace ln := Nat.lt_of_lt_of_le ln hb.size
    replace lc := Nat.lt_of_lt_of_le lc hb.size
    replace ld := Nat.lt_of_lt_of_le ld hb.size
    clear hb
    go_wp2_with fail
    with_reducible refine (qpoint_is (d + x) (e + y) (f + z) false h5 _).mono ?_
    rintro e_ w17 ⟨rfl, hb⟩
    replace HB := Lib.hid (on_below HB.out hb)
    replace HS := Lib.hid (HS.out.below hb)
    replace HT2 := Lib.hid (HT2.out.below hb)
    replace b0 := keepc hb b0
    replace b1 := keepc hb b1
    replace b2 := keepc hb b2
    replace p0 := keepc hb p0
    replace p1 := keepc hb p1
    replace p2 := keepc hb p2
    replace q0 := keepc hb q0
    replace q1 := keepc hb q1
    replace q2 := keepc hb q2
    replace s0 := keepc hb s0
    replace s1 := keepc hb s1
    replace s2 := keepc hb s2
    replace m0 := keepc hb m0
    replace m1 := keepc hb m1
    replace m2 := keepc hb m2
    replace n0 := keepc hb n0
    replace n1 := keepc hb n1
    replace n2 := keepc hb n2
    replace c0 := keepc hb c0
    replace c1 := keepc hb c1
    replace c2 := keepc hb c2
    replace d0 := keepc hb d0
    replace d1 := keepc hb d1
    replace d2 := keepc hb d2
    replace kb := blk_on kb hb
    replace kp := blk_on kp hb
    replace kq := blk_on kq hb
    replace ks := blk_on ks hb
    replace lb := Nat.lt_of_lt_of_le lb hb.size
    replace lp := Nat.lt_of_lt_of_le lp hb.size
    replace lq := Nat.lt_of_lt_of_le lq hb.size
    replace ls := Nat.lt_of_lt_of_le ls hb.size
    replace lm := Nat.lt_of_lt_of_le lm hb.size
    replace ln := Nat.lt_of_lt_of_le ln hb.size
    replace lc := Nat.lt_of_lt_of_le lc hb.size
    replace ld := Nat.lt_of_lt_of_le ld hb.size
    clear hb
    go_wp2_with fail
    go_ret
    exact ⟨rfl, HB.out⟩
end Go.Proofs.Ytagokcjbeaddiaa.LawMoved
