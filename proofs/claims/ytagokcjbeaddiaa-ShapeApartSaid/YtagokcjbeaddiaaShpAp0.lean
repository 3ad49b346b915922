/-
  ShapeApart: bodies that are not valid.
-/
import Derived.Test.YtagokcjbeaddiaaShpZ
namespace Go.Proofs.Ytagokcjbeaddiaa.LawApart
open Go.RowKit Go.Sort
open Go.RowKit (Below)
set_option linter.unusedVariables false
set_option linter.unusedSimpArgs false

set_option maxRecDepth 100000 in
set_option maxHeartbeats 4000000 in
theorem apt_0 (A B : Option Addr) (C D : Nat) (xs ys us zs : List (Int × Int)) (la ha lb hb a b c x y z : Int) (hy : xs.take 20 = ys) (hly : ys.length ≤ 9223372036854775806) (hu : us.take 20 = zs) (hlz : zs.length ≤ 9223372036854775806) (h1 : (Bok ys la ha ∧ Bok zs lb hb ∧ (1 : Int) = 0 ∧ (false = true ↔ Apa ys la ha zs lb hb)) ∨ (¬ (Bok ys la ha ∧ Bok zs lb hb) ∧ (1 : Int) = 1 ∧ false = false)) (h2 : (Bok zs lb hb ∧ Bok ys la ha ∧ (1 : Int) = 0 ∧ (false = true ↔ Apa zs lb hb ys la ha)) ∨ (¬ (Bok zs lb hb ∧ Bok ys la ha) ∧ (1 : Int) = 1 ∧ false = false)) (h3 : (Bok ys la ha ∧ Bok ys la ha ∧ (0 : Int) = 0 ∧ (true = true ↔ Apa ys la ha ys la ha)) ∨ (¬ (Bok ys la ha ∧ Bok ys la ha) ∧ (0 : Int) = 1 ∧ true = false)) (w : World) (hl : Lp w A C xs) (hl2 : Lp w B D us) (hm : SlS w A ys) (hm2 : SlS w B zs) :
    Calls Try.prog 8 #[.agg #[.slice A xs.length C, .int .i64 la, .int .i64 ha], .agg #[.slice B us.length D, .int .i64 lb, .int .i64 hb], .agg #[.int .i64 a, .int .i64 b, .int .i64 c], .agg #[.int .i64 x, .int .i64 y, .int .i64 z]] w fun e_ w' => e_ = .returned (.bool true) ∧ Below w.heap.size w w' := by
  have HL := Lib.hid hl
  clear hl
  have HM := Lib.hid hm
  clear hm
  have HL2 := Lib.hid hl2
  clear hl2
  have HM2 := Lib.hid hm2
  clear hm2
  have C1 := Lib.hid (fun W (h : SlS W A ys) (k : SlS W B zs) => papart_is A B C D ys zs la ha lb hb hly hlz false 1 h1 W h k)
  have C2 := Lib.hid (fun W (h : SlS W A ys) (k : SlS W B zs) => papart_is B A D C zs ys lb hb la ha hlz hly false 1 h2 W k h)
  have C3 := Lib.hid (fun W (h : SlS W A ys) => papart_is A A C C ys ys la ha la ha hly hly true 0 h3 W h h)
  clear h1 h2 h3
  go_enter Try.func8, Try.ntmps8
  go_wp2_with fail
  obtain ⟨w1, hw1⟩ : ∃ V, ((((w.alloc (.cells #[.slice A xs.length C, .int .i64 la, .int .i64 ha] 24)).alloc (.cells #[.slice B us.length D, .int .i64 lb, .int .i64 hb] 24)).alloc (.cells #[.int .i64 a, .int .i64 b, .int .i64 c] 26)).alloc (.cells #[.int .i64 x, .int .i64 y, .int .i64 z] 26)) = V := ⟨_, rfl⟩
  obtain ⟨hB_, km, kn, kp, kq⟩ := boxes4 _ _ _ _ _ hw1
  rw [hw1]
  clear hw1
  have HB := Lib.hid hB_
  clear hB_
  have m0 := (cells3 km).1
  have m1 := (cells3 km).2.1
  have m2 := (cells3 km).2.2
  have lm := block_lt m0
  have n0 := (cells3 kn).1
  have n1 := (cells3 kn).2.1
  have n2 := (cells3 kn).2.2
  have ln := block_lt n0
  have p0 := (cells3 kp).1
  have p1 := (cells3 kp).2.1
  have p2 := (cells3 kp).2.2
  have lp := block_lt p0
  have q0 := (cells3 kq).1
  have q1 := (cells3 kq).2.1
  have q2 := (cells3 kq).2.2
  have lq := block_lt q0
  with_reducible refine (head_any _).mono ?_
  rintro e_ w2 ⟨rfl, hb⟩
  replace HB := Lib.hid (on_below HB.out hb)
  replace m0 := keepc hb m0
  replace m1 := keepc hb m1
  replace m2 := keepc hb m2
  replace n0 := keepc hb n0
  replace n1 := keepc hb n1
  replace n2 := keepc hb n2
  replace p0 := keepc hb p0
  replace p1 := keepc hb p1
  replace p2 := keepc hb p2
  replace q0 := keepc hb q0
  replace q1 := keepc hb q1
  replace q2 := keepc hb q2
  replace km := blk_on km hb
  replace kn := blk_on kn hb
  replace kp := blk_on kp hb
  replace kq := blk_on kq hb
  replace lm := Nat.lt_of_lt_of_le lm hb.size
  replace ln := Nat.lt_of_lt_of_le ln hb.size
  replace lp := Nat.lt_of_lt_of_le lp hb.size
  replace lq := Nat.lt_of_lt_of_le lq hb.size
  clear hb
  go_wp2_with fail
  have CF := Lib.hid (fun W (h : Lp W A C xs) => few_is A C xs la ha W h)
  rw [hy] at CF
  with_reducible refine (CF.out _ (HL.out.below HB.out)).mono ?_
  rintro e_ w3 ⟨rfl, hb⟩
  replace HB := Lib.hid (on_below HB.out hb)
  replace m0 := keepc hb m0
  replace m1 := keepc hb m1
  replace m2 := keepc hb m2
  replace n0 := keepc hb n0
  replace n1 := keepc hb n1
  replace n2 := keepc hb n2
  replace p0 := keepc hb p0
  replace p1 := keepc hb p1
  replace p2 := keepc hb p2
  replace q0 := keepc hb q0
  replace q1 := keepc hb q1
  replace q2 := keepc hb q2
  replace km := blk_on km hb
  replace kn := blk_on kn hb
  replace kp := blk_on kp hb
  replace kq := blk_on kq hb
  replace lm := Nat.lt_of_lt_of_le lm hb.size
  replace ln := Nat.lt_of_lt_of_le ln hb.size
  replace lp := Nat.lt_of_lt_of_le lp hb.size
  replace lq := Nat.lt_of_lt_of_le lq hb.size
  clear hb
  have fm0 : World.frozen? w3 ⟨w.heap.size, 0, none⟩ = false := by simp [World.frozen?, km]
  have fm1 : World.frozen? w3 ⟨w.heap.size, 1, none⟩ = false := by simp [World.frozen?, km]
  have fm2 : World.frozen? w3 ⟨w.heap.size, 2, none⟩ = false := by simp [World.frozen?, km]
  go_wp2_with fail
  clear CF fm0 fm1 fm2 m0 m1 m2 n0 n1 n2 p0 p1 p2 q0 q1 q2 lm ln lp lq
  replace km : (((w3.setCell ⟨w.heap.size, 0, none⟩ (.slice A ys.length C)).setCell ⟨w.heap.size, 1, none⟩ (.int .i64 la)).setCell ⟨w.heap.size, 2, none⟩ (.int .i64 ha)).heap[w.heap.size]? = some (.cells #[.slice A ys.length C, .int .i64 la, .int .i64 ha] 24 (0, 0)) := set_cells (set_cells (set_cells km 0 _) 1 _) 2 _
  replace kn : (((w3.setCell ⟨w.heap.size, 0, none⟩ (.slice A ys.length C)).setCell ⟨w.heap.size, 1, none⟩ (.int .i64 la)).setCell ⟨w.heap.size, 2, none⟩ (.int .i64 ha)).heap[w.heap.size + 1]? = _ := blk_far (blk_far (blk_far kn (by omega)) (by omega)) (by omega)
  replace kp : (((w3.setCell ⟨w.heap.size, 0, none⟩ (.slice A ys.length C)).setCell ⟨w.heap.size, 1, none⟩ (.int .i64 la)).setCell ⟨w.heap.size, 2, none⟩ (.int .i64 ha)).heap[w.heap.size + 1 + 1]? = _ := blk_far (blk_far (blk_far kp (by omega)) (by omega)) (by omega)
  replace kq : (((w3.setCell ⟨w.heap.size, 0, none⟩ (.slice A ys.length C)).setCell ⟨w.heap.size, 1, none⟩ (.int .i64 la)).setCell ⟨w.heap.size, 2, none⟩ (.int .i64 ha)).heap[w.heap.size + 1 + 1 + 1]? = _ := blk_far (blk_far (blk_far kq (by omega)) (by omega)) (by omega)
  replace HB := Lib.hid (show Below w.heap.size w (((w3.setCell ⟨w.heap.size, 0, none⟩ (.slice A ys.length C)).setCell ⟨w.heap.size, 1, none⟩ (.int .i64 la)).setCell ⟨w.heap.size, 2, none⟩ (.int .i64 ha)) from ((HB.out.setCell (by simp <;> omega) _).setCell (by simp <;> omega) _).setCell (by simp <;> omega) _)
  generalize (((w3.setCell ⟨w.heap.size, 0, none⟩ (.slice A ys.length C)).setCell ⟨w.heap.size, 1, none⟩ (.int .i64 la)).setCell ⟨w.heap.size, 2, none⟩ (.int .i64 ha)) = w4 at *
  have m0 := (cells3 km).1
  have m1 := (cells3 km).2.1
  have m2 := (cells3 km).2.2
  have lm := block_lt m0
  have n0 := (cells3 kn).1
  have n1 := (cells3 kn).2.1
  have n2 := (cells3 kn).2.2
  have ln := block_lt n0
  have p0 := (cells3 kp).1
  have p1 := (cells3 kp).2.1
  have p2 := (cells3 kp).2.2
  have lp := block_lt p0
  have q0 := (cells3 kq).1
  have q1 := (cells3 kq).2.1
  have q2 := (cells3 kq).2.2
  have lq := block_lt q0
  go_wp2_with fail
  have CF := Lib.hid (fun W (h : Lp W B D us) => few_is B D us lb hb W h)
  rw [hu] at CF
  with_reducible refine (CF.out _ (HL2.out.below HB.out)).mono ?_
  rintro e_ w5 ⟨rfl, hb⟩
  replace HB := Lib.hid (on_below HB.out hb)
  replace m0 := keepc hb m0
  replace m1 := keepc hb m1
  replace m2 := keepc hb m2
  replace n0 := keepc hb n0
  replace n1 := keepc hb n1
  replace n2 := keepc hb n2
  replace p0 := keepc hb p0
  replace p1 := keepc hb p1
  replace p2 := keepc hb p2
  replace q0 := keepc hb q0
  replace q1 := keepc hb q1
  replace q2 := keepc hb q2
  replace km := blk_on km hb
  replace kn := blk_on kn hb
  replace kp := blk_on kp hb
  replace kq := blk_on kq hb
  replace lm := Nat.lt_of_lt_of_le lm hb.size
  replace ln := Nat.lt_of_lt_of_le ln hb.size
  replace lp := Nat.lt_of_lt_of_le lp hb.size
  replace lq := Nat.lt_of_lt_of_le lq hb.size
  clear hb
  have fn0 : World.frozen? w5 ⟨w.heap.size + 1, 0, none⟩ = false := by simp [World.frozen?, kn]
  have fn1 : World.frozen? w5 ⟨w.heap.size + 1, 1, none⟩ = false := by simp [World.frozen?, kn]
  have fn2 : World.frozen? w5 ⟨w.heap.size + 1, 2, none⟩ = false := by simp [World.frozen?, kn]
  go_wp2_with fail
  clear CF fn0 fn1 fn2 m0 m1 m2 n0 n1 n2 p0 p1 p2 q0 q1 q2 lm ln lp lq
  replace kn : (((w5.setCell ⟨w.heap.size + 1, 0, none⟩ (.slice B zs.length D)).setCell ⟨w.heap.size + 1, 1, none⟩ (.int .i64 lb)).setCell ⟨w.heap.size + 1, 2, none⟩ (.int .i64 hb)).heap[w.heap.size + 1]? = some (.cells #[.slice B zs.length D, .int .i64 lb, .int .i64 hb] 24 (0, 0)) := set_cells (set_cells (set_cells kn 0 _) 1 _) 2 _
  replace km : (((w5.setCell ⟨w.heap.size + 1, 0, none⟩ (.slice B zs.length D)).setCell ⟨w.heap.size + 1, 1, none⟩ (.int .i64 lb)).setCell ⟨w.heap.size + 1, 2, none⟩ (.int .i64 hb)).heap[w.heap.size]? = _ := blk_far (blk_far (blk_far km (by omega)) (by omega)) (by omega)
  replace kp : (((w5.setCell ⟨w.heap.size + 1, 0, none⟩ (.slice B zs.length D)).setCell ⟨w.heap.size + 1, 1, none⟩ (.int .i64 lb)).setCell ⟨w.heap.size + 1, 2, none⟩ (.int .i64 hb)).heap[w.heap.size + 1 + 1]? = _ := blk_far (blk_far (blk_far kp (by omega)) (by omega)) (by omega)
  replace kq : (((w5.setCell ⟨w.heap.size + 1, 0, none⟩ (.slice B zs.length D)).setCell ⟨w.heap.size + 1, 1, none⟩ (.int .i64 lb)).setCell ⟨w.heap.size + 1, 2, none⟩ (.int .i64 hb)).heap[w.heap.size + 1 + 1 + 1]? = _ := blk_far (blk_far (blk_far kq (by omega)) (by omega)) (by omega)
  replace HB := Lib.hid (show Below w.heap.size w (((w5.setCell ⟨w.heap.size + 1, 0, none⟩ (.slice B zs.length D)).setCell ⟨w.heap.size + 1, 1, none⟩ (.int .i64 lb)).setCell ⟨w.heap.size + 1, 2, none⟩ (.int .i64 hb)) from ((HB.out.setCell (by simp <;> omega) _).setCell (by simp <;> omega) _).setCell (by simp <;> omega) _)
  generalize (((w5.setCell ⟨w.heap.size + 1, 0, none⟩ (.slice B zs.length D)).setCell ⟨w.heap.size + 1, 1, none⟩ (.int .i64 lb)).setCell ⟨w.heap.size + 1, 2, none⟩ (.int .i64 hb)) = w6 at *
  have m0 := (cells3 km).1
  have m1 := (cells3 km).2.1
  have m2 := (cells3 km).2.2
  have lm := block_lt m0
  have n0 := (cells3 kn).1
  have n1 := (cells3 kn).2.1
  have n2 := (cells3 kn).2.2
  have ln := block_lt n0
  have p0 := (cells3 kp).1
  have p1 := (cells3 kp).2.1
  have p2 := (cells3 kp).2.2
  have lp := block_lt p0
  have q0 := (cells3 kq).1
  have q1 := (cells3 kq).2.1
  have q2 := (cells3 kq).2.2
  have lq := block_lt q0
  go_wp2_with fail
  with_reducible refine (C1.out _ (HM.out.below HB.out) (HM2.out.below HB.out)).mono ?_
  rintro e_ w7 ⟨rfl, hb⟩
  replace HB := Lib.hid (on_below HB.out hb)
  replace m0 := keepc hb m0
  replace m1 := keepc hb m1
  replace m2 := keepc hb m2
  replace n0 := keepc hb n0
  replace n1 := keepc hb n1
  replace n2 := keepc hb n2
  replace p0 := keepc hb p0
  replace p1 := keepc hb p1
  replace p2 := keepc hb p2
  replace q0 := keepc hb q0
  replace q1 := keepc hb q1
  replace q2 := keepc hb q2
  replace km := blk_on km hb
  replace kn := blk_on kn hb
  replace kp := blk_on kp hb
  replace kq := blk_on kq hb
  replace lm := Nat.lt_of_lt_of_le lm hb.size
  replace ln := Nat.lt_of_lt_of_le ln hb.size
  replace lp := Nat.lt_of_lt_of_le lp hb.size
  replace lq := Nat.lt_of_lt_of_le lq hb.size
  clear hb
  go_wp2_with fail
  with_reducible refine (C2.out _ (HM.out.below HB.out) (HM2.out.below HB.out)).mono ?_
  rintro e_ w8 ⟨rfl, hb⟩
  replace HB := Lib.hid (on_below HB.out hb)
  replace m0 := keepc hb m0
  replace m1 := keepc hb m1
  replace m2 := keepc hb m2
  replace n0 := keepc hb n0
  replace n1 := keepc hb n1
  replace n2 := keepc hb n2
  replace p0 := keepc hb p0
  replace p1 := keepc hb p1
  replace p2 := keepc hb p2
  replace q0 := keepc hb q0
  replace q1 := keepc hb q1
  replace q2 := keepc hb q2
  replace km := blk_on km hb
  replace kn := blk_on kn hb
  replace kp := blk_on kp hb
  replace kq := blk_on kq hb
  replace lm := Nat.lt_of_lt_of_le lm hb.size
  replace ln := Nat.lt_of_lt_of_le ln hb.size
  replace lp := Nat.lt_of_lt_of_le lp hb.size
  replace lq := Nat.lt_of_lt_of_le lq hb.size
  clear hb
  go_wp2_with fail
  with_reducible refine (C3.out _ (HM.out.below HB.out)).mono ?_
  rintro e_ w9 ⟨rfl, hb⟩
  replace HB := Lib.hid (on_below HB.out hb)
  replace m0 := keepc hb m0
  replace m1 := keepc hb m1
  replace m2 := keepc hb m2
  replace n0 := keepc hb n0
  replace n1 := keepc hb n1
  replace n2 := keepc hb n2
  replace p0 := keepc hb p0
  replace p1 := keepc hb p1
  replace p2 := keepc hb p2
  replace q0 := keepc hb q0
  replace q1 := keepc hb q1
  replace q2 := keepc hb q2
  replace km := blk_on km hb
  replace kn := blk_on kn hb
  replace kp := blk_on kp hb
  replace kq := blk_on kq hb
  replace lm := Nat.lt_of_lt_of_le lm hb.size
  replace ln := Nat.lt_of_lt_of_le ln hb.size
  replace lp := Nat.lt_of_lt_of_le lp hb.size
  replace lq := Nat.lt_of_lt_of_le lq hb.size
  clear hb
  go_wp2_with fail
  go_ret
  exact ⟨rfl, HB.out⟩
set_option maxRecDepth 100000 in
set_option maxHeartbeats 4000000 in
theorem apt_1 (A B : Option Addr) (C D : Nat) (xs ys us zs : List (Int × Int)) (la ha lb hb a b c x y z : Int) (hy : xs.take 20 = ys) (hly : ys.length ≤ 9223372036854775806) (hu : us.take 20 = zs) (hlz : zs.length ≤ 9223372036854775806) (h1 : (Bok ys la ha ∧ Bok zs lb hb ∧ (1 : Int) = 0 ∧ (false = true ↔ Apa ys la ha zs lb hb)) ∨ (¬ (Bok ys la ha ∧ Bok zs lb hb) ∧ (1 : Int) = 1 ∧ false = false)) (h2 : (Bok zs lb hb ∧ Bok ys la ha ∧ (1 : Int) = 0 ∧ (false = true ↔ Apa zs lb hb ys la ha)) ∨ (¬ (Bok zs lb hb ∧ Bok ys la ha) ∧ (1 : Int) = 1 ∧ false = false)) (h3 : (Bok ys la ha ∧ Bok ys la ha ∧ (0 : Int) = 0 ∧ (false = true ↔ Apa ys la ha ys la ha)) ∨ (¬ (Bok ys la ha ∧ Bok ys la ha) ∧ (0 : Int) = 1 ∧ false = false)) (w : World) (hl : Lp w A C xs) (hl2 : Lp w B D us) (hm : SlS w A ys) (hm2 : SlS w B zs) :
    Calls Try.prog 8 #[.agg #[.slice A xs.length C, .int .i64 la, .int .i64 ha], .agg #[.slice B us.length D, .int .i64 lb, .int .i64 hb], .agg #[.int .i64 a, .int .i64 b, .int .i64 c], .agg #[.int .i64 x, .int .i64 y, .int .i64 z]] w fun e_ w' => e_ = .returned (.bool true) ∧ Below w.heap.size w w' := by
  have HL := Lib.hid hl
  clear hl
  have HM := Lib.hid hm
  clear hm
  have HL2 := Lib.hid hl2
  clear hl2
  have HM2 := Lib.hid hm2
  clear hm2
  have C1 := Lib.hid (fun W (h : SlS W A ys) (k : SlS W B zs) => papart_is A B C D ys zs la ha lb hb hly hlz false 1 h1 W h k)
  have C2 := Lib.hid (fun W (h : SlS W A ys) (k : SlS W B zs) => papart_is B A D C zs ys lb hb la ha hlz hly false 1 h2 W k h)
  have C3 := Lib.hid (fun W (h : SlS W A ys) => papart_is A A C C ys ys la ha la ha hly hly false 0 h3 W h h)
  clear h1 h2 h3
  go_enter Try.func8, Try.ntmps8
  go_wp2_with fail
  obtain ⟨w1, hw1⟩ : ∃ V, ((((w.alloc (.cells #[.slice A xs.length C, .int .i64 la, .int .i64 ha] 24)).alloc (.cells #[.slice B us.length D, .int .i64 lb, .int .i64 hb] 24)).alloc (.cells #[.int .i64 a, .int .i64 b, .int .i64 c] 26)).alloc (.cells #[.int .i64 x, .int .i64 y, .int .i64 z] 26)) = V := ⟨_, rfl⟩
  obtain ⟨hB_, km, kn, kp, kq⟩ := boxes4 _ _ _ _ _ hw1
  rw [hw1]
  clear hw1
  have HB := Lib.hid hB_
  clear hB_
  have m0 := (cells3 km).1
  have m1 := (cells3 km).2.1
  have m2 := (cells3 km).2.2
  have lm := block_lt m0
  have n0 := (cells3 kn).1
  have n1 := (cells3 kn).2.1
  have n2 := (cells3 kn).2.2
  have ln := block_lt n0
  have p0 := (cells3 kp).1
  have p1 := (cells3 kp).2.1
  have p2 := (cells3 kp).2.2
  have lp := block_lt p0
  have q0 := (cells3 kq).1
  have q1 := (cells3 kq).2.1
  have q2 := (cells3 kq).2.2
  have lq := block_lt q0
  with_reducible refine (head_any _).mono ?_
  rintro e_ w2 ⟨rfl, hb⟩
  replace HB := Lib.hid (on_below HB.out hb)
  replace m0 := keepc hb m0
  replace m1 := keepc hb m1
  replace m2 := keepc hb m2
  replace n0 := keepc hb n0
  replace n1 := keepc hb n1
  replace n2 := keepc hb n2
  replace p0 := keepc hb p0
  replace p1 := keepc hb p1
  replace p2 := keepc hb p2
  replace q0 := keepc hb q0
  replace q1 := keepc hb q1
  replace q2 := keepc hb q2
  replace km := blk_on km hb
  replace kn := blk_on kn hb
  replace kp := blk_on kp hb
  replace kq := blk_on kq hb
  replace lm := Nat.lt_of_lt_of_le lm hb.size
  replace ln := Nat.lt_of_lt_of_le ln hb.size
  replace lp := Nat.lt_of_lt_of_le lp hb.size
  replace lq := Nat.lt_of_lt_of_le lq hb.size
  clear hb
  go_wp2_with fail
  have CF := Lib.hid (fun W (h : Lp W A C xs) => few_is A C xs la ha W h)
  rw [hy] at CF
  with_reducible refine (CF.out _ (HL.out.below HB.out)).mono ?_
  rintro e_ w3 ⟨rfl, hb⟩
  replace HB := Lib.hid (on_below HB.out hb)
  replace m0 := keepc hb m0
  replace m1 := keepc hb m1
  replace m2 := keepc hb m2
  replace n0 := keepc hb n0
  replace n1 := keepc hb n1
  replace n2 := keepc hb n2
  replace p0 := keepc hb p0
  replace p1 := keepc hb p1
  replace p2 := keepc hb p2
  replace q0 := keepc hb q0
  replace q1 := keepc hb q1
  replace q2 := keepc hb q2
  replace km := blk_on km hb
  replace kn := blk_on kn hb
  replace kp := blk_on kp hb
  replace kq := blk_on kq hb
  replace lm := Nat.lt_of_lt_of_le lm hb.size
  replace ln := Nat.lt_of_lt_of_le ln hb.size
  replace lp := Nat.lt_of_lt_of_le lp hb.size
  replace lq := Nat.lt_of_lt_of_le lq hb.size
  clear hb
  have fm0 : World.frozen? w3 ⟨w.heap.size, 0, none⟩ = false := by simp [World.frozen?, km]
  have fm1 : World.frozen? w3 ⟨w.heap.size, 1, none⟩ = false := by simp [World.frozen?, km]
  have fm2 : World.frozen? w3 ⟨w.heap.size, 2, none⟩ = false := by simp [World.frozen?, km]
  go_wp2_with fail
  clear CF fm0 fm1 fm2 m0 m1 m2 n0 n1 n2 p0 p1 p2 q0 q1 q2 lm ln lp lq
  replace km : (((w3.setCell ⟨w.heap.size, 0, none⟩ (.slice A ys.length C)).setCell ⟨w.heap.size, 1, none⟩ (.int .i64 la)).setCell ⟨w.heap.size, 2, none⟩ (.int .i64 ha)).heap[w.heap.size]? = some (.cells #[.slice A ys.length C, .int .i64 la, .int .i64 ha] 24 (0, 0)) := set_cells (set_cells (set_cells km 0 _) 1 _) 2 _
  replace kn : (((w3.setCell ⟨w.heap.size, 0, none⟩ (.slice A ys.length C)).setCell ⟨w.heap.size, 1, none⟩ (.int .i64 la)).setCell ⟨w.heap.size, 2, none⟩ (.int .i64 ha)).heap[w.heap.size + 1]? = _ := blk_far (blk_far (blk_far kn (by omega)) (by omega)) (by omega)
  replace kp : (((w3.setCell ⟨w.heap.size, 0, none⟩ (.slice A ys.length C)).setCell ⟨w.heap.size, 1, none⟩ (.int .i64 la)).setCell ⟨w.heap.size, 2, none⟩ (.int .i64 ha)).heap[w.heap.size + 1 + 1]? = _ := blk_far (blk_far (blk_far kp (by omega)) (by omega)) (by omega)
  replace kq : (((w3.setCell ⟨w.heap.size, 0, none⟩ (.slice A ys.length C)).setCell ⟨w.heap.size, 1, none⟩ (.int .i64 la)).setCell ⟨w.heap.size, 2, none⟩ (.int .i64 ha)).heap[w.heap.size + 1 + 1 + 1]? = _ := blk_far (blk_far (blk_far kq (by omega)) (by omega)) (by omega)
  replace HB := Lib.hid (show Below w.heap.size w (((w3.setCell ⟨w.heap.size, 0, none⟩ (.slice A ys.length C)).setCell ⟨w.heap.size, 1, none⟩ (.int .i64 la)).setCell ⟨w.heap.size, 2, none⟩ (.int .i64 ha)) from ((HB.out.setCell (by simp <;> omega) _).setCell (by simp <;> omega) _).setCell (by simp <;> omega) _)
  generalize (((w3.setCell ⟨w.heap.size, 0, none⟩ (.slice A ys.length C)).setCell ⟨w.heap.size, 1, none⟩ (.int .i64 la)).setCell ⟨w.heap.size, 2, none⟩ (.int .i64 ha)) = w4 at *
  have m0 := (cells3 km).1
  have m1 := (cells3 km).2.1
  have m2 := (cells3 km).2.2
  have lm := block_lt m0
  have n0 := (cells3 kn).1
  have n1 := (cells3 kn).2.1
  have n2 := (cells3 kn).2.2
  have ln := block_lt n0
  have p0 := (cells3 kp).1
  have p1 := (cells3 kp).2.1
  have p2 := (cells3 kp).2.2
  have lp := block_lt p0
  have q0 := (cells3 kq).1
  have q1 := (cells3 kq).2.1
  have q2 := (cells3 kq).2.2
  have lq := block_lt q0
  go_wp2_with fail
  have CF := Lib.hid (fun W (h : Lp W B D us) => few_is B D us lb hb W h)
  rw [hu] at CF
  with_reducible refine (CF.out _ (HL2.out.below HB.out)).mono ?_
  rintro e_ w5 ⟨rfl, hb⟩
  replace HB := Lib.hid (on_below HB.out hb)
  replace m0 := keepc hb m0
  replace m1 := keepc hb m1
  replace m2 := keepc hb m2
  replace n0 := keepc hb n0
  replace n1 := keepc hb n1
  replace n2 := keepc hb n2
  replace p0 := keepc hb p0
  replace p1 := keepc hb p1
  replace p2 := keepc hb p2
  replace q0 := keepc hb q0
  replace q1 := keepc hb q1
  replace q2 := keepc hb q2
  replace km := blk_on km hb
  replace kn := blk_on kn hb
  replace kp := blk_on kp hb
  replace kq := blk_on kq hb
  replace lm := Nat.lt_of_lt_of_le lm hb.size
  replace ln := Nat.lt_of_lt_of_le ln hb.size
  replace lp := Nat.lt_of_lt_of_le lp hb.size
  replace lq := Nat.lt_of_lt_of_le lq hb.size
  clear hb
  have fn0 : World.frozen? w5 ⟨w.heap.size + 1, 0, none⟩ = false := by simp [World.frozen?, kn]
  have fn1 : World.frozen? w5 ⟨w.heap.size + 1, 1, none⟩ = false := by simp [World.frozen?, kn]
  have fn2 : World.frozen? w5 ⟨w.heap.size + 1, 2, none⟩ = false := by simp [World.frozen?, kn]
  go_wp2_with fail
  clear CF fn0 fn1 fn2 m0 m1 m2 n0 n1 n2 p0 p1 p2 q0 q1 q2 lm ln lp lq
  replace kn : (((w5.setCell ⟨w.heap.size + 1, 0, none⟩ (.slice B zs.length D)).setCell ⟨w.heap.size + 1, 1, none⟩ (.int .i64 lb)).setCell ⟨w.heap.size + 1, 2, none⟩ (.int .i64 hb)).heap[w.heap.size + 1]? = some (.cells #[.slice B zs.length D, .int .i64 lb, .int .i64 hb] 24 (0, 0)) := set_cells (set_cells (set_cells kn 0 _) 1 _) 2 _
  replace km : (((w5.setCell ⟨w.heap.size + 1, 0, none⟩ (.slice B zs.length D)).setCell ⟨w.heap.size + 1, 1, none⟩ (.int .i64 lb)).setCell ⟨w.heap.size + 1, 2, none⟩ (.int .i64 hb)).heap[w.heap.size]? = _ := blk_far (blk_far (blk_far km (by omega)) (by omega)) (by omega)
  replace kp : (((w5.setCell ⟨w.heap.size + 1, 0, none⟩ (.slice B zs.length D)).setCell ⟨w.heap.size + 1, 1, none⟩ (.int .i64 lb)).setCell ⟨w.heap.size + 1, 2, none⟩ (.int .i64 hb)).heap[w.heap.size + 1 + 1]? = _ := blk_far (blk_far (blk_far kp (by omega)) (by omega)) (by omega)
  replace kq : (((w5.setCell ⟨w.heap.size + 1, 0, none⟩ (.slice B zs.length D)).setCell ⟨w.heap.size + 1, 1, none⟩ (.int .i64 lb)).setCell ⟨w.heap.size + 1, 2, none⟩ (.int .i64 hb)).heap[w.heap.size + 1 + 1 + 1]? = _ := blk_far (blk_far (blk_far kq (by omega)) (by omega)) (by omega)
  replace HB := Lib.hid (show Below w.heap.size w (((w5.setCell ⟨w.heap.size + 1, 0, none⟩ (.slice B zs.length D)).setCell ⟨w.heap.size + 1, 1, none⟩ (.int .i64 lb)).setCell ⟨w.heap.size + 1, 2, none⟩ (.int .i64 hb)) from ((HB.out.setCell (by simp <;> omega) _).setCell (by simp <;> omega) _).setCell (by simp <;> omega) _)
  generalize (((w5.setCell ⟨w.heap.size + 1, 0, none⟩ (.slice B zs.length D)).setCell ⟨w.heap.size + 1, 1, none⟩ (.int .i64 lb)).setCell ⟨w.heap.size + 1, 2, none⟩ (.int .i64 hb)) = w6 at *
  have m0 := (cells3 km).1
  have m1 := (cells3 km).2.1
  have m2 := (cells3 km).2.2
  have lm := block_lt m0
  have n0 := (cells3 kn).1
  have n1 := (cells3 kn).2.1
  have n2 := (cells3 kn).2.2
  have ln := block_lt n0
  have p0 := (cells3 kp).1
  have p1 := (cells3 kp).2.1
  have p2 := (cells3 kp).2.2
  have lp := block_lt p0
  have q0 := (cells3 kq).1
  have q1 := (cells3 kq).2.1
  have q2 := (cells3 kq).2.2
  have lq := block_lt q0
  go_wp2_with fail
  with_reducible refine (C1.out _ (HM.out.below HB.out) (HM2.out.below HB.out)).mono ?_
  rintro e_ w7 ⟨rfl, hb⟩
  replace HB := Lib.hid (on_below HB.out hb)
  replace m0 := keepc hb m0
  replace m1 := keepc hb m1
  replace m2 := keepc hb m2
  replace n0 := keepc hb n0
  replace n1 := keepc hb n1
  replace n2 := keepc hb n2
  replace p0 := keepc hb p0
  replace p1 := keepc hb p1
  replace p2 := keepc hb p2
  replace q0 := keepc hb q0
  replace q1 := keepc hb q1
  replace q2 := keepc hb q2
  replace km := blk_on km hb
  replace kn := blk_on kn hb
  replace kp := blk_on kp hb
  replace kq := blk_on kq hb
  replace lm := Nat.lt_of_lt_of_le lm hb.size
  replace ln := Nat.lt_of_lt_of_le ln hb.size
  replace lp := Nat.lt_of_lt_of_le lp hb.size
  replace lq := Nat.lt_of_lt_of_le lq hb.size
  clear hb
  go_wp2_with fail
  with_reducible refine (C2.out _ (HM.out.below HB.out) (HM2.out.below HB.out)).mono ?_
  rintro e_ w8 ⟨rfl, hb⟩
  replace HB := Lib.hid (on_below HB.out hb)
  replace m0 := keepc hb m0
  replace m1 := keepc hb m1
  replace m2 := keepc hb m2
  replace n0 := keepc hb n0
  replace n1 := keepc hb n1
  replace n2 := keepc hb n2
  replace p0 := keepc hb p0
  replace p1 := keepc hb p1
  replace p2 := keepc hb p2
  replace q0 := keepc hb q0
  replace q1 := keepc hb q1
  replace q2 := keepc hb q2
  replace km := blk_on km hb
  replace kn := blk_on kn hb
  replace kp := blk_on kp hb
  replace kq := blk_on kq hb
  replace lm := Nat.lt_of_lt_of_le lm hb.size
  replace ln := Nat.lt_of_lt_of_le ln hb.size
  replace lp := Nat.lt_of_lt_of_le lp hb.size
  replace lq := Nat.lt_of_lt_of_le lq hb.size
  clear hb
  go_wp2_with fail
  with_reducible refine (C3.out _ (HM.out.below HB.out)).mono ?_
  rintro e_ w9 ⟨rfl, hb⟩
  replace HB := Lib.hid (on_below HB.out hb)
  replace m0 := keepc hb m0
  replace m1 := keepc hb m1
  replace m2 := keepc hb m2
  replace n0 := keepc hb n0
  replace n1 := keepc hb n1
  replace n2 := keepc hb n2
  replace p0 := keepc hb p0
  replace p1 := keepc hb p1
  replace p2 := keepc hb p2
  replace q0 := keepc hb q0
  replace q1 := keepc hb q1
  replace q2 := keepc hb q2
  replace km := blk_on km hb
  replace kn := blk_on kn hb
  replace kp := blk_on kp hb
  replace kq := blk_on kq hb
  replace lm := Nat.lt_of_lt_of_le lm hb.size
  replace ln := Nat.lt_of_lt_of_le ln hb.size
  replace lp := Nat.lt_of_lt_of_le lp hb.size
  replace lq := Nat.lt_of_lt_of_le lq hb.size
  clear hb
  go_wp2_with fail
  go_ret
  exact ⟨rfl, HB.out⟩
set_option maxRecDepth 100000 in
set_option maxHeartbeats 4000000 in
theorem apt_2 (A B : Option Addr) (C D : Nat) (xs ys us zs : List (Int × Int)) (la ha lb hb a b c x y z : Int) (hy : xs.take 20 = ys) (hly : ys.length ≤ 9223372036854775806) (hu : us.take 20 = zs) (hlz : zs.length ≤ 9223372036854775806) (h1 : (Bok ys la ha ∧ Bok zs lb hb ∧ (1 : Int) = 0 ∧ (false = true ↔ Apa ys la ha zs lb hb)) ∨ (¬ (Bok ys la ha ∧ Bok zs lb hb) ∧ (1 : Int) = 1 ∧ false = false)) (h2 : (Bok zs lb hb ∧ Bok ys la ha ∧ (1 : Int) = 0 ∧ (false = true ↔ Apa zs lb hb ys la ha)) ∨ (¬ (Bok zs lb hb ∧ Bok ys la ha) ∧ (1 : Int) = 1 ∧ false = false)) (h3 : (Bok ys la ha ∧ Bok ys la ha ∧ (1 : Int) = 0 ∧ (false = true ↔ Apa ys la ha ys la ha)) ∨ (¬ (Bok ys la ha ∧ Bok ys la ha) ∧ (1 : Int) = 1 ∧ false = false)) (w : World) (hl : Lp w A C xs) (hl2 : Lp w B D us) (hm : SlS w A ys) (hm2 : SlS w B zs) :
    Calls Try.prog 8 #[.agg #[.slice A xs.length C, .int .i64 la, .int .i64 ha], .agg #[.slice B us.length D, .int .i64 lb, .int .i64 hb], .agg #[.int .i64 a, .int .i64 b, .int .i64 c], .agg #[.int .i64 x, .int .i64 y, .int .i64 z]] w fun e_ w' => e_ = .returned (.bool true) ∧ Below w.heap.size w w' := by
  have HL := Lib.hid hl
  clear hl
  have HM := Lib.hid hm
  clear hm
  have HL2 := Lib.hid hl2
  clear hl2
  have HM2 := Lib.hid hm2
  clear hm2
  have C1 := Lib.hid (fun W (h : SlS W A ys) (k : SlS W B zs) => papart_is A B C D ys zs la ha lb hb hly hlz false 1 h1 W h k)
  have C2 := Lib.hid (fun W (h : SlS W A ys) (k : SlS W B zs) => papart_is B A D C zs ys lb hb la ha hlz hly false 1 h2 W k h)
  have C3 := Lib.hid (fun W (h : SlS W A ys) => papart_is A A C C ys ys la ha la ha hly hly false 1 h3 W h h)
  clear h1 h2 h3
  go_enter Try.func8, Try.ntmps8
  go_wp2_with fail
  obtain ⟨w1, hw1⟩ : ∃ V, ((((w.alloc (.cells #[.slice A xs.length C, .int .i64 la, .int .i64 ha] 24)).alloc (.cells #[.slice B us.length D, .int .i64 lb, .int .i64 hb] 24)).alloc (.cells #[.int .i64 a, .int .i64 b, .int .i64 c] 26)).alloc (.cells #[.int .i64 x, .int .i64 y, .int .i64 z] 26)) = V := ⟨_, rfl⟩
  obtain ⟨hB_, km, kn, kp, kq⟩ := boxes4 _ _ _ _ _ hw1
  rw [hw1]
  clear hw1
  have HB := Lib.hid hB_
  clear hB_
  have m0 := (cells3 km).1
  have m1 := (cells3 km).2.1
  have m2 := (cells3 km).2.2
  have lm := block_lt m0
  have n0 := (cells3 kn).1
  have n1 := (cells3 kn).2.1
  have n2 := (cells3 kn).2.2
  have ln := block_lt n0
  have p0 := (cells3 kp).1
  have p1 := (cells3 kp).2.1
  have p2 := (cells3 kp).2.2
  have lp := block_lt p0
  have q0 := (cells3 kq).1
  have q1 := (cells3 kq).2.1
  have q2 := (cells3 kq).2.2
  have lq := block_lt q0
  with_reducible refine (head_any _).mono ?_
  rintro e_ w2 ⟨rfl, hb⟩
  replace HB := Lib.hid (on_below HB.out hb)
  replace m0 := keepc hb m0
  replace m1 := keepc hb m1
  replace m2 := keepc hb m2
  replace n0 := keepc hb n0
  replace n1 := keepc hb n1
  replace n2 := keepc hb n2
  replace p0 := keepc hb p0
  replace p1 := keepc hb p1
  replace p2 := keepc hb p2
  replace q0 := keepc hb q0
  replace q1 := keepc hb q1
  replace q2 := keepc hb q2
  replace km := blk_on km hb
  replace kn := blk_on kn hb
  replace kp := blk_on kp hb
  replace kq := blk_on kq hb
  replace lm := Nat.lt_of_lt_of_le lm hb.size
  replace ln := Nat.lt_of_lt_of_le ln hb.size
  replace lp := Nat.lt_of_lt_of_le lp hb.size
  replace lq := Nat.lt_of_lt_of_le lq hb.size
  clear hb
  go_wp2_with fail
  have CF := Lib.hid (fun W (h : Lp W A C xs) => few_is A C xs la ha W h)
  rw [hy] at CF
  with_reducible refine (CF.out _ (HL.out.below HB.out)).mono ?_
  rintro e_ w3 ⟨rfl, hb⟩
  replace HB := Lib.hid (on_below HB.out hb)
  replace m0 := keepc hb m0
  replace m1 := keepc hb m1
  replace m2 := keepc hb m2
  replace n0 := keepc hb n0
  replace n1 := keepc hb n1
  replace n2 := keepc hb n2
  replace p0 := keepc hb p0
  replace p1 := keepc hb p1
  replace p2 := keepc hb p2
  replace q0 := keepc hb q0
  replace q1 := keepc hb q1
  replace q2 := keepc hb q2
  replace km := blk_on km hb
  replace kn := blk_on kn hb
  replace kp := blk_on kp hb
  replace kq := blk_on kq hb
  replace lm := Nat.lt_of_lt_of_le lm hb.size
  replace ln := Nat.lt_of_lt_of_le ln hb.size
  replace lp := Nat.lt_of_lt_of_le lp hb.size
  replace lq := Nat.lt_of_lt_of_le lq hb.size
  clear hb
  have fm0 : World.frozen? w3 ⟨w.heap.size, 0, none⟩ = false := by simp [World.frozen?, km]
  have fm1 : World.frozen? w3 ⟨w.heap.size, 1, none⟩ = false := by simp [World.frozen?, km]
  have fm2 : World.frozen? w3 ⟨w.heap.size, 2, none⟩ = false := by simp [World.frozen?, km]
  go_wp2_with fail
  clear CF fm0 fm1 fm2 m0 m1 m2 n0 n1 n2 p0 p1 p2 q0 q1 q2 lm ln lp lq
  replace km : (((w3.setCell ⟨w.heap.size, 0, none⟩ (.slice A ys.length C)).setCell ⟨w.heap.size, 1, none⟩ (.int .i64 la)).setCell ⟨w.heap.size, 2, none⟩ (.int .i64 ha)).heap[w.heap.size]? = some (.cells #[.slice A ys.length C, .int .i64 la, .int .i64 ha] 24 (0, 0)) := set_cells (set_cells (set_cells km 0 _) 1 _) 2 _
  replace kn : (((w3.setCell ⟨w.heap.size, 0, none⟩ (.slice A ys.length C)).setCell ⟨w.heap.size, 1, none⟩ (.int .i64 la)).setCell ⟨w.heap.size, 2, none⟩ (.int .i64 ha)).heap[w.heap.size + 1]? = _ := blk_far (blk_far (blk_far kn (by omega)) (by omega)) (by omega)
  replace kp : (((w3.setCell ⟨w.heap.size, 0, none⟩ (.slice A ys.length C)).setCell ⟨w.heap.size, 1, none⟩ (.int .i64 la)).setCell ⟨w.heap.size, 2, none⟩ (.int .i64 ha)).heap[w.heap.size + 1 + 1]? = _ := blk_far (blk_far (blk_far kp (by omega)) (by omega)) (by omega)
  replace kq : (((w3.setCell ⟨w.heap.size, 0, none⟩ (.slice A ys.length C)).setCell ⟨w.heap.size, 1, none⟩ (.int .i64 la)).setCell ⟨w.heap.size, 2, none⟩ (.int .i64 ha)).heap[w.heap.size + 1 + 1 + 1]? = _ := blk_far (blk_far (blk_far kq (by omega)) (by omega)) (by omega)
  replace HB := Lib.hid (show Below w.heap.size w (((w3.setCell ⟨w.heap.size, 0, none⟩ (.slice A ys.length C)).setCell ⟨w.heap.size, 1, none⟩ (.int .i64 la)).setCell ⟨w.heap.size, 2, none⟩ (.int .i64 ha)) from ((HB.out.setCell (by simp <;> omega) _).setCell (by simp <;> omega) _).setCell (by simp <;> omega) _)
  generalize (((w3.setCell ⟨w.heap.size, 0, none⟩ (.slice A ys.length C)).setCell ⟨w.heap.size, 1, none⟩ (.int .i64 la)).setCell ⟨w.heap.size, 2, none⟩ (.int .i64 ha)) = w4 at *
  have m0 := (cells3 km).1
  have m1 := (cells3 km).2.1
  have m2 := (cells3 km).2.2
  have lm := block_lt m0
  have n0 := (cells3 kn).1
  have n1 := (cells3 kn).2.1
  have n2 := (cells3 kn).2.2
  have ln := block_lt n0
  have p0 := (cells3 kp).1
  have p1 := (cells3 kp).2.1
  have p2 := (cells3 kp).2.2
  have lp := block_lt p0
  have q0 := (cells3 kq).1
  have q1 := (cells3 kq).2.1
  have q2 := (cells3 kq).2.2
  have lq := block_lt q0
  go_wp2_with fail
  have CF := Lib.hid (fun W (h : Lp W B D us) => few_is B D us lb hb W h)
  rw [hu] at CF
  with_reducible refine (CF.out _ (HL2.out.below HB.out)).mono ?_
  rintro e_ w5 ⟨rfl, hb⟩
  replace HB := Lib.hid (on_below HB.out hb)
  replace m0 := keepc hb m0
  replace m1 := keepc hb m1
  replace m2 := keepc hb m2
  replace n0 := keepc hb n0
  replace n1 := keepc hb n1
  replace n2 := keepc hb n2
  replace p0 := keepc hb p0
  replace p1 := keepc hb p1
  replace p2 := keepc hb p2
  replace q0 := keepc hb q0
  replace q1 := keepc hb q1
  replace q2 := keepc hb q2
  replace km := blk_on km hb
  replace kn := blk_on kn hb
  replace kp := blk_on kp hb
  replace kq := blk_on kq hb
  replace lm := Nat.lt_of_lt_of_le lm hb.size
  replace ln := Nat.lt_of_lt_of_le ln hb.size
  replace lp := Nat.lt_of_lt_of_le lp hb.size
  replace lq := Nat.lt_of_lt_of_le lq hb.size
  clear hb
  have fn0 : World.frozen? w5 ⟨w.heap.size + 1, 0, none⟩ = false := by simp [World.frozen?, kn]
  have fn1 : World.frozen? w5 ⟨w.heap.size + 1, 1, none⟩ = false := by simp [World.frozen?, kn]
  have fn2 : World.frozen? w5 ⟨w.heap.size + 1, 2, none⟩ = false := by simp [World.frozen?, kn]
  go_wp2_with fail
  clear CF fn0 fn1 fn2 m0 m1 m2 n0 n1 n2 p0 p1 p2 q0 q1 q2 lm ln lp lq
  replace kn : (((w5.setCell ⟨w.heap.size + 1, 0, none⟩ (.slice B zs.length D)).setCell ⟨w.heap.size + 1, 1, none⟩ (.int .i64 lb)).setCell ⟨w.heap.size + 1, 2, none⟩ (.int .i64 hb)).heap[w.heap.size + 1]? = some (.cells #[.slice B zs.length D, .int .i64 lb, .int .i64 hb] 24 (0, 0)) := set_cells (set_cells (set_cells kn 0 _) 1 _) 2 _
  replace km : (((w5.setCell ⟨w.heap.size + 1, 0, none⟩ (.slice B zs.length D)).setCell ⟨w.heap.size + 1, 1, none⟩ (.int .i64 lb)).setCell ⟨w.heap.size + 1, 2, none⟩ (.int .i64 hb)).heap[w.heap.size]? = _ := blk_far (blk_far (blk_far km (by omega)) (by omega)) (by omega)
  replace kp : (((w5.setCell ⟨w.heap.size + 1, 0, none⟩ (.slice B zs.length D)).setCell ⟨w.heap.size + 1, 1, none⟩ (.int .i64 lb)).setCell ⟨w.heap.size + 1, 2, none⟩ (.int .i64 hb)).heap[w.heap.size + 1 + 1]? = _ := blk_far (blk_far (blk_far kp (by omega)) (by omega)) (by omega)
  replace kq : (((w5.setCell ⟨w.heap.size + 1, 0, none⟩ (.slice B zs.length D)).setCell ⟨w.heap.size + 1, 1, none⟩ (.int .i64 lb)).setCell ⟨w.heap.size + 1, 2, none⟩ (.int .i64 hb)).heap[w.heap.size + 1 + 1 + 1]? = _ := blk_far (blk_far (blk_far kq (by omega)) (by omega)) (by omega)
  replace HB := Lib.hid (show Below w.heap.size w (((w5.setCell ⟨w.heap.size + 1, 0, none⟩ (.slice B zs.length D)).setCell ⟨w.heap.size + 1, 1, none⟩ (.int .i64 lb)).setCell ⟨w.heap.size + 1, 2, none⟩ (.int .i64 hb)) from ((HB.out.setCell (by simp <;> omega) _).setCell (by simp <;> omega) _).setCell (by simp <;> omega) _)
  generalize (((w5.setCell ⟨w.heap.size + 1, 0, none⟩ (.slice B zs.length D)).setCell ⟨w.heap.size + 1, 1, none⟩ (.int .i64 lb)).setCell ⟨w.heap.size + 1, 2, none⟩ (.int .i64 hb)) = w6 at *
  have m0 := (cells3 km).1
  have m1 := (cells3 km).2.1
  have m2 := (cells3 km).2.2
  have lm := block_lt m0
  have n0 := (cells3 kn).1
  have n1 := (cells3 kn).2.1
  have n2 := (cells3 kn).2.2
  have ln := block_lt n0
  have p0 := (cells3 kp).1
  have p1 := (cells3 kp).2.1
  have p2 := (cells3 kp).2.2
  have lp := block_lt p0
  have q0 := (cells3 kq).1
  have q1 := (cells3 kq).2.1
  have q2 := (cells3 kq).2.2
  have lq := block_lt q0
  go_wp2_with fail
  with_reducible refine (C1.out _ (HM.out.below HB.out) (HM2.out.below HB.out)).mono ?_
  rintro e_ w7 ⟨rfl, hb⟩
  replace HB := Lib.hid (on_below HB.out hb)
  replace m0 := keepc hb m0
  replace m1 := keepc hb m1
  replace m2 := keepc hb m2
  replace n0 := keepc hb n0
  replace n1 := keepc hb n1
  replace n2 := keepc hb n2
  replace p0 := keepc hb p0
  replace p1 := keepc hb p1
  replace p2 := keepc hb p2
  replace q0 := keepc hb q0
  replace q1 := keepc hb q1
  replace q2 := keepc hb q2
  replace km := blk_on km hb
  replace kn := blk_on kn hb
  replace kp := blk_on kp hb
  replace kq := blk_on kq hb
  replace lm := Nat.lt_of_lt_of_le lm hb.size
  replace ln := Nat.lt_of_lt_of_le ln hb.size
  replace lp := Nat.lt_of_lt_of_le lp hb.size
  replace lq := Nat.lt_of_lt_of_le lq hb.size
  clear hb
  go_wp2_with fail
  with_reducible refine (C2.out _ (HM.out.below HB.out) (HM2.out.below HB.out)).mono ?_
  rintro e_ w8 ⟨rfl, hb⟩
  replace HB := Lib.hid (on_below HB.out hb)
  replace m0 := keepc hb m0
  replace m1 := keepc hb m1
  replace m2 := keepc hb m2
  replace n0 := keepc hb n0
  replace n1 := keepc hb n1
  replace n2 := keepc hb n2
  replace p0 := keepc hb p0
  replace p1 := keepc hb p1
  replace p2 := keepc hb p2
  replace q0 := keepc hb q0
  replace q1 := keepc hb q1
  replace q2 := keepc hb q2
  replace km := blk_on km hb
  replace kn := blk_on kn hb
  replace kp := blk_on kp hb
  replace kq := blk_on kq hb
  replace lm := Nat.lt_of_lt_of_le lm hb.size
  replace ln := Nat.lt_of_lt_of_le ln hb.size
  replace lp := Nat.lt_of_lt_of_le lp hb.size
  replace lq := Nat.lt_of_lt_of_le lq hb.size
  clear hb
  go_wp2_with fail
  with_reducible refine (C3.out _ (HM.out.below HB.out)).mono ?_
  rintro e_ w9 ⟨rfl, hb⟩
  replace HB := Lib.hid (on_below HB.out hb)
  replace m0 := keepc hb m0
  replace m1 := keepc hb m1
  replace m2 := keepc hb m2
  replace n0 := keepc hb n0
  replace n1 := keepc hb n1
  replace n2 := keepc hb n2
  replace p0 := keepc hb p0
  replace p1 := keepc hb p1
  replace p2 := keepc hb p2
  replace q0 := keepc hb q0
  replace q1 := keepc hb q1
  replace q2 := keepc hb q2
  replace km := blk_on km hb
  replace kn := blk_on kn hb
  replace kp := blk_on kp hb
  replace kq := blk_on kq hb
  replace lm := Nat.lt_of_lt_of_le lm hb.size
  replace ln := Nat.lt_of_lt_of_le ln hb.size
  replace lp := Nat.lt_of_lt_of_le lp hb.size
  replace lq := Nat.lt_of_lt_of_le lq hb.size
  clear hb
  go_wp2_with fail
  go_ret
  exact ⟨rfl, HB.out⟩
end Go.Proofs.Ytagokcjbeaddiaa.LawApart
