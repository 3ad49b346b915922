/-
  SightBack.
-/
import Derived.Test.YtehlplejcaofoaaSgtZD
import Derived.Test.YtehlplejcaofoaaSgtZE
import Derived.Test.YtehlplejcaofoaaSgtZV
import Derived.Test.YtehlplejcaofoaaRows
import Derived.ProofKit
import Derived.OpenShut
import Derived.Deep.DeepHandedRow
import Derived.Deep.DeepWitnessRowRef
import Derived.MakeChecks
import Derived.Deep.DeepCutAuto
namespace Go.Proofs.Ytehlplejcaofoaa.LawBack
open Go.RowKit Go.Sort
open Go.RowKit (Below)
set_option linter.unusedVariables false
set_option linter.unusedSimpArgs false
attribute [local go_sem] Oper.semAt_some

set_option maxRecDepth 100000 in
set_option maxHeartbeats 4000000 in
theorem back_0 (ex ey ez x y z : Int) (bA : Option Addr) (bC : Nat) (b : List Bv) (h5 : b.length ≤ 9223372036854775807) (h6 : ∀ k, k < b.length → (gdB b k).xs.length ≤ 9223372036854775807) (hf : ¬ Few 0 b) (w : World) (hm : BdS w bA b) :
    Calls Try.prog 7 #[.agg #[.int .i64 ex, .int .i64 ey, .int .i64 ez], .agg #[.int .i64 x, .int .i64 y, .int .i64 z], .slice bA b.length bC] w fun e_ w' => e_ = .returned (.bool true) ∧ Below w.heap.size w w' := by
  have HF := Lib.hid (fun W (h : BdS W bA b) => few9_is none 0 [] bA bC b (by simp) h5 h6 false (by simp [hf]) W h)
  simp only [List.length_nil] at HF
  have HM := Lib.hid hm
  clear hm
  go_enter Try.func7, Try.ntmps7
  go_wp2_with fail
  obtain ⟨w1, hw1⟩ : ∃ V, ((w.alloc (.cells #[.int .i64 ex, .int .i64 ey, .int .i64 ez] 26)).alloc (.cells #[.int .i64 x, .int .i64 y, .int .i64 z] 26)) = V := ⟨_, rfl⟩
  obtain ⟨hB_, kp, kq⟩ := boxes2 _ _ _ hw1
  rw [hw1]
  clear hw1
  have HB := Lib.hid hB_
  clear hB_
  have p0 := (cells3 kp).1
  have p1 := (cells3 kp).2.1
  have p2 := (cells3 kp).2.2
  have lp := block_lt p0
  have q0 := (cells3 kq).1
  have q1 := (cells3 kq).2.1
  have q2 := (cells3 kq).2.2
  have lq := block_lt q0
  replace HM := Lib.hid (HM.out.below HB.out)
  with_reducible refine (head9_any _).mono ?_
  rintro e_ w2 ⟨rfl, hb⟩
  replace HB := Lib.hid (on_below HB.out hb)
  replace HM := Lib.hid (HM.out.below hb)
  replace p0 := keepc hb p0
  replace p1 := keepc hb p1
  replace p2 := keepc hb p2
  replace q0 := keepc hb q0
  replace q1 := keepc hb q1
  replace q2 := keepc hb q2
  replace kp := blk_on kp hb
  replace kq := blk_on kq hb
  replace lp := Nat.lt_of_lt_of_le lp hb.size
  replace lq := Nat.lt_of_lt_of_le lq hb.size
  clear hb
  go_wp2_with fail
  with_reducible refine (HF.out _ HM.out).mono ?_
  rintro e_ w3 ⟨rfl, hb⟩
  replace HB := Lib.hid (on_below HB.out hb)
  replace HM := Lib.hid (HM.out.below hb)
  replace p0 := keepc hb p0
  replace p1 := keepc hb p1
  replace p2 := keepc hb p2
  replace q0 := keepc hb q0
  replace q1 := keepc hb q1
  replace q2 := keepc hb q2
  replace kp := blk_on kp hb
  replace kq := blk_on kq hb
  replace lp := Nat.lt_of_lt_of_le lp hb.size
  replace lq := Nat.lt_of_lt_of_le lq hb.size
  clear hb
  go_wp2_with fail
  go_ret
  exact ⟨rfl, HB.out⟩
set_option maxRecDepth 100000 in
set_option maxHeartbeats 4000000 in
theorem back_1 (ex ey ez x y z : Int) (bA : Option Addr) (bC : Nat) (b : List Bv) (h5 : b.length ≤ 9223372036854775807) (h6 : ∀ k, k < b.length → (gdB b k).xs.length ≤ 9223372036854775807) (hf : Few 0 b) (E : Int) (h0 : E ≠ 0) (h1 : Wrg ex ey ez [⟨x, y, z, 1⟩] b E) (h2 : Wrg x y z [⟨ex, ey, ez, 1⟩] b E) (w : World) (hm : BdS w bA b) :
    Calls Try.prog 7 #[.agg #[.int .i64 ex, .int .i64 ey, .int .i64 ez], .agg #[.int .i64 x, .int .i64 y, .int .i64 z], .slice bA b.length bC] w fun e_ w' => e_ = .returned (.bool true) ∧ Below w.heap.size w w' := by
  have HF := Lib.hid (fun W (h : BdS W bA b) => few9_is none 0 [] bA bC b (by simp) h5 h6 true (by simp [hf]) W h)
  simp only [List.length_nil] at HF
  have C1 := Lib.hid (fun W (h : BdS W bA b) => first_0 ex ey ez x y z bA bC b h5 E h1 h0 (fun _ => few_bsm hf) W h)
  have C2 := Lib.hid (fun W (h : BdS W bA b) => first_0 x y z ex ey ez bA bC b h5 E h2 h0 (fun _ => few_bsm hf) W h)
  have z0 : (E != 0) = true := by simp [h0]
  have z1 : (E == E) = true := by simp
  clear h0 h1 h2 hf
  have HM := Lib.hid hm
  clear hm
  go_enter Try.func7, Try.ntmps7
  go_wp2_with fail
  obtain ⟨w1, hw1⟩ : ∃ V, ((w.alloc (.cells #[.int .i64 ex, .int .i64 ey, .int .i64 ez] 26)).alloc (.cells #[.int .i64 x, .int .i64 y, .int .i64 z] 26)) = V := ⟨_, rfl⟩
  obtain ⟨hB_, kp, kq⟩ := boxes2 _ _ _ hw1
  rw [hw1]
  clear hw1
  have HB := Lib.hid hB_
  clear hB_
  have p0 := (cells3 kp).1
  have p1 := (cells3 kp).2.1
  have p2 := (cells3 kp).2.2
  have lp := block_lt p0
  have q0 := (cells3 kq).1
  have q1 := (cells3 kq).2.1
  have q2 := (cells3 kq).2.2
  have lq := block_lt q0
  replace HM := Lib.hid (HM.out.below HB.out)
  with_reducible refine (head9_any _).mono ?_
  rintro e_ w2 ⟨rfl, hb⟩
  replace HB := Lib.hid (on_below HB.out hb)
  replace HM := Lib.hid (HM.out.below hb)
  replace p0 := keepc hb p0
  replace p1 := keepc hb p1
  replace p2 := keepc hb p2
  replace q0 := keepc hb q0
  replace q1 := keepc hb q1
  replace q2 := keepc hb q2
  replace kp := blk_on kp hb
  replace kq := blk_on kq hb
  replace lp := Nat.lt_of_lt_of_le lp hb.size
  replace lq := Nat.lt_of_lt_of_le lq hb.size
  clear hb
  go_wp2_with fail
  with_reducible refine (HF.out _ HM.out).mono ?_
  rintro e_ w3 ⟨rfl, hb⟩
  replace HB := Lib.hid (on_below HB.out hb)
  replace HM := Lib.hid (HM.out.below hb)
  replace p0 := keepc hb p0
  replace p1 := keepc hb p1
  replace p2 := keepc hb p2
  replace q0 := keepc hb q0
  replace q1 := keepc hb q1
  replace q2 := keepc hb q2
  replace kp := blk_on kp hb
  replace kq := blk_on kq hb
  replace lp := Nat.lt_of_lt_of_le lp hb.size
  replace lq := Nat.lt_of_lt_of_le lq hb.size
  clear hb
  go_wp2_with fail
  with_reducible refine (C1.out _ HM.out).mono ?_
  rintro e_ w4 ⟨rfl, hb⟩
  replace HB := Lib.hid (on_below HB.out hb)
  replace HM := Lib.hid (HM.out.below hb)
  replace p0 := keepc hb p0
  replace p1 := keepc hb p1
  replace p2 := keepc hb p2
  replace q0 := keepc hb q0
  replace q1 := keepc hb q1
  replace q2 := keepc hb q2
  replace kp := blk_on kp hb
  replace kq := blk_on kq hb
  replace lp := Nat.lt_of_lt_of_le lp hb.size
  replace lq := Nat.lt_of_lt_of_le lq hb.size
  clear hb
  go_wp2_with fail
  with_reducible refine (C2.out _ HM.out).mono ?_
  rintro e_ w5 ⟨rfl, hb⟩
  replace HB := Lib.hid (on_below HB.out hb)
  replace HM := Lib.hid (HM.out.below hb)
  replace p0 := keepc hb p0
  replace p1 := keepc hb p1
  replace p2 := keepc hb p2
  replace q0 := keepc hb q0
  replace q1 := keepc hb q1
  replace q2 := keepc hb q2
  replace kp := blk_on kp hb
  replace kq := blk_on kq hb
  replace lp := Nat.lt_of_lt_of_le lp hb.size
  replace lq := Nat.lt_of_lt_of_le lq hb.size
  clear hb
  go_wp2_with fail
  go_ret
  exact ⟨rfl, HB.out⟩
set_option maxRecDepth 100000 in
set_option maxHeartbeats 4000000 in
theorem back_2 (ex ey ez x y z : Int) (bA : Option Addr) (bC : Nat) (b : List Bv) (h5 : b.length ≤ 9223372036854775807) (h6 : ∀ k, k < b.length → (gdB b k).xs.length ≤ 9223372036854775807) (hf : Few 0 b) (h1 : Wrg ex ey ez [⟨x, y, z, 1⟩] b 0) (h2 : Wrg x y z [⟨ex, ey, ez, 1⟩] b 0) (qc qd rc rd : Int) (g1 : lin ex ey ez x y z b 0 = ⟨0, -1, qc, qd⟩) (g2 : lin x y z ex ey ez b 0 = ⟨0, -1, rc, rd⟩) (w : World) (hm : BdS w bA b) :
    Calls Try.prog 7 #[.agg #[.int .i64 ex, .int .i64 ey, .int .i64 ez], .agg #[.int .i64 x, .int .i64 y, .int .i64 z], .slice bA b.length bC] w fun e_ w' => e_ = .returned (.bool true) ∧ Below w.heap.size w w' := by
  have HF := Lib.hid (fun W (h : BdS W bA b) => few9_is none 0 [] bA bC b (by simp) h5 h6 true (by simp [hf]) W h)
  simp only [List.length_nil] at HF
  have C1 := Lib.hid (fun W (h : BdS W bA b) => first_1 ex ey ez x y z bA bC b h5 h1 (-1) (by rw [g1]) W h)
  have C2 := Lib.hid (fun W (h : BdS W bA b) => first_1 x y z ex ey ez bA bC b h5 h2 (-1) (by rw [g2]) W h)
  have C3 := Lib.hid (fun g W c0 c1 c2 c3 (h : BdS W bA b) => lines_one ex ey ez x y z bA bC b h5 h1 0 (-1) qc qd g1 g W c0 c1 c2 c3 h)
  have C4 := Lib.hid (fun g W c0 c1 c2 c3 (h : BdS W bA b) => lines_one x y z ex ey ez bA bC b h5 h2 0 (-1) rc rd g2 g W c0 c1 c2 c3 h)
  have z1 : ((-1 : Int) != -1) = false := by simp
  clear h1 h2 g1 g2 hf
  have HM := Lib.hid hm
  clear hm
  go_enter Try.func7, Try.ntmps7
  go_wp2_with fail
  obtain ⟨w1, hw1⟩ : ∃ V, ((w.alloc (.cells #[.int .i64 ex, .int .i64 ey, .int .i64 ez] 26)).alloc (.cells #[.int .i64 x, .int .i64 y, .int .i64 z] 26)) = V := ⟨_, rfl⟩
  obtain ⟨hB_, kp, kq⟩ := boxes2 _ _ _ hw1
  rw [hw1]
  clear hw1
  have HB := Lib.hid hB_
  clear hB_
  have p0 := (cells3 kp).1
  have p1 := (cells3 kp).2.1
  have p2 := (cells3 kp).2.2
  have lp := block_lt p0
  have q0 := (cells3 kq).1
  have q1 := (cells3 kq).2.1
  have q2 := (cells3 kq).2.2
  have lq := block_lt q0
  replace HM := Lib.hid (HM.out.below HB.out)
  with_reducible refine (head9_any _).mono ?_
  rintro e_ w2 ⟨rfl, hb⟩
  replace HB := Lib.hid (on_below HB.out hb)
  replace HM := Lib.hid (HM.out.below hb)
  replace p0 := keepc hb p0
  replace p1 := keepc hb p1
  replace p2 := keepc hb p2
  replace q0 := keepc hb q0
  replace q1 := keepc hb q1
  replace q2 := keepc hb q2
  replace kp := blk_on kp hb
  replace kq := blk_on kq hb
  replace lp := Nat.lt_of_lt_of_le lp hb.size
  replace lq := Nat.lt_of_lt_of_le lq hb.size
  clear hb
  go_wp2_with fail
  with_reducible refine (HF.out _ HM.out).mono ?_
  rintro e_ w3 ⟨rfl, hb⟩
  replace HB := Lib.hid (on_below HB.out hb)
  replace HM := Lib.hid (HM.out.below hb)
  replace p0 := keepc hb p0
  replace p1 := keepc hb p1
  replace p2 := keepc hb p2
  replace q0 := keepc hb q0
  replace q1 := keepc hb q1
  replace q2 := keepc hb q2
  replace kp := blk_on kp hb
  replace kq := blk_on kq hb
  replace lp := Nat.lt_of_lt_of_le lp hb.size
  replace lq := Nat.lt_of_lt_of_le lq hb.size
  clear hb
  go_wp2_with fail
  with_reducible refine (C1.out _ HM.out).mono ?_
  rintro e_ w4 ⟨rfl, hb⟩
  replace HB := Lib.hid (on_below HB.out hb)
  replace HM := Lib.hid (HM.out.below hb)
  replace p0 := keepc hb p0
  replace p1 := keepc hb p1
  replace p2 := keepc hb p2
  replace q0 := keepc hb q0
  replace q1 := keepc hb q1
  replace q2 := keepc hb q2
  replace kp := blk_on kp hb
  replace kq := blk_on kq hb
  replace lp := Nat.lt_of_lt_of_le lp hb.size
  replace lq := Nat.lt_of_lt_of_le lq hb.size
  clear hb
  go_wp2_with fail
  with_reducible refine (C2.out _ HM.out).mono ?_
  rintro e_ w5 ⟨rfl, hb⟩
  replace HB := Lib.hid (on_below HB.out hb)
  replace HM := Lib.hid (HM.out.below hb)
  replace p0 := keepc hb p0
  replace p1 := keepc hb p1
  replace p2 := keepc hb p2
  replace q0 := keepc hb q0
  replace q1 := keepc hb q1
  replace q2 := keepc hb q2
  replace kp := blk_on kp hb
  replace kq := blk_on kq hb
  replace lp := Nat.lt_of_lt_of_le lp hb.size
  replace lq := Nat.lt_of_lt_of_le lq hb.size
  clear hb
  go_wp2_with fail
  have a0 : World.cell? (w5.alloc (.cells #[.int .i64 x, .int .i64 y, .int .i64 z, .int .i64 1] 62)) ⟨w5.heap.size, 0, none⟩ = some (.int .i64 x) := by simp [go_sem]
  have a1 : World.cell? (w5.alloc (.cells #[.int .i64 x, .int .i64 y, .int .i64 z, .int .i64 1] 62)) ⟨w5.heap.size, 1, none⟩ = some (.int .i64 y) := by simp [go_sem]
  have a2 : World.cell? (w5.alloc (.cells #[.int .i64 x, .int .i64 y, .int .i64 z, .int .i64 1] 62)) ⟨w5.heap.size, 2, none⟩ = some (.int .i64 z) := by simp [go_sem]
  have a3 : World.cell? (w5.alloc (.cells #[.int .i64 x, .int .i64 y, .int .i64 z, .int .i64 1] 62)) ⟨w5.heap.size, 3, none⟩ = some (.int .i64 1) := by simp [go_sem]
  have la : w5.heap.size < (w5.alloc (.cells #[.int .i64 x, .int .i64 y, .int .i64 z, .int .i64 1] 62)).heap.size := by simp
  have hb : Below w5.heap.size w5 (w5.alloc (.cells #[.int .i64 x, .int .i64 y, .int .i64 z, .int .i64 1] 62)) := below_new _ _
  generalize w5.alloc (.cells #[.int .i64 x, .int .i64 y, .int .i64 z, .int .i64 1] 62) = w6 at *
  replace HB := Lib.hid (on_below HB.out hb)
  replace HM := Lib.hid (HM.out.below hb)
  replace p0 := keepc hb p0
  replace p1 := keepc hb p1
  replace p2 := keepc hb p2
  replace q0 := keepc hb q0
  replace q1 := keepc hb q1
  replace q2 := keepc hb q2
  replace kp := blk_on kp hb
  replace kq := blk_on kq hb
  replace lp := Nat.lt_of_lt_of_le lp hb.size
  replace lq := Nat.lt_of_lt_of_le lq hb.size
  clear hb
  generalize w5.heap.size = ga at *
  with_reducible refine (C3.out _ _ a0 a1 a2 a3 HM.out).mono ?_
  rintro e_ w7 ⟨gh, rfl, ⟨t0, t1, t2, t3⟩, hb⟩
  replace HB := Lib.hid (on_below HB.out hb)
  replace HM := Lib.hid (HM.out.below hb)
  replace p0 := keepc hb p0
  replace p1 := keepc hb p1
  replace p2 := keepc hb p2
  replace q0 := keepc hb q0
  replace q1 := keepc hb q1
  replace q2 := keepc hb q2
  replace a0 := keepc hb a0
  replace a1 := keepc hb a1
  replace a2 := keepc hb a2
  replace a3 := keepc hb a3
  replace kp := blk_on kp hb
  replace kq := blk_on kq hb
  replace lp := Nat.lt_of_lt_of_le lp hb.size
  replace lq := Nat.lt_of_lt_of_le lq hb.size
  replace la := Nat.lt_of_lt_of_le la hb.size
  clear hb
  have lt_ := block_lt t0
  go_wp2_with fail
  have c0 : World.cell? (w7.alloc (.cells #[.int .i64 ex, .int .i64 ey, .int .i64 ez, .int .i64 1] 62)) ⟨w7.heap.size, 0, none⟩ = some (.int .i64 ex) := by simp [go_sem]
  have c1 : World.cell? (w7.alloc (.cells #[.int .i64 ex, .int .i64 ey, .int .i64 ez, .int .i64 1] 62)) ⟨w7.heap.size, 1, none⟩ = some (.int .i64 ey) := by simp [go_sem]
  have c2 : World.cell? (w7.alloc (.cells #[.int .i64 ex, .int .i64 ey, .int .i64 ez, .int .i64 1] 62)) ⟨w7.heap.size, 2, none⟩ = some (.int .i64 ez) := by simp [go_sem]
  have c3 : World.cell? (w7.alloc (.cells #[.int .i64 ex, .int .i64 ey, .int .i64 ez, .int .i64 1] 62)) ⟨w7.heap.size, 3, none⟩ = some (.int .i64 1) := by simp [go_sem]
  have lc : w7.heap.size < (w7.alloc (.cells #[.int .i64 ex, .int .i64 ey, .int .i64 ez, .int .i64 1] 62)).heap.size := by simp
  have hb : Below w7.heap.size w7 (w7.alloc (.cells #[.int .i64 ex, .int .i64 ey, .int .i64 ez, .int .i64 1] 62)) := below_new _ _
  generalize w7.alloc (.cells #[.int .i64 ex, .int .i64 ey, .int .i64 ez, .int .i64 1] 62) = w8 at *
  replace HB := Lib.hid (on_below HB.out hb)
  replace HM := Lib.hid (HM.out.below hb)
  replace p0 := keepc hb p0
  replace p1 := keepc hb p1
  replace p2 := keepc hb p2
  replace q0 := keepc hb q0
  replace q1 := keepc hb q1
  replace q2 := keepc hb q2
  replace a0 := keepc hb a0
  replace a1 := keepc hb a1
  replace a2 := keepc hb a2
  replace a3 := keepc hb a3
  replace t0 := keepc hb t0
  replace t1 := keepc hb t1
  replace t2 := keepc hb t2
  replace t3 := keepc hb t3
  replace kp := blk_on kp hb
  replace kq := blk_on kq hb
  replace lp := Nat.lt_of_lt_of_le lp hb.size
  replace lq := Nat.lt_of_lt_of_le lq hb.size
  replace la := Nat.lt_of_lt_of_le la hb.size
  replace lt_ := Nat.lt_of_lt_of_le lt_ hb.size
  clear hb
  generalize w7.heap.size = gc at *
  with_reducible refine (C4.out _ _ c0 c1 c2 c3 HM.out).mono ?_
  rintro e_ w9 ⟨gk, rfl, ⟨r0_, r1_, r2_, r3_⟩, hb⟩
  replace HB := Lib.hid (on_below HB.out hb)
  replace HM := Lib.hid (HM.out.below hb)
  replace p0 := keepc hb p0
  replace p1 := keepc hb p1
  replace p2 := keepc hb p2
  replace q0 := keepc hb q0
  replace q1 := keepc hb q1
  replace q2 := keepc hb q2
  replace a0 := keepc hb a0
  replace a1 := keepc hb a1
  replace a2 := keepc hb a2
  replace a3 := keepc hb a3
  replace t0 := keepc hb t0
  replace t1 := keepc hb t1
  replace t2 := keepc hb t2
  replace t3 := keepc hb t3
  replace c0 := keepc hb c0
  replace c1 := keepc hb c1
  replace c2 := keepc hb c2
  replace c3 := keepc hb c3
  replace kp := blk_on kp hb
  replace kq := blk_on kq hb
  replace lp := Nat.lt_of_lt_of_le lp hb.size
  replace lq := Nat.lt_of_lt_of_le lq hb.size
  replace la := Nat.lt_of_lt_of_le la hb.size
  replace lt_ := Nat.lt_of_lt_of_le lt_ hb.size
  replace lc := Nat.lt_of_lt_of_le lc hb.size
  clear hb
  have lr_ := block_lt r0_
  go_wp2_with fail
  go_ret
  exact ⟨rfl, HB.out⟩
set_option maxRecDepth 100000 in
set_option maxHeartbeats 4000000 in
theorem back_3 (ex ey ez x y z : Int) (bA : Option Addr) (bC : Nat) (b : List Bv) (h5 : b.length ≤ 9223372036854775807) (h6 : ∀ k, k < b.length → (gdB b k).xs.length ≤ 9223372036854775807) (n : Nat) (hf : Few 0 b) (h1 : Wrg ex ey ez [⟨x, y, z, 1⟩] b 0) (h2 : Wrg x y z [⟨ex, ey, ez, 1⟩] b 0) (qc qd rc rd : Int) (g1 : lin ex ey ez x y z b 0 = ⟨0, n, qc, qd⟩) (g2 : lin x y z ex ey ez b 0 = ⟨0, n, rc, rd⟩) (va : vld qc qd = true) (vb : vld rc qd = true) (hd : rd = qd) (hs : qc + rc = qd) (w : World) (hm : BdS w bA b) :
    Calls Try.prog 7 #[.agg #[.int .i64 ex, .int .i64 ey, .int .i64 ez], .agg #[.int .i64 x, .int .i64 y, .int .i64 z], .slice bA b.length bC] w fun e_ w' => e_ = .returned (.bool true) ∧ Below w.heap.size w w' := by
  have HF := Lib.hid (fun W (h : BdS W bA b) => few9_is none 0 [] bA bC b (by simp) h5 h6 true (by simp [hf]) W h)
  simp only [List.length_nil] at HF
  have C1 := Lib.hid (fun W (h : BdS W bA b) => first_1 ex ey ez x y z bA bC b h5 h1 ((n : Int)) (by rw [g1]) W h)
  have C2 := Lib.hid (fun W (h : BdS W bA b) => first_1 x y z ex ey ez bA bC b h5 h2 ((n : Int)) (by rw [g2]) W h)
  have C3 := Lib.hid (fun g W c0 c1 c2 c3 (h : BdS W bA b) => lines_one ex ey ez x y z bA bC b h5 h1 0 ((n : Int)) qc qd g1 g W c0 c1 c2 c3 h)
  have C4 := Lib.hid (fun g W c0 c1 c2 c3 (h : BdS W bA b) => lines_one x y z ex ey ez bA bC b h5 h2 0 ((n : Int)) rc rd g2 g W c0 c1 c2 c3 h)
  have z1 : (((n : Int) : Int) != (n : Int)) = false := by simp
  have C5 := Lib.hid (fun W => add_one_is qc rc qd va vb hs W)
  have z2 : ((n : Int) == -1) = false := by rw [beq_eq_false_iff_ne]; omega
  have e1 := fun W => rat_eq (a := 1) (b := 1) (x := 1) (y := 1) (r := true) (by decide) W
  subst hd
  clear h1 h2 g1 g2 hf hs va vb
  have HM := Lib.hid hm
  clear hm
  go_enter Try.func7, Try.ntmps7
  go_wp2_with fail
  obtain ⟨w1, hw1⟩ : ∃ V, ((w.alloc (.cells #[.int .i64 ex, .int .i64 ey, .int .i64 ez] 26)).alloc (.cells #[.int .i64 x, .int .i64 y, .int .i64 z] 26)) = V := ⟨_, rfl⟩
  obtain ⟨hB_, kp, kq⟩ := boxes2 _ _ _ hw1
  rw [hw1]
  clear hw1
  have HB := Lib.hid hB_
  clear hB_
  have p0 := (cells3 kp).1
  have p1 := (cells3 kp).2.1
  have p2 := (cells3 kp).2.2
  have lp := block_lt p0
  have q0 := (cells3 kq).1
  have q1 := (cells3 kq).2.1
  have q2 := (cells3 kq).2.2
  have lq := block_lt q0
  replace HM := Lib.hid (HM.out.below HB.out)
  with_reducible refine (head9_any _).mono ?_
  rintro e_ w2 ⟨rfl, hb⟩
  replace HB := Lib.hid (on_below HB.out hb)
  replace HM := Lib.hid (HM.out.below hb)
  replace p0 := keepc hb p0
  replace p1 := keepc hb p1
  replace p2 := keepc hb p2
  replace q0 := keepc hb q0
  replace q1 := keepc hb q1
  replace q2 := keepc hb q2
  replace kp := blk_on kp hb
  replace kq := blk_on kq hb
  replace lp := Nat.lt_of_lt_of_le lp hb.size
  replace lq := Nat.lt_of_lt_of_le lq hb.size
  clear hb
  go_wp2_with fail
  with_reducible refine (HF.out _ HM.out).mono ?_
  rintro e_ w3 ⟨rfl, hb⟩
  replace HB := Lib.hid (on_below HB.out hb)
  replace HM := Lib.hid (HM.out.below hb)
  replace p0 := keepc hb p0
  replace p1 := keepc hb p1
  replace p2 := keepc hb p2
  replace q0 := keepc hb q0
  replace q1 := keepc hb q1
  replace q2 := keepc hb q2
  replace kp := blk_on kp hb
  replace kq := blk_on kq hb
  replace lp := Nat.lt_of_lt_of_le lp hb.size
  replace lq := Nat.lt_of_lt_of_le lq hb.size
  clear hb
  go_wp2_with fail
  with_reducible refine (C1.out _ HM.out).mono ?_
  rintro e_ w4 ⟨rfl, hb⟩
  replace HB := Lib.hid (on_below HB.out hb)
  replace HM := Lib.hid (HM.out.below hb)
  replace p0 := keepc hb p0
  replace p1 := keepc hb p1
  replace p2 := keepc hb p2
  replace q0 := keepc hb q0
  replace q1 := keepc hb q1
  replace q2 := keepc hb q2
  replace kp := blk_on kp hb
  replace kq := blk_on kq hb
  replace lp := Nat.lt_of_lt_of_le lp hb.size
  replace lq := Nat.lt_of_lt_of_le lq hb.size
  clear hb
  go_wp2_with fail
  with_reducible refine (C2.out _ HM.out).mono ?_
  rintro e_ w5 ⟨rfl, hb⟩
  replace HB := Lib.hid (on_below HB.out hb)
  replace HM := Lib.hid (HM.out.below hb)
  replace p0 := keepc hb p0
  replace p1 := keepc hb p1
  replace p2 := keepc hb p2
  replace q0 := keepc hb q0
  replace q1 := keepc hb q1
  replace q2 := keepc hb q2
  replace kp := blk_on kp hb
  replace kq := blk_on kq hb
  replace lp := Nat.lt_of_lt_of_le lp hb.size
  replace lq := Nat.lt_of_lt_of_le lq hb.size
  clear hb
  go_wp2_with fail
  have a0 : World.cell? (w5.alloc (.cells #[.int .i64 x, .int .i64 y, .int .i64 z, .int .i64 1] 62)) ⟨w5.heap.size, 0, none⟩ = some (.int .i64 x) := by simp [go_sem]
  have a1 : World.cell? (w5.alloc (.cells #[.int .i64 x, .int .i64 y, .int .i64 z, .int .i64 1] 62)) ⟨w5.heap.size, 1, none⟩ = some (.int .i64 y) := by simp [go_sem]
  have a2 : World.cell? (w5.alloc (.cells #[.int .i64 x, .int .i64 y, .int .i64 z, .int .i64 1] 62)) ⟨w5.heap.size, 2, none⟩ = some (.int .i64 z) := by simp [go_sem]
  have a3 : World.cell? (w5.alloc (.cells #[.int .i64 x, .int .i64 y, .int .i64 z, .int .i64 1] 62)) ⟨w5.heap.size, 3, none⟩ = some (.int .i64 1) := by simp [go_sem]
  have la : w5.heap.size < (w5.alloc (.cells #[.int .i64 x, .int .i64 y, .int .i64 z, .int .i64 1] 62)).heap.size := by simp
  have hb : Below w5.heap.size w5 (w5.alloc (.cells #[.int .i64 x, .int .i64 y, .int .i64 z, .int .i64 1] 62)) := below_new _ _
  generalize w5.alloc (.cells #[.int .i64 x, .int .i64 y, .int .i64 z, .int .i64 1] 62) = w6 at *
  replace HB := Lib.hid (on_below HB.out hb)
  replace HM := Lib.hid (HM.out.below hb)
  replace p0 := keepc hb p0
  replace p1 := keepc hb p1
  replace p2 := keepc hb p2
  replace q0 := keepc hb q0
  replace q1 := keepc hb q1
  replace q2 := keepc hb q2
  replace kp := blk_on kp hb
  replace kq := blk_on kq hb
  replace lp := Nat.lt_of_lt_of_le lp hb.size
  replace lq := Nat.lt_of_lt_of_le lq hb.size
  clear hb
  generalize w5.heap.size = ga at *
  with_reducible refine (C3.out _ _ a0 a1 a2 a3 HM.out).mono ?_
  rintro e_ w7 ⟨gh, rfl, ⟨t0, t1, t2, t3⟩, hb⟩
  replace HB := Lib.hid (on_below HB.out hb)
  replace HM := Lib.hid (HM.out.below hb)
  replace p0 := keepc hb p0
  replace p1 := keepc hb p1
  replace p2 := keepc hb p2
  replace q0 := keepc hb q0
  replace q1 := keepc hb q1
  replace q2 := keepc hb q2
  replace a0 := keepc hb a0
  replace a1 := keepc hb a1
  replace a2 := keepc hb a2
  replace a3 := keepc hb a3
  replace kp := blk_on kp hb
  replace kq := blk_on kq hb
  replace lp := Nat.lt_of_lt_of_le lp hb.size
  replace lq := Nat.lt_of_lt_of_le lq hb.size
  replace la := Nat.lt_of_lt_of_le la hb.size
  clear hb
  have lt_ := block_lt t0
  go_wp2_with fail
  have c0 : World.cell? (w7.alloc (.cells #[.int .i64 ex, .int .i64 ey, .int .i64 ez, .int .i64 1] 62)) ⟨w7.heap.size, 0, none⟩ = some (.int .i64 ex) := by simp [go_sem]
  have c1 : World.cell? (w7.alloc (.cells #[.int .i64 ex, .int .i64 ey, .int .i64 ez, .int .i64 1] 62)) ⟨w7.heap.size, 1, none⟩ = some (.int .i64 ey) := by simp [go_sem]
  have c2 : World.cell? (w7.alloc (.cells #[.int .i64 ex, .int .i64 ey, .int .i64 ez, .int .i64 1] 62)) ⟨w7.heap.size, 2, none⟩ = some (.int .i64 ez) := by simp [go_sem]
  have c3 : World.cell? (w7.alloc (.cells #[.int .i64 ex, .int .i64 ey, .int .i64 ez, .int .i64 1] 62)) ⟨w7.heap.size, 3, none⟩ = some (.int .i64 1) := by simp [go_sem]
  have lc : w7.heap.size < (w7.alloc (.cells #[.int .i64 ex, .int .i64 ey, .int .i64 ez, .int .i64 1] 62)).heap.size := by simp
  have hb : Below w7.heap.size w7 (w7.alloc (.cells #[.int .i64 ex, .int .i64 ey, .int .i64 ez, .int .i64 1] 62)) := below_new _ _
  generalize w7.alloc (.cells #[.int .i64 ex, .int .i64 ey, .int .i64 ez, .int .i64 1] 62) = w8 at *
  replace HB := Lib.hid (on_below HB.out hb)
  replace HM := Lib.hid (HM.out.below hb)
  replace p0 := keepc hb p0
  replace p1 := keepc hb p1
  replace p2 := keepc hb p2
  replace q0 := keepc hb q0
  replace q1 := keepc hb q1
  replace q2 := keepc hb q2
  replace a0 := keepc hb a0
  replace a1 := keepc hb a1
  replace a2 := keepc hb a2
  replace a3 := keepc hb a3
  replace t0 := keepc hb t0
  replace t1 := keepc hb t1
  replace t2 := keepc hb t2
  replace t3 := keepc hb t3
  replace kp := blk_on kp hb
  replace kq := blk_on kq hb
  replace lp := Nat.lt_of_lt_of_le lp hb.size
  replace lq := Nat.lt_of_lt_of_le lq hb.size
  replace la := Nat.lt_of_lt_of_le la hb.size
  replace lt_ := Nat.lt_of_lt_of_le lt_ hb.size
  clear hb
  generalize w7.heap.size = gc at *
  with_reducible refine (C4.out _ _ c0 c1 c2 c3 HM.out).mono ?_
  rintro e_ w9 ⟨gk, rfl, ⟨r0_, r1_, r2_, r3_⟩, hb⟩
  replace HB := Lib.hid (on_below HB.out hb)
  replace HM := Lib.hid (HM.out.below hb)
  replace p0 := keepc hb p0
  replace p1 := keepc hb p1
  replace p2 := keepc hb p2
  replace q0 := keepc hb q0
  replace q1 := keepc hb q1
  replace q2 := keepc hb q2
  replace a0 := keepc hb a0
  replace a1 := keepc hb a1
  replace a2 := keepc hb a2
  replace a3 := keepc hb a3
  replace t0 := keepc hb t0
  replace t1 := keepc hb t1
  replace t2 := keepc hb t2
  replace t3 := keepc hb t3
  replace c0 := keepc hb c0
  replace c1 := keepc hb c1
  replace c2 := keepc hb c2
  replace c3 := keepc hb c3
  replace kp := blk_on kp hb
  replace kq := blk_on kq hb
  replace lp := Nat.lt_of_lt_of_le lp hb.size
  replace lq := Nat.lt_of_lt_of_le lq hb.size
  replace la := Nat.lt_of_lt_of_le la hb.size
  replace lt_ := Nat.lt_of_lt_of_le lt_ hb.size
  replace lc := Nat.lt_of_lt_of_le lc hb.size
  clear hb
  have lr_ := block_lt r0_
  go_wp2_with fail
  have kp : ∀ {W : World}, Below w9.heap.size w9 W → W.cell? ⟨gh, 2, none⟩ = some (.int .i64 qc) ∧ W.cell? ⟨gh, 3, none⟩ = some (.int .i64 rd) ∧ W.cell? ⟨gk, 2, none⟩ = some (.int .i64 rc) ∧ W.cell? ⟨gk, 3, none⟩ = some (.int .i64 rd) := fun h => ⟨keepc h t2, keepc h t3, keepc h r2_, keepc h r3_⟩
  refine wp_region_held_drew (S := fun V => V.cell? ⟨gh, 2, none⟩ = some (.int .i64 qc) ∧ V.cell? ⟨gh, 3, none⟩ = some (.int .i64 rd) ∧ V.cell? ⟨gk, 2, none⟩ = some (.int .i64 rc) ∧ V.cell? ⟨gk, 3, none⟩ = some (.int .i64 rd)) (by kernel_rfl) (kp (Below.refl _ _).drew) fun HL_ => ?_
  refine wpAnyH_take (i := 0) (v := .slice (some ⟨gh, 0, none⟩) 1 1) rfl (by kernel_rfl) (by kernel_rfl) (by kernel_rfl) (fun _ _ _ h => h) (Or.inl ⟨by kernel_rfl, ?_⟩) HL_ ?_
  · rintro Wl ⟨s0, s1, s2, s3⟩
    go_simp
  simp only [Act.put, List.getElem_toArray, List.getElem_cons_succ, List.getElem_cons_zero, List.setIfInBounds_toArray, List.set_cons_zero, List.set_cons_succ]
  refine wpAnyH_take (i := 1) (v := .pointer (some ⟨gh, 0, none⟩)) rfl (by kernel_rfl) (by kernel_rfl) (by kernel_rfl) (fun _ _ _ h => h) (Or.inl ⟨by kernel_rfl, ?_⟩) HL_ ?_
  · rintro Wl ⟨s0, s1, s2, s3⟩
    go_simp
  simp only [Act.put, List.getElem_toArray, List.getElem_cons_succ, List.getElem_cons_zero, List.setIfInBounds_toArray, List.set_cons_zero, List.set_cons_succ]
  refine wpAnyH_take (i := 2) (v := .pointer (some ⟨gh, 2, none⟩)) rfl (by kernel_rfl) (by kernel_rfl) (by kernel_rfl) (fun _ _ _ h => h) (Or.inl ⟨by kernel_rfl, ?_⟩) HL_ ?_
  · rintro Wl ⟨s0, s1, s2, s3⟩
    go_simp
  simp only [Act.put, List.getElem_toArray, List.getElem_cons_succ, List.getElem_cons_zero, List.setIfInBounds_toArray, List.set_cons_zero, List.set_cons_succ]
  refine wpAnyH_take (i := 3) (v := .agg #[.int .i64 qc, .int .i64 rd]) rfl (by kernel_rfl) (by kernel_rfl) (by kernel_rfl) (fun _ _ _ h => h) (Or.inl ⟨by kernel_rfl, ?_⟩) HL_ ?_
  · rintro Wl ⟨s0, s1, s2, s3⟩
    go_simp
  simp only [Act.put, List.getElem_toArray, List.getElem_cons_succ, List.getElem_cons_zero, List.setIfInBounds_toArray, List.set_cons_zero, List.set_cons_succ]
  refine wpAnyH_take (i := 4) (v := .slice (some ⟨gk, 0, none⟩) 1 1) rfl (by kernel_rfl) (by kernel_rfl) (by kernel_rfl) (fun _ _ _ h => h) (Or.inl ⟨by kernel_rfl, ?_⟩) HL_ ?_
  · rintro Wl ⟨s0, s1, s2, s3⟩
    go_simp
  simp only [Act.put, List.getElem_toArray, List.getElem_cons_succ, List.getElem_cons_zero, List.setIfInBounds_toArray, List.set_cons_zero, List.set_cons_succ]
  refine wpAnyH_take (i := 5) (v := .pointer (some ⟨gk, 0, none⟩)) rfl (by kernel_rfl) (by kernel_rfl) (by kernel_rfl) (fun _ _ _ h => h) (Or.inl ⟨by kernel_rfl, ?_⟩) HL_ ?_
  · rintro Wl ⟨s0, s1, s2, s3⟩
    go_simp
  simp only [Act.put, List.getElem_toArray, List.getElem_cons_succ, List.getElem_cons_zero, List.setIfInBounds_toArray, List.set_cons_zero, List.set_cons_succ]
  refine wpAnyH_take (i := 6) (v := .pointer (some ⟨gk, 2, none⟩)) rfl (by kernel_rfl) (by kernel_rfl) (by kernel_rfl) (fun _ _ _ h => h) (Or.inl ⟨by kernel_rfl, ?_⟩) HL_ ?_
  · rintro Wl ⟨s0, s1, s2, s3⟩
    go_simp
  simp only [Act.put, List.getElem_toArray, List.getElem_cons_succ, List.getElem_cons_zero, List.setIfInBounds_toArray, List.set_cons_zero, List.set_cons_succ]
  refine wpAnyH_take (i := 7) (v := .agg #[.int .i64 rc, .int .i64 rd]) rfl (by kernel_rfl) (by kernel_rfl) (by kernel_rfl) (fun _ _ _ h => h) (Or.inl ⟨by kernel_rfl, ?_⟩) HL_ ?_
  · rintro Wl ⟨s0, s1, s2, s3⟩
    go_simp
  simp only [Act.put, List.getElem_toArray, List.getElem_cons_succ, List.getElem_cons_zero, List.setIfInBounds_toArray, List.set_cons_zero, List.set_cons_succ]
  refine wpAnyH_ready (rs := [8, 12]) (by kernel_rfl) (by simp) ?_
  refine AllReadyH.cons (o := _) rfl (fun K hK => ?_) (AllReadyH.cons (o := _) rfl (fun K hK => ?_) AllReadyH.nil)
  · go_simp
    with_reducible refine (C5.out _).mono ?_
    rintro e_ wc ⟨rfl, hb⟩
    replace hb : Below w9.heap.size w9 wc := undrew_b hb
    refine hK.out _ _ (kp hb) fun HL_ => ?_
    clear hK K
    refine wpAnyH_take (i := 9) (v := .tuple #[.agg #[.int .i64 1, .int .i64 1], .int .i64 0]) rfl (by kernel_rfl) (by kernel_rfl) (by kernel_rfl) (fun _ _ _ h => h) (Or.inl ⟨by kernel_rfl, ?_⟩) HL_ ?_
    · rintro Wl ⟨s0, s1, s2, s3⟩
      go_simp
    simp only [Act.put, List.getElem_toArray, List.getElem_cons_succ, List.getElem_cons_zero, List.setIfInBounds_toArray, List.set_cons_zero, List.set_cons_succ]
    refine wpAnyH_take (i := 10) (v := .agg #[.int .i64 1, .int .i64 1]) rfl (by kernel_rfl) (by kernel_rfl) (by kernel_rfl) (fun _ _ _ h => h) (Or.inl ⟨by kernel_rfl, ?_⟩) HL_ ?_
    · rintro Wl ⟨s0, s1, s2, s3⟩
      go_simp
    simp only [Act.put, List.getElem_toArray, List.getElem_cons_succ, List.getElem_cons_zero, List.setIfInBounds_toArray, List.set_cons_zero, List.set_cons_succ]
    refine wpAnyH_take (i := 11) (v := .int .i64 0) rfl (by kernel_rfl) (by kernel_rfl) (by kernel_rfl) (fun _ _ _ h => h) (Or.inl ⟨by kernel_rfl, ?_⟩) HL_ ?_
    · rintro Wl ⟨s0, s1, s2, s3⟩
      go_simp
    simp only [Act.put, List.getElem_toArray, List.getElem_cons_succ, List.getElem_cons_zero, List.setIfInBounds_toArray, List.set_cons_zero, List.set_cons_succ]
    refine wpAnyH_ready (rs := [12]) (by kernel_rfl) (by simp) ?_
    refine AllReadyH.cons (o := _) rfl (fun K hK => ?_) AllReadyH.nil
    go_simp
    have hb4 := on_below hb (below_new wc (.cells #[.int .i64 0, .int .i64 0] 37))
    have hz : (wc.alloc (.cells #[.int .i64 0, .int .i64 0] 37)).heap[wc.heap.size]? = some (.cells #[.int .i64 0, .int .i64 0] 37 (0, 0)) := World.alloc_heap_new _ _
    have hg5 : w9.heap.size ≤ wc.heap.size := hb.size
    refine hK.out _ _ (kp hb4) fun HL_ => ?_
    clear hK K hb
    generalize wc.alloc (.cells #[.int .i64 0, .int .i64 0] 37) = w4 at *
    generalize wc.heap.size = g5 at *
    obtain ⟨x0, x1⟩ := cells2 hz
    have f0 := froz4 hz 0
    have f1 := froz4 hz 1
    have hb5 : Below w9.heap.size w9 ((w4.setCell ⟨g5, 0, none⟩ (.int .i64 1)).setCell ⟨g5, 1, none⟩ (.int .i64 1)) := ((hb4.setCell hg5 _).setCell hg5 _)
    have hz5 : ((w4.setCell ⟨g5, 0, none⟩ (.int .i64 1)).setCell ⟨g5, 1, none⟩ (.int .i64 1)).heap[g5]? = some (.cells #[.int .i64 1, .int .i64 1] 37 (0, 0)) := (set_cells (set_cells hz 0 _) 1 _)
    refine wpAnyH_ready (rs := [13]) (by kernel_rfl) (by simp) ?_
    refine AllReadyH.cons (o := _) rfl (fun K hK => ?_) AllReadyH.nil
    go_simp
    refine hK.out _ _ (kp hb5) fun HL_ => ?_
    clear hK K x0 f0 x1 f1 hz hb4
    generalize ((w4.setCell ⟨g5, 0, none⟩ (.int .i64 1)).setCell ⟨g5, 1, none⟩ (.int .i64 1)) = w5 at *
    refine wpAnyH_take (i := 14) (v := .int .i64 0) rfl (by kernel_rfl) (by kernel_rfl) (by kernel_rfl) (fun _ _ _ h => h) (Or.inl ⟨by kernel_rfl, ?_⟩) HL_ ?_
    · rintro Wl ⟨s0, s1, s2, s3⟩
      go_simp
    simp only [Act.put, List.getElem_toArray, List.getElem_cons_succ, List.getElem_cons_zero, List.setIfInBounds_toArray, List.set_cons_zero, List.set_cons_succ]
    refine wpAnyH_done (by kernel_rfl) ?_ _
    obtain ⟨x0, x1⟩ := cells2 hz5
    have lx := block_lt x0
    replace HB := Lib.hid (on_below HB.out hb5)
    clear HL_ kp hz5 hg5
    go_wp2_with fail
    go_ret
    exact ⟨rfl, HB.out⟩
  · go_simp
    have hb : Below w9.heap.size w9 (w9.alloc (.cells #[.int .i64 0, .int .i64 0] 37)).drew := (below_new w9 (.cells #[.int .i64 0, .int .i64 0] 37)).drew
    have hz : (w9.alloc (.cells #[.int .i64 0, .int .i64 0] 37)).drew.heap[w9.heap.size]? = some (.cells #[.int .i64 0, .int .i64 0] 37 (0, 0)) := World.alloc_heap_new _ _
    refine hK.out _ _ (kp hb) fun HL_ => ?_
    clear hK K
    generalize (w9.alloc (.cells #[.int .i64 0, .int .i64 0] 37)).drew = wc at *
    refine wpAnyH_ready (rs := [8]) (by kernel_rfl) (by simp) ?_
    refine AllReadyH.cons (o := _) rfl (fun K hK => ?_) AllReadyH.nil
    go_simp
    with_reducible refine (C5.out _).mono ?_
    rintro e_ w4 ⟨rfl, hb4⟩
    replace hz := blk_on hz hb4
    replace hb4 := on_below hb hb4
    refine hK.out _ _ (kp hb4) fun HL_ => ?_
    clear hK K hb
    obtain ⟨g5, hgg, hg5⟩ : ∃ g, w9.heap.size = g ∧ w9.heap.size ≤ g := ⟨_, rfl, Nat.le_refl _⟩
    rw [hgg] at hz ⊢
    clear hgg
    refine wpAnyH_take (i := 9) (v := .tuple #[.agg #[.int .i64 1, .int .i64 1], .int .i64 0]) rfl (by kernel_rfl) (by kernel_rfl) (by kernel_rfl) (fun _ _ _ h => h) (Or.inl ⟨by kernel_rfl, ?_⟩) HL_ ?_
    · rintro Wl ⟨s0, s1, s2, s3⟩
      go_simp
    simp only [Act.put, List.getElem_toArray, List.getElem_cons_succ, List.getElem_cons_zero, List.setIfInBounds_toArray, List.set_cons_zero, List.set_cons_succ]
    refine wpAnyH_take (i := 10) (v := .agg #[.int .i64 1, .int .i64 1]) rfl (by kernel_rfl) (by kernel_rfl) (by kernel_rfl) (fun _ _ _ h => h) (Or.inl ⟨by kernel_rfl, ?_⟩) HL_ ?_
    · rintro Wl ⟨s0, s1, s2, s3⟩
      go_simp
    simp only [Act.put, List.getElem_toArray, List.getElem_cons_succ, List.getElem_cons_zero, List.setIfInBounds_toArray, List.set_cons_zero, List.set_cons_succ]
    refine wpAnyH_take (i := 11) (v := .int .i64 0) rfl (by kernel_rfl) (by kernel_rfl) (by kernel_rfl) (fun _ _ _ h => h) (Or.inl ⟨by kernel_rfl, ?_⟩) HL_ ?_
    · rintro Wl ⟨s0, s1, s2, s3⟩
      go_simp
    simp only [Act.put, List.getElem_toArray, List.getElem_cons_succ, List.getElem_cons_zero, List.setIfInBounds_toArray, List.set_cons_zero, List.set_cons_succ]
    obtain ⟨x0, x1⟩ := cells2 hz
    have f0 := froz4 hz 0
    have f1 := froz4 hz 1
    have hb5 : Below w9.heap.size w9 ((w4.setCell ⟨g5, 0, none⟩ (.int .i64 1)).setCell ⟨g5, 1, none⟩ (.int .i64 1)) := ((hb4.setCell hg5 _).setCell hg5 _)
    have hz5 : ((w4.setCell ⟨g5, 0, none⟩ (.int .i64 1)).setCell ⟨g5, 1, none⟩ (.int .i64 1)).heap[g5]? = some (.cells #[.int .i64 1, .int .i64 1] 37 (0, 0)) := (set_cells (set_cells hz 0 _) 1 _)
    refine wpAnyH_ready (rs := [13]) (by kernel_rfl) (by simp) ?_
    refine AllReadyH.cons (o := _) rfl (fun K hK => ?_) AllReadyH.nil
    go_simp
    refine hK.out _ _ (kp hb5) fun HL_ => ?_
    clear hK K x0 f0 x1 f1 hz hb4
    generalize ((w4.setCell ⟨g5, 0, none⟩ (.int .i64 1)).setCell ⟨g5, 1, none⟩ (.int .i64 1)) = w5 at *
    refine wpAnyH_take (i := 14) (v := .int .i64 0) rfl (by kernel_rfl) (by kernel_rfl) (by kernel_rfl) (fun _ _ _ h => h) (Or.inl ⟨by kernel_rfl, ?_⟩) HL_ ?_
    · rintro Wl ⟨s0, s1, s2, s3⟩
      go_simp
    simp only [Act.put, List.getElem_toArray, List.getElem_cons_succ, List.getElem_cons_zero, List.setIfInBounds_toArray, List.set_cons_zero, List.set_cons_succ]
    refine wpAnyH_done (by kernel_rfl) ?_ _
    obtain ⟨x0, x1⟩ := cells2 hz5
    have lx := block_lt x0
    replace HB := Lib.hid (on_below HB.out hb5)
    clear HL_ kp hz5 hg5
    go_wp2_with fail
    go_ret
    exact ⟨rfl, HB.out⟩
theorem ok_one {ex ey ez x y z : Int} : (Tok [⟨x, y, z, 1⟩] ∧ Sut ex ey ez [⟨x, y, z, 1⟩]) ↔ (vv x y z = true ∧ vv ex ey ez = true ∧ ¬ (x = ex ∧ y = ey ∧ z = ez)) := by
  constructor
  · rintro ⟨h1, h2⟩
    have hw := wy_of h2 h1 (k := 0) (by simp)
    exact ⟨vv_iff.2 hw.p, vv_iff.2 hw.e, fun e => hw.n ⟨e.1.symm, e.2.1.symm, e.2.2.symm⟩⟩
  · rintro ⟨h1, h2, h3⟩
    exact ⟨tok_1 h1, sut_one h2 h3⟩
theorem wrg_sym {ex ey ez x y z E : Int} {L : List Bv} (h : Wrg ex ey ez [⟨x, y, z, 1⟩] L E) : Wrg x y z [⟨ex, ey, ez, 1⟩] L E := by
  have hs : (Tok [⟨x, y, z, 1⟩] ∧ Sut ex ey ez [⟨x, y, z, 1⟩]) ↔ (Tok [⟨ex, ey, ez, 1⟩] ∧ Sut x y z [⟨ex, ey, ez, 1⟩]) := by
    rw [ok_one, ok_one]
    exact ⟨fun ⟨a, b, c⟩ => ⟨b, a, fun e => c ⟨e.1.symm, e.2.1.symm, e.2.2.symm⟩⟩, fun ⟨a, b, c⟩ => ⟨b, a, fun e => c ⟨e.1.symm, e.2.1.symm, e.2.2.symm⟩⟩⟩
  rcases h with ⟨h, rfl⟩ | ⟨h1, h2, h, rfl⟩ | ⟨h1, h2, h3, h4, h5, rfl⟩
  · exact Or.inl ⟨by simpa using h, rfl⟩
  · refine Or.inr (Or.inl ⟨by simp, h2, fun k => h ?_, rfl⟩)
    obtain ⟨a, b⟩ := hs.2 ⟨k.1, k.2.1⟩
    exact ⟨a, b, k.2.2⟩
  · obtain ⟨a, b⟩ := hs.1 ⟨h3, h4⟩
    exact Or.inr (Or.inr ⟨by simp, h2, a, b, h5, rfl⟩)
theorem law_any (ex ey ez x y z : Int) (bA : Option Addr) (bC : Nat) (b : List Bv) (w : World) (hb : LB w bA bC b) :
    Calls Try.prog 7 #[.agg #[.int .i64 ex, .int .i64 ey, .int .i64 ez], .agg #[.int .i64 x, .int .i64 y, .int .i64 z], .slice bA b.length bC] w fun e_ w' => e_ = .returned (.bool true) ∧ Below w.heap.size w w' := by
  have h5 : b.length ≤ 9223372036854775807 := Nat.le_trans hb.cap.1 hb.cap.2
  have h6 := hb.len
  by_cases hf : Few 0 b
  · obtain ⟨E, hE⟩ := wrg_ex ex ey ez [⟨x, y, z, 1⟩] b
    by_cases h0 : E = 0
    · subst h0
      obtain ⟨ht, hs, hbd⟩ := wrg_zero hE
      have hw : Wy ex ey ez x y z := wy_of hs ht (k := 0) (by simp)
      have hw2 : Wy x y z ex ey ez := ⟨hw.p, hw.e, fun e => hw.n ⟨e.1.symm, e.2.1.symm, e.2.2.symm⟩⟩
      have hfr : frs x y z ex ey ez b = frs ex ey ez x y z b := frs_congr fun j _ => hit_rev
      by_cases hn : frs ex ey ez x y z b = b.length
      · exact back_2 ex ey ez x y z bA bC b h5 h6 hf hE (wrg_sym hE) 0 1 0 1 (lin_none hn 0) (lin_none (by rw [hfr]; exact hn) 0) w hb.sl
      · have hl : frs ex ey ez x y z b < b.length := Nat.lt_of_le_of_ne frs_le hn
        have g1 := lin_hit hl 0
        have g2 := lin_hit (ex := x) (ey := y) (ez := z) (x := ex) (y := ey) (z := ez) (L := b) (by rw [hfr]; exact hl) 0
        rw [hfr] at g2
        have k1 := rng_ok hw hbd hl
        have k2 := rng_ok hw2 hbd hl
        have hh := frs_hit hl
        have m1 := med_in k1 (hitB_lt hh)
        have m2 := med_in k2 (hitB_lt (show hitB (rng x y z ex ey ez (gdB b (frs ex ey ez x y z b))) = true from (hit_rev.trans hh)))
        obtain ⟨r1, r2⟩ := med_rev k1 k2
        exact back_3 ex ey ez x y z bA bC b h5 h6 _ hf hE (wrg_sym hE) _ _ _ _ g1 g2 m1.1 (by rw [← r1]; exact m2.1) r1 (by omega) w hb.sl
    · exact back_1 ex ey ez x y z bA bC b h5 h6 hf E h0 hE (wrg_sym hE) w hb.sl
  · exact back_0 ex ey ez x y z bA bC b h5 h6 hf w hb.sl
/-! ### The row -/
open Go.ChangeShapes Go.WideShapes Go.ChangeAt Go.Joins
theorem own : ownKnob Try.prog.godebug = none := by kernel_rfl
noncomputable def laidWorld (os : Os) : World := World.holding Try.prog os ⟨#[], #[], []⟩
theorem laidWorld_met (os : Os) (args : Array Value) : laidMet Try.prog [] ((laidWorld os).forCall (fun _ _ => 0) ⟨#[], args, []⟩).memory :=
  laidMet_of_run' 8 (by kernel_rfl) (by kernel_rfl)

set_option maxRecDepth 100000 in
theorem contract (H : Type) (enc : TypeId × Value → H) (W : World) (base : Nat) (args : Array Value) (ds gs : List (DataW H)) (before : List MemPlace)
    (hval : ∀ (j : Nat) t v, Try.f7.params[j]? = some t → args[j]? = some v → Value.okWide Try.prog W .any base t v)
    (hW : DataW.Whole enc Try.prog Try.f7.params.toList Rows.sightBackSpec.vars false W args.toList ds gs before) :
    Calls Try.prog 7 args W fun e W' => ∃ v, e = .returned v ∧ Rows.sightBackSpec.post enc Try.prog Try.f7 false true false false W args v W' := by
  have hW' := hW
  have hold : ∀ q ∈ before, decide (q.block < W.heap.size) = true := fun q hq => by simpa using hW.lt q hq
  obtain ⟨p, q, hA0, hV, rfl, hfz, hnd⟩ := hW
  have hA : DataW.TrodAll enc Try.prog W 0 (fun _ => true) true Try.f7.params.toList args.toList ds p := hA0
  rw [Try.params7] at hA hval
  obtain ⟨v0, vs0, d0, ds0, p0, q0, hargs, rfl, rfl, h0, r0⟩ := trodAll_cons hA
  obtain ⟨v1, vs1, d1, ds1, p1, q1, rfl, rfl, rfl, h1, r1⟩ := trodAll_cons r0
  obtain ⟨v2, vs2, d2, ds2, p2, q2, rfl, rfl, rfl, h2, r2⟩ := trodAll_cons r1
  obtain ⟨rfl, rfl, rfl⟩ := trodAll_nil r2
  obtain rfl : args = #[v0, v1, v2] := Array.toList_inj.1 hargs
  obtain ⟨rfl, rfl⟩ := trodVars_none hV
  obtain ⟨ex, ey, ez, rfl, rfl, rfl, iex, iey, iez⟩ := open_vec (hval 0 26 v0 rfl rfl) h0
  obtain ⟨tx, ty, tz, rfl, rfl, rfl, itx, ity, itz⟩ := open_vec (hval 1 26 v1 rfl rfl) h1
  obtain ⟨bA, bC, b, rfl, lb, shutb⟩ := open_bodies (hval 2 46 v2 rfl rfl) h2
  clear hA0
  refine (law_any ex ey ez tx ty tz bA bC b W lb).mono fun e W' ⟨he, bel⟩ => ?_
  subst he
  exact ⟨_, rfl, _, _, _, [], _, [], hW', trodAll_mk1 (shut_bool Try.underlying4 _), (trodAll_cons_mk (shut_vec iex iey iez) (trodAll_cons_mk (shut_vec itx ity itz) (trodAll_cons_mk (shutb W' (fun b => decide (b < W.heap.size)) bel (fun q hq => hold q (by simp [hq]))) trodAll_mk0))), rfl, bel.frame _, fun h => by cases h⟩

theorem reads (os : Os) {H : Type} (enc : TypeId × Value → H) : ∃ places, DataW.whole enc Try.prog ((laidWorld os).forCall (fun _ _ => 0) ⟨#[], #[.agg #[.int .i64 0, .int .i64 0, .int .i64 0], .agg #[.int .i64 0, .int .i64 0, .int .i64 0], .slice none 0 0], []⟩).memory Try.f7.params.toList Rows.sightBackSpec.vars false (#[.agg #[.int .i64 0, .int .i64 0, .int .i64 0], .agg #[.int .i64 0, .int .i64 0, .int .i64 0], .slice none 0 0] : Array Value).toList 8 = some ([.agg [.lit (.int .i64 0), .lit (.int .i64 0), .lit (.int .i64 0)], .agg [.lit (.int .i64 0), .lit (.int .i64 0), .lit (.int .i64 0)], .nil], [], places) :=
  ⟨[], by kernel_rfl⟩

set_option maxRecDepth 100000 in
theorem lifted (os : Os) (started : os.Started) (H : Type) (enc : TypeId × Value → H) (F : Stop.Interp) :
    ReturnsInHanded {} Try.checked os 7 .any ((OpenSpec.ofChange Rows.sightBackSpec).preRow enc Try.prog Try.f7 Rows.sightBackRow.domain false Rows.sightBackRow.laid) (((OpenSpec.ofChange Rows.sightBackSpec).at F).post enc Try.prog Try.f7 false true false false) := by
  obtain ⟨places, hx⟩ := reads os enc
  refine returnsInHanded_of_row (C := Try.checked) (s := OpenSpec.ofChange Rows.sightBackSpec) own started (by kernel_rfl) Try.func7
    (witness_row_atRef (enc := enc) (C := Try.checked) false (laidWorld os) #[.agg #[.int .i64 0, .int .i64 0, .int .i64 0], .agg #[.int .i64 0, .int .i64 0, .int .i64 0], .slice none 0 0] rfl (by kernel_rfl) (by kernel_rfl) (by kernel_rfl)
      (OpenSpec.preRow_of_cond 8 hx (by kernel_rfl) (fun k hk => by cases hk) (by kernel_rfl) (laidWorld_met os _))) ?_
  intro W base args ds gs before hval hW _ hcond _ hL hsh _
  exact contract H enc W base args ds gs before hval hW

/-- The statement. -/
theorem said : Rows.SightBackSaid :=
  OpenClaim.holds_of_cond 7 Try.f7 rfl rfl rfl rfl rfl rfl rfl ⟨rfl, rfl, rfl, rfl, rfl⟩ rfl rfl rfl rfl rfl (by kernel_rfl) Try.func7 (by kernel_rfl)
    (of_decide_eq_true (by kernel_rfl)) (by unfold Func.isWrapper; first | (rw [if_pos (by decide +kernel)]; kernel_rfl) | (rw [if_neg (by decide +kernel)]; exact ⟨rfl, rfl⟩))
    (fun os started H enc _ F => by rw [OpenClaim.pre_eq_preRow]; exact lifted os started H enc F)
end Go.Proofs.Ytehlplejcaofoaa.LawBack
