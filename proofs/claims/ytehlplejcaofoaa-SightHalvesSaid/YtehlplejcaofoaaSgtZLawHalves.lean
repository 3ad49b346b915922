/-
  SightHalves.
-/
import Derived.Test.YtehlplejcaofoaaSgtZD
import Derived.Test.YtehlplejcaofoaaSgtZE
import Derived.Test.YtehlplejcaofoaaSgtZV
import Derived.Test.YtehlplejcaofoaaRows
import Derived.ProofKit
import Derived.OpenShut
import Derived.Deep.DeepHandedRow
import Derived.Deep.DeepWitnessRowRef
import Derived.MakeChecks
import Derived.Deep.DeepCutAuto
namespace Go.Proofs.Ytehlplejcaofoaa.LawHalves
open Go.RowKit Go.Sort
open Go.RowKit (Below)
set_option linter.unusedVariables false
set_option linter.unusedSimpArgs false
attribute [local go_sem] Oper.semAt_some

set_option maxRecDepth 100000 in
set_option maxHeartbeats 4000000 in
theorem halves_0 (ex ey ez hx hy hz : Int) (bA : Option Addr) (bC : Nat) (b : List Bv) (h5 : b.length ≤ 9223372036854775807) (h6 : ∀ k, k < b.length → (gdB b k).xs.length ≤ 9223372036854775807) (hf : ¬ Few 0 b) (w : World) (hm : BdS w bA b) :
    Calls Try.prog 11 #[.agg #[.int .i64 ex, .int .i64 ey, .int .i64 ez], .agg #[.int .i64 hx, .int .i64 hy, .int .i64 hz], .slice bA b.length bC] w fun e_ w' => e_ = .returned (.bool true) ∧ Below w.heap.size w w' := by
  have HF := Lib.hid (fun W (h : BdS W bA b) => few9_is none 0 [] bA bC b (by simp) h5 h6 false (by simp [hf]) W h)
  simp only [List.length_nil] at HF
  have HM := Lib.hid hm
  clear hm
  go_enter Try.func11, Try.ntmps11
  go_wp2_with fail
  obtain ⟨w1, hw1⟩ : ∃ V, ((w.alloc (.cells #[.int .i64 ex, .int .i64 ey, .int .i64 ez] 26)).alloc (.cells #[.int .i64 hx, .int .i64 hy, .int .i64 hz] 26)) = V := ⟨_, rfl⟩
  obtain ⟨hB_, kp, kq⟩ := boxes2 _ _ _ hw1
  rw [hw1]
  clear hw1
  have HB := Lib.hid hB_
  clear hB_
  have p0 := (cells3 kp).1
  have p1 := (cells3 kp).2.1
  have p2 := (cells3 kp).2.2
  have lp := block_lt p0
  have q0 := (cells3 kq).1
  have q1 := (cells3 kq).2.1
  have q2 := (cells3 kq).2.2
  have lq := block_lt q0
  replace HM := Lib.hid (HM.out.below HB.out)
  with_reducible refine (head9_any _).mono ?_
  rintro e_ w2 ⟨rfl, hb⟩
  replace HB := Lib.hid (on_below HB.out hb)
  replace HM := Lib.hid (HM.out.below hb)
  replace p0 := keepc hb p0
  replace p1 := keepc hb p1
  replace p2 := keepc hb p2
  replace q0 := keepc hb q0
  replace q1 := keepc hb q1
  replace q2 := keepc hb q2
  replace kp := blk_on kp hb
  replace kq := blk_on kq hb
  replace lp := Nat.lt_of_lt_of_le lp hb.size
  replace lq := Nat.lt_of_lt_of_le lq hb.size
  clear hb
  go_wp2_with fail
  with_reducible refine (HF.out _ HM.out).mono ?_
  rintro e_ w3 ⟨rfl, hb⟩
  replace HB := Lib.hid (on_below HB.out hb)
  replace HM := Lib.hid (HM.out.below hb)
  replace p0 := keepc hb p0
  replace p1 := keepc hb p1
  replace p2 := keepc hb p2
  replace q0 := keepc hb q0
  replace q1 := keepc hb q1
  replace q2 := keepc hb q2
  replace kp := blk_on kp hb
  replace kq := blk_on kq hb
  replace lp := Nat.lt_of_lt_of_le lp hb.size
  replace lq := Nat.lt_of_lt_of_le lq hb.size
  clear hb
  go_wp2_with fail
  go_ret
  exact ⟨rfl, HB.out⟩
set_option maxRecDepth 100000 in
set_option maxHeartbeats 4000000 in
theorem halves_1 (ex ey ez hx hy hz : Int) (bA : Option Addr) (bC : Nat) (b : List Bv) (h5 : b.length ≤ 9223372036854775807) (h6 : ∀ k, k < b.length → (gdB b k).xs.length ≤ 9223372036854775807) (hf : Few 0 b) (hv : vv ex ey ez = false) (w : World) (hm : BdS w bA b) :
    Calls Try.prog 11 #[.agg #[.int .i64 ex, .int .i64 ey, .int .i64 ez], .agg #[.int .i64 hx, .int .i64 hy, .int .i64 hz], .slice bA b.length bC] w fun e_ w' => e_ = .returned (.bool true) ∧ Below w.heap.size w w' := by
  have HF := Lib.hid (fun W (h : BdS W bA b) => few9_is none 0 [] bA bC b (by simp) h5 h6 true (by simp [hf]) W h)
  simp only [List.length_nil] at HF
  have HM := Lib.hid hm
  clear hm
  go_enter Try.func11, Try.ntmps11
  go_wp2_with fail
  obtain ⟨w1, hw1⟩ : ∃ V, ((w.alloc (.cells #[.int .i64 ex, .int .i64 ey, .int .i64 ez] 26)).alloc (.cells #[.int .i64 hx, .int .i64 hy, .int .i64 hz] 26)) = V := ⟨_, rfl⟩
  obtain ⟨hB_, kp, kq⟩ := boxes2 _ _ _ hw1
  rw [hw1]
  clear hw1
  have HB := Lib.hid hB_
  clear hB_
  have p0 := (cells3 kp).1
  have p1 := (cells3 kp).2.1
  have p2 := (cells3 kp).2.2
  have lp := block_lt p0
  have q0 := (cells3 kq).1
  have q1 := (cells3 kq).2.1
  have q2 := (cells3 kq).2.2
  have lq := block_lt q0
  replace HM := Lib.hid (HM.out.below HB.out)
  with_reducible refine (head9_any _).mono ?_
  rintro e_ w2 ⟨rfl, hb⟩
  replace HB := Lib.hid (on_below HB.out hb)
  replace HM := Lib.hid (HM.out.below hb)
  replace p0 := keepc hb p0
  replace p1 := keepc hb p1
  replace p2 := keepc hb p2
  replace q0 := keepc hb q0
  replace q1 := keepc hb q1
  replace q2 := keepc hb q2
  replace kp := blk_on kp hb
  replace kq := blk_on kq hb
  replace lp := Nat.lt_of_lt_of_le lp hb.size
  replace lq := Nat.lt_of_lt_of_le lq hb.size
  clear hb
  go_wp2_with fail
  with_reducible refine (HF.out _ HM.out).mono ?_
  rintro e_ w3 ⟨rfl, hb⟩
  replace HB := Lib.hid (on_below HB.out hb)
  replace HM := Lib.hid (HM.out.below hb)
  replace p0 := keepc hb p0
  replace p1 := keepc hb p1
  replace p2 := keepc hb p2
  replace q0 := keepc hb q0
  replace q1 := keepc hb q1
  replace q2 := keepc hb q2
  replace kp := blk_on kp hb
  replace kq := blk_on kq hb
  replace lp := Nat.lt_of_lt_of_le lp hb.size
  replace lq := Nat.lt_of_lt_of_le lq hb.size
  clear hb
  go_wp2_with fail
  with_reducible refine (v7valid_is ex ey ez false hv _).mono ?_
  rintro e_ w4 ⟨rfl, hb⟩
  replace HB := Lib.hid (on_below HB.out hb)
  replace HM := Lib.hid (HM.out.below hb)
  replace p0 := keepc hb p0
  replace p1 := keepc hb p1
  replace p2 := keepc hb p2
  replace q0 := keepc hb q0
  replace q1 := keepc hb q1
  replace q2 := keepc hb q2
  replace kp := blk_on kp hb
  replace kq := blk_on kq hb
  replace lp := Nat.lt_of_lt_of_le lp hb.size
  replace lq := Nat.lt_of_lt_of_le lq hb.size
  clear hb
  go_wp2_with fail
  go_ret
  exact ⟨rfl, HB.out⟩
set_option maxRecDepth 100000 in
set_option maxHeartbeats 4000000 in
theorem halves_2 (ex ey ez hx hy hz : Int) (bA : Option Addr) (bC : Nat) (b : List Bv) (h5 : b.length ≤ 9223372036854775807) (h6 : ∀ k, k < b.length → (gdB b k).xs.length ≤ 9223372036854775807) (hf : Few 0 b) (hv : vv ex ey ez = true) (hu : vv hx hy hz = false) (w : World) (hm : BdS w bA b) :
    Calls Try.prog 11 #[.agg #[.int .i64 ex, .int .i64 ey, .int .i64 ez], .agg #[.int .i64 hx, .int .i64 hy, .int .i64 hz], .slice bA b.length bC] w fun e_ w' => e_ = .returned (.bool true) ∧ Below w.heap.size w w' := by
  have HF := Lib.hid (fun W (h : BdS W bA b) => few9_is none 0 [] bA bC b (by simp) h5 h6 true (by simp [hf]) W h)
  simp only [List.length_nil] at HF
  have HM := Lib.hid hm
  clear hm
  go_enter Try.func11, Try.ntmps11
  go_wp2_with fail
  obtain ⟨w1, hw1⟩ : ∃ V, ((w.alloc (.cells #[.int .i64 ex, .int .i64 ey, .int .i64 ez] 26)).alloc (.cells #[.int .i64 hx, .int .i64 hy, .int .i64 hz] 26)) = V := ⟨_, rfl⟩
  obtain ⟨hB_, kp, kq⟩ := boxes2 _ _ _ hw1
  rw [hw1]
  clear hw1
  have HB := Lib.hid hB_
  clear hB_
  have p0 := (cells3 kp).1
  have p1 := (cells3 kp).2.1
  have p2 := (cells3 kp).2.2
  have lp := block_lt p0
  have q0 := (cells3 kq).1
  have q1 := (cells3 kq).2.1
  have q2 := (cells3 kq).2.2
  have lq := block_lt q0
  replace HM := Lib.hid (HM.out.below HB.out)
  with_reducible refine (head9_any _).mono ?_
  rintro e_ w2 ⟨rfl, hb⟩
  replace HB := Lib.hid (on_below HB.out hb)
  replace HM := Lib.hid (HM.out.below hb)
  replace p0 := keepc hb p0
  replace p1 := keepc hb p1
  replace p2 := keepc hb p2
  replace q0 := keepc hb q0
  replace q1 := keepc hb q1
  replace q2 := keepc hb q2
  replace kp := blk_on kp hb
  replace kq := blk_on kq hb
  replace lp := Nat.lt_of_lt_of_le lp hb.size
  replace lq := Nat.lt_of_lt_of_le lq hb.size
  clear hb
  go_wp2_with fail
  with_reducible refine (HF.out _ HM.out).mono ?_
  rintro e_ w3 ⟨rfl, hb⟩
  replace HB := Lib.hid (on_below HB.out hb)
  replace HM := Lib.hid (HM.out.below hb)
  replace p0 := keepc hb p0
  replace p1 := keepc hb p1
  replace p2 := keepc hb p2
  replace q0 := keepc hb q0
  replace q1 := keepc hb q1
  replace q2 := keepc hb q2
  replace kp := blk_on kp hb
  replace kq := blk_on kq hb
  replace lp := Nat.lt_of_lt_of_le lp hb.size
  replace lq := Nat.lt_of_lt_of_le lq hb.size
  clear hb
  go_wp2_with fail
  with_reducible refine (v7valid_is ex ey ez true hv _).mono ?_
  rintro e_ w4 ⟨rfl, hb⟩
  replace HB := Lib.hid (on_below HB.out hb)
  replace HM := Lib.hid (HM.out.below hb)
  replace p0 := keepc hb p0
  replace p1 := keepc hb p1
  replace p2 := keepc hb p2
  replace q0 := keepc hb q0
  replace q1 := keepc hb q1
  replace q2 := keepc hb q2
  replace kp := blk_on kp hb
  replace kq := blk_on kq hb
  replace lp := Nat.lt_of_lt_of_le lp hb.size
  replace lq := Nat.lt_of_lt_of_le lq hb.size
  clear hb
  go_wp2_with fail
  with_reducible refine (v7valid_is hx hy hz false hu _).mono ?_
  rintro e_ w5 ⟨rfl, hb⟩
  replace HB := Lib.hid (on_below HB.out hb)
  replace HM := Lib.hid (HM.out.below hb)
  replace p0 := keepc hb p0
  replace p1 := keepc hb p1
  replace p2 := keepc hb p2
  replace q0 := keepc hb q0
  replace q1 := keepc hb q1
  replace q2 := keepc hb q2
  replace kp := blk_on kp hb
  replace kq := blk_on kq hb
  replace lp := Nat.lt_of_lt_of_le lp hb.size
  replace lq := Nat.lt_of_lt_of_le lq hb.size
  clear hb
  go_wp2_with fail
  go_ret
  exact ⟨rfl, HB.out⟩
set_option maxRecDepth 100000 in
set_option maxHeartbeats 4000000 in
theorem halves_3 (ex ey ez hx hy hz : Int) (bA : Option Addr) (bC : Nat) (b : List Bv) (h5 : b.length ≤ 9223372036854775807) (h6 : ∀ k, k < b.length → (gdB b k).xs.length ≤ 9223372036854775807) (hf : Few 0 b) (hv : vv ex ey ez = true) (hu : vv hx hy hz = true) (n E : Int) (h0 : E ≠ 0) (h1 : FstR ex ey ez (2 * hx - ex) (2 * hy - ey) (2 * hz - ez) b n E) (w : World) (hm : BdS w bA b) :
    Calls Try.prog 11 #[.agg #[.int .i64 ex, .int .i64 ey, .int .i64 ez], .agg #[.int .i64 hx, .int .i64 hy, .int .i64 hz], .slice bA b.length bC] w fun e_ w' => e_ = .returned (.bool true) ∧ Below w.heap.size w w' := by
  have HF := Lib.hid (fun W (h : BdS W bA b) => few9_is none 0 [] bA bC b (by simp) h5 h6 true (by simp [hf]) W h)
  simp only [List.length_nil] at HF
  have hbs : b.length ≤ 60 → Bsm b := fun _ k hk => by have := hf.2.2 k hk; omega
  have C1 := Lib.hid (fun W (h : BdS W bA b) => first_is ex ey ez (2 * hx - ex) (2 * hy - ey) (2 * hz - ez) bA bC b h5 n E h1 hbs W h)
  have z0 : (E != 0) = true := by simp [h0]
  have v3 := vv_iff.1 hv
  have u3 := vv_iff.1 hu
  obtain ⟨⟨_, _⟩, ⟨_, _⟩, ⟨_, _⟩⟩ := v3
  obtain ⟨⟨_, _⟩, ⟨_, _⟩, ⟨_, _⟩⟩ := u3
  clear hbs hf h0 h1
  have HM := Lib.hid hm
  clear hm
  go_enter Try.func11, Try.ntmps11
  go_wp2_with fail
  obtain ⟨w1, hw1⟩ : ∃ V, ((w.alloc (.cells #[.int .i64 ex, .int .i64 ey, .int .i64 ez] 26)).alloc (.cells #[.int .i64 hx, .int .i64 hy, .int .i64 hz] 26)) = V := ⟨_, rfl⟩
  obtain ⟨hB_, kp, kq⟩ := boxes2 _ _ _ hw1
  rw [hw1]
  clear hw1
  have HB := Lib.hid hB_
  clear hB_
  have p0 := (cells3 kp).1
  have p1 := (cells3 kp).2.1
  have p2 := (cells3 kp).2.2
  have lp := block_lt p0
  have q0 := (cells3 kq).1
  have q1 := (cells3 kq).2.1
  have q2 := (cells3 kq).2.2
  have lq := block_lt q0
  replace HM := Lib.hid (HM.out.below HB.out)
  with_reducible refine (head9_any _).mono ?_
  rintro e_ w2 ⟨rfl, hb⟩
  replace HB := Lib.hid (on_below HB.out hb)
  replace HM := Lib.hid (HM.out.below hb)
  replace p0 := keepc hb p0
  replace p1 := keepc hb p1
  replace p2 := keepc hb p2
  replace q0 := keepc hb q0
  replace q1 := keepc hb q1
  replace q2 := keepc hb q2
  replace kp := blk_on kp hb
  replace kq := blk_on kq hb
  replace lp := Nat.lt_of_lt_of_le lp hb.size
  replace lq := Nat.lt_of_lt_of_le lq hb.size
  clear hb
  go_wp2_with fail
  with_reducible refine (HF.out _ HM.out).mono ?_
  rintro e_ w3 ⟨rfl, hb⟩
  replace HB := Lib.hid (on_below HB.out hb)
  replace HM := Lib.hid (HM.out.below hb)
  replace p0 := keepc hb p0
  replace p1 := keepc hb p1
  replace p2 := keepc hb p2
  replace q0 := keepc hb q0
  replace q1 := keepc hb q1
  replace q2 := keepc hb q2
  replace kp := blk_on kp hb
  replace kq := blk_on kq hb
  replace lp := Nat.lt_of_lt_of_le lp hb.size
  replace lq := Nat.lt_of_lt_of_le lq hb.size
  clear hb
  go_wp2_with fail
  with_reducible refine (v7valid_is ex ey ez true hv _).mono ?_
  rintro e_ w4 ⟨rfl, hb⟩
  replace HB := Lib.hid (on_below HB.out hb)
  replace HM := Lib.hid (HM.out.below hb)
  replace p0 := keepc hb p0
  replace p1 := keepc hb p1
  replace p2 := keepc hb p2
  replace q0 := keepc hb q0
  replace q1 := keepc hb q1
  replace q2 := keepc hb q2
  replace kp := blk_on kp hb
  replace kq := blk_on kq hb
  replace lp := Nat.lt_of_lt_of_le lp hb.size
  replace lq := Nat.lt_of_lt_of_le lq hb.size
  clear hb
  go_wp2_with fail
  with_reducible refine (v7valid_is hx hy hz true hu _).mono ?_
  rintro e_ w5 ⟨rfl, hb⟩
  replace HB := Lib.hid (on_below HB.out hb)
  replace HM := Lib.hid (HM.out.below hb)
  replace p0 := keepc hb p0
  replace p1 := keepc hb p1
  replace p2 := keepc hb p2
  replace q0 := keepc hb q0
  replace q1 := keepc hb q1
  replace q2 := keepc hb q2
  replace kp := blk_on kp hb
  replace kq := blk_on kq hb
  replace lp := Nat.lt_of_lt_of_le lp hb.size
  replace lq := Nat.lt_of_lt_of_le lq hb.size
  clear hb
  go_wp2_with fail
  have t0 : World.cell? (w5.alloc (.cells #[.int .i64 (2 * hx - ex), .int .i64 (2 * hy - ey), .int .i64 (2 * hz - ez)] 26)) ⟨w5.heap.size, 0, none⟩ = some (.int .i64 (2 * hx - ex)) := by simp [go_sem]
  have t1 : World.cell? (w5.alloc (.cells #[.int .i64 (2 * hx - ex), .int .i64 (2 * hy - ey), .int .i64 (2 * hz - ez)] 26)) ⟨w5.heap.size, 1, none⟩ = some (.int .i64 (2 * hy - ey)) := by simp [go_sem]
  have t2 : World.cell? (w5.alloc (.cells #[.int .i64 (2 * hx - ex), .int .i64 (2 * hy - ey), .int .i64 (2 * hz - ez)] 26)) ⟨w5.heap.size, 2, none⟩ = some (.int .i64 (2 * hz - ez)) := by simp [go_sem]
  have lt : w5.heap.size < (w5.alloc (.cells #[.int .i64 (2 * hx - ex), .int .i64 (2 * hy - ey), .int .i64 (2 * hz - ez)] 26)).heap.size := by simp
  have hb : Below w5.heap.size w5 (w5.alloc (.cells #[.int .i64 (2 * hx - ex), .int .i64 (2 * hy - ey), .int .i64 (2 * hz - ez)] 26)) := below_new _ _
  generalize w5.alloc (.cells #[.int .i64 (2 * hx - ex), .int .i64 (2 * hy - ey), .int .i64 (2 * hz - ez)] 26) = w6 at *
  replace HB := Lib.hid (on_below HB.out hb)
  replace HM := Lib.hid (HM.out.below hb)
  replace p0 := keepc hb p0
  replace p1 := keepc hb p1
  replace p2 := keepc hb p2
  replace q0 := keepc hb q0
  replace q1 := keepc hb q1
  replace q2 := keepc hb q2
  replace kp := blk_on kp hb
  replace kq := blk_on kq hb
  replace lp := Nat.lt_of_lt_of_le lp hb.size
  replace lq := Nat.lt_of_lt_of_le lq hb.size
  clear hb
  generalize w5.heap.size = gt at *
  with_reducible refine (C1.out _ HM.out).mono ?_
  rintro e_ w7 ⟨rfl, hb⟩
  replace HB := Lib.hid (on_below HB.out hb)
  replace HM := Lib.hid (HM.out.below hb)
  replace p0 := keepc hb p0
  replace p1 := keepc hb p1
  replace p2 := keepc hb p2
  replace q0 := keepc hb q0
  replace q1 := keepc hb q1
  replace q2 := keepc hb q2
  replace t0 := keepc hb t0
  replace t1 := keepc hb t1
  replace t2 := keepc hb t2
  replace kp := blk_on kp hb
  replace kq := blk_on kq hb
  replace lp := Nat.lt_of_lt_of_le lp hb.size
  replace lq := Nat.lt_of_lt_of_le lq hb.size
  replace lt := Nat.lt_of_lt_of_le lt hb.size
  clear hb
  go_wp2_with fail
  go_ret
  exact ⟨rfl, HB.out⟩
set_option maxRecDepth 100000 in
set_option maxHeartbeats 4000000 in
theorem halves_4 (ex ey ez hx hy hz : Int) (bA : Option Addr) (bC : Nat) (b : List Bv) (h5 : b.length ≤ 9223372036854775807) (h6 : ∀ k, k < b.length → (gdB b k).xs.length ≤ 9223372036854775807) (hf : Few 0 b) (hv : vv ex ey ez = true) (hu : vv hx hy hz = true) (n m l : Int) (h1 : FstR ex ey ez (2 * hx - ex) (2 * hy - ey) (2 * hz - ez) b n 0) (h2 : FstR ex ey ez hx hy hz b m 0) (h3 : FstR hx hy hz (2 * hx - ex) (2 * hy - ey) (2 * hz - ez) b l 0) (hn : n = -1 ↔ m = -1 ∧ l = -1) (w : World) (hm : BdS w bA b) :
    Calls Try.prog 11 #[.agg #[.int .i64 ex, .int .i64 ey, .int .i64 ez], .agg #[.int .i64 hx, .int .i64 hy, .int .i64 hz], .slice bA b.length bC] w fun e_ w' => e_ = .returned (.bool true) ∧ Below w.heap.size w w' := by
  have HF := Lib.hid (fun W (h : BdS W bA b) => few9_is none 0 [] bA bC b (by simp) h5 h6 true (by simp [hf]) W h)
  simp only [List.length_nil] at HF
  have hbs : b.length ≤ 60 → Bsm b := fun _ k hk => by have := hf.2.2 k hk; omega
  have C1 := Lib.hid (fun W (h : BdS W bA b) => first_is ex ey ez (2 * hx - ex) (2 * hy - ey) (2 * hz - ez) bA bC b h5 n 0 h1 hbs W h)
  have C2 := Lib.hid (fun W (h : BdS W bA b) => first_is ex ey ez hx hy hz bA bC b h5 m 0 h2 hbs W h)
  have C3 := Lib.hid (fun W (h : BdS W bA b) => first_is hx hy hz (2 * hx - ex) (2 * hy - ey) (2 * hz - ez) bA bC b h5 l 0 h3 hbs W h)
  have z0 : ((0 : Int) != 0) = false := rfl
  have z1 : ((0 : Int) == 0) = true := rfl
  have v3 := vv_iff.1 hv
  have u3 := vv_iff.1 hu
  obtain ⟨⟨_, _⟩, ⟨_, _⟩, ⟨_, _⟩⟩ := v3
  obtain ⟨⟨_, _⟩, ⟨_, _⟩, ⟨_, _⟩⟩ := u3
  have HX := Lib.hid (show ((n == -1) = true ∧ (m == -1) = true ∧ (l == -1) = true) ∨ ((n == -1) = false ∧ (m == -1) = true ∧ (l == -1) = false) ∨ ((n == -1) = false ∧ (m == -1) = false ∧ (l == -1) = true) ∨ ((n == -1) = false ∧ (m == -1) = false ∧ (l == -1) = false) by simp only [beq_iff_eq, beq_eq_false_iff_ne]; omega)
  clear hbs hf h1 h2 h3 hn
  have HM := Lib.hid hm
  clear hm
  go_enter Try.func11, Try.ntmps11
  go_wp2_with fail
  obtain ⟨w1, hw1⟩ : ∃ V, ((w.alloc (.cells #[.int .i64 ex, .int .i64 ey, .int .i64 ez] 26)).alloc (.cells #[.int .i64 hx, .int .i64 hy, .int .i64 hz] 26)) = V := ⟨_, rfl⟩
  obtain ⟨hB_, kp, kq⟩ := boxes2 _ _ _ hw1
  rw [hw1]
  clear hw1
  have HB := Lib.hid hB_
  clear hB_
  have p0 := (cells3 kp).1
  have p1 := (cells3 kp).2.1
  have p2 := (cells3 kp).2.2
  have lp := block_lt p0
  have q0 := (cells3 kq).1
  have q1 := (cells3 kq).2.1
  have q2 := (cells3 kq).2.2
  have lq := block_lt q0
  replace HM := Lib.hid (HM.out.below HB.out)
  with_reducible refine (head9_any _).mono ?_
  rintro e_ w2 ⟨rfl, hb⟩
  replace HB := Lib.hid (on_below HB.out hb)
  replace HM := Lib.hid (HM.out.below hb)
  replace p0 := keepc hb p0
  replace p1 := keepc hb p1
  replace p2 := keepc hb p2
  replace q0 := keepc hb q0
  replace q1 := keepc hb q1
  replace q2 := keepc hb q2
  replace kp := blk_on kp hb
  replace kq := blk_on kq hb
  replace lp := Nat.lt_of_lt_of_le lp hb.size
  replace lq := Nat.lt_of_lt_of_le lq hb.size
  clear hb
  go_wp2_with fail
  with_reducible refine (HF.out _ HM.out).mono ?_
  rintro e_ w3 ⟨rfl, hb⟩
  replace HB := Lib.hid (on_below HB.out hb)
  replace HM := Lib.hid (HM.out.below hb)
  replace p0 := keepc hb p0
  replace p1 := keepc hb p1
  replace p2 := keepc hb p2
  replace q0 := keepc hb q0
  replace q1 := keepc hb q1
  replace q2 := keepc hb q2
  replace kp := blk_on kp hb
  replace kq := blk_on kq hb
  replace lp := Nat.lt_of_lt_of_le lp hb.size
  replace lq := Nat.lt_of_lt_of_le lq hb.size
  clear hb
  go_wp2_with fail
  with_reducible refine (v7valid_is ex ey ez true hv _).mono ?_
  rintro e_ w4 ⟨rfl, hb⟩
  replace HB := Lib.hid (on_below HB.out hb)
  replace HM := Lib.hid (HM.out.below hb)
  replace p0 := keepc hb p0
  replace p1 := keepc hb p1
  replace p2 := keepc hb p2
  replace q0 := keepc hb q0
  replace q1 := keepc hb q1
  replace q2 := keepc hb q2
  replace kp := blk_on kp hb
  replace kq := blk_on kq hb
  replace lp := Nat.lt_of_lt_of_le lp hb.size
  replace lq := Nat.lt_of_lt_of_le lq hb.size
  clear hb
  go_wp2_with fail
  with_reducible refine (v7valid_is hx hy hz true hu _).mono ?_
  rintro e_ w5 ⟨rfl, hb⟩
  replace HB := Lib.hid (on_below HB.out hb)
  replace HM := Lib.hid (HM.out.below hb)
  replace p0 := keepc hb p0
  replace p1 := keepc hb p1
  replace p2 := keepc hb p2
  replace q0 := keepc hb q0
  replace q1 := keepc hb q1
  replace q2 := keepc hb q2
  replace kp := blk_on kp hb
  replace kq := blk_on kq hb
  replace lp := Nat.lt_of_lt_of_le lp hb.size
  replace lq := Nat.lt_of_lt_of_le lq hb.size
  clear hb
  go_wp2_with fail
  have t0 : World.cell? (w5.alloc (.cells #[.int .i64 (2 * hx - ex), .int .i64 (2 * hy - ey), .int .i64 (2 * hz - ez)] 26)) ⟨w5.heap.size, 0, none⟩ = some (.int .i64 (2 * hx - ex)) := by simp [go_sem]
  have t1 : World.cell? (w5.alloc (.cells #[.int .i64 (2 * hx - ex), .int .i64 (2 * hy - ey), .int .i64 (2 * hz - ez)] 26)) ⟨w5.heap.size, 1, none⟩ = some (.int .i64 (2 * hy - ey)) := by simp [go_sem]
  have t2 : World.cell? (w5.alloc (.cells #[.int .i64 (2 * hx - ex), .int .i64 (2 * hy - ey), .int .i64 (2 * hz - ez)] 26)) ⟨w5.heap.size, 2, none⟩ = some (.int .i64 (2 * hz - ez)) := by simp [go_sem]
  have lt : w5.heap.size < (w5.alloc (.cells #[.int .i64 (2 * hx - ex), .int .i64 (2 * hy - ey), .int .i64 (2 * hz - ez)] 26)).heap.size := by simp
  have hb : Below w5.heap.size w5 (w5.alloc (.cells #[.int .i64 (2 * hx - ex), .int .i64 (2 * hy - ey), .int .i64 (2 * hz - ez)] 26)) := below_new _ _
  generalize w5.alloc (.cells #[.int .i64 (2 * hx - ex), .int .i64 (2 * hy - ey), .int .i64 (2 * hz - ez)] 26) = w6 at *
  replace HB := Lib.hid (on_below HB.out hb)
  replace HM := Lib.hid (HM.out.below hb)
  replace p0 := keepc hb p0
  replace p1 := keepc hb p1
  replace p2 := keepc hb p2
  replace q0 := keepc hb q0
  replace q1 := keepc hb q1
  replace q2 := keepc hb q2
  replace kp := blk_on kp hb
  replace kq := blk_on kq hb
  replace lp := Nat.lt_of_lt_of_le lp hb.size
  replace lq := Nat.lt_of_lt_of_le lq hb.size
  clear hb
  generalize w5.heap.size = gt at *
  with_reducible refine (C1.out _ HM.out).mono ?_
  rintro e_ w7 ⟨rfl, hb⟩
  replace HB := Lib.hid (on_below HB.out hb)
  replace HM := Lib.hid (HM.out.below hb)
  replace p0 := keepc hb p0
  replace p1 := keepc hb p1
  replace p2 := keepc hb p2
  replace q0 := keepc hb q0
  replace q1 := keepc hb q1
  replace q2 := keepc hb q2
  replace t0 := keepc hb t0
  replace t1 := keepc hb t1
  replace t2 := keepc hb t2
  replace kp := blk_on kp hb
  replace kq := blk_on kq hb
  replace lp := Nat.lt_of_lt_of_le lp hb.size
  replace lq := Nat.lt_of_lt_of_le lq hb.size
  replace lt := Nat.lt_of_lt_of_le lt hb.size
  clear hb
  go_wp2_with fail
  with_reducible refine (C2.out _ HM.out).mono ?_
  rintro e_ w8 ⟨rfl, hb⟩
  replace HB := Lib.hid (on_below HB.out hb)
  replace HM := Lib.hid (HM.out.below hb)
  replace p0 := keepc hb p0
  replace p1 := keepc hb p1
  replace p2 := keepc hb p2
  replace q0 := keepc hb q0
  replace q1 := keepc hb q1
  replace q2 := keepc hb q2
  replace t0 := keepc hb t0
  replace t1 := keepc hb t1
  replace t2 := keepc hb t2
  replace kp := blk_on kp hb
  replace kq := blk_on kq hb
  replace lp := Nat.lt_of_lt_of_le lp hb.size
  replace lq := Nat.lt_of_lt_of_le lq hb.size
  replace lt := Nat.lt_of_lt_of_le lt hb.size
  clear hb
  go_wp2_with fail
  with_reducible refine (C3.out _ HM.out).mono ?_
  rintro e_ w9 ⟨rfl, hb⟩
  replace HB := Lib.hid (on_below HB.out hb)
  replace HM := Lib.hid (HM.out.below hb)
  replace p0 := keepc hb p0
  replace p1 := keepc hb p1
  replace p2 := keepc hb p2
  replace q0 := keepc hb q0
  replace q1 := keepc hb q1
  replace q2 := keepc hb q2
  replace t0 := keepc hb t0
  replace t1 := keepc hb t1
  replace t2 := keepc hb t2
  replace kp := blk_on kp hb
  replace kq := blk_on kq hb
  replace lp := Nat.lt_of_lt_of_le lp hb.size
  replace lq := Nat.lt_of_lt_of_le lq hb.size
  replace lt := Nat.lt_of_lt_of_le lt hb.size
  clear hb
  rcases HX.out with ⟨x1, x2, x3⟩ | ⟨x1, x2, x3⟩ | ⟨x1, x2, x3⟩ | ⟨x1, x2, x3⟩
  all_goals go_wp2_with fail
  all_goals go_ret
  all_goals exact ⟨rfl, HB.out⟩
theorem fst_ex (ex ey ez x y z : Int) (L : List Bv) : ∃ n E, FstR ex ey ez x y z L n E := by
  obtain ⟨E, hE⟩ : ∃ E, Wrg ex ey ez [⟨x, y, z, 1⟩] L E := wrg_ex _ _ _ _ _
  by_cases h0 : E = 0
  · subst h0; exact ⟨_, 0, hE, Or.inr ⟨rfl, rfl⟩⟩
  · exact ⟨0, E, hE, Or.inl ⟨h0, rfl⟩⟩
theorem law_any (ex ey ez hx hy hz : Int) (bA : Option Addr) (bC : Nat) (b : List Bv) (w : World) (hb : LB w bA bC b) :
    Calls Try.prog 11 #[.agg #[.int .i64 ex, .int .i64 ey, .int .i64 ez], .agg #[.int .i64 hx, .int .i64 hy, .int .i64 hz], .slice bA b.length bC] w fun e_ w' => e_ = .returned (.bool true) ∧ Below w.heap.size w w' := by
  have h5 : b.length ≤ 9223372036854775807 := Nat.le_trans hb.cap.1 hb.cap.2
  have h6 := hb.len
  by_cases hf : Few 0 b
  · cases hv : vv ex ey ez
    · exact halves_1 ex ey ez hx hy hz bA bC b h5 h6 hf hv w hb.sl
    · cases hu : vv hx hy hz
      · exact halves_2 ex ey ez hx hy hz bA bC b h5 h6 hf hv hu w hb.sl
      · obtain ⟨n, E, h1⟩ := fst_ex ex ey ez (2 * hx - ex) (2 * hy - ey) (2 * hz - ez) b
        by_cases h0 : E = 0
        · subst h0
          obtain ⟨ht, hs, hbd⟩ := wrg_zero h1.1
          have hw := wy_of hs ht (k := 0) (by simp)
          have v3 := vv_iff.1 hv
          have u3 := vv_iff.1 hu
          have hne : ¬ (hx = ex ∧ hy = ey ∧ hz = ez) := fun e => hw.n ⟨by show ex = 2 * hx - ex; omega, by show ey = 2 * hy - ey; omega, by show ez = 2 * hz - ez; omega⟩
          have hne2 : ¬ (2 * hx - ex = hx ∧ 2 * hy - ey = hy ∧ 2 * hz - ez = hz) := fun e => hne ⟨by omega, by omega, by omega⟩
          have tt : vv (2 * hx - ex) (2 * hy - ey) (2 * hz - ez) = true := vv_iff.2 hw.p
          have g2 : FstR ex ey ez hx hy hz b _ 0 := ⟨wrg_one (by have := hf.2.1; omega) (tok_1 hu) (sut_one hv hne) hbd, Or.inr ⟨rfl, rfl⟩⟩
          have g3 : FstR hx hy hz (2 * hx - ex) (2 * hy - ey) (2 * hz - ez) b _ 0 := ⟨wrg_one (by have := hf.2.1; omega) (tok_1 tt) (sut_one hu hne2) hbd, Or.inr ⟨rfl, rfl⟩⟩
          refine halves_4 ex ey ez hx hy hz bA bC b h5 h6 hf hv hu n _ _ h1 g2 g3 ?_ w hb.sl
          have e1 : (lin ex ey ez (2 * hx - ex) (2 * hy - ey) (2 * hz - ez) b 0).b = n := by
            rcases h1.2 with ⟨h, _⟩ | ⟨_, h⟩
            · exact absurd rfl h
            · exact h
          rw [← e1, (lin_b 0).1, (lin_b 0).1, (lin_b 0).1]
          exact frs_halves hbd v3 u3 hw.p
        · exact halves_3 ex ey ez hx hy hz bA bC b h5 h6 hf hv hu n E h0 h1 w hb.sl
  · exact halves_0 ex ey ez hx hy hz bA bC b h5 h6 hf w hb.sl
/-! ### The row -/
open Go.ChangeShapes Go.WideShapes Go.ChangeAt Go.Joins
theorem own : ownKnob Try.prog.godebug = none := by kernel_rfl
noncomputable def laidWorld (os : Os) : World := World.holding Try.prog os ⟨#[], #[], []⟩
theorem laidWorld_met (os : Os) (args : Array Value) : laidMet Try.prog [] ((laidWorld os).forCall (fun _ _ => 0) ⟨#[], args, []⟩).memory :=
  laidMet_of_run' 8 (by kernel_rfl) (by kernel_rfl)

set_option maxRecDepth 100000 in
theorem contract (H : Type) (enc : TypeId × Value → H) (W : World) (base : Nat) (args : Array Value) (ds gs : List (DataW H)) (before : List MemPlace)
    (hval : ∀ (j : Nat) t v, Try.f11.params[j]? = some t → args[j]? = some v → Value.okWide Try.prog W .any base t v)
    (hW : DataW.Whole enc Try.prog Try.f11.params.toList Rows.sightHalvesSpec.vars false W args.toList ds gs before) :
    Calls Try.prog 11 args W fun e W' => ∃ v, e = .returned v ∧ Rows.sightHalvesSpec.post enc Try.prog Try.f11 false true false false W args v W' := by
  have hW' := hW
  have hold : ∀ q ∈ before, decide (q.block < W.heap.size) = true := fun q hq => by simpa using hW.lt q hq
  obtain ⟨p, q, hA0, hV, rfl, hfz, hnd⟩ := hW
  have hA : DataW.TrodAll enc Try.prog W 0 (fun _ => true) true Try.f11.params.toList args.toList ds p := hA0
  rw [Try.params11] at hA hval
  obtain ⟨v0, vs0, d0, ds0, p0, q0, hargs, rfl, rfl, h0, r0⟩ := trodAll_cons hA
  obtain ⟨v1, vs1, d1, ds1, p1, q1, rfl, rfl, rfl, h1, r1⟩ := trodAll_cons r0
  obtain ⟨v2, vs2, d2, ds2, p2, q2, rfl, rfl, rfl, h2, r2⟩ := trodAll_cons r1
  obtain ⟨rfl, rfl, rfl⟩ := trodAll_nil r2
  obtain rfl : args = #[v0, v1, v2] := Array.toList_inj.1 hargs
  obtain ⟨rfl, rfl⟩ := trodVars_none hV
  obtain ⟨ex, ey, ez, rfl, rfl, rfl, iex, iey, iez⟩ := open_vec (hval 0 26 v0 rfl rfl) h0
  obtain ⟨hx, hy, hz, rfl, rfl, rfl, ihx, ihy, ihz⟩ := open_vec (hval 1 26 v1 rfl rfl) h1
  obtain ⟨bA, bC, b, rfl, lb, shutb⟩ := open_bodies (hval 2 46 v2 rfl rfl) h2
  clear hA0
  refine (law_any ex ey ez hx hy hz bA bC b W lb).mono fun e W' ⟨he, bel⟩ => ?_
  subst he
  exact ⟨_, rfl, _, _, _, [], _, [], hW', trodAll_mk1 (shut_bool Try.underlying4 _), (trodAll_cons_mk (shut_vec iex iey iez) (trodAll_cons_mk (shut_vec ihx ihy ihz) (trodAll_cons_mk (shutb W' (fun b => decide (b < W.heap.size)) bel (fun q hq => hold q (by simp [hq]))) trodAll_mk0))), rfl, bel.frame _, fun h => by cases h⟩

theorem reads (os : Os) {H : Type} (enc : TypeId × Value → H) : ∃ places, DataW.whole enc Try.prog ((laidWorld os).forCall (fun _ _ => 0) ⟨#[], #[.agg #[.int .i64 0, .int .i64 0, .int .i64 0], .agg #[.int .i64 0, .int .i64 0, .int .i64 0], .slice none 0 0], []⟩).memory Try.f11.params.toList Rows.sightHalvesSpec.vars false (#[.agg #[.int .i64 0, .int .i64 0, .int .i64 0], .agg #[.int .i64 0, .int .i64 0, .int .i64 0], .slice none 0 0] : Array Value).toList 8 = some ([.agg [.lit (.int .i64 0), .lit (.int .i64 0), .lit (.int .i64 0)], .agg [.lit (.int .i64 0), .lit (.int .i64 0), .lit (.int .i64 0)], .nil], [], places) :=
  ⟨[], by kernel_rfl⟩

set_option maxRecDepth 100000 in
theorem lifted (os : Os) (started : os.Started) (H : Type) (enc : TypeId × Value → H) (F : Stop.Interp) :
    ReturnsInHanded {} Try.checked os 11 .any ((OpenSpec.ofChange Rows.sightHalvesSpec).preRow enc Try.prog Try.f11 Rows.sightHalvesRow.domain false Rows.sightHalvesRow.laid) (((OpenSpec.ofChange Rows.sightHalvesSpec).at F).post enc Try.prog Try.f11 false true false false) := by
  obtain ⟨places, hx⟩ := reads os enc
  refine returnsInHanded_of_row (C := Try.checked) (s := OpenSpec.ofChange Rows.sightHalvesSpec) own started (by kernel_rfl) Try.func11
    (witness_row_atRef (enc := enc) (C := Try.checked) false (laidWorld os) #[.agg #[.int .i64 0, .int .i64 0, .int .i64 0], .agg #[.int .i64 0, .int .i64 0, .int .i64 0], .slice none 0 0] rfl (by kernel_rfl) (by kernel_rfl) (by kernel_rfl)
      (OpenSpec.preRow_of_cond 8 hx (by kernel_rfl) (fun k hk => by cases hk) (by kernel_rfl) (laidWorld_met os _))) ?_
  intro W base args ds gs before hval hW _ hcond _ hL hsh _
  exact contract H enc W base args ds gs before hval hW

/-- The statement. -/
theorem said : Rows.SightHalvesSaid :=
  OpenClaim.holds_of_cond 11 Try.f11 rfl rfl rfl rfl rfl rfl rfl ⟨rfl, rfl, rfl, rfl, rfl⟩ rfl rfl rfl rfl rfl (by kernel_rfl) Try.func11 (by kernel_rfl)
    (of_decide_eq_true (by kernel_rfl)) (by unfold Func.isWrapper; first | (rw [if_pos (by decide +kernel)]; kernel_rfl) | (rw [if_neg (by decide +kernel)]; exact ⟨rfl, rfl⟩))
    (fun os started H enc _ F => by rw [OpenClaim.pre_eq_preRow]; exact lifted os started H enc F)
end Go.Proofs.Ytehlplejcaofoaa.LawHalves
