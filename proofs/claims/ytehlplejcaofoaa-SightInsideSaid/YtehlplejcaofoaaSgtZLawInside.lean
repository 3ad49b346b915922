/-
  SightInside.
-/
import Derived.Test.YtehlplejcaofoaaSgtZD
import Derived.Test.YtehlplejcaofoaaSgtZE
import Derived.Test.YtehlplejcaofoaaSgtZV
import Derived.Test.YtehlplejcaofoaaShpG
import Derived.Test.YtehlplejcaofoaaShpPH
import Derived.Test.YtehlplejcaofoaaRows
import Derived.ProofKit
import Derived.OpenShut
import Derived.Deep.DeepHandedRow
import Derived.Deep.DeepWitnessRowRef
import Derived.MakeChecks
import Derived.Deep.DeepCutAuto
namespace Go.Proofs.Ytehlplejcaofoaa.LawInside
open Go.RowKit Go.Sort
open Go.RowKit (Below)
set_option linter.unusedVariables false
set_option linter.unusedSimpArgs false
attribute [local go_sem] Oper.semAt_some

set_option maxRecDepth 100000 in
set_option maxHeartbeats 4000000 in
theorem ins_0 (ex ey ez hx hy hz : Int) (bA : Option Addr) (bC : Nat) (b : List Bv) (h5 : b.length ≤ 9223372036854775807) (h6 : ∀ k, k < b.length → (gdB b k).xs.length ≤ 9223372036854775807) (hf : ¬ Few 0 b) (w : World) (hm : BdS w bA b) :
    Calls Try.prog 13 #[.agg #[.int .i64 ex, .int .i64 ey, .int .i64 ez], .agg #[.int .i64 hx, .int .i64 hy, .int .i64 hz], .slice bA b.length bC] w fun e_ w' => e_ = .returned (.bool true) ∧ Below w.heap.size w w' := by
  have HF := Lib.hid (fun W (h : BdS W bA b) => few9_is none 0 [] bA bC b (by simp) h5 h6 false (by simp [hf]) W h)
  simp only [List.length_nil] at HF
  have HM := Lib.hid hm
  clear hm
  go_enter Try.func13, Try.ntmps13
  go_wp2_with fail
  obtain ⟨w1, hw1⟩ : ∃ V, ((w.alloc (.cells #[.int .i64 ex, .int .i64 ey, .int .i64 ez] 26)).alloc (.cells #[.int .i64 hx, .int .i64 hy, .int .i64 hz] 26)) = V := ⟨_, rfl⟩
  obtain ⟨hB_, kp, kq⟩ := boxes2 _ _ _ hw1
  rw [hw1]
  clear hw1
  have HB := Lib.hid hB_
  clear hB_
  have p0 := (cells3 kp).1
  have p1 := (cells3 kp).2.1
  have p2 := (cells3 kp).2.2
  have lp := block_lt p0
  have q0 := (cells3 kq).1
  have q1 := (cells3 kq).2.1
  have q2 := (cells3 kq).2.2
  have lq := block_lt q0
  replace HM := Lib.hid (HM.out.below HB.out)
  with_reducible refine (head9_any _).mono ?_
  rintro e_ w2 ⟨rfl, hb⟩
  replace HB := Lib.hid (on_below HB.out hb)
  replace HM := Lib.hid (HM.out.below hb)
  replace p0 := keepc hb p0
  replace p1 := keepc hb p1
  replace p2 := keepc hb p2
  replace q0 := keepc hb q0
  replace q1 := keepc hb q1
  replace q2 := keepc hb q2
  replace kp := blk_on kp hb
  replace kq := blk_on kq hb
  replace lp := Nat.lt_of_lt_of_le lp hb.size
  replace lq := Nat.lt_of_lt_of_le lq hb.size
  clear hb
  go_wp2_with fail
  with_reducible refine (HF.out _ HM.out).mono ?_
  rintro e_ w3 ⟨rfl, hb⟩
  replace HB := Lib.hid (on_below HB.out hb)
  replace HM := Lib.hid (HM.out.below hb)
  replace p0 := keepc hb p0
  replace p1 := keepc hb p1
  replace p2 := keepc hb p2
  replace q0 := keepc hb q0
  replace q1 := keepc hb q1
  replace q2 := keepc hb q2
  replace kp := blk_on kp hb
  replace kq := blk_on kq hb
  replace lp := Nat.lt_of_lt_of_le lp hb.size
  replace lq := Nat.lt_of_lt_of_le lq hb.size
  clear hb
  go_wp2_with fail
  go_ret
  exact ⟨rfl, HB.out⟩
set_option maxRecDepth 100000 in
set_option maxHeartbeats 4000000 in
theorem ins_1 (ex ey ez hx hy hz : Int) (bA : Option Addr) (bC : Nat) (b : List Bv) (h5 : b.length ≤ 9223372036854775807) (h6 : ∀ k, k < b.length → (gdB b k).xs.length ≤ 9223372036854775807) (hf : Few 0 b) (hv : vv ex ey ez = false) (w : World) (hm : BdS w bA b) :
    Calls Try.prog 13 #[.agg #[.int .i64 ex, .int .i64 ey, .int .i64 ez], .agg #[.int .i64 hx, .int .i64 hy, .int .i64 hz], .slice bA b.length bC] w fun e_ w' => e_ = .returned (.bool true) ∧ Below w.heap.size w w' := by
  have HF := Lib.hid (fun W (h : BdS W bA b) => few9_is none 0 [] bA bC b (by simp) h5 h6 true (by simp [hf]) W h)
  simp only [List.length_nil] at HF
  have HM := Lib.hid hm
  clear hm
  go_enter Try.func13, Try.ntmps13
  go_wp2_with fail
  obtain ⟨w1, hw1⟩ : ∃ V, ((w.alloc (.cells #[.int .i64 ex, .int .i64 ey, .int .i64 ez] 26)).alloc (.cells #[.int .i64 hx, .int .i64 hy, .int .i64 hz] 26)) = V := ⟨_, rfl⟩
  obtain ⟨hB_, kp, kq⟩ := boxes2 _ _ _ hw1
  rw [hw1]
  clear hw1
  have HB := Lib.hid hB_
  clear hB_
  have p0 := (cells3 kp).1
  have p1 := (cells3 kp).2.1
  have p2 := (cells3 kp).2.2
  have lp := block_lt p0
  have q0 := (cells3 kq).1
  have q1 := (cells3 kq).2.1
  have q2 := (cells3 kq).2.2
  have lq := block_lt q0
  replace HM := Lib.hid (HM.out.below HB.out)
  with_reducible refine (head9_any _).mono ?_
  rintro e_ w2 ⟨rfl, hb⟩
  replace HB := Lib.hid (on_below HB.out hb)
  replace HM := Lib.hid (HM.out.below hb)
  replace p0 := keepc hb p0
  replace p1 := keepc hb p1
  replace p2 := keepc hb p2
  replace q0 := keepc hb q0
  replace q1 := keepc hb q1
  replace q2 := keepc hb q2
  replace kp := blk_on kp hb
  replace kq := blk_on kq hb
  replace lp := Nat.lt_of_lt_of_le lp hb.size
  replace lq := Nat.lt_of_lt_of_le lq hb.size
  clear hb
  go_wp2_with fail
  with_reducible refine (HF.out _ HM.out).mono ?_
  rintro e_ w3 ⟨rfl, hb⟩
  replace HB := Lib.hid (on_below HB.out hb)
  replace HM := Lib.hid (HM.out.below hb)
  replace p0 := keepc hb p0
  replace p1 := keepc hb p1
  replace p2 := keepc hb p2
  replace q0 := keepc hb q0
  replace q1 := keepc hb q1
  replace q2 := keepc hb q2
  replace kp := blk_on kp hb
  replace kq := blk_on kq hb
  replace lp := Nat.lt_of_lt_of_le lp hb.size
  replace lq := Nat.lt_of_lt_of_le lq hb.size
  clear hb
  go_wp2_with fail
  with_reducible refine (v7valid_is ex ey ez false hv _).mono ?_
  rintro e_ w4 ⟨rfl, hb⟩
  replace HB := Lib.hid (on_below HB.out hb)
  replace HM := Lib.hid (HM.out.below hb)
  replace p0 := keepc hb p0
  replace p1 := keepc hb p1
  replace p2 := keepc hb p2
  replace q0 := keepc hb q0
  replace q1 := keepc hb q1
  replace q2 := keepc hb q2
  replace kp := blk_on kp hb
  replace kq := blk_on kq hb
  replace lp := Nat.lt_of_lt_of_le lp hb.size
  replace lq := Nat.lt_of_lt_of_le lq hb.size
  clear hb
  go_wp2_with fail
  go_ret
  exact ⟨rfl, HB.out⟩
set_option maxRecDepth 100000 in
set_option maxHeartbeats 4000000 in
theorem ins_2 (ex ey ez hx hy hz : Int) (bA : Option Addr) (bC : Nat) (b : List Bv) (h5 : b.length ≤ 9223372036854775807) (h6 : ∀ k, k < b.length → (gdB b k).xs.length ≤ 9223372036854775807) (hf : Few 0 b) (hv : vv ex ey ez = true) (hu : vv hx hy hz = false) (w : World) (hm : BdS w bA b) :
    Calls Try.prog 13 #[.agg #[.int .i64 ex, .int .i64 ey, .int .i64 ez], .agg #[.int .i64 hx, .int .i64 hy, .int .i64 hz], .slice bA b.length bC] w fun e_ w' => e_ = .returned (.bool true) ∧ Below w.heap.size w w' := by
  have HF := Lib.hid (fun W (h : BdS W bA b) => few9_is none 0 [] bA bC b (by simp) h5 h6 true (by simp [hf]) W h)
  simp only [List.length_nil] at HF
  have HM := Lib.hid hm
  clear hm
  go_enter Try.func13, Try.ntmps13
  go_wp2_with fail
  obtain ⟨w1, hw1⟩ : ∃ V, ((w.alloc (.cells #[.int .i64 ex, .int .i64 ey, .int .i64 ez] 26)).alloc (.cells #[.int .i64 hx, .int .i64 hy, .int .i64 hz] 26)) = V := ⟨_, rfl⟩
  obtain ⟨hB_, kp, kq⟩ := boxes2 _ _ _ hw1
  rw [hw1]
  clear hw1
  have HB := Lib.hid hB_
  clear hB_
  have p0 := (cells3 kp).1
  have p1 := (cells3 kp).2.1
  have p2 := (cells3 kp).2.2
  have lp := block_lt p0
  have q0 := (cells3 kq).1
  have q1 := (cells3 kq).2.1
  have q2 := (cells3 kq).2.2
  have lq := block_lt q0
  replace HM := Lib.hid (HM.out.below HB.out)
  with_reducible refine (head9_any _).mono ?_
  rintro e_ w2 ⟨rfl, hb⟩
  replace HB := Lib.hid (on_below HB.out hb)
  replace HM := Lib.hid (HM.out.below hb)
  replace p0 := keepc hb p0
  replace p1 := keepc hb p1
  replace p2 := keepc hb p2
  replace q0 := keepc hb q0
  replace q1 := keepc hb q1
  replace q2 := keepc hb q2
  replace kp := blk_on kp hb
  replace kq := blk_on kq hb
  replace lp := Nat.lt_of_lt_of_le lp hb.size
  replace lq := Nat.lt_of_lt_of_le lq hb.size
  clear hb
  go_wp2_with fail
  with_reducible refine (HF.out _ HM.out).mono ?_
  rintro e_ w3 ⟨rfl, hb⟩
  replace HB := Lib.hid (on_below HB.out hb)
  replace HM := Lib.hid (HM.out.below hb)
  replace p0 := keepc hb p0
  replace p1 := keepc hb p1
  replace p2 := keepc hb p2
  replace q0 := keepc hb q0
  replace q1 := keepc hb q1
  replace q2 := keepc hb q2
  replace kp := blk_on kp hb
  replace kq := blk_on kq hb
  replace lp := Nat.lt_of_lt_of_le lp hb.size
  replace lq := Nat.lt_of_lt_of_le lq hb.size
  clear hb
  go_wp2_with fail
  with_reducible refine (v7valid_is ex ey ez true hv _).mono ?_
  rintro e_ w4 ⟨rfl, hb⟩
  replace HB := Lib.hid (on_below HB.out hb)
  replace HM := Lib.hid (HM.out.below hb)
  replace p0 := keepc hb p0
  replace p1 := keepc hb p1
  replace p2 := keepc hb p2
  replace q0 := keepc hb q0
  replace q1 := keepc hb q1
  replace q2 := keepc hb q2
  replace kp := blk_on kp hb
  replace kq := blk_on kq hb
  replace lp := Nat.lt_of_lt_of_le lp hb.size
  replace lq := Nat.lt_of_lt_of_le lq hb.size
  clear hb
  go_wp2_with fail
  with_reducible refine (v7valid_is hx hy hz false hu _).mono ?_
  rintro e_ w5 ⟨rfl, hb⟩
  replace HB := Lib.hid (on_below HB.out hb)
  replace HM := Lib.hid (HM.out.below hb)
  replace p0 := keepc hb p0
  replace p1 := keepc hb p1
  replace p2 := keepc hb p2
  replace q0 := keepc hb q0
  replace q1 := keepc hb q1
  replace q2 := keepc hb q2
  replace kp := blk_on kp hb
  replace kq := blk_on kq hb
  replace lp := Nat.lt_of_lt_of_le lp hb.size
  replace lq := Nat.lt_of_lt_of_le lq hb.size
  clear hb
  go_wp2_with fail
  go_ret
  exact ⟨rfl, HB.out⟩
set_option maxRecDepth 100000 in
set_option maxHeartbeats 4000000 in
theorem ins_3 (ex ey ez hx hy hz : Int) (bA : Option Addr) (bC : Nat) (b : List Bv) (h5 : b.length ≤ 9223372036854775807) (h6 : ∀ k, k < b.length → (gdB b k).xs.length ≤ 9223372036854775807) (hf : Few 0 b) (hv : vv ex ey ez = true) (hu : vv hx hy hz = true) (hq : ex = hx ∧ ey = hy ∧ ez = hz) (w : World) (hm : BdS w bA b) :
    Calls Try.prog 13 #[.agg #[.int .i64 ex, .int .i64 ey, .int .i64 ez], .agg #[.int .i64 hx, .int .i64 hy, .int .i64 hz], .slice bA b.length bC] w fun e_ w' => e_ = .returned (.bool true) ∧ Below w.heap.size w w' := by
  have HF := Lib.hid (fun W (h : BdS W bA b) => few9_is none 0 [] bA bC b (by simp) h5 h6 true (by simp [hf]) W h)
  simp only [List.length_nil] at HF
  have he : ∀ W, (binOp .eql 26 (.agg #[.int .i64 ex, .int .i64 ey, .int .i64 ez]) (.agg #[.int .i64 hx, .int .i64 hy, .int .i64 hz])).run Try.prog W = .ok (.bool true) W := fun W => vec_eq (decide_eq_true hq) W
  clear hq
  have HM := Lib.hid hm
  clear hm
  go_enter Try.func13, Try.ntmps13
  go_wp2_with fail
  obtain ⟨w1, hw1⟩ : ∃ V, ((w.alloc (.cells #[.int .i64 ex, .int .i64 ey, .int .i64 ez] 26)).alloc (.cells #[.int .i64 hx, .int .i64 hy, .int .i64 hz] 26)) = V := ⟨_, rfl⟩
  obtain ⟨hB_, kp, kq⟩ := boxes2 _ _ _ hw1
  rw [hw1]
  clear hw1
  have HB := Lib.hid hB_
  clear hB_
  have p0 := (cells3 kp).1
  have p1 := (cells3 kp).2.1
  have p2 := (cells3 kp).2.2
  have lp := block_lt p0
  have q0 := (cells3 kq).1
  have q1 := (cells3 kq).2.1
  have q2 := (cells3 kq).2.2
  have lq := block_lt q0
  replace HM := Lib.hid (HM.out.below HB.out)
  with_reducible refine (head9_any _).mono ?_
  rintro e_ w2 ⟨rfl, hb⟩
  replace HB := Lib.hid (on_below HB.out hb)
  replace HM := Lib.hid (HM.out.below hb)
  replace p0 := keepc hb p0
  replace p1 := keepc hb p1
  replace p2 := keepc hb p2
  replace q0 := keepc hb q0
  replace q1 := keepc hb q1
  replace q2 := keepc hb q2
  replace kp := blk_on kp hb
  replace kq := blk_on kq hb
  replace lp := Nat.lt_of_lt_of_le lp hb.size
  replace lq := Nat.lt_of_lt_of_le lq hb.size
  clear hb
  go_wp2_with fail
  with_reducible refine (HF.out _ HM.out).mono ?_
  rintro e_ w3 ⟨rfl, hb⟩
  replace HB := Lib.hid (on_below HB.out hb)
  replace HM := Lib.hid (HM.out.below hb)
  replace p0 := keepc hb p0
  replace p1 := keepc hb p1
  replace p2 := keepc hb p2
  replace q0 := keepc hb q0
  replace q1 := keepc hb q1
  replace q2 := keepc hb q2
  replace kp := blk_on kp hb
  replace kq := blk_on kq hb
  replace lp := Nat.lt_of_lt_of_le lp hb.size
  replace lq := Nat.lt_of_lt_of_le lq hb.size
  clear hb
  go_wp2_with fail
  with_reducible refine (v7valid_is ex ey ez true hv _).mono ?_
  rintro e_ w4 ⟨rfl, hb⟩
  replace HB := Lib.hid (on_below HB.out hb)
  replace HM := Lib.hid (HM.out.below hb)
  replace p0 := keepc hb p0
  replace p1 := keepc hb p1
  replace p2 := keepc hb p2
  replace q0 := keepc hb q0
  replace q1 := keepc hb q1
  replace q2 := keepc hb q2
  replace kp := blk_on kp hb
  replace kq := blk_on kq hb
  replace lp := Nat.lt_of_lt_of_le lp hb.size
  replace lq := Nat.lt_of_lt_of_le lq hb.size
  clear hb
  go_wp2_with fail
  with_reducible refine (v7valid_is hx hy hz true hu _).mono ?_
  rintro e_ w5 ⟨rfl, hb⟩
  replace HB := Lib.hid (on_below HB.out hb)
  replace HM := Lib.hid (HM.out.below hb)
  replace p0 := keepc hb p0
  replace p1 := keepc hb p1
  replace p2 := keepc hb p2
  replace q0 := keepc hb q0
  replace q1 := keepc hb q1
  replace q2 := keepc hb q2
  replace kp := blk_on kp hb
  replace kq := blk_on kq hb
  replace lp := Nat.lt_of_lt_of_le lp hb.size
  replace lq := Nat.lt_of_lt_of_le lq hb.size
  clear hb
  go_wp2_with fail
  go_ret
  exact ⟨rfl, HB.out⟩
/-- First past the bodies up to one, all of them valid. -/
theorem first_pre (ex ey ez hx hy hz : Int) (bA : Option Addr) (bC : Nat) (b : List Bv) (h5 : b.length ≤ 9223372036854775807) (hl : b.length ≤ 60) (hv : vv ex ey ez = true) (hu : vv hx hy hz = true) (hne : ¬ (ex = hx ∧ ey = hy ∧ ez = hz)) (k : Nat) (hk : k < b.length) (hb : ∀ j, j < k + 1 → Bok (gdB b j).xs (gdB b j).lo (gdB b j).hi)
    (r : Bool) (hr : r = true ↔ InB (gdB b k).xs (gdB b k).lo (gdB b k).hi hx hy hz) (w : World) (hm : BdS w bA b) :
    Calls Try.prog 31 #[.agg #[.int .i64 ex, .int .i64 ey, .int .i64 ez], .agg #[.int .i64 hx, .int .i64 hy, .int .i64 hz], .slice bA (k + 1) bC] w fun e_ w' => ∃ m : Int, e_ = .returned (.tuple #[.int .i64 m, .int .i64 0]) ∧ (r = true → m ≠ -1) ∧ Below w.heap.size w w' := by
  have hlen : (b.take (k + 1)).length = k + 1 := by rw [List.length_take]; omega
  have hgd : ∀ j, j < k + 1 → gdB (b.take (k + 1)) j = gdB b j := fun j hj => by unfold gdB; rw [List.getD_eq_getElem?_getD, List.getD_eq_getElem?_getD, List.getElem?_take, if_pos hj]
  have hbd : Bds (b.take (k + 1)) := fun j hj => by rw [hlen] at hj; rw [hgd j hj]; exact hb j hj
  have hw : Wrg ex ey ez [⟨hx, hy, hz, 1⟩] (b.take (k + 1)) 0 := wrg_one (by omega) (tok_1 hu) (sut_one hv (fun e => hne ⟨e.1.symm, e.2.1.symm, e.2.2.symm⟩)) hbd
  have h := first_1 ex ey ez hx hy hz bA bC (b.take (k + 1)) (by omega) hw _ rfl w (hm.take (k + 1))
  rw [hlen] at h
  refine h.mono ?_
  rintro e_ w' ⟨rfl, hb'⟩
  refine ⟨_, rfl, fun hr' e => ?_, hb'⟩
  have hf := ((lin_b (ex := ex) (ey := ey) (ez := ez) (x := hx) (y := hy) (z := hz) (L := b.take (k + 1)) 0).1).1 e
  have := frs_len.1 hf k (by omega)
  rw [hgd k (by omega), hit_in (hb k (by omega)) (vv_iff.1 hv) (vv_iff.1 hu) (hr.1 hr')] at this
  cases this
theorem ins_cases {ex ey ez hx hy hz : Int} {b : List Bv} : (∃ E, Wrg ex ey ez [⟨2 * hx - ex, 2 * hy - ey, 2 * hz - ez, 1⟩] b E ∧ E ≠ 0) ∨ (Wrg ex ey ez [⟨2 * hx - ex, 2 * hy - ey, 2 * hz - ez, 1⟩] b 0 ∧ (lin ex ey ez (2 * hx - ex) (2 * hy - ey) (2 * hz - ez) b 0 = ⟨0, -1, 0, 1⟩ ∨ (∃ n : Nat, n < b.length ∧ ∃ c d, lin ex ey ez (2 * hx - ex) (2 * hy - ey) (2 * hz - ez) b 0 = ⟨0, n, c, d⟩ ∧ (c = 1 → d = 2 → Bok (gdB b n).xs (gdB b n).lo (gdB b n).hi ∧ InB (gdB b n).xs (gdB b n).lo (gdB b n).hi hx hy hz)))) := by
  obtain ⟨E, hE⟩ := wrg_ex ex ey ez [⟨2 * hx - ex, 2 * hy - ey, 2 * hz - ez, 1⟩] b
  by_cases h0 : E = 0
  · subst h0
    refine Or.inr ⟨hE, ?_⟩
    obtain ⟨ht, hs, hbd⟩ := wrg_zero hE
    have hw : Wy ex ey ez (2 * hx - ex) (2 * hy - ey) (2 * hz - ez) := wy_of hs ht (k := 0) (by simp)
    by_cases hn : frs ex ey ez (2 * hx - ex) (2 * hy - ey) (2 * hz - ez) b = b.length
    · exact Or.inl (lin_none hn 0)
    · have hl : frs ex ey ez (2 * hx - ex) (2 * hy - ey) (2 * hz - ez) b < b.length := Nat.lt_of_le_of_ne frs_le hn
      refine Or.inr ⟨_, hl, _, _, lin_hit hl 0, fun h1 h2 => ⟨hbd _ hl, mid_in (hbd _ hl) hw.e hw.p (frs_hit hl) h1 h2⟩⟩
  · exact Or.inl ⟨E, hE, h0⟩
set_option maxRecDepth 100000 in
set_option maxHeartbeats 4000000 in
theorem ins_4 (ex ey ez hx hy hz : Int) (bA : Option Addr) (bC : Nat) (b : List Bv) (h5 : b.length ≤ 9223372036854775807) (h6 : ∀ k, k < b.length → (gdB b k).xs.length ≤ 9223372036854775807) (hf : Few 0 b) (hC : b.length ≤ bC ∧ bC ≤ 9223372036854775807) (hv : vv ex ey ez = true) (hu : vv hx hy hz = true) (hq : ¬ (ex = hx ∧ ey = hy ∧ ez = hz)) (w : World) (hm : BdS w bA b) :
    Calls Try.prog 13 #[.agg #[.int .i64 ex, .int .i64 ey, .int .i64 ez], .agg #[.int .i64 hx, .int .i64 hy, .int .i64 hz], .slice bA b.length bC] w fun e_ w' => e_ = .returned (.bool true) ∧ Below w.heap.size w w' := by
  have HF := Lib.hid (fun W (h : BdS W bA b) => few9_is none 0 [] bA bC b (by simp) h5 h6 true (by simp [hf]) W h)
  simp only [List.length_nil] at HF
  have he : ∀ W, (binOp .eql 26 (.agg #[.int .i64 ex, .int .i64 ey, .int .i64 ez]) (.agg #[.int .i64 hx, .int .i64 hy, .int .i64 hz])).run Try.prog W = .ok (.bool false) W := fun W => vec_eq (decide_eq_false hq) W
  have HX := Lib.hid (ins_cases (ex := ex) (ey := ey) (ez := ez) (hx := hx) (hy := hy) (hz := hz) (b := b))
  have HNE := Lib.hid hq
  have hb12 := hf.2.1
  clear hq
  have HM := Lib.hid hm
  clear hm
  go_enter Try.func13, Try.ntmps13
  go_wp2_with fail
  obtain ⟨w1, hw1⟩ : ∃ V, ((w.alloc (.cells #[.int .i64 ex, .int .i64 ey, .int .i64 ez] 26)).alloc (.cells #[.int .i64 hx, .int .i64 hy, .int .i64 hz] 26)) = V := ⟨_, rfl⟩
  obtain ⟨hB_, kp, kq⟩ := boxes2 _ _ _ hw1
  rw [hw1]
  clear hw1
  have HB := Lib.hid hB_
  clear hB_
  have p0 := (cells3 kp).1
  have p1 := (cells3 kp).2.1
  have p2 := (cells3 kp).2.2
  have lp := block_lt p0
  have q0 := (cells3 kq).1
  have q1 := (cells3 kq).2.1
  have q2 := (cells3 kq).2.2
  have lq := block_lt q0
  replace HM := Lib.hid (HM.out.below HB.out)
  with_reducible refine (head9_any _).mono ?_
  rintro e_ w2 ⟨rfl, hb⟩
  replace HB := Lib.hid (on_below HB.out hb)
  replace HM := Lib.hid (HM.out.below hb)
  replace p0 := keepc hb p0
  replace p1 := keepc hb p1
  replace p2 := keepc hb p2
  replace q0 := keepc hb q0
  replace q1 := keepc hb q1
  replace q2 := keepc hb q2
  replace kp := blk_on kp hb
  replace kq := blk_on kq hb
  replace lp := Nat.lt_of_lt_of_le lp hb.size
  replace lq := Nat.lt_of_lt_of_le lq hb.size
  clear hb
  go_wp2_with fail
  with_reducible refine (HF.out _ HM.out).mono ?_
  rintro e_ w3 ⟨rfl, hb⟩
  replace HB := Lib.hid (on_below HB.out hb)
  replace HM := Lib.hid (HM.out.below hb)
  replace p0 := keepc hb p0
  replace p1 := keepc hb p1
  replace p2 := keepc hb p2
  replace q0 := keepc hb q0
  replace q1 := keepc hb q1
  replace q2 := keepc hb q2
  replace kp := blk_on kp hb
  replace kq := blk_on kq hb
  replace lp := Nat.lt_of_lt_of_le lp hb.size
  replace lq := Nat.lt_of_lt_of_le lq hb.size
  clear hb
  go_wp2_with fail
  with_reducible refine (v7valid_is ex ey ez true hv _).mono ?_
  rintro e_ w4 ⟨rfl, hb⟩
  replace HB := Lib.hid (on_below HB.out hb)
  replace HM := Lib.hid (HM.out.below hb)
  replace p0 := keepc hb p0
  replace p1 := keepc hb p1
  replace p2 := keepc hb p2
  replace q0 := keepc hb q0
  replace q1 := keepc hb q1
  replace q2 := keepc hb q2
  replace kp := blk_on kp hb
  replace kq := blk_on kq hb
  replace lp := Nat.lt_of_lt_of_le lp hb.size
  replace lq := Nat.lt_of_lt_of_le lq hb.size
  clear hb
  go_wp2_with fail
  with_reducible refine (v7valid_is hx hy hz true hu _).mono ?_
  rintro e_ w5 ⟨rfl, hb⟩
  replace HB := Lib.hid (on_below HB.out hb)
  replace HM := Lib.hid (HM.out.below hb)
  replace p0 := keepc hb p0
  replace p1 := keepc hb p1
  replace p2 := keepc hb p2
  replace q0 := keepc hb q0
  replace q1 := keepc hb q1
  replace q2 := keepc hb q2
  replace kp := blk_on kp hb
  replace kq := blk_on kq hb
  replace lp := Nat.lt_of_lt_of_le lp hb.size
  replace lq := Nat.lt_of_lt_of_le lq hb.size
  clear hb
  go_wp2_with fail
  have hbp : ∀ (W : World), Below W.heap.size W W := fun W => Below.refl _ _
  clear hbp
  go_loopw [7, 41] (fun u i wr => ∃ k : Nat, k ≤ b.length ∧ i = .int .i64 k ∧ u = .bool true ∧ Hid (∀ j, j < k → Bok (gdB b j).xs (gdB b j).lo (gdB b j).hi) ∧ Below w5.heap.size w5 wr) (fun _ i _ => b.length - (intOf i).toNat)
  case atStart => exact ⟨0, Nat.zero_le _, rfl, rfl, fun j hj => absurd hj (Nat.not_lt_zero j), Below.refl _ _⟩
  case round =>
    obtain ⟨k, hk, rfl, rfl, HK, hW⟩ := hrel
    have w1_ : IntKind.i64.wrap ((k : Int) + 1) = (k : Int) + 1 := IntWalk.i64_in _ ⟨by omega, by omega⟩
    have w2_ : wrap64 ((k : Int) + 1) = (k : Int) + 1 := IntWalk.wrap64_in _ ⟨by omega, by omega⟩
    replace p0 := keepc hW p0
    replace p1 := keepc hW p1
    replace p2 := keepc hW p2
    replace q0 := keepc hW q0
    replace q1 := keepc hW q1
    replace q2 := keepc hW q2
    replace lp := Nat.lt_of_lt_of_le lp hW.size
    replace lq := Nat.lt_of_lt_of_le lq hW.size
    clear kp kq
    have hwb := hW
    have HWB := Lib.hid hwb
    have HM2 := Lib.hid (HM.out.below hW)
    replace HB := Lib.hid (on_below HB.out hW)
    clear hW hwb
    by_cases hlt : k < b.length
    · obtain ⟨b0, o0, rfl, e0, e1, e2, hsl⟩ := HM2.out k hlt
      have HSL := Lib.hid hsl
      clear hsl
      have hlx := few_bsm hf k hlt
      have hc1 : k + 1 ≤ bC := by omega
      have hc2 : (k : Int) + 1 ≤ bC := by omega
      obtain ⟨v, hvd⟩ := bool_of (Bok (gdB b k).xs (gdB b k).lo (gdB b k).hi)
      obtain ⟨r, hr⟩ := bool_of (InB (gdB b k).xs (gdB b k).lo (gdB b k).hi hx hy hz)
      have HV := Lib.hid hvd
      have C1 := Lib.hid (fun W (h : SlS W (gdB b k).A (gdB b k).xs) => qvalid_is (gdB b k).A (gdB b k).C (gdB b k).xs (gdB b k).lo (gdB b k).hi (by omega) v hvd W h)
      have C2 := Lib.hid (fun (hb : Bok (gdB b k).xs (gdB b k).lo (gdB b k).hi) W (h : SlS W (gdB b k).A (gdB b k).xs) => pinside_is (gdB b k).A (gdB b k).C (gdB b k).xs (gdB b k).lo (gdB b k).hi hx hy hz hlx r 0 (Or.inl ⟨hb, vv_iff.1 hu, rfl, hr⟩) W h)
      have C3 := Lib.hid (fun (hb : Bok (gdB b k).xs (gdB b k).lo (gdB b k).hi) W (h : BdS W (some ⟨b0, o0, none⟩) b) => first_pre ex ey ez hx hy hz (some ⟨b0, o0, none⟩) bC b h5 (by have := hf.2.1; omega) hv hu HNE.out k hlt (fun j hj => by by_cases e : j = k; (subst e; exact hb); exact HK.out j (by omega)) r hr W h)
      clear hr hvd hlx
      generalize hgd : gdB b k = u at *
      have HG := Lib.hid hgd
      clear hgd
      obtain ⟨uA, uC, ux, ul, uh⟩ := u
      dsimp only at e0 e1 e2 C1 C2 HSL
      have ho := below_new wr (.cells #[.slice uA ux.length uC, .int .i64 ul, .int .i64 uh] 24)
      have n0 : World.cell? (wr.alloc (.cells #[.slice uA ux.length uC, .int .i64 ul, .int .i64 uh] 24)) ⟨wr.heap.size, 0, none⟩ = some (.slice uA ux.length uC) := by simp [go_sem]
      have n1 : World.cell? (wr.alloc (.cells #[.slice uA ux.length uC, .int .i64 ul, .int .i64 uh] 24)) ⟨wr.heap.size, 1, none⟩ = some (.int .i64 ul) := by simp [go_sem]
      have n2 : World.cell? (wr.alloc (.cells #[.slice uA ux.length uC, .int .i64 ul, .int .i64 uh] 24)) ⟨wr.heap.size, 2, none⟩ = some (.int .i64 uh) := by simp [go_sem]
      go_wp2_with fail
      generalize wr.alloc (.cells #[.slice uA ux.length uC, .int .i64 ul, .int .i64 uh] 24) = wz at *
      have lz : wr.heap.size < wz.heap.size := block_lt n0
      replace p0 := keepc ho p0
      replace p1 := keepc ho p1
      replace p2 := keepc ho p2
      replace q0 := keepc ho q0
      replace q1 := keepc ho q1
      replace q2 := keepc ho q2
      replace HSL := Lib.hid (HSL.out.below ho)
      replace HM2 := Lib.hid (HM2.out.below ho)
      replace HB := Lib.hid (HB.out.trans (ho.mono HB.out.size))
      replace HWB := Lib.hid (HWB.out.trans (ho.mono HWB.out.size))
      clear ho e0 e1 e2
      generalize wr.heap.size = gz at *
      with_reducible refine (C1.out _ HSL.out).mono ?_
      rintro e_ wk6 ⟨rfl, hb⟩
      replace p0 := keepc hb p0
      replace p1 := keepc hb p1
      replace p2 := keepc hb p2
      replace q0 := keepc hb q0
      replace q1 := keepc hb q1
      replace q2 := keepc hb q2
      replace n0 := keepc hb n0
      replace n1 := keepc hb n1
      replace n2 := keepc hb n2
      replace HSL := Lib.hid (HSL.out.below hb)
      replace HM2 := Lib.hid (HM2.out.below hb)
      replace HB := Lib.hid (on_below HB.out hb)
      replace HWB := Lib.hid (HWB.out.trans (hb.mono HWB.out.size))
      clear hb
      cases v
      · go_wp2_with fail
        go_ret
        exact ⟨rfl, HB.out⟩
      have HBK := Lib.hid (HV.out.1 rfl)
      go_wp2_with fail
      with_reducible refine (C2.out HBK.out _ HSL.out).mono ?_
      rintro e_ wk7 ⟨rfl, hb⟩
      replace p0 := keepc hb p0
      replace p1 := keepc hb p1
      replace p2 := keepc hb p2
      replace q0 := keepc hb q0
      replace q1 := keepc hb q1
      replace q2 := keepc hb q2
      replace n0 := keepc hb n0
      replace n1 := keepc hb n1
      replace n2 := keepc hb n2
      replace HSL := Lib.hid (HSL.out.below hb)
      replace HM2 := Lib.hid (HM2.out.below hb)
      replace HB := Lib.hid (on_below HB.out hb)
      replace HWB := Lib.hid (HWB.out.trans (hb.mono HWB.out.size))
      clear hb
      go_wp2_with fail
      have HF1 := Lib.hid (C3.out HBK.out)
      have HF2 := Lib.hid (fun W (h : Below wk7.heap.size wk7 W) => HF1.out W (HM2.out.below h))
      have kp : ∀ {W : World}, Below wk7.heap.size wk7 W → W.cell? ⟨w.heap.size, 0, none⟩ = some (.int .i64 ex) ∧ W.cell? ⟨w.heap.size, 1, none⟩ = some (.int .i64 ey) ∧ W.cell? ⟨w.heap.size, 2, none⟩ = some (.int .i64 ez) ∧ W.cell? ⟨w.heap.size + 1, 0, none⟩ = some (.int .i64 hx) ∧ W.cell? ⟨w.heap.size + 1, 1, none⟩ = some (.int .i64 hy) ∧ W.cell? ⟨w.heap.size + 1, 2, none⟩ = some (.int .i64 hz) := fun h => ⟨keepc h p0, keepc h p1, keepc h p2, keepc h q0, keepc h q1, keepc h q2⟩
      refine wp_region_held_drew (S := fun V => V.cell? ⟨w.heap.size, 0, none⟩ = some (.int .i64 ex) ∧ V.cell? ⟨w.heap.size, 1, none⟩ = some (.int .i64 ey) ∧ V.cell? ⟨w.heap.size, 2, none⟩ = some (.int .i64 ez) ∧ V.cell? ⟨w.heap.size + 1, 0, none⟩ = some (.int .i64 hx) ∧ V.cell? ⟨w.heap.size + 1, 1, none⟩ = some (.int .i64 hy) ∧ V.cell? ⟨w.heap.size + 1, 2, none⟩ = some (.int .i64 hz)) (by kernel_rfl) (kp (Below.refl _ _).drew) fun HL_ => ?_
      refine wpAnyH_take (i := 0) (v := .agg #[.int .i64 ex, .int .i64 ey, .int .i64 ez]) rfl (by kernel_rfl) (by kernel_rfl) (by kernel_rfl) (fun _ _ _ h => h) (Or.inl ⟨by kernel_rfl, ?_⟩) HL_ ?_
      · rintro Wl ⟨s0, s1, s2, s3, s4, s5⟩
        go_simp
      simp only [Act.put, List.getElem_toArray, List.getElem_cons_succ, List.getElem_cons_zero, List.setIfInBounds_toArray, List.set_cons_zero, List.set_cons_succ]
      refine wpAnyH_take (i := 1) (v := .agg #[.int .i64 hx, .int .i64 hy, .int .i64 hz]) rfl (by kernel_rfl) (by kernel_rfl) (by kernel_rfl) (fun _ _ _ h => h) (Or.inl ⟨by kernel_rfl, ?_⟩) HL_ ?_
      · rintro Wl ⟨s0, s1, s2, s3, s4, s5⟩
        go_simp
      simp only [Act.put, List.getElem_toArray, List.getElem_cons_succ, List.getElem_cons_zero, List.setIfInBounds_toArray, List.set_cons_zero, List.set_cons_succ]
      refine wpAnyH_take (i := 2) (v := .slice (some ⟨b0, o0, none⟩) b.length bC) rfl (by kernel_rfl) (by kernel_rfl) (by kernel_rfl) (fun _ _ _ h => h) (Or.inl ⟨by kernel_rfl, ?_⟩) HL_ ?_
      · rintro Wl ⟨s0, s1, s2, s3, s4, s5⟩
        go_simp
      simp only [Act.put, List.getElem_toArray, List.getElem_cons_succ, List.getElem_cons_zero, List.setIfInBounds_toArray, List.set_cons_zero, List.set_cons_succ]
      refine wpAnyH_take (i := 3) (v := .int .i64 (k : Int)) rfl (by kernel_rfl) (by kernel_rfl) (by kernel_rfl) (fun _ _ _ h => h) (Or.inl ⟨by kernel_rfl, ?_⟩) HL_ ?_
      · rintro Wl ⟨s0, s1, s2, s3, s4, s5⟩
        go_simp
      simp only [Act.put, List.getElem_toArray, List.getElem_cons_succ, List.getElem_cons_zero, List.setIfInBounds_toArray, List.set_cons_zero, List.set_cons_succ]
      refine wpAnyH_take (i := 4) (v := .int .i64 ((k : Int) + 1)) rfl (by kernel_rfl) (by kernel_rfl) (by kernel_rfl) (fun _ _ _ h => h) (Or.inl ⟨by kernel_rfl, ?_⟩) HL_ ?_
      · rintro Wl ⟨s0, s1, s2, s3, s4, s5⟩
        go_simp
      simp only [Act.put, List.getElem_toArray, List.getElem_cons_succ, List.getElem_cons_zero, List.setIfInBounds_toArray, List.set_cons_zero, List.set_cons_succ]
      refine wpAnyH_take (i := 5) (v := .slice (some ⟨b0, o0, none⟩) (k + 1) bC) rfl (by kernel_rfl) (by kernel_rfl) (by kernel_rfl) (fun _ _ _ h => h) (Or.inl ⟨by kernel_rfl, ?_⟩) HL_ ?_
      · rintro Wl ⟨s0, s1, s2, s3, s4, s5⟩
        go_simp
        exact fun h => absurd h (by omega)
      simp only [Act.put, List.getElem_toArray, List.getElem_cons_succ, List.getElem_cons_zero, List.setIfInBounds_toArray, List.set_cons_zero, List.set_cons_succ]
      refine wpAnyH_ready (rs := [6]) (by kernel_rfl) (by simp) ?_
      refine AllReadyH.cons (o := _) rfl (fun K hK => ?_) AllReadyH.nil
      go_simp
      with_reducible refine (HF2.out _ (Below.refl _ _).drew).mono ?_
      rintro e_ wh ⟨m, rfl, hmr, hb⟩
      have hB : Below wk7.heap.size wk7 wh := undrew_b hb
      refine hK.out _ _ (kp hB) fun HL_ => ?_
      clear hK K
      refine wpAnyH_take (i := 7) (v := .tuple #[.int .i64 m, .int .i64 0]) rfl (by kernel_rfl) (by kernel_rfl) (by kernel_rfl) (fun _ _ _ h => h) (Or.inl ⟨by kernel_rfl, ?_⟩) HL_ ?_
      · rintro Wl ⟨s0, s1, s2, s3, s4, s5⟩
        go_simp
      simp only [Act.put, List.getElem_toArray, List.getElem_cons_succ, List.getElem_cons_zero, List.setIfInBounds_toArray, List.set_cons_zero, List.set_cons_succ]
      refine wpAnyH_take (i := 8) (v := .int .i64 m) rfl (by kernel_rfl) (by kernel_rfl) (by kernel_rfl) (fun _ _ _ h => h) (Or.inl ⟨by kernel_rfl, ?_⟩) HL_ ?_
      · rintro Wl ⟨s0, s1, s2, s3, s4, s5⟩
        go_simp
      simp only [Act.put, List.getElem_toArray, List.getElem_cons_succ, List.getElem_cons_zero, List.setIfInBounds_toArray, List.set_cons_zero, List.set_cons_succ]
      refine wpAnyH_take (i := 9) (v := .int .i64 0) rfl (by kernel_rfl) (by kernel_rfl) (by kernel_rfl) (fun _ _ _ h => h) (Or.inl ⟨by kernel_rfl, ?_⟩) HL_ ?_
      · rintro Wl ⟨s0, s1, s2, s3, s4, s5⟩
        go_simp
      simp only [Act.put, List.getElem_toArray, List.getElem_cons_succ, List.getElem_cons_zero, List.setIfInBounds_toArray, List.set_cons_zero, List.set_cons_succ]
      refine wpAnyH_take (i := 10) (v := .int .i64 m) rfl (by kernel_rfl) (by kernel_rfl) (by kernel_rfl) (fun _ _ _ h => h) (Or.inl ⟨by kernel_rfl, ?_⟩) HL_ ?_
      · rintro Wl ⟨s0, s1, s2, s3, s4, s5⟩
        go_simp
      simp only [Act.put, List.getElem_toArray, List.getElem_cons_succ, List.getElem_cons_zero, List.setIfInBounds_toArray, List.set_cons_zero, List.set_cons_succ]
      refine wpAnyH_take (i := 11) (v := .int .i64 0) rfl (by kernel_rfl) (by kernel_rfl) (by kernel_rfl) (fun _ _ _ h => h) (Or.inl ⟨by kernel_rfl, ?_⟩) HL_ ?_
      · rintro Wl ⟨s0, s1, s2, s3, s4, s5⟩
        go_simp
      simp only [Act.put, List.getElem_toArray, List.getElem_cons_succ, List.getElem_cons_zero, List.setIfInBounds_toArray, List.set_cons_zero, List.set_cons_succ]
      refine wpAnyH_done (by kernel_rfl) ?_ _
      clear HL_ kp
      clear hb
      replace p0 := keepc hB p0
      replace p1 := keepc hB p1
      replace p2 := keepc hB p2
      replace q0 := keepc hB q0
      replace q1 := keepc hB q1
      replace q2 := keepc hB q2
      replace HB := Lib.hid (on_below HB.out hB)
      replace HWB := Lib.hid (HWB.out.trans (hB.mono HWB.out.size))
      clear hB n0 n1 n2 lz
      cases r
      · skip
        clear hmr
        go_wp2_with fail
        go_roundw
        case rel => exact ⟨k + 1, hlt, int_of (by first | rfl | exact w1_ | exact w2_), rfl, (fun j hj => by by_cases e : j = k; (subst e; rw [HG.out]; exact HBK.out); exact HK.out j (by omega)), HWB.out⟩
        case measure => simp [intOf]; omega
      · have hz : (m != -1) = true := by have := hmr rfl; simp [this]
        clear hmr
        go_wp2_with fail
        go_roundw
        case rel => exact ⟨k + 1, hlt, int_of (by first | rfl | exact w1_ | exact w2_), rfl, (fun j hj => by by_cases e : j = k; (subst e; rw [HG.out]; exact HBK.out); exact HK.out j (by omega)), HWB.out⟩
        case measure => simp [intOf]; omega
    · have hke : k = b.length := by omega
      subst hke
      clear HK HWB
      replace HM := HM2
      clear HM2
      obtain ⟨⟨v1, v2⟩, ⟨v3, v4⟩, ⟨v5, v6⟩⟩ := vv_iff.1 hv
      obtain ⟨⟨u1, u2⟩, ⟨u3, u4⟩, ⟨u5, u6⟩⟩ := vv_iff.1 hu
      go_wp2_with fail
      have t0 : World.cell? (wr.alloc (.cells #[.int .i64 (2 * hx - ex), .int .i64 (2 * hy - ey), .int .i64 (2 * hz - ez)] 26)) ⟨wr.heap.size, 0, none⟩ = some (.int .i64 (2 * hx - ex)) := by simp [go_sem]
      have t1 : World.cell? (wr.alloc (.cells #[.int .i64 (2 * hx - ex), .int .i64 (2 * hy - ey), .int .i64 (2 * hz - ez)] 26)) ⟨wr.heap.size, 1, none⟩ = some (.int .i64 (2 * hy - ey)) := by simp [go_sem]
      have t2 : World.cell? (wr.alloc (.cells #[.int .i64 (2 * hx - ex), .int .i64 (2 * hy - ey), .int .i64 (2 * hz - ez)] 26)) ⟨wr.heap.size, 2, none⟩ = some (.int .i64 (2 * hz - ez)) := by simp [go_sem]
      have lt : wr.heap.size < (wr.alloc (.cells #[.int .i64 (2 * hx - ex), .int .i64 (2 * hy - ey), .int .i64 (2 * hz - ez)] 26)).heap.size := by simp
      have zt : (wr.alloc (.cells #[.int .i64 (2 * hx - ex), .int .i64 (2 * hy - ey), .int .i64 (2 * hz - ez)] 26)).heap.size = wr.heap.size + 1 := by simp
      have hb : Below wr.heap.size wr (wr.alloc (.cells #[.int .i64 (2 * hx - ex), .int .i64 (2 * hy - ey), .int .i64 (2 * hz - ez)] 26)) := below_new _ _
      generalize wr.alloc (.cells #[.int .i64 (2 * hx - ex), .int .i64 (2 * hy - ey), .int .i64 (2 * hz - ez)] 26) = w8 at *
      replace HB := Lib.hid (on_below HB.out hb)
      replace HM := Lib.hid (HM.out.below hb)
      replace p0 := keepc hb p0
      replace p1 := keepc hb p1
      replace p2 := keepc hb p2
      replace q0 := keepc hb q0
      replace q1 := keepc hb q1
      replace q2 := keepc hb q2
      replace lp := Nat.lt_of_lt_of_le lp hb.size
      replace lq := Nat.lt_of_lt_of_le lq hb.size
      clear hb
      generalize wr.heap.size = gt at *
      clear v1 v2 v3 v4 v5 v6 u1 u2 u3 u4 u5 u6
      go_wp2_with fail
      have a0 : World.cell? (w8.alloc (.cells #[.int .i64 (2 * hx - ex), .int .i64 (2 * hy - ey), .int .i64 (2 * hz - ez), .int .i64 1] 62)) ⟨gt + 1, 0, none⟩ = some (.int .i64 (2 * hx - ex)) := by rw [← zt]; simp [go_sem]
      have a1 : World.cell? (w8.alloc (.cells #[.int .i64 (2 * hx - ex), .int .i64 (2 * hy - ey), .int .i64 (2 * hz - ez), .int .i64 1] 62)) ⟨gt + 1, 1, none⟩ = some (.int .i64 (2 * hy - ey)) := by rw [← zt]; simp [go_sem]
      have a2 : World.cell? (w8.alloc (.cells #[.int .i64 (2 * hx - ex), .int .i64 (2 * hy - ey), .int .i64 (2 * hz - ez), .int .i64 1] 62)) ⟨gt + 1, 2, none⟩ = some (.int .i64 (2 * hz - ez)) := by rw [← zt]; simp [go_sem]
      have a3 : World.cell? (w8.alloc (.cells #[.int .i64 (2 * hx - ex), .int .i64 (2 * hy - ey), .int .i64 (2 * hz - ez), .int .i64 1] 62)) ⟨gt + 1, 3, none⟩ = some (.int .i64 1) := by rw [← zt]; simp [go_sem]
      have la : gt + 1 < (w8.alloc (.cells #[.int .i64 (2 * hx - ex), .int .i64 (2 * hy - ey), .int .i64 (2 * hz - ez), .int .i64 1] 62)).heap.size := by rw [← zt]; simp
      have hb : Below w8.heap.size w8 (w8.alloc (.cells #[.int .i64 (2 * hx - ex), .int .i64 (2 * hy - ey), .int .i64 (2 * hz - ez), .int .i64 1] 62)) := below_new _ _
      generalize w8.alloc (.cells #[.int .i64 (2 * hx - ex), .int .i64 (2 * hy - ey), .int .i64 (2 * hz - ez), .int .i64 1] 62) = w9 at *
      replace HB := Lib.hid (on_below HB.out hb)
      replace HM := Lib.hid (HM.out.below hb)
      replace p0 := keepc hb p0
      replace p1 := keepc hb p1
      replace p2 := keepc hb p2
      replace q0 := keepc hb q0
      replace q1 := keepc hb q1
      replace q2 := keepc hb q2
      replace t0 := keepc hb t0
      replace t1 := keepc hb t1
      replace t2 := keepc hb t2
      replace lp := Nat.lt_of_lt_of_le lp hb.size
      replace lq := Nat.lt_of_lt_of_le lq hb.size
      replace lt := Nat.lt_of_lt_of_le lt hb.size
      clear hb
      clear zt
      have na : gt < gt + 1 := Nat.lt_succ_self _
      generalize gt + 1 = ga at *
      rcases HX.out with ⟨E, hE, h0⟩ | ⟨hE, hl | ⟨n, hn, c, d, hl, hcd⟩⟩
      · skip
        have C4 := Lib.hid (fun W (hl : S4 W (some ⟨ga, 0, none⟩) [⟨2 * hx - ex, 2 * hy - ey, 2 * hz - ez, 1⟩]) (hm : BdS W bA b) => lines_0 ex ey ez (some ⟨ga, 0, none⟩) 1 [⟨2 * hx - ex, 2 * hy - ey, 2 * hz - ez, 1⟩] bA bC b (by simp) h5 E hE h0 (fun _ _ k hk => few_bsm hf k hk) W hl hm)
        simp only [List.length_cons, List.length_nil, Nat.zero_add] at C4
        have zz : (E != 0) = true := by simp [h0]
        clear hE h0
        with_reducible refine (C4.out _ (s4_one a0 a1 a2 a3) HM.out).mono ?_
        rintro e_ w10 ⟨rfl, hb⟩
        replace HB := Lib.hid (on_below HB.out hb)
        replace HM := Lib.hid (HM.out.below hb)
        replace p0 := keepc hb p0
        replace p1 := keepc hb p1
        replace p2 := keepc hb p2
        replace q0 := keepc hb q0
        replace q1 := keepc hb q1
        replace q2 := keepc hb q2
        replace t0 := keepc hb t0
        replace t1 := keepc hb t1
        replace t2 := keepc hb t2
        replace a0 := keepc hb a0
        replace a1 := keepc hb a1
        replace a2 := keepc hb a2
        replace a3 := keepc hb a3
        replace lp := Nat.lt_of_lt_of_le lp hb.size
        replace lq := Nat.lt_of_lt_of_le lq hb.size
        replace lt := Nat.lt_of_lt_of_le lt hb.size
        replace la := Nat.lt_of_lt_of_le la hb.size
        clear hb
        go_wp2_with fail
        go_ret
        exact ⟨rfl, HB.out⟩
      · skip
        have C4 := Lib.hid (fun W c0 c1 c2 c3 (h : BdS W bA b) => lines_one ex ey ez (2 * hx - ex) (2 * hy - ey) (2 * hz - ez) bA bC b h5 hE 0 (-1) (0) (1) hl ga W c0 c1 c2 c3 h)
        clear hE hl
        with_reducible refine (C4.out _ a0 a1 a2 a3 HM.out).mono ?_
        rintro e_ w10 ⟨gh, rfl, ⟨t0_, t1_, t2_, t3_⟩, hb⟩
        replace HB := Lib.hid (on_below HB.out hb)
        replace HM := Lib.hid (HM.out.below hb)
        replace p0 := keepc hb p0
        replace p1 := keepc hb p1
        replace p2 := keepc hb p2
        replace q0 := keepc hb q0
        replace q1 := keepc hb q1
        replace q2 := keepc hb q2
        replace t0 := keepc hb t0
        replace t1 := keepc hb t1
        replace t2 := keepc hb t2
        replace a0 := keepc hb a0
        replace a1 := keepc hb a1
        replace a2 := keepc hb a2
        replace a3 := keepc hb a3
        replace lp := Nat.lt_of_lt_of_le lp hb.size
        replace lq := Nat.lt_of_lt_of_le lq hb.size
        replace lt := Nat.lt_of_lt_of_le lt hb.size
        replace la := Nat.lt_of_lt_of_le la hb.size
        clear hb
        have lt_ := block_lt t0_
        go_wp2_with fail
        go_ret
        exact ⟨rfl, HB.out⟩
      · skip
        by_cases hc : c = 1 ∧ d = 2
        · obtain ⟨rfl, rfl⟩ := hc
          obtain ⟨hok, hin⟩ := hcd rfl rfl
          have C4 := Lib.hid (fun W c0 c1 c2 c3 (h : BdS W bA b) => lines_one ex ey ez (2 * hx - ex) (2 * hy - ey) (2 * hz - ez) bA bC b h5 hE 0 ((n : Int)) (1) (2) hl ga W c0 c1 c2 c3 h)
          clear hE hl
          with_reducible refine (C4.out _ a0 a1 a2 a3 HM.out).mono ?_
          rintro e_ w10 ⟨gh, rfl, ⟨t0_, t1_, t2_, t3_⟩, hb⟩
          replace HB := Lib.hid (on_below HB.out hb)
          replace HM := Lib.hid (HM.out.below hb)
          replace p0 := keepc hb p0
          replace p1 := keepc hb p1
          replace p2 := keepc hb p2
          replace q0 := keepc hb q0
          replace q1 := keepc hb q1
          replace q2 := keepc hb q2
          replace t0 := keepc hb t0
          replace t1 := keepc hb t1
          replace t2 := keepc hb t2
          replace a0 := keepc hb a0
          replace a1 := keepc hb a1
          replace a2 := keepc hb a2
          replace a3 := keepc hb a3
          replace lp := Nat.lt_of_lt_of_le lp hb.size
          replace lq := Nat.lt_of_lt_of_le lq hb.size
          replace lt := Nat.lt_of_lt_of_le lt hb.size
          replace la := Nat.lt_of_lt_of_le la hb.size
          clear hb
          have lt_ := block_lt t0_
          obtain ⟨c0_, o0, rfl, e0, e1, e2, hsl⟩ := HM.out n hn
          have HSL := Lib.hid hsl
          clear hsl
          have hlx := few_bsm hf n hn
          have C5 := Lib.hid (fun W (h : SlS W (gdB b n).A (gdB b n).xs) => pinside_is (gdB b n).A (gdB b n).C (gdB b n).xs (gdB b n).lo (gdB b n).hi hx hy hz hlx true 0 (Or.inl ⟨hok, vv_iff.1 hu, rfl, iff_of_true rfl hin⟩) W h)
          clear hlx hok hin
          generalize gdB b n = u at *
          obtain ⟨uA, uC, ux, ul, uh⟩ := u
          dsimp only at e0 e1 e2 C5 HSL
          have hnn : (n : Int) < b.length := by omega
          have er : ∀ W, (binOp .eql 37 (.agg #[.int .i64 1, .int .i64 2]) (.agg #[.int .i64 1, .int .i64 2])).run Try.prog W = .ok (.bool true) W := fun W => rat_eq (by simp) W
          go_wp2_with fail
          have kp : ∀ {W : World}, Below w10.heap.size w10 W → W.cell? ⟨gh, 1, none⟩ = some (.int .i64 (n : Int)) ∧ W.cell? ⟨c0_, o0 + n * 3, none⟩ = some (.slice uA ux.length uC) ∧ W.cell? ⟨c0_, o0 + n * 3 + 1, none⟩ = some (.int .i64 ul) ∧ W.cell? ⟨c0_, o0 + n * 3 + 2, none⟩ = some (.int .i64 uh) ∧ W.cell? ⟨w.heap.size + 1, 0, none⟩ = some (.int .i64 hx) ∧ W.cell? ⟨w.heap.size + 1, 1, none⟩ = some (.int .i64 hy) ∧ W.cell? ⟨w.heap.size + 1, 2, none⟩ = some (.int .i64 hz) := fun h => ⟨keepc h t1_, keepc h e0, keepc h e1, keepc h e2, keepc h q0, keepc h q1, keepc h q2⟩
          have HF3 := Lib.hid (fun W (h : Below w10.heap.size w10 W) => C5.out W (HSL.out.below h))
          refine wp_region_held_drew (S := fun V => V.cell? ⟨gh, 1, none⟩ = some (.int .i64 (n : Int)) ∧ V.cell? ⟨c0_, o0 + n * 3, none⟩ = some (.slice uA ux.length uC) ∧ V.cell? ⟨c0_, o0 + n * 3 + 1, none⟩ = some (.int .i64 ul) ∧ V.cell? ⟨c0_, o0 + n * 3 + 2, none⟩ = some (.int .i64 uh) ∧ V.cell? ⟨w.heap.size + 1, 0, none⟩ = some (.int .i64 hx) ∧ V.cell? ⟨w.heap.size + 1, 1, none⟩ = some (.int .i64 hy) ∧ V.cell? ⟨w.heap.size + 1, 2, none⟩ = some (.int .i64 hz)) (by kernel_rfl) (kp (Below.refl _ _).drew) fun HL_ => ?_
          refine wpAnyH_take (i := 0) (v := .slice (some ⟨c0_, o0, none⟩) b.length bC) rfl (by kernel_rfl) (by kernel_rfl) (by kernel_rfl) (fun _ _ _ h => h) (Or.inl ⟨by kernel_rfl, ?_⟩) HL_ ?_
          · rintro Wl ⟨s0, s1, s2, s3, s4, s5, s6⟩
            go_simp
          simp only [Act.put, List.getElem_toArray, List.getElem_cons_succ, List.getElem_cons_zero, List.setIfInBounds_toArray, List.set_cons_zero, List.set_cons_succ]
          refine wpAnyH_take (i := 1) (v := .slice (some ⟨gh, 0, none⟩) 1 1) rfl (by kernel_rfl) (by kernel_rfl) (by kernel_rfl) (fun _ _ _ h => h) (Or.inl ⟨by kernel_rfl, ?_⟩) HL_ ?_
          · rintro Wl ⟨s0, s1, s2, s3, s4, s5, s6⟩
            go_simp
          simp only [Act.put, List.getElem_toArray, List.getElem_cons_succ, List.getElem_cons_zero, List.setIfInBounds_toArray, List.set_cons_zero, List.set_cons_succ]
          refine wpAnyH_take (i := 2) (v := .pointer (some ⟨gh, 0, none⟩)) rfl (by kernel_rfl) (by kernel_rfl) (by kernel_rfl) (fun _ _ _ h => h) (Or.inl ⟨by kernel_rfl, ?_⟩) HL_ ?_
          · rintro Wl ⟨s0, s1, s2, s3, s4, s5, s6⟩
            go_simp
          simp only [Act.put, List.getElem_toArray, List.getElem_cons_succ, List.getElem_cons_zero, List.setIfInBounds_toArray, List.set_cons_zero, List.set_cons_succ]
          refine wpAnyH_take (i := 3) (v := .pointer (some ⟨gh, 1, none⟩)) rfl (by kernel_rfl) (by kernel_rfl) (by kernel_rfl) (fun _ _ _ h => h) (Or.inl ⟨by kernel_rfl, ?_⟩) HL_ ?_
          · rintro Wl ⟨s0, s1, s2, s3, s4, s5, s6⟩
            go_simp
          simp only [Act.put, List.getElem_toArray, List.getElem_cons_succ, List.getElem_cons_zero, List.setIfInBounds_toArray, List.set_cons_zero, List.set_cons_succ]
          refine wpAnyH_take (i := 4) (v := .int .i64 (n : Int)) rfl (by kernel_rfl) (by kernel_rfl) (by kernel_rfl) (fun _ _ _ h => h) (Or.inl ⟨by kernel_rfl, ?_⟩) HL_ ?_
          · rintro Wl ⟨s0, s1, s2, s3, s4, s5, s6⟩
            go_simp
          simp only [Act.put, List.getElem_toArray, List.getElem_cons_succ, List.getElem_cons_zero, List.setIfInBounds_toArray, List.set_cons_zero, List.set_cons_succ]
          refine wpAnyH_take (i := 5) (v := .pointer (some ⟨c0_, o0 + n * 3, none⟩)) rfl (by kernel_rfl) (by kernel_rfl) (by kernel_rfl) (fun _ _ _ h => h) (Or.inl ⟨by kernel_rfl, ?_⟩) HL_ ?_
          · rintro Wl ⟨s0, s1, s2, s3, s4, s5, s6⟩
            go_simp
          simp only [Act.put, List.getElem_toArray, List.getElem_cons_succ, List.getElem_cons_zero, List.setIfInBounds_toArray, List.set_cons_zero, List.set_cons_succ]
          refine wpAnyH_take (i := 6) (v := .agg #[.slice uA ux.length uC, .int .i64 ul, .int .i64 uh]) rfl (by kernel_rfl) (by kernel_rfl) (by kernel_rfl) (fun _ _ _ h => h) (Or.inl ⟨by kernel_rfl, ?_⟩) HL_ ?_
          · rintro Wl ⟨s0, s1, s2, s3, s4, s5, s6⟩
            go_simp
          simp only [Act.put, List.getElem_toArray, List.getElem_cons_succ, List.getElem_cons_zero, List.setIfInBounds_toArray, List.set_cons_zero, List.set_cons_succ]
          refine wpAnyH_take (i := 7) (v := .agg #[.int .i64 hx, .int .i64 hy, .int .i64 hz]) rfl (by kernel_rfl) (by kernel_rfl) (by kernel_rfl) (fun _ _ _ h => h) (Or.inl ⟨by kernel_rfl, ?_⟩) HL_ ?_
          · rintro Wl ⟨s0, s1, s2, s3, s4, s5, s6⟩
            go_simp
          simp only [Act.put, List.getElem_toArray, List.getElem_cons_succ, List.getElem_cons_zero, List.setIfInBounds_toArray, List.set_cons_zero, List.set_cons_succ]
          refine wpAnyH_ready (rs := [8]) (by kernel_rfl) (by simp) ?_
          refine AllReadyH.cons (o := _) rfl (fun K hK => ?_) AllReadyH.nil
          go_simp
          with_reducible refine (HF3.out _ (Below.refl _ _).drew).mono ?_
          rintro e_ wh ⟨rfl, hb⟩
          have hB : Below w10.heap.size w10 wh := undrew_b hb
          refine hK.out _ _ (kp hB) fun HL_ => ?_
          clear hK K
          refine wpAnyH_take (i := 9) (v := .tuple #[.bool true, .int .i64 0]) rfl (by kernel_rfl) (by kernel_rfl) (by kernel_rfl) (fun _ _ _ h => h) (Or.inl ⟨by kernel_rfl, ?_⟩) HL_ ?_
          · rintro Wl ⟨s0, s1, s2, s3, s4, s5, s6⟩
            go_simp
          simp only [Act.put, List.getElem_toArray, List.getElem_cons_succ, List.getElem_cons_zero, List.setIfInBounds_toArray, List.set_cons_zero, List.set_cons_succ]
          refine wpAnyH_take (i := 10) (v := .bool true) rfl (by kernel_rfl) (by kernel_rfl) (by kernel_rfl) (fun _ _ _ h => h) (Or.inl ⟨by kernel_rfl, ?_⟩) HL_ ?_
          · rintro Wl ⟨s0, s1, s2, s3, s4, s5, s6⟩
            go_simp
          simp only [Act.put, List.getElem_toArray, List.getElem_cons_succ, List.getElem_cons_zero, List.setIfInBounds_toArray, List.set_cons_zero, List.set_cons_succ]
          refine wpAnyH_take (i := 11) (v := .int .i64 0) rfl (by kernel_rfl) (by kernel_rfl) (by kernel_rfl) (fun _ _ _ h => h) (Or.inl ⟨by kernel_rfl, ?_⟩) HL_ ?_
          · rintro Wl ⟨s0, s1, s2, s3, s4, s5, s6⟩
            go_simp
          simp only [Act.put, List.getElem_toArray, List.getElem_cons_succ, List.getElem_cons_zero, List.setIfInBounds_toArray, List.set_cons_zero, List.set_cons_succ]
          refine wpAnyH_take (i := 12) (v := .bool true) rfl (by kernel_rfl) (by kernel_rfl) (by kernel_rfl) (fun _ _ _ h => h) (Or.inl ⟨by kernel_rfl, ?_⟩) HL_ ?_
          · rintro Wl ⟨s0, s1, s2, s3, s4, s5, s6⟩
            go_simp
          simp only [Act.put, List.getElem_toArray, List.getElem_cons_succ, List.getElem_cons_zero, List.setIfInBounds_toArray, List.set_cons_zero, List.set_cons_succ]
          refine wpAnyH_take (i := 13) (v := .int .i64 0) rfl (by kernel_rfl) (by kernel_rfl) (by kernel_rfl) (fun _ _ _ h => h) (Or.inl ⟨by kernel_rfl, ?_⟩) HL_ ?_
          · rintro Wl ⟨s0, s1, s2, s3, s4, s5, s6⟩
            go_simp
          simp only [Act.put, List.getElem_toArray, List.getElem_cons_succ, List.getElem_cons_zero, List.setIfInBounds_toArray, List.set_cons_zero, List.set_cons_succ]
          refine wpAnyH_done (by kernel_rfl) ?_ _
          clear HL_ kp
          replace HB := Lib.hid (on_below HB.out hB)
          clear hb hB
          go_wp2_with fail
          go_ret
          exact ⟨rfl, HB.out⟩
        · clear hcd
          have C4 := Lib.hid (fun W c0 c1 c2 c3 (h : BdS W bA b) => lines_one ex ey ez (2 * hx - ex) (2 * hy - ey) (2 * hz - ez) bA bC b h5 hE 0 ((n : Int)) (c) (d) hl ga W c0 c1 c2 c3 h)
          clear hE hl
          with_reducible refine (C4.out _ a0 a1 a2 a3 HM.out).mono ?_
          rintro e_ w10 ⟨gh, rfl, ⟨t0_, t1_, t2_, t3_⟩, hb⟩
          replace HB := Lib.hid (on_below HB.out hb)
          replace HM := Lib.hid (HM.out.below hb)
          replace p0 := keepc hb p0
          replace p1 := keepc hb p1
          replace p2 := keepc hb p2
          replace q0 := keepc hb q0
          replace q1 := keepc hb q1
          replace q2 := keepc hb q2
          replace t0 := keepc hb t0
          replace t1 := keepc hb t1
          replace t2 := keepc hb t2
          replace a0 := keepc hb a0
          replace a1 := keepc hb a1
          replace a2 := keepc hb a2
          replace a3 := keepc hb a3
          replace lp := Nat.lt_of_lt_of_le lp hb.size
          replace lq := Nat.lt_of_lt_of_le lq hb.size
          replace lt := Nat.lt_of_lt_of_le lt hb.size
          replace la := Nat.lt_of_lt_of_le la hb.size
          clear hb
          have lt_ := block_lt t0_
          have hnn : (n : Int) < b.length := by omega
          have er : ∀ W, (binOp .eql 37 (.agg #[.int .i64 c, .int .i64 d]) (.agg #[.int .i64 1, .int .i64 2])).run Try.prog W = .ok (.bool false) W := fun W => rat_eq (by simpa using hc) W
          go_wp2_with fail
          all_goals go_ret
          all_goals exact ⟨rfl, HB.out⟩
theorem law_any (ex ey ez hx hy hz : Int) (bA : Option Addr) (bC : Nat) (b : List Bv) (w : World) (hb : LB w bA bC b) :
    Calls Try.prog 13 #[.agg #[.int .i64 ex, .int .i64 ey, .int .i64 ez], .agg #[.int .i64 hx, .int .i64 hy, .int .i64 hz], .slice bA b.length bC] w fun e_ w' => e_ = .returned (.bool true) ∧ Below w.heap.size w w' := by
  have h5 : b.length ≤ 9223372036854775807 := Nat.le_trans hb.cap.1 hb.cap.2
  have h6 := hb.len
  by_cases hf : Few 0 b
  · cases hv : vv ex ey ez
    · exact ins_1 ex ey ez hx hy hz bA bC b h5 h6 hf hv w hb.sl
    · cases hu : vv hx hy hz
      · exact ins_2 ex ey ez hx hy hz bA bC b h5 h6 hf hv hu w hb.sl
      · by_cases hq : ex = hx ∧ ey = hy ∧ ez = hz
        · exact ins_3 ex ey ez hx hy hz bA bC b h5 h6 hf hv hu hq w hb.sl
        · exact ins_4 ex ey ez hx hy hz bA bC b h5 h6 hf hb.cap hv hu hq w hb.sl
  · exact ins_0 ex ey ez hx hy hz bA bC b h5 h6 hf w hb.sl
/-! ### The row -/
open Go.ChangeShapes Go.WideShapes Go.ChangeAt Go.Joins
theorem own : ownKnob Try.prog.godebug = none := by kernel_rfl
noncomputable def laidWorld (os : Os) : World := World.holding Try.prog os ⟨#[], #[], []⟩
theorem laidWorld_met (os : Os) (args : Array Value) : laidMet Try.prog [] ((laidWorld os).forCall (fun _ _ => 0) ⟨#[], args, []⟩).memory :=
  laidMet_of_run' 8 (by kernel_rfl) (by kernel_rfl)

set_option maxRecDepth 100000 in
theorem contract (H : Type) (enc : TypeId × Value → H) (W : World) (base : Nat) (args : Array Value) (ds gs : List (DataW H)) (before : List MemPlace)
    (hval : ∀ (j : Nat) t v, Try.f13.params[j]? = some t → args[j]? = some v → Value.okWide Try.prog W .any base t v)
    (hW : DataW.Whole enc Try.prog Try.f13.params.toList Rows.sightInsideSpec.vars false W args.toList ds gs before) :
    Calls Try.prog 13 args W fun e W' => ∃ v, e = .returned v ∧ Rows.sightInsideSpec.post enc Try.prog Try.f13 false true false false W args v W' := by
  have hW' := hW
  have hold : ∀ q ∈ before, decide (q.block < W.heap.size) = true := fun q hq => by simpa using hW.lt q hq
  obtain ⟨p, q, hA0, hV, rfl, hfz, hnd⟩ := hW
  have hA : DataW.TrodAll enc Try.prog W 0 (fun _ => true) true Try.f13.params.toList args.toList ds p := hA0
  rw [Try.params13] at hA hval
  obtain ⟨v0, vs0, d0, ds0, p0, q0, hargs, rfl, rfl, h0, r0⟩ := trodAll_cons hA
  obtain ⟨v1, vs1, d1, ds1, p1, q1, rfl, rfl, rfl, h1, r1⟩ := trodAll_cons r0
  obtain ⟨v2, vs2, d2, ds2, p2, q2, rfl, rfl, rfl, h2, r2⟩ := trodAll_cons r1
  obtain ⟨rfl, rfl, rfl⟩ := trodAll_nil r2
  obtain rfl : args = #[v0, v1, v2] := Array.toList_inj.1 hargs
  obtain ⟨rfl, rfl⟩ := trodVars_none hV
  obtain ⟨ex, ey, ez, rfl, rfl, rfl, iex, iey, iez⟩ := open_vec (hval 0 26 v0 rfl rfl) h0
  obtain ⟨hx, hy, hz, rfl, rfl, rfl, ihx, ihy, ihz⟩ := open_vec (hval 1 26 v1 rfl rfl) h1
  obtain ⟨bA, bC, b, rfl, lb, shutb⟩ := open_bodies (hval 2 46 v2 rfl rfl) h2
  clear hA0
  refine (law_any ex ey ez hx hy hz bA bC b W lb).mono fun e W' ⟨he, bel⟩ => ?_
  subst he
  exact ⟨_, rfl, _, _, _, [], _, [], hW', trodAll_mk1 (shut_bool Try.underlying4 _), (trodAll_cons_mk (shut_vec iex iey iez) (trodAll_cons_mk (shut_vec ihx ihy ihz) (trodAll_cons_mk (shutb W' (fun b => decide (b < W.heap.size)) bel (fun q hq => hold q (by simp [hq]))) trodAll_mk0))), rfl, bel.frame _, fun h => by cases h⟩

theorem reads (os : Os) {H : Type} (enc : TypeId × Value → H) : ∃ places, DataW.whole enc Try.prog ((laidWorld os).forCall (fun _ _ => 0) ⟨#[], #[.agg #[.int .i64 0, .int .i64 0, .int .i64 0], .agg #[.int .i64 0, .int .i64 0, .int .i64 0], .slice none 0 0], []⟩).memory Try.f13.params.toList Rows.sightInsideSpec.vars false (#[.agg #[.int .i64 0, .int .i64 0, .int .i64 0], .agg #[.int .i64 0, .int .i64 0, .int .i64 0], .slice none 0 0] : Array Value).toList 8 = some ([.agg [.lit (.int .i64 0), .lit (.int .i64 0), .lit (.int .i64 0)], .agg [.lit (.int .i64 0), .lit (.int .i64 0), .lit (.int .i64 0)], .nil], [], places) :=
  ⟨[], by kernel_rfl⟩

set_option maxRecDepth 100000 in
theorem lifted (os : Os) (started : os.Started) (H : Type) (enc : TypeId × Value → H) (F : Stop.Interp) :
    ReturnsInHanded {} Try.checked os 13 .any ((OpenSpec.ofChange Rows.sightInsideSpec).preRow enc Try.prog Try.f13 Rows.sightInsideRow.domain false Rows.sightInsideRow.laid) (((OpenSpec.ofChange Rows.sightInsideSpec).at F).post enc Try.prog Try.f13 false true false false) := by
  obtain ⟨places, hx⟩ := reads os enc
  refine returnsInHanded_of_row (C := Try.checked) (s := OpenSpec.ofChange Rows.sightInsideSpec) own started (by kernel_rfl) Try.func13
    (witness_row_atRef (enc := enc) (C := Try.checked) false (laidWorld os) #[.agg #[.int .i64 0, .int .i64 0, .int .i64 0], .agg #[.int .i64 0, .int .i64 0, .int .i64 0], .slice none 0 0] rfl (by kernel_rfl) (by kernel_rfl) (by kernel_rfl)
      (OpenSpec.preRow_of_cond 8 hx (by kernel_rfl) (fun k hk => by cases hk) (by kernel_rfl) (laidWorld_met os _))) ?_
  intro W base args ds gs before hval hW _ hcond _ hL hsh _
  exact contract H enc W base args ds gs before hval hW

/-- The statement. -/
theorem said : Rows.SightInsideSaid :=
  OpenClaim.holds_of_cond 13 Try.f13 rfl rfl rfl rfl rfl rfl rfl ⟨rfl, rfl, rfl, rfl, rfl⟩ rfl rfl rfl rfl rfl (by kernel_rfl) Try.func13 (by kernel_rfl)
    (of_decide_eq_true (by kernel_rfl)) (by unfold Func.isWrapper; first | (rw [if_pos (by decide +kernel)]; kernel_rfl) | (rw [if_neg (by decide +kernel)]; exact ⟨rfl, rfl⟩))
    (fun os started H enc _ F => by rw [OpenClaim.pre_eq_preRow]; exact lifted os started H enc F)
end Go.Proofs.Ytehlplejcaofoaa.LawInside
