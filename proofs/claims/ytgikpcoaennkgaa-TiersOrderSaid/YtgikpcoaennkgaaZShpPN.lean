/-
  Package shape: Apart.
-/
import Derived.Test.YtgikpcoaennkgaaZShpPG
namespace Go.Proofs.Ytgikpcoaennkgaa
open Go.RowKit Go.Sort
open Go.RowKit (Below)
set_option linter.unusedVariables false
set_option linter.unusedSimpArgs false

set_option maxRecDepth 100000 in
set_option maxHeartbeats 2000000 in
theorem pap_1 (A B : Option Addr) (C D : Nat) (xs ys : List (Int × Int)) (la ha lb hb : Int) (hlx : xs.length ≤ 9223372036854775806) (hly : ys.length ≤ 9223372036854775806) (hra : false = true ↔ Bok xs la ha) (w : World) (hl : SlS w A xs) (hm : SlS w B ys) :
    Calls Try.prog 20 #[.agg #[.slice A xs.length C, .int .i64 la, .int .i64 ha], .agg #[.slice B ys.length D, .int .i64 lb, .int .i64 hb]] w fun e_ w' => e_ = .returned (.tuple #[.bool false, .int .i64 1]) ∧ Below w.heap.size w w' := by
  have CA := Lib.hid (fun W (h : SlS W A xs) => pvalid_is A C xs la ha hlx false hra W h)
  clear hra
  have HL := Lib.hid hl
  clear hl
  have HM := Lib.hid hm
  clear hm
  have p0 : World.cell? ((w.alloc (.cells #[.slice A xs.length C, .int .i64 la, .int .i64 ha] 47)).alloc (.cells #[.slice B ys.length D, .int .i64 lb, .int .i64 hb] 47)) ⟨w.heap.size, 0, none⟩ = some (.slice A xs.length C) := by simp [go_sem]
  have p1 : World.cell? ((w.alloc (.cells #[.slice A xs.length C, .int .i64 la, .int .i64 ha] 47)).alloc (.cells #[.slice B ys.length D, .int .i64 lb, .int .i64 hb] 47)) ⟨w.heap.size, 1, none⟩ = some (.int .i64 la) := by simp [go_sem]
  have p2 : World.cell? ((w.alloc (.cells #[.slice A xs.length C, .int .i64 la, .int .i64 ha] 47)).alloc (.cells #[.slice B ys.length D, .int .i64 lb, .int .i64 hb] 47)) ⟨w.heap.size, 2, none⟩ = some (.int .i64 ha) := by simp [go_sem]
  have lp : w.heap.size < ((w.alloc (.cells #[.slice A xs.length C, .int .i64 la, .int .i64 ha] 47)).alloc (.cells #[.slice B ys.length D, .int .i64 lb, .int .i64 hb] 47)).heap.size := by simp <;> omega
  have q0 : World.cell? ((w.alloc (.cells #[.slice A xs.length C, .int .i64 la, .int .i64 ha] 47)).alloc (.cells #[.slice B ys.length D, .int .i64 lb, .int .i64 hb] 47)) ⟨w.heap.size + 1, 0, none⟩ = some (.slice B ys.length D) := by simp [go_sem]
  have q1 : World.cell? ((w.alloc (.cells #[.slice A xs.length C, .int .i64 la, .int .i64 ha] 47)).alloc (.cells #[.slice B ys.length D, .int .i64 lb, .int .i64 hb] 47)) ⟨w.heap.size + 1, 1, none⟩ = some (.int .i64 lb) := by simp [go_sem]
  have q2 : World.cell? ((w.alloc (.cells #[.slice A xs.length C, .int .i64 la, .int .i64 ha] 47)).alloc (.cells #[.slice B ys.length D, .int .i64 lb, .int .i64 hb] 47)) ⟨w.heap.size + 1, 2, none⟩ = some (.int .i64 hb) := by simp [go_sem]
  have lq : w.heap.size + 1 < ((w.alloc (.cells #[.slice A xs.length C, .int .i64 la, .int .i64 ha] 47)).alloc (.cells #[.slice B ys.length D, .int .i64 lb, .int .i64 hb] 47)).heap.size := by simp <;> omega
  have HB := Lib.hid (show Below w.heap.size w ((w.alloc (.cells #[.slice A xs.length C, .int .i64 la, .int .i64 ha] 47)).alloc (.cells #[.slice B ys.length D, .int .i64 lb, .int .i64 hb] 47)) from (((Below.refl _ _).alloc (by simp <;> omega) _).alloc (by simp <;> omega) _))
  go_enter Try.func20, Try.ntmps20
  go_upto_region 1 with fail
  generalize (w.alloc (.cells #[.slice A xs.length C, .int .i64 la, .int .i64 ha] 47)).alloc (.cells #[.slice B ys.length D, .int .i64 lb, .int .i64 hb] 47) = w1 at *
  replace HL := Lib.hid (HL.out.below HB.out)
  replace HM := Lib.hid (HM.out.below HB.out)
  go_wp2_with fail
  with_reducible refine (CA.out _ HL.out).mono ?_
  rintro e_ w2 ⟨rfl, hb⟩
  replace HB := Lib.hid (on_below HB.out hb)
  replace HL := Lib.hid (HL.out.below hb)
  replace HM := Lib.hid (HM.out.below hb)
  replace p0 := keepc hb p0
  replace p1 := keepc hb p1
  replace p2 := keepc hb p2
  replace q0 := keepc hb q0
  replace q1 := keepc hb q1
  replace q2 := keepc hb q2
  replace lp := Nat.lt_of_lt_of_le lp hb.size
  replace lq := Nat.lt_of_lt_of_le lq hb.size
  clear hb
  go_wp2_with fail
  go_ret2
  exact ⟨rfl, HB.out⟩
set_option maxRecDepth 100000 in
set_option maxHeartbeats 2000000 in
theorem pap_2 (A B : Option Addr) (C D : Nat) (xs ys : List (Int × Int)) (la ha lb hb : Int) (hlx : xs.length ≤ 9223372036854775806) (hly : ys.length ≤ 9223372036854775806) (hra : true = true ↔ Bok xs la ha) (hrb : false = true ↔ Bok ys lb hb) (w : World) (hl : SlS w A xs) (hm : SlS w B ys) :
    Calls Try.prog 20 #[.agg #[.slice A xs.length C, .int .i64 la, .int .i64 ha], .agg #[.slice B ys.length D, .int .i64 lb, .int .i64 hb]] w fun e_ w' => e_ = .returned (.tuple #[.bool false, .int .i64 1]) ∧ Below w.heap.size w w' := by
  have CA := Lib.hid (fun W (h : SlS W A xs) => pvalid_is A C xs la ha hlx true hra W h)
  clear hra
  have CB := Lib.hid (fun W (h : SlS W B ys) => pvalid_is B D ys lb hb hly false hrb W h)
  clear hrb
  have HL := Lib.hid hl
  clear hl
  have HM := Lib.hid hm
  clear hm
  have p0 : World.cell? ((w.alloc (.cells #[.slice A xs.length C, .int .i64 la, .int .i64 ha] 47)).alloc (.cells #[.slice B ys.length D, .int .i64 lb, .int .i64 hb] 47)) ⟨w.heap.size, 0, none⟩ = some (.slice A xs.length C) := by simp [go_sem]
  have p1 : World.cell? ((w.alloc (.cells #[.slice A xs.length C, .int .i64 la, .int .i64 ha] 47)).alloc (.cells #[.slice B ys.length D, .int .i64 lb, .int .i64 hb] 47)) ⟨w.heap.size, 1, none⟩ = some (.int .i64 la) := by simp [go_sem]
  have p2 : World.cell? ((w.alloc (.cells #[.slice A xs.length C, .int .i64 la, .int .i64 ha] 47)).alloc (.cells #[.slice B ys.length D, .int .i64 lb, .int .i64 hb] 47)) ⟨w.heap.size, 2, none⟩ = some (.int .i64 ha) := by simp [go_sem]
  have lp : w.heap.size < ((w.alloc (.cells #[.slice A xs.length C, .int .i64 la, .int .i64 ha] 47)).alloc (.cells #[.slice B ys.length D, .int .i64 lb, .int .i64 hb] 47)).heap.size := by simp <;> omega
  have q0 : World.cell? ((w.alloc (.cells #[.slice A xs.length C, .int .i64 la, .int .i64 ha] 47)).alloc (.cells #[.slice B ys.length D, .int .i64 lb, .int .i64 hb] 47)) ⟨w.heap.size + 1, 0, none⟩ = some (.slice B ys.length D) := by simp [go_sem]
  have q1 : World.cell? ((w.alloc (.cells #[.slice A xs.length C, .int .i64 la, .int .i64 ha] 47)).alloc (.cells #[.slice B ys.length D, .int .i64 lb, .int .i64 hb] 47)) ⟨w.heap.size + 1, 1, none⟩ = some (.int .i64 lb) := by simp [go_sem]
  have q2 : World.cell? ((w.alloc (.cells #[.slice A xs.length C, .int .i64 la, .int .i64 ha] 47)).alloc (.cells #[.slice B ys.length D, .int .i64 lb, .int .i64 hb] 47)) ⟨w.heap.size + 1, 2, none⟩ = some (.int .i64 hb) := by simp [go_sem]
  have lq : w.heap.size + 1 < ((w.alloc (.cells #[.slice A xs.length C, .int .i64 la, .int .i64 ha] 47)).alloc (.cells #[.slice B ys.length D, .int .i64 lb, .int .i64 hb] 47)).heap.size := by simp <;> omega
  have HB := Lib.hid (show Below w.heap.size w ((w.alloc (.cells #[.slice A xs.length C, .int .i64 la, .int .i64 ha] 47)).alloc (.cells #[.slice B ys.length D, .int .i64 lb, .int .i64 hb] 47)) from (((Below.refl _ _).alloc (by simp <;> omega) _).alloc (by simp <;> omega) _))
  go_enter Try.func20, Try.ntmps20
  go_upto_region 1 with fail
  generalize (w.alloc (.cells #[.slice A xs.length C, .int .i64 la, .int .i64 ha] 47)).alloc (.cells #[.slice B ys.length D, .int .i64 lb, .int .i64 hb] 47) = w1 at *
  replace HL := Lib.hid (HL.out.below HB.out)
  replace HM := Lib.hid (HM.out.below HB.out)
  go_wp2_with fail
  with_reducible refine (CA.out _ HL.out).mono ?_
  rintro e_ w2 ⟨rfl, hb⟩
  replace HB := Lib.hid (on_below HB.out hb)
  replace HL := Lib.hid (HL.out.below hb)
  replace HM := Lib.hid (HM.out.below hb)
  replace p0 := keepc hb p0
  replace p1 := keepc hb p1
  replace p2 := keepc hb p2
  replace q0 := keepc hb q0
  replace q1 := keepc hb q1
  replace q2 := keepc hb q2
  replace lp := Nat.lt_of_lt_of_le lp hb.size
  replace lq := Nat.lt_of_lt_of_le lq hb.size
  clear hb
  go_wp2_with fail
  with_reducible refine (CB.out _ HM.out).mono ?_
  rintro e_ w3 ⟨rfl, hb⟩
  replace HB := Lib.hid (on_below HB.out hb)
  replace HL := Lib.hid (HL.out.below hb)
  replace HM := Lib.hid (HM.out.below hb)
  replace p0 := keepc hb p0
  replace p1 := keepc hb p1
  replace p2 := keepc hb p2
  replace q0 := keepc hb q0
  replace q1 := keepc hb q1
  replace q2 := keepc hb q2
  replace lp := Nat.lt_of_lt_of_le lp hb.size
  replace lq := Nat.lt_of_lt_of_le lq hb.size
  clear hb
  go_wp2_with fail
  go_ret2
  exact ⟨rfl, HB.out⟩
set_option maxRecDepth 100000 in
set_option maxHeartbeats 2000000 in
theorem pap_3 (A B : Option Addr) (C D : Nat) (xs ys : List (Int × Int)) (la ha lb hb : Int) (hlx : xs.length ≤ 9223372036854775806) (hly : ys.length ≤ 9223372036854775806) (hra : true = true ↔ Bok xs la ha) (hrb : true = true ↔ Bok ys lb hb) (c1 : hb ≤ la) (w : World) (hl : SlS w A xs) (hm : SlS w B ys) :
    Calls Try.prog 20 #[.agg #[.slice A xs.length C, .int .i64 la, .int .i64 ha], .agg #[.slice B ys.length D, .int .i64 lb, .int .i64 hb]] w fun e_ w' => e_ = .returned (.tuple #[.bool true, .int .i64 0]) ∧ Below w.heap.size w w' := by
  have CA := Lib.hid (fun W (h : SlS W A xs) => pvalid_is A C xs la ha hlx true hra W h)
  clear hra
  have CB := Lib.hid (fun W (h : SlS W B ys) => pvalid_is B D ys lb hb hly true hrb W h)
  clear hrb
  have HL := Lib.hid hl
  clear hl
  have HM := Lib.hid hm
  clear hm
  have p0 : World.cell? ((w.alloc (.cells #[.slice A xs.length C, .int .i64 la, .int .i64 ha] 47)).alloc (.cells #[.slice B ys.length D, .int .i64 lb, .int .i64 hb] 47)) ⟨w.heap.size, 0, none⟩ = some (.slice A xs.length C) := by simp [go_sem]
  have p1 : World.cell? ((w.alloc (.cells #[.slice A xs.length C, .int .i64 la, .int .i64 ha] 47)).alloc (.cells #[.slice B ys.length D, .int .i64 lb, .int .i64 hb] 47)) ⟨w.heap.size, 1, none⟩ = some (.int .i64 la) := by simp [go_sem]
  have p2 : World.cell? ((w.alloc (.cells #[.slice A xs.length C, .int .i64 la, .int .i64 ha] 47)).alloc (.cells #[.slice B ys.length D, .int .i64 lb, .int .i64 hb] 47)) ⟨w.heap.size, 2, none⟩ = some (.int .i64 ha) := by simp [go_sem]
  have lp : w.heap.size < ((w.alloc (.cells #[.slice A xs.length C, .int .i64 la, .int .i64 ha] 47)).alloc (.cells #[.slice B ys.length D, .int .i64 lb, .int .i64 hb] 47)).heap.size := by simp <;> omega
  have q0 : World.cell? ((w.alloc (.cells #[.slice A xs.length C, .int .i64 la, .int .i64 ha] 47)).alloc (.cells #[.slice B ys.length D, .int .i64 lb, .int .i64 hb] 47)) ⟨w.heap.size + 1, 0, none⟩ = some (.slice B ys.length D) := by simp [go_sem]
  have q1 : World.cell? ((w.alloc (.cells #[.slice A xs.length C, .int .i64 la, .int .i64 ha] 47)).alloc (.cells #[.slice B ys.length D, .int .i64 lb, .int .i64 hb] 47)) ⟨w.heap.size + 1, 1, none⟩ = some (.int .i64 lb) := by simp [go_sem]
  have q2 : World.cell? ((w.alloc (.cells #[.slice A xs.length C, .int .i64 la, .int .i64 ha] 47)).alloc (.cells #[.slice B ys.length D, .int .i64 lb, .int .i64 hb] 47)) ⟨w.heap.size + 1, 2, none⟩ = some (.int .i64 hb) := by simp [go_sem]
  have lq : w.heap.size + 1 < ((w.alloc (.cells #[.slice A xs.length C, .int .i64 la, .int .i64 ha] 47)).alloc (.cells #[.slice B ys.length D, .int .i64 lb, .int .i64 hb] 47)).heap.size := by simp <;> omega
  have HB := Lib.hid (show Below w.heap.size w ((w.alloc (.cells #[.slice A xs.length C, .int .i64 la, .int .i64 ha] 47)).alloc (.cells #[.slice B ys.length D, .int .i64 lb, .int .i64 hb] 47)) from (((Below.refl _ _).alloc (by simp <;> omega) _).alloc (by simp <;> omega) _))
  go_enter Try.func20, Try.ntmps20
  go_upto_region 1 with fail
  generalize (w.alloc (.cells #[.slice A xs.length C, .int .i64 la, .int .i64 ha] 47)).alloc (.cells #[.slice B ys.length D, .int .i64 lb, .int .i64 hb] 47) = w1 at *
  replace HL := Lib.hid (HL.out.below HB.out)
  replace HM := Lib.hid (HM.out.below HB.out)
  go_wp2_with fail
  with_reducible refine (CA.out _ HL.out).mono ?_
  rintro e_ w2 ⟨rfl, hb⟩
  replace HB := Lib.hid (on_below HB.out hb)
  replace HL := Lib.hid (HL.out.below hb)
  replace HM := Lib.hid (HM.out.below hb)
  replace p0 := keepc hb p0
  replace p1 := keepc hb p1
  replace p2 := keepc hb p2
  replace q0 := keepc hb q0
  replace q1 := keepc hb q1
  replace q2 := keepc hb q2
  replace lp := Nat.lt_of_lt_of_le lp hb.size
  replace lq := Nat.lt_of_lt_of_le lq hb.size
  clear hb
  go_wp2_with fail
  with_reducible refine (CB.out _ HM.out).mono ?_
  rintro e_ w3 ⟨rfl, hb⟩
  replace HB := Lib.hid (on_below HB.out hb)
  replace HL := Lib.hid (HL.out.below hb)
  replace HM := Lib.hid (HM.out.below hb)
  replace p0 := keepc hb p0
  replace p1 := keepc hb p1
  replace p2 := keepc hb p2
  replace q0 := keepc hb q0
  replace q1 := keepc hb q1
  replace q2 := keepc hb q2
  replace lp := Nat.lt_of_lt_of_le lp hb.size
  replace lq := Nat.lt_of_lt_of_le lq hb.size
  clear hb
  go_wp2_with fail
  go_ret2
  exact ⟨rfl, HB.out⟩
set_option maxRecDepth 100000 in
set_option maxHeartbeats 2000000 in
theorem pap_4 (A B : Option Addr) (C D : Nat) (xs ys : List (Int × Int)) (la ha lb hb : Int) (hlx : xs.length ≤ 9223372036854775806) (hly : ys.length ≤ 9223372036854775806) (hra : true = true ↔ Bok xs la ha) (hrb : true = true ↔ Bok ys lb hb) (c1 : ¬ hb ≤ la) (c2 : ha ≤ lb) (w : World) (hl : SlS w A xs) (hm : SlS w B ys) :
    Calls Try.prog 20 #[.agg #[.slice A xs.length C, .int .i64 la, .int .i64 ha], .agg #[.slice B ys.length D, .int .i64 lb, .int .i64 hb]] w fun e_ w' => e_ = .returned (.tuple #[.bool true, .int .i64 0]) ∧ Below w.heap.size w w' := by
  have CA := Lib.hid (fun W (h : SlS W A xs) => pvalid_is A C xs la ha hlx true hra W h)
  clear hra
  have CB := Lib.hid (fun W (h : SlS W B ys) => pvalid_is B D ys lb hb hly true hrb W h)
  clear hrb
  have HL := Lib.hid hl
  clear hl
  have HM := Lib.hid hm
  clear hm
  have p0 : World.cell? ((w.alloc (.cells #[.slice A xs.length C, .int .i64 la, .int .i64 ha] 47)).alloc (.cells #[.slice B ys.length D, .int .i64 lb, .int .i64 hb] 47)) ⟨w.heap.size, 0, none⟩ = some (.slice A xs.length C) := by simp [go_sem]
  have p1 : World.cell? ((w.alloc (.cells #[.slice A xs.length C, .int .i64 la, .int .i64 ha] 47)).alloc (.cells #[.slice B ys.length D, .int .i64 lb, .int .i64 hb] 47)) ⟨w.heap.size, 1, none⟩ = some (.int .i64 la) := by simp [go_sem]
  have p2 : World.cell? ((w.alloc (.cells #[.slice A xs.length C, .int .i64 la, .int .i64 ha] 47)).alloc (.cells #[.slice B ys.length D, .int .i64 lb, .int .i64 hb] 47)) ⟨w.heap.size, 2, none⟩ = some (.int .i64 ha) := by simp [go_sem]
  have lp : w.heap.size < ((w.alloc (.cells #[.slice A xs.length C, .int .i64 la, .int .i64 ha] 47)).alloc (.cells #[.slice B ys.length D, .int .i64 lb, .int .i64 hb] 47)).heap.size := by simp <;> omega
  have q0 : World.cell? ((w.alloc (.cells #[.slice A xs.length C, .int .i64 la, .int .i64 ha] 47)).alloc (.cells #[.slice B ys.length D, .int .i64 lb, .int .i64 hb] 47)) ⟨w.heap.size + 1, 0, none⟩ = some (.slice B ys.length D) := by simp [go_sem]
  have q1 : World.cell? ((w.alloc (.cells #[.slice A xs.length C, .int .i64 la, .int .i64 ha] 47)).alloc (.cells #[.slice B ys.length D, .int .i64 lb, .int .i64 hb] 47)) ⟨w.heap.size + 1, 1, none⟩ = some (.int .i64 lb) := by simp [go_sem]
  have q2 : World.cell? ((w.alloc (.cells #[.slice A xs.length C, .int .i64 la, .int .i64 ha] 47)).alloc (.cells #[.slice B ys.length D, .int .i64 lb, .int .i64 hb] 47)) ⟨w.heap.size + 1, 2, none⟩ = some (.int .i64 hb) := by simp [go_sem]
  have lq : w.heap.size + 1 < ((w.alloc (.cells #[.slice A xs.length C, .int .i64 la, .int .i64 ha] 47)).alloc (.cells #[.slice B ys.length D, .int .i64 lb, .int .i64 hb] 47)).heap.size := by simp <;> omega
  have HB := Lib.hid (show Below w.heap.size w ((w.alloc (.cells #[.slice A xs.length C, .int .i64 la, .int .i64 ha] 47)).alloc (.cells #[.slice B ys.length D, .int .i64 lb, .int .i64 hb] 47)) from (((Below.refl _ _).alloc (by simp <;> omega) _).alloc (by simp <;> omega) _))
  go_enter Try.func20, Try.ntmps20
  go_upto_region 1 with fail
  generalize (w.alloc (.cells #[.slice A xs.length C, .int .i64 la, .int .i64 ha] 47)).alloc (.cells #[.slice B ys.length D, .int .i64 lb, .int .i64 hb] 47) = w1 at *
  replace HL := Lib.hid (HL.out.below HB.out)
  replace HM := Lib.hid (HM.out.below HB.out)
  go_wp2_with fail
  with_reducible refine (CA.out _ HL.out).mono ?_
  rintro e_ w2 ⟨rfl, hb⟩
  replace HB := Lib.hid (on_below HB.out hb)
  replace HL := Lib.hid (HL.out.below hb)
  replace HM := Lib.hid (HM.out.below hb)
  replace p0 := keepc hb p0
  replace p1 := keepc hb p1
  replace p2 := keepc hb p2
  replace q0 := keepc hb q0
  replace q1 := keepc hb q1
  replace q2 := keepc hb q2
  replace lp := Nat.lt_of_lt_of_le lp hb.size
  replace lq := Nat.lt_of_lt_of_le lq hb.size
  clear hb
  go_wp2_with fail
  with_reducible refine (CB.out _ HM.out).mono ?_
  rintro e_ w3 ⟨rfl, hb⟩
  replace HB := Lib.hid (on_below HB.out hb)
  replace HL := Lib.hid (HL.out.below hb)
  replace HM := Lib.hid (HM.out.below hb)
  replace p0 := keepc hb p0
  replace p1 := keepc hb p1
  replace p2 := keepc hb p2
  replace q0 := keepc hb q0
  replace q1 := keepc hb q1
  replace q2 := keepc hb q2
  replace lp := Nat.lt_of_lt_of_le lp hb.size
  replace lq := Nat.lt_of_lt_of_le lq hb.size
  clear hb
  go_wp2_with fail
  go_ret2
  exact ⟨rfl, HB.out⟩
set_option maxRecDepth 100000 in
set_option maxHeartbeats 2000000 in
theorem pap_5 (A B : Option Addr) (C D : Nat) (xs ys : List (Int × Int)) (la ha lb hb : Int) (hlx : xs.length ≤ 9223372036854775806) (hly : ys.length ≤ 9223372036854775806) (hra : true = true ↔ Bok xs la ha) (hrb : true = true ↔ Bok ys lb hb) (c1 : ¬ hb ≤ la) (c2 : ¬ ha ≤ lb) (h1 : Par ys xs) (w : World) (hl : SlS w A xs) (hm : SlS w B ys) :
    Calls Try.prog 20 #[.agg #[.slice A xs.length C, .int .i64 la, .int .i64 ha], .agg #[.slice B ys.length D, .int .i64 lb, .int .i64 hb]] w fun e_ w' => e_ = .returned (.tuple #[.bool true, .int .i64 0]) ∧ Below w.heap.size w w' := by
  have ba := Lib.hid (hra.1 rfl)
  have bb := Lib.hid (hrb.1 rfl)
  have G1 := Lib.hid h1
  clear h1
  have CA := Lib.hid (fun W (h : SlS W A xs) => pvalid_is A C xs la ha hlx true hra W h)
  clear hra
  have CB := Lib.hid (fun W (h : SlS W B ys) => pvalid_is B D ys lb hb hly true hrb W h)
  clear hrb
  have HL := Lib.hid hl
  clear hl
  have HM := Lib.hid hm
  clear hm
  have p0 : World.cell? ((w.alloc (.cells #[.slice A xs.length C, .int .i64 la, .int .i64 ha] 47)).alloc (.cells #[.slice B ys.length D, .int .i64 lb, .int .i64 hb] 47)) ⟨w.heap.size, 0, none⟩ = some (.slice A xs.length C) := by simp [go_sem]
  have p1 : World.cell? ((w.alloc (.cells #[.slice A xs.length C, .int .i64 la, .int .i64 ha] 47)).alloc (.cells #[.slice B ys.length D, .int .i64 lb, .int .i64 hb] 47)) ⟨w.heap.size, 1, none⟩ = some (.int .i64 la) := by simp [go_sem]
  have p2 : World.cell? ((w.alloc (.cells #[.slice A xs.length C, .int .i64 la, .int .i64 ha] 47)).alloc (.cells #[.slice B ys.length D, .int .i64 lb, .int .i64 hb] 47)) ⟨w.heap.size, 2, none⟩ = some (.int .i64 ha) := by simp [go_sem]
  have lp : w.heap.size < ((w.alloc (.cells #[.slice A xs.length C, .int .i64 la, .int .i64 ha] 47)).alloc (.cells #[.slice B ys.length D, .int .i64 lb, .int .i64 hb] 47)).heap.size := by simp <;> omega
  have q0 : World.cell? ((w.alloc (.cells #[.slice A xs.length C, .int .i64 la, .int .i64 ha] 47)).alloc (.cells #[.slice B ys.length D, .int .i64 lb, .int .i64 hb] 47)) ⟨w.heap.size + 1, 0, none⟩ = some (.slice B ys.length D) := by simp [go_sem]
  have q1 : World.cell? ((w.alloc (.cells #[.slice A xs.length C, .int .i64 la, .int .i64 ha] 47)).alloc (.cells #[.slice B ys.length D, .int .i64 lb, .int .i64 hb] 47)) ⟨w.heap.size + 1, 1, none⟩ = some (.int .i64 lb) := by simp [go_sem]
  have q2 : World.cell? ((w.alloc (.cells #[.slice A xs.length C, .int .i64 la, .int .i64 ha] 47)).alloc (.cells #[.slice B ys.length D, .int .i64 lb, .int .i64 hb] 47)) ⟨w.heap.size + 1, 2, none⟩ = some (.int .i64 hb) := by simp [go_sem]
  have lq : w.heap.size + 1 < ((w.alloc (.cells #[.slice A xs.length C, .int .i64 la, .int .i64 ha] 47)).alloc (.cells #[.slice B ys.length D, .int .i64 lb, .int .i64 hb] 47)).heap.size := by simp <;> omega
  have HB := Lib.hid (show Below w.heap.size w ((w.alloc (.cells #[.slice A xs.length C, .int .i64 la, .int .i64 ha] 47)).alloc (.cells #[.slice B ys.length D, .int .i64 lb, .int .i64 hb] 47)) from (((Below.refl _ _).alloc (by simp <;> omega) _).alloc (by simp <;> omega) _))
  go_enter Try.func20, Try.ntmps20
  go_upto_region 1 with fail
  generalize (w.alloc (.cells #[.slice A xs.length C, .int .i64 la, .int .i64 ha] 47)).alloc (.cells #[.slice B ys.length D, .int .i64 lb, .int .i64 hb] 47) = w1 at *
  replace HL := Lib.hid (HL.out.below HB.out)
  replace HM := Lib.hid (HM.out.below HB.out)
  go_wp2_with fail
  with_reducible refine (CA.out _ HL.out).mono ?_
  rintro e_ w2 ⟨rfl, hb⟩
  replace HB := Lib.hid (on_below HB.out hb)
  replace HL := Lib.hid (HL.out.below hb)
  replace HM := Lib.hid (HM.out.below hb)
  replace p0 := keepc hb p0
  replace p1 := keepc hb p1
  replace p2 := keepc hb p2
  replace q0 := keepc hb q0
  replace q1 := keepc hb q1
  replace q2 := keepc hb q2
  replace lp := Nat.lt_of_lt_of_le lp hb.size
  replace lq := Nat.lt_of_lt_of_le lq hb.size
  clear hb
  go_wp2_with fail
  with_reducible refine (CB.out _ HM.out).mono ?_
  rintro e_ w3 ⟨rfl, hb⟩
  replace HB := Lib.hid (on_below HB.out hb)
  replace HL := Lib.hid (HL.out.below hb)
  replace HM := Lib.hid (HM.out.below hb)
  replace p0 := keepc hb p0
  replace p1 := keepc hb p1
  replace p2 := keepc hb p2
  replace q0 := keepc hb q0
  replace q1 := keepc hb q1
  replace q2 := keepc hb q2
  replace lp := Nat.lt_of_lt_of_le lp hb.size
  replace lq := Nat.lt_of_lt_of_le lq hb.size
  clear hb
  go_wp2_with fail
  with_reducible refine (beside_is A B C D xs ys (fun j hj => bok_co ba.out hj) (fun j hj => bok_co bb.out hj) hlx hly true ⟨fun _ => G1.out, fun _ => rfl⟩ _ HL.out HM.out).mono ?_
  rintro e_ w4 ⟨rfl, hb⟩
  replace HB := Lib.hid (on_below HB.out hb)
  replace HL := Lib.hid (HL.out.below hb)
  replace HM := Lib.hid (HM.out.below hb)
  replace p0 := keepc hb p0
  replace p1 := keepc hb p1
  replace p2 := keepc hb p2
  replace q0 := keepc hb q0
  replace q1 := keepc hb q1
  replace q2 := keepc hb q2
  replace lp := Nat.lt_of_lt_of_le lp hb.size
  replace lq := Nat.lt_of_lt_of_le lq hb.size
  clear hb
  go_wp2_with fail
  go_ret2
  exact ⟨rfl, HB.out⟩
set_option maxRecDepth 100000 in
set_option maxHeartbeats 2000000 in
theorem pap_6 (A B : Option Addr) (C D : Nat) (xs ys : List (Int × Int)) (la ha lb hb : Int) (hlx : xs.length ≤ 9223372036854775806) (hly : ys.length ≤ 9223372036854775806) (hra : true = true ↔ Bok xs la ha) (hrb : true = true ↔ Bok ys lb hb) (c1 : ¬ hb ≤ la) (c2 : ¬ ha ≤ lb) (h1 : ¬ Par ys xs) (r : Bool) (h2 : r = true ↔ Par xs ys) (w : World) (hl : SlS w A xs) (hm : SlS w B ys) :
    Calls Try.prog 20 #[.agg #[.slice A xs.length C, .int .i64 la, .int .i64 ha], .agg #[.slice B ys.length D, .int .i64 lb, .int .i64 hb]] w fun e_ w' => e_ = .returned (.tuple #[.bool r, .int .i64 0]) ∧ Below w.heap.size w w' := by
  have ba := Lib.hid (hra.1 rfl)
  have bb := Lib.hid (hrb.1 rfl)
  have G1 := Lib.hid h1
  clear h1
  have G2 := Lib.hid h2
  clear h2
  have CA := Lib.hid (fun W (h : SlS W A xs) => pvalid_is A C xs la ha hlx true hra W h)
  clear hra
  have CB := Lib.hid (fun W (h : SlS W B ys) => pvalid_is B D ys lb hb hly true hrb W h)
  clear hrb
  have HL := Lib.hid hl
  clear hl
  have HM := Lib.hid hm
  clear hm
  have p0 : World.cell? ((w.alloc (.cells #[.slice A xs.length C, .int .i64 la, .int .i64 ha] 47)).alloc (.cells #[.slice B ys.length D, .int .i64 lb, .int .i64 hb] 47)) ⟨w.heap.size, 0, none⟩ = some (.slice A xs.length C) := by simp [go_sem]
  have p1 : World.cell? ((w.alloc (.cells #[.slice A xs.length C, .int .i64 la, .int .i64 ha] 47)).alloc (.cells #[.slice B ys.length D, .int .i64 lb, .int .i64 hb] 47)) ⟨w.heap.size, 1, none⟩ = some (.int .i64 la) := by simp [go_sem]
  have p2 : World.cell? ((w.alloc (.cells #[.slice A xs.length C, .int .i64 la, .int .i64 ha] 47)).alloc (.cells #[.slice B ys.length D, .int .i64 lb, .int .i64 hb] 47)) ⟨w.heap.size, 2, none⟩ = some (.int .i64 ha) := by simp [go_sem]
  have lp : w.heap.size < ((w.alloc (.cells #[.slice A xs.length C, .int .i64 la, .int .i64 ha] 47)).alloc (.cells #[.slice B ys.length D, .int .i64 lb, .int .i64 hb] 47)).heap.size := by simp <;> omega
  have q0 : World.cell? ((w.alloc (.cells #[.slice A xs.length C, .int .i64 la, .int .i64 ha] 47)).alloc (.cells #[.slice B ys.length D, .int .i64 lb, .int .i64 hb] 47)) ⟨w.heap.size + 1, 0, none⟩ = some (.slice B ys.length D) := by simp [go_sem]
  have q1 : World.cell? ((w.alloc (.cells #[.slice A xs.length C, .int .i64 la, .int .i64 ha] 47)).alloc (.cells #[.slice B ys.length D, .int .i64 lb, .int .i64 hb] 47)) ⟨w.heap.size + 1, 1, none⟩ = some (.int .i64 lb) := by simp [go_sem]
  have q2 : World.cell? ((w.alloc (.cells #[.slice A xs.length C, .int .i64 la, .int .i64 ha] 47)).alloc (.cells #[.slice B ys.length D, .int .i64 lb, .int .i64 hb] 47)) ⟨w.heap.size + 1, 2, none⟩ = some (.int .i64 hb) := by simp [go_sem]
  have lq : w.heap.size + 1 < ((w.alloc (.cells #[.slice A xs.length C, .int .i64 la, .int .i64 ha] 47)).alloc (.cells #[.slice B ys.length D, .int .i64 lb, .int .i64 hb] 47)).heap.size := by simp <;> omega
  have HB := Lib.hid (show Below w.heap.size w ((w.alloc (.cells #[.slice A xs.length C, .int .i64 la, .int .i64 ha] 47)).alloc (.cells #[.slice B ys.length D, .int .i64 lb, .int .i64 hb] 47)) from (((Below.refl _ _).alloc (by simp <;> omega) _).alloc (by simp <;> omega) _))
  go_enter Try.func20, Try.ntmps20
  go_upto_region 1 with fail
  generalize (w.alloc (.cells #[.slice A xs.length C, .int .i64 la, .int .i64 ha] 47)).alloc (.cells #[.slice B ys.length D, .int .i64 lb, .int .i64 hb] 47) = w1 at *
  replace HL := Lib.hid (HL.out.below HB.out)
  replace HM := Lib.hid (HM.out.below HB.out)
  go_wp2_with fail
  with_reducible refine (CA.out _ HL.out).mono ?_
  rintro e_ w2 ⟨rfl, hb⟩
  replace HB := Lib.hid (on_below HB.out hb)
  replace HL := Lib.hid (HL.out.below hb)
  replace HM := Lib.hid (HM.out.below hb)
  replace p0 := keepc hb p0
  replace p1 := keepc hb p1
  replace p2 := keepc hb p2
  replace q0 := keepc hb q0
  replace q1 := keepc hb q1
  replace q2 := keepc hb q2
  replace lp := Nat.lt_of_lt_of_le lp hb.size
  replace lq := Nat.lt_of_lt_of_le lq hb.size
  clear hb
  go_wp2_with fail
  with_reducible refine (CB.out _ HM.out).mono ?_
  rintro e_ w3 ⟨rfl, hb⟩
  replace HB := Lib.hid (on_below HB.out hb)
  replace HL := Lib.hid (HL.out.below hb)
  replace HM := Lib.hid (HM.out.below hb)
  replace p0 := keepc hb p0
  replace p1 := keepc hb p1
  replace p2 := keepc hb p2
  replace q0 := keepc hb q0
  replace q1 := keepc hb q1
  replace q2 := keepc hb q2
  replace lp := Nat.lt_of_lt_of_le lp hb.size
  replace lq := Nat.lt_of_lt_of_le lq hb.size
  clear hb
  go_wp2_with fail
  with_reducible refine (beside_is A B C D xs ys (fun j hj => bok_co ba.out hj) (fun j hj => bok_co bb.out hj) hlx hly false ⟨(fun h => by cases h), fun h => absurd h G1.out⟩ _ HL.out HM.out).mono ?_
  rintro e_ w4 ⟨rfl, hb⟩
  replace HB := Lib.hid (on_below HB.out hb)
  replace HL := Lib.hid (HL.out.below hb)
  replace HM := Lib.hid (HM.out.below hb)
  replace p0 := keepc hb p0
  replace p1 := keepc hb p1
  replace p2 := keepc hb p2
  replace q0 := keepc hb q0
  replace q1 := keepc hb q1
  replace q2 := keepc hb q2
  replace lp := Nat.lt_of_lt_of_le lp hb.size
  replace lq := Nat.lt_of_lt_of_le lq hb.size
  clear hb
  go_wp2_with fail
  with_reducible refine (beside_is B A D C ys xs (fun j hj => bok_co bb.out hj) (fun j hj => bok_co ba.out hj) hly hlx r G2.out _ HM.out HL.out).mono ?_
  rintro e_ w5 ⟨rfl, hb⟩
  replace HB := Lib.hid (on_below HB.out hb)
  replace HL := Lib.hid (HL.out.below hb)
  replace HM := Lib.hid (HM.out.below hb)
  replace p0 := keepc hb p0
  replace p1 := keepc hb p1
  replace p2 := keepc hb p2
  replace q0 := keepc hb q0
  replace q1 := keepc hb q1
  replace q2 := keepc hb q2
  replace lp := Nat.lt_of_lt_of_le lp hb.size
  replace lq := Nat.lt_of_lt_of_le lq hb.size
  clear hb
  cases r <;> (go_wp2_with fail; go_ret2; exact ⟨by first | rfl | simp [c1, c2], HB.out⟩)
theorem papart_is (A B : Option Addr) (C D : Nat) (xs ys : List (Int × Int)) (la ha lb hb : Int) (hlx : xs.length ≤ 9223372036854775806) (hly : ys.length ≤ 9223372036854775806) (r : Bool) (E : Int) (hE : (Bok xs la ha ∧ Bok ys lb hb ∧ E = 0 ∧ (r = true ↔ Apa xs la ha ys lb hb)) ∨ (¬ (Bok xs la ha ∧ Bok ys lb hb) ∧ E = 1 ∧ r = false)) (w : World) (hl : SlS w A xs) (hm : SlS w B ys) :
    Calls Try.prog 20 #[.agg #[.slice A xs.length C, .int .i64 la, .int .i64 ha], .agg #[.slice B ys.length D, .int .i64 lb, .int .i64 hb]] w fun e_ w' => e_ = .returned (.tuple #[.bool r, .int .i64 E]) ∧ Below w.heap.size w w' := by
  rcases hE with ⟨ba, bb, rfl, hr⟩ | ⟨hn, rfl, rfl⟩
  · have ka : true = true ↔ Bok xs la ha := ⟨fun _ => ba, fun _ => rfl⟩
    have kb : true = true ↔ Bok ys lb hb := ⟨fun _ => bb, fun _ => rfl⟩
    by_cases c1 : hb ≤ la
    · obtain rfl := true_of (hr.2 (Or.inr (Or.inl c1)))
      exact pap_3 A B C D xs ys la ha lb hb hlx hly ka kb c1 w hl hm
    · by_cases c2 : ha ≤ lb
      · obtain rfl := true_of (hr.2 (Or.inl c2))
        exact pap_4 A B C D xs ys la ha lb hb hlx hly ka kb c1 c2 w hl hm
      · by_cases p1 : Par ys xs
        · obtain rfl := true_of (hr.2 (Or.inr (Or.inr (Or.inr p1))))
          exact pap_5 A B C D xs ys la ha lb hb hlx hly ka kb c1 c2 p1 w hl hm
        · refine pap_6 A B C D xs ys la ha lb hb hlx hly ka kb c1 c2 p1 r ?_ w hl hm
          rw [hr]
          unfold Apa
          constructor
          · rintro (h | h | h | h)
            · exact absurd h c2
            · exact absurd h c1
            · exact h
            · exact absurd h p1
          · intro h; exact Or.inr (Or.inr (Or.inl h))
  · by_cases ba : Bok xs la ha
    · exact pap_2 A B C D xs ys la ha lb hb hlx hly ⟨fun _ => ba, fun _ => rfl⟩ ⟨(fun h => by cases h), fun h => absurd ⟨ba, h⟩ hn⟩ w hl hm
    · exact pap_1 A B C D xs ys la ha lb hb hlx hly ⟨(fun h => by cases h), fun h => absurd h ba⟩ w hl hm
end Go.Proofs.Ytgikpcoaennkgaa
