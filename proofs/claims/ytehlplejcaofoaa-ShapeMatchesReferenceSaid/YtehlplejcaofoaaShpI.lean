/-
  The reference of layer 8: Inside.
-/
import Derived.Test.YtehlplejcaofoaaShpH
namespace Go.Proofs.Ytehlplejcaofoaa
open Go.RowKit Go.Sort
open Go.RowKit (Below)
set_option linter.unusedVariables false
set_option linter.unusedSimpArgs false

set_option maxRecDepth 100000 in
set_option maxHeartbeats 2000000 in
theorem qin_1 (A : Option Addr) (C : Nat) (xs : List (Int × Int)) (lo hi a b c : Int) (hlx : xs.length ≤ 9223372036854775807) (hra : false = true ↔ Bok xs lo hi) (hrb : vv a b c = false) (w : World) (hl : SlS w A xs) :
    Calls Try.prog 17 #[.agg #[.slice A xs.length C, .int .i64 lo, .int .i64 hi], .agg #[.int .i64 a, .int .i64 b, .int .i64 c]] w fun e_ w' => e_ = .returned (.tuple #[.bool false, .int .i64 1]) ∧ Below w.heap.size w w' := by
  have CA := Lib.hid (fun W (h : SlS W A xs) => qvalid_is A C xs lo hi hlx false hra W h)
  have CB := Lib.hid (fun W => qpoint_is a b c false hrb W)
  clear hra hrb
  have HL := Lib.hid hl
  clear hl
  have p0 : World.cell? ((w.alloc (.cells #[.slice A xs.length C, .int .i64 lo, .int .i64 hi] 24)).alloc (.cells #[.int .i64 a, .int .i64 b, .int .i64 c] 26)) ⟨w.heap.size, 0, none⟩ = some (.slice A xs.length C) := by simp [go_sem]
  have p1 : World.cell? ((w.alloc (.cells #[.slice A xs.length C, .int .i64 lo, .int .i64 hi] 24)).alloc (.cells #[.int .i64 a, .int .i64 b, .int .i64 c] 26)) ⟨w.heap.size, 1, none⟩ = some (.int .i64 lo) := by simp [go_sem]
  have p2 : World.cell? ((w.alloc (.cells #[.slice A xs.length C, .int .i64 lo, .int .i64 hi] 24)).alloc (.cells #[.int .i64 a, .int .i64 b, .int .i64 c] 26)) ⟨w.heap.size, 2, none⟩ = some (.int .i64 hi) := by simp [go_sem]
  have lp : w.heap.size < ((w.alloc (.cells #[.slice A xs.length C, .int .i64 lo, .int .i64 hi] 24)).alloc (.cells #[.int .i64 a, .int .i64 b, .int .i64 c] 26)).heap.size := by simp <;> omega
  have q0 : World.cell? ((w.alloc (.cells #[.slice A xs.length C, .int .i64 lo, .int .i64 hi] 24)).alloc (.cells #[.int .i64 a, .int .i64 b, .int .i64 c] 26)) ⟨w.heap.size + 1, 0, none⟩ = some (.int .i64 a) := by simp [go_sem]
  have q1 : World.cell? ((w.alloc (.cells #[.slice A xs.length C, .int .i64 lo, .int .i64 hi] 24)).alloc (.cells #[.int .i64 a, .int .i64 b, .int .i64 c] 26)) ⟨w.heap.size + 1, 1, none⟩ = some (.int .i64 b) := by simp [go_sem]
  have q2 : World.cell? ((w.alloc (.cells #[.slice A xs.length C, .int .i64 lo, .int .i64 hi] 24)).alloc (.cells #[.int .i64 a, .int .i64 b, .int .i64 c] 26)) ⟨w.heap.size + 1, 2, none⟩ = some (.int .i64 c) := by simp [go_sem]
  have lq : w.heap.size + 1 < ((w.alloc (.cells #[.slice A xs.length C, .int .i64 lo, .int .i64 hi] 24)).alloc (.cells #[.int .i64 a, .int .i64 b, .int .i64 c] 26)).heap.size := by simp <;> omega
  have HB := Lib.hid (show Below w.heap.size w ((w.alloc (.cells #[.slice A xs.length C, .int .i64 lo, .int .i64 hi] 24)).alloc (.cells #[.int .i64 a, .int .i64 b, .int .i64 c] 26)) from (((Below.refl _ _).alloc (by simp <;> omega) _).alloc (by simp <;> omega) _))
  go_enter Try.func17, Try.ntmps17
  go_upto_region 1 with fail
  generalize (w.alloc (.cells #[.slice A xs.length C, .int .i64 lo, .int .i64 hi] 24)).alloc (.cells #[.int .i64 a, .int .i64 b, .int .i64 c] 26) = w1 at *
  replace HL := Lib.hid (HL.out.below HB.out)
  go_wp2_with fail
  with_reducible refine (CA.out _ HL.out).mono ?_
  rintro e_ w2 ⟨rfl, hb⟩
  replace HB := Lib.hid (on_below HB.out hb)
  replace HL := Lib.hid (HL.out.below hb)
  replace p0 := keepc hb p0
  replace p1 := keepc hb p1
  replace p2 := keepc hb p2
  replace q0 := keepc hb q0
  replace q1 := keepc hb q1
  replace q2 := keepc hb q2
  replace lp := Nat.lt_of_lt_of_le lp hb.size
  replace lq := Nat.lt_of_lt_of_le lq hb.size
  clear hb
  go_wp2_with fail
  with_reducible refine (CB.out _).mono ?_
  rintro e_ w3 ⟨rfl, hb⟩
  replace HB := Lib.hid (on_below HB.out hb)
  replace HL := Lib.hid (HL.out.below hb)
  replace p0 := keepc hb p0
  replace p1 := keepc hb p1
  replace p2 := keepc hb p2
  replace q0 := keepc hb q0
  replace q1 := keepc hb q1
  replace q2 := keepc hb q2
  replace lp := Nat.lt_of_lt_of_le lp hb.size
  replace lq := Nat.lt_of_lt_of_le lq hb.size
  clear hb
  go_wp2_with fail
  go_ret2
  exact ⟨rfl, HB.out⟩
set_option maxRecDepth 100000 in
set_option maxHeartbeats 2000000 in
theorem qin_2 (A : Option Addr) (C : Nat) (xs : List (Int × Int)) (lo hi a b c : Int) (hlx : xs.length ≤ 9223372036854775807) (hra : false = true ↔ Bok xs lo hi) (hrb : vv a b c = true) (w : World) (hl : SlS w A xs) :
    Calls Try.prog 17 #[.agg #[.slice A xs.length C, .int .i64 lo, .int .i64 hi], .agg #[.int .i64 a, .int .i64 b, .int .i64 c]] w fun e_ w' => e_ = .returned (.tuple #[.bool false, .int .i64 1]) ∧ Below w.heap.size w w' := by
  have CA := Lib.hid (fun W (h : SlS W A xs) => qvalid_is A C xs lo hi hlx false hra W h)
  have CB := Lib.hid (fun W => qpoint_is a b c true hrb W)
  clear hra hrb
  have HL := Lib.hid hl
  clear hl
  have p0 : World.cell? ((w.alloc (.cells #[.slice A xs.length C, .int .i64 lo, .int .i64 hi] 24)).alloc (.cells #[.int .i64 a, .int .i64 b, .int .i64 c] 26)) ⟨w.heap.size, 0, none⟩ = some (.slice A xs.length C) := by simp [go_sem]
  have p1 : World.cell? ((w.alloc (.cells #[.slice A xs.length C, .int .i64 lo, .int .i64 hi] 24)).alloc (.cells #[.int .i64 a, .int .i64 b, .int .i64 c] 26)) ⟨w.heap.size, 1, none⟩ = some (.int .i64 lo) := by simp [go_sem]
  have p2 : World.cell? ((w.alloc (.cells #[.slice A xs.length C, .int .i64 lo, .int .i64 hi] 24)).alloc (.cells #[.int .i64 a, .int .i64 b, .int .i64 c] 26)) ⟨w.heap.size, 2, none⟩ = some (.int .i64 hi) := by simp [go_sem]
  have lp : w.heap.size < ((w.alloc (.cells #[.slice A xs.length C, .int .i64 lo, .int .i64 hi] 24)).alloc (.cells #[.int .i64 a, .int .i64 b, .int .i64 c] 26)).heap.size := by simp <;> omega
  have q0 : World.cell? ((w.alloc (.cells #[.slice A xs.length C, .int .i64 lo, .int .i64 hi] 24)).alloc (.cells #[.int .i64 a, .int .i64 b, .int .i64 c] 26)) ⟨w.heap.size + 1, 0, none⟩ = some (.int .i64 a) := by simp [go_sem]
  have q1 : World.cell? ((w.alloc (.cells #[.slice A xs.length C, .int .i64 lo, .int .i64 hi] 24)).alloc (.cells #[.int .i64 a, .int .i64 b, .int .i64 c] 26)) ⟨w.heap.size + 1, 1, none⟩ = some (.int .i64 b) := by simp [go_sem]
  have q2 : World.cell? ((w.alloc (.cells #[.slice A xs.length C, .int .i64 lo, .int .i64 hi] 24)).alloc (.cells #[.int .i64 a, .int .i64 b, .int .i64 c] 26)) ⟨w.heap.size + 1, 2, none⟩ = some (.int .i64 c) := by simp [go_sem]
  have lq : w.heap.size + 1 < ((w.alloc (.cells #[.slice A xs.length C, .int .i64 lo, .int .i64 hi] 24)).alloc (.cells #[.int .i64 a, .int .i64 b, .int .i64 c] 26)).heap.size := by simp <;> omega
  have HB := Lib.hid (show Below w.heap.size w ((w.alloc (.cells #[.slice A xs.length C, .int .i64 lo, .int .i64 hi] 24)).alloc (.cells #[.int .i64 a, .int .i64 b, .int .i64 c] 26)) from (((Below.refl _ _).alloc (by simp <;> omega) _).alloc (by simp <;> omega) _))
  go_enter Try.func17, Try.ntmps17
  go_upto_region 1 with fail
  generalize (w.alloc (.cells #[.slice A xs.length C, .int .i64 lo, .int .i64 hi] 24)).alloc (.cells #[.int .i64 a, .int .i64 b, .int .i64 c] 26) = w1 at *
  replace HL := Lib.hid (HL.out.below HB.out)
  go_wp2_with fail
  with_reducible refine (CA.out _ HL.out).mono ?_
  rintro e_ w2 ⟨rfl, hb⟩
  replace HB := Lib.hid (on_below HB.out hb)
  replace HL := Lib.hid (HL.out.below hb)
  replace p0 := keepc hb p0
  replace p1 := keepc hb p1
  replace p2 := keepc hb p2
  replace q0 := keepc hb q0
  replace q1 := keepc hb q1
  replace q2 := keepc hb q2
  replace lp := Nat.lt_of_lt_of_le lp hb.size
  replace lq := Nat.lt_of_lt_of_le lq hb.size
  clear hb
  go_wp2_with fail
  with_reducible refine (CB.out _).mono ?_
  rintro e_ w3 ⟨rfl, hb⟩
  replace HB := Lib.hid (on_below HB.out hb)
  replace HL := Lib.hid (HL.out.below hb)
  replace p0 := keepc hb p0
  replace p1 := keepc hb p1
  replace p2 := keepc hb p2
  replace q0 := keepc hb q0
  replace q1 := keepc hb q1
  replace q2 := keepc hb q2
  replace lp := Nat.lt_of_lt_of_le lp hb.size
  replace lq := Nat.lt_of_lt_of_le lq hb.size
  clear hb
  go_wp2_with fail
  go_ret2
  exact ⟨rfl, HB.out⟩
set_option maxRecDepth 100000 in
set_option maxHeartbeats 2000000 in
theorem qin_3 (A : Option Addr) (C : Nat) (xs : List (Int × Int)) (lo hi a b c : Int) (hlx : xs.length ≤ 9223372036854775807) (hra : true = true ↔ Bok xs lo hi) (hrb : vv a b c = false) (w : World) (hl : SlS w A xs) :
    Calls Try.prog 17 #[.agg #[.slice A xs.length C, .int .i64 lo, .int .i64 hi], .agg #[.int .i64 a, .int .i64 b, .int .i64 c]] w fun e_ w' => e_ = .returned (.tuple #[.bool false, .int .i64 1]) ∧ Below w.heap.size w w' := by
  have CA := Lib.hid (fun W (h : SlS W A xs) => qvalid_is A C xs lo hi hlx true hra W h)
  have CB := Lib.hid (fun W => qpoint_is a b c false hrb W)
  clear hra hrb
  have HL := Lib.hid hl
  clear hl
  have p0 : World.cell? ((w.alloc (.cells #[.slice A xs.length C, .int .i64 lo, .int .i64 hi] 24)).alloc (.cells #[.int .i64 a, .int .i64 b, .int .i64 c] 26)) ⟨w.heap.size, 0, none⟩ = some (.slice A xs.length C) := by simp [go_sem]
  have p1 : World.cell? ((w.alloc (.cells #[.slice A xs.length C, .int .i64 lo, .int .i64 hi] 24)).alloc (.cells #[.int .i64 a, .int .i64 b, .int .i64 c] 26)) ⟨w.heap.size, 1, none⟩ = some (.int .i64 lo) := by simp [go_sem]
  have p2 : World.cell? ((w.alloc (.cells #[.slice A xs.length C, .int .i64 lo, .int .i64 hi] 24)).alloc (.cells #[.int .i64 a, .int .i64 b, .int .i64 c] 26)) ⟨w.heap.size, 2, none⟩ = some (.int .i64 hi) := by simp [go_sem]
  have lp : w.heap.size < ((w.alloc (.cells #[.slice A xs.length C, .int .i64 lo, .int .i64 hi] 24)).alloc (.cells #[.int .i64 a, .int .i64 b, .int .i64 c] 26)).heap.size := by simp <;> omega
  have q0 : World.cell? ((w.alloc (.cells #[.slice A xs.length C, .int .i64 lo, .int .i64 hi] 24)).alloc (.cells #[.int .i64 a, .int .i64 b, .int .i64 c] 26)) ⟨w.heap.size + 1, 0, none⟩ = some (.int .i64 a) := by simp [go_sem]
  have q1 : World.cell? ((w.alloc (.cells #[.slice A xs.length C, .int .i64 lo, .int .i64 hi] 24)).alloc (.cells #[.int .i64 a, .int .i64 b, .int .i64 c] 26)) ⟨w.heap.size + 1, 1, none⟩ = some (.int .i64 b) := by simp [go_sem]
  have q2 : World.cell? ((w.alloc (.cells #[.slice A xs.length C, .int .i64 lo, .int .i64 hi] 24)).alloc (.cells #[.int .i64 a, .int .i64 b, .int .i64 c] 26)) ⟨w.heap.size + 1, 2, none⟩ = some (.int .i64 c) := by simp [go_sem]
  have lq : w.heap.size + 1 < ((w.alloc (.cells #[.slice A xs.length C, .int .i64 lo, .int .i64 hi] 24)).alloc (.cells #[.int .i64 a, .int .i64 b, .int .i64 c] 26)).heap.size := by simp <;> omega
  have HB := Lib.hid (show Below w.heap.size w ((w.alloc (.cells #[.slice A xs.length C, .int .i64 lo, .int .i64 hi] 24)).alloc (.cells #[.int .i64 a, .int .i64 b, .int .i64 c] 26)) from (((Below.refl _ _).alloc (by simp <;> omega) _).alloc (by simp <;> omega) _))
  go_enter Try.func17, Try.ntmps17
  go_upto_region 1 with fail
  generalize (w.alloc (.cells #[.slice A xs.length C, .int .i64 lo, .int .i64 hi] 24)).alloc (.cells #[.int .i64 a, .int .i64 b, .int .i64 c] 26) = w1 at *
  replace HL := Lib.hid (HL.out.below HB.out)
  go_wp2_with fail
  with_reducible refine (CA.out _ HL.out).mono ?_
  rintro e_ w2 ⟨rfl, hb⟩
  replace HB := Lib.hid (on_below HB.out hb)
  replace HL := Lib.hid (HL.out.below hb)
  replace p0 := keepc hb p0
  replace p1 := keepc hb p1
  replace p2 := keepc hb p2
  replace q0 := keepc hb q0
  replace q1 := keepc hb q1
  replace q2 := keepc hb q2
  replace lp := Nat.lt_of_lt_of_le lp hb.size
  replace lq := Nat.lt_of_lt_of_le lq hb.size
  clear hb
  go_wp2_with fail
  with_reducible refine (CB.out _).mono ?_
  rintro e_ w3 ⟨rfl, hb⟩
  replace HB := Lib.hid (on_below HB.out hb)
  replace HL := Lib.hid (HL.out.below hb)
  replace p0 := keepc hb p0
  replace p1 := keepc hb p1
  replace p2 := keepc hb p2
  replace q0 := keepc hb q0
  replace q1 := keepc hb q1
  replace q2 := keepc hb q2
  replace lp := Nat.lt_of_lt_of_le lp hb.size
  replace lq := Nat.lt_of_lt_of_le lq hb.size
  clear hb
  go_wp2_with fail
  go_ret2
  exact ⟨rfl, HB.out⟩
set_option maxRecDepth 100000 in
set_option maxHeartbeats 4000000 in
theorem qin_4 (A : Option Addr) (C : Nat) (xs : List (Int × Int)) (lo hi a b c : Int) (hlx : xs.length ≤ 9223372036854775807) (hra : true = true ↔ Bok xs lo hi) (hrb : vv a b c = true) (r : Bool) (hr : r = true ↔ InB xs lo hi a b c) (w : World) (hl : SlS w A xs) :
    Calls Try.prog 17 #[.agg #[.slice A xs.length C, .int .i64 lo, .int .i64 hi], .agg #[.int .i64 a, .int .i64 b, .int .i64 c]] w fun e_ w' => e_ = .returned (.tuple #[.bool r, .int .i64 0]) ∧ Below w.heap.size w w' := by
  have ba := Lib.hid (hra.1 rfl)
  have va := Lib.hid (vv_iff.1 hrb)
  have HR := Lib.hid hr
  clear hr
  have CA := Lib.hid (fun W (h : SlS W A xs) => qvalid_is A C xs lo hi hlx true hra W h)
  have CB := Lib.hid (fun W => qpoint_is a b c true hrb W)
  clear hra hrb
  have HL := Lib.hid hl
  clear hl
  have p0 : World.cell? ((w.alloc (.cells #[.slice A xs.length C, .int .i64 lo, .int .i64 hi] 24)).alloc (.cells #[.int .i64 a, .int .i64 b, .int .i64 c] 26)) ⟨w.heap.size, 0, none⟩ = some (.slice A xs.length C) := by simp [go_sem]
  have p1 : World.cell? ((w.alloc (.cells #[.slice A xs.length C, .int .i64 lo, .int .i64 hi] 24)).alloc (.cells #[.int .i64 a, .int .i64 b, .int .i64 c] 26)) ⟨w.heap.size, 1, none⟩ = some (.int .i64 lo) := by simp [go_sem]
  have p2 : World.cell? ((w.alloc (.cells #[.slice A xs.length C, .int .i64 lo, .int .i64 hi] 24)).alloc (.cells #[.int .i64 a, .int .i64 b, .int .i64 c] 26)) ⟨w.heap.size, 2, none⟩ = some (.int .i64 hi) := by simp [go_sem]
  have lp : w.heap.size < ((w.alloc (.cells #[.slice A xs.length C, .int .i64 lo, .int .i64 hi] 24)).alloc (.cells #[.int .i64 a, .int .i64 b, .int .i64 c] 26)).heap.size := by simp <;> omega
  have q0 : World.cell? ((w.alloc (.cells #[.slice A xs.length C, .int .i64 lo, .int .i64 hi] 24)).alloc (.cells #[.int .i64 a, .int .i64 b, .int .i64 c] 26)) ⟨w.heap.size + 1, 0, none⟩ = some (.int .i64 a) := by simp [go_sem]
  have q1 : World.cell? ((w.alloc (.cells #[.slice A xs.length C, .int .i64 lo, .int .i64 hi] 24)).alloc (.cells #[.int .i64 a, .int .i64 b, .int .i64 c] 26)) ⟨w.heap.size + 1, 1, none⟩ = some (.int .i64 b) := by simp [go_sem]
  have q2 : World.cell? ((w.alloc (.cells #[.slice A xs.length C, .int .i64 lo, .int .i64 hi] 24)).alloc (.cells #[.int .i64 a, .int .i64 b, .int .i64 c] 26)) ⟨w.heap.size + 1, 2, none⟩ = some (.int .i64 c) := by simp [go_sem]
  have lq : w.heap.size + 1 < ((w.alloc (.cells #[.slice A xs.length C, .int .i64 lo, .int .i64 hi] 24)).alloc (.cells #[.int .i64 a, .int .i64 b, .int .i64 c] 26)).heap.size := by simp <;> omega
  have HB := Lib.hid (show Below w.heap.size w ((w.alloc (.cells #[.slice A xs.length C, .int .i64 lo, .int .i64 hi] 24)).alloc (.cells #[.int .i64 a, .int .i64 b, .int .i64 c] 26)) from (((Below.refl _ _).alloc (by simp <;> omega) _).alloc (by simp <;> omega) _))
  go_enter Try.func17, Try.ntmps17
  go_upto_region 1 with fail
  generalize (w.alloc (.cells #[.slice A xs.length C, .int .i64 lo, .int .i64 hi] 24)).alloc (.cells #[.int .i64 a, .int .i64 b, .int .i64 c] 26) = w1 at *
  replace HL := Lib.hid (HL.out.below HB.out)
  go_wp2_with fail
  with_reducible refine (CA.out _ HL.out).mono ?_
  rintro e_ w2 ⟨rfl, hb⟩
  replace HB := Lib.hid (on_below HB.out hb)
  replace HL := Lib.hid (HL.out.below hb)
  replace p0 := keepc hb p0
  replace p1 := keepc hb p1
  replace p2 := keepc hb p2
  replace q0 := keepc hb q0
  replace q1 := keepc hb q1
  replace q2 := keepc hb q2
  replace lp := Nat.lt_of_lt_of_le lp hb.size
  replace lq := Nat.lt_of_lt_of_le lq hb.size
  clear hb
  go_wp2_with fail
  with_reducible refine (CB.out _).mono ?_
  rintro e_ w3 ⟨rfl, hb⟩
  replace HB := Lib.hid (on_below HB.out hb)
  replace HL := Lib.hid (HL.out.below hb)
  replace p0 := keepc hb p0
  replace p1 := keepc hb p1
  replace p2 := keepc hb p2
  replace q0 := keepc hb q0
  replace q1 := keepc hb q1
  replace q2 := keepc hb q2
  replace lp := Nat.lt_of_lt_of_le lp hb.size
  replace lq := Nat.lt_of_lt_of_le lq hb.size
  clear hb
  go_wp2_with fail
  clear CA CB
  go_loopw [8] (fun i wr => ∃ k : Nat, k ≤ xs.length ∧ i = .int .i64 k ∧ Hid (∀ j, j < k → 0 < crs (px xs j) (py xs j) (px xs (nx xs.length j)) (py xs (nx xs.length j)) a b) ∧ Below w3.heap.size w3 wr) (fun i _ => xs.length - (intOf i).toNat)
  case atStart => exact ⟨0, Nat.zero_le _, rfl, fun j hj => absurd hj (Nat.not_lt_zero j), Below.refl _ _⟩
  case round =>
    obtain ⟨k, hk, rfl, HK, hW⟩ := hrel
    replace p0 := keepc hW p0
    replace p1 := keepc hW p1
    replace p2 := keepc hW p2
    replace q0 := keepc hW q0
    replace q1 := keepc hW q1
    replace q2 := keepc hW q2
    have HW := Lib.hid (on_below HB.out hW)
    have HM := Lib.hid hW
    have HE := Lib.hid (HL.out.below hW)
    clear HL HB hW lp lq
    have n8 := ba.out.n8
    by_cases hlt : k < xs.length
    · obtain ⟨b0, o0, rfl, e0, e1⟩ := HE.out k hlt
      have hn := nx_lt hlt
      obtain ⟨f0, f1⟩ := sl_two HE.out hn
      generalize hs_ : crs (px xs k) (py xs k) (px xs (nx xs.length k)) (py xs (nx xs.length k)) a b = s
      have HS := Lib.hid hs_
      clear hs_
      have HC := Lib.hid (fun W => qside_is (gdS xs k).1 (gdS xs k).2 (gdS xs (nx xs.length k)).1 (gdS xs (nx xs.length k)).2 a b s (bok_co ba.out hlt).1 (bok_co ba.out hlt).2 (bok_co ba.out hn).1 (bok_co ba.out hn).2 va.out.x va.out.y HS.out W)
      have m1 := nx_tmod hlt
      have m2 := nx_emod hlt
      have w1_ : IntKind.i64.wrap ((k : Int) + 1) = (k : Int) + 1 := IntWalk.i64_in _ ⟨by omega, by omega⟩
      have w2_ : wrap64 ((k : Int) + 1) = (k : Int) + 1 := IntWalk.wrap64_in _ ⟨by omega, by omega⟩
      have z3 : ¬ xs = [] := by intro e; rw [e] at hlt; exact absurd hlt (Nat.not_lt_zero _)
      have z4 : ¬ xs.length = 0 := by omega
      have w3_ : IntKind.i64.wrap ((nx xs.length k : Nat) : Int) = (nx xs.length k : Nat) := IntWalk.i64_in _ ⟨by omega, by omega⟩
      generalize hnx : nx xs.length k = m at *
      have HN := Lib.hid hnx
      clear hnx
      generalize (gdS xs k).1 = x at *
      generalize (gdS xs k).2 = y at *
      generalize (gdS xs m).1 = u at *
      generalize (gdS xs m).2 = v at *
      go_wp2_with fail
      have kp : ∀ {W : World}, Below wr.heap.size wr W → W.cell? ⟨w.heap.size, 0, none⟩ = some (.slice (some ⟨b0, o0, none⟩) xs.length C) ∧ W.cell? ⟨w.heap.size + 1, 0, none⟩ = some (.int .i64 a) ∧ W.cell? ⟨w.heap.size + 1, 1, none⟩ = some (.int .i64 b) ∧ W.cell? ⟨b0, o0 + k * 2, none⟩ = some (.int .i64 x) ∧ W.cell? ⟨b0, o0 + k * 2 + 1, none⟩ = some (.int .i64 y) ∧ W.cell? ⟨b0, o0 + m * 2, none⟩ = some (.int .i64 u) ∧ W.cell? ⟨b0, o0 + m * 2 + 1, none⟩ = some (.int .i64 v) ∧ Below wr.heap.size wr W := fun h => ⟨keepc h p0, keepc h q0, keepc h q1, keepc h e0, keepc h e1, keepc h f0, keepc h f1, h⟩
      go_region_held3 (fun W => W.cell? ⟨w.heap.size, 0, none⟩ = some (.slice (some ⟨b0, o0, none⟩) xs.length C) ∧ W.cell? ⟨w.heap.size + 1, 0, none⟩ = some (.int .i64 a) ∧ W.cell? ⟨w.heap.size + 1, 1, none⟩ = some (.int .i64 b) ∧ W.cell? ⟨b0, o0 + k * 2, none⟩ = some (.int .i64 x) ∧ W.cell? ⟨b0, o0 + k * 2 + 1, none⟩ = some (.int .i64 y) ∧ W.cell? ⟨b0, o0 + m * 2, none⟩ = some (.int .i64 u) ∧ W.cell? ⟨b0, o0 + m * 2 + 1, none⟩ = some (.int .i64 v) ∧ Below wr.heap.size wr W)
        (first | assumption | exact kp (Below.refl _ _).drew | (go_split_ands; refine kp ?_; (first | (refine on_below ?_ hb; assumption) | assumption)))
        (first | (go_at_call 47; (with_reducible refine (HC.out _).mono ?_); rintro e' w9 ⟨rfl, hb⟩))
      go_split_ands
      have hB : Below wr.heap.size wr w9 := by assumption
      clear hb kp HC e0 e1 f0 f1 m1 m2 w1_ w2_ w3_ z3 z4 hn
      by_cases hs : s ≤ 0
      · go_wp2_with fail
        go_ret2
        exact ⟨congrArg (fun b => Ending.returned (.tuple #[.bool b, .int .i64 0])) (false_of fun e => by have h := (HR.out.1 e).1 k hlt; rw [HN.out, HS.out] at h; omega), on_below HW.out hB⟩
      · go_wp2_with fail
        go_roundw
        case rel => exact ⟨k + 1, hlt, int_of (by omega), (fun j hj => by by_cases e : j = k; (subst e; rw [HN.out, HS.out]; omega); exact HK.out j (by omega)), HM.out.trans (hB.mono HM.out.size)⟩
        case measure => simp [intOf]; omega
    · have HI := Lib.hid (show Ins xs.length (px xs) (py xs) a b from fun j hj => HK.out j (by omega))
      by_cases c1 : lo < c
      · by_cases c2 : c < hi
        · have hf := true_of (HR.out.2 ⟨HI.out, c1, c2⟩)
          subst hf
          go_wp2_with fail
          go_ret2
          exact ⟨rfl, HW.out⟩
        · have hf := false_of (r := r) (fun e => c2 (HR.out.1 e).2.2)
          subst hf
          go_wp2_with fail
          go_ret2
          exact ⟨rfl, HW.out⟩
      · have hf := false_of (r := r) (fun e => c1 (HR.out.1 e).2.1)
        subst hf
        go_wp2_with fail
        go_ret2
        exact ⟨rfl, HW.out⟩
theorem qinside_is (A : Option Addr) (C : Nat) (xs : List (Int × Int)) (lo hi a b c : Int) (hlx : xs.length ≤ 9223372036854775807) (r : Bool) (E : Int) (hE : (Bok xs lo hi ∧ V3 a b c ∧ E = 0 ∧ (r = true ↔ InB xs lo hi a b c)) ∨ (¬ (Bok xs lo hi ∧ V3 a b c) ∧ E = 1 ∧ r = false)) (w : World) (hl : SlS w A xs) :
    Calls Try.prog 17 #[.agg #[.slice A xs.length C, .int .i64 lo, .int .i64 hi], .agg #[.int .i64 a, .int .i64 b, .int .i64 c]] w fun e_ w' => e_ = .returned (.tuple #[.bool r, .int .i64 E]) ∧ Below w.heap.size w w' := by
  rcases hE with ⟨ba, bv, rfl, hr⟩ | ⟨hn, rfl, rfl⟩
  · exact qin_4 A C xs lo hi a b c hlx ⟨fun _ => ba, fun _ => rfl⟩ (vv_iff.2 bv) r hr w hl
  · by_cases ba : Bok xs lo hi
    · cases bv : vv a b c
      · exact qin_3 A C xs lo hi a b c hlx ⟨fun _ => ba, fun _ => rfl⟩ bv w hl
      · exact absurd ⟨ba, vv_iff.1 bv⟩ hn
    · cases bv : vv a b c
      · exact qin_1 A C xs lo hi a b c hlx ⟨(fun h => by cases h), fun h => absurd h ba⟩ bv w hl
      · exact qin_2 A C xs lo hi a b c hlx ⟨(fun h => by cases h), fun h => absurd h ba⟩ bv w hl
end Go.Proofs.Ytehlplejcaofoaa
