/-
  The reference of layer 8: Apart, Inside.
-/
import Derived.Test.YtehlplejcaofoaaShpG
namespace Go.Proofs.Ytehlplejcaofoaa
open Go.RowKit Go.Sort
open Go.RowKit (Below)
set_option linter.unusedVariables false
set_option linter.unusedSimpArgs false

set_option maxRecDepth 100000 in
set_option maxHeartbeats 2000000 in
theorem qap_1 (A B : Option Addr) (C D : Nat) (xs ys : List (Int × Int)) (la ha lb hb : Int) (hlx : xs.length ≤ 9223372036854775807) (hly : ys.length ≤ 9223372036854775807) (hra : false = true ↔ Bok xs la ha) (hrb : false = true ↔ Bok ys lb hb) (w : World) (hl : SlS w A xs) (hm : SlS w B ys) :
    Calls Try.prog 26 #[.agg #[.slice A xs.length C, .int .i64 la, .int .i64 ha], .agg #[.slice B ys.length D, .int .i64 lb, .int .i64 hb]] w fun e_ w' => e_ = .returned (.tuple #[.bool false, .int .i64 1]) ∧ Below w.heap.size w w' := by
  have CA := Lib.hid (fun W (h : SlS W A xs) => qvalid_is A C xs la ha hlx false hra W h)
  have CB := Lib.hid (fun W (h : SlS W B ys) => qvalid_is B D ys lb hb hly false hrb W h)
  clear hra hrb
  have HL := Lib.hid hl
  clear hl
  have HM := Lib.hid hm
  clear hm
  have p0 : World.cell? ((w.alloc (.cells #[.slice A xs.length C, .int .i64 la, .int .i64 ha] 24)).alloc (.cells #[.slice B ys.length D, .int .i64 lb, .int .i64 hb] 24)) ⟨w.heap.size, 0, none⟩ = some (.slice A xs.length C) := by simp [go_sem]
  have p1 : World.cell? ((w.alloc (.cells #[.slice A xs.length C, .int .i64 la, .int .i64 ha] 24)).alloc (.cells #[.slice B ys.length D, .int .i64 lb, .int .i64 hb] 24)) ⟨w.heap.size, 1, none⟩ = some (.int .i64 la) := by simp [go_sem]
  have p2 : World.cell? ((w.alloc (.cells #[.slice A xs.length C, .int .i64 la, .int .i64 ha] 24)).alloc (.cells #[.slice B ys.length D, .int .i64 lb, .int .i64 hb] 24)) ⟨w.heap.size, 2, none⟩ = some (.int .i64 ha) := by simp [go_sem]
  have lp : w.heap.size < ((w.alloc (.cells #[.slice A xs.length C, .int .i64 la, .int .i64 ha] 24)).alloc (.cells #[.slice B ys.length D, .int .i64 lb, .int .i64 hb] 24)).heap.size := by simp <;> omega
  have q0 : World.cell? ((w.alloc (.cells #[.slice A xs.length C, .int .i64 la, .int .i64 ha] 24)).alloc (.cells #[.slice B ys.length D, .int .i64 lb, .int .i64 hb] 24)) ⟨w.heap.size + 1, 0, none⟩ = some (.slice B ys.length D) := by simp [go_sem]
  have q1 : World.cell? ((w.alloc (.cells #[.slice A xs.length C, .int .i64 la, .int .i64 ha] 24)).alloc (.cells #[.slice B ys.length D, .int .i64 lb, .int .i64 hb] 24)) ⟨w.heap.size + 1, 1, none⟩ = some (.int .i64 lb) := by simp [go_sem]
  have q2 : World.cell? ((w.alloc (.cells #[.slice A xs.length C, .int .i64 la, .int .i64 ha] 24)).alloc (.cells #[.slice B ys.length D, .int .i64 lb, .int .i64 hb] 24)) ⟨w.heap.size + 1, 2, none⟩ = some (.int .i64 hb) := by simp [go_sem]
  have lq : w.heap.size + 1 < ((w.alloc (.cells #[.slice A xs.length C, .int .i64 la, .int .i64 ha] 24)).alloc (.cells #[.slice B ys.length D, .int .i64 lb, .int .i64 hb] 24)).heap.size := by simp <;> omega
  have HB := Lib.hid (show Below w.heap.size w ((w.alloc (.cells #[.slice A xs.length C, .int .i64 la, .int .i64 ha] 24)).alloc (.cells #[.slice B ys.length D, .int .i64 lb, .int .i64 hb] 24)) from (((Below.refl _ _).alloc (by simp <;> omega) _).alloc (by simp <;> omega) _))
  go_enter Try.func26, Try.ntmps26
  go_upto_region 1 with fail
  generalize (w.alloc (.cells #[.slice A xs.length C, .int .i64 la, .int .i64 ha] 24)).alloc (.cells #[.slice B ys.length D, .int .i64 lb, .int .i64 hb] 24) = w1 at *
  replace HL := Lib.hid (HL.out.below HB.out)
  replace HM := Lib.hid (HM.out.below HB.out)
  go_wp2_with fail
  with_reducible refine (CA.out _ HL.out).mono ?_
  rintro e_ w2 ⟨rfl, hb⟩
  replace HB := Lib.hid (on_below HB.out hb)
  replace HL := Lib.hid (HL.out.below hb)
  replace HM := Lib.hid (HM.out.below hb)
  replace p0 := keepc hb p0
  replace p1 := keepc hb p1
  replace p2 := keepc hb p2
  replace q0 := keepc hb q0
  replace q1 := keepc hb q1
  replace q2 := keepc hb q2
  replace lp := Nat.lt_of_lt_of_le lp hb.size
  replace lq := Nat.lt_of_lt_of_le lq hb.size
  clear hb
  go_wp2_with fail
  with_reducible refine (CB.out _ HM.out).mono ?_
  rintro e_ w3 ⟨rfl, hb⟩
  replace HB := Lib.hid (on_below HB.out hb)
  replace HL := Lib.hid (HL.out.below hb)
  replace HM := Lib.hid (HM.out.below hb)
  replace p0 := keepc hb p0
  replace p1 := keepc hb p1
  replace p2 := keepc hb p2
  replace q0 := keepc hb q0
  replace q1 := keepc hb q1
  replace q2 := keepc hb q2
  replace lp := Nat.lt_of_lt_of_le lp hb.size
  replace lq := Nat.lt_of_lt_of_le lq hb.size
  clear hb
  go_wp2_with fail
  go_ret2
  exact ⟨rfl, HB.out⟩
set_option maxRecDepth 100000 in
set_option maxHeartbeats 2000000 in
theorem qap_2 (A B : Option Addr) (C D : Nat) (xs ys : List (Int × Int)) (la ha lb hb : Int) (hlx : xs.length ≤ 9223372036854775807) (hly : ys.length ≤ 9223372036854775807) (hra : false = true ↔ Bok xs la ha) (hrb : true = true ↔ Bok ys lb hb) (w : World) (hl : SlS w A xs) (hm : SlS w B ys) :
    Calls Try.prog 26 #[.agg #[.slice A xs.length C, .int .i64 la, .int .i64 ha], .agg #[.slice B ys.length D, .int .i64 lb, .int .i64 hb]] w fun e_ w' => e_ = .returned (.tuple #[.bool false, .int .i64 1]) ∧ Below w.heap.size w w' := by
  have CA := Lib.hid (fun W (h : SlS W A xs) => qvalid_is A C xs la ha hlx false hra W h)
  have CB := Lib.hid (fun W (h : SlS W B ys) => qvalid_is B D ys lb hb hly true hrb W h)
  clear hra hrb
  have HL := Lib.hid hl
  clear hl
  have HM := Lib.hid hm
  clear hm
  have p0 : World.cell? ((w.alloc (.cells #[.slice A xs.length C, .int .i64 la, .int .i64 ha] 24)).alloc (.cells #[.slice B ys.length D, .int .i64 lb, .int .i64 hb] 24)) ⟨w.heap.size, 0, none⟩ = some (.slice A xs.length C) := by simp [go_sem]
  have p1 : World.cell? ((w.alloc (.cells #[.slice A xs.length C, .int .i64 la, .int .i64 ha] 24)).alloc (.cells #[.slice B ys.length D, .int .i64 lb, .int .i64 hb] 24)) ⟨w.heap.size, 1, none⟩ = some (.int .i64 la) := by simp [go_sem]
  have p2 : World.cell? ((w.alloc (.cells #[.slice A xs.length C, .int .i64 la, .int .i64 ha] 24)).alloc (.cells #[.slice B ys.length D, .int .i64 lb, .int .i64 hb] 24)) ⟨w.heap.size, 2, none⟩ = some (.int .i64 ha) := by simp [go_sem]
  have lp : w.heap.size < ((w.alloc (.cells #[.slice A xs.length C, .int .i64 la, .int .i64 ha] 24)).alloc (.cells #[.slice B ys.length D, .int .i64 lb, .int .i64 hb] 24)).heap.size := by simp <;> omega
  have q0 : World.cell? ((w.alloc (.cells #[.slice A xs.length C, .int .i64 la, .int .i64 ha] 24)).alloc (.cells #[.slice B ys.length D, .int .i64 lb, .int .i64 hb] 24)) ⟨w.heap.size + 1, 0, none⟩ = some (.slice B ys.length D) := by simp [go_sem]
  have q1 : World.cell? ((w.alloc (.cells #[.slice A xs.length C, .int .i64 la, .int .i64 ha] 24)).alloc (.cells #[.slice B ys.length D, .int .i64 lb, .int .i64 hb] 24)) ⟨w.heap.size + 1, 1, none⟩ = some (.int .i64 lb) := by simp [go_sem]
  have q2 : World.cell? ((w.alloc (.cells #[.slice A xs.length C, .int .i64 la, .int .i64 ha] 24)).alloc (.cells #[.slice B ys.length D, .int .i64 lb, .int .i64 hb] 24)) ⟨w.heap.size + 1, 2, none⟩ = some (.int .i64 hb) := by simp [go_sem]
  have lq : w.heap.size + 1 < ((w.alloc (.cells #[.slice A xs.length C, .int .i64 la, .int .i64 ha] 24)).alloc (.cells #[.slice B ys.length D, .int .i64 lb, .int .i64 hb] 24)).heap.size := by simp <;> omega
  have HB := Lib.hid (show Below w.heap.size w ((w.alloc (.cells #[.slice A xs.length C, .int .i64 la, .int .i64 ha] 24)).alloc (.cells #[.slice B ys.length D, .int .i64 lb, .int .i64 hb] 24)) from (((Below.refl _ _).alloc (by simp <;> omega) _).alloc (by simp <;> omega) _))
  go_enter Try.func26, Try.ntmps26
  go_upto_region 1 with fail
  generalize (w.alloc (.cells #[.slice A xs.length C, .int .i64 la, .int .i64 ha] 24)).alloc (.cells #[.slice B ys.length D, .int .i64 lb, .int .i64 hb] 24) = w1 at *
  replace HL := Lib.hid (HL.out.below HB.out)
  replace HM := Lib.hid (HM.out.below HB.out)
  go_wp2_with fail
  with_reducible refine (CA.out _ HL.out).mono ?_
  rintro e_ w2 ⟨rfl, hb⟩
  replace HB := Lib.hid (on_below HB.out hb)
  replace HL := Lib.hid (HL.out.below hb)
  replace HM := Lib.hid (HM.out.below hb)
  replace p0 := keepc hb p0
  replace p1 := keepc hb p1
  replace p2 := keepc hb p2
  replace q0 := keepc hb q0
  replace q1 := keepc hb q1
  replace q2 := keepc hb q2
  replace lp := Nat.lt_of_lt_of_le lp hb.size
  replace lq := Nat.lt_of_lt_of_le lq hb.size
  clear hb
  go_wp2_with fail
  with_reducible refine (CB.out _ HM.out).mono ?_
  rintro e_ w3 ⟨rfl, hb⟩
  replace HB := Lib.hid (on_below HB.out hb)
  replace HL := Lib.hid (HL.out.below hb)
  replace HM := Lib.hid (HM.out.below hb)
  replace p0 := keepc hb p0
  replace p1 := keepc hb p1
  replace p2 := keepc hb p2
  replace q0 := keepc hb q0
  replace q1 := keepc hb q1
  replace q2 := keepc hb q2
  replace lp := Nat.lt_of_lt_of_le lp hb.size
  replace lq := Nat.lt_of_lt_of_le lq hb.size
  clear hb
  go_wp2_with fail
  go_ret2
  exact ⟨rfl, HB.out⟩
set_option maxRecDepth 100000 in
set_option maxHeartbeats 2000000 in
theorem qap_3 (A B : Option Addr) (C D : Nat) (xs ys : List (Int × Int)) (la ha lb hb : Int) (hlx : xs.length ≤ 9223372036854775807) (hly : ys.length ≤ 9223372036854775807) (hra : true = true ↔ Bok xs la ha) (hrb : false = true ↔ Bok ys lb hb) (w : World) (hl : SlS w A xs) (hm : SlS w B ys) :
    Calls Try.prog 26 #[.agg #[.slice A xs.length C, .int .i64 la, .int .i64 ha], .agg #[.slice B ys.length D, .int .i64 lb, .int .i64 hb]] w fun e_ w' => e_ = .returned (.tuple #[.bool false, .int .i64 1]) ∧ Below w.heap.size w w' := by
  have CA := Lib.hid (fun W (h : SlS W A xs) => qvalid_is A C xs la ha hlx true hra W h)
  have CB := Lib.hid (fun W (h : SlS W B ys) => qvalid_is B D ys lb hb hly false hrb W h)
  clear hra hrb
  have HL := Lib.hid hl
  clear hl
  have HM := Lib.hid hm
  clear hm
  have p0 : World.cell? ((w.alloc (.cells #[.slice A xs.length C, .int .i64 la, .int .i64 ha] 24)).alloc (.cells #[.slice B ys.length D, .int .i64 lb, .int .i64 hb] 24)) ⟨w.heap.size, 0, none⟩ = some (.slice A xs.length C) := by simp [go_sem]
  have p1 : World.cell? ((w.alloc (.cells #[.slice A xs.length C, .int .i64 la, .int .i64 ha] 24)).alloc (.cells #[.slice B ys.length D, .int .i64 lb, .int .i64 hb] 24)) ⟨w.heap.size, 1, none⟩ = some (.int .i64 la) := by simp [go_sem]
  have p2 : World.cell? ((w.alloc (.cells #[.slice A xs.length C, .int .i64 la, .int .i64 ha] 24)).alloc (.cells #[.slice B ys.length D, .int .i64 lb, .int .i64 hb] 24)) ⟨w.heap.size, 2, none⟩ = some (.int .i64 ha) := by simp [go_sem]
  have lp : w.heap.size < ((w.alloc (.cells #[.slice A xs.length C, .int .i64 la, .int .i64 ha] 24)).alloc (.cells #[.slice B ys.length D, .int .i64 lb, .int .i64 hb] 24)).heap.size := by simp <;> omega
  have q0 : World.cell? ((w.alloc (.cells #[.slice A xs.length C, .int .i64 la, .int .i64 ha] 24)).alloc (.cells #[.slice B ys.length D, .int .i64 lb, .int .i64 hb] 24)) ⟨w.heap.size + 1, 0, none⟩ = some (.slice B ys.length D) := by simp [go_sem]
  have q1 : World.cell? ((w.alloc (.cells #[.slice A xs.length C, .int .i64 la, .int .i64 ha] 24)).alloc (.cells #[.slice B ys.length D, .int .i64 lb, .int .i64 hb] 24)) ⟨w.heap.size + 1, 1, none⟩ = some (.int .i64 lb) := by simp [go_sem]
  have q2 : World.cell? ((w.alloc (.cells #[.slice A xs.length C, .int .i64 la, .int .i64 ha] 24)).alloc (.cells #[.slice B ys.length D, .int .i64 lb, .int .i64 hb] 24)) ⟨w.heap.size + 1, 2, none⟩ = some (.int .i64 hb) := by simp [go_sem]
  have lq : w.heap.size + 1 < ((w.alloc (.cells #[.slice A xs.length C, .int .i64 la, .int .i64 ha] 24)).alloc (.cells #[.slice B ys.length D, .int .i64 lb, .int .i64 hb] 24)).heap.size := by simp <;> omega
  have HB := Lib.hid (show Below w.heap.size w ((w.alloc (.cells #[.slice A xs.length C, .int .i64 la, .int .i64 ha] 24)).alloc (.cells #[.slice B ys.length D, .int .i64 lb, .int .i64 hb] 24)) from (((Below.refl _ _).alloc (by simp <;> omega) _).alloc (by simp <;> omega) _))
  go_enter Try.func26, Try.ntmps26
  go_upto_region 1 with fail
  generalize (w.alloc (.cells #[.slice A xs.length C, .int .i64 la, .int .i64 ha] 24)).alloc (.cells #[.slice B ys.length D, .int .i64 lb, .int .i64 hb] 24) = w1 at *
  replace HL := Lib.hid (HL.out.below HB.out)
  replace HM := Lib.hid (HM.out.below HB.out)
  go_wp2_with fail
  with_reducible refine (CA.out _ HL.out).mono ?_
  rintro e_ w2 ⟨rfl, hb⟩
  replace HB := Lib.hid (on_below HB.out hb)
  replace HL := Lib.hid (HL.out.below hb)
  replace HM := Lib.hid (HM.out.below hb)
  replace p0 := keepc hb p0
  replace p1 := keepc hb p1
  replace p2 := keepc hb p2
  replace q0 := keepc hb q0
  replace q1 := keepc hb q1
  replace q2 := keepc hb q2
  replace lp := Nat.lt_of_lt_of_le lp hb.size
  replace lq := Nat.lt_of_lt_of_le lq hb.size
  clear hb
  go_wp2_with fail
  with_reducible refine (CB.out _ HM.out).mono ?_
  rintro e_ w3 ⟨rfl, hb⟩
  replace HB := Lib.hid (on_below HB.out hb)
  replace HL := Lib.hid (HL.out.below hb)
  replace HM := Lib.hid (HM.out.below hb)
  replace p0 := keepc hb p0
  replace p1 := keepc hb p1
  replace p2 := keepc hb p2
  replace q0 := keepc hb q0
  replace q1 := keepc hb q1
  replace q2 := keepc hb q2
  replace lp := Nat.lt_of_lt_of_le lp hb.size
  replace lq := Nat.lt_of_lt_of_le lq hb.size
  clear hb
  go_wp2_with fail
  go_ret2
  exact ⟨rfl, HB.out⟩
set_option maxRecDepth 100000 in
set_option maxHeartbeats 4000000 in
theorem qap_4 (A B : Option Addr) (C D : Nat) (xs ys : List (Int × Int)) (la ha lb hb : Int) (hlx : xs.length ≤ 9223372036854775807) (hly : ys.length ≤ 9223372036854775807) (hra : true = true ↔ Bok xs la ha) (hrb : true = true ↔ Bok ys lb hb) (r1 r2 : Bool) (h1 : r1 = true ↔ Par xs ys) (h2 : r2 = true ↔ Par ys xs) (w : World) (hl : SlS w A xs) (hm : SlS w B ys) :
    Calls Try.prog 26 #[.agg #[.slice A xs.length C, .int .i64 la, .int .i64 ha], .agg #[.slice B ys.length D, .int .i64 lb, .int .i64 hb]] w fun e_ w' => e_ = .returned (.tuple #[.bool (decide (ha ≤ lb) || decide (hb ≤ la) || r1 || r2), .int .i64 0]) ∧ Below w.heap.size w w' := by
  have ba := Lib.hid (hra.1 rfl)
  have bb := Lib.hid (hrb.1 rfl)
  have G1 := Lib.hid h1
  clear h1
  have G2 := Lib.hid h2
  clear h2
  have CA := Lib.hid (fun W (h : SlS W A xs) => qvalid_is A C xs la ha hlx true hra W h)
  have CB := Lib.hid (fun W (h : SlS W B ys) => qvalid_is B D ys lb hb hly true hrb W h)
  clear hra hrb
  have HL := Lib.hid hl
  clear hl
  have HM := Lib.hid hm
  clear hm
  have p0 : World.cell? ((w.alloc (.cells #[.slice A xs.length C, .int .i64 la, .int .i64 ha] 24)).alloc (.cells #[.slice B ys.length D, .int .i64 lb, .int .i64 hb] 24)) ⟨w.heap.size, 0, none⟩ = some (.slice A xs.length C) := by simp [go_sem]
  have p1 : World.cell? ((w.alloc (.cells #[.slice A xs.length C, .int .i64 la, .int .i64 ha] 24)).alloc (.cells #[.slice B ys.length D, .int .i64 lb, .int .i64 hb] 24)) ⟨w.heap.size, 1, none⟩ = some (.int .i64 la) := by simp [go_sem]
  have p2 : World.cell? ((w.alloc (.cells #[.slice A xs.length C, .int .i64 la, .int .i64 ha] 24)).alloc (.cells #[.slice B ys.length D, .int .i64 lb, .int .i64 hb] 24)) ⟨w.heap.size, 2, none⟩ = some (.int .i64 ha) := by simp [go_sem]
  have lp : w.heap.size < ((w.alloc (.cells #[.slice A xs.length C, .int .i64 la, .int .i64 ha] 24)).alloc (.cells #[.slice B ys.length D, .int .i64 lb, .int .i64 hb] 24)).heap.size := by simp <;> omega
  have q0 : World.cell? ((w.alloc (.cells #[.slice A xs.length C, .int .i64 la, .int .i64 ha] 24)).alloc (.cells #[.slice B ys.length D, .int .i64 lb, .int .i64 hb] 24)) ⟨w.heap.size + 1, 0, none⟩ = some (.slice B ys.length D) := by simp [go_sem]
  have q1 : World.cell? ((w.alloc (.cells #[.slice A xs.length C, .int .i64 la, .int .i64 ha] 24)).alloc (.cells #[.slice B ys.length D, .int .i64 lb, .int .i64 hb] 24)) ⟨w.heap.size + 1, 1, none⟩ = some (.int .i64 lb) := by simp [go_sem]
  have q2 : World.cell? ((w.alloc (.cells #[.slice A xs.length C, .int .i64 la, .int .i64 ha] 24)).alloc (.cells #[.slice B ys.length D, .int .i64 lb, .int .i64 hb] 24)) ⟨w.heap.size + 1, 2, none⟩ = some (.int .i64 hb) := by simp [go_sem]
  have lq : w.heap.size + 1 < ((w.alloc (.cells #[.slice A xs.length C, .int .i64 la, .int .i64 ha] 24)).alloc (.cells #[.slice B ys.length D, .int .i64 lb, .int .i64 hb] 24)).heap.size := by simp <;> omega
  have HB := Lib.hid (show Below w.heap.size w ((w.alloc (.cells #[.slice A xs.length C, .int .i64 la, .int .i64 ha] 24)).alloc (.cells #[.slice B ys.length D, .int .i64 lb, .int .i64 hb] 24)) from (((Below.refl _ _).alloc (by simp <;> omega) _).alloc (by simp <;> omega) _))
  go_enter Try.func26, Try.ntmps26
  go_upto_region 1 with fail
  generalize (w.alloc (.cells #[.slice A xs.length C, .int .i64 la, .int .i64 ha] 24)).alloc (.cells #[.slice B ys.length D, .int .i64 lb, .int .i64 hb] 24) = w1 at *
  replace HL := Lib.hid (HL.out.below HB.out)
  replace HM := Lib.hid (HM.out.below HB.out)
  go_wp2_with fail
  with_reducible refine (CA.out _ HL.out).mono ?_
  rintro e_ w2 ⟨rfl, hb⟩
  replace HB := Lib.hid (on_below HB.out hb)
  replace HL := Lib.hid (HL.out.below hb)
  replace HM := Lib.hid (HM.out.below hb)
  replace p0 := keepc hb p0
  replace p1 := keepc hb p1
  replace p2 := keepc hb p2
  replace q0 := keepc hb q0
  replace q1 := keepc hb q1
  replace q2 := keepc hb q2
  replace lp := Nat.lt_of_lt_of_le lp hb.size
  replace lq := Nat.lt_of_lt_of_le lq hb.size
  clear hb
  go_wp2_with fail
  with_reducible refine (CB.out _ HM.out).mono ?_
  rintro e_ w3 ⟨rfl, hb⟩
  replace HB := Lib.hid (on_below HB.out hb)
  replace HL := Lib.hid (HL.out.below hb)
  replace HM := Lib.hid (HM.out.below hb)
  replace p0 := keepc hb p0
  replace p1 := keepc hb p1
  replace p2 := keepc hb p2
  replace q0 := keepc hb q0
  replace q1 := keepc hb q1
  replace q2 := keepc hb q2
  replace lp := Nat.lt_of_lt_of_le lp hb.size
  replace lq := Nat.lt_of_lt_of_le lq hb.size
  clear hb
  go_wp2_with fail
  with_reducible refine (qpar_any A B C D xs ys (fun j hj => bok_co ba.out hj) (fun j hj => bok_co bb.out hj) (by have := ba.out.n8; omega) hly r1 G1.out _ HL.out HM.out).mono ?_
  rintro e_ w4 ⟨rfl, hb⟩
  replace HB := Lib.hid (on_below HB.out hb)
  replace HL := Lib.hid (HL.out.below hb)
  replace HM := Lib.hid (HM.out.below hb)
  replace p0 := keepc hb p0
  replace p1 := keepc hb p1
  replace p2 := keepc hb p2
  replace q0 := keepc hb q0
  replace q1 := keepc hb q1
  replace q2 := keepc hb q2
  replace lp := Nat.lt_of_lt_of_le lp hb.size
  replace lq := Nat.lt_of_lt_of_le lq hb.size
  clear hb
  go_wp2_with fail
  with_reducible refine (qpar_any B A D C ys xs (fun j hj => bok_co bb.out hj) (fun j hj => bok_co ba.out hj) (by have := bb.out.n8; omega) hlx r2 G2.out _ HM.out HL.out).mono ?_
  rintro e_ w5 ⟨rfl, hb⟩
  replace HB := Lib.hid (on_below HB.out hb)
  replace HL := Lib.hid (HL.out.below hb)
  replace HM := Lib.hid (HM.out.below hb)
  replace p0 := keepc hb p0
  replace p1 := keepc hb p1
  replace p2 := keepc hb p2
  replace q0 := keepc hb q0
  replace q1 := keepc hb q1
  replace q2 := keepc hb q2
  replace lp := Nat.lt_of_lt_of_le lp hb.size
  replace lq := Nat.lt_of_lt_of_le lq hb.size
  clear hb
  by_cases c1 : ha ≤ lb
  · skip
    have d1 : decide (ha ≤ lb) = true := decide_eq_true c1
    by_cases c2 : hb ≤ la
    · skip
      have d2 : decide (hb ≤ la) = true := decide_eq_true c2
      cases r1 <;> cases r2 <;> (go_wp2_with fail; go_ret2; exact ⟨by rw [d1, d2]; rfl, HB.out⟩)
    · skip
      have d2 : decide (hb ≤ la) = false := decide_eq_false c2
      cases r1 <;> cases r2 <;> (go_wp2_with fail; go_ret2; exact ⟨by rw [d1, d2]; rfl, HB.out⟩)
  · skip
    have d1 : decide (ha ≤ lb) = false := decide_eq_false c1
    by_cases c2 : hb ≤ la
    · skip
      have d2 : decide (hb ≤ la) = true := decide_eq_true c2
      cases r1 <;> cases r2 <;> (go_wp2_with fail; go_ret2; exact ⟨by rw [d1, d2]; rfl, HB.out⟩)
    · skip
      have d2 : decide (hb ≤ la) = false := decide_eq_false c2
      cases r1 <;> cases r2 <;> (go_wp2_with fail; go_ret2; exact ⟨by rw [d1, d2]; rfl, HB.out⟩)
theorem qapart_is (A B : Option Addr) (C D : Nat) (xs ys : List (Int × Int)) (la ha lb hb : Int) (hlx : xs.length ≤ 9223372036854775807) (hly : ys.length ≤ 9223372036854775807) (r : Bool) (E : Int) (hE : (Bok xs la ha ∧ Bok ys lb hb ∧ E = 0 ∧ (r = true ↔ Apa xs la ha ys lb hb)) ∨ (¬ (Bok xs la ha ∧ Bok ys lb hb) ∧ E = 1 ∧ r = false)) (w : World) (hl : SlS w A xs) (hm : SlS w B ys) :
    Calls Try.prog 26 #[.agg #[.slice A xs.length C, .int .i64 la, .int .i64 ha], .agg #[.slice B ys.length D, .int .i64 lb, .int .i64 hb]] w fun e_ w' => e_ = .returned (.tuple #[.bool r, .int .i64 E]) ∧ Below w.heap.size w w' := by
  rcases hE with ⟨ba, bb, rfl, hr⟩ | ⟨hn, rfl, rfl⟩
  · obtain ⟨r1, h1⟩ := bool_of (Par xs ys)
    obtain ⟨r2, h2⟩ := bool_of (Par ys xs)
    have e : r = (decide (ha ≤ lb) || decide (hb ≤ la) || r1 || r2) := by
      rw [Bool.eq_iff_iff, hr]
      unfold Apa
      rw [← h1, ← h2]
      simp [or_assoc]
    rw [e]
    exact qap_4 A B C D xs ys la ha lb hb hlx hly ⟨fun _ => ba, fun _ => rfl⟩ ⟨fun _ => bb, fun _ => rfl⟩ r1 r2 h1 h2 w hl hm
  · by_cases ba : Bok xs la ha
    · by_cases bb : Bok ys lb hb
      · exact absurd ⟨ba, bb⟩ hn
      · exact qap_3 A B C D xs ys la ha lb hb hlx hly ⟨fun _ => ba, fun _ => rfl⟩ ⟨(fun h => by cases h), fun h => absurd h bb⟩ w hl hm
    · by_cases bb : Bok ys lb hb
      · exact qap_2 A B C D xs ys la ha lb hb hlx hly ⟨(fun h => by cases h), fun h => absurd h ba⟩ ⟨fun _ => bb, fun _ => rfl⟩ w hl hm
      · exact qap_1 A B C D xs ys la ha lb hb hlx hly ⟨(fun h => by cases h), fun h => absurd h ba⟩ ⟨(fun h => by cases h), fun h => absurd h bb⟩ w hl hm
end Go.Proofs.Ytehlplejcaofoaa
