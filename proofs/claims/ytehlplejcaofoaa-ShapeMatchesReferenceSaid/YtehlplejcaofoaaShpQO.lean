/-
  The reference: Move.
-/
import Derived.Test.YtehlplejcaofoaaShpG
import Derived.Test.YtehlplejcaofoaaShpPO
import Derived.Test.YtehlplejcaofoaaShpPH
import Derived.Test.YtehlplejcaofoaaShpY
import Derived.Deep.AppendLies
import Derived.Laws.OwnMore
namespace Go.Proofs.Ytehlplejcaofoaa
open Go.RowKit Go.Sort
open Go.RowKit (Below)
set_option linter.unusedVariables false
set_option linter.unusedSimpArgs false

set_option maxRecDepth 100000 in
set_option maxHeartbeats 2000000 in
theorem qm_0 (A : Option Addr) (C : Nat) (xs : List (Int × Int)) (lo hi x y z : Int) (hlx : xs.length ≤ 9223372036854775806) (hra : false = true ↔ Bok xs lo hi) (hv : vv x y z = false) (w : World) (hl : SlS w A xs) :
    Calls Try.prog 21 #[.agg #[.slice A xs.length C, .int .i64 lo, .int .i64 hi], .agg #[.int .i64 x, .int .i64 y, .int .i64 z]] w fun e_ w' => e_ = .returned (.tuple #[.agg #[.slice none 0 0, .int .i64 0, .int .i64 0], .int .i64 1]) ∧ Below w.heap.size w w' := by
  have CA := Lib.hid (fun W (h : SlS W A xs) => qvalid_is A C xs lo hi (by omega) false hra W h)
  clear hra
  have HL := Lib.hid hl
  clear hl
  have p0 : World.cell? (((w.alloc (.cells #[.slice A xs.length C, .int .i64 lo, .int .i64 hi] 24)).alloc (.cells #[.int .i64 x, .int .i64 y, .int .i64 z] 26)).alloc (.cells #[.slice none 0 0, .int .i64 0, .int .i64 0] 24)) ⟨w.heap.size, 0, none⟩ = some (.slice A xs.length C) := by simp [go_sem]
  have p1 : World.cell? (((w.alloc (.cells #[.slice A xs.length C, .int .i64 lo, .int .i64 hi] 24)).alloc (.cells #[.int .i64 x, .int .i64 y, .int .i64 z] 26)).alloc (.cells #[.slice none 0 0, .int .i64 0, .int .i64 0] 24)) ⟨w.heap.size, 1, none⟩ = some (.int .i64 lo) := by simp [go_sem]
  have p2 : World.cell? (((w.alloc (.cells #[.slice A xs.length C, .int .i64 lo, .int .i64 hi] 24)).alloc (.cells #[.int .i64 x, .int .i64 y, .int .i64 z] 26)).alloc (.cells #[.slice none 0 0, .int .i64 0, .int .i64 0] 24)) ⟨w.heap.size, 2, none⟩ = some (.int .i64 hi) := by simp [go_sem]
  have lp : w.heap.size < (((w.alloc (.cells #[.slice A xs.length C, .int .i64 lo, .int .i64 hi] 24)).alloc (.cells #[.int .i64 x, .int .i64 y, .int .i64 z] 26)).alloc (.cells #[.slice none 0 0, .int .i64 0, .int .i64 0] 24)).heap.size := by simp <;> omega
  have q0 : World.cell? (((w.alloc (.cells #[.slice A xs.length C, .int .i64 lo, .int .i64 hi] 24)).alloc (.cells #[.int .i64 x, .int .i64 y, .int .i64 z] 26)).alloc (.cells #[.slice none 0 0, .int .i64 0, .int .i64 0] 24)) ⟨w.heap.size + 1, 0, none⟩ = some (.int .i64 x) := by simp [go_sem]
  have q1 : World.cell? (((w.alloc (.cells #[.slice A xs.length C, .int .i64 lo, .int .i64 hi] 24)).alloc (.cells #[.int .i64 x, .int .i64 y, .int .i64 z] 26)).alloc (.cells #[.slice none 0 0, .int .i64 0, .int .i64 0] 24)) ⟨w.heap.size + 1, 1, none⟩ = some (.int .i64 y) := by simp [go_sem]
  have q2 : World.cell? (((w.alloc (.cells #[.slice A xs.length C, .int .i64 lo, .int .i64 hi] 24)).alloc (.cells #[.int .i64 x, .int .i64 y, .int .i64 z] 26)).alloc (.cells #[.slice none 0 0, .int .i64 0, .int .i64 0] 24)) ⟨w.heap.size + 1, 2, none⟩ = some (.int .i64 z) := by simp [go_sem]
  have lq : w.heap.size + 1 < (((w.alloc (.cells #[.slice A xs.length C, .int .i64 lo, .int .i64 hi] 24)).alloc (.cells #[.int .i64 x, .int .i64 y, .int .i64 z] 26)).alloc (.cells #[.slice none 0 0, .int .i64 0, .int .i64 0] 24)).heap.size := by simp <;> omega
  have u0 : World.cell? (((w.alloc (.cells #[.slice A xs.length C, .int .i64 lo, .int .i64 hi] 24)).alloc (.cells #[.int .i64 x, .int .i64 y, .int .i64 z] 26)).alloc (.cells #[.slice none 0 0, .int .i64 0, .int .i64 0] 24)) ⟨w.heap.size + 1 + 1, 0, none⟩ = some (.slice none 0 0) := by simp [go_sem]
  have fu0 : World.frozen? (((w.alloc (.cells #[.slice A xs.length C, .int .i64 lo, .int .i64 hi] 24)).alloc (.cells #[.int .i64 x, .int .i64 y, .int .i64 z] 26)).alloc (.cells #[.slice none 0 0, .int .i64 0, .int .i64 0] 24)) ⟨w.heap.size + 1 + 1, 0, none⟩ = false := by simp [go_sem]
  have u1 : World.cell? (((w.alloc (.cells #[.slice A xs.length C, .int .i64 lo, .int .i64 hi] 24)).alloc (.cells #[.int .i64 x, .int .i64 y, .int .i64 z] 26)).alloc (.cells #[.slice none 0 0, .int .i64 0, .int .i64 0] 24)) ⟨w.heap.size + 1 + 1, 1, none⟩ = some (.int .i64 0) := by simp [go_sem]
  have fu1 : World.frozen? (((w.alloc (.cells #[.slice A xs.length C, .int .i64 lo, .int .i64 hi] 24)).alloc (.cells #[.int .i64 x, .int .i64 y, .int .i64 z] 26)).alloc (.cells #[.slice none 0 0, .int .i64 0, .int .i64 0] 24)) ⟨w.heap.size + 1 + 1, 1, none⟩ = false := by simp [go_sem]
  have u2 : World.cell? (((w.alloc (.cells #[.slice A xs.length C, .int .i64 lo, .int .i64 hi] 24)).alloc (.cells #[.int .i64 x, .int .i64 y, .int .i64 z] 26)).alloc (.cells #[.slice none 0 0, .int .i64 0, .int .i64 0] 24)) ⟨w.heap.size + 1 + 1, 2, none⟩ = some (.int .i64 0) := by simp [go_sem]
  have fu2 : World.frozen? (((w.alloc (.cells #[.slice A xs.length C, .int .i64 lo, .int .i64 hi] 24)).alloc (.cells #[.int .i64 x, .int .i64 y, .int .i64 z] 26)).alloc (.cells #[.slice none 0 0, .int .i64 0, .int .i64 0] 24)) ⟨w.heap.size + 1 + 1, 2, none⟩ = false := by simp [go_sem]
  have lu : w.heap.size + 1 + 1 < (((w.alloc (.cells #[.slice A xs.length C, .int .i64 lo, .int .i64 hi] 24)).alloc (.cells #[.int .i64 x, .int .i64 y, .int .i64 z] 26)).alloc (.cells #[.slice none 0 0, .int .i64 0, .int .i64 0] 24)).heap.size := by simp <;> omega
  have HB := Lib.hid (show Below w.heap.size w (((w.alloc (.cells #[.slice A xs.length C, .int .i64 lo, .int .i64 hi] 24)).alloc (.cells #[.int .i64 x, .int .i64 y, .int .i64 z] 26)).alloc (.cells #[.slice none 0 0, .int .i64 0, .int .i64 0] 24)) from ((((Below.refl _ _).alloc (by simp <;> omega) _).alloc (by simp <;> omega) _).alloc (by simp <;> omega) _))
  go_enter Try.func21, Try.ntmps21
  go_upto_region 1 with fail
  generalize ((w.alloc (.cells #[.slice A xs.length C, .int .i64 lo, .int .i64 hi] 24)).alloc (.cells #[.int .i64 x, .int .i64 y, .int .i64 z] 26)).alloc (.cells #[.slice none 0 0, .int .i64 0, .int .i64 0] 24) = w1 at *
  replace HL := Lib.hid (HL.out.below HB.out)
  go_wp2_with fail
  with_reducible refine (CA.out _ HL.out).mono ?_
  rintro e_ w2 ⟨rfl, hb⟩
  replace HB := Lib.hid (on_below HB.out hb)
  replace HL := Lib.hid (HL.out.below hb)
  replace p0 := keepc hb p0
  replace p1 := keepc hb p1
  replace p2 := keepc hb p2
  replace q0 := keepc hb q0
  replace q1 := keepc hb q1
  replace q2 := keepc hb q2
  replace u0 := keepc hb u0
  replace u1 := keepc hb u1
  replace u2 := keepc hb u2
  replace fu0 := keepf hb lu fu0
  replace fu1 := keepf hb lu fu1
  replace fu2 := keepf hb lu fu2
  replace lp := Nat.lt_of_lt_of_le lp hb.size
  replace lq := Nat.lt_of_lt_of_le lq hb.size
  replace lu := Nat.lt_of_lt_of_le lu hb.size
  clear hb
  go_wp2_with fail
  with_reducible refine (qpoint_is x y z false hv _).mono ?_
  rintro e_ w3 ⟨rfl, hb⟩
  replace HB := Lib.hid (on_below HB.out hb)
  replace HL := Lib.hid (HL.out.below hb)
  replace p0 := keepc hb p0
  replace p1 := keepc hb p1
  replace p2 := keepc hb p2
  replace q0 := keepc hb q0
  replace q1 := keepc hb q1
  replace q2 := keepc hb q2
  replace u0 := keepc hb u0
  replace u1 := keepc hb u1
  replace u2 := keepc hb u2
  replace fu0 := keepf hb lu fu0
  replace fu1 := keepf hb lu fu1
  replace fu2 := keepf hb lu fu2
  replace lp := Nat.lt_of_lt_of_le lp hb.size
  replace lq := Nat.lt_of_lt_of_le lq hb.size
  replace lu := Nat.lt_of_lt_of_le lu hb.size
  clear hb
  go_wp2_with fail
  refine bodyPost_ret (v := .tuple #[.agg #[.slice none 0 0, .int .i64 0, .int .i64 0], .int .i64 1]) (by simp [results, Try.results21, go_sem, u0, u1, u2]) rfl ⟨rfl, ?_⟩
  (repeat (refine Below.setCell ?_ (by simp <;> omega) _))
  exact HB.out
set_option maxRecDepth 100000 in
set_option maxHeartbeats 2000000 in
theorem qm_1 (A : Option Addr) (C : Nat) (xs : List (Int × Int)) (lo hi x y z : Int) (hlx : xs.length ≤ 9223372036854775806) (hra : false = true ↔ Bok xs lo hi) (hv : vv x y z = true) (w : World) (hl : SlS w A xs) :
    Calls Try.prog 21 #[.agg #[.slice A xs.length C, .int .i64 lo, .int .i64 hi], .agg #[.int .i64 x, .int .i64 y, .int .i64 z]] w fun e_ w' => e_ = .returned (.tuple #[.agg #[.slice none 0 0, .int .i64 0, .int .i64 0], .int .i64 1]) ∧ Below w.heap.size w w' := by
  have CA := Lib.hid (fun W (h : SlS W A xs) => qvalid_is A C xs lo hi (by omega) false hra W h)
  clear hra
  have HL := Lib.hid hl
  clear hl
  have p0 : World.cell? (((w.alloc (.cells #[.slice A xs.length C, .int .i64 lo, .int .i64 hi] 24)).alloc (.cells #[.int .i64 x, .int .i64 y, .int .i64 z] 26)).alloc (.cells #[.slice none 0 0, .int .i64 0, .int .i64 0] 24)) ⟨w.heap.size, 0, none⟩ = some (.slice A xs.length C) := by simp [go_sem]
  have p1 : World.cell? (((w.alloc (.cells #[.slice A xs.length C, .int .i64 lo, .int .i64 hi] 24)).alloc (.cells #[.int .i64 x, .int .i64 y, .int .i64 z] 26)).alloc (.cells #[.slice none 0 0, .int .i64 0, .int .i64 0] 24)) ⟨w.heap.size, 1, none⟩ = some (.int .i64 lo) := by simp [go_sem]
  have p2 : World.cell? (((w.alloc (.cells #[.slice A xs.length C, .int .i64 lo, .int .i64 hi] 24)).alloc (.cells #[.int .i64 x, .int .i64 y, .int .i64 z] 26)).alloc (.cells #[.slice none 0 0, .int .i64 0, .int .i64 0] 24)) ⟨w.heap.size, 2, none⟩ = some (.int .i64 hi) := by simp [go_sem]
  have lp : w.heap.size < (((w.alloc (.cells #[.slice A xs.length C, .int .i64 lo, .int .i64 hi] 24)).alloc (.cells #[.int .i64 x, .int .i64 y, .int .i64 z] 26)).alloc (.cells #[.slice none 0 0, .int .i64 0, .int .i64 0] 24)).heap.size := by simp <;> omega
  have q0 : World.cell? (((w.alloc (.cells #[.slice A xs.length C, .int .i64 lo, .int .i64 hi] 24)).alloc (.cells #[.int .i64 x, .int .i64 y, .int .i64 z] 26)).alloc (.cells #[.slice none 0 0, .int .i64 0, .int .i64 0] 24)) ⟨w.heap.size + 1, 0, none⟩ = some (.int .i64 x) := by simp [go_sem]
  have q1 : World.cell? (((w.alloc (.cells #[.slice A xs.length C, .int .i64 lo, .int .i64 hi] 24)).alloc (.cells #[.int .i64 x, .int .i64 y, .int .i64 z] 26)).alloc (.cells #[.slice none 0 0, .int .i64 0, .int .i64 0] 24)) ⟨w.heap.size + 1, 1, none⟩ = some (.int .i64 y) := by simp [go_sem]
  have q2 : World.cell? (((w.alloc (.cells #[.slice A xs.length C, .int .i64 lo, .int .i64 hi] 24)).alloc (.cells #[.int .i64 x, .int .i64 y, .int .i64 z] 26)).alloc (.cells #[.slice none 0 0, .int .i64 0, .int .i64 0] 24)) ⟨w.heap.size + 1, 2, none⟩ = some (.int .i64 z) := by simp [go_sem]
  have lq : w.heap.size + 1 < (((w.alloc (.cells #[.slice A xs.length C, .int .i64 lo, .int .i64 hi] 24)).alloc (.cells #[.int .i64 x, .int .i64 y, .int .i64 z] 26)).alloc (.cells #[.slice none 0 0, .int .i64 0, .int .i64 0] 24)).heap.size := by simp <;> omega
  have u0 : World.cell? (((w.alloc (.cells #[.slice A xs.length C, .int .i64 lo, .int .i64 hi] 24)).alloc (.cells #[.int .i64 x, .int .i64 y, .int .i64 z] 26)).alloc (.cells #[.slice none 0 0, .int .i64 0, .int .i64 0] 24)) ⟨w.heap.size + 1 + 1, 0, none⟩ = some (.slice none 0 0) := by simp [go_sem]
  have fu0 : World.frozen? (((w.alloc (.cells #[.slice A xs.length C, .int .i64 lo, .int .i64 hi] 24)).alloc (.cells #[.int .i64 x, .int .i64 y, .int .i64 z] 26)).alloc (.cells #[.slice none 0 0, .int .i64 0, .int .i64 0] 24)) ⟨w.heap.size + 1 + 1, 0, none⟩ = false := by simp [go_sem]
  have u1 : World.cell? (((w.alloc (.cells #[.slice A xs.length C, .int .i64 lo, .int .i64 hi] 24)).alloc (.cells #[.int .i64 x, .int .i64 y, .int .i64 z] 26)).alloc (.cells #[.slice none 0 0, .int .i64 0, .int .i64 0] 24)) ⟨w.heap.size + 1 + 1, 1, none⟩ = some (.int .i64 0) := by simp [go_sem]
  have fu1 : World.frozen? (((w.alloc (.cells #[.slice A xs.length C, .int .i64 lo, .int .i64 hi] 24)).alloc (.cells #[.int .i64 x, .int .i64 y, .int .i64 z] 26)).alloc (.cells #[.slice none 0 0, .int .i64 0, .int .i64 0] 24)) ⟨w.heap.size + 1 + 1, 1, none⟩ = false := by simp [go_sem]
  have u2 : World.cell? (((w.alloc (.cells #[.slice A xs.length C, .int .i64 lo, .int .i64 hi] 24)).alloc (.cells #[.int .i64 x, .int .i64 y, .int .i64 z] 26)).alloc (.cells #[.slice none 0 0, .int .i64 0, .int .i64 0] 24)) ⟨w.heap.size + 1 + 1, 2, none⟩ = some (.int .i64 0) := by simp [go_sem]
  have fu2 : World.frozen? (((w.alloc (.cells #[.slice A xs.length C, .int .i64 lo, .int .i64 hi] 24)).alloc (.cells #[.int .i64 x, .int .i64 y, .int .i64 z] 26)).alloc (.cells #[.slice none 0 0, .int .i64 0, .int .i64 0] 24)) ⟨w.heap.size + 1 + 1, 2, none⟩ = false := by simp [go_sem]
  have lu : w.heap.size + 1 + 1 < (((w.alloc (.cells #[.slice A xs.length C, .int .i64 lo, .int .i64 hi] 24)).alloc (.cells #[.int .i64 x, .int .i64 y, .int .i64 z] 26)).alloc (.cells #[.slice none 0 0, .int .i64 0, .int .i64 0] 24)).heap.size := by simp <;> omega
  have HB := Lib.hid (show Below w.heap.size w (((w.alloc (.cells #[.slice A xs.length C, .int .i64 lo, .int .i64 hi] 24)).alloc (.cells #[.int .i64 x, .int .i64 y, .int .i64 z] 26)).alloc (.cells #[.slice none 0 0, .int .i64 0, .int .i64 0] 24)) from ((((Below.refl _ _).alloc (by simp <;> omega) _).alloc (by simp <;> omega) _).alloc (by simp <;> omega) _))
  go_enter Try.func21, Try.ntmps21
  go_upto_region 1 with fail
  generalize ((w.alloc (.cells #[.slice A xs.length C, .int .i64 lo, .int .i64 hi] 24)).alloc (.cells #[.int .i64 x, .int .i64 y, .int .i64 z] 26)).alloc (.cells #[.slice none 0 0, .int .i64 0, .int .i64 0] 24) = w1 at *
  replace HL := Lib.hid (HL.out.below HB.out)
  go_wp2_with fail
  with_reducible refine (CA.out _ HL.out).mono ?_
  rintro e_ w2 ⟨rfl, hb⟩
  replace HB := Lib.hid (on_below HB.out hb)
  replace HL := Lib.hid (HL.out.below hb)
  replace p0 := keepc hb p0
  replace p1 := keepc hb p1
  replace p2 := keepc hb p2
  replace q0 := keepc hb q0
  replace q1 := keepc hb q1
  replace q2 := keepc hb q2
  replace u0 := keepc hb u0
  replace u1 := keepc hb u1
  replace u2 := keepc hb u2
  replace fu0 := keepf hb lu fu0
  replace fu1 := keepf hb lu fu1
  replace fu2 := keepf hb lu fu2
  replace lp := Nat.lt_of_lt_of_le lp hb.size
  replace lq := Nat.lt_of_lt_of_le lq hb.size
  replace lu := Nat.lt_of_lt_of_le lu hb.size
  clear hb
  go_wp2_with fail
  with_reducible refine (qpoint_is x y z true hv _).mono ?_
  rintro e_ w3 ⟨rfl, hb⟩
  replace HB := Lib.hid (on_below HB.out hb)
  replace HL := Lib.hid (HL.out.below hb)
  replace p0 := keepc hb p0
  replace p1 := keepc hb p1
  replace p2 := keepc hb p2
  replace q0 := keepc hb q0
  replace q1 := keepc hb q1
  replace q2 := keepc hb q2
  replace u0 := keepc hb u0
  replace u1 := keepc hb u1
  replace u2 := keepc hb u2
  replace fu0 := keepf hb lu fu0
  replace fu1 := keepf hb lu fu1
  replace fu2 := keepf hb lu fu2
  replace lp := Nat.lt_of_lt_of_le lp hb.size
  replace lq := Nat.lt_of_lt_of_le lq hb.size
  replace lu := Nat.lt_of_lt_of_le lu hb.size
  clear hb
  go_wp2_with fail
  refine bodyPost_ret (v := .tuple #[.agg #[.slice none 0 0, .int .i64 0, .int .i64 0], .int .i64 1]) (by simp [results, Try.results21, go_sem, u0, u1, u2]) rfl ⟨rfl, ?_⟩
  (repeat (refine Below.setCell ?_ (by simp <;> omega) _))
  exact HB.out
set_option maxRecDepth 100000 in
set_option maxHeartbeats 2000000 in
theorem qm_2 (A : Option Addr) (C : Nat) (xs : List (Int × Int)) (lo hi x y z : Int) (hlx : xs.length ≤ 9223372036854775806) (hra : true = true ↔ Bok xs lo hi) (hv : vv x y z = false) (w : World) (hl : SlS w A xs) :
    Calls Try.prog 21 #[.agg #[.slice A xs.length C, .int .i64 lo, .int .i64 hi], .agg #[.int .i64 x, .int .i64 y, .int .i64 z]] w fun e_ w' => e_ = .returned (.tuple #[.agg #[.slice none 0 0, .int .i64 0, .int .i64 0], .int .i64 1]) ∧ Below w.heap.size w w' := by
  have CA := Lib.hid (fun W (h : SlS W A xs) => qvalid_is A C xs lo hi (by omega) true hra W h)
  clear hra
  have HL := Lib.hid hl
  clear hl
  have p0 : World.cell? (((w.alloc (.cells #[.slice A xs.length C, .int .i64 lo, .int .i64 hi] 24)).alloc (.cells #[.int .i64 x, .int .i64 y, .int .i64 z] 26)).alloc (.cells #[.slice none 0 0, .int .i64 0, .int .i64 0] 24)) ⟨w.heap.size, 0, none⟩ = some (.slice A xs.length C) := by simp [go_sem]
  have p1 : World.cell? (((w.alloc (.cells #[.slice A xs.length C, .int .i64 lo, .int .i64 hi] 24)).alloc (.cells #[.int .i64 x, .int .i64 y, .int .i64 z] 26)).alloc (.cells #[.slice none 0 0, .int .i64 0, .int .i64 0] 24)) ⟨w.heap.size, 1, none⟩ = some (.int .i64 lo) := by simp [go_sem]
  have p2 : World.cell? (((w.alloc (.cells #[.slice A xs.length C, .int .i64 lo, .int .i64 hi] 24)).alloc (.cells #[.int .i64 x, .int .i64 y, .int .i64 z] 26)).alloc (.cells #[.slice none 0 0, .int .i64 0, .int .i64 0] 24)) ⟨w.heap.size, 2, none⟩ = some (.int .i64 hi) := by simp [go_sem]
  have lp : w.heap.size < (((w.alloc (.cells #[.slice A xs.length C, .int .i64 lo, .int .i64 hi] 24)).alloc (.cells #[.int .i64 x, .int .i64 y, .int .i64 z] 26)).alloc (.cells #[.slice none 0 0, .int .i64 0, .int .i64 0] 24)).heap.size := by simp <;> omega
  have q0 : World.cell? (((w.alloc (.cells #[.slice A xs.length C, .int .i64 lo, .int .i64 hi] 24)).alloc (.cells #[.int .i64 x, .int .i64 y, .int .i64 z] 26)).alloc (.cells #[.slice none 0 0, .int .i64 0, .int .i64 0] 24)) ⟨w.heap.size + 1, 0, none⟩ = some (.int .i64 x) := by simp [go_sem]
  have q1 : World.cell? (((w.alloc (.cells #[.slice A xs.length C, .int .i64 lo, .int .i64 hi] 24)).alloc (.cells #[.int .i64 x, .int .i64 y, .int .i64 z] 26)).alloc (.cells #[.slice none 0 0, .int .i64 0, .int .i64 0] 24)) ⟨w.heap.size + 1, 1, none⟩ = some (.int .i64 y) := by simp [go_sem]
  have q2 : World.cell? (((w.alloc (.cells #[.slice A xs.length C, .int .i64 lo, .int .i64 hi] 24)).alloc (.cells #[.int .i64 x, .int .i64 y, .int .i64 z] 26)).alloc (.cells #[.slice none 0 0, .int .i64 0, .int .i64 0] 24)) ⟨w.heap.size + 1, 2, none⟩ = some (.int .i64 z) := by simp [go_sem]
  have lq : w.heap.size + 1 < (((w.alloc (.cells #[.slice A xs.length C, .int .i64 lo, .int .i64 hi] 24)).alloc (.cells #[.int .i64 x, .int .i64 y, .int .i64 z] 26)).alloc (.cells #[.slice none 0 0, .int .i64 0, .int .i64 0] 24)).heap.size := by simp <;> omega
  have u0 : World.cell? (((w.alloc (.cells #[.slice A xs.length C, .int .i64 lo, .int .i64 hi] 24)).alloc (.cells #[.int .i64 x, .int .i64 y, .int .i64 z] 26)).alloc (.cells #[.slice none 0 0, .int .i64 0, .int .i64 0] 24)) ⟨w.heap.size + 1 + 1, 0, none⟩ = some (.slice none 0 0) := by simp [go_sem]
  have fu0 : World.frozen? (((w.alloc (.cells #[.slice A xs.length C, .int .i64 lo, .int .i64 hi] 24)).alloc (.cells #[.int .i64 x, .int .i64 y, .int .i64 z] 26)).alloc (.cells #[.slice none 0 0, .int .i64 0, .int .i64 0] 24)) ⟨w.heap.size + 1 + 1, 0, none⟩ = false := by simp [go_sem]
  have u1 : World.cell? (((w.alloc (.cells #[.slice A xs.length C, .int .i64 lo, .int .i64 hi] 24)).alloc (.cells #[.int .i64 x, .int .i64 y, .int .i64 z] 26)).alloc (.cells #[.slice none 0 0, .int .i64 0, .int .i64 0] 24)) ⟨w.heap.size + 1 + 1, 1, none⟩ = some (.int .i64 0) := by simp [go_sem]
  have fu1 : World.frozen? (((w.alloc (.cells #[.slice A xs.length C, .int .i64 lo, .int .i64 hi] 24)).alloc (.cells #[.int .i64 x, .int .i64 y, .int .i64 z] 26)).alloc (.cells #[.slice none 0 0, .int .i64 0, .int .i64 0] 24)) ⟨w.heap.size + 1 + 1, 1, none⟩ = false := by simp [go_sem]
  have u2 : World.cell? (((w.alloc (.cells #[.slice A xs.length C, .int .i64 lo, .int .i64 hi] 24)).alloc (.cells #[.int .i64 x, .int .i64 y, .int .i64 z] 26)).alloc (.cells #[.slice none 0 0, .int .i64 0, .int .i64 0] 24)) ⟨w.heap.size + 1 + 1, 2, none⟩ = some (.int .i64 0) := by simp [go_sem]
  have fu2 : World.frozen? (((w.alloc (.cells #[.slice A xs.length C, .int .i64 lo, .int .i64 hi] 24)).alloc (.cells #[.int .i64 x, .int .i64 y, .int .i64 z] 26)).alloc (.cells #[.slice none 0 0, .int .i64 0, .int .i64 0] 24)) ⟨w.heap.size + 1 + 1, 2, none⟩ = false := by simp [go_sem]
  have lu : w.heap.size + 1 + 1 < (((w.alloc (.cells #[.slice A xs.length C, .int .i64 lo, .int .i64 hi] 24)).alloc (.cells #[.int .i64 x, .int .i64 y, .int .i64 z] 26)).alloc (.cells #[.slice none 0 0, .int .i64 0, .int .i64 0] 24)).heap.size := by simp <;> omega
  have HB := Lib.hid (show Below w.heap.size w (((w.alloc (.cells #[.slice A xs.length C, .int .i64 lo, .int .i64 hi] 24)).alloc (.cells #[.int .i64 x, .int .i64 y, .int .i64 z] 26)).alloc (.cells #[.slice none 0 0, .int .i64 0, .int .i64 0] 24)) from ((((Below.refl _ _).alloc (by simp <;> omega) _).alloc (by simp <;> omega) _).alloc (by simp <;> omega) _))
  go_enter Try.func21, Try.ntmps21
  go_upto_region 1 with fail
  generalize ((w.alloc (.cells #[.slice A xs.length C, .int .i64 lo, .int .i64 hi] 24)).alloc (.cells #[.int .i64 x, .int .i64 y, .int .i64 z] 26)).alloc (.cells #[.slice none 0 0, .int .i64 0, .int .i64 0] 24) = w1 at *
  replace HL := Lib.hid (HL.out.below HB.out)
  go_wp2_with fail
  with_reducible refine (CA.out _ HL.out).mono ?_
  rintro e_ w2 ⟨rfl, hb⟩
  replace HB := Lib.hid (on_below HB.out hb)
  replace HL := Lib.hid (HL.out.below hb)
  replace p0 := keepc hb p0
  replace p1 := keepc hb p1
  replace p2 := keepc hb p2
  replace q0 := keepc hb q0
  replace q1 := keepc hb q1
  replace q2 := keepc hb q2
  replace u0 := keepc hb u0
  replace u1 := keepc hb u1
  replace u2 := keepc hb u2
  replace fu0 := keepf hb lu fu0
  replace fu1 := keepf hb lu fu1
  replace fu2 := keepf hb lu fu2
  replace lp := Nat.lt_of_lt_of_le lp hb.size
  replace lq := Nat.lt_of_lt_of_le lq hb.size
  replace lu := Nat.lt_of_lt_of_le lu hb.size
  clear hb
  go_wp2_with fail
  with_reducible refine (qpoint_is x y z false hv _).mono ?_
  rintro e_ w3 ⟨rfl, hb⟩
  replace HB := Lib.hid (on_below HB.out hb)
  replace HL := Lib.hid (HL.out.below hb)
  replace p0 := keepc hb p0
  replace p1 := keepc hb p1
  replace p2 := keepc hb p2
  replace q0 := keepc hb q0
  replace q1 := keepc hb q1
  replace q2 := keepc hb q2
  replace u0 := keepc hb u0
  replace u1 := keepc hb u1
  replace u2 := keepc hb u2
  replace fu0 := keepf hb lu fu0
  replace fu1 := keepf hb lu fu1
  replace fu2 := keepf hb lu fu2
  replace lp := Nat.lt_of_lt_of_le lp hb.size
  replace lq := Nat.lt_of_lt_of_le lq hb.size
  replace lu := Nat.lt_of_lt_of_le lu hb.size
  clear hb
  go_wp2_with fail
  refine bodyPost_ret (v := .tuple #[.agg #[.slice none 0 0, .int .i64 0, .int .i64 0], .int .i64 1]) (by simp [results, Try.results21, go_sem, u0, u1, u2]) rfl ⟨rfl, ?_⟩
  (repeat (refine Below.setCell ?_ (by simp <;> omega) _))
  exact HB.out
theorem info_parts2 {x : Option TypeInfo} {z : Option Value} {s b : Nat} (h : x.map (fun i => (i.zero, i.size, i.bytes)) = some (z, s, b)) : ∃ i, x = some i ∧ i.zero = z ∧ i.size = s ∧ i.bytes = b := by
  cases x with
  | none => cases h
  | some i => simp at h; exact ⟨i, rfl, h.1, h.2.1, h.2.2⟩
theorem undrew2 {w w' : World} {r : Option Nat} (h : w.drew.grownBy w' r) : w.grownBy w' r := (grown_drew w |>.but r).trans h
theorem grown_at (w : World) (g k : Nat) (v : Value) : w.grownBy (w.setCell ⟨g, k, none⟩ v) (some g) :=
  ⟨rfl, rfl, rfl, by simp, fun b _ hne => Below.heap_setCell w _ v b (by rintro rfl; exact hne rfl)⟩
theorem flat_snoc2 (xs : List (Int × Int)) (x y : Int) : flatV xs ++ [.int .i64 x, .int .i64 y] = flatV (xs ++ [(x, y)]) := by simp [flatV]
structure Bk (W : World) (g : Nat) (o : Obj) : Prop where
  h : W.heap[g]? = some o
theorem Bk.below {W W' : World} {g : Nat} {o : Obj} (h : Bk W g o) (hb : Below W.heap.size W W') : Bk W' g o := ⟨blk_on h.h hb⟩
theorem take_mv {xs : List (Int × Int)} {x y : Int} {k : Nat} (h : k < xs.length) : (mv xs x y).take (k + 1) = (mv xs x y).take k ++ [((gdS xs k).1 + x, (gdS xs k).2 + y)] := by
  rw [List.take_succ_eq_append_getElem (by rw [mv_len]; exact h), gdS_at h]
  simp [mv]
theorem capk {k : Nat} (h : k + 1 ≤ 8) : k + 1 ≤ maxLen ∧ (k + 1) * 16 ≤ 140737488355328 := by unfold maxLen; omega
theorem sls_of_own {W : World} {B n C g : Nat} {e : TypeId} {xs : List (Int × Int)} (h : W.ownsRow B e 2 (.slice (some ⟨g, 0, none⟩) n C) n (flatV xs)) : SlS W (some ⟨g, 0, none⟩) xs := by
  obtain ⟨A, C', e1, _, _, hs⟩ := own_slS h
  have : some (⟨g, 0, none⟩ : Addr) = A := by injection e1
  rw [this]; exact hs
theorem cell_far_set {W : World} {j i go : Nat} {u v : Value} (hne : j ≠ go) (h : W.cell? ⟨j, i, none⟩ = some v) : (W.setCell ⟨go, 0, none⟩ u).cell? ⟨j, i, none⟩ = some v := by
  rw [World.cell?_of_block (a := ⟨j, i, none⟩) (Below.heap_setCell W ⟨go, 0, none⟩ u j hne)]; exact h
/-- The reference's Move between two corners: g + 1: by; g + 2: the results; go: the body that grows. -/
structure Qo (g go B b0 o0 C : Nat) (xs : List (Int × Int)) (lo hi x y z l h : Int) (w0 : World) (k : Nat) (A' : Option Addr) (C' : Nat) (W : World) : Prop where
  row : W.ownsRow B 43 2 (.slice A' k C') k (flatV ((mv xs x y).take k))
  out : W.heap[go]? = some (.cells #[.slice A' k C', .int .i64 l, .int .i64 h] 24 (0, 0))
  p : W.heap[g]? = some (.cells #[.slice (some ⟨b0, o0, none⟩) xs.length C, .int .i64 lo, .int .i64 hi] 24 (0, 0))
  q : W.heap[g + 1]? = some (.cells #[.int .i64 x, .int .i64 y, .int .i64 z] 26 (0, 0))
  u : W.heap[g + 1 + 1]? = some (.cells #[.slice none 0 0, .int .i64 0, .int .i64 0] 24 (0, 0))
  sl : SlS W (some ⟨b0, o0, none⟩) xs
  bel : Below w0.heap.size w0 W
section
variable {g go B b0 o0 C k C' : Nat} {xs : List (Int × Int)} {lo hi x y z l h : Int} {w0 W W5 : World} {A' : Option Addr}
theorem Qo.step (m : Qo g go B b0 o0 C xs lo hi x y z l h w0 k A' C' W) (h0 : w0.heap.size ≤ go) (h1 : go < B) (h2 : g + 1 + 1 < go) (h3 : b0 < go) (hW : B ≤ W.heap.size) {gg cap : Nat} (hg : W.grownBy W5 (Value.slice A' k C').ownBlock)
    (hown : W5.ownsRow B 43 2 (.slice (some ⟨gg, 0, none⟩) (k + 1) cap) (k + 1) (flatV ((mv xs x y).take (k + 1)))) :
    Qo g go B b0 o0 C xs lo hi x y z l h w0 (k + 1) (some ⟨gg, 0, none⟩) cap (W5.setCell ⟨go, 0, none⟩ (.slice (some ⟨gg, 0, none⟩) (k + 1) cap)) := by
  have hr : ∀ j, j < B → some j ≠ (Value.slice A' k C').ownBlock := fun j hj e => by have := (m.row.lt j e.symm).1; omega
  have h5 : ∀ j, j < B → W5.heap[j]? = W.heap[j]? := fun j hj => hg.block j (by omega) (hr j hj)
  have hgg : B ≤ gg := (hown.lt gg rfl).1
  have keep : ∀ {j : Nat} {o : Obj}, j < B → j ≠ go → W.heap[j]? = some o → (W5.setCell ⟨go, 0, none⟩ (.slice (some ⟨gg, 0, none⟩) (k + 1) cap)).heap[j]? = some o := fun hj hne ho => blk_far (by rw [h5 _ hj]; exact ho) hne
  refine ⟨hown.kept (grown_at W5 go 0 _) (Or.inr (by simp [Value.ownBlock]; omega)), set_cells (by rw [h5 go h1]; exact m.out) 0 _, keep (by omega) (by omega) m.p, keep (by omega) (by omega) m.q, keep (by omega) (by omega) m.u, ?_, ?_⟩
  · refine m.sl.same fun b o e hlt => ?_
    obtain ⟨rfl, rfl⟩ : b0 = b ∧ o0 = o := by simpa using e
    have hne : b0 ≠ go := by omega
    rw [Below.heap_setCell W5 ⟨go, 0, none⟩ _ b0 hne, h5 b0 (by omega)]
  · exact (m.bel.grown hg m.bel.size (fun j e => by have := (m.row.lt j e).1; omega)).setCell h0 _
end
set_option maxRecDepth 100000 in
set_option maxHeartbeats 4000000 in
theorem qm_3 (b0 o0 C : Nat) (xs : List (Int × Int)) (lo hi x y z : Int) (hlx : xs.length ≤ 9223372036854775806) (hra : true = true ↔ Bok xs lo hi) (hv : vv x y z = true) (r : Bool) (hr : r = true ↔ Bok (mv xs x y) (lo + z) (hi + z)) (w : World) (hl : SlS w (some ⟨b0, o0, none⟩) xs) :
    Calls Try.prog 21 #[.agg #[.slice (some ⟨b0, o0, none⟩) xs.length C, .int .i64 lo, .int .i64 hi], .agg #[.int .i64 x, .int .i64 y, .int .i64 z]] w fun e_ w' => PmQ r xs x y (lo + z) (hi + z) w e_ w' := by
  have BA := Lib.hid (hra.1 rfl)
  have VA := Lib.hid (vv_iff.1 hv)
  have HR := Lib.hid hr
  clear hr
  have zb : (-2000 ≤ lo ∧ lo ≤ 2000) ∧ (-2000 ≤ hi ∧ hi ≤ 2000) ∧ (-2000 ≤ x ∧ x ≤ 2000) ∧ (-2000 ≤ y ∧ y ≤ 2000) ∧ (-2000 ≤ z ∧ z ≤ 2000) := ⟨BA.out.zl, BA.out.zh, VA.out.x, VA.out.y, VA.out.z⟩
  obtain ⟨zb1, zb2, zb3, zb4, zb5⟩ := zb
  have n8 := BA.out.n8
  have n3 := BA.out.n3
  obtain ⟨i0, hi0, hz0, hz1, hz2⟩ := info_parts2 (show (Try.prog.info? 43).map (fun i => (i.zero, i.size, i.bytes)) = some (some (.agg #[.int .i64 0, .int .i64 0]), 2, 16) by kernel_rfl)
  have wf0 : IntKind.i64.wrap (lo + z) = lo + z := wrp1 ⟨by omega, by omega⟩
  have wg0 : wrap64 (lo + z) = lo + z := wrp2 ⟨by omega, by omega⟩
  have wf1 : IntKind.i64.wrap (hi + z) = hi + z := wrp1 ⟨by omega, by omega⟩
  have wg1 : wrap64 (hi + z) = hi + z := wrp2 ⟨by omega, by omega⟩
  have CA := Lib.hid (fun W (h : SlS W (some ⟨b0, o0, none⟩) xs) => qvalid_is (some ⟨b0, o0, none⟩) C xs lo hi (by omega) true hra W h)
  clear hra hlx
  have HL := Lib.hid hl
  clear hl
  have hsb : b0 < w.heap.size := by
    obtain ⟨b, o, e, c, _⟩ := HL.out 0 (by omega)
    obtain ⟨rfl, rfl⟩ : b0 = b ∧ o0 = o := by simpa using e
    exact block_lt c
  have KP := Lib.hid (show Bk (((w.alloc (.cells #[.slice (some ⟨b0, o0, none⟩) xs.length C, .int .i64 lo, .int .i64 hi] 24)).alloc (.cells #[.int .i64 x, .int .i64 y, .int .i64 z] 26)).alloc (.cells #[.slice none 0 0, .int .i64 0, .int .i64 0] 24)) (w.heap.size) (.cells #[.slice (some ⟨b0, o0, none⟩) xs.length C, .int .i64 lo, .int .i64 hi] 24) from ⟨(boxes3 w _ _ _ rfl).2.1⟩)
  have KQ := Lib.hid (show Bk (((w.alloc (.cells #[.slice (some ⟨b0, o0, none⟩) xs.length C, .int .i64 lo, .int .i64 hi] 24)).alloc (.cells #[.int .i64 x, .int .i64 y, .int .i64 z] 26)).alloc (.cells #[.slice none 0 0, .int .i64 0, .int .i64 0] 24)) (w.heap.size + 1) (.cells #[.int .i64 x, .int .i64 y, .int .i64 z] 26) from ⟨(boxes3 w _ _ _ rfl).2.2.1⟩)
  have KU := Lib.hid (show Bk (((w.alloc (.cells #[.slice (some ⟨b0, o0, none⟩) xs.length C, .int .i64 lo, .int .i64 hi] 24)).alloc (.cells #[.int .i64 x, .int .i64 y, .int .i64 z] 26)).alloc (.cells #[.slice none 0 0, .int .i64 0, .int .i64 0] 24)) (w.heap.size + 1 + 1) (.cells #[.slice none 0 0, .int .i64 0, .int .i64 0] 24) from ⟨(boxes3 w _ _ _ rfl).2.2.2⟩)
  have p0 : World.cell? (((w.alloc (.cells #[.slice (some ⟨b0, o0, none⟩) xs.length C, .int .i64 lo, .int .i64 hi] 24)).alloc (.cells #[.int .i64 x, .int .i64 y, .int .i64 z] 26)).alloc (.cells #[.slice none 0 0, .int .i64 0, .int .i64 0] 24)) ⟨w.heap.size, 0, none⟩ = some (.slice (some ⟨b0, o0, none⟩) xs.length C) := by simp [go_sem]
  have p1 : World.cell? (((w.alloc (.cells #[.slice (some ⟨b0, o0, none⟩) xs.length C, .int .i64 lo, .int .i64 hi] 24)).alloc (.cells #[.int .i64 x, .int .i64 y, .int .i64 z] 26)).alloc (.cells #[.slice none 0 0, .int .i64 0, .int .i64 0] 24)) ⟨w.heap.size, 1, none⟩ = some (.int .i64 lo) := by simp [go_sem]
  have p2 : World.cell? (((w.alloc (.cells #[.slice (some ⟨b0, o0, none⟩) xs.length C, .int .i64 lo, .int .i64 hi] 24)).alloc (.cells #[.int .i64 x, .int .i64 y, .int .i64 z] 26)).alloc (.cells #[.slice none 0 0, .int .i64 0, .int .i64 0] 24)) ⟨w.heap.size, 2, none⟩ = some (.int .i64 hi) := by simp [go_sem]
  have lp : w.heap.size < (((w.alloc (.cells #[.slice (some ⟨b0, o0, none⟩) xs.length C, .int .i64 lo, .int .i64 hi] 24)).alloc (.cells #[.int .i64 x, .int .i64 y, .int .i64 z] 26)).alloc (.cells #[.slice none 0 0, .int .i64 0, .int .i64 0] 24)).heap.size := by simp <;> omega
  have q0 : World.cell? (((w.alloc (.cells #[.slice (some ⟨b0, o0, none⟩) xs.length C, .int .i64 lo, .int .i64 hi] 24)).alloc (.cells #[.int .i64 x, .int .i64 y, .int .i64 z] 26)).alloc (.cells #[.slice none 0 0, .int .i64 0, .int .i64 0] 24)) ⟨w.heap.size + 1, 0, none⟩ = some (.int .i64 x) := by simp [go_sem]
  have q1 : World.cell? (((w.alloc (.cells #[.slice (some ⟨b0, o0, none⟩) xs.length C, .int .i64 lo, .int .i64 hi] 24)).alloc (.cells #[.int .i64 x, .int .i64 y, .int .i64 z] 26)).alloc (.cells #[.slice none 0 0, .int .i64 0, .int .i64 0] 24)) ⟨w.heap.size + 1, 1, none⟩ = some (.int .i64 y) := by simp [go_sem]
  have q2 : World.cell? (((w.alloc (.cells #[.slice (some ⟨b0, o0, none⟩) xs.length C, .int .i64 lo, .int .i64 hi] 24)).alloc (.cells #[.int .i64 x, .int .i64 y, .int .i64 z] 26)).alloc (.cells #[.slice none 0 0, .int .i64 0, .int .i64 0] 24)) ⟨w.heap.size + 1, 2, none⟩ = some (.int .i64 z) := by simp [go_sem]
  have lq : w.heap.size + 1 < (((w.alloc (.cells #[.slice (some ⟨b0, o0, none⟩) xs.length C, .int .i64 lo, .int .i64 hi] 24)).alloc (.cells #[.int .i64 x, .int .i64 y, .int .i64 z] 26)).alloc (.cells #[.slice none 0 0, .int .i64 0, .int .i64 0] 24)).heap.size := by simp <;> omega
  have u0 : World.cell? (((w.alloc (.cells #[.slice (some ⟨b0, o0, none⟩) xs.length C, .int .i64 lo, .int .i64 hi] 24)).alloc (.cells #[.int .i64 x, .int .i64 y, .int .i64 z] 26)).alloc (.cells #[.slice none 0 0, .int .i64 0, .int .i64 0] 24)) ⟨w.heap.size + 1 + 1, 0, none⟩ = some (.slice none 0 0) := by simp [go_sem]
  have fu0 : World.frozen? (((w.alloc (.cells #[.slice (some ⟨b0, o0, none⟩) xs.length C, .int .i64 lo, .int .i64 hi] 24)).alloc (.cells #[.int .i64 x, .int .i64 y, .int .i64 z] 26)).alloc (.cells #[.slice none 0 0, .int .i64 0, .int .i64 0] 24)) ⟨w.heap.size + 1 + 1, 0, none⟩ = false := by simp [go_sem]
  have u1 : World.cell? (((w.alloc (.cells #[.slice (some ⟨b0, o0, none⟩) xs.length C, .int .i64 lo, .int .i64 hi] 24)).alloc (.cells #[.int .i64 x, .int .i64 y, .int .i64 z] 26)).alloc (.cells #[.slice none 0 0, .int .i64 0, .int .i64 0] 24)) ⟨w.heap.size + 1 + 1, 1, none⟩ = some (.int .i64 0) := by simp [go_sem]
  have fu1 : World.frozen? (((w.alloc (.cells #[.slice (some ⟨b0, o0, none⟩) xs.length C, .int .i64 lo, .int .i64 hi] 24)).alloc (.cells #[.int .i64 x, .int .i64 y, .int .i64 z] 26)).alloc (.cells #[.slice none 0 0, .int .i64 0, .int .i64 0] 24)) ⟨w.heap.size + 1 + 1, 1, none⟩ = false := by simp [go_sem]
  have u2 : World.cell? (((w.alloc (.cells #[.slice (some ⟨b0, o0, none⟩) xs.length C, .int .i64 lo, .int .i64 hi] 24)).alloc (.cells #[.int .i64 x, .int .i64 y, .int .i64 z] 26)).alloc (.cells #[.slice none 0 0, .int .i64 0, .int .i64 0] 24)) ⟨w.heap.size + 1 + 1, 2, none⟩ = some (.int .i64 0) := by simp [go_sem]
  have fu2 : World.frozen? (((w.alloc (.cells #[.slice (some ⟨b0, o0, none⟩) xs.length C, .int .i64 lo, .int .i64 hi] 24)).alloc (.cells #[.int .i64 x, .int .i64 y, .int .i64 z] 26)).alloc (.cells #[.slice none 0 0, .int .i64 0, .int .i64 0] 24)) ⟨w.heap.size + 1 + 1, 2, none⟩ = false := by simp [go_sem]
  have lu : w.heap.size + 1 + 1 < (((w.alloc (.cells #[.slice (some ⟨b0, o0, none⟩) xs.length C, .int .i64 lo, .int .i64 hi] 24)).alloc (.cells #[.int .i64 x, .int .i64 y, .int .i64 z] 26)).alloc (.cells #[.slice none 0 0, .int .i64 0, .int .i64 0] 24)).heap.size := by simp <;> omega
  have HB := Lib.hid (show Below w.heap.size w (((w.alloc (.cells #[.slice (some ⟨b0, o0, none⟩) xs.length C, .int .i64 lo, .int .i64 hi] 24)).alloc (.cells #[.int .i64 x, .int .i64 y, .int .i64 z] 26)).alloc (.cells #[.slice none 0 0, .int .i64 0, .int .i64 0] 24)) from ((((Below.refl _ _).alloc (by simp <;> omega) _).alloc (by simp <;> omega) _).alloc (by simp <;> omega) _))
  go_enter Try.func21, Try.ntmps21
  go_upto_region 1 with fail
  generalize ((w.alloc (.cells #[.slice (some ⟨b0, o0, none⟩) xs.length C, .int .i64 lo, .int .i64 hi] 24)).alloc (.cells #[.int .i64 x, .int .i64 y, .int .i64 z] 26)).alloc (.cells #[.slice none 0 0, .int .i64 0, .int .i64 0] 24) = w1 at *
  replace HL := Lib.hid (HL.out.below HB.out)
  go_wp2_with fail
  with_reducible refine (CA.out _ HL.out).mono ?_
  rintro e_ w2 ⟨rfl, hb⟩
  replace HB := Lib.hid (on_below HB.out hb)
  replace KP := Lib.hid (KP.out.below hb)
  replace KQ := Lib.hid (KQ.out.below hb)
  replace KU := Lib.hid (KU.out.below hb)
  replace HL := Lib.hid (HL.out.below hb)
  replace p0 := keepc hb p0
  replace p1 := keepc hb p1
  replace p2 := keepc hb p2
  replace q0 := keepc hb q0
  replace q1 := keepc hb q1
  replace q2 := keepc hb q2
  replace u0 := keepc hb u0
  replace u1 := keepc hb u1
  replace u2 := keepc hb u2
  replace fu0 := keepf hb lu fu0
  replace fu1 := keepf hb lu fu1
  replace fu2 := keepf hb lu fu2
  replace lp := Nat.lt_of_lt_of_le lp hb.size
  replace lq := Nat.lt_of_lt_of_le lq hb.size
  replace lu := Nat.lt_of_lt_of_le lu hb.size
  clear hb
  go_wp2_with fail
  with_reducible refine (qpoint_is x y z true hv _).mono ?_
  rintro e_ w3 ⟨rfl, hb⟩
  replace HB := Lib.hid (on_below HB.out hb)
  replace KP := Lib.hid (KP.out.below hb)
  replace KQ := Lib.hid (KQ.out.below hb)
  replace KU := Lib.hid (KU.out.below hb)
  replace HL := Lib.hid (HL.out.below hb)
  replace p0 := keepc hb p0
  replace p1 := keepc hb p1
  replace p2 := keepc hb p2
  replace q0 := keepc hb q0
  replace q1 := keepc hb q1
  replace q2 := keepc hb q2
  replace u0 := keepc hb u0
  replace u1 := keepc hb u1
  replace u2 := keepc hb u2
  replace fu0 := keepf hb lu fu0
  replace fu1 := keepf hb lu fu1
  replace fu2 := keepf hb lu fu2
  replace lp := Nat.lt_of_lt_of_le lp hb.size
  replace lq := Nat.lt_of_lt_of_le lq hb.size
  replace lu := Nat.lt_of_lt_of_le lu hb.size
  clear hb
  go_wp2_with fail
  have HQ := Lib.hid (show Qo w.heap.size w3.heap.size (w3.heap.size + 1) b0 o0 C xs lo hi x y z (lo + z) (hi + z) w 0 none 0 (w3.alloc (.cells #[.slice none 0 0, .int .i64 (lo + z), .int .i64 (hi + z)] 24)) from ⟨by rw [List.take_zero]; exact World.ownsRow_nil _ _ _ _, World.alloc_heap_new _ _, blk_new KP.out.h _, blk_new KQ.out.h _, blk_new KU.out.h _, HL.out.below (below_new _ _), on_below HB.out (below_new _ _)⟩)
  clear KP KQ KU HL HB p0 p1 p2 q0 q1 q2 u0 u1 u2 fu0 fu1 fu2 CA lp lq
  generalize w3.alloc (.cells #[.slice none 0 0, .int .i64 (lo + z), .int .i64 (hi + z)] 24) = V at *
  obtain ⟨go, hgo⟩ : ∃ x, w3.heap.size = x := ⟨_, rfl⟩
  rw [hgo] at HQ lu ⊢
  clear hgo
  go_loopw [9] (fun i wr => ∃ (k : Nat) (A' : Option Addr) (C' : Nat), k ≤ xs.length ∧ i = .int .i64 k ∧ Hid (Qo w.heap.size go (go + 1) b0 o0 C xs lo hi x y z (lo + z) (hi + z) w k A' C' wr)) (fun i _ => xs.length - (intOf i).toNat)
  case atStart => exact ⟨0, none, 0, Nat.zero_le _, rfl, HQ.out⟩
  case round =>
    obtain ⟨k, A', C', hk, rfl, HK⟩ := hrel
    clear HQ
    by_cases hlt : k < xs.length
    · have p0 := (cells3 HK.out.p).1
      have q0 := (cells3 HK.out.q).1
      have q1 := (cells3 HK.out.q).2.1
      have c0 := (cells3 HK.out.out).1
      have lgo := block_lt c0
      obtain ⟨e0, e1⟩ := sl_two HK.out.sl hlt
      have le0 := block_lt e0
      have lp0 := block_lt p0
      have lq0 := block_lt q0
      have hb1 : co (gdS xs k).1 := BA.out.rx k hlt
      have hb2 : co (gdS xs k).2 := BA.out.ry k hlt
      unfold co at hb1 hb2
      have HT := Lib.hid (take_mv (x := x) (y := y) hlt)
      generalize (gdS xs k).1 = a at *
      generalize (gdS xs k).2 = b at *
      have z5_ : xs.length - (k + 1) < xs.length - k := by omega
      have zk1 : (k : Int) + 1 ≤ 9000 := by omega
      clear wf0 wf1 wg0 wg1
      have n1 : w.heap.size < go + 1 := by omega
      have n2 : w.heap.size + 1 < go + 1 := by omega
      have n5 : b0 < go := by omega
      have n3 : b0 < go + 1 := by omega
      have n4 : w.heap.size ≤ go := by omega
      have m1 : w.heap.size ≠ go := by omega
      have m2 : w.heap.size + 1 ≠ go := by omega
      have m3 : b0 ≠ go := by omega
      have hk8 : k + 1 ≤ 8 := by omega
      have vf0 : IntKind.i64.wrap (a + x) = a + x := wrp1 ⟨by omega, by omega⟩
      have vf1 : IntKind.i64.wrap (b + y) = b + y := wrp1 ⟨by omega, by omega⟩
      have vg0 : wrap64 (a + x) = a + x := wrp2 ⟨by omega, by omega⟩
      have vg1 : wrap64 (b + y) = b + y := wrp2 ⟨by omega, by omega⟩
      have vk0 : IntKind.i64.wrap ((k : Int) + 1) = (k : Int) + 1 := wrp1 ⟨by omega, by omega⟩
      have vk1 : wrap64 ((k : Int) + 1) = (k : Int) + 1 := wrp2 ⟨by omega, by omega⟩
      have hbase : go + 1 ≤ ((wr.alloc (.cells #[.int .i64 (a + x), .int .i64 (b + y)] 43)).drew).heap.size := Nat.le_trans lgo (by show wr.heap.size ≤ (wr.alloc _).heap.size; simp)
      have hi1 : (k : Int) < xs.length := Int.ofNat_lt.2 hlt
      have hbz := HK.out.bel.size
      go_wp2_with fail
      have sc : ∀ {V : World}, Below wr.heap.size wr V → V.cell? ⟨w.heap.size, 0, none⟩ = some (.slice (some ⟨b0, o0, none⟩) xs.length C) ∧ V.cell? ⟨w.heap.size + 1, 0, none⟩ = some (.int .i64 x) ∧ V.cell? ⟨w.heap.size + 1, 1, none⟩ = some (.int .i64 y) ∧ V.cell? ⟨b0, o0 + k * 2, none⟩ = some (.int .i64 a) ∧ V.cell? ⟨b0, o0 + k * 2 + 1, none⟩ = some (.int .i64 b) := fun h => ⟨keepc h p0, keepc h q0, keepc h q1, keepc h e0, keepc h e1⟩
      refine wp_region_held_drew (S := fun V => V.cell? ⟨w.heap.size, 0, none⟩ = some (.slice (some ⟨b0, o0, none⟩) xs.length C) ∧ V.cell? ⟨w.heap.size + 1, 0, none⟩ = some (.int .i64 x) ∧ V.cell? ⟨w.heap.size + 1, 1, none⟩ = some (.int .i64 y) ∧ V.cell? ⟨b0, o0 + k * 2, none⟩ = some (.int .i64 a) ∧ V.cell? ⟨b0, o0 + k * 2 + 1, none⟩ = some (.int .i64 b)) (by kernel_rfl) (sc (Below.refl _ _).drew) fun HL_ => ?_
      refine wpAnyH_take (i := 0) (v := .pointer (some ⟨go, 0, none⟩)) rfl (by kernel_rfl) (by kernel_rfl) (by kernel_rfl) (fun _ _ _ h => h) (Or.inl ⟨by kernel_rfl, ?_⟩) HL_ ?_
      · rintro Wl ⟨s0, s1, s2, s3, s4⟩
        go_simp
      simp only [Act.put, List.getElem_toArray, List.getElem_cons_succ, List.getElem_cons_zero, List.setIfInBounds_toArray, List.set_cons_zero, List.set_cons_succ]
      refine wpAnyH_take (i := 2) (v := .pointer (some ⟨w.heap.size, 0, none⟩)) rfl (by kernel_rfl) (by kernel_rfl) (by kernel_rfl) (fun _ _ _ h => h) (Or.inl ⟨by kernel_rfl, ?_⟩) HL_ ?_
      · rintro Wl ⟨s0, s1, s2, s3, s4⟩
        go_simp
      simp only [Act.put, List.getElem_toArray, List.getElem_cons_succ, List.getElem_cons_zero, List.setIfInBounds_toArray, List.set_cons_zero, List.set_cons_succ]
      refine wpAnyH_take (i := 3) (v := .slice (some ⟨b0, o0, none⟩) xs.length C) rfl (by kernel_rfl) (by kernel_rfl) (by kernel_rfl) (fun _ _ _ h => h) (Or.inl ⟨by kernel_rfl, ?_⟩) HL_ ?_
      · rintro Wl ⟨s0, s1, s2, s3, s4⟩
        go_simp
      simp only [Act.put, List.getElem_toArray, List.getElem_cons_succ, List.getElem_cons_zero, List.setIfInBounds_toArray, List.set_cons_zero, List.set_cons_succ]
      refine wpAnyH_take (i := 4) (v := .int .i64 k) rfl (by kernel_rfl) (by kernel_rfl) (by kernel_rfl) (fun _ _ _ h => h) (Or.inl ⟨by kernel_rfl, ?_⟩) HL_ ?_
      · rintro Wl ⟨s0, s1, s2, s3, s4⟩
        go_simp
      simp only [Act.put, List.getElem_toArray, List.getElem_cons_succ, List.getElem_cons_zero, List.setIfInBounds_toArray, List.set_cons_zero, List.set_cons_succ]
      refine wpAnyH_take (i := 5) (v := .pointer (some ⟨b0, o0 + k * 2, none⟩)) rfl (by kernel_rfl) (by kernel_rfl) (by kernel_rfl) (fun _ _ _ h => h) (Or.inl ⟨by kernel_rfl, ?_⟩) HL_ ?_
      · rintro Wl ⟨s0, s1, s2, s3, s4⟩
        go_simp
      simp only [Act.put, List.getElem_toArray, List.getElem_cons_succ, List.getElem_cons_zero, List.setIfInBounds_toArray, List.set_cons_zero, List.set_cons_succ]
      refine wpAnyH_take (i := 6) (v := .pointer (some ⟨b0, o0 + k * 2, none⟩)) rfl (by kernel_rfl) (by kernel_rfl) (by kernel_rfl) (fun _ _ _ h => h) (Or.inl ⟨by kernel_rfl, ?_⟩) HL_ ?_
      · rintro Wl ⟨s0, s1, s2, s3, s4⟩
        go_simp
      simp only [Act.put, List.getElem_toArray, List.getElem_cons_succ, List.getElem_cons_zero, List.setIfInBounds_toArray, List.set_cons_zero, List.set_cons_succ]
      refine wpAnyH_take (i := 7) (v := .int .i64 a) rfl (by kernel_rfl) (by kernel_rfl) (by kernel_rfl) (fun _ _ _ h => h) (Or.inl ⟨by kernel_rfl, ?_⟩) HL_ ?_
      · rintro Wl ⟨s0, s1, s2, s3, s4⟩
        go_simp
      simp only [Act.put, List.getElem_toArray, List.getElem_cons_succ, List.getElem_cons_zero, List.setIfInBounds_toArray, List.set_cons_zero, List.set_cons_succ]
      refine wpAnyH_take (i := 8) (v := .pointer (some ⟨w.heap.size + 1, 0, none⟩)) rfl (by kernel_rfl) (by kernel_rfl) (by kernel_rfl) (fun _ _ _ h => h) (Or.inl ⟨by kernel_rfl, ?_⟩) HL_ ?_
      · rintro Wl ⟨s0, s1, s2, s3, s4⟩
        go_simp
      simp only [Act.put, List.getElem_toArray, List.getElem_cons_succ, List.getElem_cons_zero, List.setIfInBounds_toArray, List.set_cons_zero, List.set_cons_succ]
      refine wpAnyH_take (i := 9) (v := .int .i64 x) rfl (by kernel_rfl) (by kernel_rfl) (by kernel_rfl) (fun _ _ _ h => h) (Or.inl ⟨by kernel_rfl, ?_⟩) HL_ ?_
      · rintro Wl ⟨s0, s1, s2, s3, s4⟩
        go_simp
      simp only [Act.put, List.getElem_toArray, List.getElem_cons_succ, List.getElem_cons_zero, List.setIfInBounds_toArray, List.set_cons_zero, List.set_cons_succ]
      refine wpAnyH_take (i := 10) (v := .int .i64 (a + x)) rfl (by kernel_rfl) (by kernel_rfl) (by kernel_rfl) (fun _ _ _ h => h) (Or.inl ⟨by kernel_rfl, ?_⟩) HL_ ?_
      · rintro Wl ⟨s0, s1, s2, s3, s4⟩
        go_simp
      simp only [Act.put, List.getElem_toArray, List.getElem_cons_succ, List.getElem_cons_zero, List.setIfInBounds_toArray, List.set_cons_zero, List.set_cons_succ]
      refine wpAnyH_take (i := 11) (v := .pointer (some ⟨w.heap.size, 0, none⟩)) rfl (by kernel_rfl) (by kernel_rfl) (by kernel_rfl) (fun _ _ _ h => h) (Or.inl ⟨by kernel_rfl, ?_⟩) HL_ ?_
      · rintro Wl ⟨s0, s1, s2, s3, s4⟩
        go_simp
      simp only [Act.put, List.getElem_toArray, List.getElem_cons_succ, List.getElem_cons_zero, List.setIfInBounds_toArray, List.set_cons_zero, List.set_cons_succ]
      refine wpAnyH_take (i := 12) (v := .slice (some ⟨b0, o0, none⟩) xs.length C) rfl (by kernel_rfl) (by kernel_rfl) (by kernel_rfl) (fun _ _ _ h => h) (Or.inl ⟨by kernel_rfl, ?_⟩) HL_ ?_
      · rintro Wl ⟨s0, s1, s2, s3, s4⟩
        go_simp
      simp only [Act.put, List.getElem_toArray, List.getElem_cons_succ, List.getElem_cons_zero, List.setIfInBounds_toArray, List.set_cons_zero, List.set_cons_succ]
      refine wpAnyH_take (i := 13) (v := .int .i64 k) rfl (by kernel_rfl) (by kernel_rfl) (by kernel_rfl) (fun _ _ _ h => h) (Or.inl ⟨by kernel_rfl, ?_⟩) HL_ ?_
      · rintro Wl ⟨s0, s1, s2, s3, s4⟩
        go_simp
      simp only [Act.put, List.getElem_toArray, List.getElem_cons_succ, List.getElem_cons_zero, List.setIfInBounds_toArray, List.set_cons_zero, List.set_cons_succ]
      refine wpAnyH_take (i := 14) (v := .pointer (some ⟨b0, o0 + k * 2, none⟩)) rfl (by kernel_rfl) (by kernel_rfl) (by kernel_rfl) (fun _ _ _ h => h) (Or.inl ⟨by kernel_rfl, ?_⟩) HL_ ?_
      · rintro Wl ⟨s0, s1, s2, s3, s4⟩
        go_simp
      simp only [Act.put, List.getElem_toArray, List.getElem_cons_succ, List.getElem_cons_zero, List.setIfInBounds_toArray, List.set_cons_zero, List.set_cons_succ]
      refine wpAnyH_take (i := 15) (v := .pointer (some ⟨b0, o0 + k * 2 + 1, none⟩)) rfl (by kernel_rfl) (by kernel_rfl) (by kernel_rfl) (fun _ _ _ h => h) (Or.inl ⟨by kernel_rfl, ?_⟩) HL_ ?_
      · rintro Wl ⟨s0, s1, s2, s3, s4⟩
        go_simp
      simp only [Act.put, List.getElem_toArray, List.getElem_cons_succ, List.getElem_cons_zero, List.setIfInBounds_toArray, List.set_cons_zero, List.set_cons_succ]
      refine wpAnyH_take (i := 16) (v := .int .i64 b) rfl (by kernel_rfl) (by kernel_rfl) (by kernel_rfl) (fun _ _ _ h => h) (Or.inl ⟨by kernel_rfl, ?_⟩) HL_ ?_
      · rintro Wl ⟨s0, s1, s2, s3, s4⟩
        go_simp
      simp only [Act.put, List.getElem_toArray, List.getElem_cons_succ, List.getElem_cons_zero, List.setIfInBounds_toArray, List.set_cons_zero, List.set_cons_succ]
      refine wpAnyH_take (i := 17) (v := .pointer (some ⟨w.heap.size + 1, 1, none⟩)) rfl (by kernel_rfl) (by kernel_rfl) (by kernel_rfl) (fun _ _ _ h => h) (Or.inl ⟨by kernel_rfl, ?_⟩) HL_ ?_
      · rintro Wl ⟨s0, s1, s2, s3, s4⟩
        go_simp
      simp only [Act.put, List.getElem_toArray, List.getElem_cons_succ, List.getElem_cons_zero, List.setIfInBounds_toArray, List.set_cons_zero, List.set_cons_succ]
      refine wpAnyH_take (i := 18) (v := .int .i64 y) rfl (by kernel_rfl) (by kernel_rfl) (by kernel_rfl) (fun _ _ _ h => h) (Or.inl ⟨by kernel_rfl, ?_⟩) HL_ ?_
      · rintro Wl ⟨s0, s1, s2, s3, s4⟩
        go_simp
      simp only [Act.put, List.getElem_toArray, List.getElem_cons_succ, List.getElem_cons_zero, List.setIfInBounds_toArray, List.set_cons_zero, List.set_cons_succ]
      refine wpAnyH_take (i := 19) (v := .int .i64 (b + y)) rfl (by kernel_rfl) (by kernel_rfl) (by kernel_rfl) (fun _ _ _ h => h) (Or.inl ⟨by kernel_rfl, ?_⟩) HL_ ?_
      · rintro Wl ⟨s0, s1, s2, s3, s4⟩
        go_simp
      simp only [Act.put, List.getElem_toArray, List.getElem_cons_succ, List.getElem_cons_zero, List.setIfInBounds_toArray, List.set_cons_zero, List.set_cons_succ]
      refine wpAnyH_take (i := 20) (v := .agg #[.int .i64 (a + x), .int .i64 (b + y)]) rfl (by kernel_rfl) (by kernel_rfl) (by kernel_rfl) (fun _ _ _ h => h) (Or.inl ⟨by kernel_rfl, ?_⟩) HL_ ?_
      · rintro Wl ⟨s0, s1, s2, s3, s4⟩
        go_simp
      simp only [Act.put, List.getElem_toArray, List.getElem_cons_succ, List.getElem_cons_zero, List.setIfInBounds_toArray, List.set_cons_zero, List.set_cons_succ]
      have hr : ∀ j, j < go + 1 → some j ≠ (Value.slice A' k C').ownBlock := fun j hj e => by have := (HK.out.row.lt j e.symm).1; omega
      have fz : wr.frozen? ⟨go, 0, none⟩ = false := by simp [World.frozen?, HK.out.out]
      have ca : (wr.alloc (.cells #[.int .i64 (a + x), .int .i64 (b + y)] 43)).cell? ⟨go, 0, none⟩ = some (.slice A' k C') := keepc ((Below.refl wr.heap.size wr).alloc (Nat.le_refl _) (.cells #[.int .i64 (a + x), .int .i64 (b + y)] 43)) c0
      refine wpAnyH_ready (rs := [1, 21]) (by kernel_rfl) (by simp) ?_
      refine AllReadyH.cons (o := _) rfl (fun K_ hK => ?_) (AllReadyH.cons (o := _) rfl (fun K_ hK => ?_) AllReadyH.nil)
      · go_simp
        refine hK.out _ _ (sc (Below.refl _ _).drew) fun HL_ => ?_
        clear hK K_
        refine wpAnyH_ready (rs := [21]) (by kernel_rfl) (by simp) ?_
        refine AllReadyH.cons (o := _) rfl (fun K_ hK => ?_) AllReadyH.nil
        go_simp
        refine hK.out _ _ (sc ((Below.refl wr.heap.size wr).alloc (Nat.le_refl _) (.cells #[.int .i64 (a + x), .int .i64 (b + y)] 43)).drew) fun HL_ => ?_
        clear hK K_
        refine wpAnyH_ready (rs := [22]) (by kernel_rfl) (by simp) ?_
        refine AllReadyH.cons (o := _) rfl (fun K_ hK => ?_) AllReadyH.nil
        refine step_append_lies _ (by rfl) _ _ _ (by rfl) (go + 1) 43 i0 _ 2 16 Try.underlying22 hi0 hz0 hz1 hz2 rfl (by omega) (.slice A' k C') k (flatV ((mv xs x y).take k)) (by rfl) ((HK.out.row.alloc _).drew) ⟨wr.heap.size, 0, none⟩ 1 1 [.int .i64 (a + x), .int .i64 (b + y)] (by rfl) (by rfl) (World.news_of_block (cs := #[.int .i64 (a + x), .int .i64 (b + y)]) (t := 43) (fr := (0, 0)) (World.alloc_heap_new wr _)) (by simp [Value.oneCell']) Nat.zero_lt_one (capk hk8).1 (capk hk8).2 hbase (wr.heap.size + 1) (by simp) ?_
        intro gg cap w5 hown1 hgrow hat hlt5
        have hg := (World.grownBy_alloc wr (.cells #[.int .i64 (a + x), .int .i64 (b + y)] 43) _).trans (undrew2 hgrow)
        clear hgrow hat hlt5
        have c5 := hg.cell c0 (hr go (Nat.lt_succ_self _))
        have f5 := (hg.frozen_far ⟨go, 0, none⟩ lgo (hr _ (Nat.lt_succ_self _))).trans fz
        have p05 := hg.cell p0 (hr w.heap.size n1)
        have q05 := hg.cell q0 (hr (w.heap.size + 1) n2)
        have q15 := hg.cell q1 (hr (w.heap.size + 1) n2)
        have e05 := hg.cell e0 (hr b0 n3)
        have e15 := hg.cell e1 (hr b0 n3)
        rw [flat_snoc2, ← HT.out] at hown1
        have HZ := Lib.hid (HK.out.step n4 (Nat.lt_succ_self _) lu n5 lgo hg hown1)
        clear hown1
        refine hK.out _ _ ⟨p05, q05, q15, e05, e15⟩ fun HL_ => ?_
        clear hK K_
        refine wpAnyH_take (i := 23) (v := .pointer (some ⟨go, 0, none⟩)) rfl (by kernel_rfl) (by kernel_rfl) (by kernel_rfl) (fun _ _ _ h => h) (Or.inl ⟨by kernel_rfl, ?_⟩) HL_ ?_
        · rintro Wl ⟨s0, s1, s2, s3, s4⟩
          go_simp
        simp only [Act.put, List.getElem_toArray, List.getElem_cons_succ, List.getElem_cons_zero, List.setIfInBounds_toArray, List.set_cons_zero, List.set_cons_succ]
        refine wpAnyH_ready (rs := [24]) (by kernel_rfl) (by simp) ?_
        refine AllReadyH.cons (o := _) rfl (fun K_ hK => ?_) AllReadyH.nil
        go_simp
        refine hK.out _ _ ⟨cell_far_set m1 p05, cell_far_set m2 q05, cell_far_set m2 q15, cell_far_set m3 e05, cell_far_set m3 e15⟩ fun HL_ => ?_
        clear hK K_ HL_
        refine wpAnyH_done (by kernel_rfl) ?_ _
        clear p05 q05 q15 e05 e15 c5 f5 hg HK ca fz hr sc p0 q0 q1 c0 e0 e1
        go_wp2_with fail
        go_roundw
        case rel => exact ⟨k + 1, some ⟨gg, 0, none⟩, cap, hlt, int_of (by first | exact vk0 | exact vk1 | simp [vk0, vk1]), HZ⟩
        case measure => simp [intOf, vk0, vk1]; clear vf0 vf1 vg0 vg1 vk0 vk1; omega
      · go_simp
        refine hK.out _ _ (sc ((Below.refl wr.heap.size wr).alloc (Nat.le_refl _) (.cells #[.int .i64 (a + x), .int .i64 (b + y)] 43)).drew) fun HL_ => ?_
        clear hK K_
        refine wpAnyH_ready (rs := [1]) (by kernel_rfl) (by simp) ?_
        refine AllReadyH.cons (o := _) rfl (fun K_ hK => ?_) AllReadyH.nil
        go_simp
        refine hK.out _ _ (sc ((Below.refl wr.heap.size wr).alloc (Nat.le_refl _) (.cells #[.int .i64 (a + x), .int .i64 (b + y)] 43)).drew) fun HL_ => ?_
        clear hK K_
        refine wpAnyH_ready (rs := [22]) (by kernel_rfl) (by simp) ?_
        refine AllReadyH.cons (o := _) rfl (fun K_ hK => ?_) AllReadyH.nil
        refine step_append_lies _ (by rfl) _ _ _ (by rfl) (go + 1) 43 i0 _ 2 16 Try.underlying22 hi0 hz0 hz1 hz2 rfl (by omega) (.slice A' k C') k (flatV ((mv xs x y).take k)) (by rfl) ((HK.out.row.alloc _).drew) ⟨wr.heap.size, 0, none⟩ 1 1 [.int .i64 (a + x), .int .i64 (b + y)] (by rfl) (by rfl) (World.news_of_block (cs := #[.int .i64 (a + x), .int .i64 (b + y)]) (t := 43) (fr := (0, 0)) (World.alloc_heap_new wr _)) (by simp [Value.oneCell']) Nat.zero_lt_one (capk hk8).1 (capk hk8).2 hbase (wr.heap.size + 1) (by simp) ?_
        intro gg cap w5 hown1 hgrow hat hlt5
        have hg := (World.grownBy_alloc wr (.cells #[.int .i64 (a + x), .int .i64 (b + y)] 43) _).trans (undrew2 hgrow)
        clear hgrow hat hlt5
        have c5 := hg.cell c0 (hr go (Nat.lt_succ_self _))
        have f5 := (hg.frozen_far ⟨go, 0, none⟩ lgo (hr _ (Nat.lt_succ_self _))).trans fz
        have p05 := hg.cell p0 (hr w.heap.size n1)
        have q05 := hg.cell q0 (hr (w.heap.size + 1) n2)
        have q15 := hg.cell q1 (hr (w.heap.size + 1) n2)
        have e05 := hg.cell e0 (hr b0 n3)
        have e15 := hg.cell e1 (hr b0 n3)
        rw [flat_snoc2, ← HT.out] at hown1
        have HZ := Lib.hid (HK.out.step n4 (Nat.lt_succ_self _) lu n5 lgo hg hown1)
        clear hown1
        refine hK.out _ _ ⟨p05, q05, q15, e05, e15⟩ fun HL_ => ?_
        clear hK K_
        refine wpAnyH_take (i := 23) (v := .pointer (some ⟨go, 0, none⟩)) rfl (by kernel_rfl) (by kernel_rfl) (by kernel_rfl) (fun _ _ _ h => h) (Or.inl ⟨by kernel_rfl, ?_⟩) HL_ ?_
        · rintro Wl ⟨s0, s1, s2, s3, s4⟩
          go_simp
        simp only [Act.put, List.getElem_toArray, List.getElem_cons_succ, List.getElem_cons_zero, List.setIfInBounds_toArray, List.set_cons_zero, List.set_cons_succ]
        refine wpAnyH_ready (rs := [24]) (by kernel_rfl) (by simp) ?_
        refine AllReadyH.cons (o := _) rfl (fun K_ hK => ?_) AllReadyH.nil
        go_simp
        refine hK.out _ _ ⟨cell_far_set m1 p05, cell_far_set m2 q05, cell_far_set m2 q15, cell_far_set m3 e05, cell_far_set m3 e15⟩ fun HL_ => ?_
        clear hK K_ HL_
        refine wpAnyH_done (by kernel_rfl) ?_ _
        clear p05 q05 q15 e05 e15 c5 f5 hg HK ca fz hr sc p0 q0 q1 c0 e0 e1
        go_wp2_with fail
        go_roundw
        case rel => exact ⟨k + 1, some ⟨gg, 0, none⟩, cap, hlt, int_of (by first | exact vk0 | exact vk1 | simp [vk0, vk1]), HZ⟩
        case measure => simp [intOf, vk0, vk1]; clear vf0 vf1 vg0 vg1 vk0 vk1; omega
    · have hke : k = xs.length := Nat.le_antisymm hk (Nat.le_of_not_lt hlt)
      subst hke
      have hrow := HK.out.row
      rw [show (mv xs x y).take xs.length = mv xs x y from by rw [← mv_len xs x y]; exact List.take_length] at hrow
      obtain ⟨A2, C2, hv2, hc1, hc2, hcell⟩ := own_form hrow
      obtain ⟨rfl, rfl⟩ : A' = A2 ∧ C' = C2 := by simpa using hv2
      have hmp : 0 < (mv xs x y).length := by rw [mv_len]; omega
      obtain ⟨gg, rfl, hgg, _⟩ := hcell 0 _ ((flatV_at hmp).1)
      have hs : SlS wr (some ⟨gg, 0, none⟩) (mv xs x y) := sls_of_own hrow
      have HS := Lib.hid hs
      clear hs hcell hrow hv2
      have CB := fun W (h : SlS W (some ⟨gg, 0, none⟩) (mv xs x y)) => qvalid_is (some ⟨gg, 0, none⟩) C' (mv xs x y) (lo + z) (hi + z) (by rw [mv_len]; omega) r HR.out W h
      simp only [mv_len] at CB
      replace CB := Lib.hid CB
      have p0 := (cells3 HK.out.p).1
      have t0 := (cells3 HK.out.out).1
      have t1 := (cells3 HK.out.out).2.1
      have t2 := (cells3 HK.out.out).2.2
      have lt0 := block_lt t0
      have u0 := (cells3 HK.out.u).1
      have u1 := (cells3 HK.out.u).2.1
      have u2 := (cells3 HK.out.u).2.2
      have fu0 : wr.frozen? ⟨w.heap.size + 1 + 1, 0, none⟩ = false := by simp [World.frozen?, HK.out.u]
      have fu1 : wr.frozen? ⟨w.heap.size + 1 + 1, 1, none⟩ = false := by simp [World.frozen?, HK.out.u]
      have fu2 : wr.frozen? ⟨w.heap.size + 1 + 1, 2, none⟩ = false := by simp [World.frozen?, HK.out.u]
      have HB2 := Lib.hid HK.out.bel
      clear HK
      go_wp2_with fail
      with_reducible refine (CB.out _ HS.out).mono ?_
      rintro e_ wz ⟨rfl, hb⟩
      replace t0 := keepc hb t0
      replace t1 := keepc hb t1
      replace t2 := keepc hb t2
      replace fu0 := keepf hb (block_lt u0) fu0
      replace fu1 := keepf hb (block_lt u1) fu1
      replace fu2 := keepf hb (block_lt u2) fu2
      replace u0 := keepc hb u0
      replace u1 := keepc hb u1
      replace u2 := keepc hb u2
      replace HS := Lib.hid (HS.out.below hb)
      replace HB2 := Lib.hid (on_below HB2.out hb)
      clear hb CB
      cases r
      · go_wp2_with fail
        refine bodyPost_ret (v := .tuple #[.agg #[.slice none 0 0, .int .i64 0, .int .i64 0], .int .i64 3]) (by simp [results, Try.results21, go_sem, u0, u1, u2]) rfl ⟨fun h => (Bool.noConfusion h), fun _ => rfl, ?_⟩
        (repeat (refine Below.setCell ?_ (by simp <;> omega) _))
        exact HB2.out
      · go_wp2_with fail
        refine bodyPost_ret (v := .tuple #[.agg #[.slice (some ⟨gg, 0, none⟩) xs.length C', .int .i64 (lo + z), .int .i64 (hi + z)], .int .i64 0]) (by simp [results, Try.results21, go_sem, u0, u1, u2]) rfl ⟨fun _ => ⟨gg, C', rfl, hc1, hc2, ?_⟩, fun h => (Bool.noConfusion h), ?_⟩
        · refine HS.out.same fun b o e hlt => ?_
          obtain ⟨rfl, rfl⟩ : gg = b ∧ 0 = o := by simpa using e
          have hne : gg ≠ w.heap.size + 1 + 1 := by omega
          rw [Below.heap_setCell _ ⟨w.heap.size + 1 + 1, 2, none⟩ _ _ hne, Below.heap_setCell _ ⟨w.heap.size + 1 + 1, 1, none⟩ _ _ hne, Below.heap_setCell _ ⟨w.heap.size + 1 + 1, 0, none⟩ _ _ hne]
        · (repeat (refine Below.setCell ?_ (by simp <;> omega) _))
          exact HB2.out
end Go.Proofs.Ytehlplejcaofoaa
