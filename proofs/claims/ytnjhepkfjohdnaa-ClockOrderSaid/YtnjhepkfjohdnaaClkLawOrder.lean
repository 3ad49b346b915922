/-
  ClockOrder: Order changes its sign with its readings, surely earlier is transitive, and a time lies between.
  Conditions: none besides the row's.
-/
import Derived.Test.YtnjhepkfjohdnaaClkM
import Derived.Test.YtnjhepkfjohdnaaRows
import Derived.ProofKit
import Derived.OpenShut
import Derived.Deep.DeepHandedRow
import Derived.Deep.DeepWitnessRowRef
import Derived.MakeChecks
namespace Go.Proofs.Ytnjhepkfjohdnaa.clockOrder
open Go.RowKit Go.Sort
open Go.RowKit (Below)
set_option linter.unusedVariables false
set_option linter.unusedSimpArgs false
theorem clk_yes {a b c a' b' c' : Int} (h : a = a' ∧ b = b' ∧ c = c') (w : World) : (binOp .eql 23 (.agg #[.int .i64 a, .int .i64 b, .int .i64 c]) (.agg #[.int .i64 a', .int .i64 b', .int .i64 c'])).run Try.prog w = .ok (.bool true) w := by
  obtain ⟨rfl, rfl, rfl⟩ := h
  simp [go_sem]
theorem clk_no {a b c a' b' c' : Int} (h : ¬ (a = a' ∧ b = b' ∧ c = c')) (w : World) : (binOp .eql 23 (.agg #[.int .i64 a, .int .i64 b, .int .i64 c]) (.agg #[.int .i64 a', .int .i64 b', .int .i64 c'])).run Try.prog w = .ok (.bool false) w := by
  by_cases h1 : a = a'
  · by_cases h2 : b = b'
    · have h3 : ¬ c = c' := fun e => h ⟨h1, h2, e⟩
      simp [go_sem, h1, h2, h3]
    · simp [go_sem, h1, h2]
  · simp [go_sem, h1]
set_option maxRecDepth 100000 in
set_option maxHeartbeats 1000000 in
theorem no1 (ks : Int) (iks : I64 ks) (ke : Int) (ike : I64 ke) (kd : Int) (ikd : I64 kd) (x : Int) (ix : I64 x) (bs : Int) (ibs : I64 bs) (be : Int) (ibe : I64 be) (bd : Int) (ibd : I64 bd) (y : Int) (iy : I64 y) (cs : Int) (ics : I64 cs) (ce : Int) (ice : I64 ce) (cd : Int) (icd : I64 cd) (z : Int) (iz : I64 z) (w : World) (h1 : rds ks ke kd x = false) :
    Calls Try.prog 7 #[.agg #[.int .i64 ks, .int .i64 ke, .int .i64 kd], .int .i64 x, .agg #[.int .i64 bs, .int .i64 be, .int .i64 bd], .int .i64 y, .agg #[.int .i64 cs, .int .i64 ce, .int .i64 cd], .int .i64 z] w fun e w' => e = .returned (.bool true) ∧ Below w.heap.size w w' := by
  have H1 := Lib.hid h1
  clear h1
  go_enter Try.func7, Try.ntmps7
  go_wp2_with fail
  have k0 : World.cell? (((w.alloc (.cells #[.int .i64 ks, .int .i64 ke, .int .i64 kd] 23)).alloc (.cells #[.int .i64 bs, .int .i64 be, .int .i64 bd] 23)).alloc (.cells #[.int .i64 cs, .int .i64 ce, .int .i64 cd] 23)) ⟨w.heap.size, 0, none⟩ = some (.int .i64 ks) := by simp [go_sem]
  have k1 : World.cell? (((w.alloc (.cells #[.int .i64 ks, .int .i64 ke, .int .i64 kd] 23)).alloc (.cells #[.int .i64 bs, .int .i64 be, .int .i64 bd] 23)).alloc (.cells #[.int .i64 cs, .int .i64 ce, .int .i64 cd] 23)) ⟨w.heap.size, 1, none⟩ = some (.int .i64 ke) := by simp [go_sem]
  have k2 : World.cell? (((w.alloc (.cells #[.int .i64 ks, .int .i64 ke, .int .i64 kd] 23)).alloc (.cells #[.int .i64 bs, .int .i64 be, .int .i64 bd] 23)).alloc (.cells #[.int .i64 cs, .int .i64 ce, .int .i64 cd] 23)) ⟨w.heap.size, 2, none⟩ = some (.int .i64 kd) := by simp [go_sem]
  have b0 : World.cell? (((w.alloc (.cells #[.int .i64 ks, .int .i64 ke, .int .i64 kd] 23)).alloc (.cells #[.int .i64 bs, .int .i64 be, .int .i64 bd] 23)).alloc (.cells #[.int .i64 cs, .int .i64 ce, .int .i64 cd] 23)) ⟨w.heap.size + 1, 0, none⟩ = some (.int .i64 bs) := by simp [go_sem]
  have b1 : World.cell? (((w.alloc (.cells #[.int .i64 ks, .int .i64 ke, .int .i64 kd] 23)).alloc (.cells #[.int .i64 bs, .int .i64 be, .int .i64 bd] 23)).alloc (.cells #[.int .i64 cs, .int .i64 ce, .int .i64 cd] 23)) ⟨w.heap.size + 1, 1, none⟩ = some (.int .i64 be) := by simp [go_sem]
  have b2 : World.cell? (((w.alloc (.cells #[.int .i64 ks, .int .i64 ke, .int .i64 kd] 23)).alloc (.cells #[.int .i64 bs, .int .i64 be, .int .i64 bd] 23)).alloc (.cells #[.int .i64 cs, .int .i64 ce, .int .i64 cd] 23)) ⟨w.heap.size + 1, 2, none⟩ = some (.int .i64 bd) := by simp [go_sem]
  have c0 : World.cell? (((w.alloc (.cells #[.int .i64 ks, .int .i64 ke, .int .i64 kd] 23)).alloc (.cells #[.int .i64 bs, .int .i64 be, .int .i64 bd] 23)).alloc (.cells #[.int .i64 cs, .int .i64 ce, .int .i64 cd] 23)) ⟨w.heap.size + 1 + 1, 0, none⟩ = some (.int .i64 cs) := by simp [go_sem]
  have c1 : World.cell? (((w.alloc (.cells #[.int .i64 ks, .int .i64 ke, .int .i64 kd] 23)).alloc (.cells #[.int .i64 bs, .int .i64 be, .int .i64 bd] 23)).alloc (.cells #[.int .i64 cs, .int .i64 ce, .int .i64 cd] 23)) ⟨w.heap.size + 1 + 1, 1, none⟩ = some (.int .i64 ce) := by simp [go_sem]
  have c2 : World.cell? (((w.alloc (.cells #[.int .i64 ks, .int .i64 ke, .int .i64 kd] 23)).alloc (.cells #[.int .i64 bs, .int .i64 be, .int .i64 bd] 23)).alloc (.cells #[.int .i64 cs, .int .i64 ce, .int .i64 cd] 23)) ⟨w.heap.size + 1 + 1, 2, none⟩ = some (.int .i64 cd) := by simp [go_sem]
  have gk : w.heap.size < (((w.alloc (.cells #[.int .i64 ks, .int .i64 ke, .int .i64 kd] 23)).alloc (.cells #[.int .i64 bs, .int .i64 be, .int .i64 bd] 23)).alloc (.cells #[.int .i64 cs, .int .i64 ce, .int .i64 cd] 23)).heap.size := by simp <;> omega
  have gb : w.heap.size + 1 < (((w.alloc (.cells #[.int .i64 ks, .int .i64 ke, .int .i64 kd] 23)).alloc (.cells #[.int .i64 bs, .int .i64 be, .int .i64 bd] 23)).alloc (.cells #[.int .i64 cs, .int .i64 ce, .int .i64 cd] 23)).heap.size := by simp <;> omega
  have gc : w.heap.size + 1 + 1 < (((w.alloc (.cells #[.int .i64 ks, .int .i64 ke, .int .i64 kd] 23)).alloc (.cells #[.int .i64 bs, .int .i64 be, .int .i64 bd] 23)).alloc (.cells #[.int .i64 cs, .int .i64 ce, .int .i64 cd] 23)).heap.size := by simp <;> omega
  have B := Lib.hid (show Below w.heap.size w (((w.alloc (.cells #[.int .i64 ks, .int .i64 ke, .int .i64 kd] 23)).alloc (.cells #[.int .i64 bs, .int .i64 be, .int .i64 bd] 23)).alloc (.cells #[.int .i64 cs, .int .i64 ce, .int .i64 cd] 23)) from ((((Below.refl _ _).alloc (by simp; try omega) _).alloc (by simp; try omega) _).alloc (by simp; try omega) _))
  generalize ((w.alloc (.cells #[.int .i64 ks, .int .i64 ke, .int .i64 kd] 23)).alloc (.cells #[.int .i64 bs, .int .i64 be, .int .i64 bd] 23)).alloc (.cells #[.int .i64 cs, .int .i64 ce, .int .i64 cd] 23) = V1 at *
  refine (head_any _).mono ?_
  rintro e' w2 ⟨rfl, hb⟩
  replace B := Lib.hid (on_below B.out hb)
  replace k0 := keepc hb k0
  replace k1 := keepc hb k1
  replace k2 := keepc hb k2
  replace b0 := keepc hb b0
  replace b1 := keepc hb b1
  replace b2 := keepc hb b2
  replace c0 := keepc hb c0
  replace c1 := keepc hb c1
  replace c2 := keepc hb c2
  replace gk := Nat.lt_of_lt_of_le gk hb.size
  replace gb := Nat.lt_of_lt_of_le gb hb.size
  replace gc := Nat.lt_of_lt_of_le gc hb.size
  clear hb
  go_wp2_with fail
  refine (reads_b ks ke kd x _ H1.out _).mono ?_
  rintro e' w3 ⟨rfl, hb⟩
  replace B := Lib.hid (on_below B.out hb)
  replace k0 := keepc hb k0
  replace k1 := keepc hb k1
  replace k2 := keepc hb k2
  replace b0 := keepc hb b0
  replace b1 := keepc hb b1
  replace b2 := keepc hb b2
  replace c0 := keepc hb c0
  replace c1 := keepc hb c1
  replace c2 := keepc hb c2
  replace gk := Nat.lt_of_lt_of_le gk hb.size
  replace gb := Nat.lt_of_lt_of_le gb hb.size
  replace gc := Nat.lt_of_lt_of_le gc hb.size
  clear hb
  go_wp2_with fail
  all_goals go_ret
  all_goals exact ⟨rfl, B.out⟩
set_option maxRecDepth 100000 in
set_option maxHeartbeats 1000000 in
theorem no2 (ks : Int) (iks : I64 ks) (ke : Int) (ike : I64 ke) (kd : Int) (ikd : I64 kd) (x : Int) (ix : I64 x) (bs : Int) (ibs : I64 bs) (be : Int) (ibe : I64 be) (bd : Int) (ibd : I64 bd) (y : Int) (iy : I64 y) (cs : Int) (ics : I64 cs) (ce : Int) (ice : I64 ce) (cd : Int) (icd : I64 cd) (z : Int) (iz : I64 z) (w : World) (h1 : rds ks ke kd x = true) (h2 : rds bs be bd y = false) :
    Calls Try.prog 7 #[.agg #[.int .i64 ks, .int .i64 ke, .int .i64 kd], .int .i64 x, .agg #[.int .i64 bs, .int .i64 be, .int .i64 bd], .int .i64 y, .agg #[.int .i64 cs, .int .i64 ce, .int .i64 cd], .int .i64 z] w fun e w' => e = .returned (.bool true) ∧ Below w.heap.size w w' := by
  have H1 := Lib.hid h1
  clear h1
  have H2 := Lib.hid h2
  clear h2
  go_enter Try.func7, Try.ntmps7
  go_wp2_with fail
  have k0 : World.cell? (((w.alloc (.cells #[.int .i64 ks, .int .i64 ke, .int .i64 kd] 23)).alloc (.cells #[.int .i64 bs, .int .i64 be, .int .i64 bd] 23)).alloc (.cells #[.int .i64 cs, .int .i64 ce, .int .i64 cd] 23)) ⟨w.heap.size, 0, none⟩ = some (.int .i64 ks) := by simp [go_sem]
  have k1 : World.cell? (((w.alloc (.cells #[.int .i64 ks, .int .i64 ke, .int .i64 kd] 23)).alloc (.cells #[.int .i64 bs, .int .i64 be, .int .i64 bd] 23)).alloc (.cells #[.int .i64 cs, .int .i64 ce, .int .i64 cd] 23)) ⟨w.heap.size, 1, none⟩ = some (.int .i64 ke) := by simp [go_sem]
  have k2 : World.cell? (((w.alloc (.cells #[.int .i64 ks, .int .i64 ke, .int .i64 kd] 23)).alloc (.cells #[.int .i64 bs, .int .i64 be, .int .i64 bd] 23)).alloc (.cells #[.int .i64 cs, .int .i64 ce, .int .i64 cd] 23)) ⟨w.heap.size, 2, none⟩ = some (.int .i64 kd) := by simp [go_sem]
  have b0 : World.cell? (((w.alloc (.cells #[.int .i64 ks, .int .i64 ke, .int .i64 kd] 23)).alloc (.cells #[.int .i64 bs, .int .i64 be, .int .i64 bd] 23)).alloc (.cells #[.int .i64 cs, .int .i64 ce, .int .i64 cd] 23)) ⟨w.heap.size + 1, 0, none⟩ = some (.int .i64 bs) := by simp [go_sem]
  have b1 : World.cell? (((w.alloc (.cells #[.int .i64 ks, .int .i64 ke, .int .i64 kd] 23)).alloc (.cells #[.int .i64 bs, .int .i64 be, .int .i64 bd] 23)).alloc (.cells #[.int .i64 cs, .int .i64 ce, .int .i64 cd] 23)) ⟨w.heap.size + 1, 1, none⟩ = some (.int .i64 be) := by simp [go_sem]
  have b2 : World.cell? (((w.alloc (.cells #[.int .i64 ks, .int .i64 ke, .int .i64 kd] 23)).alloc (.cells #[.int .i64 bs, .int .i64 be, .int .i64 bd] 23)).alloc (.cells #[.int .i64 cs, .int .i64 ce, .int .i64 cd] 23)) ⟨w.heap.size + 1, 2, none⟩ = some (.int .i64 bd) := by simp [go_sem]
  have c0 : World.cell? (((w.alloc (.cells #[.int .i64 ks, .int .i64 ke, .int .i64 kd] 23)).alloc (.cells #[.int .i64 bs, .int .i64 be, .int .i64 bd] 23)).alloc (.cells #[.int .i64 cs, .int .i64 ce, .int .i64 cd] 23)) ⟨w.heap.size + 1 + 1, 0, none⟩ = some (.int .i64 cs) := by simp [go_sem]
  have c1 : World.cell? (((w.alloc (.cells #[.int .i64 ks, .int .i64 ke, .int .i64 kd] 23)).alloc (.cells #[.int .i64 bs, .int .i64 be, .int .i64 bd] 23)).alloc (.cells #[.int .i64 cs, .int .i64 ce, .int .i64 cd] 23)) ⟨w.heap.size + 1 + 1, 1, none⟩ = some (.int .i64 ce) := by simp [go_sem]
  have c2 : World.cell? (((w.alloc (.cells #[.int .i64 ks, .int .i64 ke, .int .i64 kd] 23)).alloc (.cells #[.int .i64 bs, .int .i64 be, .int .i64 bd] 23)).alloc (.cells #[.int .i64 cs, .int .i64 ce, .int .i64 cd] 23)) ⟨w.heap.size + 1 + 1, 2, none⟩ = some (.int .i64 cd) := by simp [go_sem]
  have gk : w.heap.size < (((w.alloc (.cells #[.int .i64 ks, .int .i64 ke, .int .i64 kd] 23)).alloc (.cells #[.int .i64 bs, .int .i64 be, .int .i64 bd] 23)).alloc (.cells #[.int .i64 cs, .int .i64 ce, .int .i64 cd] 23)).heap.size := by simp <;> omega
  have gb : w.heap.size + 1 < (((w.alloc (.cells #[.int .i64 ks, .int .i64 ke, .int .i64 kd] 23)).alloc (.cells #[.int .i64 bs, .int .i64 be, .int .i64 bd] 23)).alloc (.cells #[.int .i64 cs, .int .i64 ce, .int .i64 cd] 23)).heap.size := by simp <;> omega
  have gc : w.heap.size + 1 + 1 < (((w.alloc (.cells #[.int .i64 ks, .int .i64 ke, .int .i64 kd] 23)).alloc (.cells #[.int .i64 bs, .int .i64 be, .int .i64 bd] 23)).alloc (.cells #[.int .i64 cs, .int .i64 ce, .int .i64 cd] 23)).heap.size := by simp <;> omega
  have B := Lib.hid (show Below w.heap.size w (((w.alloc (.cells #[.int .i64 ks, .int .i64 ke, .int .i64 kd] 23)).alloc (.cells #[.int .i64 bs, .int .i64 be, .int .i64 bd] 23)).alloc (.cells #[.int .i64 cs, .int .i64 ce, .int .i64 cd] 23)) from ((((Below.refl _ _).alloc (by simp; try omega) _).alloc (by simp; try omega) _).alloc (by simp; try omega) _))
  generalize ((w.alloc (.cells #[.int .i64 ks, .int .i64 ke, .int .i64 kd] 23)).alloc (.cells #[.int .i64 bs, .int .i64 be, .int .i64 bd] 23)).alloc (.cells #[.int .i64 cs, .int .i64 ce, .int .i64 cd] 23) = V1 at *
  refine (head_any _).mono ?_
  rintro e' w2 ⟨rfl, hb⟩
  replace B := Lib.hid (on_below B.out hb)
  replace k0 := keepc hb k0
  replace k1 := keepc hb k1
  replace k2 := keepc hb k2
  replace b0 := keepc hb b0
  replace b1 := keepc hb b1
  replace b2 := keepc hb b2
  replace c0 := keepc hb c0
  replace c1 := keepc hb c1
  replace c2 := keepc hb c2
  replace gk := Nat.lt_of_lt_of_le gk hb.size
  replace gb := Nat.lt_of_lt_of_le gb hb.size
  replace gc := Nat.lt_of_lt_of_le gc hb.size
  clear hb
  go_wp2_with fail
  refine (reads_b ks ke kd x _ H1.out _).mono ?_
  rintro e' w3 ⟨rfl, hb⟩
  replace B := Lib.hid (on_below B.out hb)
  replace k0 := keepc hb k0
  replace k1 := keepc hb k1
  replace k2 := keepc hb k2
  replace b0 := keepc hb b0
  replace b1 := keepc hb b1
  replace b2 := keepc hb b2
  replace c0 := keepc hb c0
  replace c1 := keepc hb c1
  replace c2 := keepc hb c2
  replace gk := Nat.lt_of_lt_of_le gk hb.size
  replace gb := Nat.lt_of_lt_of_le gb hb.size
  replace gc := Nat.lt_of_lt_of_le gc hb.size
  clear hb
  go_wp2_with fail
  refine (reads_b bs be bd y _ H2.out _).mono ?_
  rintro e' w4 ⟨rfl, hb⟩
  replace B := Lib.hid (on_below B.out hb)
  replace k0 := keepc hb k0
  replace k1 := keepc hb k1
  replace k2 := keepc hb k2
  replace b0 := keepc hb b0
  replace b1 := keepc hb b1
  replace b2 := keepc hb b2
  replace c0 := keepc hb c0
  replace c1 := keepc hb c1
  replace c2 := keepc hb c2
  replace gk := Nat.lt_of_lt_of_le gk hb.size
  replace gb := Nat.lt_of_lt_of_le gb hb.size
  replace gc := Nat.lt_of_lt_of_le gc hb.size
  clear hb
  go_wp2_with fail
  all_goals go_ret
  all_goals exact ⟨rfl, B.out⟩
set_option maxRecDepth 100000 in
set_option maxHeartbeats 1000000 in
theorem no3 (ks : Int) (iks : I64 ks) (ke : Int) (ike : I64 ke) (kd : Int) (ikd : I64 kd) (x : Int) (ix : I64 x) (bs : Int) (ibs : I64 bs) (be : Int) (ibe : I64 be) (bd : Int) (ibd : I64 bd) (y : Int) (iy : I64 y) (cs : Int) (ics : I64 cs) (ce : Int) (ice : I64 ce) (cd : Int) (icd : I64 cd) (z : Int) (iz : I64 z) (w : World) (h1 : rds ks ke kd x = true) (h2 : rds bs be bd y = true) (h3 : rds cs ce cd z = false) :
    Calls Try.prog 7 #[.agg #[.int .i64 ks, .int .i64 ke, .int .i64 kd], .int .i64 x, .agg #[.int .i64 bs, .int .i64 be, .int .i64 bd], .int .i64 y, .agg #[.int .i64 cs, .int .i64 ce, .int .i64 cd], .int .i64 z] w fun e w' => e = .returned (.bool true) ∧ Below w.heap.size w w' := by
  have H1 := Lib.hid h1
  clear h1
  have H2 := Lib.hid h2
  clear h2
  have H3 := Lib.hid h3
  clear h3
  go_enter Try.func7, Try.ntmps7
  go_wp2_with fail
  have k0 : World.cell? (((w.alloc (.cells #[.int .i64 ks, .int .i64 ke, .int .i64 kd] 23)).alloc (.cells #[.int .i64 bs, .int .i64 be, .int .i64 bd] 23)).alloc (.cells #[.int .i64 cs, .int .i64 ce, .int .i64 cd] 23)) ⟨w.heap.size, 0, none⟩ = some (.int .i64 ks) := by simp [go_sem]
  have k1 : World.cell? (((w.alloc (.cells #[.int .i64 ks, .int .i64 ke, .int .i64 kd] 23)).alloc (.cells #[.int .i64 bs, .int .i64 be, .int .i64 bd] 23)).alloc (.cells #[.int .i64 cs, .int .i64 ce, .int .i64 cd] 23)) ⟨w.heap.size, 1, none⟩ = some (.int .i64 ke) := by simp [go_sem]
  have k2 : World.cell? (((w.alloc (.cells #[.int .i64 ks, .int .i64 ke, .int .i64 kd] 23)).alloc (.cells #[.int .i64 bs, .int .i64 be, .int .i64 bd] 23)).alloc (.cells #[.int .i64 cs, .int .i64 ce, .int .i64 cd] 23)) ⟨w.heap.size, 2, none⟩ = some (.int .i64 kd) := by simp [go_sem]
  have b0 : World.cell? (((w.alloc (.cells #[.int .i64 ks, .int .i64 ke, .int .i64 kd] 23)).alloc (.cells #[.int .i64 bs, .int .i64 be, .int .i64 bd] 23)).alloc (.cells #[.int .i64 cs, .int .i64 ce, .int .i64 cd] 23)) ⟨w.heap.size + 1, 0, none⟩ = some (.int .i64 bs) := by simp [go_sem]
  have b1 : World.cell? (((w.alloc (.cells #[.int .i64 ks, .int .i64 ke, .int .i64 kd] 23)).alloc (.cells #[.int .i64 bs, .int .i64 be, .int .i64 bd] 23)).alloc (.cells #[.int .i64 cs, .int .i64 ce, .int .i64 cd] 23)) ⟨w.heap.size + 1, 1, none⟩ = some (.int .i64 be) := by simp [go_sem]
  have b2 : World.cell? (((w.alloc (.cells #[.int .i64 ks, .int .i64 ke, .int .i64 kd] 23)).alloc (.cells #[.int .i64 bs, .int .i64 be, .int .i64 bd] 23)).alloc (.cells #[.int .i64 cs, .int .i64 ce, .int .i64 cd] 23)) ⟨w.heap.size + 1, 2, none⟩ = some (.int .i64 bd) := by simp [go_sem]
  have c0 : World.cell? (((w.alloc (.cells #[.int .i64 ks, .int .i64 ke, .int .i64 kd] 23)).alloc (.cells #[.int .i64 bs, .int .i64 be, .int .i64 bd] 23)).alloc (.cells #[.int .i64 cs, .int .i64 ce, .int .i64 cd] 23)) ⟨w.heap.size + 1 + 1, 0, none⟩ = some (.int .i64 cs) := by simp [go_sem]
  have c1 : World.cell? (((w.alloc (.cells #[.int .i64 ks, .int .i64 ke, .int .i64 kd] 23)).alloc (.cells #[.int .i64 bs, .int .i64 be, .int .i64 bd] 23)).alloc (.cells #[.int .i64 cs, .int .i64 ce, .int .i64 cd] 23)) ⟨w.heap.size + 1 + 1, 1, none⟩ = some (.int .i64 ce) := by simp [go_sem]
  have c2 : World.cell? (((w.alloc (.cells #[.int .i64 ks, .int .i64 ke, .int .i64 kd] 23)).alloc (.cells #[.int .i64 bs, .int .i64 be, .int .i64 bd] 23)).alloc (.cells #[.int .i64 cs, .int .i64 ce, .int .i64 cd] 23)) ⟨w.heap.size + 1 + 1, 2, none⟩ = some (.int .i64 cd) := by simp [go_sem]
  have gk : w.heap.size < (((w.alloc (.cells #[.int .i64 ks, .int .i64 ke, .int .i64 kd] 23)).alloc (.cells #[.int .i64 bs, .int .i64 be, .int .i64 bd] 23)).alloc (.cells #[.int .i64 cs, .int .i64 ce, .int .i64 cd] 23)).heap.size := by simp <;> omega
  have gb : w.heap.size + 1 < (((w.alloc (.cells #[.int .i64 ks, .int .i64 ke, .int .i64 kd] 23)).alloc (.cells #[.int .i64 bs, .int .i64 be, .int .i64 bd] 23)).alloc (.cells #[.int .i64 cs, .int .i64 ce, .int .i64 cd] 23)).heap.size := by simp <;> omega
  have gc : w.heap.size + 1 + 1 < (((w.alloc (.cells #[.int .i64 ks, .int .i64 ke, .int .i64 kd] 23)).alloc (.cells #[.int .i64 bs, .int .i64 be, .int .i64 bd] 23)).alloc (.cells #[.int .i64 cs, .int .i64 ce, .int .i64 cd] 23)).heap.size := by simp <;> omega
  have B := Lib.hid (show Below w.heap.size w (((w.alloc (.cells #[.int .i64 ks, .int .i64 ke, .int .i64 kd] 23)).alloc (.cells #[.int .i64 bs, .int .i64 be, .int .i64 bd] 23)).alloc (.cells #[.int .i64 cs, .int .i64 ce, .int .i64 cd] 23)) from ((((Below.refl _ _).alloc (by simp; try omega) _).alloc (by simp; try omega) _).alloc (by simp; try omega) _))
  generalize ((w.alloc (.cells #[.int .i64 ks, .int .i64 ke, .int .i64 kd] 23)).alloc (.cells #[.int .i64 bs, .int .i64 be, .int .i64 bd] 23)).alloc (.cells #[.int .i64 cs, .int .i64 ce, .int .i64 cd] 23) = V1 at *
  refine (head_any _).mono ?_
  rintro e' w2 ⟨rfl, hb⟩
  replace B := Lib.hid (on_below B.out hb)
  replace k0 := keepc hb k0
  replace k1 := keepc hb k1
  replace k2 := keepc hb k2
  replace b0 := keepc hb b0
  replace b1 := keepc hb b1
  replace b2 := keepc hb b2
  replace c0 := keepc hb c0
  replace c1 := keepc hb c1
  replace c2 := keepc hb c2
  replace gk := Nat.lt_of_lt_of_le gk hb.size
  replace gb := Nat.lt_of_lt_of_le gb hb.size
  replace gc := Nat.lt_of_lt_of_le gc hb.size
  clear hb
  go_wp2_with fail
  refine (reads_b ks ke kd x _ H1.out _).mono ?_
  rintro e' w3 ⟨rfl, hb⟩
  replace B := Lib.hid (on_below B.out hb)
  replace k0 := keepc hb k0
  replace k1 := keepc hb k1
  replace k2 := keepc hb k2
  replace b0 := keepc hb b0
  replace b1 := keepc hb b1
  replace b2 := keepc hb b2
  replace c0 := keepc hb c0
  replace c1 := keepc hb c1
  replace c2 := keepc hb c2
  replace gk := Nat.lt_of_lt_of_le gk hb.size
  replace gb := Nat.lt_of_lt_of_le gb hb.size
  replace gc := Nat.lt_of_lt_of_le gc hb.size
  clear hb
  go_wp2_with fail
  refine (reads_b bs be bd y _ H2.out _).mono ?_
  rintro e' w4 ⟨rfl, hb⟩
  replace B := Lib.hid (on_below B.out hb)
  replace k0 := keepc hb k0
  replace k1 := keepc hb k1
  replace k2 := keepc hb k2
  replace b0 := keepc hb b0
  replace b1 := keepc hb b1
  replace b2 := keepc hb b2
  replace c0 := keepc hb c0
  replace c1 := keepc hb c1
  replace c2 := keepc hb c2
  replace gk := Nat.lt_of_lt_of_le gk hb.size
  replace gb := Nat.lt_of_lt_of_le gb hb.size
  replace gc := Nat.lt_of_lt_of_le gc hb.size
  clear hb
  go_wp2_with fail
  refine (reads_b cs ce cd z _ H3.out _).mono ?_
  rintro e' w5 ⟨rfl, hb⟩
  replace B := Lib.hid (on_below B.out hb)
  replace k0 := keepc hb k0
  replace k1 := keepc hb k1
  replace k2 := keepc hb k2
  replace b0 := keepc hb b0
  replace b1 := keepc hb b1
  replace b2 := keepc hb b2
  replace c0 := keepc hb c0
  replace c1 := keepc hb c1
  replace c2 := keepc hb c2
  replace gk := Nat.lt_of_lt_of_le gk hb.size
  replace gb := Nat.lt_of_lt_of_le gb hb.size
  replace gc := Nat.lt_of_lt_of_le gc hb.size
  clear hb
  go_wp2_with fail
  all_goals go_ret
  all_goals exact ⟨rfl, B.out⟩
set_option maxRecDepth 100000 in
set_option maxHeartbeats 2000000 in
theorem nil1 (ks : Int) (iks : I64 ks) (ke : Int) (ike : I64 ke) (kd : Int) (ikd : I64 kd) (x : Int) (ix : I64 x) (bs : Int) (ibs : I64 bs) (be : Int) (ibe : I64 be) (bd : Int) (ibd : I64 bd) (y : Int) (iy : I64 y) (cs : Int) (ics : I64 cs) (ce : Int) (ice : I64 ce) (cd : Int) (icd : I64 cd) (z : Int) (iz : I64 z) (w : World) (h1 : rds ks ke kd x = true) (h2 : rds bs be bd y = true) (h3 : rds cs ce cd z = true) (r : Int) (s : Int) (he : (ks = bs ∧ ke = be ∧ kd = bd)) (o1 : oV ks ke kd x bs be bd y = 0) (o2 : oE ks ke kd x bs be bd y = 0) (o3 : oV bs be bd y ks ke kd x = 0) (o4 : oE bs be bd y ks ke kd x = 0) (o5 : oV bs be bd y cs ce cd z = r) (o6 : oE bs be bd y cs ce cd z = 0) (o7 : oV ks ke kd x cs ce cd z = s) (o8 : oE ks ke kd x cs ce cd z = 0) :
    Calls Try.prog 7 #[.agg #[.int .i64 ks, .int .i64 ke, .int .i64 kd], .int .i64 x, .agg #[.int .i64 bs, .int .i64 be, .int .i64 bd], .int .i64 y, .agg #[.int .i64 cs, .int .i64 ce, .int .i64 cd], .int .i64 z] w fun e w' => e = .returned (.bool true) ∧ Below w.heap.size w w' := by
  have H1 := Lib.hid h1
  clear h1
  have H2 := Lib.hid h2
  clear h2
  have H3 := Lib.hid h3
  clear h3
  have XO1 := Lib.hid o1
  clear o1
  have XO2 := Lib.hid o2
  clear o2
  have XO3 := Lib.hid o3
  clear o3
  have XO4 := Lib.hid o4
  clear o4
  have XO5 := Lib.hid o5
  clear o5
  have XO6 := Lib.hid o6
  clear o6
  have XO7 := Lib.hid o7
  clear o7
  have XO8 := Lib.hid o8
  clear o8
  have hq := fun w => clk_yes he w
  have HE := Lib.hid he
  clear he
  go_enter Try.func7, Try.ntmps7
  go_wp2_with fail
  have k0 : World.cell? (((w.alloc (.cells #[.int .i64 ks, .int .i64 ke, .int .i64 kd] 23)).alloc (.cells #[.int .i64 bs, .int .i64 be, .int .i64 bd] 23)).alloc (.cells #[.int .i64 cs, .int .i64 ce, .int .i64 cd] 23)) ⟨w.heap.size, 0, none⟩ = some (.int .i64 ks) := by simp [go_sem]
  have k1 : World.cell? (((w.alloc (.cells #[.int .i64 ks, .int .i64 ke, .int .i64 kd] 23)).alloc (.cells #[.int .i64 bs, .int .i64 be, .int .i64 bd] 23)).alloc (.cells #[.int .i64 cs, .int .i64 ce, .int .i64 cd] 23)) ⟨w.heap.size, 1, none⟩ = some (.int .i64 ke) := by simp [go_sem]
  have k2 : World.cell? (((w.alloc (.cells #[.int .i64 ks, .int .i64 ke, .int .i64 kd] 23)).alloc (.cells #[.int .i64 bs, .int .i64 be, .int .i64 bd] 23)).alloc (.cells #[.int .i64 cs, .int .i64 ce, .int .i64 cd] 23)) ⟨w.heap.size, 2, none⟩ = some (.int .i64 kd) := by simp [go_sem]
  have b0 : World.cell? (((w.alloc (.cells #[.int .i64 ks, .int .i64 ke, .int .i64 kd] 23)).alloc (.cells #[.int .i64 bs, .int .i64 be, .int .i64 bd] 23)).alloc (.cells #[.int .i64 cs, .int .i64 ce, .int .i64 cd] 23)) ⟨w.heap.size + 1, 0, none⟩ = some (.int .i64 bs) := by simp [go_sem]
  have b1 : World.cell? (((w.alloc (.cells #[.int .i64 ks, .int .i64 ke, .int .i64 kd] 23)).alloc (.cells #[.int .i64 bs, .int .i64 be, .int .i64 bd] 23)).alloc (.cells #[.int .i64 cs, .int .i64 ce, .int .i64 cd] 23)) ⟨w.heap.size + 1, 1, none⟩ = some (.int .i64 be) := by simp [go_sem]
  have b2 : World.cell? (((w.alloc (.cells #[.int .i64 ks, .int .i64 ke, .int .i64 kd] 23)).alloc (.cells #[.int .i64 bs, .int .i64 be, .int .i64 bd] 23)).alloc (.cells #[.int .i64 cs, .int .i64 ce, .int .i64 cd] 23)) ⟨w.heap.size + 1, 2, none⟩ = some (.int .i64 bd) := by simp [go_sem]
  have c0 : World.cell? (((w.alloc (.cells #[.int .i64 ks, .int .i64 ke, .int .i64 kd] 23)).alloc (.cells #[.int .i64 bs, .int .i64 be, .int .i64 bd] 23)).alloc (.cells #[.int .i64 cs, .int .i64 ce, .int .i64 cd] 23)) ⟨w.heap.size + 1 + 1, 0, none⟩ = some (.int .i64 cs) := by simp [go_sem]
  have c1 : World.cell? (((w.alloc (.cells #[.int .i64 ks, .int .i64 ke, .int .i64 kd] 23)).alloc (.cells #[.int .i64 bs, .int .i64 be, .int .i64 bd] 23)).alloc (.cells #[.int .i64 cs, .int .i64 ce, .int .i64 cd] 23)) ⟨w.heap.size + 1 + 1, 1, none⟩ = some (.int .i64 ce) := by simp [go_sem]
  have c2 : World.cell? (((w.alloc (.cells #[.int .i64 ks, .int .i64 ke, .int .i64 kd] 23)).alloc (.cells #[.int .i64 bs, .int .i64 be, .int .i64 bd] 23)).alloc (.cells #[.int .i64 cs, .int .i64 ce, .int .i64 cd] 23)) ⟨w.heap.size + 1 + 1, 2, none⟩ = some (.int .i64 cd) := by simp [go_sem]
  have gk : w.heap.size < (((w.alloc (.cells #[.int .i64 ks, .int .i64 ke, .int .i64 kd] 23)).alloc (.cells #[.int .i64 bs, .int .i64 be, .int .i64 bd] 23)).alloc (.cells #[.int .i64 cs, .int .i64 ce, .int .i64 cd] 23)).heap.size := by simp <;> omega
  have gb : w.heap.size + 1 < (((w.alloc (.cells #[.int .i64 ks, .int .i64 ke, .int .i64 kd] 23)).alloc (.cells #[.int .i64 bs, .int .i64 be, .int .i64 bd] 23)).alloc (.cells #[.int .i64 cs, .int .i64 ce, .int .i64 cd] 23)).heap.size := by simp <;> omega
  have gc : w.heap.size + 1 + 1 < (((w.alloc (.cells #[.int .i64 ks, .int .i64 ke, .int .i64 kd] 23)).alloc (.cells #[.int .i64 bs, .int .i64 be, .int .i64 bd] 23)).alloc (.cells #[.int .i64 cs, .int .i64 ce, .int .i64 cd] 23)).heap.size := by simp <;> omega
  have B := Lib.hid (show Below w.heap.size w (((w.alloc (.cells #[.int .i64 ks, .int .i64 ke, .int .i64 kd] 23)).alloc (.cells #[.int .i64 bs, .int .i64 be, .int .i64 bd] 23)).alloc (.cells #[.int .i64 cs, .int .i64 ce, .int .i64 cd] 23)) from ((((Below.refl _ _).alloc (by simp; try omega) _).alloc (by simp; try omega) _).alloc (by simp; try omega) _))
  generalize ((w.alloc (.cells #[.int .i64 ks, .int .i64 ke, .int .i64 kd] 23)).alloc (.cells #[.int .i64 bs, .int .i64 be, .int .i64 bd] 23)).alloc (.cells #[.int .i64 cs, .int .i64 ce, .int .i64 cd] 23) = V1 at *
  refine (head_any _).mono ?_
  rintro e' w2 ⟨rfl, hb⟩
  replace B := Lib.hid (on_below B.out hb)
  replace k0 := keepc hb k0
  replace k1 := keepc hb k1
  replace k2 := keepc hb k2
  replace b0 := keepc hb b0
  replace b1 := keepc hb b1
  replace b2 := keepc hb b2
  replace c0 := keepc hb c0
  replace c1 := keepc hb c1
  replace c2 := keepc hb c2
  replace gk := Nat.lt_of_lt_of_le gk hb.size
  replace gb := Nat.lt_of_lt_of_le gb hb.size
  replace gc := Nat.lt_of_lt_of_le gc hb.size
  clear hb
  go_wp2_with fail
  refine (reads_b ks ke kd x _ H1.out _).mono ?_
  rintro e' w3 ⟨rfl, hb⟩
  replace B := Lib.hid (on_below B.out hb)
  replace k0 := keepc hb k0
  replace k1 := keepc hb k1
  replace k2 := keepc hb k2
  replace b0 := keepc hb b0
  replace b1 := keepc hb b1
  replace b2 := keepc hb b2
  replace c0 := keepc hb c0
  replace c1 := keepc hb c1
  replace c2 := keepc hb c2
  replace gk := Nat.lt_of_lt_of_le gk hb.size
  replace gb := Nat.lt_of_lt_of_le gb hb.size
  replace gc := Nat.lt_of_lt_of_le gc hb.size
  clear hb
  go_wp2_with fail
  refine (reads_b bs be bd y _ H2.out _).mono ?_
  rintro e' w4 ⟨rfl, hb⟩
  replace B := Lib.hid (on_below B.out hb)
  replace k0 := keepc hb k0
  replace k1 := keepc hb k1
  replace k2 := keepc hb k2
  replace b0 := keepc hb b0
  replace b1 := keepc hb b1
  replace b2 := keepc hb b2
  replace c0 := keepc hb c0
  replace c1 := keepc hb c1
  replace c2 := keepc hb c2
  replace gk := Nat.lt_of_lt_of_le gk hb.size
  replace gb := Nat.lt_of_lt_of_le gb hb.size
  replace gc := Nat.lt_of_lt_of_le gc hb.size
  clear hb
  go_wp2_with fail
  refine (reads_b cs ce cd z _ H3.out _).mono ?_
  rintro e' w5 ⟨rfl, hb⟩
  replace B := Lib.hid (on_below B.out hb)
  replace k0 := keepc hb k0
  replace k1 := keepc hb k1
  replace k2 := keepc hb k2
  replace b0 := keepc hb b0
  replace b1 := keepc hb b1
  replace b2 := keepc hb b2
  replace c0 := keepc hb c0
  replace c1 := keepc hb c1
  replace c2 := keepc hb c2
  replace gk := Nat.lt_of_lt_of_le gk hb.size
  replace gb := Nat.lt_of_lt_of_le gb hb.size
  replace gc := Nat.lt_of_lt_of_le gc hb.size
  clear hb
  go_wp2_with fail
  refine (order_is ks ke kd x bs be bd y 0 0 XO1.out XO2.out _).mono ?_
  rintro e' w6 ⟨rfl, hb⟩
  replace B := Lib.hid (on_below B.out hb)
  replace k0 := keepc hb k0
  replace k1 := keepc hb k1
  replace k2 := keepc hb k2
  replace b0 := keepc hb b0
  replace b1 := keepc hb b1
  replace b2 := keepc hb b2
  replace c0 := keepc hb c0
  replace c1 := keepc hb c1
  replace c2 := keepc hb c2
  replace gk := Nat.lt_of_lt_of_le gk hb.size
  replace gb := Nat.lt_of_lt_of_le gb hb.size
  replace gc := Nat.lt_of_lt_of_le gc hb.size
  clear hb
  go_wp2_with fail
  refine (order_is bs be bd y ks ke kd x 0 0 XO3.out XO4.out _).mono ?_
  rintro e' w7 ⟨rfl, hb⟩
  replace B := Lib.hid (on_below B.out hb)
  replace k0 := keepc hb k0
  replace k1 := keepc hb k1
  replace k2 := keepc hb k2
  replace b0 := keepc hb b0
  replace b1 := keepc hb b1
  replace b2 := keepc hb b2
  replace c0 := keepc hb c0
  replace c1 := keepc hb c1
  replace c2 := keepc hb c2
  replace gk := Nat.lt_of_lt_of_le gk hb.size
  replace gb := Nat.lt_of_lt_of_le gb hb.size
  replace gc := Nat.lt_of_lt_of_le gc hb.size
  clear hb
  go_wp2_with fail
  refine (order_is bs be bd y cs ce cd z r 0 XO5.out XO6.out _).mono ?_
  rintro e' w8 ⟨rfl, hb⟩
  replace B := Lib.hid (on_below B.out hb)
  replace k0 := keepc hb k0
  replace k1 := keepc hb k1
  replace k2 := keepc hb k2
  replace b0 := keepc hb b0
  replace b1 := keepc hb b1
  replace b2 := keepc hb b2
  replace c0 := keepc hb c0
  replace c1 := keepc hb c1
  replace c2 := keepc hb c2
  replace gk := Nat.lt_of_lt_of_le gk hb.size
  replace gb := Nat.lt_of_lt_of_le gb hb.size
  replace gc := Nat.lt_of_lt_of_le gc hb.size
  clear hb
  go_wp2_with fail
  refine (order_is ks ke kd x cs ce cd z s 0 XO7.out XO8.out _).mono ?_
  rintro e' w9 ⟨rfl, hb⟩
  replace B := Lib.hid (on_below B.out hb)
  replace k0 := keepc hb k0
  replace k1 := keepc hb k1
  replace k2 := keepc hb k2
  replace b0 := keepc hb b0
  replace b1 := keepc hb b1
  replace b2 := keepc hb b2
  replace c0 := keepc hb c0
  replace c1 := keepc hb c1
  replace c2 := keepc hb c2
  replace gk := Nat.lt_of_lt_of_le gk hb.size
  replace gb := Nat.lt_of_lt_of_le gb hb.size
  replace gc := Nat.lt_of_lt_of_le gc hb.size
  clear hb
  go_wp2_with fail
  all_goals go_ret
  all_goals exact ⟨rfl, B.out⟩
set_option maxRecDepth 100000 in
set_option maxHeartbeats 2000000 in
theorem one1 (ks : Int) (iks : I64 ks) (ke : Int) (ike : I64 ke) (kd : Int) (ikd : I64 kd) (x : Int) (ix : I64 x) (bs : Int) (ibs : I64 bs) (be : Int) (ibe : I64 be) (bd : Int) (ibd : I64 bd) (y : Int) (iy : I64 y) (cs : Int) (ics : I64 cs) (ce : Int) (ice : I64 ce) (cd : Int) (icd : I64 cd) (z : Int) (iz : I64 z) (w : World) (h1 : rds ks ke kd x = true) (h2 : rds bs be bd y = true) (h3 : rds cs ce cd z = true) (r : Int) (s : Int) (he : (ks = bs ∧ ke = be ∧ kd = bd)) (o1 : oV ks ke kd x bs be bd y = 1) (o2 : oE ks ke kd x bs be bd y = 0) (o3 : oV bs be bd y ks ke kd x = (-1)) (o4 : oE bs be bd y ks ke kd x = 0) (o5 : oV bs be bd y cs ce cd z = r) (o6 : oE bs be bd y cs ce cd z = 0) (o7 : oV ks ke kd x cs ce cd z = s) (o8 : oE ks ke kd x cs ce cd z = 0) :
    Calls Try.prog 7 #[.agg #[.int .i64 ks, .int .i64 ke, .int .i64 kd], .int .i64 x, .agg #[.int .i64 bs, .int .i64 be, .int .i64 bd], .int .i64 y, .agg #[.int .i64 cs, .int .i64 ce, .int .i64 cd], .int .i64 z] w fun e w' => e = .returned (.bool true) ∧ Below w.heap.size w w' := by
  have H1 := Lib.hid h1
  clear h1
  have H2 := Lib.hid h2
  clear h2
  have H3 := Lib.hid h3
  clear h3
  have XO1 := Lib.hid o1
  clear o1
  have XO2 := Lib.hid o2
  clear o2
  have XO3 := Lib.hid o3
  clear o3
  have XO4 := Lib.hid o4
  clear o4
  have XO5 := Lib.hid o5
  clear o5
  have XO6 := Lib.hid o6
  clear o6
  have XO7 := Lib.hid o7
  clear o7
  have XO8 := Lib.hid o8
  clear o8
  have hq := fun w => clk_yes he w
  have HE := Lib.hid he
  clear he
  go_enter Try.func7, Try.ntmps7
  go_wp2_with fail
  have k0 : World.cell? (((w.alloc (.cells #[.int .i64 ks, .int .i64 ke, .int .i64 kd] 23)).alloc (.cells #[.int .i64 bs, .int .i64 be, .int .i64 bd] 23)).alloc (.cells #[.int .i64 cs, .int .i64 ce, .int .i64 cd] 23)) ⟨w.heap.size, 0, none⟩ = some (.int .i64 ks) := by simp [go_sem]
  have k1 : World.cell? (((w.alloc (.cells #[.int .i64 ks, .int .i64 ke, .int .i64 kd] 23)).alloc (.cells #[.int .i64 bs, .int .i64 be, .int .i64 bd] 23)).alloc (.cells #[.int .i64 cs, .int .i64 ce, .int .i64 cd] 23)) ⟨w.heap.size, 1, none⟩ = some (.int .i64 ke) := by simp [go_sem]
  have k2 : World.cell? (((w.alloc (.cells #[.int .i64 ks, .int .i64 ke, .int .i64 kd] 23)).alloc (.cells #[.int .i64 bs, .int .i64 be, .int .i64 bd] 23)).alloc (.cells #[.int .i64 cs, .int .i64 ce, .int .i64 cd] 23)) ⟨w.heap.size, 2, none⟩ = some (.int .i64 kd) := by simp [go_sem]
  have b0 : World.cell? (((w.alloc (.cells #[.int .i64 ks, .int .i64 ke, .int .i64 kd] 23)).alloc (.cells #[.int .i64 bs, .int .i64 be, .int .i64 bd] 23)).alloc (.cells #[.int .i64 cs, .int .i64 ce, .int .i64 cd] 23)) ⟨w.heap.size + 1, 0, none⟩ = some (.int .i64 bs) := by simp [go_sem]
  have b1 : World.cell? (((w.alloc (.cells #[.int .i64 ks, .int .i64 ke, .int .i64 kd] 23)).alloc (.cells #[.int .i64 bs, .int .i64 be, .int .i64 bd] 23)).alloc (.cells #[.int .i64 cs, .int .i64 ce, .int .i64 cd] 23)) ⟨w.heap.size + 1, 1, none⟩ = some (.int .i64 be) := by simp [go_sem]
  have b2 : World.cell? (((w.alloc (.cells #[.int .i64 ks, .int .i64 ke, .int .i64 kd] 23)).alloc (.cells #[.int .i64 bs, .int .i64 be, .int .i64 bd] 23)).alloc (.cells #[.int .i64 cs, .int .i64 ce, .int .i64 cd] 23)) ⟨w.heap.size + 1, 2, none⟩ = some (.int .i64 bd) := by simp [go_sem]
  have c0 : World.cell? (((w.alloc (.cells #[.int .i64 ks, .int .i64 ke, .int .i64 kd] 23)).alloc (.cells #[.int .i64 bs, .int .i64 be, .int .i64 bd] 23)).alloc (.cells #[.int .i64 cs, .int .i64 ce, .int .i64 cd] 23)) ⟨w.heap.size + 1 + 1, 0, none⟩ = some (.int .i64 cs) := by simp [go_sem]
  have c1 : World.cell? (((w.alloc (.cells #[.int .i64 ks, .int .i64 ke, .int .i64 kd] 23)).alloc (.cells #[.int .i64 bs, .int .i64 be, .int .i64 bd] 23)).alloc (.cells #[.int .i64 cs, .int .i64 ce, .int .i64 cd] 23)) ⟨w.heap.size + 1 + 1, 1, none⟩ = some (.int .i64 ce) := by simp [go_sem]
  have c2 : World.cell? (((w.alloc (.cells #[.int .i64 ks, .int .i64 ke, .int .i64 kd] 23)).alloc (.cells #[.int .i64 bs, .int .i64 be, .int .i64 bd] 23)).alloc (.cells #[.int .i64 cs, .int .i64 ce, .int .i64 cd] 23)) ⟨w.heap.size + 1 + 1, 2, none⟩ = some (.int .i64 cd) := by simp [go_sem]
  have gk : w.heap.size < (((w.alloc (.cells #[.int .i64 ks, .int .i64 ke, .int .i64 kd] 23)).alloc (.cells #[.int .i64 bs, .int .i64 be, .int .i64 bd] 23)).alloc (.cells #[.int .i64 cs, .int .i64 ce, .int .i64 cd] 23)).heap.size := by simp <;> omega
  have gb : w.heap.size + 1 < (((w.alloc (.cells #[.int .i64 ks, .int .i64 ke, .int .i64 kd] 23)).alloc (.cells #[.int .i64 bs, .int .i64 be, .int .i64 bd] 23)).alloc (.cells #[.int .i64 cs, .int .i64 ce, .int .i64 cd] 23)).heap.size := by simp <;> omega
  have gc : w.heap.size + 1 + 1 < (((w.alloc (.cells #[.int .i64 ks, .int .i64 ke, .int .i64 kd] 23)).alloc (.cells #[.int .i64 bs, .int .i64 be, .int .i64 bd] 23)).alloc (.cells #[.int .i64 cs, .int .i64 ce, .int .i64 cd] 23)).heap.size := by simp <;> omega
  have B := Lib.hid (show Below w.heap.size w (((w.alloc (.cells #[.int .i64 ks, .int .i64 ke, .int .i64 kd] 23)).alloc (.cells #[.int .i64 bs, .int .i64 be, .int .i64 bd] 23)).alloc (.cells #[.int .i64 cs, .int .i64 ce, .int .i64 cd] 23)) from ((((Below.refl _ _).alloc (by simp; try omega) _).alloc (by simp; try omega) _).alloc (by simp; try omega) _))
  generalize ((w.alloc (.cells #[.int .i64 ks, .int .i64 ke, .int .i64 kd] 23)).alloc (.cells #[.int .i64 bs, .int .i64 be, .int .i64 bd] 23)).alloc (.cells #[.int .i64 cs, .int .i64 ce, .int .i64 cd] 23) = V1 at *
  refine (head_any _).mono ?_
  rintro e' w2 ⟨rfl, hb⟩
  replace B := Lib.hid (on_below B.out hb)
  replace k0 := keepc hb k0
  replace k1 := keepc hb k1
  replace k2 := keepc hb k2
  replace b0 := keepc hb b0
  replace b1 := keepc hb b1
  replace b2 := keepc hb b2
  replace c0 := keepc hb c0
  replace c1 := keepc hb c1
  replace c2 := keepc hb c2
  replace gk := Nat.lt_of_lt_of_le gk hb.size
  replace gb := Nat.lt_of_lt_of_le gb hb.size
  replace gc := Nat.lt_of_lt_of_le gc hb.size
  clear hb
  go_wp2_with fail
  refine (reads_b ks ke kd x _ H1.out _).mono ?_
  rintro e' w3 ⟨rfl, hb⟩
  replace B := Lib.hid (on_below B.out hb)
  replace k0 := keepc hb k0
  replace k1 := keepc hb k1
  replace k2 := keepc hb k2
  replace b0 := keepc hb b0
  replace b1 := keepc hb b1
  replace b2 := keepc hb b2
  replace c0 := keepc hb c0
  replace c1 := keepc hb c1
  replace c2 := keepc hb c2
  replace gk := Nat.lt_of_lt_of_le gk hb.size
  replace gb := Nat.lt_of_lt_of_le gb hb.size
  replace gc := Nat.lt_of_lt_of_le gc hb.size
  clear hb
  go_wp2_with fail
  refine (reads_b bs be bd y _ H2.out _).mono ?_
  rintro e' w4 ⟨rfl, hb⟩
  replace B := Lib.hid (on_below B.out hb)
  replace k0 := keepc hb k0
  replace k1 := keepc hb k1
  replace k2 := keepc hb k2
  replace b0 := keepc hb b0
  replace b1 := keepc hb b1
  replace b2 := keepc hb b2
  replace c0 := keepc hb c0
  replace c1 := keepc hb c1
  replace c2 := keepc hb c2
  replace gk := Nat.lt_of_lt_of_le gk hb.size
  replace gb := Nat.lt_of_lt_of_le gb hb.size
  replace gc := Nat.lt_of_lt_of_le gc hb.size
  clear hb
  go_wp2_with fail
  refine (reads_b cs ce cd z _ H3.out _).mono ?_
  rintro e' w5 ⟨rfl, hb⟩
  replace B := Lib.hid (on_below B.out hb)
  replace k0 := keepc hb k0
  replace k1 := keepc hb k1
  replace k2 := keepc hb k2
  replace b0 := keepc hb b0
  replace b1 := keepc hb b1
  replace b2 := keepc hb b2
  replace c0 := keepc hb c0
  replace c1 := keepc hb c1
  replace c2 := keepc hb c2
  replace gk := Nat.lt_of_lt_of_le gk hb.size
  replace gb := Nat.lt_of_lt_of_le gb hb.size
  replace gc := Nat.lt_of_lt_of_le gc hb.size
  clear hb
  go_wp2_with fail
  refine (order_is ks ke kd x bs be bd y 1 0 XO1.out XO2.out _).mono ?_
  rintro e' w6 ⟨rfl, hb⟩
  replace B := Lib.hid (on_below B.out hb)
  replace k0 := keepc hb k0
  replace k1 := keepc hb k1
  replace k2 := keepc hb k2
  replace b0 := keepc hb b0
  replace b1 := keepc hb b1
  replace b2 := keepc hb b2
  replace c0 := keepc hb c0
  replace c1 := keepc hb c1
  replace c2 := keepc hb c2
  replace gk := Nat.lt_of_lt_of_le gk hb.size
  replace gb := Nat.lt_of_lt_of_le gb hb.size
  replace gc := Nat.lt_of_lt_of_le gc hb.size
  clear hb
  go_wp2_with fail
  refine (order_is bs be bd y ks ke kd x (-1) 0 XO3.out XO4.out _).mono ?_
  rintro e' w7 ⟨rfl, hb⟩
  replace B := Lib.hid (on_below B.out hb)
  replace k0 := keepc hb k0
  replace k1 := keepc hb k1
  replace k2 := keepc hb k2
  replace b0 := keepc hb b0
  replace b1 := keepc hb b1
  replace b2 := keepc hb b2
  replace c0 := keepc hb c0
  replace c1 := keepc hb c1
  replace c2 := keepc hb c2
  replace gk := Nat.lt_of_lt_of_le gk hb.size
  replace gb := Nat.lt_of_lt_of_le gb hb.size
  replace gc := Nat.lt_of_lt_of_le gc hb.size
  clear hb
  go_wp2_with fail
  refine (order_is bs be bd y cs ce cd z r 0 XO5.out XO6.out _).mono ?_
  rintro e' w8 ⟨rfl, hb⟩
  replace B := Lib.hid (on_below B.out hb)
  replace k0 := keepc hb k0
  replace k1 := keepc hb k1
  replace k2 := keepc hb k2
  replace b0 := keepc hb b0
  replace b1 := keepc hb b1
  replace b2 := keepc hb b2
  replace c0 := keepc hb c0
  replace c1 := keepc hb c1
  replace c2 := keepc hb c2
  replace gk := Nat.lt_of_lt_of_le gk hb.size
  replace gb := Nat.lt_of_lt_of_le gb hb.size
  replace gc := Nat.lt_of_lt_of_le gc hb.size
  clear hb
  go_wp2_with fail
  refine (order_is ks ke kd x cs ce cd z s 0 XO7.out XO8.out _).mono ?_
  rintro e' w9 ⟨rfl, hb⟩
  replace B := Lib.hid (on_below B.out hb)
  replace k0 := keepc hb k0
  replace k1 := keepc hb k1
  replace k2 := keepc hb k2
  replace b0 := keepc hb b0
  replace b1 := keepc hb b1
  replace b2 := keepc hb b2
  replace c0 := keepc hb c0
  replace c1 := keepc hb c1
  replace c2 := keepc hb c2
  replace gk := Nat.lt_of_lt_of_le gk hb.size
  replace gb := Nat.lt_of_lt_of_le gb hb.size
  replace gc := Nat.lt_of_lt_of_le gc hb.size
  clear hb
  go_wp2_with fail
  all_goals go_ret
  all_goals exact ⟨rfl, B.out⟩
set_option maxRecDepth 100000 in
set_option maxHeartbeats 2000000 in
theorem neg1 (ks : Int) (iks : I64 ks) (ke : Int) (ike : I64 ke) (kd : Int) (ikd : I64 kd) (x : Int) (ix : I64 x) (bs : Int) (ibs : I64 bs) (be : Int) (ibe : I64 be) (bd : Int) (ibd : I64 bd) (y : Int) (iy : I64 y) (cs : Int) (ics : I64 cs) (ce : Int) (ice : I64 ce) (cd : Int) (icd : I64 cd) (z : Int) (iz : I64 z) (w : World) (h1 : rds ks ke kd x = true) (h2 : rds bs be bd y = true) (h3 : rds cs ce cd z = true) (r : Int) (s : Int) (hx : x < y) (hr : ¬ r = -1) (he : (ks = bs ∧ ke = be ∧ kd = bd)) (o1 : oV ks ke kd x bs be bd y = (-1)) (o2 : oE ks ke kd x bs be bd y = 0) (o3 : oV bs be bd y ks ke kd x = 1) (o4 : oE bs be bd y ks ke kd x = 0) (o5 : oV bs be bd y cs ce cd z = r) (o6 : oE bs be bd y cs ce cd z = 0) (o7 : oV ks ke kd x cs ce cd z = s) (o8 : oE ks ke kd x cs ce cd z = 0) (G V : Int) (t1 : tF bs be bd y = G) (t2 : tU bs be bd y = V) (t3 : tE bs be bd y = 0) (t4 : tE ks ke kd x = 0) (v1 : pV bs be bd y G = 1) (v2 : pV ks ke kd x G = -1) :
    Calls Try.prog 7 #[.agg #[.int .i64 ks, .int .i64 ke, .int .i64 kd], .int .i64 x, .agg #[.int .i64 bs, .int .i64 be, .int .i64 bd], .int .i64 y, .agg #[.int .i64 cs, .int .i64 ce, .int .i64 cd], .int .i64 z] w fun e w' => e = .returned (.bool true) ∧ Below w.heap.size w w' := by
  have H1 := Lib.hid h1
  clear h1
  have H2 := Lib.hid h2
  clear h2
  have H3 := Lib.hid h3
  clear h3
  have XO1 := Lib.hid o1
  clear o1
  have XO2 := Lib.hid o2
  clear o2
  have XO3 := Lib.hid o3
  clear o3
  have XO4 := Lib.hid o4
  clear o4
  have XO5 := Lib.hid o5
  clear o5
  have XO6 := Lib.hid o6
  clear o6
  have XO7 := Lib.hid o7
  clear o7
  have XO8 := Lib.hid o8
  clear o8
  have XT1 := Lib.hid t1
  clear t1
  have XT2 := Lib.hid t2
  clear t2
  have XT3 := Lib.hid t3
  clear t3
  have XT4 := Lib.hid t4
  clear t4
  have XV1 := Lib.hid v1
  clear v1
  have XV2 := Lib.hid v2
  clear v2
  have hq := fun w => clk_yes he w
  have HE := Lib.hid he
  clear he
  go_enter Try.func7, Try.ntmps7
  go_wp2_with fail
  have k0 : World.cell? (((w.alloc (.cells #[.int .i64 ks, .int .i64 ke, .int .i64 kd] 23)).alloc (.cells #[.int .i64 bs, .int .i64 be, .int .i64 bd] 23)).alloc (.cells #[.int .i64 cs, .int .i64 ce, .int .i64 cd] 23)) ⟨w.heap.size, 0, none⟩ = some (.int .i64 ks) := by simp [go_sem]
  have k1 : World.cell? (((w.alloc (.cells #[.int .i64 ks, .int .i64 ke, .int .i64 kd] 23)).alloc (.cells #[.int .i64 bs, .int .i64 be, .int .i64 bd] 23)).alloc (.cells #[.int .i64 cs, .int .i64 ce, .int .i64 cd] 23)) ⟨w.heap.size, 1, none⟩ = some (.int .i64 ke) := by simp [go_sem]
  have k2 : World.cell? (((w.alloc (.cells #[.int .i64 ks, .int .i64 ke, .int .i64 kd] 23)).alloc (.cells #[.int .i64 bs, .int .i64 be, .int .i64 bd] 23)).alloc (.cells #[.int .i64 cs, .int .i64 ce, .int .i64 cd] 23)) ⟨w.heap.size, 2, none⟩ = some (.int .i64 kd) := by simp [go_sem]
  have b0 : World.cell? (((w.alloc (.cells #[.int .i64 ks, .int .i64 ke, .int .i64 kd] 23)).alloc (.cells #[.int .i64 bs, .int .i64 be, .int .i64 bd] 23)).alloc (.cells #[.int .i64 cs, .int .i64 ce, .int .i64 cd] 23)) ⟨w.heap.size + 1, 0, none⟩ = some (.int .i64 bs) := by simp [go_sem]
  have b1 : World.cell? (((w.alloc (.cells #[.int .i64 ks, .int .i64 ke, .int .i64 kd] 23)).alloc (.cells #[.int .i64 bs, .int .i64 be, .int .i64 bd] 23)).alloc (.cells #[.int .i64 cs, .int .i64 ce, .int .i64 cd] 23)) ⟨w.heap.size + 1, 1, none⟩ = some (.int .i64 be) := by simp [go_sem]
  have b2 : World.cell? (((w.alloc (.cells #[.int .i64 ks, .int .i64 ke, .int .i64 kd] 23)).alloc (.cells #[.int .i64 bs, .int .i64 be, .int .i64 bd] 23)).alloc (.cells #[.int .i64 cs, .int .i64 ce, .int .i64 cd] 23)) ⟨w.heap.size + 1, 2, none⟩ = some (.int .i64 bd) := by simp [go_sem]
  have c0 : World.cell? (((w.alloc (.cells #[.int .i64 ks, .int .i64 ke, .int .i64 kd] 23)).alloc (.cells #[.int .i64 bs, .int .i64 be, .int .i64 bd] 23)).alloc (.cells #[.int .i64 cs, .int .i64 ce, .int .i64 cd] 23)) ⟨w.heap.size + 1 + 1, 0, none⟩ = some (.int .i64 cs) := by simp [go_sem]
  have c1 : World.cell? (((w.alloc (.cells #[.int .i64 ks, .int .i64 ke, .int .i64 kd] 23)).alloc (.cells #[.int .i64 bs, .int .i64 be, .int .i64 bd] 23)).alloc (.cells #[.int .i64 cs, .int .i64 ce, .int .i64 cd] 23)) ⟨w.heap.size + 1 + 1, 1, none⟩ = some (.int .i64 ce) := by simp [go_sem]
  have c2 : World.cell? (((w.alloc (.cells #[.int .i64 ks, .int .i64 ke, .int .i64 kd] 23)).alloc (.cells #[.int .i64 bs, .int .i64 be, .int .i64 bd] 23)).alloc (.cells #[.int .i64 cs, .int .i64 ce, .int .i64 cd] 23)) ⟨w.heap.size + 1 + 1, 2, none⟩ = some (.int .i64 cd) := by simp [go_sem]
  have gk : w.heap.size < (((w.alloc (.cells #[.int .i64 ks, .int .i64 ke, .int .i64 kd] 23)).alloc (.cells #[.int .i64 bs, .int .i64 be, .int .i64 bd] 23)).alloc (.cells #[.int .i64 cs, .int .i64 ce, .int .i64 cd] 23)).heap.size := by simp <;> omega
  have gb : w.heap.size + 1 < (((w.alloc (.cells #[.int .i64 ks, .int .i64 ke, .int .i64 kd] 23)).alloc (.cells #[.int .i64 bs, .int .i64 be, .int .i64 bd] 23)).alloc (.cells #[.int .i64 cs, .int .i64 ce, .int .i64 cd] 23)).heap.size := by simp <;> omega
  have gc : w.heap.size + 1 + 1 < (((w.alloc (.cells #[.int .i64 ks, .int .i64 ke, .int .i64 kd] 23)).alloc (.cells #[.int .i64 bs, .int .i64 be, .int .i64 bd] 23)).alloc (.cells #[.int .i64 cs, .int .i64 ce, .int .i64 cd] 23)).heap.size := by simp <;> omega
  have B := Lib.hid (show Below w.heap.size w (((w.alloc (.cells #[.int .i64 ks, .int .i64 ke, .int .i64 kd] 23)).alloc (.cells #[.int .i64 bs, .int .i64 be, .int .i64 bd] 23)).alloc (.cells #[.int .i64 cs, .int .i64 ce, .int .i64 cd] 23)) from ((((Below.refl _ _).alloc (by simp; try omega) _).alloc (by simp; try omega) _).alloc (by simp; try omega) _))
  generalize ((w.alloc (.cells #[.int .i64 ks, .int .i64 ke, .int .i64 kd] 23)).alloc (.cells #[.int .i64 bs, .int .i64 be, .int .i64 bd] 23)).alloc (.cells #[.int .i64 cs, .int .i64 ce, .int .i64 cd] 23) = V1 at *
  refine (head_any _).mono ?_
  rintro e' w2 ⟨rfl, hb⟩
  replace B := Lib.hid (on_below B.out hb)
  replace k0 := keepc hb k0
  replace k1 := keepc hb k1
  replace k2 := keepc hb k2
  replace b0 := keepc hb b0
  replace b1 := keepc hb b1
  replace b2 := keepc hb b2
  replace c0 := keepc hb c0
  replace c1 := keepc hb c1
  replace c2 := keepc hb c2
  replace gk := Nat.lt_of_lt_of_le gk hb.size
  replace gb := Nat.lt_of_lt_of_le gb hb.size
  replace gc := Nat.lt_of_lt_of_le gc hb.size
  clear hb
  go_wp2_with fail
  refine (reads_b ks ke kd x _ H1.out _).mono ?_
  rintro e' w3 ⟨rfl, hb⟩
  replace B := Lib.hid (on_below B.out hb)
  replace k0 := keepc hb k0
  replace k1 := keepc hb k1
  replace k2 := keepc hb k2
  replace b0 := keepc hb b0
  replace b1 := keepc hb b1
  replace b2 := keepc hb b2
  replace c0 := keepc hb c0
  replace c1 := keepc hb c1
  replace c2 := keepc hb c2
  replace gk := Nat.lt_of_lt_of_le gk hb.size
  replace gb := Nat.lt_of_lt_of_le gb hb.size
  replace gc := Nat.lt_of_lt_of_le gc hb.size
  clear hb
  go_wp2_with fail
  refine (reads_b bs be bd y _ H2.out _).mono ?_
  rintro e' w4 ⟨rfl, hb⟩
  replace B := Lib.hid (on_below B.out hb)
  replace k0 := keepc hb k0
  replace k1 := keepc hb k1
  replace k2 := keepc hb k2
  replace b0 := keepc hb b0
  replace b1 := keepc hb b1
  replace b2 := keepc hb b2
  replace c0 := keepc hb c0
  replace c1 := keepc hb c1
  replace c2 := keepc hb c2
  replace gk := Nat.lt_of_lt_of_le gk hb.size
  replace gb := Nat.lt_of_lt_of_le gb hb.size
  replace gc := Nat.lt_of_lt_of_le gc hb.size
  clear hb
  go_wp2_with fail
  refine (reads_b cs ce cd z _ H3.out _).mono ?_
  rintro e' w5 ⟨rfl, hb⟩
  replace B := Lib.hid (on_below B.out hb)
  replace k0 := keepc hb k0
  replace k1 := keepc hb k1
  replace k2 := keepc hb k2
  replace b0 := keepc hb b0
  replace b1 := keepc hb b1
  replace b2 := keepc hb b2
  replace c0 := keepc hb c0
  replace c1 := keepc hb c1
  replace c2 := keepc hb c2
  replace gk := Nat.lt_of_lt_of_le gk hb.size
  replace gb := Nat.lt_of_lt_of_le gb hb.size
  replace gc := Nat.lt_of_lt_of_le gc hb.size
  clear hb
  go_wp2_with fail
  refine (order_is ks ke kd x bs be bd y (-1) 0 XO1.out XO2.out _).mono ?_
  rintro e' w6 ⟨rfl, hb⟩
  replace B := Lib.hid (on_below B.out hb)
  replace k0 := keepc hb k0
  replace k1 := keepc hb k1
  replace k2 := keepc hb k2
  replace b0 := keepc hb b0
  replace b1 := keepc hb b1
  replace b2 := keepc hb b2
  replace c0 := keepc hb c0
  replace c1 := keepc hb c1
  replace c2 := keepc hb c2
  replace gk := Nat.lt_of_lt_of_le gk hb.size
  replace gb := Nat.lt_of_lt_of_le gb hb.size
  replace gc := Nat.lt_of_lt_of_le gc hb.size
  clear hb
  go_wp2_with fail
  refine (order_is bs be bd y ks ke kd x 1 0 XO3.out XO4.out _).mono ?_
  rintro e' w7 ⟨rfl, hb⟩
  replace B := Lib.hid (on_below B.out hb)
  replace k0 := keepc hb k0
  replace k1 := keepc hb k1
  replace k2 := keepc hb k2
  replace b0 := keepc hb b0
  replace b1 := keepc hb b1
  replace b2 := keepc hb b2
  replace c0 := keepc hb c0
  replace c1 := keepc hb c1
  replace c2 := keepc hb c2
  replace gk := Nat.lt_of_lt_of_le gk hb.size
  replace gb := Nat.lt_of_lt_of_le gb hb.size
  replace gc := Nat.lt_of_lt_of_le gc hb.size
  clear hb
  go_wp2_with fail
  refine (order_is bs be bd y cs ce cd z r 0 XO5.out XO6.out _).mono ?_
  rintro e' w8 ⟨rfl, hb⟩
  replace B := Lib.hid (on_below B.out hb)
  replace k0 := keepc hb k0
  replace k1 := keepc hb k1
  replace k2 := keepc hb k2
  replace b0 := keepc hb b0
  replace b1 := keepc hb b1
  replace b2 := keepc hb b2
  replace c0 := keepc hb c0
  replace c1 := keepc hb c1
  replace c2 := keepc hb c2
  replace gk := Nat.lt_of_lt_of_le gk hb.size
  replace gb := Nat.lt_of_lt_of_le gb hb.size
  replace gc := Nat.lt_of_lt_of_le gc hb.size
  clear hb
  go_wp2_with fail
  refine (order_is ks ke kd x cs ce cd z s 0 XO7.out XO8.out _).mono ?_
  rintro e' w9 ⟨rfl, hb⟩
  replace B := Lib.hid (on_below B.out hb)
  replace k0 := keepc hb k0
  replace k1 := keepc hb k1
  replace k2 := keepc hb k2
  replace b0 := keepc hb b0
  replace b1 := keepc hb b1
  replace b2 := keepc hb b2
  replace c0 := keepc hb c0
  replace c1 := keepc hb c1
  replace c2 := keepc hb c2
  replace gk := Nat.lt_of_lt_of_le gk hb.size
  replace gb := Nat.lt_of_lt_of_le gb hb.size
  replace gc := Nat.lt_of_lt_of_le gc hb.size
  clear hb
  go_wp2_with fail
  refine (true_is bs be bd y G V 0 XT1.out XT2.out XT3.out _).mono ?_
  rintro e' w10 ⟨rfl, hb⟩
  replace B := Lib.hid (on_below B.out hb)
  replace k0 := keepc hb k0
  replace k1 := keepc hb k1
  replace k2 := keepc hb k2
  replace b0 := keepc hb b0
  replace b1 := keepc hb b1
  replace b2 := keepc hb b2
  replace c0 := keepc hb c0
  replace c1 := keepc hb c1
  replace c2 := keepc hb c2
  replace gk := Nat.lt_of_lt_of_le gk hb.size
  replace gb := Nat.lt_of_lt_of_le gb hb.size
  replace gc := Nat.lt_of_lt_of_le gc hb.size
  clear hb
  go_wp2_with fail
  have u0 : World.cell? (w10.alloc (.cells #[.int .i64 G, .int .i64 V] 25)) ⟨w10.heap.size, 0, none⟩ = some (.int .i64 G) := by simp [go_sem]
  have u1 : World.cell? (w10.alloc (.cells #[.int .i64 G, .int .i64 V] 25)) ⟨w10.heap.size, 1, none⟩ = some (.int .i64 V) := by simp [go_sem]
  have gu : w10.heap.size < (w10.alloc (.cells #[.int .i64 G, .int .i64 V] 25)).heap.size := by simp <;> omega
  have hb : Below w10.heap.size w10 (w10.alloc (.cells #[.int .i64 G, .int .i64 V] 25)) := ((Below.refl _ _).alloc (by simp; try omega) _)
  generalize w10.alloc (.cells #[.int .i64 G, .int .i64 V] 25) = V11 at *
  replace B := Lib.hid (on_below B.out hb)
  replace k0 := keepc hb k0
  replace k1 := keepc hb k1
  replace k2 := keepc hb k2
  replace b0 := keepc hb b0
  replace b1 := keepc hb b1
  replace b2 := keepc hb b2
  replace c0 := keepc hb c0
  replace c1 := keepc hb c1
  replace c2 := keepc hb c2
  replace gk := Nat.lt_of_lt_of_le gk hb.size
  replace gb := Nat.lt_of_lt_of_le gb hb.size
  replace gc := Nat.lt_of_lt_of_le gc hb.size
  clear hb
  refine (passed_is bs be bd y G 1 0 XV1.out XT3.out _).mono ?_
  rintro e' w12 ⟨rfl, hb⟩
  replace B := Lib.hid (on_below B.out hb)
  replace k0 := keepc hb k0
  replace k1 := keepc hb k1
  replace k2 := keepc hb k2
  replace b0 := keepc hb b0
  replace b1 := keepc hb b1
  replace b2 := keepc hb b2
  replace c0 := keepc hb c0
  replace c1 := keepc hb c1
  replace c2 := keepc hb c2
  replace u0 := keepc hb u0
  replace u1 := keepc hb u1
  replace gk := Nat.lt_of_lt_of_le gk hb.size
  replace gb := Nat.lt_of_lt_of_le gb hb.size
  replace gc := Nat.lt_of_lt_of_le gc hb.size
  replace gu := Nat.lt_of_lt_of_le gu hb.size
  clear hb
  go_wp2_with fail
  refine (passed_is ks ke kd x G (-1) 0 XV2.out XT4.out _).mono ?_
  rintro e' w13 ⟨rfl, hb⟩
  replace B := Lib.hid (on_below B.out hb)
  replace k0 := keepc hb k0
  replace k1 := keepc hb k1
  replace k2 := keepc hb k2
  replace b0 := keepc hb b0
  replace b1 := keepc hb b1
  replace b2 := keepc hb b2
  replace c0 := keepc hb c0
  replace c1 := keepc hb c1
  replace c2 := keepc hb c2
  replace u0 := keepc hb u0
  replace u1 := keepc hb u1
  replace gk := Nat.lt_of_lt_of_le gk hb.size
  replace gb := Nat.lt_of_lt_of_le gb hb.size
  replace gc := Nat.lt_of_lt_of_le gc hb.size
  replace gu := Nat.lt_of_lt_of_le gu hb.size
  clear hb
  go_wp2_with fail
  all_goals go_ret
  all_goals exact ⟨rfl, B.out⟩
set_option maxRecDepth 100000 in
set_option maxHeartbeats 2000000 in
theorem tra1 (ks : Int) (iks : I64 ks) (ke : Int) (ike : I64 ke) (kd : Int) (ikd : I64 kd) (x : Int) (ix : I64 x) (bs : Int) (ibs : I64 bs) (be : Int) (ibe : I64 be) (bd : Int) (ibd : I64 bd) (y : Int) (iy : I64 y) (cs : Int) (ics : I64 cs) (ce : Int) (ice : I64 ce) (cd : Int) (icd : I64 cd) (z : Int) (iz : I64 z) (w : World) (h1 : rds ks ke kd x = true) (h2 : rds bs be bd y = true) (h3 : rds cs ce cd z = true) (hx : x < y) (he : (ks = bs ∧ ke = be ∧ kd = bd)) (o1 : oV ks ke kd x bs be bd y = (-1)) (o2 : oE ks ke kd x bs be bd y = 0) (o3 : oV bs be bd y ks ke kd x = 1) (o4 : oE bs be bd y ks ke kd x = 0) (o5 : oV bs be bd y cs ce cd z = (-1)) (o6 : oE bs be bd y cs ce cd z = 0) (o7 : oV ks ke kd x cs ce cd z = (-1)) (o8 : oE ks ke kd x cs ce cd z = 0) (G V : Int) (t1 : tF bs be bd y = G) (t2 : tU bs be bd y = V) (t3 : tE bs be bd y = 0) (t4 : tE ks ke kd x = 0) (v1 : pV bs be bd y G = 1) (v2 : pV ks ke kd x G = -1) :
    Calls Try.prog 7 #[.agg #[.int .i64 ks, .int .i64 ke, .int .i64 kd], .int .i64 x, .agg #[.int .i64 bs, .int .i64 be, .int .i64 bd], .int .i64 y, .agg #[.int .i64 cs, .int .i64 ce, .int .i64 cd], .int .i64 z] w fun e w' => e = .returned (.bool true) ∧ Below w.heap.size w w' := by
  have H1 := Lib.hid h1
  clear h1
  have H2 := Lib.hid h2
  clear h2
  have H3 := Lib.hid h3
  clear h3
  have XO1 := Lib.hid o1
  clear o1
  have XO2 := Lib.hid o2
  clear o2
  have XO3 := Lib.hid o3
  clear o3
  have XO4 := Lib.hid o4
  clear o4
  have XO5 := Lib.hid o5
  clear o5
  have XO6 := Lib.hid o6
  clear o6
  have XO7 := Lib.hid o7
  clear o7
  have XO8 := Lib.hid o8
  clear o8
  have XT1 := Lib.hid t1
  clear t1
  have XT2 := Lib.hid t2
  clear t2
  have XT3 := Lib.hid t3
  clear t3
  have XT4 := Lib.hid t4
  clear t4
  have XV1 := Lib.hid v1
  clear v1
  have XV2 := Lib.hid v2
  clear v2
  have hq := fun w => clk_yes he w
  have HE := Lib.hid he
  clear he
  go_enter Try.func7, Try.ntmps7
  go_wp2_with fail
  have k0 : World.cell? (((w.alloc (.cells #[.int .i64 ks, .int .i64 ke, .int .i64 kd] 23)).alloc (.cells #[.int .i64 bs, .int .i64 be, .int .i64 bd] 23)).alloc (.cells #[.int .i64 cs, .int .i64 ce, .int .i64 cd] 23)) ⟨w.heap.size, 0, none⟩ = some (.int .i64 ks) := by simp [go_sem]
  have k1 : World.cell? (((w.alloc (.cells #[.int .i64 ks, .int .i64 ke, .int .i64 kd] 23)).alloc (.cells #[.int .i64 bs, .int .i64 be, .int .i64 bd] 23)).alloc (.cells #[.int .i64 cs, .int .i64 ce, .int .i64 cd] 23)) ⟨w.heap.size, 1, none⟩ = some (.int .i64 ke) := by simp [go_sem]
  have k2 : World.cell? (((w.alloc (.cells #[.int .i64 ks, .int .i64 ke, .int .i64 kd] 23)).alloc (.cells #[.int .i64 bs, .int .i64 be, .int .i64 bd] 23)).alloc (.cells #[.int .i64 cs, .int .i64 ce, .int .i64 cd] 23)) ⟨w.heap.size, 2, none⟩ = some (.int .i64 kd) := by simp [go_sem]
  have b0 : World.cell? (((w.alloc (.cells #[.int .i64 ks, .int .i64 ke, .int .i64 kd] 23)).alloc (.cells #[.int .i64 bs, .int .i64 be, .int .i64 bd] 23)).alloc (.cells #[.int .i64 cs, .int .i64 ce, .int .i64 cd] 23)) ⟨w.heap.size + 1, 0, none⟩ = some (.int .i64 bs) := by simp [go_sem]
  have b1 : World.cell? (((w.alloc (.cells #[.int .i64 ks, .int .i64 ke, .int .i64 kd] 23)).alloc (.cells #[.int .i64 bs, .int .i64 be, .int .i64 bd] 23)).alloc (.cells #[.int .i64 cs, .int .i64 ce, .int .i64 cd] 23)) ⟨w.heap.size + 1, 1, none⟩ = some (.int .i64 be) := by simp [go_sem]
  have b2 : World.cell? (((w.alloc (.cells #[.int .i64 ks, .int .i64 ke, .int .i64 kd] 23)).alloc (.cells #[.int .i64 bs, .int .i64 be, .int .i64 bd] 23)).alloc (.cells #[.int .i64 cs, .int .i64 ce, .int .i64 cd] 23)) ⟨w.heap.size + 1, 2, none⟩ = some (.int .i64 bd) := by simp [go_sem]
  have c0 : World.cell? (((w.alloc (.cells #[.int .i64 ks, .int .i64 ke, .int .i64 kd] 23)).alloc (.cells #[.int .i64 bs, .int .i64 be, .int .i64 bd] 23)).alloc (.cells #[.int .i64 cs, .int .i64 ce, .int .i64 cd] 23)) ⟨w.heap.size + 1 + 1, 0, none⟩ = some (.int .i64 cs) := by simp [go_sem]
  have c1 : World.cell? (((w.alloc (.cells #[.int .i64 ks, .int .i64 ke, .int .i64 kd] 23)).alloc (.cells #[.int .i64 bs, .int .i64 be, .int .i64 bd] 23)).alloc (.cells #[.int .i64 cs, .int .i64 ce, .int .i64 cd] 23)) ⟨w.heap.size + 1 + 1, 1, none⟩ = some (.int .i64 ce) := by simp [go_sem]
  have c2 : World.cell? (((w.alloc (.cells #[.int .i64 ks, .int .i64 ke, .int .i64 kd] 23)).alloc (.cells #[.int .i64 bs, .int .i64 be, .int .i64 bd] 23)).alloc (.cells #[.int .i64 cs, .int .i64 ce, .int .i64 cd] 23)) ⟨w.heap.size + 1 + 1, 2, none⟩ = some (.int .i64 cd) := by simp [go_sem]
  have gk : w.heap.size < (((w.alloc (.cells #[.int .i64 ks, .int .i64 ke, .int .i64 kd] 23)).alloc (.cells #[.int .i64 bs, .int .i64 be, .int .i64 bd] 23)).alloc (.cells #[.int .i64 cs, .int .i64 ce, .int .i64 cd] 23)).heap.size := by simp <;> omega
  have gb : w.heap.size + 1 < (((w.alloc (.cells #[.int .i64 ks, .int .i64 ke, .int .i64 kd] 23)).alloc (.cells #[.int .i64 bs, .int .i64 be, .int .i64 bd] 23)).alloc (.cells #[.int .i64 cs, .int .i64 ce, .int .i64 cd] 23)).heap.size := by simp <;> omega
  have gc : w.heap.size + 1 + 1 < (((w.alloc (.cells #[.int .i64 ks, .int .i64 ke, .int .i64 kd] 23)).alloc (.cells #[.int .i64 bs, .int .i64 be, .int .i64 bd] 23)).alloc (.cells #[.int .i64 cs, .int .i64 ce, .int .i64 cd] 23)).heap.size := by simp <;> omega
  have B := Lib.hid (show Below w.heap.size w (((w.alloc (.cells #[.int .i64 ks, .int .i64 ke, .int .i64 kd] 23)).alloc (.cells #[.int .i64 bs, .int .i64 be, .int .i64 bd] 23)).alloc (.cells #[.int .i64 cs, .int .i64 ce, .int .i64 cd] 23)) from ((((Below.refl _ _).alloc (by simp; try omega) _).alloc (by simp; try omega) _).alloc (by simp; try omega) _))
  generalize ((w.alloc (.cells #[.int .i64 ks, .int .i64 ke, .int .i64 kd] 23)).alloc (.cells #[.int .i64 bs, .int .i64 be, .int .i64 bd] 23)).alloc (.cells #[.int .i64 cs, .int .i64 ce, .int .i64 cd] 23) = V1 at *
  refine (head_any _).mono ?_
  rintro e' w2 ⟨rfl, hb⟩
  replace B := Lib.hid (on_below B.out hb)
  replace k0 := keepc hb k0
  replace k1 := keepc hb k1
  replace k2 := keepc hb k2
  replace b0 := keepc hb b0
  replace b1 := keepc hb b1
  replace b2 := keepc hb b2
  replace c0 := keepc hb c0
  replace c1 := keepc hb c1
  replace c2 := keepc hb c2
  replace gk := Nat.lt_of_lt_of_le gk hb.size
  replace gb := Nat.lt_of_lt_of_le gb hb.size
  replace gc := Nat.lt_of_lt_of_le gc hb.size
  clear hb
  go_wp2_with fail
  refine (reads_b ks ke kd x _ H1.out _).mono ?_
  rintro e' w3 ⟨rfl, hb⟩
  replace B := Lib.hid (on_below B.out hb)
  replace k0 := keepc hb k0
  replace k1 := keepc hb k1
  replace k2 := keepc hb k2
  replace b0 := keepc hb b0
  replace b1 := keepc hb b1
  replace b2 := keepc hb b2
  replace c0 := keepc hb c0
  replace c1 := keepc hb c1
  replace c2 := keepc hb c2
  replace gk := Nat.lt_of_lt_of_le gk hb.size
  replace gb := Nat.lt_of_lt_of_le gb hb.size
  replace gc := Nat.lt_of_lt_of_le gc hb.size
  clear hb
  go_wp2_with fail
  refine (reads_b bs be bd y _ H2.out _).mono ?_
  rintro e' w4 ⟨rfl, hb⟩
  replace B := Lib.hid (on_below B.out hb)
  replace k0 := keepc hb k0
  replace k1 := keepc hb k1
  replace k2 := keepc hb k2
  replace b0 := keepc hb b0
  replace b1 := keepc hb b1
  replace b2 := keepc hb b2
  replace c0 := keepc hb c0
  replace c1 := keepc hb c1
  replace c2 := keepc hb c2
  replace gk := Nat.lt_of_lt_of_le gk hb.size
  replace gb := Nat.lt_of_lt_of_le gb hb.size
  replace gc := Nat.lt_of_lt_of_le gc hb.size
  clear hb
  go_wp2_with fail
  refine (reads_b cs ce cd z _ H3.out _).mono ?_
  rintro e' w5 ⟨rfl, hb⟩
  replace B := Lib.hid (on_below B.out hb)
  replace k0 := keepc hb k0
  replace k1 := keepc hb k1
  replace k2 := keepc hb k2
  replace b0 := keepc hb b0
  replace b1 := keepc hb b1
  replace b2 := keepc hb b2
  replace c0 := keepc hb c0
  replace c1 := keepc hb c1
  replace c2 := keepc hb c2
  replace gk := Nat.lt_of_lt_of_le gk hb.size
  replace gb := Nat.lt_of_lt_of_le gb hb.size
  replace gc := Nat.lt_of_lt_of_le gc hb.size
  clear hb
  go_wp2_with fail
  refine (order_is ks ke kd x bs be bd y (-1) 0 XO1.out XO2.out _).mono ?_
  rintro e' w6 ⟨rfl, hb⟩
  replace B := Lib.hid (on_below B.out hb)
  replace k0 := keepc hb k0
  replace k1 := keepc hb k1
  replace k2 := keepc hb k2
  replace b0 := keepc hb b0
  replace b1 := keepc hb b1
  replace b2 := keepc hb b2
  replace c0 := keepc hb c0
  replace c1 := keepc hb c1
  replace c2 := keepc hb c2
  replace gk := Nat.lt_of_lt_of_le gk hb.size
  replace gb := Nat.lt_of_lt_of_le gb hb.size
  replace gc := Nat.lt_of_lt_of_le gc hb.size
  clear hb
  go_wp2_with fail
  refine (order_is bs be bd y ks ke kd x 1 0 XO3.out XO4.out _).mono ?_
  rintro e' w7 ⟨rfl, hb⟩
  replace B := Lib.hid (on_below B.out hb)
  replace k0 := keepc hb k0
  replace k1 := keepc hb k1
  replace k2 := keepc hb k2
  replace b0 := keepc hb b0
  replace b1 := keepc hb b1
  replace b2 := keepc hb b2
  replace c0 := keepc hb c0
  replace c1 := keepc hb c1
  replace c2 := keepc hb c2
  replace gk := Nat.lt_of_lt_of_le gk hb.size
  replace gb := Nat.lt_of_lt_of_le gb hb.size
  replace gc := Nat.lt_of_lt_of_le gc hb.size
  clear hb
  go_wp2_with fail
  refine (order_is bs be bd y cs ce cd z (-1) 0 XO5.out XO6.out _).mono ?_
  rintro e' w8 ⟨rfl, hb⟩
  replace B := Lib.hid (on_below B.out hb)
  replace k0 := keepc hb k0
  replace k1 := keepc hb k1
  replace k2 := keepc hb k2
  replace b0 := keepc hb b0
  replace b1 := keepc hb b1
  replace b2 := keepc hb b2
  replace c0 := keepc hb c0
  replace c1 := keepc hb c1
  replace c2 := keepc hb c2
  replace gk := Nat.lt_of_lt_of_le gk hb.size
  replace gb := Nat.lt_of_lt_of_le gb hb.size
  replace gc := Nat.lt_of_lt_of_le gc hb.size
  clear hb
  go_wp2_with fail
  refine (order_is ks ke kd x cs ce cd z (-1) 0 XO7.out XO8.out _).mono ?_
  rintro e' w9 ⟨rfl, hb⟩
  replace B := Lib.hid (on_below B.out hb)
  replace k0 := keepc hb k0
  replace k1 := keepc hb k1
  replace k2 := keepc hb k2
  replace b0 := keepc hb b0
  replace b1 := keepc hb b1
  replace b2 := keepc hb b2
  replace c0 := keepc hb c0
  replace c1 := keepc hb c1
  replace c2 := keepc hb c2
  replace gk := Nat.lt_of_lt_of_le gk hb.size
  replace gb := Nat.lt_of_lt_of_le gb hb.size
  replace gc := Nat.lt_of_lt_of_le gc hb.size
  clear hb
  go_wp2_with fail
  refine (true_is bs be bd y G V 0 XT1.out XT2.out XT3.out _).mono ?_
  rintro e' w10 ⟨rfl, hb⟩
  replace B := Lib.hid (on_below B.out hb)
  replace k0 := keepc hb k0
  replace k1 := keepc hb k1
  replace k2 := keepc hb k2
  replace b0 := keepc hb b0
  replace b1 := keepc hb b1
  replace b2 := keepc hb b2
  replace c0 := keepc hb c0
  replace c1 := keepc hb c1
  replace c2 := keepc hb c2
  replace gk := Nat.lt_of_lt_of_le gk hb.size
  replace gb := Nat.lt_of_lt_of_le gb hb.size
  replace gc := Nat.lt_of_lt_of_le gc hb.size
  clear hb
  go_wp2_with fail
  have u0 : World.cell? (w10.alloc (.cells #[.int .i64 G, .int .i64 V] 25)) ⟨w10.heap.size, 0, none⟩ = some (.int .i64 G) := by simp [go_sem]
  have u1 : World.cell? (w10.alloc (.cells #[.int .i64 G, .int .i64 V] 25)) ⟨w10.heap.size, 1, none⟩ = some (.int .i64 V) := by simp [go_sem]
  have gu : w10.heap.size < (w10.alloc (.cells #[.int .i64 G, .int .i64 V] 25)).heap.size := by simp <;> omega
  have hb : Below w10.heap.size w10 (w10.alloc (.cells #[.int .i64 G, .int .i64 V] 25)) := ((Below.refl _ _).alloc (by simp; try omega) _)
  generalize w10.alloc (.cells #[.int .i64 G, .int .i64 V] 25) = V11 at *
  replace B := Lib.hid (on_below B.out hb)
  replace k0 := keepc hb k0
  replace k1 := keepc hb k1
  replace k2 := keepc hb k2
  replace b0 := keepc hb b0
  replace b1 := keepc hb b1
  replace b2 := keepc hb b2
  replace c0 := keepc hb c0
  replace c1 := keepc hb c1
  replace c2 := keepc hb c2
  replace gk := Nat.lt_of_lt_of_le gk hb.size
  replace gb := Nat.lt_of_lt_of_le gb hb.size
  replace gc := Nat.lt_of_lt_of_le gc hb.size
  clear hb
  refine (passed_is bs be bd y G 1 0 XV1.out XT3.out _).mono ?_
  rintro e' w12 ⟨rfl, hb⟩
  replace B := Lib.hid (on_below B.out hb)
  replace k0 := keepc hb k0
  replace k1 := keepc hb k1
  replace k2 := keepc hb k2
  replace b0 := keepc hb b0
  replace b1 := keepc hb b1
  replace b2 := keepc hb b2
  replace c0 := keepc hb c0
  replace c1 := keepc hb c1
  replace c2 := keepc hb c2
  replace u0 := keepc hb u0
  replace u1 := keepc hb u1
  replace gk := Nat.lt_of_lt_of_le gk hb.size
  replace gb := Nat.lt_of_lt_of_le gb hb.size
  replace gc := Nat.lt_of_lt_of_le gc hb.size
  replace gu := Nat.lt_of_lt_of_le gu hb.size
  clear hb
  go_wp2_with fail
  refine (passed_is ks ke kd x G (-1) 0 XV2.out XT4.out _).mono ?_
  rintro e' w13 ⟨rfl, hb⟩
  replace B := Lib.hid (on_below B.out hb)
  replace k0 := keepc hb k0
  replace k1 := keepc hb k1
  replace k2 := keepc hb k2
  replace b0 := keepc hb b0
  replace b1 := keepc hb b1
  replace b2 := keepc hb b2
  replace c0 := keepc hb c0
  replace c1 := keepc hb c1
  replace c2 := keepc hb c2
  replace u0 := keepc hb u0
  replace u1 := keepc hb u1
  replace gk := Nat.lt_of_lt_of_le gk hb.size
  replace gb := Nat.lt_of_lt_of_le gb hb.size
  replace gc := Nat.lt_of_lt_of_le gc hb.size
  replace gu := Nat.lt_of_lt_of_le gu hb.size
  clear hb
  go_wp2_with fail
  all_goals go_ret
  all_goals exact ⟨rfl, B.out⟩
set_option maxRecDepth 100000 in
set_option maxHeartbeats 2000000 in
theorem nil0 (ks : Int) (iks : I64 ks) (ke : Int) (ike : I64 ke) (kd : Int) (ikd : I64 kd) (x : Int) (ix : I64 x) (bs : Int) (ibs : I64 bs) (be : Int) (ibe : I64 be) (bd : Int) (ibd : I64 bd) (y : Int) (iy : I64 y) (cs : Int) (ics : I64 cs) (ce : Int) (ice : I64 ce) (cd : Int) (icd : I64 cd) (z : Int) (iz : I64 z) (w : World) (h1 : rds ks ke kd x = true) (h2 : rds bs be bd y = true) (h3 : rds cs ce cd z = true) (r : Int) (s : Int) (he : ¬ (ks = bs ∧ ke = be ∧ kd = bd)) (o1 : oV ks ke kd x bs be bd y = 0) (o2 : oE ks ke kd x bs be bd y = 0) (o3 : oV bs be bd y ks ke kd x = 0) (o4 : oE bs be bd y ks ke kd x = 0) (o5 : oV bs be bd y cs ce cd z = r) (o6 : oE bs be bd y cs ce cd z = 0) (o7 : oV ks ke kd x cs ce cd z = s) (o8 : oE ks ke kd x cs ce cd z = 0) :
    Calls Try.prog 7 #[.agg #[.int .i64 ks, .int .i64 ke, .int .i64 kd], .int .i64 x, .agg #[.int .i64 bs, .int .i64 be, .int .i64 bd], .int .i64 y, .agg #[.int .i64 cs, .int .i64 ce, .int .i64 cd], .int .i64 z] w fun e w' => e = .returned (.bool true) ∧ Below w.heap.size w w' := by
  have H1 := Lib.hid h1
  clear h1
  have H2 := Lib.hid h2
  clear h2
  have H3 := Lib.hid h3
  clear h3
  have XO1 := Lib.hid o1
  clear o1
  have XO2 := Lib.hid o2
  clear o2
  have XO3 := Lib.hid o3
  clear o3
  have XO4 := Lib.hid o4
  clear o4
  have XO5 := Lib.hid o5
  clear o5
  have XO6 := Lib.hid o6
  clear o6
  have XO7 := Lib.hid o7
  clear o7
  have XO8 := Lib.hid o8
  clear o8
  have hq := fun w => clk_no he w
  have HE := Lib.hid he
  clear he
  go_enter Try.func7, Try.ntmps7
  go_wp2_with fail
  have k0 : World.cell? (((w.alloc (.cells #[.int .i64 ks, .int .i64 ke, .int .i64 kd] 23)).alloc (.cells #[.int .i64 bs, .int .i64 be, .int .i64 bd] 23)).alloc (.cells #[.int .i64 cs, .int .i64 ce, .int .i64 cd] 23)) ⟨w.heap.size, 0, none⟩ = some (.int .i64 ks) := by simp [go_sem]
  have k1 : World.cell? (((w.alloc (.cells #[.int .i64 ks, .int .i64 ke, .int .i64 kd] 23)).alloc (.cells #[.int .i64 bs, .int .i64 be, .int .i64 bd] 23)).alloc (.cells #[.int .i64 cs, .int .i64 ce, .int .i64 cd] 23)) ⟨w.heap.size, 1, none⟩ = some (.int .i64 ke) := by simp [go_sem]
  have k2 : World.cell? (((w.alloc (.cells #[.int .i64 ks, .int .i64 ke, .int .i64 kd] 23)).alloc (.cells #[.int .i64 bs, .int .i64 be, .int .i64 bd] 23)).alloc (.cells #[.int .i64 cs, .int .i64 ce, .int .i64 cd] 23)) ⟨w.heap.size, 2, none⟩ = some (.int .i64 kd) := by simp [go_sem]
  have b0 : World.cell? (((w.alloc (.cells #[.int .i64 ks, .int .i64 ke, .int .i64 kd] 23)).alloc (.cells #[.int .i64 bs, .int .i64 be, .int .i64 bd] 23)).alloc (.cells #[.int .i64 cs, .int .i64 ce, .int .i64 cd] 23)) ⟨w.heap.size + 1, 0, none⟩ = some (.int .i64 bs) := by simp [go_sem]
  have b1 : World.cell? (((w.alloc (.cells #[.int .i64 ks, .int .i64 ke, .int .i64 kd] 23)).alloc (.cells #[.int .i64 bs, .int .i64 be, .int .i64 bd] 23)).alloc (.cells #[.int .i64 cs, .int .i64 ce, .int .i64 cd] 23)) ⟨w.heap.size + 1, 1, none⟩ = some (.int .i64 be) := by simp [go_sem]
  have b2 : World.cell? (((w.alloc (.cells #[.int .i64 ks, .int .i64 ke, .int .i64 kd] 23)).alloc (.cells #[.int .i64 bs, .int .i64 be, .int .i64 bd] 23)).alloc (.cells #[.int .i64 cs, .int .i64 ce, .int .i64 cd] 23)) ⟨w.heap.size + 1, 2, none⟩ = some (.int .i64 bd) := by simp [go_sem]
  have c0 : World.cell? (((w.alloc (.cells #[.int .i64 ks, .int .i64 ke, .int .i64 kd] 23)).alloc (.cells #[.int .i64 bs, .int .i64 be, .int .i64 bd] 23)).alloc (.cells #[.int .i64 cs, .int .i64 ce, .int .i64 cd] 23)) ⟨w.heap.size + 1 + 1, 0, none⟩ = some (.int .i64 cs) := by simp [go_sem]
  have c1 : World.cell? (((w.alloc (.cells #[.int .i64 ks, .int .i64 ke, .int .i64 kd] 23)).alloc (.cells #[.int .i64 bs, .int .i64 be, .int .i64 bd] 23)).alloc (.cells #[.int .i64 cs, .int .i64 ce, .int .i64 cd] 23)) ⟨w.heap.size + 1 + 1, 1, none⟩ = some (.int .i64 ce) := by simp [go_sem]
  have c2 : World.cell? (((w.alloc (.cells #[.int .i64 ks, .int .i64 ke, .int .i64 kd] 23)).alloc (.cells #[.int .i64 bs, .int .i64 be, .int .i64 bd] 23)).alloc (.cells #[.int .i64 cs, .int .i64 ce, .int .i64 cd] 23)) ⟨w.heap.size + 1 + 1, 2, none⟩ = some (.int .i64 cd) := by simp [go_sem]
  have gk : w.heap.size < (((w.alloc (.cells #[.int .i64 ks, .int .i64 ke, .int .i64 kd] 23)).alloc (.cells #[.int .i64 bs, .int .i64 be, .int .i64 bd] 23)).alloc (.cells #[.int .i64 cs, .int .i64 ce, .int .i64 cd] 23)).heap.size := by simp <;> omega
  have gb : w.heap.size + 1 < (((w.alloc (.cells #[.int .i64 ks, .int .i64 ke, .int .i64 kd] 23)).alloc (.cells #[.int .i64 bs, .int .i64 be, .int .i64 bd] 23)).alloc (.cells #[.int .i64 cs, .int .i64 ce, .int .i64 cd] 23)).heap.size := by simp <;> omega
  have gc : w.heap.size + 1 + 1 < (((w.alloc (.cells #[.int .i64 ks, .int .i64 ke, .int .i64 kd] 23)).alloc (.cells #[.int .i64 bs, .int .i64 be, .int .i64 bd] 23)).alloc (.cells #[.int .i64 cs, .int .i64 ce, .int .i64 cd] 23)).heap.size := by simp <;> omega
  have B := Lib.hid (show Below w.heap.size w (((w.alloc (.cells #[.int .i64 ks, .int .i64 ke, .int .i64 kd] 23)).alloc (.cells #[.int .i64 bs, .int .i64 be, .int .i64 bd] 23)).alloc (.cells #[.int .i64 cs, .int .i64 ce, .int .i64 cd] 23)) from ((((Below.refl _ _).alloc (by simp; try omega) _).alloc (by simp; try omega) _).alloc (by simp; try omega) _))
  generalize ((w.alloc (.cells #[.int .i64 ks, .int .i64 ke, .int .i64 kd] 23)).alloc (.cells #[.int .i64 bs, .int .i64 be, .int .i64 bd] 23)).alloc (.cells #[.int .i64 cs, .int .i64 ce, .int .i64 cd] 23) = V1 at *
  refine (head_any _).mono ?_
  rintro e' w2 ⟨rfl, hb⟩
  replace B := Lib.hid (on_below B.out hb)
  replace k0 := keepc hb k0
  replace k1 := keepc hb k1
  replace k2 := keepc hb k2
  replace b0 := keepc hb b0
  replace b1 := keepc hb b1
  replace b2 := keepc hb b2
  replace c0 := keepc hb c0
  replace c1 := keepc hb c1
  replace c2 := keepc hb c2
  replace gk := Nat.lt_of_lt_of_le gk hb.size
  replace gb := Nat.lt_of_lt_of_le gb hb.size
  replace gc := Nat.lt_of_lt_of_le gc hb.size
  clear hb
  go_wp2_with fail
  refine (reads_b ks ke kd x _ H1.out _).mono ?_
  rintro e' w3 ⟨rfl, hb⟩
  replace B := Lib.hid (on_below B.out hb)
  replace k0 := keepc hb k0
  replace k1 := keepc hb k1
  replace k2 := keepc hb k2
  replace b0 := keepc hb b0
  replace b1 := keepc hb b1
  replace b2 := keepc hb b2
  replace c0 := keepc hb c0
  replace c1 := keepc hb c1
  replace c2 := keepc hb c2
  replace gk := Nat.lt_of_lt_of_le gk hb.size
  replace gb := Nat.lt_of_lt_of_le gb hb.size
  replace gc := Nat.lt_of_lt_of_le gc hb.size
  clear hb
  go_wp2_with fail
  refine (reads_b bs be bd y _ H2.out _).mono ?_
  rintro e' w4 ⟨rfl, hb⟩
  replace B := Lib.hid (on_below B.out hb)
  replace k0 := keepc hb k0
  replace k1 := keepc hb k1
  replace k2 := keepc hb k2
  replace b0 := keepc hb b0
  replace b1 := keepc hb b1
  replace b2 := keepc hb b2
  replace c0 := keepc hb c0
  replace c1 := keepc hb c1
  replace c2 := keepc hb c2
  replace gk := Nat.lt_of_lt_of_le gk hb.size
  replace gb := Nat.lt_of_lt_of_le gb hb.size
  replace gc := Nat.lt_of_lt_of_le gc hb.size
  clear hb
  go_wp2_with fail
  refine (reads_b cs ce cd z _ H3.out _).mono ?_
  rintro e' w5 ⟨rfl, hb⟩
  replace B := Lib.hid (on_below B.out hb)
  replace k0 := keepc hb k0
  replace k1 := keepc hb k1
  replace k2 := keepc hb k2
  replace b0 := keepc hb b0
  replace b1 := keepc hb b1
  replace b2 := keepc hb b2
  replace c0 := keepc hb c0
  replace c1 := keepc hb c1
  replace c2 := keepc hb c2
  replace gk := Nat.lt_of_lt_of_le gk hb.size
  replace gb := Nat.lt_of_lt_of_le gb hb.size
  replace gc := Nat.lt_of_lt_of_le gc hb.size
  clear hb
  go_wp2_with fail
  refine (order_is ks ke kd x bs be bd y 0 0 XO1.out XO2.out _).mono ?_
  rintro e' w6 ⟨rfl, hb⟩
  replace B := Lib.hid (on_below B.out hb)
  replace k0 := keepc hb k0
  replace k1 := keepc hb k1
  replace k2 := keepc hb k2
  replace b0 := keepc hb b0
  replace b1 := keepc hb b1
  replace b2 := keepc hb b2
  replace c0 := keepc hb c0
  replace c1 := keepc hb c1
  replace c2 := keepc hb c2
  replace gk := Nat.lt_of_lt_of_le gk hb.size
  replace gb := Nat.lt_of_lt_of_le gb hb.size
  replace gc := Nat.lt_of_lt_of_le gc hb.size
  clear hb
  go_wp2_with fail
  refine (order_is bs be bd y ks ke kd x 0 0 XO3.out XO4.out _).mono ?_
  rintro e' w7 ⟨rfl, hb⟩
  replace B := Lib.hid (on_below B.out hb)
  replace k0 := keepc hb k0
  replace k1 := keepc hb k1
  replace k2 := keepc hb k2
  replace b0 := keepc hb b0
  replace b1 := keepc hb b1
  replace b2 := keepc hb b2
  replace c0 := keepc hb c0
  replace c1 := keepc hb c1
  replace c2 := keepc hb c2
  replace gk := Nat.lt_of_lt_of_le gk hb.size
  replace gb := Nat.lt_of_lt_of_le gb hb.size
  replace gc := Nat.lt_of_lt_of_le gc hb.size
  clear hb
  go_wp2_with fail
  refine (order_is bs be bd y cs ce cd z r 0 XO5.out XO6.out _).mono ?_
  rintro e' w8 ⟨rfl, hb⟩
  replace B := Lib.hid (on_below B.out hb)
  replace k0 := keepc hb k0
  replace k1 := keepc hb k1
  replace k2 := keepc hb k2
  replace b0 := keepc hb b0
  replace b1 := keepc hb b1
  replace b2 := keepc hb b2
  replace c0 := keepc hb c0
  replace c1 := keepc hb c1
  replace c2 := keepc hb c2
  replace gk := Nat.lt_of_lt_of_le gk hb.size
  replace gb := Nat.lt_of_lt_of_le gb hb.size
  replace gc := Nat.lt_of_lt_of_le gc hb.size
  clear hb
  go_wp2_with fail
  refine (order_is ks ke kd x cs ce cd z s 0 XO7.out XO8.out _).mono ?_
  rintro e' w9 ⟨rfl, hb⟩
  replace B := Lib.hid (on_below B.out hb)
  replace k0 := keepc hb k0
  replace k1 := keepc hb k1
  replace k2 := keepc hb k2
  replace b0 := keepc hb b0
  replace b1 := keepc hb b1
  replace b2 := keepc hb b2
  replace c0 := keepc hb c0
  replace c1 := keepc hb c1
  replace c2 := keepc hb c2
  replace gk := Nat.lt_of_lt_of_le gk hb.size
  replace gb := Nat.lt_of_lt_of_le gb hb.size
  replace gc := Nat.lt_of_lt_of_le gc hb.size
  clear hb
  go_wp2_with fail
  all_goals go_ret
  all_goals exact ⟨rfl, B.out⟩
set_option maxRecDepth 100000 in
set_option maxHeartbeats 2000000 in
theorem one0 (ks : Int) (iks : I64 ks) (ke : Int) (ike : I64 ke) (kd : Int) (ikd : I64 kd) (x : Int) (ix : I64 x) (bs : Int) (ibs : I64 bs) (be : Int) (ibe : I64 be) (bd : Int) (ibd : I64 bd) (y : Int) (iy : I64 y) (cs : Int) (ics : I64 cs) (ce : Int) (ice : I64 ce) (cd : Int) (icd : I64 cd) (z : Int) (iz : I64 z) (w : World) (h1 : rds ks ke kd x = true) (h2 : rds bs be bd y = true) (h3 : rds cs ce cd z = true) (r : Int) (s : Int) (he : ¬ (ks = bs ∧ ke = be ∧ kd = bd)) (o1 : oV ks ke kd x bs be bd y = 1) (o2 : oE ks ke kd x bs be bd y = 0) (o3 : oV bs be bd y ks ke kd x = (-1)) (o4 : oE bs be bd y ks ke kd x = 0) (o5 : oV bs be bd y cs ce cd z = r) (o6 : oE bs be bd y cs ce cd z = 0) (o7 : oV ks ke kd x cs ce cd z = s) (o8 : oE ks ke kd x cs ce cd z = 0) :
    Calls Try.prog 7 #[.agg #[.int .i64 ks, .int .i64 ke, .int .i64 kd], .int .i64 x, .agg #[.int .i64 bs, .int .i64 be, .int .i64 bd], .int .i64 y, .agg #[.int .i64 cs, .int .i64 ce, .int .i64 cd], .int .i64 z] w fun e w' => e = .returned (.bool true) ∧ Below w.heap.size w w' := by
  have H1 := Lib.hid h1
  clear h1
  have H2 := Lib.hid h2
  clear h2
  have H3 := Lib.hid h3
  clear h3
  have XO1 := Lib.hid o1
  clear o1
  have XO2 := Lib.hid o2
  clear o2
  have XO3 := Lib.hid o3
  clear o3
  have XO4 := Lib.hid o4
  clear o4
  have XO5 := Lib.hid o5
  clear o5
  have XO6 := Lib.hid o6
  clear o6
  have XO7 := Lib.hid o7
  clear o7
  have XO8 := Lib.hid o8
  clear o8
  have hq := fun w => clk_no he w
  have HE := Lib.hid he
  clear he
  go_enter Try.func7, Try.ntmps7
  go_wp2_with fail
  have k0 : World.cell? (((w.alloc (.cells #[.int .i64 ks, .int .i64 ke, .int .i64 kd] 23)).alloc (.cells #[.int .i64 bs, .int .i64 be, .int .i64 bd] 23)).alloc (.cells #[.int .i64 cs, .int .i64 ce, .int .i64 cd] 23)) ⟨w.heap.size, 0, none⟩ = some (.int .i64 ks) := by simp [go_sem]
  have k1 : World.cell? (((w.alloc (.cells #[.int .i64 ks, .int .i64 ke, .int .i64 kd] 23)).alloc (.cells #[.int .i64 bs, .int .i64 be, .int .i64 bd] 23)).alloc (.cells #[.int .i64 cs, .int .i64 ce, .int .i64 cd] 23)) ⟨w.heap.size, 1, none⟩ = some (.int .i64 ke) := by simp [go_sem]
  have k2 : World.cell? (((w.alloc (.cells #[.int .i64 ks, .int .i64 ke, .int .i64 kd] 23)).alloc (.cells #[.int .i64 bs, .int .i64 be, .int .i64 bd] 23)).alloc (.cells #[.int .i64 cs, .int .i64 ce, .int .i64 cd] 23)) ⟨w.heap.size, 2, none⟩ = some (.int .i64 kd) := by simp [go_sem]
  have b0 : World.cell? (((w.alloc (.cells #[.int .i64 ks, .int .i64 ke, .int .i64 kd] 23)).alloc (.cells #[.int .i64 bs, .int .i64 be, .int .i64 bd] 23)).alloc (.cells #[.int .i64 cs, .int .i64 ce, .int .i64 cd] 23)) ⟨w.heap.size + 1, 0, none⟩ = some (.int .i64 bs) := by simp [go_sem]
  have b1 : World.cell? (((w.alloc (.cells #[.int .i64 ks, .int .i64 ke, .int .i64 kd] 23)).alloc (.cells #[.int .i64 bs, .int .i64 be, .int .i64 bd] 23)).alloc (.cells #[.int .i64 cs, .int .i64 ce, .int .i64 cd] 23)) ⟨w.heap.size + 1, 1, none⟩ = some (.int .i64 be) := by simp [go_sem]
  have b2 : World.cell? (((w.alloc (.cells #[.int .i64 ks, .int .i64 ke, .int .i64 kd] 23)).alloc (.cells #[.int .i64 bs, .int .i64 be, .int .i64 bd] 23)).alloc (.cells #[.int .i64 cs, .int .i64 ce, .int .i64 cd] 23)) ⟨w.heap.size + 1, 2, none⟩ = some (.int .i64 bd) := by simp [go_sem]
  have c0 : World.cell? (((w.alloc (.cells #[.int .i64 ks, .int .i64 ke, .int .i64 kd] 23)).alloc (.cells #[.int .i64 bs, .int .i64 be, .int .i64 bd] 23)).alloc (.cells #[.int .i64 cs, .int .i64 ce, .int .i64 cd] 23)) ⟨w.heap.size + 1 + 1, 0, none⟩ = some (.int .i64 cs) := by simp [go_sem]
  have c1 : World.cell? (((w.alloc (.cells #[.int .i64 ks, .int .i64 ke, .int .i64 kd] 23)).alloc (.cells #[.int .i64 bs, .int .i64 be, .int .i64 bd] 23)).alloc (.cells #[.int .i64 cs, .int .i64 ce, .int .i64 cd] 23)) ⟨w.heap.size + 1 + 1, 1, none⟩ = some (.int .i64 ce) := by simp [go_sem]
  have c2 : World.cell? (((w.alloc (.cells #[.int .i64 ks, .int .i64 ke, .int .i64 kd] 23)).alloc (.cells #[.int .i64 bs, .int .i64 be, .int .i64 bd] 23)).alloc (.cells #[.int .i64 cs, .int .i64 ce, .int .i64 cd] 23)) ⟨w.heap.size + 1 + 1, 2, none⟩ = some (.int .i64 cd) := by simp [go_sem]
  have gk : w.heap.size < (((w.alloc (.cells #[.int .i64 ks, .int .i64 ke, .int .i64 kd] 23)).alloc (.cells #[.int .i64 bs, .int .i64 be, .int .i64 bd] 23)).alloc (.cells #[.int .i64 cs, .int .i64 ce, .int .i64 cd] 23)).heap.size := by simp <;> omega
  have gb : w.heap.size + 1 < (((w.alloc (.cells #[.int .i64 ks, .int .i64 ke, .int .i64 kd] 23)).alloc (.cells #[.int .i64 bs, .int .i64 be, .int .i64 bd] 23)).alloc (.cells #[.int .i64 cs, .int .i64 ce, .int .i64 cd] 23)).heap.size := by simp <;> omega
  have gc : w.heap.size + 1 + 1 < (((w.alloc (.cells #[.int .i64 ks, .int .i64 ke, .int .i64 kd] 23)).alloc (.cells #[.int .i64 bs, .int .i64 be, .int .i64 bd] 23)).alloc (.cells #[.int .i64 cs, .int .i64 ce, .int .i64 cd] 23)).heap.size := by simp <;> omega
  have B := Lib.hid (show Below w.heap.size w (((w.alloc (.cells #[.int .i64 ks, .int .i64 ke, .int .i64 kd] 23)).alloc (.cells #[.int .i64 bs, .int .i64 be, .int .i64 bd] 23)).alloc (.cells #[.int .i64 cs, .int .i64 ce, .int .i64 cd] 23)) from ((((Below.refl _ _).alloc (by simp; try omega) _).alloc (by simp; try omega) _).alloc (by simp; try omega) _))
  generalize ((w.alloc (.cells #[.int .i64 ks, .int .i64 ke, .int .i64 kd] 23)).alloc (.cells #[.int .i64 bs, .int .i64 be, .int .i64 bd] 23)).alloc (.cells #[.int .i64 cs, .int .i64 ce, .int .i64 cd] 23) = V1 at *
  refine (head_any _).mono ?_
  rintro e' w2 ⟨rfl, hb⟩
  replace B := Lib.hid (on_below B.out hb)
  replace k0 := keepc hb k0
  replace k1 := keepc hb k1
  replace k2 := keepc hb k2
  replace b0 := keepc hb b0
  replace b1 := keepc hb b1
  replace b2 := keepc hb b2
  replace c0 := keepc hb c0
  replace c1 := keepc hb c1
  replace c2 := keepc hb c2
  replace gk := Nat.lt_of_lt_of_le gk hb.size
  replace gb := Nat.lt_of_lt_of_le gb hb.size
  replace gc := Nat.lt_of_lt_of_le gc hb.size
  clear hb
  go_wp2_with fail
  refine (reads_b ks ke kd x _ H1.out _).mono ?_
  rintro e' w3 ⟨rfl, hb⟩
  replace B := Lib.hid (on_below B.out hb)
  replace k0 := keepc hb k0
  replace k1 := keepc hb k1
  replace k2 := keepc hb k2
  replace b0 := keepc hb b0
  replace b1 := keepc hb b1
  replace b2 := keepc hb b2
  replace c0 := keepc hb c0
  replace c1 := keepc hb c1
  replace c2 := keepc hb c2
  replace gk := Nat.lt_of_lt_of_le gk hb.size
  replace gb := Nat.lt_of_lt_of_le gb hb.size
  replace gc := Nat.lt_of_lt_of_le gc hb.size
  clear hb
  go_wp2_with fail
  refine (reads_b bs be bd y _ H2.out _).mono ?_
  rintro e' w4 ⟨rfl, hb⟩
  replace B := Lib.hid (on_below B.out hb)
  replace k0 := keepc hb k0
  replace k1 := keepc hb k1
  replace k2 := keepc hb k2
  replace b0 := keepc hb b0
  replace b1 := keepc hb b1
  replace b2 := keepc hb b2
  replace c0 := keepc hb c0
  replace c1 := keepc hb c1
  replace c2 := keepc hb c2
  replace gk := Nat.lt_of_lt_of_le gk hb.size
  replace gb := Nat.lt_of_lt_of_le gb hb.size
  replace gc := Nat.lt_of_lt_of_le gc hb.size
  clear hb
  go_wp2_with fail
  refine (reads_b cs ce cd z _ H3.out _).mono ?_
  rintro e' w5 ⟨rfl, hb⟩
  replace B := Lib.hid (on_below B.out hb)
  replace k0 := keepc hb k0
  replace k1 := keepc hb k1
  replace k2 := keepc hb k2
  replace b0 := keepc hb b0
  replace b1 := keepc hb b1
  replace b2 := keepc hb b2
  replace c0 := keepc hb c0
  replace c1 := keepc hb c1
  replace c2 := keepc hb c2
  replace gk := Nat.lt_of_lt_of_le gk hb.size
  replace gb := Nat.lt_of_lt_of_le gb hb.size
  replace gc := Nat.lt_of_lt_of_le gc hb.size
  clear hb
  go_wp2_with fail
  refine (order_is ks ke kd x bs be bd y 1 0 XO1.out XO2.out _).mono ?_
  rintro e' w6 ⟨rfl, hb⟩
  replace B := Lib.hid (on_below B.out hb)
  replace k0 := keepc hb k0
  replace k1 := keepc hb k1
  replace k2 := keepc hb k2
  replace b0 := keepc hb b0
  replace b1 := keepc hb b1
  replace b2 := keepc hb b2
  replace c0 := keepc hb c0
  replace c1 := keepc hb c1
  replace c2 := keepc hb c2
  replace gk := Nat.lt_of_lt_of_le gk hb.size
  replace gb := Nat.lt_of_lt_of_le gb hb.size
  replace gc := Nat.lt_of_lt_of_le gc hb.size
  clear hb
  go_wp2_with fail
  refine (order_is bs be bd y ks ke kd x (-1) 0 XO3.out XO4.out _).mono ?_
  rintro e' w7 ⟨rfl, hb⟩
  replace B := Lib.hid (on_below B.out hb)
  replace k0 := keepc hb k0
  replace k1 := keepc hb k1
  replace k2 := keepc hb k2
  replace b0 := keepc hb b0
  replace b1 := keepc hb b1
  replace b2 := keepc hb b2
  replace c0 := keepc hb c0
  replace c1 := keepc hb c1
  replace c2 := keepc hb c2
  replace gk := Nat.lt_of_lt_of_le gk hb.size
  replace gb := Nat.lt_of_lt_of_le gb hb.size
  replace gc := Nat.lt_of_lt_of_le gc hb.size
  clear hb
  go_wp2_with fail
  refine (order_is bs be bd y cs ce cd z r 0 XO5.out XO6.out _).mono ?_
  rintro e' w8 ⟨rfl, hb⟩
  replace B := Lib.hid (on_below B.out hb)
  replace k0 := keepc hb k0
  replace k1 := keepc hb k1
  replace k2 := keepc hb k2
  replace b0 := keepc hb b0
  replace b1 := keepc hb b1
  replace b2 := keepc hb b2
  replace c0 := keepc hb c0
  replace c1 := keepc hb c1
  replace c2 := keepc hb c2
  replace gk := Nat.lt_of_lt_of_le gk hb.size
  replace gb := Nat.lt_of_lt_of_le gb hb.size
  replace gc := Nat.lt_of_lt_of_le gc hb.size
  clear hb
  go_wp2_with fail
  refine (order_is ks ke kd x cs ce cd z s 0 XO7.out XO8.out _).mono ?_
  rintro e' w9 ⟨rfl, hb⟩
  replace B := Lib.hid (on_below B.out hb)
  replace k0 := keepc hb k0
  replace k1 := keepc hb k1
  replace k2 := keepc hb k2
  replace b0 := keepc hb b0
  replace b1 := keepc hb b1
  replace b2 := keepc hb b2
  replace c0 := keepc hb c0
  replace c1 := keepc hb c1
  replace c2 := keepc hb c2
  replace gk := Nat.lt_of_lt_of_le gk hb.size
  replace gb := Nat.lt_of_lt_of_le gb hb.size
  replace gc := Nat.lt_of_lt_of_le gc hb.size
  clear hb
  go_wp2_with fail
  all_goals go_ret
  all_goals exact ⟨rfl, B.out⟩
set_option maxRecDepth 100000 in
set_option maxHeartbeats 2000000 in
theorem neg0 (ks : Int) (iks : I64 ks) (ke : Int) (ike : I64 ke) (kd : Int) (ikd : I64 kd) (x : Int) (ix : I64 x) (bs : Int) (ibs : I64 bs) (be : Int) (ibe : I64 be) (bd : Int) (ibd : I64 bd) (y : Int) (iy : I64 y) (cs : Int) (ics : I64 cs) (ce : Int) (ice : I64 ce) (cd : Int) (icd : I64 cd) (z : Int) (iz : I64 z) (w : World) (h1 : rds ks ke kd x = true) (h2 : rds bs be bd y = true) (h3 : rds cs ce cd z = true) (r : Int) (s : Int) (hr : ¬ r = -1) (he : ¬ (ks = bs ∧ ke = be ∧ kd = bd)) (o1 : oV ks ke kd x bs be bd y = (-1)) (o2 : oE ks ke kd x bs be bd y = 0) (o3 : oV bs be bd y ks ke kd x = 1) (o4 : oE bs be bd y ks ke kd x = 0) (o5 : oV bs be bd y cs ce cd z = r) (o6 : oE bs be bd y cs ce cd z = 0) (o7 : oV ks ke kd x cs ce cd z = s) (o8 : oE ks ke kd x cs ce cd z = 0) (G V : Int) (t1 : tF bs be bd y = G) (t2 : tU bs be bd y = V) (t3 : tE bs be bd y = 0) (t4 : tE ks ke kd x = 0) (v1 : pV bs be bd y G = 1) (v2 : pV ks ke kd x G = -1) :
    Calls Try.prog 7 #[.agg #[.int .i64 ks, .int .i64 ke, .int .i64 kd], .int .i64 x, .agg #[.int .i64 bs, .int .i64 be, .int .i64 bd], .int .i64 y, .agg #[.int .i64 cs, .int .i64 ce, .int .i64 cd], .int .i64 z] w fun e w' => e = .returned (.bool true) ∧ Below w.heap.size w w' := by
  have H1 := Lib.hid h1
  clear h1
  have H2 := Lib.hid h2
  clear h2
  have H3 := Lib.hid h3
  clear h3
  have XO1 := Lib.hid o1
  clear o1
  have XO2 := Lib.hid o2
  clear o2
  have XO3 := Lib.hid o3
  clear o3
  have XO4 := Lib.hid o4
  clear o4
  have XO5 := Lib.hid o5
  clear o5
  have XO6 := Lib.hid o6
  clear o6
  have XO7 := Lib.hid o7
  clear o7
  have XO8 := Lib.hid o8
  clear o8
  have XT1 := Lib.hid t1
  clear t1
  have XT2 := Lib.hid t2
  clear t2
  have XT3 := Lib.hid t3
  clear t3
  have XT4 := Lib.hid t4
  clear t4
  have XV1 := Lib.hid v1
  clear v1
  have XV2 := Lib.hid v2
  clear v2
  have hq := fun w => clk_no he w
  have HE := Lib.hid he
  clear he
  go_enter Try.func7, Try.ntmps7
  go_wp2_with fail
  have k0 : World.cell? (((w.alloc (.cells #[.int .i64 ks, .int .i64 ke, .int .i64 kd] 23)).alloc (.cells #[.int .i64 bs, .int .i64 be, .int .i64 bd] 23)).alloc (.cells #[.int .i64 cs, .int .i64 ce, .int .i64 cd] 23)) ⟨w.heap.size, 0, none⟩ = some (.int .i64 ks) := by simp [go_sem]
  have k1 : World.cell? (((w.alloc (.cells #[.int .i64 ks, .int .i64 ke, .int .i64 kd] 23)).alloc (.cells #[.int .i64 bs, .int .i64 be, .int .i64 bd] 23)).alloc (.cells #[.int .i64 cs, .int .i64 ce, .int .i64 cd] 23)) ⟨w.heap.size, 1, none⟩ = some (.int .i64 ke) := by simp [go_sem]
  have k2 : World.cell? (((w.alloc (.cells #[.int .i64 ks, .int .i64 ke, .int .i64 kd] 23)).alloc (.cells #[.int .i64 bs, .int .i64 be, .int .i64 bd] 23)).alloc (.cells #[.int .i64 cs, .int .i64 ce, .int .i64 cd] 23)) ⟨w.heap.size, 2, none⟩ = some (.int .i64 kd) := by simp [go_sem]
  have b0 : World.cell? (((w.alloc (.cells #[.int .i64 ks, .int .i64 ke, .int .i64 kd] 23)).alloc (.cells #[.int .i64 bs, .int .i64 be, .int .i64 bd] 23)).alloc (.cells #[.int .i64 cs, .int .i64 ce, .int .i64 cd] 23)) ⟨w.heap.size + 1, 0, none⟩ = some (.int .i64 bs) := by simp [go_sem]
  have b1 : World.cell? (((w.alloc (.cells #[.int .i64 ks, .int .i64 ke, .int .i64 kd] 23)).alloc (.cells #[.int .i64 bs, .int .i64 be, .int .i64 bd] 23)).alloc (.cells #[.int .i64 cs, .int .i64 ce, .int .i64 cd] 23)) ⟨w.heap.size + 1, 1, none⟩ = some (.int .i64 be) := by simp [go_sem]
  have b2 : World.cell? (((w.alloc (.cells #[.int .i64 ks, .int .i64 ke, .int .i64 kd] 23)).alloc (.cells #[.int .i64 bs, .int .i64 be, .int .i64 bd] 23)).alloc (.cells #[.int .i64 cs, .int .i64 ce, .int .i64 cd] 23)) ⟨w.heap.size + 1, 2, none⟩ = some (.int .i64 bd) := by simp [go_sem]
  have c0 : World.cell? (((w.alloc (.cells #[.int .i64 ks, .int .i64 ke, .int .i64 kd] 23)).alloc (.cells #[.int .i64 bs, .int .i64 be, .int .i64 bd] 23)).alloc (.cells #[.int .i64 cs, .int .i64 ce, .int .i64 cd] 23)) ⟨w.heap.size + 1 + 1, 0, none⟩ = some (.int .i64 cs) := by simp [go_sem]
  have c1 : World.cell? (((w.alloc (.cells #[.int .i64 ks, .int .i64 ke, .int .i64 kd] 23)).alloc (.cells #[.int .i64 bs, .int .i64 be, .int .i64 bd] 23)).alloc (.cells #[.int .i64 cs, .int .i64 ce, .int .i64 cd] 23)) ⟨w.heap.size + 1 + 1, 1, none⟩ = some (.int .i64 ce) := by simp [go_sem]
  have c2 : World.cell? (((w.alloc (.cells #[.int .i64 ks, .int .i64 ke, .int .i64 kd] 23)).alloc (.cells #[.int .i64 bs, .int .i64 be, .int .i64 bd] 23)).alloc (.cells #[.int .i64 cs, .int .i64 ce, .int .i64 cd] 23)) ⟨w.heap.size + 1 + 1, 2, none⟩ = some (.int .i64 cd) := by simp [go_sem]
  have gk : w.heap.size < (((w.alloc (.cells #[.int .i64 ks, .int .i64 ke, .int .i64 kd] 23)).alloc (.cells #[.int .i64 bs, .int .i64 be, .int .i64 bd] 23)).alloc (.cells #[.int .i64 cs, .int .i64 ce, .int .i64 cd] 23)).heap.size := by simp <;> omega
  have gb : w.heap.size + 1 < (((w.alloc (.cells #[.int .i64 ks, .int .i64 ke, .int .i64 kd] 23)).alloc (.cells #[.int .i64 bs, .int .i64 be, .int .i64 bd] 23)).alloc (.cells #[.int .i64 cs, .int .i64 ce, .int .i64 cd] 23)).heap.size := by simp <;> omega
  have gc : w.heap.size + 1 + 1 < (((w.alloc (.cells #[.int .i64 ks, .int .i64 ke, .int .i64 kd] 23)).alloc (.cells #[.int .i64 bs, .int .i64 be, .int .i64 bd] 23)).alloc (.cells #[.int .i64 cs, .int .i64 ce, .int .i64 cd] 23)).heap.size := by simp <;> omega
  have B := Lib.hid (show Below w.heap.size w (((w.alloc (.cells #[.int .i64 ks, .int .i64 ke, .int .i64 kd] 23)).alloc (.cells #[.int .i64 bs, .int .i64 be, .int .i64 bd] 23)).alloc (.cells #[.int .i64 cs, .int .i64 ce, .int .i64 cd] 23)) from ((((Below.refl _ _).alloc (by simp; try omega) _).alloc (by simp; try omega) _).alloc (by simp; try omega) _))
  generalize ((w.alloc (.cells #[.int .i64 ks, .int .i64 ke, .int .i64 kd] 23)).alloc (.cells #[.int .i64 bs, .int .i64 be, .int .i64 bd] 23)).alloc (.cells #[.int .i64 cs, .int .i64 ce, .int .i64 cd] 23) = V1 at *
  refine (head_any _).mono ?_
  rintro e' w2 ⟨rfl, hb⟩
  replace B := Lib.hid (on_below B.out hb)
  replace k0 := keepc hb k0
  replace k1 := keepc hb k1
  replace k2 := keepc hb k2
  replace b0 := keepc hb b0
  replace b1 := keepc hb b1
  replace b2 := keepc hb b2
  replace c0 := keepc hb c0
  replace c1 := keepc hb c1
  replace c2 := keepc hb c2
  replace gk := Nat.lt_of_lt_of_le gk hb.size
  replace gb := Nat.lt_of_lt_of_le gb hb.size
  replace gc := Nat.lt_of_lt_of_le gc hb.size
  clear hb
  go_wp2_with fail
  refine (reads_b ks ke kd x _ H1.out _).mono ?_
  rintro e' w3 ⟨rfl, hb⟩
  replace B := Lib.hid (on_below B.out hb)
  replace k0 := keepc hb k0
  replace k1 := keepc hb k1
  replace k2 := keepc hb k2
  replace b0 := keepc hb b0
  replace b1 := keepc hb b1
  replace b2 := keepc hb b2
  replace c0 := keepc hb c0
  replace c1 := keepc hb c1
  replace c2 := keepc hb c2
  replace gk := Nat.lt_of_lt_of_le gk hb.size
  replace gb := Nat.lt_of_lt_of_le gb hb.size
  replace gc := Nat.lt_of_lt_of_le gc hb.size
  clear hb
  go_wp2_with fail
  refine (reads_b bs be bd y _ H2.out _).mono ?_
  rintro e' w4 ⟨rfl, hb⟩
  replace B := Lib.hid (on_below B.out hb)
  replace k0 := keepc hb k0
  replace k1 := keepc hb k1
  replace k2 := keepc hb k2
  replace b0 := keepc hb b0
  replace b1 := keepc hb b1
  replace b2 := keepc hb b2
  replace c0 := keepc hb c0
  replace c1 := keepc hb c1
  replace c2 := keepc hb c2
  replace gk := Nat.lt_of_lt_of_le gk hb.size
  replace gb := Nat.lt_of_lt_of_le gb hb.size
  replace gc := Nat.lt_of_lt_of_le gc hb.size
  clear hb
  go_wp2_with fail
  refine (reads_b cs ce cd z _ H3.out _).mono ?_
  rintro e' w5 ⟨rfl, hb⟩
  replace B := Lib.hid (on_below B.out hb)
  replace k0 := keepc hb k0
  replace k1 := keepc hb k1
  replace k2 := keepc hb k2
  replace b0 := keepc hb b0
  replace b1 := keepc hb b1
  replace b2 := keepc hb b2
  replace c0 := keepc hb c0
  replace c1 := keepc hb c1
  replace c2 := keepc hb c2
  replace gk := Nat.lt_of_lt_of_le gk hb.size
  replace gb := Nat.lt_of_lt_of_le gb hb.size
  replace gc := Nat.lt_of_lt_of_le gc hb.size
  clear hb
  go_wp2_with fail
  refine (order_is ks ke kd x bs be bd y (-1) 0 XO1.out XO2.out _).mono ?_
  rintro e' w6 ⟨rfl, hb⟩
  replace B := Lib.hid (on_below B.out hb)
  replace k0 := keepc hb k0
  replace k1 := keepc hb k1
  replace k2 := keepc hb k2
  replace b0 := keepc hb b0
  replace b1 := keepc hb b1
  replace b2 := keepc hb b2
  replace c0 := keepc hb c0
  replace c1 := keepc hb c1
  replace c2 := keepc hb c2
  replace gk := Nat.lt_of_lt_of_le gk hb.size
  replace gb := Nat.lt_of_lt_of_le gb hb.size
  replace gc := Nat.lt_of_lt_of_le gc hb.size
  clear hb
  go_wp2_with fail
  refine (order_is bs be bd y ks ke kd x 1 0 XO3.out XO4.out _).mono ?_
  rintro e' w7 ⟨rfl, hb⟩
  replace B := Lib.hid (on_below B.out hb)
  replace k0 := keepc hb k0
  replace k1 := keepc hb k1
  replace k2 := keepc hb k2
  replace b0 := keepc hb b0
  replace b1 := keepc hb b1
  replace b2 := keepc hb b2
  replace c0 := keepc hb c0
  replace c1 := keepc hb c1
  replace c2 := keepc hb c2
  replace gk := Nat.lt_of_lt_of_le gk hb.size
  replace gb := Nat.lt_of_lt_of_le gb hb.size
  replace gc := Nat.lt_of_lt_of_le gc hb.size
  clear hb
  go_wp2_with fail
  refine (order_is bs be bd y cs ce cd z r 0 XO5.out XO6.out _).mono ?_
  rintro e' w8 ⟨rfl, hb⟩
  replace B := Lib.hid (on_below B.out hb)
  replace k0 := keepc hb k0
  replace k1 := keepc hb k1
  replace k2 := keepc hb k2
  replace b0 := keepc hb b0
  replace b1 := keepc hb b1
  replace b2 := keepc hb b2
  replace c0 := keepc hb c0
  replace c1 := keepc hb c1
  replace c2 := keepc hb c2
  replace gk := Nat.lt_of_lt_of_le gk hb.size
  replace gb := Nat.lt_of_lt_of_le gb hb.size
  replace gc := Nat.lt_of_lt_of_le gc hb.size
  clear hb
  go_wp2_with fail
  refine (order_is ks ke kd x cs ce cd z s 0 XO7.out XO8.out _).mono ?_
  rintro e' w9 ⟨rfl, hb⟩
  replace B := Lib.hid (on_below B.out hb)
  replace k0 := keepc hb k0
  replace k1 := keepc hb k1
  replace k2 := keepc hb k2
  replace b0 := keepc hb b0
  replace b1 := keepc hb b1
  replace b2 := keepc hb b2
  replace c0 := keepc hb c0
  replace c1 := keepc hb c1
  replace c2 := keepc hb c2
  replace gk := Nat.lt_of_lt_of_le gk hb.size
  replace gb := Nat.lt_of_lt_of_le gb hb.size
  replace gc := Nat.lt_of_lt_of_le gc hb.size
  clear hb
  go_wp2_with fail
  refine (true_is bs be bd y G V 0 XT1.out XT2.out XT3.out _).mono ?_
  rintro e' w10 ⟨rfl, hb⟩
  replace B := Lib.hid (on_below B.out hb)
  replace k0 := keepc hb k0
  replace k1 := keepc hb k1
  replace k2 := keepc hb k2
  replace b0 := keepc hb b0
  replace b1 := keepc hb b1
  replace b2 := keepc hb b2
  replace c0 := keepc hb c0
  replace c1 := keepc hb c1
  replace c2 := keepc hb c2
  replace gk := Nat.lt_of_lt_of_le gk hb.size
  replace gb := Nat.lt_of_lt_of_le gb hb.size
  replace gc := Nat.lt_of_lt_of_le gc hb.size
  clear hb
  go_wp2_with fail
  have u0 : World.cell? (w10.alloc (.cells #[.int .i64 G, .int .i64 V] 25)) ⟨w10.heap.size, 0, none⟩ = some (.int .i64 G) := by simp [go_sem]
  have u1 : World.cell? (w10.alloc (.cells #[.int .i64 G, .int .i64 V] 25)) ⟨w10.heap.size, 1, none⟩ = some (.int .i64 V) := by simp [go_sem]
  have gu : w10.heap.size < (w10.alloc (.cells #[.int .i64 G, .int .i64 V] 25)).heap.size := by simp <;> omega
  have hb : Below w10.heap.size w10 (w10.alloc (.cells #[.int .i64 G, .int .i64 V] 25)) := ((Below.refl _ _).alloc (by simp; try omega) _)
  generalize w10.alloc (.cells #[.int .i64 G, .int .i64 V] 25) = V11 at *
  replace B := Lib.hid (on_below B.out hb)
  replace k0 := keepc hb k0
  replace k1 := keepc hb k1
  replace k2 := keepc hb k2
  replace b0 := keepc hb b0
  replace b1 := keepc hb b1
  replace b2 := keepc hb b2
  replace c0 := keepc hb c0
  replace c1 := keepc hb c1
  replace c2 := keepc hb c2
  replace gk := Nat.lt_of_lt_of_le gk hb.size
  replace gb := Nat.lt_of_lt_of_le gb hb.size
  replace gc := Nat.lt_of_lt_of_le gc hb.size
  clear hb
  refine (passed_is bs be bd y G 1 0 XV1.out XT3.out _).mono ?_
  rintro e' w12 ⟨rfl, hb⟩
  replace B := Lib.hid (on_below B.out hb)
  replace k0 := keepc hb k0
  replace k1 := keepc hb k1
  replace k2 := keepc hb k2
  replace b0 := keepc hb b0
  replace b1 := keepc hb b1
  replace b2 := keepc hb b2
  replace c0 := keepc hb c0
  replace c1 := keepc hb c1
  replace c2 := keepc hb c2
  replace u0 := keepc hb u0
  replace u1 := keepc hb u1
  replace gk := Nat.lt_of_lt_of_le gk hb.size
  replace gb := Nat.lt_of_lt_of_le gb hb.size
  replace gc := Nat.lt_of_lt_of_le gc hb.size
  replace gu := Nat.lt_of_lt_of_le gu hb.size
  clear hb
  go_wp2_with fail
  refine (passed_is ks ke kd x G (-1) 0 XV2.out XT4.out _).mono ?_
  rintro e' w13 ⟨rfl, hb⟩
  replace B := Lib.hid (on_below B.out hb)
  replace k0 := keepc hb k0
  replace k1 := keepc hb k1
  replace k2 := keepc hb k2
  replace b0 := keepc hb b0
  replace b1 := keepc hb b1
  replace b2 := keepc hb b2
  replace c0 := keepc hb c0
  replace c1 := keepc hb c1
  replace c2 := keepc hb c2
  replace u0 := keepc hb u0
  replace u1 := keepc hb u1
  replace gk := Nat.lt_of_lt_of_le gk hb.size
  replace gb := Nat.lt_of_lt_of_le gb hb.size
  replace gc := Nat.lt_of_lt_of_le gc hb.size
  replace gu := Nat.lt_of_lt_of_le gu hb.size
  clear hb
  go_wp2_with fail
  all_goals go_ret
  all_goals exact ⟨rfl, B.out⟩
set_option maxRecDepth 100000 in
set_option maxHeartbeats 2000000 in
theorem tra0 (ks : Int) (iks : I64 ks) (ke : Int) (ike : I64 ke) (kd : Int) (ikd : I64 kd) (x : Int) (ix : I64 x) (bs : Int) (ibs : I64 bs) (be : Int) (ibe : I64 be) (bd : Int) (ibd : I64 bd) (y : Int) (iy : I64 y) (cs : Int) (ics : I64 cs) (ce : Int) (ice : I64 ce) (cd : Int) (icd : I64 cd) (z : Int) (iz : I64 z) (w : World) (h1 : rds ks ke kd x = true) (h2 : rds bs be bd y = true) (h3 : rds cs ce cd z = true) (he : ¬ (ks = bs ∧ ke = be ∧ kd = bd)) (o1 : oV ks ke kd x bs be bd y = (-1)) (o2 : oE ks ke kd x bs be bd y = 0) (o3 : oV bs be bd y ks ke kd x = 1) (o4 : oE bs be bd y ks ke kd x = 0) (o5 : oV bs be bd y cs ce cd z = (-1)) (o6 : oE bs be bd y cs ce cd z = 0) (o7 : oV ks ke kd x cs ce cd z = (-1)) (o8 : oE ks ke kd x cs ce cd z = 0) (G V : Int) (t1 : tF bs be bd y = G) (t2 : tU bs be bd y = V) (t3 : tE bs be bd y = 0) (t4 : tE ks ke kd x = 0) (v1 : pV bs be bd y G = 1) (v2 : pV ks ke kd x G = -1) :
    Calls Try.prog 7 #[.agg #[.int .i64 ks, .int .i64 ke, .int .i64 kd], .int .i64 x, .agg #[.int .i64 bs, .int .i64 be, .int .i64 bd], .int .i64 y, .agg #[.int .i64 cs, .int .i64 ce, .int .i64 cd], .int .i64 z] w fun e w' => e = .returned (.bool true) ∧ Below w.heap.size w w' := by
  have H1 := Lib.hid h1
  clear h1
  have H2 := Lib.hid h2
  clear h2
  have H3 := Lib.hid h3
  clear h3
  have XO1 := Lib.hid o1
  clear o1
  have XO2 := Lib.hid o2
  clear o2
  have XO3 := Lib.hid o3
  clear o3
  have XO4 := Lib.hid o4
  clear o4
  have XO5 := Lib.hid o5
  clear o5
  have XO6 := Lib.hid o6
  clear o6
  have XO7 := Lib.hid o7
  clear o7
  have XO8 := Lib.hid o8
  clear o8
  have XT1 := Lib.hid t1
  clear t1
  have XT2 := Lib.hid t2
  clear t2
  have XT3 := Lib.hid t3
  clear t3
  have XT4 := Lib.hid t4
  clear t4
  have XV1 := Lib.hid v1
  clear v1
  have XV2 := Lib.hid v2
  clear v2
  have hq := fun w => clk_no he w
  have HE := Lib.hid he
  clear he
  go_enter Try.func7, Try.ntmps7
  go_wp2_with fail
  have k0 : World.cell? (((w.alloc (.cells #[.int .i64 ks, .int .i64 ke, .int .i64 kd] 23)).alloc (.cells #[.int .i64 bs, .int .i64 be, .int .i64 bd] 23)).alloc (.cells #[.int .i64 cs, .int .i64 ce, .int .i64 cd] 23)) ⟨w.heap.size, 0, none⟩ = some (.int .i64 ks) := by simp [go_sem]
  have k1 : World.cell? (((w.alloc (.cells #[.int .i64 ks, .int .i64 ke, .int .i64 kd] 23)).alloc (.cells #[.int .i64 bs, .int .i64 be, .int .i64 bd] 23)).alloc (.cells #[.int .i64 cs, .int .i64 ce, .int .i64 cd] 23)) ⟨w.heap.size, 1, none⟩ = some (.int .i64 ke) := by simp [go_sem]
  have k2 : World.cell? (((w.alloc (.cells #[.int .i64 ks, .int .i64 ke, .int .i64 kd] 23)).alloc (.cells #[.int .i64 bs, .int .i64 be, .int .i64 bd] 23)).alloc (.cells #[.int .i64 cs, .int .i64 ce, .int .i64 cd] 23)) ⟨w.heap.size, 2, none⟩ = some (.int .i64 kd) := by simp [go_sem]
  have b0 : World.cell? (((w.alloc (.cells #[.int .i64 ks, .int .i64 ke, .int .i64 kd] 23)).alloc (.cells #[.int .i64 bs, .int .i64 be, .int .i64 bd] 23)).alloc (.cells #[.int .i64 cs, .int .i64 ce, .int .i64 cd] 23)) ⟨w.heap.size + 1, 0, none⟩ = some (.int .i64 bs) := by simp [go_sem]
  have b1 : World.cell? (((w.alloc (.cells #[.int .i64 ks, .int .i64 ke, .int .i64 kd] 23)).alloc (.cells #[.int .i64 bs, .int .i64 be, .int .i64 bd] 23)).alloc (.cells #[.int .i64 cs, .int .i64 ce, .int .i64 cd] 23)) ⟨w.heap.size + 1, 1, none⟩ = some (.int .i64 be) := by simp [go_sem]
  have b2 : World.cell? (((w.alloc (.cells #[.int .i64 ks, .int .i64 ke, .int .i64 kd] 23)).alloc (.cells #[.int .i64 bs, .int .i64 be, .int .i64 bd] 23)).alloc (.cells #[.int .i64 cs, .int .i64 ce, .int .i64 cd] 23)) ⟨w.heap.size + 1, 2, none⟩ = some (.int .i64 bd) := by simp [go_sem]
  have c0 : World.cell? (((w.alloc (.cells #[.int .i64 ks, .int .i64 ke, .int .i64 kd] 23)).alloc (.cells #[.int .i64 bs, .int .i64 be, .int .i64 bd] 23)).alloc (.cells #[.int .i64 cs, .int .i64 ce, .int .i64 cd] 23)) ⟨w.heap.size + 1 + 1, 0, none⟩ = some (.int .i64 cs) := by simp [go_sem]
  have c1 : World.cell? (((w.alloc (.cells #[.int .i64 ks, .int .i64 ke, .int .i64 kd] 23)).alloc (.cells #[.int .i64 bs, .int .i64 be, .int .i64 bd] 23)).alloc (.cells #[.int .i64 cs, .int .i64 ce, .int .i64 cd] 23)) ⟨w.heap.size + 1 + 1, 1, none⟩ = some (.int .i64 ce) := by simp [go_sem]
  have c2 : World.cell? (((w.alloc (.cells #[.int .i64 ks, .int .i64 ke, .int .i64 kd] 23)).alloc (.cells #[.int .i64 bs, .int .i64 be, .int .i64 bd] 23)).alloc (.cells #[.int .i64 cs, .int .i64 ce, .int .i64 cd] 23)) ⟨w.heap.size + 1 + 1, 2, none⟩ = some (.int .i64 cd) := by simp [go_sem]
  have gk : w.heap.size < (((w.alloc (.cells #[.int .i64 ks, .int .i64 ke, .int .i64 kd] 23)).alloc (.cells #[.int .i64 bs, .int .i64 be, .int .i64 bd] 23)).alloc (.cells #[.int .i64 cs, .int .i64 ce, .int .i64 cd] 23)).heap.size := by simp <;> omega
  have gb : w.heap.size + 1 < (((w.alloc (.cells #[.int .i64 ks, .int .i64 ke, .int .i64 kd] 23)).alloc (.cells #[.int .i64 bs, .int .i64 be, .int .i64 bd] 23)).alloc (.cells #[.int .i64 cs, .int .i64 ce, .int .i64 cd] 23)).heap.size := by simp <;> omega
  have gc : w.heap.size + 1 + 1 < (((w.alloc (.cells #[.int .i64 ks, .int .i64 ke, .int .i64 kd] 23)).alloc (.cells #[.int .i64 bs, .int .i64 be, .int .i64 bd] 23)).alloc (.cells #[.int .i64 cs, .int .i64 ce, .int .i64 cd] 23)).heap.size := by simp <;> omega
  have B := Lib.hid (show Below w.heap.size w (((w.alloc (.cells #[.int .i64 ks, .int .i64 ke, .int .i64 kd] 23)).alloc (.cells #[.int .i64 bs, .int .i64 be, .int .i64 bd] 23)).alloc (.cells #[.int .i64 cs, .int .i64 ce, .int .i64 cd] 23)) from ((((Below.refl _ _).alloc (by simp; try omega) _).alloc (by simp; try omega) _).alloc (by simp; try omega) _))
  generalize ((w.alloc (.cells #[.int .i64 ks, .int .i64 ke, .int .i64 kd] 23)).alloc (.cells #[.int .i64 bs, .int .i64 be, .int .i64 bd] 23)).alloc (.cells #[.int .i64 cs, .int .i64 ce, .int .i64 cd] 23) = V1 at *
  refine (head_any _).mono ?_
  rintro e' w2 ⟨rfl, hb⟩
  replace B := Lib.hid (on_below B.out hb)
  replace k0 := keepc hb k0
  replace k1 := keepc hb k1
  replace k2 := keepc hb k2
  replace b0 := keepc hb b0
  replace b1 := keepc hb b1
  replace b2 := keepc hb b2
  replace c0 := keepc hb c0
  replace c1 := keepc hb c1
  replace c2 := keepc hb c2
  replace gk := Nat.lt_of_lt_of_le gk hb.size
  replace gb := Nat.lt_of_lt_of_le gb hb.size
  replace gc := Nat.lt_of_lt_of_le gc hb.size
  clear hb
  go_wp2_with fail
  refine (reads_b ks ke kd x _ H1.out _).mono ?_
  rintro e' w3 ⟨rfl, hb⟩
  replace B := Lib.hid (on_below B.out hb)
  replace k0 := keepc hb k0
  replace k1 := keepc hb k1
  replace k2 := keepc hb k2
  replace b0 := keepc hb b0
  replace b1 := keepc hb b1
  replace b2 := keepc hb b2
  replace c0 := keepc hb c0
  replace c1 := keepc hb c1
  replace c2 := keepc hb c2
  replace gk := Nat.lt_of_lt_of_le gk hb.size
  replace gb := Nat.lt_of_lt_of_le gb hb.size
  replace gc := Nat.lt_of_lt_of_le gc hb.size
  clear hb
  go_wp2_with fail
  refine (reads_b bs be bd y _ H2.out _).mono ?_
  rintro e' w4 ⟨rfl, hb⟩
  replace B := Lib.hid (on_below B.out hb)
  replace k0 := keepc hb k0
  replace k1 := keepc hb k1
  replace k2 := keepc hb k2
  replace b0 := keepc hb b0
  replace b1 := keepc hb b1
  replace b2 := keepc hb b2
  replace c0 := keepc hb c0
  replace c1 := keepc hb c1
  replace c2 := keepc hb c2
  replace gk := Nat.lt_of_lt_of_le gk hb.size
  replace gb := Nat.lt_of_lt_of_le gb hb.size
  replace gc := Nat.lt_of_lt_of_le gc hb.size
  clear hb
  go_wp2_with fail
  refine (reads_b cs ce cd z _ H3.out _).mono ?_
  rintro e' w5 ⟨rfl, hb⟩
  replace B := Lib.hid (on_below B.out hb)
  replace k0 := keepc hb k0
  replace k1 := keepc hb k1
  replace k2 := keepc hb k2
  replace b0 := keepc hb b0
  replace b1 := keepc hb b1
  replace b2 := keepc hb b2
  replace c0 := keepc hb c0
  replace c1 := keepc hb c1
  replace c2 := keepc hb c2
  replace gk := Nat.lt_of_lt_of_le gk hb.size
  replace gb := Nat.lt_of_lt_of_le gb hb.size
  replace gc := Nat.lt_of_lt_of_le gc hb.size
  clear hb
  go_wp2_with fail
  refine (order_is ks ke kd x bs be bd y (-1) 0 XO1.out XO2.out _).mono ?_
  rintro e' w6 ⟨rfl, hb⟩
  replace B := Lib.hid (on_below B.out hb)
  replace k0 := keepc hb k0
  replace k1 := keepc hb k1
  replace k2 := keepc hb k2
  replace b0 := keepc hb b0
  replace b1 := keepc hb b1
  replace b2 := keepc hb b2
  replace c0 := keepc hb c0
  replace c1 := keepc hb c1
  replace c2 := keepc hb c2
  replace gk := Nat.lt_of_lt_of_le gk hb.size
  replace gb := Nat.lt_of_lt_of_le gb hb.size
  replace gc := Nat.lt_of_lt_of_le gc hb.size
  clear hb
  go_wp2_with fail
  refine (order_is bs be bd y ks ke kd x 1 0 XO3.out XO4.out _).mono ?_
  rintro e' w7 ⟨rfl, hb⟩
  replace B := Lib.hid (on_below B.out hb)
  replace k0 := keepc hb k0
  replace k1 := keepc hb k1
  replace k2 := keepc hb k2
  replace b0 := keepc hb b0
  replace b1 := keepc hb b1
  replace b2 := keepc hb b2
  replace c0 := keepc hb c0
  replace c1 := keepc hb c1
  replace c2 := keepc hb c2
  replace gk := Nat.lt_of_lt_of_le gk hb.size
  replace gb := Nat.lt_of_lt_of_le gb hb.size
  replace gc := Nat.lt_of_lt_of_le gc hb.size
  clear hb
  go_wp2_with fail
  refine (order_is bs be bd y cs ce cd z (-1) 0 XO5.out XO6.out _).mono ?_
  rintro e' w8 ⟨rfl, hb⟩
  replace B := Lib.hid (on_below B.out hb)
  replace k0 := keepc hb k0
  replace k1 := keepc hb k1
  replace k2 := keepc hb k2
  replace b0 := keepc hb b0
  replace b1 := keepc hb b1
  replace b2 := keepc hb b2
  replace c0 := keepc hb c0
  replace c1 := keepc hb c1
  replace c2 := keepc hb c2
  replace gk := Nat.lt_of_lt_of_le gk hb.size
  replace gb := Nat.lt_of_lt_of_le gb hb.size
  replace gc := Nat.lt_of_lt_of_le gc hb.size
  clear hb
  go_wp2_with fail
  refine (order_is ks ke kd x cs ce cd z (-1) 0 XO7.out XO8.out _).mono ?_
  rintro e' w9 ⟨rfl, hb⟩
  replace B := Lib.hid (on_below B.out hb)
  replace k0 := keepc hb k0
  replace k1 := keepc hb k1
  replace k2 := keepc hb k2
  replace b0 := keepc hb b0
  replace b1 := keepc hb b1
  replace b2 := keepc hb b2
  replace c0 := keepc hb c0
  replace c1 := keepc hb c1
  replace c2 := keepc hb c2
  replace gk := Nat.lt_of_lt_of_le gk hb.size
  replace gb := Nat.lt_of_lt_of_le gb hb.size
  replace gc := Nat.lt_of_lt_of_le gc hb.size
  clear hb
  go_wp2_with fail
  refine (true_is bs be bd y G V 0 XT1.out XT2.out XT3.out _).mono ?_
  rintro e' w10 ⟨rfl, hb⟩
  replace B := Lib.hid (on_below B.out hb)
  replace k0 := keepc hb k0
  replace k1 := keepc hb k1
  replace k2 := keepc hb k2
  replace b0 := keepc hb b0
  replace b1 := keepc hb b1
  replace b2 := keepc hb b2
  replace c0 := keepc hb c0
  replace c1 := keepc hb c1
  replace c2 := keepc hb c2
  replace gk := Nat.lt_of_lt_of_le gk hb.size
  replace gb := Nat.lt_of_lt_of_le gb hb.size
  replace gc := Nat.lt_of_lt_of_le gc hb.size
  clear hb
  go_wp2_with fail
  have u0 : World.cell? (w10.alloc (.cells #[.int .i64 G, .int .i64 V] 25)) ⟨w10.heap.size, 0, none⟩ = some (.int .i64 G) := by simp [go_sem]
  have u1 : World.cell? (w10.alloc (.cells #[.int .i64 G, .int .i64 V] 25)) ⟨w10.heap.size, 1, none⟩ = some (.int .i64 V) := by simp [go_sem]
  have gu : w10.heap.size < (w10.alloc (.cells #[.int .i64 G, .int .i64 V] 25)).heap.size := by simp <;> omega
  have hb : Below w10.heap.size w10 (w10.alloc (.cells #[.int .i64 G, .int .i64 V] 25)) := ((Below.refl _ _).alloc (by simp; try omega) _)
  generalize w10.alloc (.cells #[.int .i64 G, .int .i64 V] 25) = V11 at *
  replace B := Lib.hid (on_below B.out hb)
  replace k0 := keepc hb k0
  replace k1 := keepc hb k1
  replace k2 := keepc hb k2
  replace b0 := keepc hb b0
  replace b1 := keepc hb b1
  replace b2 := keepc hb b2
  replace c0 := keepc hb c0
  replace c1 := keepc hb c1
  replace c2 := keepc hb c2
  replace gk := Nat.lt_of_lt_of_le gk hb.size
  replace gb := Nat.lt_of_lt_of_le gb hb.size
  replace gc := Nat.lt_of_lt_of_le gc hb.size
  clear hb
  refine (passed_is bs be bd y G 1 0 XV1.out XT3.out _).mono ?_
  rintro e' w12 ⟨rfl, hb⟩
  replace B := Lib.hid (on_below B.out hb)
  replace k0 := keepc hb k0
  replace k1 := keepc hb k1
  replace k2 := keepc hb k2
  replace b0 := keepc hb b0
  replace b1 := keepc hb b1
  replace b2 := keepc hb b2
  replace c0 := keepc hb c0
  replace c1 := keepc hb c1
  replace c2 := keepc hb c2
  replace u0 := keepc hb u0
  replace u1 := keepc hb u1
  replace gk := Nat.lt_of_lt_of_le gk hb.size
  replace gb := Nat.lt_of_lt_of_le gb hb.size
  replace gc := Nat.lt_of_lt_of_le gc hb.size
  replace gu := Nat.lt_of_lt_of_le gu hb.size
  clear hb
  go_wp2_with fail
  refine (passed_is ks ke kd x G (-1) 0 XV2.out XT4.out _).mono ?_
  rintro e' w13 ⟨rfl, hb⟩
  replace B := Lib.hid (on_below B.out hb)
  replace k0 := keepc hb k0
  replace k1 := keepc hb k1
  replace k2 := keepc hb k2
  replace b0 := keepc hb b0
  replace b1 := keepc hb b1
  replace b2 := keepc hb b2
  replace c0 := keepc hb c0
  replace c1 := keepc hb c1
  replace c2 := keepc hb c2
  replace u0 := keepc hb u0
  replace u1 := keepc hb u1
  replace gk := Nat.lt_of_lt_of_le gk hb.size
  replace gb := Nat.lt_of_lt_of_le gb hb.size
  replace gc := Nat.lt_of_lt_of_le gc hb.size
  replace gu := Nat.lt_of_lt_of_le gu hb.size
  clear hb
  go_wp2_with fail
  all_goals go_ret
  all_goals exact ⟨rfl, B.out⟩

theorem sd_neg {a b F U : Int} (h : b ≤ F) : sd a b F U = -1 := by unfold sd; omega
theorem sd_one {a b F U : Int} (h : F < b) (h' : U ≤ a) : sd a b F U = 1 := by unfold sd; omega
theorem sd_nil {a b F U : Int} (h : F < b) (h' : a < U) : sd a b F U = 0 := by unfold sd; omega
theorem sd_le {a b F U : Int} (h : sd a b F U = -1) : b ≤ F := by unfold sd at h; omega
set_option maxHeartbeats 1000000 in
theorem walk (ks : Int) (iks : I64 ks) (ke : Int) (ike : I64 ke) (kd : Int) (ikd : I64 kd) (x : Int) (ix : I64 x) (bs : Int) (ibs : I64 bs) (be : Int) (ibe : I64 be) (bd : Int) (ibd : I64 bd) (y : Int) (iy : I64 y) (cs : Int) (ics : I64 cs) (ce : Int) (ice : I64 ce) (cd : Int) (icd : I64 cd) (z : Int) (iz : I64 z) (w : World) :
    Calls Try.prog 7 #[.agg #[.int .i64 ks, .int .i64 ke, .int .i64 kd], .int .i64 x, .agg #[.int .i64 bs, .int .i64 be, .int .i64 bd], .int .i64 y, .agg #[.int .i64 cs, .int .i64 ce, .int .i64 cd], .int .i64 z] w fun e w' => e = .returned (.bool true) ∧ Below w.heap.size w w' := by
  cases h1 : rds ks ke kd x with
  | false => exact no1 ks iks ke ike kd ikd x ix bs ibs be ibe bd ibd y iy cs ics ce ice cd icd z iz w h1
  | true =>
  cases h2 : rds bs be bd y with
  | false => exact no2 ks iks ke ike kd ikd x ix bs ibs be ibe bd ibd y iy cs ics ce ice cd icd z iz w h1 h2
  | true =>
  cases h3 : rds cs ce cd z with
  | false => exact no3 ks iks ke ike kd ikd x ix bs ibs be ibe bd ibd y iy cs ics ce ice cd icd z iz w h1 h2 h3
  | true =>
  have b1 := in_bd h1
  have b2 := in_bd h2
  have b3 := in_bd h3
  have a1 := oV_ok h1 h2
  have a2 := oV_ok h2 h1
  have a3 := oV_ok h2 h3
  have a4 := oV_ok h1 h3
  have v1 := pV_ok (t := frm bs be bd y) h2
  have v2 := pV_ok (t := frm bs be bd y) h1
  have pg : ks = bs ∧ ke = be ∧ kd = bd → y ≤ x → frm bs be bd y ≤ frm ks ke kd x := by
    rintro ⟨rfl, rfl, rfl⟩ h
    exact (progress h2 h1 h).1
  have hg : frm bs be bd y < unt bs be bd y := by omega
  have pg2 : unt ks ke kd x ≤ frm bs be bd y → frm ks ke kd x < unt bs be bd y := by omega
  by_cases he : ks = bs ∧ ke = be ∧ kd = bd
  · have pg := pg he
    rcases Int.lt_or_le (frm bs be bd y) (unt ks ke kd x) with e1 | e1
    · rcases Int.lt_or_le (frm ks ke kd x) (unt bs be bd y) with e2 | e2
      · exact nil1 ks iks ke ike kd ikd x ix bs ibs be ibe bd ibd y iy cs ics ce ice cd icd z iz w h1 h2 h3 _ _ he (a1.trans (sd_nil e1 e2)) (oE_ok h1 h2) (a2.trans (sd_nil e2 e1)) (oE_ok h2 h1) rfl (oE_ok h2 h3) rfl (oE_ok h1 h3)
      · exact one1 ks iks ke ike kd ikd x ix bs ibs be ibe bd ibd y iy cs ics ce ice cd icd z iz w h1 h2 h3 _ _ he (a1.trans (sd_one e1 e2)) (oE_ok h1 h2) (a2.trans (sd_neg e2)) (oE_ok h2 h1) rfl (oE_ok h2 h3) rfl (oE_ok h1 h3)
    · have hm := pg2 e1
      have v1 : pV bs be bd y (frm bs be bd y) = 1 := v1.trans (sd_one hg (Int.le_refl _))
      have v2 : pV ks ke kd x (frm bs be bd y) = -1 := v2.trans (sd_neg e1)
      have hx : x < y := by
        refine Int.lt_of_not_ge fun h => ?_
        have := pg h
        omega
      by_cases hr : oV bs be bd y cs ce cd z = -1
      · exact tra1 ks iks ke ike kd ikd x ix bs ibs be ibe bd ibd y iy cs ics ce ice cd icd z iz w h1 h2 h3 hx he (a1.trans (sd_neg e1)) (oE_ok h1 h2) (a2.trans (sd_one hm e1)) (oE_ok h2 h1) hr (oE_ok h2 h3) (a4.trans (sd_neg (Int.le_trans e1 (Int.le_trans (Int.le_of_lt hg) (sd_le (a3.symm.trans hr)))))) (oE_ok h1 h3) _ _ (tF_ok h2) (tU_ok h2) (tE_ok h2) (tE_ok h1) v1 v2
      · exact neg1 ks iks ke ike kd ikd x ix bs ibs be ibe bd ibd y iy cs ics ce ice cd icd z iz w h1 h2 h3 _ _ hx hr he (a1.trans (sd_neg e1)) (oE_ok h1 h2) (a2.trans (sd_one hm e1)) (oE_ok h2 h1) rfl (oE_ok h2 h3) rfl (oE_ok h1 h3) _ _ (tF_ok h2) (tU_ok h2) (tE_ok h2) (tE_ok h1) v1 v2
  · rcases Int.lt_or_le (frm bs be bd y) (unt ks ke kd x) with e1 | e1
    · rcases Int.lt_or_le (frm ks ke kd x) (unt bs be bd y) with e2 | e2
      · exact nil0 ks iks ke ike kd ikd x ix bs ibs be ibe bd ibd y iy cs ics ce ice cd icd z iz w h1 h2 h3 _ _ he (a1.trans (sd_nil e1 e2)) (oE_ok h1 h2) (a2.trans (sd_nil e2 e1)) (oE_ok h2 h1) rfl (oE_ok h2 h3) rfl (oE_ok h1 h3)
      · exact one0 ks iks ke ike kd ikd x ix bs ibs be ibe bd ibd y iy cs ics ce ice cd icd z iz w h1 h2 h3 _ _ he (a1.trans (sd_one e1 e2)) (oE_ok h1 h2) (a2.trans (sd_neg e2)) (oE_ok h2 h1) rfl (oE_ok h2 h3) rfl (oE_ok h1 h3)
    · have hm := pg2 e1
      have v1 : pV bs be bd y (frm bs be bd y) = 1 := v1.trans (sd_one hg (Int.le_refl _))
      have v2 : pV ks ke kd x (frm bs be bd y) = -1 := v2.trans (sd_neg e1)
      by_cases hr : oV bs be bd y cs ce cd z = -1
      · exact tra0 ks iks ke ike kd ikd x ix bs ibs be ibe bd ibd y iy cs ics ce ice cd icd z iz w h1 h2 h3 he (a1.trans (sd_neg e1)) (oE_ok h1 h2) (a2.trans (sd_one hm e1)) (oE_ok h2 h1) hr (oE_ok h2 h3) (a4.trans (sd_neg (Int.le_trans e1 (Int.le_trans (Int.le_of_lt hg) (sd_le (a3.symm.trans hr)))))) (oE_ok h1 h3) _ _ (tF_ok h2) (tU_ok h2) (tE_ok h2) (tE_ok h1) v1 v2
      · exact neg0 ks iks ke ike kd ikd x ix bs ibs be ibe bd ibd y iy cs ics ce ice cd icd z iz w h1 h2 h3 _ _ hr he (a1.trans (sd_neg e1)) (oE_ok h1 h2) (a2.trans (sd_one hm e1)) (oE_ok h2 h1) rfl (oE_ok h2 h3) rfl (oE_ok h1 h3) _ _ (tF_ok h2) (tU_ok h2) (tE_ok h2) (tE_ok h1) v1 v2

/-! ### The row -/
open Go.ChangeShapes Go.WideShapes Go.ChangeAt Go.Joins
theorem own : ownKnob Try.prog.godebug = none := by kernel_rfl
noncomputable def laidWorld (os : Os) : World := World.holding Try.prog os ⟨#[], #[], []⟩
theorem laidWorld_met (os : Os) (args : Array Value) : laidMet Try.prog [] ((laidWorld os).forCall (fun _ _ => 0) ⟨#[], args, []⟩).memory :=
  laidMet_of_run' 8 (by kernel_rfl) (by kernel_rfl)

set_option maxRecDepth 100000 in
theorem contract (H : Type) (enc : TypeId × Value → H) (W : World) (base : Nat) (args : Array Value) (ds gs : List (DataW H)) (before : List MemPlace)
    (hval : ∀ (j : Nat) t v, Try.f7.params[j]? = some t → args[j]? = some v → Value.okWide Try.prog W .any base t v)
    (hW : DataW.Whole enc Try.prog Try.f7.params.toList Rows.clockOrderSpec.vars false W args.toList ds gs before) :
    Calls Try.prog 7 args W fun e W' => ∃ v, e = .returned v ∧ Rows.clockOrderSpec.post enc Try.prog Try.f7 false true false false W args v W' := by
  have hW' := hW
  obtain ⟨p, q, hA0, hV, rfl, hfz, hnd⟩ := hW
  have hA : DataW.TrodAll enc Try.prog W 0 (fun _ => true) true Try.f7.params.toList args.toList ds p := hA0
  rw [Try.params7] at hA hval
  obtain ⟨v0, vs0, d0, ds0, p0, q0, hargs, rfl, rfl, h0, r0⟩ := trodAll_cons hA
  obtain ⟨v1, vs1, d1, ds1, p1, q1, rfl, rfl, rfl, h1, r1⟩ := trodAll_cons r0
  obtain ⟨v2, vs2, d2, ds2, p2, q2, rfl, rfl, rfl, h2, r2⟩ := trodAll_cons r1
  obtain ⟨v3, vs3, d3, ds3, p3, q3, rfl, rfl, rfl, h3, r3⟩ := trodAll_cons r2
  obtain ⟨v4, vs4, d4, ds4, p4, q4, rfl, rfl, rfl, h4, r4⟩ := trodAll_cons r3
  obtain ⟨v5, vs5, d5, ds5, p5, q5, rfl, rfl, rfl, h5, r5⟩ := trodAll_cons r4
  obtain ⟨rfl, rfl, rfl⟩ := trodAll_nil r5
  obtain rfl : args = #[v0, v1, v2, v3, v4, v5] := Array.toList_inj.1 hargs
  obtain ⟨rfl, rfl⟩ := trodVars_none hV
  obtain ⟨ks, ke, kd, rfl, rfl, rfl, iks, ike, ikd⟩ := open_clock (hval 0 23 v0 rfl rfl) h0
  obtain ⟨x, rfl, rfl, rfl, wx⟩ := open_int Try.underlying3 (hval 1 3 v1 rfl rfl) h1
  obtain ⟨bs, be, bd, rfl, rfl, rfl, ibs, ibe, ibd⟩ := open_clock (hval 2 23 v2 rfl rfl) h2
  obtain ⟨y, rfl, rfl, rfl, wy⟩ := open_int Try.underlying3 (hval 3 3 v3 rfl rfl) h3
  obtain ⟨cs, ce, cd, rfl, rfl, rfl, ics, ice, icd⟩ := open_clock (hval 4 23 v4 rfl rfl) h4
  obtain ⟨z, rfl, rfl, rfl, wz⟩ := open_int Try.underlying3 (hval 5 3 v5 rfl rfl) h5
  clear hA0
  refine (walk ks (wf_i iks) ke (wf_i ike) kd (wf_i ikd) x (wf_i wx) bs (wf_i ibs) be (wf_i ibe) bd (wf_i ibd) y (wf_i wy) cs (wf_i ics) ce (wf_i ice) cd (wf_i icd) z (wf_i wz) W).mono fun e W' ⟨he, bel⟩ => ?_
  subst he
  exact ⟨_, rfl, _, _, _, [], _, [], hW', trodAll_mk1 (shut_bool Try.underlying4 _), (trodAll_cons_mk (shut_clock iks ike ikd) (trodAll_cons_mk (shut_int Try.underlying3 wx) (trodAll_cons_mk (shut_clock ibs ibe ibd) (trodAll_cons_mk (shut_int Try.underlying3 wy) (trodAll_cons_mk (shut_clock ics ice icd) (trodAll_cons_mk (shut_int Try.underlying3 wz) trodAll_mk0)))))), rfl, bel.frame _, fun h => by cases h⟩

theorem reads (os : Os) {H : Type} (enc : TypeId × Value → H) : ∃ places, DataW.whole enc Try.prog ((laidWorld os).forCall (fun _ _ => 0) ⟨#[], #[.agg #[.int .i64 0, .int .i64 0, .int .i64 0], .int .i64 0, .agg #[.int .i64 0, .int .i64 0, .int .i64 0], .int .i64 0, .agg #[.int .i64 0, .int .i64 0, .int .i64 0], .int .i64 0], []⟩).memory Try.f7.params.toList Rows.clockOrderSpec.vars false (#[.agg #[.int .i64 0, .int .i64 0, .int .i64 0], .int .i64 0, .agg #[.int .i64 0, .int .i64 0, .int .i64 0], .int .i64 0, .agg #[.int .i64 0, .int .i64 0, .int .i64 0], .int .i64 0] : Array Value).toList 8 = some ([.agg [.lit (.int .i64 0), .lit (.int .i64 0), .lit (.int .i64 0)], .lit (.int .i64 0), .agg [.lit (.int .i64 0), .lit (.int .i64 0), .lit (.int .i64 0)], .lit (.int .i64 0), .agg [.lit (.int .i64 0), .lit (.int .i64 0), .lit (.int .i64 0)], .lit (.int .i64 0)], [], places) :=
  ⟨[], by kernel_rfl⟩

set_option maxRecDepth 100000 in
theorem lifted (os : Os) (started : os.Started) (H : Type) (enc : TypeId × Value → H) (F : Stop.Interp) :
    ReturnsInHanded {} Try.checked os 7 .any ((OpenSpec.ofChange Rows.clockOrderSpec).preRow enc Try.prog Try.f7 Rows.clockOrderRow.domain false Rows.clockOrderRow.laid) (((OpenSpec.ofChange Rows.clockOrderSpec).at F).post enc Try.prog Try.f7 false true false false) := by
  obtain ⟨places, hx⟩ := reads os enc
  refine returnsInHanded_of_row (C := Try.checked) (s := OpenSpec.ofChange Rows.clockOrderSpec) own started (by kernel_rfl) Try.func7
    (witness_row_atRef (enc := enc) (C := Try.checked) false (laidWorld os) #[.agg #[.int .i64 0, .int .i64 0, .int .i64 0], .int .i64 0, .agg #[.int .i64 0, .int .i64 0, .int .i64 0], .int .i64 0, .agg #[.int .i64 0, .int .i64 0, .int .i64 0], .int .i64 0] rfl (by kernel_rfl) (by kernel_rfl) (by kernel_rfl)
      (OpenSpec.preRow_of_cond 8 hx (by kernel_rfl) (fun k hk => by cases hk) (by kernel_rfl) (laidWorld_met os _))) ?_
  intro W base args ds gs before hval hW _ hcond _ hL hsh _
  exact contract H enc W base args ds gs before hval hW

/-- The statement. -/
theorem said : Rows.ClockOrderSaid :=
  OpenClaim.holds_of_cond 7 Try.f7 rfl rfl rfl rfl rfl rfl rfl ⟨rfl, rfl, rfl, rfl, rfl⟩ rfl rfl rfl rfl rfl (by kernel_rfl) Try.func7 (by kernel_rfl)
    (of_decide_eq_true (by kernel_rfl)) (by unfold Func.isWrapper; first | (rw [if_pos (by decide +kernel)]; kernel_rfl) | (rw [if_neg (by decide +kernel)]; exact ⟨rfl, rfl⟩))
    (fun os started H enc _ F => by rw [OpenClaim.pre_eq_preRow]; exact lifted os started H enc F)
end Go.Proofs.Ytnjhepkfjohdnaa.clockOrder
