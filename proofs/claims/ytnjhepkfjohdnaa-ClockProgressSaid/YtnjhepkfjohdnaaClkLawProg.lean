/-
  ClockProgress: the true times of the greater one of two readings are not before those of the smaller one.
  Conditions: none besides the row's.
-/
import Derived.Test.YtnjhepkfjohdnaaClkM
import Derived.Test.YtnjhepkfjohdnaaRows
import Derived.ProofKit
import Derived.OpenShut
import Derived.Deep.DeepHandedRow
import Derived.Deep.DeepWitnessRowRef
import Derived.MakeChecks
namespace Go.Proofs.Ytnjhepkfjohdnaa.clockProgress
open Go.RowKit Go.Sort
open Go.RowKit (Below)
set_option linter.unusedVariables false
set_option linter.unusedSimpArgs false
set_option maxRecDepth 100000 in
set_option maxHeartbeats 1000000 in
theorem no1 (cs : Int) (ics : I64 cs) (ce : Int) (ice : I64 ce) (cd : Int) (icd : I64 cd) (x : Int) (ix : I64 x) (y : Int) (iy : I64 y) (w : World) (h1 : rds cs ce cd x = false) :
    Calls Try.prog 5 #[.agg #[.int .i64 cs, .int .i64 ce, .int .i64 cd], .int .i64 x, .int .i64 y] w fun e w' => e = .returned (.bool true) ∧ Below w.heap.size w w' := by
  have H1 := Lib.hid h1
  clear h1
  go_enter Try.func5, Try.ntmps5
  go_wp2_with fail
  have c0 : World.cell? (w.alloc (.cells #[.int .i64 cs, .int .i64 ce, .int .i64 cd] 23)) ⟨w.heap.size, 0, none⟩ = some (.int .i64 cs) := by simp [go_sem]
  have c1 : World.cell? (w.alloc (.cells #[.int .i64 cs, .int .i64 ce, .int .i64 cd] 23)) ⟨w.heap.size, 1, none⟩ = some (.int .i64 ce) := by simp [go_sem]
  have c2 : World.cell? (w.alloc (.cells #[.int .i64 cs, .int .i64 ce, .int .i64 cd] 23)) ⟨w.heap.size, 2, none⟩ = some (.int .i64 cd) := by simp [go_sem]
  have gc : w.heap.size < (w.alloc (.cells #[.int .i64 cs, .int .i64 ce, .int .i64 cd] 23)).heap.size := by simp <;> omega
  have B := Lib.hid (show Below w.heap.size w (w.alloc (.cells #[.int .i64 cs, .int .i64 ce, .int .i64 cd] 23)) from ((Below.refl _ _).alloc (by simp; try omega) _))
  generalize w.alloc (.cells #[.int .i64 cs, .int .i64 ce, .int .i64 cd] 23) = V1 at *
  refine (head_any _).mono ?_
  rintro e' w2 ⟨rfl, hb⟩
  replace B := Lib.hid (on_below B.out hb)
  replace c0 := keepc hb c0
  replace c1 := keepc hb c1
  replace c2 := keepc hb c2
  replace gc := Nat.lt_of_lt_of_le gc hb.size
  clear hb
  go_wp2_with fail
  refine (reads_b cs ce cd x _ H1.out _).mono ?_
  rintro e' w3 ⟨rfl, hb⟩
  replace B := Lib.hid (on_below B.out hb)
  replace c0 := keepc hb c0
  replace c1 := keepc hb c1
  replace c2 := keepc hb c2
  replace gc := Nat.lt_of_lt_of_le gc hb.size
  clear hb
  go_wp2_with fail
  all_goals go_ret
  all_goals exact ⟨rfl, B.out⟩
set_option maxRecDepth 100000 in
set_option maxHeartbeats 1000000 in
theorem no2 (cs : Int) (ics : I64 cs) (ce : Int) (ice : I64 ce) (cd : Int) (icd : I64 cd) (x : Int) (ix : I64 x) (y : Int) (iy : I64 y) (w : World) (h1 : rds cs ce cd x = true) (h2 : rds cs ce cd y = false) :
    Calls Try.prog 5 #[.agg #[.int .i64 cs, .int .i64 ce, .int .i64 cd], .int .i64 x, .int .i64 y] w fun e w' => e = .returned (.bool true) ∧ Below w.heap.size w w' := by
  have H1 := Lib.hid h1
  clear h1
  have H2 := Lib.hid h2
  clear h2
  go_enter Try.func5, Try.ntmps5
  go_wp2_with fail
  have c0 : World.cell? (w.alloc (.cells #[.int .i64 cs, .int .i64 ce, .int .i64 cd] 23)) ⟨w.heap.size, 0, none⟩ = some (.int .i64 cs) := by simp [go_sem]
  have c1 : World.cell? (w.alloc (.cells #[.int .i64 cs, .int .i64 ce, .int .i64 cd] 23)) ⟨w.heap.size, 1, none⟩ = some (.int .i64 ce) := by simp [go_sem]
  have c2 : World.cell? (w.alloc (.cells #[.int .i64 cs, .int .i64 ce, .int .i64 cd] 23)) ⟨w.heap.size, 2, none⟩ = some (.int .i64 cd) := by simp [go_sem]
  have gc : w.heap.size < (w.alloc (.cells #[.int .i64 cs, .int .i64 ce, .int .i64 cd] 23)).heap.size := by simp <;> omega
  have B := Lib.hid (show Below w.heap.size w (w.alloc (.cells #[.int .i64 cs, .int .i64 ce, .int .i64 cd] 23)) from ((Below.refl _ _).alloc (by simp; try omega) _))
  generalize w.alloc (.cells #[.int .i64 cs, .int .i64 ce, .int .i64 cd] 23) = V1 at *
  refine (head_any _).mono ?_
  rintro e' w2 ⟨rfl, hb⟩
  replace B := Lib.hid (on_below B.out hb)
  replace c0 := keepc hb c0
  replace c1 := keepc hb c1
  replace c2 := keepc hb c2
  replace gc := Nat.lt_of_lt_of_le gc hb.size
  clear hb
  go_wp2_with fail
  refine (reads_b cs ce cd x _ H1.out _).mono ?_
  rintro e' w3 ⟨rfl, hb⟩
  replace B := Lib.hid (on_below B.out hb)
  replace c0 := keepc hb c0
  replace c1 := keepc hb c1
  replace c2 := keepc hb c2
  replace gc := Nat.lt_of_lt_of_le gc hb.size
  clear hb
  go_wp2_with fail
  refine (reads_b cs ce cd y _ H2.out _).mono ?_
  rintro e' w4 ⟨rfl, hb⟩
  replace B := Lib.hid (on_below B.out hb)
  replace c0 := keepc hb c0
  replace c1 := keepc hb c1
  replace c2 := keepc hb c2
  replace gc := Nat.lt_of_lt_of_le gc hb.size
  clear hb
  go_wp2_with fail
  all_goals go_ret
  all_goals exact ⟨rfl, B.out⟩
set_option maxRecDepth 100000 in
set_option maxHeartbeats 1000000 in
theorem lt (cs : Int) (ics : I64 cs) (ce : Int) (ice : I64 ce) (cd : Int) (icd : I64 cd) (x : Int) (ix : I64 x) (y : Int) (iy : I64 y) (w : World) (hx : x < y) (F U F' U' : Int) (h1 : rds cs ce cd x = true) (h2 : rds cs ce cd y = true) (p1 : tF cs ce cd x = F) (p2 : tU cs ce cd x = U) (p3 : tE cs ce cd x = 0) (q1 : tF cs ce cd y = F') (q2 : tU cs ce cd y = U') (q3 : tE cs ce cd y = 0) (l1 : F ≤ F') (l2 : U ≤ U') :
    Calls Try.prog 5 #[.agg #[.int .i64 cs, .int .i64 ce, .int .i64 cd], .int .i64 x, .int .i64 y] w fun e w' => e = .returned (.bool true) ∧ Below w.heap.size w w' := by
  have H1 := Lib.hid h1
  clear h1
  have H2 := Lib.hid h2
  clear h2
  have P1 := Lib.hid p1
  clear p1
  have P2 := Lib.hid p2
  clear p2
  have P3 := Lib.hid p3
  clear p3
  have Q1 := Lib.hid q1
  clear q1
  have Q2 := Lib.hid q2
  clear q2
  have Q3 := Lib.hid q3
  clear q3
  go_enter Try.func5, Try.ntmps5
  go_wp2_with fail
  have c0 : World.cell? (w.alloc (.cells #[.int .i64 cs, .int .i64 ce, .int .i64 cd] 23)) ⟨w.heap.size, 0, none⟩ = some (.int .i64 cs) := by simp [go_sem]
  have c1 : World.cell? (w.alloc (.cells #[.int .i64 cs, .int .i64 ce, .int .i64 cd] 23)) ⟨w.heap.size, 1, none⟩ = some (.int .i64 ce) := by simp [go_sem]
  have c2 : World.cell? (w.alloc (.cells #[.int .i64 cs, .int .i64 ce, .int .i64 cd] 23)) ⟨w.heap.size, 2, none⟩ = some (.int .i64 cd) := by simp [go_sem]
  have gc : w.heap.size < (w.alloc (.cells #[.int .i64 cs, .int .i64 ce, .int .i64 cd] 23)).heap.size := by simp <;> omega
  have B := Lib.hid (show Below w.heap.size w (w.alloc (.cells #[.int .i64 cs, .int .i64 ce, .int .i64 cd] 23)) from ((Below.refl _ _).alloc (by simp; try omega) _))
  generalize w.alloc (.cells #[.int .i64 cs, .int .i64 ce, .int .i64 cd] 23) = V1 at *
  refine (head_any _).mono ?_
  rintro e' w2 ⟨rfl, hb⟩
  replace B := Lib.hid (on_below B.out hb)
  replace c0 := keepc hb c0
  replace c1 := keepc hb c1
  replace c2 := keepc hb c2
  replace gc := Nat.lt_of_lt_of_le gc hb.size
  clear hb
  go_wp2_with fail
  refine (reads_b cs ce cd x _ H1.out _).mono ?_
  rintro e' w3 ⟨rfl, hb⟩
  replace B := Lib.hid (on_below B.out hb)
  replace c0 := keepc hb c0
  replace c1 := keepc hb c1
  replace c2 := keepc hb c2
  replace gc := Nat.lt_of_lt_of_le gc hb.size
  clear hb
  go_wp2_with fail
  refine (reads_b cs ce cd y _ H2.out _).mono ?_
  rintro e' w4 ⟨rfl, hb⟩
  replace B := Lib.hid (on_below B.out hb)
  replace c0 := keepc hb c0
  replace c1 := keepc hb c1
  replace c2 := keepc hb c2
  replace gc := Nat.lt_of_lt_of_le gc hb.size
  clear hb
  go_wp2_with fail
  refine (true_is cs ce cd x F U 0 P1.out P2.out P3.out _).mono ?_
  rintro e' w5 ⟨rfl, hb⟩
  replace B := Lib.hid (on_below B.out hb)
  replace c0 := keepc hb c0
  replace c1 := keepc hb c1
  replace c2 := keepc hb c2
  replace gc := Nat.lt_of_lt_of_le gc hb.size
  clear hb
  go_wp2_with fail
  have s0 : World.cell? (w5.alloc (.cells #[.int .i64 F, .int .i64 U] 25)) ⟨w5.heap.size, 0, none⟩ = some (.int .i64 F) := by simp [go_sem]
  have s1 : World.cell? (w5.alloc (.cells #[.int .i64 F, .int .i64 U] 25)) ⟨w5.heap.size, 1, none⟩ = some (.int .i64 U) := by simp [go_sem]
  have gs : w5.heap.size < (w5.alloc (.cells #[.int .i64 F, .int .i64 U] 25)).heap.size := by simp <;> omega
  have hb : Below w5.heap.size w5 (w5.alloc (.cells #[.int .i64 F, .int .i64 U] 25)) := ((Below.refl _ _).alloc (by simp; try omega) _)
  generalize w5.alloc (.cells #[.int .i64 F, .int .i64 U] 25) = V6 at *
  replace B := Lib.hid (on_below B.out hb)
  replace c0 := keepc hb c0
  replace c1 := keepc hb c1
  replace c2 := keepc hb c2
  replace gc := Nat.lt_of_lt_of_le gc hb.size
  clear hb
  refine (true_is cs ce cd y F' U' 0 Q1.out Q2.out Q3.out _).mono ?_
  rintro e' w7 ⟨rfl, hb⟩
  replace B := Lib.hid (on_below B.out hb)
  replace c0 := keepc hb c0
  replace c1 := keepc hb c1
  replace c2 := keepc hb c2
  replace s0 := keepc hb s0
  replace s1 := keepc hb s1
  replace gc := Nat.lt_of_lt_of_le gc hb.size
  replace gs := Nat.lt_of_lt_of_le gs hb.size
  clear hb
  go_wp2_with fail
  all_goals go_ret
  all_goals exact ⟨rfl, B.out.alloc B.out.size _⟩
set_option maxRecDepth 100000 in
set_option maxHeartbeats 1000000 in
theorem eq (cs : Int) (ics : I64 cs) (ce : Int) (ice : I64 ce) (cd : Int) (icd : I64 cd) (x : Int) (ix : I64 x) (y : Int) (iy : I64 y) (w : World) (hx : x = y) (F U F' U' : Int) (h1 : rds cs ce cd x = true) (h2 : rds cs ce cd y = true) (p1 : tF cs ce cd x = F) (p2 : tU cs ce cd x = U) (p3 : tE cs ce cd x = 0) (q1 : tF cs ce cd y = F') (q2 : tU cs ce cd y = U') (q3 : tE cs ce cd y = 0) (l1 : F ≤ F') (l2 : U ≤ U') :
    Calls Try.prog 5 #[.agg #[.int .i64 cs, .int .i64 ce, .int .i64 cd], .int .i64 x, .int .i64 y] w fun e w' => e = .returned (.bool true) ∧ Below w.heap.size w w' := by
  subst hx
  have H1 := Lib.hid h1
  clear h1
  have H2 := Lib.hid h2
  clear h2
  have P1 := Lib.hid p1
  clear p1
  have P2 := Lib.hid p2
  clear p2
  have P3 := Lib.hid p3
  clear p3
  have Q1 := Lib.hid q1
  clear q1
  have Q2 := Lib.hid q2
  clear q2
  have Q3 := Lib.hid q3
  clear q3
  go_enter Try.func5, Try.ntmps5
  go_wp2_with fail
  have c0 : World.cell? (w.alloc (.cells #[.int .i64 cs, .int .i64 ce, .int .i64 cd] 23)) ⟨w.heap.size, 0, none⟩ = some (.int .i64 cs) := by simp [go_sem]
  have c1 : World.cell? (w.alloc (.cells #[.int .i64 cs, .int .i64 ce, .int .i64 cd] 23)) ⟨w.heap.size, 1, none⟩ = some (.int .i64 ce) := by simp [go_sem]
  have c2 : World.cell? (w.alloc (.cells #[.int .i64 cs, .int .i64 ce, .int .i64 cd] 23)) ⟨w.heap.size, 2, none⟩ = some (.int .i64 cd) := by simp [go_sem]
  have gc : w.heap.size < (w.alloc (.cells #[.int .i64 cs, .int .i64 ce, .int .i64 cd] 23)).heap.size := by simp <;> omega
  have B := Lib.hid (show Below w.heap.size w (w.alloc (.cells #[.int .i64 cs, .int .i64 ce, .int .i64 cd] 23)) from ((Below.refl _ _).alloc (by simp; try omega) _))
  generalize w.alloc (.cells #[.int .i64 cs, .int .i64 ce, .int .i64 cd] 23) = V1 at *
  refine (head_any _).mono ?_
  rintro e' w2 ⟨rfl, hb⟩
  replace B := Lib.hid (on_below B.out hb)
  replace c0 := keepc hb c0
  replace c1 := keepc hb c1
  replace c2 := keepc hb c2
  replace gc := Nat.lt_of_lt_of_le gc hb.size
  clear hb
  go_wp2_with fail
  refine (reads_b cs ce cd x _ H1.out _).mono ?_
  rintro e' w3 ⟨rfl, hb⟩
  replace B := Lib.hid (on_below B.out hb)
  replace c0 := keepc hb c0
  replace c1 := keepc hb c1
  replace c2 := keepc hb c2
  replace gc := Nat.lt_of_lt_of_le gc hb.size
  clear hb
  go_wp2_with fail
  refine (reads_b cs ce cd x _ H2.out _).mono ?_
  rintro e' w4 ⟨rfl, hb⟩
  replace B := Lib.hid (on_below B.out hb)
  replace c0 := keepc hb c0
  replace c1 := keepc hb c1
  replace c2 := keepc hb c2
  replace gc := Nat.lt_of_lt_of_le gc hb.size
  clear hb
  go_wp2_with fail
  refine (true_is cs ce cd x F U 0 P1.out P2.out P3.out _).mono ?_
  rintro e' w5 ⟨rfl, hb⟩
  replace B := Lib.hid (on_below B.out hb)
  replace c0 := keepc hb c0
  replace c1 := keepc hb c1
  replace c2 := keepc hb c2
  replace gc := Nat.lt_of_lt_of_le gc hb.size
  clear hb
  go_wp2_with fail
  have s0 : World.cell? (w5.alloc (.cells #[.int .i64 F, .int .i64 U] 25)) ⟨w5.heap.size, 0, none⟩ = some (.int .i64 F) := by simp [go_sem]
  have s1 : World.cell? (w5.alloc (.cells #[.int .i64 F, .int .i64 U] 25)) ⟨w5.heap.size, 1, none⟩ = some (.int .i64 U) := by simp [go_sem]
  have gs : w5.heap.size < (w5.alloc (.cells #[.int .i64 F, .int .i64 U] 25)).heap.size := by simp <;> omega
  have hb : Below w5.heap.size w5 (w5.alloc (.cells #[.int .i64 F, .int .i64 U] 25)) := ((Below.refl _ _).alloc (by simp; try omega) _)
  generalize w5.alloc (.cells #[.int .i64 F, .int .i64 U] 25) = V6 at *
  replace B := Lib.hid (on_below B.out hb)
  replace c0 := keepc hb c0
  replace c1 := keepc hb c1
  replace c2 := keepc hb c2
  replace gc := Nat.lt_of_lt_of_le gc hb.size
  clear hb
  refine (true_is cs ce cd x F' U' 0 Q1.out Q2.out Q3.out _).mono ?_
  rintro e' w7 ⟨rfl, hb⟩
  replace B := Lib.hid (on_below B.out hb)
  replace c0 := keepc hb c0
  replace c1 := keepc hb c1
  replace c2 := keepc hb c2
  replace s0 := keepc hb s0
  replace s1 := keepc hb s1
  replace gc := Nat.lt_of_lt_of_le gc hb.size
  replace gs := Nat.lt_of_lt_of_le gs hb.size
  clear hb
  go_wp2_with fail
  all_goals go_ret
  all_goals exact ⟨rfl, B.out.alloc B.out.size _⟩
set_option maxRecDepth 100000 in
set_option maxHeartbeats 1000000 in
theorem gt (cs : Int) (ics : I64 cs) (ce : Int) (ice : I64 ce) (cd : Int) (icd : I64 cd) (x : Int) (ix : I64 x) (y : Int) (iy : I64 y) (w : World) (hx : y < x) (F U F' U' : Int) (h1 : rds cs ce cd x = true) (h2 : rds cs ce cd y = true) (p1 : tF cs ce cd y = F) (p2 : tU cs ce cd y = U) (p3 : tE cs ce cd y = 0) (q1 : tF cs ce cd x = F') (q2 : tU cs ce cd x = U') (q3 : tE cs ce cd x = 0) (l1 : F ≤ F') (l2 : U ≤ U') :
    Calls Try.prog 5 #[.agg #[.int .i64 cs, .int .i64 ce, .int .i64 cd], .int .i64 x, .int .i64 y] w fun e w' => e = .returned (.bool true) ∧ Below w.heap.size w w' := by
  have H1 := Lib.hid h1
  clear h1
  have H2 := Lib.hid h2
  clear h2
  have P1 := Lib.hid p1
  clear p1
  have P2 := Lib.hid p2
  clear p2
  have P3 := Lib.hid p3
  clear p3
  have Q1 := Lib.hid q1
  clear q1
  have Q2 := Lib.hid q2
  clear q2
  have Q3 := Lib.hid q3
  clear q3
  go_enter Try.func5, Try.ntmps5
  go_wp2_with fail
  have c0 : World.cell? (w.alloc (.cells #[.int .i64 cs, .int .i64 ce, .int .i64 cd] 23)) ⟨w.heap.size, 0, none⟩ = some (.int .i64 cs) := by simp [go_sem]
  have c1 : World.cell? (w.alloc (.cells #[.int .i64 cs, .int .i64 ce, .int .i64 cd] 23)) ⟨w.heap.size, 1, none⟩ = some (.int .i64 ce) := by simp [go_sem]
  have c2 : World.cell? (w.alloc (.cells #[.int .i64 cs, .int .i64 ce, .int .i64 cd] 23)) ⟨w.heap.size, 2, none⟩ = some (.int .i64 cd) := by simp [go_sem]
  have gc : w.heap.size < (w.alloc (.cells #[.int .i64 cs, .int .i64 ce, .int .i64 cd] 23)).heap.size := by simp <;> omega
  have B := Lib.hid (show Below w.heap.size w (w.alloc (.cells #[.int .i64 cs, .int .i64 ce, .int .i64 cd] 23)) from ((Below.refl _ _).alloc (by simp; try omega) _))
  generalize w.alloc (.cells #[.int .i64 cs, .int .i64 ce, .int .i64 cd] 23) = V1 at *
  refine (head_any _).mono ?_
  rintro e' w2 ⟨rfl, hb⟩
  replace B := Lib.hid (on_below B.out hb)
  replace c0 := keepc hb c0
  replace c1 := keepc hb c1
  replace c2 := keepc hb c2
  replace gc := Nat.lt_of_lt_of_le gc hb.size
  clear hb
  go_wp2_with fail
  refine (reads_b cs ce cd x _ H1.out _).mono ?_
  rintro e' w3 ⟨rfl, hb⟩
  replace B := Lib.hid (on_below B.out hb)
  replace c0 := keepc hb c0
  replace c1 := keepc hb c1
  replace c2 := keepc hb c2
  replace gc := Nat.lt_of_lt_of_le gc hb.size
  clear hb
  go_wp2_with fail
  refine (reads_b cs ce cd y _ H2.out _).mono ?_
  rintro e' w4 ⟨rfl, hb⟩
  replace B := Lib.hid (on_below B.out hb)
  replace c0 := keepc hb c0
  replace c1 := keepc hb c1
  replace c2 := keepc hb c2
  replace gc := Nat.lt_of_lt_of_le gc hb.size
  clear hb
  go_wp2_with fail
  refine (true_is cs ce cd y F U 0 P1.out P2.out P3.out _).mono ?_
  rintro e' w5 ⟨rfl, hb⟩
  replace B := Lib.hid (on_below B.out hb)
  replace c0 := keepc hb c0
  replace c1 := keepc hb c1
  replace c2 := keepc hb c2
  replace gc := Nat.lt_of_lt_of_le gc hb.size
  clear hb
  go_wp2_with fail
  have s0 : World.cell? (w5.alloc (.cells #[.int .i64 F, .int .i64 U] 25)) ⟨w5.heap.size, 0, none⟩ = some (.int .i64 F) := by simp [go_sem]
  have s1 : World.cell? (w5.alloc (.cells #[.int .i64 F, .int .i64 U] 25)) ⟨w5.heap.size, 1, none⟩ = some (.int .i64 U) := by simp [go_sem]
  have gs : w5.heap.size < (w5.alloc (.cells #[.int .i64 F, .int .i64 U] 25)).heap.size := by simp <;> omega
  have hb : Below w5.heap.size w5 (w5.alloc (.cells #[.int .i64 F, .int .i64 U] 25)) := ((Below.refl _ _).alloc (by simp; try omega) _)
  generalize w5.alloc (.cells #[.int .i64 F, .int .i64 U] 25) = V6 at *
  replace B := Lib.hid (on_below B.out hb)
  replace c0 := keepc hb c0
  replace c1 := keepc hb c1
  replace c2 := keepc hb c2
  replace gc := Nat.lt_of_lt_of_le gc hb.size
  clear hb
  refine (true_is cs ce cd x F' U' 0 Q1.out Q2.out Q3.out _).mono ?_
  rintro e' w7 ⟨rfl, hb⟩
  replace B := Lib.hid (on_below B.out hb)
  replace c0 := keepc hb c0
  replace c1 := keepc hb c1
  replace c2 := keepc hb c2
  replace s0 := keepc hb s0
  replace s1 := keepc hb s1
  replace gc := Nat.lt_of_lt_of_le gc hb.size
  replace gs := Nat.lt_of_lt_of_le gs hb.size
  clear hb
  go_wp2_with fail
  all_goals go_ret
  all_goals exact ⟨rfl, B.out.alloc B.out.size _⟩

theorem walk (cs : Int) (ics : I64 cs) (ce : Int) (ice : I64 ce) (cd : Int) (icd : I64 cd) (x : Int) (ix : I64 x) (y : Int) (iy : I64 y) (w : World) :
    Calls Try.prog 5 #[.agg #[.int .i64 cs, .int .i64 ce, .int .i64 cd], .int .i64 x, .int .i64 y] w fun e w' => e = .returned (.bool true) ∧ Below w.heap.size w w' := by
  cases h1 : rds cs ce cd x with
  | false => exact no1 cs ics ce ice cd icd x ix y iy w h1
  | true =>
    cases h2 : rds cs ce cd y with
    | false => exact no2 cs ics ce ice cd icd x ix y iy w h1 h2
    | true =>
      have a3 : ∀ {p q : Int}, rds cs ce cd p = true → rds cs ce cd q = true → p ≤ q → frm cs ce cd p ≤ frm cs ce cd q ∧ unt cs ce cd p ≤ unt cs ce cd q := fun a b c => progress a b c
      rcases Int.lt_trichotomy x y with hx | hx | hx
      · exact lt cs ics ce ice cd icd x ix y iy w hx _ _ _ _ h1 h2 (tF_ok h1) (tU_ok h1) (tE_ok h1) (tF_ok h2) (tU_ok h2) (tE_ok h2) (a3 h1 h2 (by omega)).1 (a3 h1 h2 (by omega)).2
      · exact eq cs ics ce ice cd icd x ix y iy w hx _ _ _ _ h1 h2 (tF_ok h1) (tU_ok h1) (tE_ok h1) (tF_ok h2) (tU_ok h2) (tE_ok h2) (a3 h1 h2 (by omega)).1 (a3 h1 h2 (by omega)).2
      · exact gt cs ics ce ice cd icd x ix y iy w hx _ _ _ _ h1 h2 (tF_ok h2) (tU_ok h2) (tE_ok h2) (tF_ok h1) (tU_ok h1) (tE_ok h1) (a3 h2 h1 (by omega)).1 (a3 h2 h1 (by omega)).2

/-! ### The row -/
open Go.ChangeShapes Go.WideShapes Go.ChangeAt Go.Joins
theorem own : ownKnob Try.prog.godebug = none := by kernel_rfl
noncomputable def laidWorld (os : Os) : World := World.holding Try.prog os ⟨#[], #[], []⟩
theorem laidWorld_met (os : Os) (args : Array Value) : laidMet Try.prog [] ((laidWorld os).forCall (fun _ _ => 0) ⟨#[], args, []⟩).memory :=
  laidMet_of_run' 8 (by kernel_rfl) (by kernel_rfl)

set_option maxRecDepth 100000 in
theorem contract (H : Type) (enc : TypeId × Value → H) (W : World) (base : Nat) (args : Array Value) (ds gs : List (DataW H)) (before : List MemPlace)
    (hval : ∀ (j : Nat) t v, Try.f5.params[j]? = some t → args[j]? = some v → Value.okWide Try.prog W .any base t v)
    (hW : DataW.Whole enc Try.prog Try.f5.params.toList Rows.clockProgressSpec.vars false W args.toList ds gs before) :
    Calls Try.prog 5 args W fun e W' => ∃ v, e = .returned v ∧ Rows.clockProgressSpec.post enc Try.prog Try.f5 false true false false W args v W' := by
  have hW' := hW
  obtain ⟨p, q, hA0, hV, rfl, hfz, hnd⟩ := hW
  have hA : DataW.TrodAll enc Try.prog W 0 (fun _ => true) true Try.f5.params.toList args.toList ds p := hA0
  rw [Try.params5] at hA hval
  obtain ⟨v0, vs0, d0, ds0, p0, q0, hargs, rfl, rfl, h0, r0⟩ := trodAll_cons hA
  obtain ⟨v1, vs1, d1, ds1, p1, q1, rfl, rfl, rfl, h1, r1⟩ := trodAll_cons r0
  obtain ⟨v2, vs2, d2, ds2, p2, q2, rfl, rfl, rfl, h2, r2⟩ := trodAll_cons r1
  obtain ⟨rfl, rfl, rfl⟩ := trodAll_nil r2
  obtain rfl : args = #[v0, v1, v2] := Array.toList_inj.1 hargs
  obtain ⟨rfl, rfl⟩ := trodVars_none hV
  obtain ⟨cs, ce, cd, rfl, rfl, rfl, ics, ice, icd⟩ := open_clock (hval 0 23 v0 rfl rfl) h0
  obtain ⟨x, rfl, rfl, rfl, wx⟩ := open_int Try.underlying3 (hval 1 3 v1 rfl rfl) h1
  obtain ⟨y, rfl, rfl, rfl, wy⟩ := open_int Try.underlying3 (hval 2 3 v2 rfl rfl) h2
  clear hA0
  refine (walk cs (wf_i ics) ce (wf_i ice) cd (wf_i icd) x (wf_i wx) y (wf_i wy) W).mono fun e W' ⟨he, bel⟩ => ?_
  subst he
  exact ⟨_, rfl, _, _, _, [], _, [], hW', trodAll_mk1 (shut_bool Try.underlying4 _), (trodAll_cons_mk (shut_clock ics ice icd) (trodAll_cons_mk (shut_int Try.underlying3 wx) (trodAll_cons_mk (shut_int Try.underlying3 wy) trodAll_mk0))), rfl, bel.frame _, fun h => by cases h⟩

theorem reads (os : Os) {H : Type} (enc : TypeId × Value → H) : ∃ places, DataW.whole enc Try.prog ((laidWorld os).forCall (fun _ _ => 0) ⟨#[], #[.agg #[.int .i64 0, .int .i64 0, .int .i64 0], .int .i64 0, .int .i64 0], []⟩).memory Try.f5.params.toList Rows.clockProgressSpec.vars false (#[.agg #[.int .i64 0, .int .i64 0, .int .i64 0], .int .i64 0, .int .i64 0] : Array Value).toList 8 = some ([.agg [.lit (.int .i64 0), .lit (.int .i64 0), .lit (.int .i64 0)], .lit (.int .i64 0), .lit (.int .i64 0)], [], places) :=
  ⟨[], by kernel_rfl⟩

set_option maxRecDepth 100000 in
theorem lifted (os : Os) (started : os.Started) (H : Type) (enc : TypeId × Value → H) (F : Stop.Interp) :
    ReturnsInHanded {} Try.checked os 5 .any ((OpenSpec.ofChange Rows.clockProgressSpec).preRow enc Try.prog Try.f5 Rows.clockProgressRow.domain false Rows.clockProgressRow.laid) (((OpenSpec.ofChange Rows.clockProgressSpec).at F).post enc Try.prog Try.f5 false true false false) := by
  obtain ⟨places, hx⟩ := reads os enc
  refine returnsInHanded_of_row (C := Try.checked) (s := OpenSpec.ofChange Rows.clockProgressSpec) own started (by kernel_rfl) Try.func5
    (witness_row_atRef (enc := enc) (C := Try.checked) false (laidWorld os) #[.agg #[.int .i64 0, .int .i64 0, .int .i64 0], .int .i64 0, .int .i64 0] rfl (by kernel_rfl) (by kernel_rfl) (by kernel_rfl)
      (OpenSpec.preRow_of_cond 8 hx (by kernel_rfl) (fun k hk => by cases hk) (by kernel_rfl) (laidWorld_met os _))) ?_
  intro W base args ds gs before hval hW _ hcond _ hL hsh _
  exact contract H enc W base args ds gs before hval hW

/-- The statement. -/
theorem said : Rows.ClockProgressSaid :=
  OpenClaim.holds_of_cond 5 Try.f5 rfl rfl rfl rfl rfl rfl rfl ⟨rfl, rfl, rfl, rfl, rfl⟩ rfl rfl rfl rfl rfl (by kernel_rfl) Try.func5 (by kernel_rfl)
    (of_decide_eq_true (by kernel_rfl)) (by unfold Func.isWrapper; first | (rw [if_pos (by decide +kernel)]; kernel_rfl) | (rw [if_neg (by decide +kernel)]; exact ⟨rfl, rfl⟩))
    (fun os started H enc _ F => by rw [OpenClaim.pre_eq_preRow]; exact lifted os started H enc F)
end Go.Proofs.Ytnjhepkfjohdnaa.clockProgress
