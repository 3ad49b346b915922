/-
  ClockPassed: what has surely come stays so at later readings and for earlier times; Passed says on which side all true times are.
  Conditions: none besides the row's.
-/
import Derived.Test.YtnjhepkfjohdnaaClkM
import Derived.Test.YtnjhepkfjohdnaaRows
import Derived.ProofKit
import Derived.OpenShut
import Derived.Deep.DeepHandedRow
import Derived.Deep.DeepWitnessRowRef
import Derived.MakeChecks
namespace Go.Proofs.Ytnjhepkfjohdnaa.clockPassed
open Go.RowKit Go.Sort
open Go.RowKit (Below)
set_option linter.unusedVariables false
set_option linter.unusedSimpArgs false
set_option maxRecDepth 100000 in
set_option maxHeartbeats 1000000 in
theorem no1 (cs : Int) (ics : I64 cs) (ce : Int) (ice : I64 ce) (cd : Int) (icd : I64 cd) (x : Int) (ix : I64 x) (y : Int) (iy : I64 y) (s : Int) (is : I64 s) (t : Int) (it : I64 t) (w : World) (hx : y < x) :
    Calls Try.prog 6 #[.agg #[.int .i64 cs, .int .i64 ce, .int .i64 cd], .int .i64 x, .int .i64 y, .int .i64 s, .int .i64 t] w fun e w' => e = .returned (.bool true) ∧ Below w.heap.size w w' := by
  go_enter Try.func6, Try.ntmps6
  go_wp2_with fail
  have c0 : World.cell? (w.alloc (.cells #[.int .i64 cs, .int .i64 ce, .int .i64 cd] 23)) ⟨w.heap.size, 0, none⟩ = some (.int .i64 cs) := by simp [go_sem]
  have c1 : World.cell? (w.alloc (.cells #[.int .i64 cs, .int .i64 ce, .int .i64 cd] 23)) ⟨w.heap.size, 1, none⟩ = some (.int .i64 ce) := by simp [go_sem]
  have c2 : World.cell? (w.alloc (.cells #[.int .i64 cs, .int .i64 ce, .int .i64 cd] 23)) ⟨w.heap.size, 2, none⟩ = some (.int .i64 cd) := by simp [go_sem]
  have gc : w.heap.size < (w.alloc (.cells #[.int .i64 cs, .int .i64 ce, .int .i64 cd] 23)).heap.size := by simp <;> omega
  have B := Lib.hid (show Below w.heap.size w (w.alloc (.cells #[.int .i64 cs, .int .i64 ce, .int .i64 cd] 23)) from ((Below.refl _ _).alloc (by simp; try omega) _))
  generalize w.alloc (.cells #[.int .i64 cs, .int .i64 ce, .int .i64 cd] 23) = V1 at *
  refine (head_any _).mono ?_
  rintro e' w2 ⟨rfl, hb⟩
  replace B := Lib.hid (on_below B.out hb)
  replace c0 := keepc hb c0
  replace c1 := keepc hb c1
  replace c2 := keepc hb c2
  replace gc := Nat.lt_of_lt_of_le gc hb.size
  clear hb
  go_wp2_with fail
  all_goals go_ret
  all_goals exact ⟨rfl, B.out⟩
set_option maxRecDepth 100000 in
set_option maxHeartbeats 1000000 in
theorem no2 (cs : Int) (ics : I64 cs) (ce : Int) (ice : I64 ce) (cd : Int) (icd : I64 cd) (x : Int) (ix : I64 x) (y : Int) (iy : I64 y) (s : Int) (is : I64 s) (t : Int) (it : I64 t) (w : World) (hx : x ≤ y) (hs : t < s) :
    Calls Try.prog 6 #[.agg #[.int .i64 cs, .int .i64 ce, .int .i64 cd], .int .i64 x, .int .i64 y, .int .i64 s, .int .i64 t] w fun e w' => e = .returned (.bool true) ∧ Below w.heap.size w w' := by
  go_enter Try.func6, Try.ntmps6
  go_wp2_with fail
  have c0 : World.cell? (w.alloc (.cells #[.int .i64 cs, .int .i64 ce, .int .i64 cd] 23)) ⟨w.heap.size, 0, none⟩ = some (.int .i64 cs) := by simp [go_sem]
  have c1 : World.cell? (w.alloc (.cells #[.int .i64 cs, .int .i64 ce, .int .i64 cd] 23)) ⟨w.heap.size, 1, none⟩ = some (.int .i64 ce) := by simp [go_sem]
  have c2 : World.cell? (w.alloc (.cells #[.int .i64 cs, .int .i64 ce, .int .i64 cd] 23)) ⟨w.heap.size, 2, none⟩ = some (.int .i64 cd) := by simp [go_sem]
  have gc : w.heap.size < (w.alloc (.cells #[.int .i64 cs, .int .i64 ce, .int .i64 cd] 23)).heap.size := by simp <;> omega
  have B := Lib.hid (show Below w.heap.size w (w.alloc (.cells #[.int .i64 cs, .int .i64 ce, .int .i64 cd] 23)) from ((Below.refl _ _).alloc (by simp; try omega) _))
  generalize w.alloc (.cells #[.int .i64 cs, .int .i64 ce, .int .i64 cd] 23) = V1 at *
  refine (head_any _).mono ?_
  rintro e' w2 ⟨rfl, hb⟩
  replace B := Lib.hid (on_below B.out hb)
  replace c0 := keepc hb c0
  replace c1 := keepc hb c1
  replace c2 := keepc hb c2
  replace gc := Nat.lt_of_lt_of_le gc hb.size
  clear hb
  go_wp2_with fail
  all_goals go_ret
  all_goals exact ⟨rfl, B.out⟩
set_option maxRecDepth 100000 in
set_option maxHeartbeats 1000000 in
theorem no3 (cs : Int) (ics : I64 cs) (ce : Int) (ice : I64 ce) (cd : Int) (icd : I64 cd) (x : Int) (ix : I64 x) (y : Int) (iy : I64 y) (s : Int) (is : I64 s) (t : Int) (it : I64 t) (w : World) (hx : x ≤ y) (hs : s ≤ t) (h1 : rds cs ce cd x = false) :
    Calls Try.prog 6 #[.agg #[.int .i64 cs, .int .i64 ce, .int .i64 cd], .int .i64 x, .int .i64 y, .int .i64 s, .int .i64 t] w fun e w' => e = .returned (.bool true) ∧ Below w.heap.size w w' := by
  have H1 := Lib.hid h1
  clear h1
  go_enter Try.func6, Try.ntmps6
  go_wp2_with fail
  have c0 : World.cell? (w.alloc (.cells #[.int .i64 cs, .int .i64 ce, .int .i64 cd] 23)) ⟨w.heap.size, 0, none⟩ = some (.int .i64 cs) := by simp [go_sem]
  have c1 : World.cell? (w.alloc (.cells #[.int .i64 cs, .int .i64 ce, .int .i64 cd] 23)) ⟨w.heap.size, 1, none⟩ = some (.int .i64 ce) := by simp [go_sem]
  have c2 : World.cell? (w.alloc (.cells #[.int .i64 cs, .int .i64 ce, .int .i64 cd] 23)) ⟨w.heap.size, 2, none⟩ = some (.int .i64 cd) := by simp [go_sem]
  have gc : w.heap.size < (w.alloc (.cells #[.int .i64 cs, .int .i64 ce, .int .i64 cd] 23)).heap.size := by simp <;> omega
  have B := Lib.hid (show Below w.heap.size w (w.alloc (.cells #[.int .i64 cs, .int .i64 ce, .int .i64 cd] 23)) from ((Below.refl _ _).alloc (by simp; try omega) _))
  generalize w.alloc (.cells #[.int .i64 cs, .int .i64 ce, .int .i64 cd] 23) = V1 at *
  refine (head_any _).mono ?_
  rintro e' w2 ⟨rfl, hb⟩
  replace B := Lib.hid (on_below B.out hb)
  replace c0 := keepc hb c0
  replace c1 := keepc hb c1
  replace c2 := keepc hb c2
  replace gc := Nat.lt_of_lt_of_le gc hb.size
  clear hb
  go_wp2_with fail
  refine (reads_b cs ce cd x _ H1.out _).mono ?_
  rintro e' w3 ⟨rfl, hb⟩
  replace B := Lib.hid (on_below B.out hb)
  replace c0 := keepc hb c0
  replace c1 := keepc hb c1
  replace c2 := keepc hb c2
  replace gc := Nat.lt_of_lt_of_le gc hb.size
  clear hb
  go_wp2_with fail
  all_goals go_ret
  all_goals exact ⟨rfl, B.out⟩
set_option maxRecDepth 100000 in
set_option maxHeartbeats 1000000 in
theorem no4 (cs : Int) (ics : I64 cs) (ce : Int) (ice : I64 ce) (cd : Int) (icd : I64 cd) (x : Int) (ix : I64 x) (y : Int) (iy : I64 y) (s : Int) (is : I64 s) (t : Int) (it : I64 t) (w : World) (hx : x ≤ y) (hs : s ≤ t) (h1 : rds cs ce cd x = true) (h2 : rds cs ce cd y = false) :
    Calls Try.prog 6 #[.agg #[.int .i64 cs, .int .i64 ce, .int .i64 cd], .int .i64 x, .int .i64 y, .int .i64 s, .int .i64 t] w fun e w' => e = .returned (.bool true) ∧ Below w.heap.size w w' := by
  have H1 := Lib.hid h1
  clear h1
  have H2 := Lib.hid h2
  clear h2
  go_enter Try.func6, Try.ntmps6
  go_wp2_with fail
  have c0 : World.cell? (w.alloc (.cells #[.int .i64 cs, .int .i64 ce, .int .i64 cd] 23)) ⟨w.heap.size, 0, none⟩ = some (.int .i64 cs) := by simp [go_sem]
  have c1 : World.cell? (w.alloc (.cells #[.int .i64 cs, .int .i64 ce, .int .i64 cd] 23)) ⟨w.heap.size, 1, none⟩ = some (.int .i64 ce) := by simp [go_sem]
  have c2 : World.cell? (w.alloc (.cells #[.int .i64 cs, .int .i64 ce, .int .i64 cd] 23)) ⟨w.heap.size, 2, none⟩ = some (.int .i64 cd) := by simp [go_sem]
  have gc : w.heap.size < (w.alloc (.cells #[.int .i64 cs, .int .i64 ce, .int .i64 cd] 23)).heap.size := by simp <;> omega
  have B := Lib.hid (show Below w.heap.size w (w.alloc (.cells #[.int .i64 cs, .int .i64 ce, .int .i64 cd] 23)) from ((Below.refl _ _).alloc (by simp; try omega) _))
  generalize w.alloc (.cells #[.int .i64 cs, .int .i64 ce, .int .i64 cd] 23) = V1 at *
  refine (head_any _).mono ?_
  rintro e' w2 ⟨rfl, hb⟩
  replace B := Lib.hid (on_below B.out hb)
  replace c0 := keepc hb c0
  replace c1 := keepc hb c1
  replace c2 := keepc hb c2
  replace gc := Nat.lt_of_lt_of_le gc hb.size
  clear hb
  go_wp2_with fail
  refine (reads_b cs ce cd x _ H1.out _).mono ?_
  rintro e' w3 ⟨rfl, hb⟩
  replace B := Lib.hid (on_below B.out hb)
  replace c0 := keepc hb c0
  replace c1 := keepc hb c1
  replace c2 := keepc hb c2
  replace gc := Nat.lt_of_lt_of_le gc hb.size
  clear hb
  go_wp2_with fail
  refine (reads_b cs ce cd y _ H2.out _).mono ?_
  rintro e' w4 ⟨rfl, hb⟩
  replace B := Lib.hid (on_below B.out hb)
  replace c0 := keepc hb c0
  replace c1 := keepc hb c1
  replace c2 := keepc hb c2
  replace gc := Nat.lt_of_lt_of_le gc hb.size
  clear hb
  go_wp2_with fail
  all_goals go_ret
  all_goals exact ⟨rfl, B.out⟩
set_option maxRecDepth 100000 in
set_option maxHeartbeats 1000000 in
theorem one (cs : Int) (ics : I64 cs) (ce : Int) (ice : I64 ce) (cd : Int) (icd : I64 cd) (x : Int) (ix : I64 x) (y : Int) (iy : I64 y) (s : Int) (is : I64 s) (t : Int) (it : I64 t) (w : World) (hx : x ≤ y) (hs : s ≤ t) (F U q : Int) (l1 : t ≤ F) (l2 : t < U) (lq : 1 ≤ q) (lr : q ≤ 1) (h1 : rds cs ce cd x = true) (h2 : rds cs ce cd y = true) (p1 : pV cs ce cd x t = 1) (p2 : tE cs ce cd x = 0) (q1 : pV cs ce cd y s = q) (q2 : tE cs ce cd y = 0) (t1 : tF cs ce cd x = F) (t2 : tU cs ce cd x = U) :
    Calls Try.prog 6 #[.agg #[.int .i64 cs, .int .i64 ce, .int .i64 cd], .int .i64 x, .int .i64 y, .int .i64 s, .int .i64 t] w fun e w' => e = .returned (.bool true) ∧ Below w.heap.size w w' := by
  have H1 := Lib.hid h1
  clear h1
  have H2 := Lib.hid h2
  clear h2
  have P1 := Lib.hid p1
  clear p1
  have P2 := Lib.hid p2
  clear p2
  have Q1 := Lib.hid q1
  clear q1
  have Q2 := Lib.hid q2
  clear q2
  have T1 := Lib.hid t1
  clear t1
  have T2 := Lib.hid t2
  clear t2
  go_enter Try.func6, Try.ntmps6
  go_wp2_with fail
  have c0 : World.cell? (w.alloc (.cells #[.int .i64 cs, .int .i64 ce, .int .i64 cd] 23)) ⟨w.heap.size, 0, none⟩ = some (.int .i64 cs) := by simp [go_sem]
  have c1 : World.cell? (w.alloc (.cells #[.int .i64 cs, .int .i64 ce, .int .i64 cd] 23)) ⟨w.heap.size, 1, none⟩ = some (.int .i64 ce) := by simp [go_sem]
  have c2 : World.cell? (w.alloc (.cells #[.int .i64 cs, .int .i64 ce, .int .i64 cd] 23)) ⟨w.heap.size, 2, none⟩ = some (.int .i64 cd) := by simp [go_sem]
  have gc : w.heap.size < (w.alloc (.cells #[.int .i64 cs, .int .i64 ce, .int .i64 cd] 23)).heap.size := by simp <;> omega
  have B := Lib.hid (show Below w.heap.size w (w.alloc (.cells #[.int .i64 cs, .int .i64 ce, .int .i64 cd] 23)) from ((Below.refl _ _).alloc (by simp; try omega) _))
  generalize w.alloc (.cells #[.int .i64 cs, .int .i64 ce, .int .i64 cd] 23) = V1 at *
  refine (head_any _).mono ?_
  rintro e' w2 ⟨rfl, hb⟩
  replace B := Lib.hid (on_below B.out hb)
  replace c0 := keepc hb c0
  replace c1 := keepc hb c1
  replace c2 := keepc hb c2
  replace gc := Nat.lt_of_lt_of_le gc hb.size
  clear hb
  go_wp2_with fail
  refine (reads_b cs ce cd x _ H1.out _).mono ?_
  rintro e' w3 ⟨rfl, hb⟩
  replace B := Lib.hid (on_below B.out hb)
  replace c0 := keepc hb c0
  replace c1 := keepc hb c1
  replace c2 := keepc hb c2
  replace gc := Nat.lt_of_lt_of_le gc hb.size
  clear hb
  go_wp2_with fail
  refine (reads_b cs ce cd y _ H2.out _).mono ?_
  rintro e' w4 ⟨rfl, hb⟩
  replace B := Lib.hid (on_below B.out hb)
  replace c0 := keepc hb c0
  replace c1 := keepc hb c1
  replace c2 := keepc hb c2
  replace gc := Nat.lt_of_lt_of_le gc hb.size
  clear hb
  go_wp2_with fail
  refine (passed_is cs ce cd x t 1 0 P1.out P2.out _).mono ?_
  rintro e' w5 ⟨rfl, hb⟩
  replace B := Lib.hid (on_below B.out hb)
  replace c0 := keepc hb c0
  replace c1 := keepc hb c1
  replace c2 := keepc hb c2
  replace gc := Nat.lt_of_lt_of_le gc hb.size
  clear hb
  go_wp2_with fail
  refine (passed_is cs ce cd y s q 0 Q1.out Q2.out _).mono ?_
  rintro e' w6 ⟨rfl, hb⟩
  replace B := Lib.hid (on_below B.out hb)
  replace c0 := keepc hb c0
  replace c1 := keepc hb c1
  replace c2 := keepc hb c2
  replace gc := Nat.lt_of_lt_of_le gc hb.size
  clear hb
  go_wp2_with fail
  refine (true_is cs ce cd x F U 0 T1.out T2.out P2.out _).mono ?_
  rintro e' w7 ⟨rfl, hb⟩
  replace B := Lib.hid (on_below B.out hb)
  replace c0 := keepc hb c0
  replace c1 := keepc hb c1
  replace c2 := keepc hb c2
  replace gc := Nat.lt_of_lt_of_le gc hb.size
  clear hb
  go_wp2_with fail
  all_goals go_ret
  all_goals exact ⟨ret_bool (by simp <;> omega), B.out.alloc B.out.size _⟩
set_option maxRecDepth 100000 in
set_option maxHeartbeats 1000000 in
theorem neg (cs : Int) (ics : I64 cs) (ce : Int) (ice : I64 ce) (cd : Int) (icd : I64 cd) (x : Int) (ix : I64 x) (y : Int) (iy : I64 y) (s : Int) (is : I64 s) (t : Int) (it : I64 t) (w : World) (hx : x ≤ y) (hs : s ≤ t) (F U q : Int) (l1 : F < t) (l2 : U ≤ t) (lq : -1 ≤ q) (lr : q ≤ 1) (h1 : rds cs ce cd x = true) (h2 : rds cs ce cd y = true) (p1 : pV cs ce cd x t = (-1)) (p2 : tE cs ce cd x = 0) (q1 : pV cs ce cd y s = q) (q2 : tE cs ce cd y = 0) (t1 : tF cs ce cd x = F) (t2 : tU cs ce cd x = U) :
    Calls Try.prog 6 #[.agg #[.int .i64 cs, .int .i64 ce, .int .i64 cd], .int .i64 x, .int .i64 y, .int .i64 s, .int .i64 t] w fun e w' => e = .returned (.bool true) ∧ Below w.heap.size w w' := by
  have H1 := Lib.hid h1
  clear h1
  have H2 := Lib.hid h2
  clear h2
  have P1 := Lib.hid p1
  clear p1
  have P2 := Lib.hid p2
  clear p2
  have Q1 := Lib.hid q1
  clear q1
  have Q2 := Lib.hid q2
  clear q2
  have T1 := Lib.hid t1
  clear t1
  have T2 := Lib.hid t2
  clear t2
  go_enter Try.func6, Try.ntmps6
  go_wp2_with fail
  have c0 : World.cell? (w.alloc (.cells #[.int .i64 cs, .int .i64 ce, .int .i64 cd] 23)) ⟨w.heap.size, 0, none⟩ = some (.int .i64 cs) := by simp [go_sem]
  have c1 : World.cell? (w.alloc (.cells #[.int .i64 cs, .int .i64 ce, .int .i64 cd] 23)) ⟨w.heap.size, 1, none⟩ = some (.int .i64 ce) := by simp [go_sem]
  have c2 : World.cell? (w.alloc (.cells #[.int .i64 cs, .int .i64 ce, .int .i64 cd] 23)) ⟨w.heap.size, 2, none⟩ = some (.int .i64 cd) := by simp [go_sem]
  have gc : w.heap.size < (w.alloc (.cells #[.int .i64 cs, .int .i64 ce, .int .i64 cd] 23)).heap.size := by simp <;> omega
  have B := Lib.hid (show Below w.heap.size w (w.alloc (.cells #[.int .i64 cs, .int .i64 ce, .int .i64 cd] 23)) from ((Below.refl _ _).alloc (by simp; try omega) _))
  generalize w.alloc (.cells #[.int .i64 cs, .int .i64 ce, .int .i64 cd] 23) = V1 at *
  refine (head_any _).mono ?_
  rintro e' w2 ⟨rfl, hb⟩
  replace B := Lib.hid (on_below B.out hb)
  replace c0 := keepc hb c0
  replace c1 := keepc hb c1
  replace c2 := keepc hb c2
  replace gc := Nat.lt_of_lt_of_le gc hb.size
  clear hb
  go_wp2_with fail
  refine (reads_b cs ce cd x _ H1.out _).mono ?_
  rintro e' w3 ⟨rfl, hb⟩
  replace B := Lib.hid (on_below B.out hb)
  replace c0 := keepc hb c0
  replace c1 := keepc hb c1
  replace c2 := keepc hb c2
  replace gc := Nat.lt_of_lt_of_le gc hb.size
  clear hb
  go_wp2_with fail
  refine (reads_b cs ce cd y _ H2.out _).mono ?_
  rintro e' w4 ⟨rfl, hb⟩
  replace B := Lib.hid (on_below B.out hb)
  replace c0 := keepc hb c0
  replace c1 := keepc hb c1
  replace c2 := keepc hb c2
  replace gc := Nat.lt_of_lt_of_le gc hb.size
  clear hb
  go_wp2_with fail
  refine (passed_is cs ce cd x t (-1) 0 P1.out P2.out _).mono ?_
  rintro e' w5 ⟨rfl, hb⟩
  replace B := Lib.hid (on_below B.out hb)
  replace c0 := keepc hb c0
  replace c1 := keepc hb c1
  replace c2 := keepc hb c2
  replace gc := Nat.lt_of_lt_of_le gc hb.size
  clear hb
  go_wp2_with fail
  refine (passed_is cs ce cd y s q 0 Q1.out Q2.out _).mono ?_
  rintro e' w6 ⟨rfl, hb⟩
  replace B := Lib.hid (on_below B.out hb)
  replace c0 := keepc hb c0
  replace c1 := keepc hb c1
  replace c2 := keepc hb c2
  replace gc := Nat.lt_of_lt_of_le gc hb.size
  clear hb
  go_wp2_with fail
  refine (true_is cs ce cd x F U 0 T1.out T2.out P2.out _).mono ?_
  rintro e' w7 ⟨rfl, hb⟩
  replace B := Lib.hid (on_below B.out hb)
  replace c0 := keepc hb c0
  replace c1 := keepc hb c1
  replace c2 := keepc hb c2
  replace gc := Nat.lt_of_lt_of_le gc hb.size
  clear hb
  go_wp2_with fail
  all_goals go_ret
  all_goals exact ⟨ret_bool (by simp <;> omega), B.out.alloc B.out.size _⟩
set_option maxRecDepth 100000 in
set_option maxHeartbeats 1000000 in
theorem nil (cs : Int) (ics : I64 cs) (ce : Int) (ice : I64 ce) (cd : Int) (icd : I64 cd) (x : Int) (ix : I64 x) (y : Int) (iy : I64 y) (s : Int) (is : I64 s) (t : Int) (it : I64 t) (w : World) (hx : x ≤ y) (hs : s ≤ t) (F U q : Int) (l1 : F < t) (l2 : t < U) (lq : 0 ≤ q) (lr : q ≤ 1) (h1 : rds cs ce cd x = true) (h2 : rds cs ce cd y = true) (p1 : pV cs ce cd x t = 0) (p2 : tE cs ce cd x = 0) (q1 : pV cs ce cd y s = q) (q2 : tE cs ce cd y = 0) (t1 : tF cs ce cd x = F) (t2 : tU cs ce cd x = U) :
    Calls Try.prog 6 #[.agg #[.int .i64 cs, .int .i64 ce, .int .i64 cd], .int .i64 x, .int .i64 y, .int .i64 s, .int .i64 t] w fun e w' => e = .returned (.bool true) ∧ Below w.heap.size w w' := by
  have H1 := Lib.hid h1
  clear h1
  have H2 := Lib.hid h2
  clear h2
  have P1 := Lib.hid p1
  clear p1
  have P2 := Lib.hid p2
  clear p2
  have Q1 := Lib.hid q1
  clear q1
  have Q2 := Lib.hid q2
  clear q2
  have T1 := Lib.hid t1
  clear t1
  have T2 := Lib.hid t2
  clear t2
  go_enter Try.func6, Try.ntmps6
  go_wp2_with fail
  have c0 : World.cell? (w.alloc (.cells #[.int .i64 cs, .int .i64 ce, .int .i64 cd] 23)) ⟨w.heap.size, 0, none⟩ = some (.int .i64 cs) := by simp [go_sem]
  have c1 : World.cell? (w.alloc (.cells #[.int .i64 cs, .int .i64 ce, .int .i64 cd] 23)) ⟨w.heap.size, 1, none⟩ = some (.int .i64 ce) := by simp [go_sem]
  have c2 : World.cell? (w.alloc (.cells #[.int .i64 cs, .int .i64 ce, .int .i64 cd] 23)) ⟨w.heap.size, 2, none⟩ = some (.int .i64 cd) := by simp [go_sem]
  have gc : w.heap.size < (w.alloc (.cells #[.int .i64 cs, .int .i64 ce, .int .i64 cd] 23)).heap.size := by simp <;> omega
  have B := Lib.hid (show Below w.heap.size w (w.alloc (.cells #[.int .i64 cs, .int .i64 ce, .int .i64 cd] 23)) from ((Below.refl _ _).alloc (by simp; try omega) _))
  generalize w.alloc (.cells #[.int .i64 cs, .int .i64 ce, .int .i64 cd] 23) = V1 at *
  refine (head_any _).mono ?_
  rintro e' w2 ⟨rfl, hb⟩
  replace B := Lib.hid (on_below B.out hb)
  replace c0 := keepc hb c0
  replace c1 := keepc hb c1
  replace c2 := keepc hb c2
  replace gc := Nat.lt_of_lt_of_le gc hb.size
  clear hb
  go_wp2_with fail
  refine (reads_b cs ce cd x _ H1.out _).mono ?_
  rintro e' w3 ⟨rfl, hb⟩
  replace B := Lib.hid (on_below B.out hb)
  replace c0 := keepc hb c0
  replace c1 := keepc hb c1
  replace c2 := keepc hb c2
  replace gc := Nat.lt_of_lt_of_le gc hb.size
  clear hb
  go_wp2_with fail
  refine (reads_b cs ce cd y _ H2.out _).mono ?_
  rintro e' w4 ⟨rfl, hb⟩
  replace B := Lib.hid (on_below B.out hb)
  replace c0 := keepc hb c0
  replace c1 := keepc hb c1
  replace c2 := keepc hb c2
  replace gc := Nat.lt_of_lt_of_le gc hb.size
  clear hb
  go_wp2_with fail
  refine (passed_is cs ce cd x t 0 0 P1.out P2.out _).mono ?_
  rintro e' w5 ⟨rfl, hb⟩
  replace B := Lib.hid (on_below B.out hb)
  replace c0 := keepc hb c0
  replace c1 := keepc hb c1
  replace c2 := keepc hb c2
  replace gc := Nat.lt_of_lt_of_le gc hb.size
  clear hb
  go_wp2_with fail
  refine (passed_is cs ce cd y s q 0 Q1.out Q2.out _).mono ?_
  rintro e' w6 ⟨rfl, hb⟩
  replace B := Lib.hid (on_below B.out hb)
  replace c0 := keepc hb c0
  replace c1 := keepc hb c1
  replace c2 := keepc hb c2
  replace gc := Nat.lt_of_lt_of_le gc hb.size
  clear hb
  go_wp2_with fail
  refine (true_is cs ce cd x F U 0 T1.out T2.out P2.out _).mono ?_
  rintro e' w7 ⟨rfl, hb⟩
  replace B := Lib.hid (on_below B.out hb)
  replace c0 := keepc hb c0
  replace c1 := keepc hb c1
  replace c2 := keepc hb c2
  replace gc := Nat.lt_of_lt_of_le gc hb.size
  clear hb
  go_wp2_with fail
  all_goals go_ret
  all_goals exact ⟨ret_bool (by simp <;> omega), B.out.alloc B.out.size _⟩

theorem walk (cs : Int) (ics : I64 cs) (ce : Int) (ice : I64 ce) (cd : Int) (icd : I64 cd) (x : Int) (ix : I64 x) (y : Int) (iy : I64 y) (s : Int) (is : I64 s) (t : Int) (it : I64 t) (w : World) :
    Calls Try.prog 6 #[.agg #[.int .i64 cs, .int .i64 ce, .int .i64 cd], .int .i64 x, .int .i64 y, .int .i64 s, .int .i64 t] w fun e w' => e = .returned (.bool true) ∧ Below w.heap.size w w' := by
  rcases Int.lt_or_le y x with hx | hx
  · exact no1 cs ics ce ice cd icd x ix y iy s is t it w hx
  rcases Int.lt_or_le t s with hs | hs
  · exact no2 cs ics ce ice cd icd x ix y iy s is t it w hx hs
  cases h1 : rds cs ce cd x with
  | false => exact no3 cs ics ce ice cd icd x ix y iy s is t it w hx hs h1
  | true =>
    cases h2 : rds cs ce cd y with
    | false => exact no4 cs ics ce ice cd icd x ix y iy s is t it w hx hs h1 h2
    | true =>
      have m := progress h1 h2 hx
      have b1 := in_bd h1
      have b2 := in_bd h2
      have a1 := pV_ok (t := t) h1
      have a2 := pV_ok (t := s) h2
      generalize hF : frm cs ce cd x = F at *
      generalize hU : unt cs ce cd x = U at *
      generalize hG : frm cs ce cd y = G at *
      generalize hV : unt cs ce cd y = V at *
      have k1 : tF cs ce cd x = F := by rw [tF_ok h1, hF]
      have k2 : tU cs ce cd x = U := by rw [tU_ok h1, hU]
      unfold sd at a1 a2
      rcases Int.lt_or_le F t with hf | hf
      · rcases Int.lt_or_le t U with hu | hu
        · exact nil cs ics ce ice cd icd x ix y iy s is t it w hx hs F U _ hf hu (by rw [a2]; omega) (by rw [a2]; omega) h1 h2 (by rw [a1]; omega) (tE_ok h1) rfl (tE_ok h2) k1 k2
        · exact neg cs ics ce ice cd icd x ix y iy s is t it w hx hs F U _ hf hu (by rw [a2]; omega) (by rw [a2]; omega) h1 h2 (by rw [a1]; omega) (tE_ok h1) rfl (tE_ok h2) k1 k2
      · exact one cs ics ce ice cd icd x ix y iy s is t it w hx hs F U _ hf (by omega) (by rw [a2]; omega) (by rw [a2]; omega) h1 h2 (by rw [a1]; omega) (tE_ok h1) rfl (tE_ok h2) k1 k2

/-! ### The row -/
open Go.ChangeShapes Go.WideShapes Go.ChangeAt Go.Joins
theorem own : ownKnob Try.prog.godebug = none := by kernel_rfl
noncomputable def laidWorld (os : Os) : World := World.holding Try.prog os ⟨#[], #[], []⟩
theorem laidWorld_met (os : Os) (args : Array Value) : laidMet Try.prog [] ((laidWorld os).forCall (fun _ _ => 0) ⟨#[], args, []⟩).memory :=
  laidMet_of_run' 8 (by kernel_rfl) (by kernel_rfl)

set_option maxRecDepth 100000 in
theorem contract (H : Type) (enc : TypeId × Value → H) (W : World) (base : Nat) (args : Array Value) (ds gs : List (DataW H)) (before : List MemPlace)
    (hval : ∀ (j : Nat) t v, Try.f6.params[j]? = some t → args[j]? = some v → Value.okWide Try.prog W .any base t v)
    (hW : DataW.Whole enc Try.prog Try.f6.params.toList Rows.clockPassedSpec.vars false W args.toList ds gs before) :
    Calls Try.prog 6 args W fun e W' => ∃ v, e = .returned v ∧ Rows.clockPassedSpec.post enc Try.prog Try.f6 false true false false W args v W' := by
  have hW' := hW
  obtain ⟨p, q, hA0, hV, rfl, hfz, hnd⟩ := hW
  have hA : DataW.TrodAll enc Try.prog W 0 (fun _ => true) true Try.f6.params.toList args.toList ds p := hA0
  rw [Try.params6] at hA hval
  obtain ⟨v0, vs0, d0, ds0, p0, q0, hargs, rfl, rfl, h0, r0⟩ := trodAll_cons hA
  obtain ⟨v1, vs1, d1, ds1, p1, q1, rfl, rfl, rfl, h1, r1⟩ := trodAll_cons r0
  obtain ⟨v2, vs2, d2, ds2, p2, q2, rfl, rfl, rfl, h2, r2⟩ := trodAll_cons r1
  obtain ⟨v3, vs3, d3, ds3, p3, q3, rfl, rfl, rfl, h3, r3⟩ := trodAll_cons r2
  obtain ⟨v4, vs4, d4, ds4, p4, q4, rfl, rfl, rfl, h4, r4⟩ := trodAll_cons r3
  obtain ⟨rfl, rfl, rfl⟩ := trodAll_nil r4
  obtain rfl : args = #[v0, v1, v2, v3, v4] := Array.toList_inj.1 hargs
  obtain ⟨rfl, rfl⟩ := trodVars_none hV
  obtain ⟨cs, ce, cd, rfl, rfl, rfl, ics, ice, icd⟩ := open_clock (hval 0 23 v0 rfl rfl) h0
  obtain ⟨x, rfl, rfl, rfl, wx⟩ := open_int Try.underlying3 (hval 1 3 v1 rfl rfl) h1
  obtain ⟨y, rfl, rfl, rfl, wy⟩ := open_int Try.underlying3 (hval 2 3 v2 rfl rfl) h2
  obtain ⟨s, rfl, rfl, rfl, ws⟩ := open_int Try.underlying3 (hval 3 3 v3 rfl rfl) h3
  obtain ⟨t, rfl, rfl, rfl, wt⟩ := open_int Try.underlying3 (hval 4 3 v4 rfl rfl) h4
  clear hA0
  refine (walk cs (wf_i ics) ce (wf_i ice) cd (wf_i icd) x (wf_i wx) y (wf_i wy) s (wf_i ws) t (wf_i wt) W).mono fun e W' ⟨he, bel⟩ => ?_
  subst he
  exact ⟨_, rfl, _, _, _, [], _, [], hW', trodAll_mk1 (shut_bool Try.underlying4 _), (trodAll_cons_mk (shut_clock ics ice icd) (trodAll_cons_mk (shut_int Try.underlying3 wx) (trodAll_cons_mk (shut_int Try.underlying3 wy) (trodAll_cons_mk (shut_int Try.underlying3 ws) (trodAll_cons_mk (shut_int Try.underlying3 wt) trodAll_mk0))))), rfl, bel.frame _, fun h => by cases h⟩

theorem reads (os : Os) {H : Type} (enc : TypeId × Value → H) : ∃ places, DataW.whole enc Try.prog ((laidWorld os).forCall (fun _ _ => 0) ⟨#[], #[.agg #[.int .i64 0, .int .i64 0, .int .i64 0], .int .i64 0, .int .i64 0, .int .i64 0, .int .i64 0], []⟩).memory Try.f6.params.toList Rows.clockPassedSpec.vars false (#[.agg #[.int .i64 0, .int .i64 0, .int .i64 0], .int .i64 0, .int .i64 0, .int .i64 0, .int .i64 0] : Array Value).toList 8 = some ([.agg [.lit (.int .i64 0), .lit (.int .i64 0), .lit (.int .i64 0)], .lit (.int .i64 0), .lit (.int .i64 0), .lit (.int .i64 0), .lit (.int .i64 0)], [], places) :=
  ⟨[], by kernel_rfl⟩

set_option maxRecDepth 100000 in
theorem lifted (os : Os) (started : os.Started) (H : Type) (enc : TypeId × Value → H) (F : Stop.Interp) :
    ReturnsInHanded {} Try.checked os 6 .any ((OpenSpec.ofChange Rows.clockPassedSpec).preRow enc Try.prog Try.f6 Rows.clockPassedRow.domain false Rows.clockPassedRow.laid) (((OpenSpec.ofChange Rows.clockPassedSpec).at F).post enc Try.prog Try.f6 false true false false) := by
  obtain ⟨places, hx⟩ := reads os enc
  refine returnsInHanded_of_row (C := Try.checked) (s := OpenSpec.ofChange Rows.clockPassedSpec) own started (by kernel_rfl) Try.func6
    (witness_row_atRef (enc := enc) (C := Try.checked) false (laidWorld os) #[.agg #[.int .i64 0, .int .i64 0, .int .i64 0], .int .i64 0, .int .i64 0, .int .i64 0, .int .i64 0] rfl (by kernel_rfl) (by kernel_rfl) (by kernel_rfl)
      (OpenSpec.preRow_of_cond 8 hx (by kernel_rfl) (fun k hk => by cases hk) (by kernel_rfl) (laidWorld_met os _))) ?_
  intro W base args ds gs before hval hW _ hcond _ hL hsh _
  exact contract H enc W base args ds gs before hval hW

/-- The statement. -/
theorem said : Rows.ClockPassedSaid :=
  OpenClaim.holds_of_cond 6 Try.f6 rfl rfl rfl rfl rfl rfl rfl ⟨rfl, rfl, rfl, rfl, rfl⟩ rfl rfl rfl rfl rfl (by kernel_rfl) Try.func6 (by kernel_rfl)
    (of_decide_eq_true (by kernel_rfl)) (by unfold Func.isWrapper; first | (rw [if_pos (by decide +kernel)]; kernel_rfl) | (rw [if_neg (by decide +kernel)]; exact ⟨rfl, rfl⟩))
    (fun os started H enc _ F => by rw [OpenClaim.pre_eq_preRow]; exact lifted os started H enc F)
end Go.Proofs.Ytnjhepkfjohdnaa.clockPassed
