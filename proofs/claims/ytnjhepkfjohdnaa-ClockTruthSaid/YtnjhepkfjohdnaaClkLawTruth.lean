/-
  ClockTruth: what the clock may have gained or lost leads to a true time, and no true time is farther off.
  Conditions: none besides the row's.
-/
import Derived.Test.YtnjhepkfjohdnaaClkM
import Derived.Test.YtnjhepkfjohdnaaRows
import Derived.ProofKit
import Derived.OpenShut
import Derived.Deep.DeepHandedRow
import Derived.Deep.DeepWitnessRowRef
import Derived.MakeChecks
namespace Go.Proofs.Ytnjhepkfjohdnaa.clockTruth
open Go.RowKit Go.Sort
open Go.RowKit (Below)
set_option linter.unusedVariables false
set_option linter.unusedSimpArgs false
set_option maxRecDepth 100000 in
set_option maxHeartbeats 1000000 in
theorem no1 (cs : Int) (ics : I64 cs) (ce : Int) (ice : I64 ce) (cd : Int) (icd : I64 cd) (r : Int) (ir : I64 r) (o : Int) (io : I64 o) (g : Int) (ig : I64 g) (t : Int) (it : I64 t) (w : World) (h1 : rds cs ce cd r = false) :
    Calls Try.prog 4 #[.agg #[.int .i64 cs, .int .i64 ce, .int .i64 cd], .int .i64 r, .int .i64 o, .int .i64 g, .int .i64 t] w fun e w' => e = .returned (.bool true) ∧ Below w.heap.size w w' := by
  have H1 := Lib.hid h1
  clear h1
  go_enter Try.func4, Try.ntmps4
  go_wp2_with fail
  have c0 : World.cell? (w.alloc (.cells #[.int .i64 cs, .int .i64 ce, .int .i64 cd] 23)) ⟨w.heap.size, 0, none⟩ = some (.int .i64 cs) := by simp [go_sem]
  have c1 : World.cell? (w.alloc (.cells #[.int .i64 cs, .int .i64 ce, .int .i64 cd] 23)) ⟨w.heap.size, 1, none⟩ = some (.int .i64 ce) := by simp [go_sem]
  have c2 : World.cell? (w.alloc (.cells #[.int .i64 cs, .int .i64 ce, .int .i64 cd] 23)) ⟨w.heap.size, 2, none⟩ = some (.int .i64 cd) := by simp [go_sem]
  have gc : w.heap.size < (w.alloc (.cells #[.int .i64 cs, .int .i64 ce, .int .i64 cd] 23)).heap.size := by simp <;> omega
  have B := Lib.hid (show Below w.heap.size w (w.alloc (.cells #[.int .i64 cs, .int .i64 ce, .int .i64 cd] 23)) from ((Below.refl _ _).alloc (by simp; try omega) _))
  generalize w.alloc (.cells #[.int .i64 cs, .int .i64 ce, .int .i64 cd] 23) = V1 at *
  refine (head_any _).mono ?_
  rintro e' w2 ⟨rfl, hb⟩
  replace B := Lib.hid (on_below B.out hb)
  replace c0 := keepc hb c0
  replace c1 := keepc hb c1
  replace c2 := keepc hb c2
  replace gc := Nat.lt_of_lt_of_le gc hb.size
  clear hb
  go_wp2_with fail
  refine (reads_b cs ce cd r _ H1.out _).mono ?_
  rintro e' w3 ⟨rfl, hb⟩
  replace B := Lib.hid (on_below B.out hb)
  replace c0 := keepc hb c0
  replace c1 := keepc hb c1
  replace c2 := keepc hb c2
  replace gc := Nat.lt_of_lt_of_le gc hb.size
  clear hb
  go_wp2_with fail
  all_goals go_ret
  all_goals exact ⟨rfl, B.out⟩
set_option maxRecDepth 100000 in
set_option maxHeartbeats 1000000 in
theorem qax (cs : Int) (ics : I64 cs) (ce : Int) (ice : I64 ce) (cd : Int) (icd : I64 cd) (r : Int) (ir : I64 r) (o : Int) (io : I64 o) (g : Int) (ig : I64 g) (t : Int) (it : I64 t) (w : World) (F U : Int) (b0 : 0 ≤ F) (b1 : F ≤ r) (b2 : r < U) (b3 : U ≤ 600001) (n0 : 0 ≤ ce) (n1 : ce ≤ 1000) (n2 : 0 ≤ cs) (n3 : cs ≤ r) (n4 : 0 ≤ cd) (n5 : cd ≤ 100) (m0 : 0 ≤ ((r - cs) * cd)) (m1 : ((r - cs) * cd) ≤ 60000000) (h1 : rds cs ce cd r = true) (p1 : tF cs ce cd r = F) (p2 : tU cs ce cd r = U) (p3 : tE cs ce cd r = 0) (hh : (decide (F ≤ r) && decide (r < U)) = true) (wa : (decide (-ce ≤ o) && decide (o ≤ ce)) = false) (wf : (decide (F ≤ t) && decide (t < U)) = false) :
    Calls Try.prog 4 #[.agg #[.int .i64 cs, .int .i64 ce, .int .i64 cd], .int .i64 r, .int .i64 o, .int .i64 g, .int .i64 t] w fun e w' => e = .returned (.bool true) ∧ Below w.heap.size w w' := by
  have H1 := Lib.hid h1
  clear h1
  have P1 := Lib.hid p1
  clear p1
  have P2 := Lib.hid p2
  clear p2
  have P3 := Lib.hid p3
  clear p3
  have HH := Lib.hid hh
  clear hh
  have WA := Lib.hid wa
  clear wa
  have WF := Lib.hid wf
  clear wf
  go_enter Try.func4, Try.ntmps4
  go_wp2_with fail
  have c0 : World.cell? (w.alloc (.cells #[.int .i64 cs, .int .i64 ce, .int .i64 cd] 23)) ⟨w.heap.size, 0, none⟩ = some (.int .i64 cs) := by simp [go_sem]
  have c1 : World.cell? (w.alloc (.cells #[.int .i64 cs, .int .i64 ce, .int .i64 cd] 23)) ⟨w.heap.size, 1, none⟩ = some (.int .i64 ce) := by simp [go_sem]
  have c2 : World.cell? (w.alloc (.cells #[.int .i64 cs, .int .i64 ce, .int .i64 cd] 23)) ⟨w.heap.size, 2, none⟩ = some (.int .i64 cd) := by simp [go_sem]
  have gc : w.heap.size < (w.alloc (.cells #[.int .i64 cs, .int .i64 ce, .int .i64 cd] 23)).heap.size := by simp <;> omega
  have B := Lib.hid (show Below w.heap.size w (w.alloc (.cells #[.int .i64 cs, .int .i64 ce, .int .i64 cd] 23)) from ((Below.refl _ _).alloc (by simp; try omega) _))
  generalize w.alloc (.cells #[.int .i64 cs, .int .i64 ce, .int .i64 cd] 23) = V1 at *
  refine (head_any _).mono ?_
  rintro e' w2 ⟨rfl, hb⟩
  replace B := Lib.hid (on_below B.out hb)
  replace c0 := keepc hb c0
  replace c1 := keepc hb c1
  replace c2 := keepc hb c2
  replace gc := Nat.lt_of_lt_of_le gc hb.size
  clear hb
  go_wp2_with fail
  refine (reads_b cs ce cd r _ H1.out _).mono ?_
  rintro e' w3 ⟨rfl, hb⟩
  replace B := Lib.hid (on_below B.out hb)
  replace c0 := keepc hb c0
  replace c1 := keepc hb c1
  replace c2 := keepc hb c2
  replace gc := Nat.lt_of_lt_of_le gc hb.size
  clear hb
  go_wp2_with fail
  refine (true_is cs ce cd r F U 0 P1.out P2.out P3.out _).mono ?_
  rintro e' w4 ⟨rfl, hb⟩
  replace B := Lib.hid (on_below B.out hb)
  replace c0 := keepc hb c0
  replace c1 := keepc hb c1
  replace c2 := keepc hb c2
  replace gc := Nat.lt_of_lt_of_le gc hb.size
  clear hb
  go_wp2_with fail
  have s0 : World.cell? (w4.alloc (.cells #[.int .i64 F, .int .i64 U] 25)) ⟨w4.heap.size, 0, none⟩ = some (.int .i64 F) := by simp [go_sem]
  have s1 : World.cell? (w4.alloc (.cells #[.int .i64 F, .int .i64 U] 25)) ⟨w4.heap.size, 1, none⟩ = some (.int .i64 U) := by simp [go_sem]
  have gs : w4.heap.size < (w4.alloc (.cells #[.int .i64 F, .int .i64 U] 25)).heap.size := by simp <;> omega
  have hb : Below w4.heap.size w4 (w4.alloc (.cells #[.int .i64 F, .int .i64 U] 25)) := ((Below.refl _ _).alloc (by simp; try omega) _)
  generalize w4.alloc (.cells #[.int .i64 F, .int .i64 U] 25) = V5 at *
  replace B := Lib.hid (on_below B.out hb)
  replace c0 := keepc hb c0
  replace c1 := keepc hb c1
  replace c2 := keepc hb c2
  replace gc := Nat.lt_of_lt_of_le gc hb.size
  clear hb
  refine (has_b F U r _ HH.out _).mono ?_
  rintro e' w6 ⟨rfl, hb⟩
  replace B := Lib.hid (on_below B.out hb)
  replace c0 := keepc hb c0
  replace c1 := keepc hb c1
  replace c2 := keepc hb c2
  replace s0 := keepc hb s0
  replace s1 := keepc hb s1
  replace gc := Nat.lt_of_lt_of_le gc hb.size
  replace gs := Nat.lt_of_lt_of_le gs hb.size
  clear hb
  go_wp2_with fail
  refine (within_b o (-ce) ce _ WA.out _).mono ?_
  rintro e' w' ⟨rfl, rfl⟩
  go_wp2_with fail
  refine (has_b F U t _ WF.out _).mono ?_
  rintro e' w7 ⟨rfl, hb⟩
  replace B := Lib.hid (on_below B.out hb)
  replace c0 := keepc hb c0
  replace c1 := keepc hb c1
  replace c2 := keepc hb c2
  replace s0 := keepc hb s0
  replace s1 := keepc hb s1
  replace gc := Nat.lt_of_lt_of_le gc hb.size
  replace gs := Nat.lt_of_lt_of_le gs hb.size
  clear hb
  go_wp2_with fail
  all_goals go_ret
  all_goals exact ⟨rfl, B.out⟩
set_option maxRecDepth 100000 in
set_option maxHeartbeats 1000000 in
theorem qay (cs : Int) (ics : I64 cs) (ce : Int) (ice : I64 ce) (cd : Int) (icd : I64 cd) (r : Int) (ir : I64 r) (o : Int) (io : I64 o) (g : Int) (ig : I64 g) (t : Int) (it : I64 t) (w : World) (F U : Int) (b0 : 0 ≤ F) (b1 : F ≤ r) (b2 : r < U) (b3 : U ≤ 600001) (n0 : 0 ≤ ce) (n1 : ce ≤ 1000) (n2 : 0 ≤ cs) (n3 : cs ≤ r) (n4 : 0 ≤ cd) (n5 : cd ≤ 100) (m0 : 0 ≤ ((r - cs) * cd)) (m1 : ((r - cs) * cd) ≤ 60000000) (h1 : rds cs ce cd r = true) (p1 : tF cs ce cd r = F) (p2 : tU cs ce cd r = U) (p3 : tE cs ce cd r = 0) (hh : (decide (F ≤ r) && decide (r < U)) = true) (wa : (decide (-ce ≤ o) && decide (o ≤ ce)) = false) (wf : (decide (F ≤ t) && decide (t < U)) = true) (t0 : F ≤ t) (t1 : t < U) (hx : t - r < r - t) (l : 1000 * (r - t) ≤ 1000 * ce + ((r - cs) * cd) + 999) :
    Calls Try.prog 4 #[.agg #[.int .i64 cs, .int .i64 ce, .int .i64 cd], .int .i64 r, .int .i64 o, .int .i64 g, .int .i64 t] w fun e w' => e = .returned (.bool true) ∧ Below w.heap.size w w' := by
  have H1 := Lib.hid h1
  clear h1
  have P1 := Lib.hid p1
  clear p1
  have P2 := Lib.hid p2
  clear p2
  have P3 := Lib.hid p3
  clear p3
  have HH := Lib.hid hh
  clear hh
  have WA := Lib.hid wa
  clear wa
  have WF := Lib.hid wf
  clear wf
  go_enter Try.func4, Try.ntmps4
  go_wp2_with fail
  have c0 : World.cell? (w.alloc (.cells #[.int .i64 cs, .int .i64 ce, .int .i64 cd] 23)) ⟨w.heap.size, 0, none⟩ = some (.int .i64 cs) := by simp [go_sem]
  have c1 : World.cell? (w.alloc (.cells #[.int .i64 cs, .int .i64 ce, .int .i64 cd] 23)) ⟨w.heap.size, 1, none⟩ = some (.int .i64 ce) := by simp [go_sem]
  have c2 : World.cell? (w.alloc (.cells #[.int .i64 cs, .int .i64 ce, .int .i64 cd] 23)) ⟨w.heap.size, 2, none⟩ = some (.int .i64 cd) := by simp [go_sem]
  have gc : w.heap.size < (w.alloc (.cells #[.int .i64 cs, .int .i64 ce, .int .i64 cd] 23)).heap.size := by simp <;> omega
  have B := Lib.hid (show Below w.heap.size w (w.alloc (.cells #[.int .i64 cs, .int .i64 ce, .int .i64 cd] 23)) from ((Below.refl _ _).alloc (by simp; try omega) _))
  generalize w.alloc (.cells #[.int .i64 cs, .int .i64 ce, .int .i64 cd] 23) = V1 at *
  refine (head_any _).mono ?_
  rintro e' w2 ⟨rfl, hb⟩
  replace B := Lib.hid (on_below B.out hb)
  replace c0 := keepc hb c0
  replace c1 := keepc hb c1
  replace c2 := keepc hb c2
  replace gc := Nat.lt_of_lt_of_le gc hb.size
  clear hb
  go_wp2_with fail
  refine (reads_b cs ce cd r _ H1.out _).mono ?_
  rintro e' w3 ⟨rfl, hb⟩
  replace B := Lib.hid (on_below B.out hb)
  replace c0 := keepc hb c0
  replace c1 := keepc hb c1
  replace c2 := keepc hb c2
  replace gc := Nat.lt_of_lt_of_le gc hb.size
  clear hb
  go_wp2_with fail
  refine (true_is cs ce cd r F U 0 P1.out P2.out P3.out _).mono ?_
  rintro e' w4 ⟨rfl, hb⟩
  replace B := Lib.hid (on_below B.out hb)
  replace c0 := keepc hb c0
  replace c1 := keepc hb c1
  replace c2 := keepc hb c2
  replace gc := Nat.lt_of_lt_of_le gc hb.size
  clear hb
  go_wp2_with fail
  have s0 : World.cell? (w4.alloc (.cells #[.int .i64 F, .int .i64 U] 25)) ⟨w4.heap.size, 0, none⟩ = some (.int .i64 F) := by simp [go_sem]
  have s1 : World.cell? (w4.alloc (.cells #[.int .i64 F, .int .i64 U] 25)) ⟨w4.heap.size, 1, none⟩ = some (.int .i64 U) := by simp [go_sem]
  have gs : w4.heap.size < (w4.alloc (.cells #[.int .i64 F, .int .i64 U] 25)).heap.size := by simp <;> omega
  have hb : Below w4.heap.size w4 (w4.alloc (.cells #[.int .i64 F, .int .i64 U] 25)) := ((Below.refl _ _).alloc (by simp; try omega) _)
  generalize w4.alloc (.cells #[.int .i64 F, .int .i64 U] 25) = V5 at *
  replace B := Lib.hid (on_below B.out hb)
  replace c0 := keepc hb c0
  replace c1 := keepc hb c1
  replace c2 := keepc hb c2
  replace gc := Nat.lt_of_lt_of_le gc hb.size
  clear hb
  refine (has_b F U r _ HH.out _).mono ?_
  rintro e' w6 ⟨rfl, hb⟩
  replace B := Lib.hid (on_below B.out hb)
  replace c0 := keepc hb c0
  replace c1 := keepc hb c1
  replace c2 := keepc hb c2
  replace s0 := keepc hb s0
  replace s1 := keepc hb s1
  replace gc := Nat.lt_of_lt_of_le gc hb.size
  replace gs := Nat.lt_of_lt_of_le gs hb.size
  clear hb
  go_wp2_with fail
  refine (within_b o (-ce) ce _ WA.out _).mono ?_
  rintro e' w' ⟨rfl, rfl⟩
  go_wp2_with fail
  refine (has_b F U t _ WF.out _).mono ?_
  rintro e' w7 ⟨rfl, hb⟩
  replace B := Lib.hid (on_below B.out hb)
  replace c0 := keepc hb c0
  replace c1 := keepc hb c1
  replace c2 := keepc hb c2
  replace s0 := keepc hb s0
  replace s1 := keepc hb s1
  replace gc := Nat.lt_of_lt_of_le gc hb.size
  replace gs := Nat.lt_of_lt_of_le gs hb.size
  clear hb
  go_wp2_with fail
  all_goals go_ret
  all_goals exact ⟨rfl, B.out⟩
set_option maxRecDepth 100000 in
set_option maxHeartbeats 1000000 in
theorem qaz (cs : Int) (ics : I64 cs) (ce : Int) (ice : I64 ce) (cd : Int) (icd : I64 cd) (r : Int) (ir : I64 r) (o : Int) (io : I64 o) (g : Int) (ig : I64 g) (t : Int) (it : I64 t) (w : World) (F U : Int) (b0 : 0 ≤ F) (b1 : F ≤ r) (b2 : r < U) (b3 : U ≤ 600001) (n0 : 0 ≤ ce) (n1 : ce ≤ 1000) (n2 : 0 ≤ cs) (n3 : cs ≤ r) (n4 : 0 ≤ cd) (n5 : cd ≤ 100) (m0 : 0 ≤ ((r - cs) * cd)) (m1 : ((r - cs) * cd) ≤ 60000000) (h1 : rds cs ce cd r = true) (p1 : tF cs ce cd r = F) (p2 : tU cs ce cd r = U) (p3 : tE cs ce cd r = 0) (hh : (decide (F ≤ r) && decide (r < U)) = true) (wa : (decide (-ce ≤ o) && decide (o ≤ ce)) = false) (wf : (decide (F ≤ t) && decide (t < U)) = true) (t0 : F ≤ t) (t1 : t < U) (hx : r - t ≤ t - r) (l : 1000 * (t - r) ≤ 1000 * ce + ((r - cs) * cd) + 999) :
    Calls Try.prog 4 #[.agg #[.int .i64 cs, .int .i64 ce, .int .i64 cd], .int .i64 r, .int .i64 o, .int .i64 g, .int .i64 t] w fun e w' => e = .returned (.bool true) ∧ Below w.heap.size w w' := by
  have H1 := Lib.hid h1
  clear h1
  have P1 := Lib.hid p1
  clear p1
  have P2 := Lib.hid p2
  clear p2
  have P3 := Lib.hid p3
  clear p3
  have HH := Lib.hid hh
  clear hh
  have WA := Lib.hid wa
  clear wa
  have WF := Lib.hid wf
  clear wf
  go_enter Try.func4, Try.ntmps4
  go_wp2_with fail
  have c0 : World.cell? (w.alloc (.cells #[.int .i64 cs, .int .i64 ce, .int .i64 cd] 23)) ⟨w.heap.size, 0, none⟩ = some (.int .i64 cs) := by simp [go_sem]
  have c1 : World.cell? (w.alloc (.cells #[.int .i64 cs, .int .i64 ce, .int .i64 cd] 23)) ⟨w.heap.size, 1, none⟩ = some (.int .i64 ce) := by simp [go_sem]
  have c2 : World.cell? (w.alloc (.cells #[.int .i64 cs, .int .i64 ce, .int .i64 cd] 23)) ⟨w.heap.size, 2, none⟩ = some (.int .i64 cd) := by simp [go_sem]
  have gc : w.heap.size < (w.alloc (.cells #[.int .i64 cs, .int .i64 ce, .int .i64 cd] 23)).heap.size := by simp <;> omega
  have B := Lib.hid (show Below w.heap.size w (w.alloc (.cells #[.int .i64 cs, .int .i64 ce, .int .i64 cd] 23)) from ((Below.refl _ _).alloc (by simp; try omega) _))
  generalize w.alloc (.cells #[.int .i64 cs, .int .i64 ce, .int .i64 cd] 23) = V1 at *
  refine (head_any _).mono ?_
  rintro e' w2 ⟨rfl, hb⟩
  replace B := Lib.hid (on_below B.out hb)
  replace c0 := keepc hb c0
  replace c1 := keepc hb c1
  replace c2 := keepc hb c2
  replace gc := Nat.lt_of_lt_of_le gc hb.size
  clear hb
  go_wp2_with fail
  refine (reads_b cs ce cd r _ H1.out _).mono ?_
  rintro e' w3 ⟨rfl, hb⟩
  replace B := Lib.hid (on_below B.out hb)
  replace c0 := keepc hb c0
  replace c1 := keepc hb c1
  replace c2 := keepc hb c2
  replace gc := Nat.lt_of_lt_of_le gc hb.size
  clear hb
  go_wp2_with fail
  refine (true_is cs ce cd r F U 0 P1.out P2.out P3.out _).mono ?_
  rintro e' w4 ⟨rfl, hb⟩
  replace B := Lib.hid (on_below B.out hb)
  replace c0 := keepc hb c0
  replace c1 := keepc hb c1
  replace c2 := keepc hb c2
  replace gc := Nat.lt_of_lt_of_le gc hb.size
  clear hb
  go_wp2_with fail
  have s0 : World.cell? (w4.alloc (.cells #[.int .i64 F, .int .i64 U] 25)) ⟨w4.heap.size, 0, none⟩ = some (.int .i64 F) := by simp [go_sem]
  have s1 : World.cell? (w4.alloc (.cells #[.int .i64 F, .int .i64 U] 25)) ⟨w4.heap.size, 1, none⟩ = some (.int .i64 U) := by simp [go_sem]
  have gs : w4.heap.size < (w4.alloc (.cells #[.int .i64 F, .int .i64 U] 25)).heap.size := by simp <;> omega
  have hb : Below w4.heap.size w4 (w4.alloc (.cells #[.int .i64 F, .int .i64 U] 25)) := ((Below.refl _ _).alloc (by simp; try omega) _)
  generalize w4.alloc (.cells #[.int .i64 F, .int .i64 U] 25) = V5 at *
  replace B := Lib.hid (on_below B.out hb)
  replace c0 := keepc hb c0
  replace c1 := keepc hb c1
  replace c2 := keepc hb c2
  replace gc := Nat.lt_of_lt_of_le gc hb.size
  clear hb
  refine (has_b F U r _ HH.out _).mono ?_
  rintro e' w6 ⟨rfl, hb⟩
  replace B := Lib.hid (on_below B.out hb)
  replace c0 := keepc hb c0
  replace c1 := keepc hb c1
  replace c2 := keepc hb c2
  replace s0 := keepc hb s0
  replace s1 := keepc hb s1
  replace gc := Nat.lt_of_lt_of_le gc hb.size
  replace gs := Nat.lt_of_lt_of_le gs hb.size
  clear hb
  go_wp2_with fail
  refine (within_b o (-ce) ce _ WA.out _).mono ?_
  rintro e' w' ⟨rfl, rfl⟩
  go_wp2_with fail
  refine (has_b F U t _ WF.out _).mono ?_
  rintro e' w7 ⟨rfl, hb⟩
  replace B := Lib.hid (on_below B.out hb)
  replace c0 := keepc hb c0
  replace c1 := keepc hb c1
  replace c2 := keepc hb c2
  replace s0 := keepc hb s0
  replace s1 := keepc hb s1
  replace gc := Nat.lt_of_lt_of_le gc hb.size
  replace gs := Nat.lt_of_lt_of_le gs hb.size
  clear hb
  go_wp2_with fail
  all_goals go_ret
  all_goals exact ⟨rfl, B.out⟩
set_option maxRecDepth 100000 in
set_option maxHeartbeats 1000000 in
theorem qbx (cs : Int) (ics : I64 cs) (ce : Int) (ice : I64 ce) (cd : Int) (icd : I64 cd) (r : Int) (ir : I64 r) (o : Int) (io : I64 o) (g : Int) (ig : I64 g) (t : Int) (it : I64 t) (w : World) (F U : Int) (b0 : 0 ≤ F) (b1 : F ≤ r) (b2 : r < U) (b3 : U ≤ 600001) (n0 : 0 ≤ ce) (n1 : ce ≤ 1000) (n2 : 0 ≤ cs) (n3 : cs ≤ r) (n4 : 0 ≤ cd) (n5 : cd ≤ 100) (m0 : 0 ≤ ((r - cs) * cd)) (m1 : ((r - cs) * cd) ≤ 60000000) (h1 : rds cs ce cd r = true) (p1 : tF cs ce cd r = F) (p2 : tU cs ce cd r = U) (p3 : tE cs ce cd r = 0) (hh : (decide (F ≤ r) && decide (r < U)) = true) (wa : (decide (-ce ≤ o) && decide (o ≤ ce)) = true) (o0 : -ce ≤ o) (o1 : o ≤ ce) (wb : (decide (-((r - cs) * cd) ≤ g) && decide (g ≤ ((r - cs) * cd))) = false) (wf : (decide (F ≤ t) && decide (t < U)) = false) :
    Calls Try.prog 4 #[.agg #[.int .i64 cs, .int .i64 ce, .int .i64 cd], .int .i64 r, .int .i64 o, .int .i64 g, .int .i64 t] w fun e w' => e = .returned (.bool true) ∧ Below w.heap.size w w' := by
  have H1 := Lib.hid h1
  clear h1
  have P1 := Lib.hid p1
  clear p1
  have P2 := Lib.hid p2
  clear p2
  have P3 := Lib.hid p3
  clear p3
  have HH := Lib.hid hh
  clear hh
  have WA := Lib.hid wa
  clear wa
  have WF := Lib.hid wf
  clear wf
  have WB := Lib.hid wb
  clear wb
  go_enter Try.func4, Try.ntmps4
  go_wp2_with fail
  have c0 : World.cell? (w.alloc (.cells #[.int .i64 cs, .int .i64 ce, .int .i64 cd] 23)) ⟨w.heap.size, 0, none⟩ = some (.int .i64 cs) := by simp [go_sem]
  have c1 : World.cell? (w.alloc (.cells #[.int .i64 cs, .int .i64 ce, .int .i64 cd] 23)) ⟨w.heap.size, 1, none⟩ = some (.int .i64 ce) := by simp [go_sem]
  have c2 : World.cell? (w.alloc (.cells #[.int .i64 cs, .int .i64 ce, .int .i64 cd] 23)) ⟨w.heap.size, 2, none⟩ = some (.int .i64 cd) := by simp [go_sem]
  have gc : w.heap.size < (w.alloc (.cells #[.int .i64 cs, .int .i64 ce, .int .i64 cd] 23)).heap.size := by simp <;> omega
  have B := Lib.hid (show Below w.heap.size w (w.alloc (.cells #[.int .i64 cs, .int .i64 ce, .int .i64 cd] 23)) from ((Below.refl _ _).alloc (by simp; try omega) _))
  generalize w.alloc (.cells #[.int .i64 cs, .int .i64 ce, .int .i64 cd] 23) = V1 at *
  refine (head_any _).mono ?_
  rintro e' w2 ⟨rfl, hb⟩
  replace B := Lib.hid (on_below B.out hb)
  replace c0 := keepc hb c0
  replace c1 := keepc hb c1
  replace c2 := keepc hb c2
  replace gc := Nat.lt_of_lt_of_le gc hb.size
  clear hb
  go_wp2_with fail
  refine (reads_b cs ce cd r _ H1.out _).mono ?_
  rintro e' w3 ⟨rfl, hb⟩
  replace B := Lib.hid (on_below B.out hb)
  replace c0 := keepc hb c0
  replace c1 := keepc hb c1
  replace c2 := keepc hb c2
  replace gc := Nat.lt_of_lt_of_le gc hb.size
  clear hb
  go_wp2_with fail
  refine (true_is cs ce cd r F U 0 P1.out P2.out P3.out _).mono ?_
  rintro e' w4 ⟨rfl, hb⟩
  replace B := Lib.hid (on_below B.out hb)
  replace c0 := keepc hb c0
  replace c1 := keepc hb c1
  replace c2 := keepc hb c2
  replace gc := Nat.lt_of_lt_of_le gc hb.size
  clear hb
  go_wp2_with fail
  have s0 : World.cell? (w4.alloc (.cells #[.int .i64 F, .int .i64 U] 25)) ⟨w4.heap.size, 0, none⟩ = some (.int .i64 F) := by simp [go_sem]
  have s1 : World.cell? (w4.alloc (.cells #[.int .i64 F, .int .i64 U] 25)) ⟨w4.heap.size, 1, none⟩ = some (.int .i64 U) := by simp [go_sem]
  have gs : w4.heap.size < (w4.alloc (.cells #[.int .i64 F, .int .i64 U] 25)).heap.size := by simp <;> omega
  have hb : Below w4.heap.size w4 (w4.alloc (.cells #[.int .i64 F, .int .i64 U] 25)) := ((Below.refl _ _).alloc (by simp; try omega) _)
  generalize w4.alloc (.cells #[.int .i64 F, .int .i64 U] 25) = V5 at *
  replace B := Lib.hid (on_below B.out hb)
  replace c0 := keepc hb c0
  replace c1 := keepc hb c1
  replace c2 := keepc hb c2
  replace gc := Nat.lt_of_lt_of_le gc hb.size
  clear hb
  refine (has_b F U r _ HH.out _).mono ?_
  rintro e' w6 ⟨rfl, hb⟩
  replace B := Lib.hid (on_below B.out hb)
  replace c0 := keepc hb c0
  replace c1 := keepc hb c1
  replace c2 := keepc hb c2
  replace s0 := keepc hb s0
  replace s1 := keepc hb s1
  replace gc := Nat.lt_of_lt_of_le gc hb.size
  replace gs := Nat.lt_of_lt_of_le gs hb.size
  clear hb
  go_wp2_with fail
  refine (within_b o (-ce) ce _ WA.out _).mono ?_
  rintro e' w' ⟨rfl, rfl⟩
  go_wp2_with fail
  refine (within_b g (-((r - cs) * cd)) ((r - cs) * cd) _ WB.out _).mono ?_
  rintro e' w' ⟨rfl, rfl⟩
  go_wp2_with fail
  refine (has_b F U t _ WF.out _).mono ?_
  rintro e' w7 ⟨rfl, hb⟩
  replace B := Lib.hid (on_below B.out hb)
  replace c0 := keepc hb c0
  replace c1 := keepc hb c1
  replace c2 := keepc hb c2
  replace s0 := keepc hb s0
  replace s1 := keepc hb s1
  replace gc := Nat.lt_of_lt_of_le gc hb.size
  replace gs := Nat.lt_of_lt_of_le gs hb.size
  clear hb
  go_wp2_with fail
  all_goals go_ret
  all_goals exact ⟨rfl, B.out⟩
set_option maxRecDepth 100000 in
set_option maxHeartbeats 1000000 in
theorem qby (cs : Int) (ics : I64 cs) (ce : Int) (ice : I64 ce) (cd : Int) (icd : I64 cd) (r : Int) (ir : I64 r) (o : Int) (io : I64 o) (g : Int) (ig : I64 g) (t : Int) (it : I64 t) (w : World) (F U : Int) (b0 : 0 ≤ F) (b1 : F ≤ r) (b2 : r < U) (b3 : U ≤ 600001) (n0 : 0 ≤ ce) (n1 : ce ≤ 1000) (n2 : 0 ≤ cs) (n3 : cs ≤ r) (n4 : 0 ≤ cd) (n5 : cd ≤ 100) (m0 : 0 ≤ ((r - cs) * cd)) (m1 : ((r - cs) * cd) ≤ 60000000) (h1 : rds cs ce cd r = true) (p1 : tF cs ce cd r = F) (p2 : tU cs ce cd r = U) (p3 : tE cs ce cd r = 0) (hh : (decide (F ≤ r) && decide (r < U)) = true) (wa : (decide (-ce ≤ o) && decide (o ≤ ce)) = true) (o0 : -ce ≤ o) (o1 : o ≤ ce) (wb : (decide (-((r - cs) * cd) ≤ g) && decide (g ≤ ((r - cs) * cd))) = false) (wf : (decide (F ≤ t) && decide (t < U)) = true) (t0 : F ≤ t) (t1 : t < U) (hx : t - r < r - t) (l : 1000 * (r - t) ≤ 1000 * ce + ((r - cs) * cd) + 999) :
    Calls Try.prog 4 #[.agg #[.int .i64 cs, .int .i64 ce, .int .i64 cd], .int .i64 r, .int .i64 o, .int .i64 g, .int .i64 t] w fun e w' => e = .returned (.bool true) ∧ Below w.heap.size w w' := by
  have H1 := Lib.hid h1
  clear h1
  have P1 := Lib.hid p1
  clear p1
  have P2 := Lib.hid p2
  clear p2
  have P3 := Lib.hid p3
  clear p3
  have HH := Lib.hid hh
  clear hh
  have WA := Lib.hid wa
  clear wa
  have WF := Lib.hid wf
  clear wf
  have WB := Lib.hid wb
  clear wb
  go_enter Try.func4, Try.ntmps4
  go_wp2_with fail
  have c0 : World.cell? (w.alloc (.cells #[.int .i64 cs, .int .i64 ce, .int .i64 cd] 23)) ⟨w.heap.size, 0, none⟩ = some (.int .i64 cs) := by simp [go_sem]
  have c1 : World.cell? (w.alloc (.cells #[.int .i64 cs, .int .i64 ce, .int .i64 cd] 23)) ⟨w.heap.size, 1, none⟩ = some (.int .i64 ce) := by simp [go_sem]
  have c2 : World.cell? (w.alloc (.cells #[.int .i64 cs, .int .i64 ce, .int .i64 cd] 23)) ⟨w.heap.size, 2, none⟩ = some (.int .i64 cd) := by simp [go_sem]
  have gc : w.heap.size < (w.alloc (.cells #[.int .i64 cs, .int .i64 ce, .int .i64 cd] 23)).heap.size := by simp <;> omega
  have B := Lib.hid (show Below w.heap.size w (w.alloc (.cells #[.int .i64 cs, .int .i64 ce, .int .i64 cd] 23)) from ((Below.refl _ _).alloc (by simp; try omega) _))
  generalize w.alloc (.cells #[.int .i64 cs, .int .i64 ce, .int .i64 cd] 23) = V1 at *
  refine (head_any _).mono ?_
  rintro e' w2 ⟨rfl, hb⟩
  replace B := Lib.hid (on_below B.out hb)
  replace c0 := keepc hb c0
  replace c1 := keepc hb c1
  replace c2 := keepc hb c2
  replace gc := Nat.lt_of_lt_of_le gc hb.size
  clear hb
  go_wp2_with fail
  refine (reads_b cs ce cd r _ H1.out _).mono ?_
  rintro e' w3 ⟨rfl, hb⟩
  replace B := Lib.hid (on_below B.out hb)
  replace c0 := keepc hb c0
  replace c1 := keepc hb c1
  replace c2 := keepc hb c2
  replace gc := Nat.lt_of_lt_of_le gc hb.size
  clear hb
  go_wp2_with fail
  refine (true_is cs ce cd r F U 0 P1.out P2.out P3.out _).mono ?_
  rintro e' w4 ⟨rfl, hb⟩
  replace B := Lib.hid (on_below B.out hb)
  replace c0 := keepc hb c0
  replace c1 := keepc hb c1
  replace c2 := keepc hb c2
  replace gc := Nat.lt_of_lt_of_le gc hb.size
  clear hb
  go_wp2_with fail
  have s0 : World.cell? (w4.alloc (.cells #[.int .i64 F, .int .i64 U] 25)) ⟨w4.heap.size, 0, none⟩ = some (.int .i64 F) := by simp [go_sem]
  have s1 : World.cell? (w4.alloc (.cells #[.int .i64 F, .int .i64 U] 25)) ⟨w4.heap.size, 1, none⟩ = some (.int .i64 U) := by simp [go_sem]
  have gs : w4.heap.size < (w4.alloc (.cells #[.int .i64 F, .int .i64 U] 25)).heap.size := by simp <;> omega
  have hb : Below w4.heap.size w4 (w4.alloc (.cells #[.int .i64 F, .int .i64 U] 25)) := ((Below.refl _ _).alloc (by simp; try omega) _)
  generalize w4.alloc (.cells #[.int .i64 F, .int .i64 U] 25) = V5 at *
  replace B := Lib.hid (on_below B.out hb)
  replace c0 := keepc hb c0
  replace c1 := keepc hb c1
  replace c2 := keepc hb c2
  replace gc := Nat.lt_of_lt_of_le gc hb.size
  clear hb
  refine (has_b F U r _ HH.out _).mono ?_
  rintro e' w6 ⟨rfl, hb⟩
  replace B := Lib.hid (on_below B.out hb)
  replace c0 := keepc hb c0
  replace c1 := keepc hb c1
  replace c2 := keepc hb c2
  replace s0 := keepc hb s0
  replace s1 := keepc hb s1
  replace gc := Nat.lt_of_lt_of_le gc hb.size
  replace gs := Nat.lt_of_lt_of_le gs hb.size
  clear hb
  go_wp2_with fail
  refine (within_b o (-ce) ce _ WA.out _).mono ?_
  rintro e' w' ⟨rfl, rfl⟩
  go_wp2_with fail
  refine (within_b g (-((r - cs) * cd)) ((r - cs) * cd) _ WB.out _).mono ?_
  rintro e' w' ⟨rfl, rfl⟩
  go_wp2_with fail
  refine (has_b F U t _ WF.out _).mono ?_
  rintro e' w7 ⟨rfl, hb⟩
  replace B := Lib.hid (on_below B.out hb)
  replace c0 := keepc hb c0
  replace c1 := keepc hb c1
  replace c2 := keepc hb c2
  replace s0 := keepc hb s0
  replace s1 := keepc hb s1
  replace gc := Nat.lt_of_lt_of_le gc hb.size
  replace gs := Nat.lt_of_lt_of_le gs hb.size
  clear hb
  go_wp2_with fail
  all_goals go_ret
  all_goals exact ⟨rfl, B.out⟩
set_option maxRecDepth 100000 in
set_option maxHeartbeats 1000000 in
theorem qbz (cs : Int) (ics : I64 cs) (ce : Int) (ice : I64 ce) (cd : Int) (icd : I64 cd) (r : Int) (ir : I64 r) (o : Int) (io : I64 o) (g : Int) (ig : I64 g) (t : Int) (it : I64 t) (w : World) (F U : Int) (b0 : 0 ≤ F) (b1 : F ≤ r) (b2 : r < U) (b3 : U ≤ 600001) (n0 : 0 ≤ ce) (n1 : ce ≤ 1000) (n2 : 0 ≤ cs) (n3 : cs ≤ r) (n4 : 0 ≤ cd) (n5 : cd ≤ 100) (m0 : 0 ≤ ((r - cs) * cd)) (m1 : ((r - cs) * cd) ≤ 60000000) (h1 : rds cs ce cd r = true) (p1 : tF cs ce cd r = F) (p2 : tU cs ce cd r = U) (p3 : tE cs ce cd r = 0) (hh : (decide (F ≤ r) && decide (r < U)) = true) (wa : (decide (-ce ≤ o) && decide (o ≤ ce)) = true) (o0 : -ce ≤ o) (o1 : o ≤ ce) (wb : (decide (-((r - cs) * cd) ≤ g) && decide (g ≤ ((r - cs) * cd))) = false) (wf : (decide (F ≤ t) && decide (t < U)) = true) (t0 : F ≤ t) (t1 : t < U) (hx : r - t ≤ t - r) (l : 1000 * (t - r) ≤ 1000 * ce + ((r - cs) * cd) + 999) :
    Calls Try.prog 4 #[.agg #[.int .i64 cs, .int .i64 ce, .int .i64 cd], .int .i64 r, .int .i64 o, .int .i64 g, .int .i64 t] w fun e w' => e = .returned (.bool true) ∧ Below w.heap.size w w' := by
  have H1 := Lib.hid h1
  clear h1
  have P1 := Lib.hid p1
  clear p1
  have P2 := Lib.hid p2
  clear p2
  have P3 := Lib.hid p3
  clear p3
  have HH := Lib.hid hh
  clear hh
  have WA := Lib.hid wa
  clear wa
  have WF := Lib.hid wf
  clear wf
  have WB := Lib.hid wb
  clear wb
  go_enter Try.func4, Try.ntmps4
  go_wp2_with fail
  have c0 : World.cell? (w.alloc (.cells #[.int .i64 cs, .int .i64 ce, .int .i64 cd] 23)) ⟨w.heap.size, 0, none⟩ = some (.int .i64 cs) := by simp [go_sem]
  have c1 : World.cell? (w.alloc (.cells #[.int .i64 cs, .int .i64 ce, .int .i64 cd] 23)) ⟨w.heap.size, 1, none⟩ = some (.int .i64 ce) := by simp [go_sem]
  have c2 : World.cell? (w.alloc (.cells #[.int .i64 cs, .int .i64 ce, .int .i64 cd] 23)) ⟨w.heap.size, 2, none⟩ = some (.int .i64 cd) := by simp [go_sem]
  have gc : w.heap.size < (w.alloc (.cells #[.int .i64 cs, .int .i64 ce, .int .i64 cd] 23)).heap.size := by simp <;> omega
  have B := Lib.hid (show Below w.heap.size w (w.alloc (.cells #[.int .i64 cs, .int .i64 ce, .int .i64 cd] 23)) from ((Below.refl _ _).alloc (by simp; try omega) _))
  generalize w.alloc (.cells #[.int .i64 cs, .int .i64 ce, .int .i64 cd] 23) = V1 at *
  refine (head_any _).mono ?_
  rintro e' w2 ⟨rfl, hb⟩
  replace B := Lib.hid (on_below B.out hb)
  replace c0 := keepc hb c0
  replace c1 := keepc hb c1
  replace c2 := keepc hb c2
  replace gc := Nat.lt_of_lt_of_le gc hb.size
  clear hb
  go_wp2_with fail
  refine (reads_b cs ce cd r _ H1.out _).mono ?_
  rintro e' w3 ⟨rfl, hb⟩
  replace B := Lib.hid (on_below B.out hb)
  replace c0 := keepc hb c0
  replace c1 := keepc hb c1
  replace c2 := keepc hb c2
  replace gc := Nat.lt_of_lt_of_le gc hb.size
  clear hb
  go_wp2_with fail
  refine (true_is cs ce cd r F U 0 P1.out P2.out P3.out _).mono ?_
  rintro e' w4 ⟨rfl, hb⟩
  replace B := Lib.hid (on_below B.out hb)
  replace c0 := keepc hb c0
  replace c1 := keepc hb c1
  replace c2 := keepc hb c2
  replace gc := Nat.lt_of_lt_of_le gc hb.size
  clear hb
  go_wp2_with fail
  have s0 : World.cell? (w4.alloc (.cells #[.int .i64 F, .int .i64 U] 25)) ⟨w4.heap.size, 0, none⟩ = some (.int .i64 F) := by simp [go_sem]
  have s1 : World.cell? (w4.alloc (.cells #[.int .i64 F, .int .i64 U] 25)) ⟨w4.heap.size, 1, none⟩ = some (.int .i64 U) := by simp [go_sem]
  have gs : w4.heap.size < (w4.alloc (.cells #[.int .i64 F, .int .i64 U] 25)).heap.size := by simp <;> omega
  have hb : Below w4.heap.size w4 (w4.alloc (.cells #[.int .i64 F, .int .i64 U] 25)) := ((Below.refl _ _).alloc (by simp; try omega) _)
  generalize w4.alloc (.cells #[.int .i64 F, .int .i64 U] 25) = V5 at *
  replace B := Lib.hid (on_below B.out hb)
  replace c0 := keepc hb c0
  replace c1 := keepc hb c1
  replace c2 := keepc hb c2
  replace gc := Nat.lt_of_lt_of_le gc hb.size
  clear hb
  refine (has_b F U r _ HH.out _).mono ?_
  rintro e' w6 ⟨rfl, hb⟩
  replace B := Lib.hid (on_below B.out hb)
  replace c0 := keepc hb c0
  replace c1 := keepc hb c1
  replace c2 := keepc hb c2
  replace s0 := keepc hb s0
  replace s1 := keepc hb s1
  replace gc := Nat.lt_of_lt_of_le gc hb.size
  replace gs := Nat.lt_of_lt_of_le gs hb.size
  clear hb
  go_wp2_with fail
  refine (within_b o (-ce) ce _ WA.out _).mono ?_
  rintro e' w' ⟨rfl, rfl⟩
  go_wp2_with fail
  refine (within_b g (-((r - cs) * cd)) ((r - cs) * cd) _ WB.out _).mono ?_
  rintro e' w' ⟨rfl, rfl⟩
  go_wp2_with fail
  refine (has_b F U t _ WF.out _).mono ?_
  rintro e' w7 ⟨rfl, hb⟩
  replace B := Lib.hid (on_below B.out hb)
  replace c0 := keepc hb c0
  replace c1 := keepc hb c1
  replace c2 := keepc hb c2
  replace s0 := keepc hb s0
  replace s1 := keepc hb s1
  replace gc := Nat.lt_of_lt_of_le gc hb.size
  replace gs := Nat.lt_of_lt_of_le gs hb.size
  clear hb
  go_wp2_with fail
  all_goals go_ret
  all_goals exact ⟨rfl, B.out⟩
set_option maxRecDepth 100000 in
set_option maxHeartbeats 1000000 in
theorem qcx (cs : Int) (ics : I64 cs) (ce : Int) (ice : I64 ce) (cd : Int) (icd : I64 cd) (r : Int) (ir : I64 r) (o : Int) (io : I64 o) (g : Int) (ig : I64 g) (t : Int) (it : I64 t) (w : World) (F U : Int) (b0 : 0 ≤ F) (b1 : F ≤ r) (b2 : r < U) (b3 : U ≤ 600001) (n0 : 0 ≤ ce) (n1 : ce ≤ 1000) (n2 : 0 ≤ cs) (n3 : cs ≤ r) (n4 : 0 ≤ cd) (n5 : cd ≤ 100) (m0 : 0 ≤ ((r - cs) * cd)) (m1 : ((r - cs) * cd) ≤ 60000000) (h1 : rds cs ce cd r = true) (p1 : tF cs ce cd r = F) (p2 : tU cs ce cd r = U) (p3 : tE cs ce cd r = 0) (hh : (decide (F ≤ r) && decide (r < U)) = true) (wa : (decide (-ce ≤ o) && decide (o ≤ ce)) = true) (o0 : -ce ≤ o) (o1 : o ≤ ce) (wb : (decide (-((r - cs) * cd) ≤ g) && decide (g ≤ ((r - cs) * cd))) = true) (g0 : -((r - cs) * cd) ≤ g) (g1 : g ≤ ((r - cs) * cd)) (wc : (decide (-((r - cs) * cd) ≤ 1000 * g) && decide (1000 * g ≤ ((r - cs) * cd))) = false) (wf : (decide (F ≤ t) && decide (t < U)) = false) :
    Calls Try.prog 4 #[.agg #[.int .i64 cs, .int .i64 ce, .int .i64 cd], .int .i64 r, .int .i64 o, .int .i64 g, .int .i64 t] w fun e w' => e = .returned (.bool true) ∧ Below w.heap.size w w' := by
  have H1 := Lib.hid h1
  clear h1
  have P1 := Lib.hid p1
  clear p1
  have P2 := Lib.hid p2
  clear p2
  have P3 := Lib.hid p3
  clear p3
  have HH := Lib.hid hh
  clear hh
  have WA := Lib.hid wa
  clear wa
  have WF := Lib.hid wf
  clear wf
  have WB := Lib.hid wb
  clear wb
  have WC := Lib.hid wc
  clear wc
  go_enter Try.func4, Try.ntmps4
  go_wp2_with fail
  have c0 : World.cell? (w.alloc (.cells #[.int .i64 cs, .int .i64 ce, .int .i64 cd] 23)) ⟨w.heap.size, 0, none⟩ = some (.int .i64 cs) := by simp [go_sem]
  have c1 : World.cell? (w.alloc (.cells #[.int .i64 cs, .int .i64 ce, .int .i64 cd] 23)) ⟨w.heap.size, 1, none⟩ = some (.int .i64 ce) := by simp [go_sem]
  have c2 : World.cell? (w.alloc (.cells #[.int .i64 cs, .int .i64 ce, .int .i64 cd] 23)) ⟨w.heap.size, 2, none⟩ = some (.int .i64 cd) := by simp [go_sem]
  have gc : w.heap.size < (w.alloc (.cells #[.int .i64 cs, .int .i64 ce, .int .i64 cd] 23)).heap.size := by simp <;> omega
  have B := Lib.hid (show Below w.heap.size w (w.alloc (.cells #[.int .i64 cs, .int .i64 ce, .int .i64 cd] 23)) from ((Below.refl _ _).alloc (by simp; try omega) _))
  generalize w.alloc (.cells #[.int .i64 cs, .int .i64 ce, .int .i64 cd] 23) = V1 at *
  refine (head_any _).mono ?_
  rintro e' w2 ⟨rfl, hb⟩
  replace B := Lib.hid (on_below B.out hb)
  replace c0 := keepc hb c0
  replace c1 := keepc hb c1
  replace c2 := keepc hb c2
  replace gc := Nat.lt_of_lt_of_le gc hb.size
  clear hb
  go_wp2_with fail
  refine (reads_b cs ce cd r _ H1.out _).mono ?_
  rintro e' w3 ⟨rfl, hb⟩
  replace B := Lib.hid (on_below B.out hb)
  replace c0 := keepc hb c0
  replace c1 := keepc hb c1
  replace c2 := keepc hb c2
  replace gc := Nat.lt_of_lt_of_le gc hb.size
  clear hb
  go_wp2_with fail
  refine (true_is cs ce cd r F U 0 P1.out P2.out P3.out _).mono ?_
  rintro e' w4 ⟨rfl, hb⟩
  replace B := Lib.hid (on_below B.out hb)
  replace c0 := keepc hb c0
  replace c1 := keepc hb c1
  replace c2 := keepc hb c2
  replace gc := Nat.lt_of_lt_of_le gc hb.size
  clear hb
  go_wp2_with fail
  have s0 : World.cell? (w4.alloc (.cells #[.int .i64 F, .int .i64 U] 25)) ⟨w4.heap.size, 0, none⟩ = some (.int .i64 F) := by simp [go_sem]
  have s1 : World.cell? (w4.alloc (.cells #[.int .i64 F, .int .i64 U] 25)) ⟨w4.heap.size, 1, none⟩ = some (.int .i64 U) := by simp [go_sem]
  have gs : w4.heap.size < (w4.alloc (.cells #[.int .i64 F, .int .i64 U] 25)).heap.size := by simp <;> omega
  have hb : Below w4.heap.size w4 (w4.alloc (.cells #[.int .i64 F, .int .i64 U] 25)) := ((Below.refl _ _).alloc (by simp; try omega) _)
  generalize w4.alloc (.cells #[.int .i64 F, .int .i64 U] 25) = V5 at *
  replace B := Lib.hid (on_below B.out hb)
  replace c0 := keepc hb c0
  replace c1 := keepc hb c1
  replace c2 := keepc hb c2
  replace gc := Nat.lt_of_lt_of_le gc hb.size
  clear hb
  refine (has_b F U r _ HH.out _).mono ?_
  rintro e' w6 ⟨rfl, hb⟩
  replace B := Lib.hid (on_below B.out hb)
  replace c0 := keepc hb c0
  replace c1 := keepc hb c1
  replace c2 := keepc hb c2
  replace s0 := keepc hb s0
  replace s1 := keepc hb s1
  replace gc := Nat.lt_of_lt_of_le gc hb.size
  replace gs := Nat.lt_of_lt_of_le gs hb.size
  clear hb
  go_wp2_with fail
  refine (within_b o (-ce) ce _ WA.out _).mono ?_
  rintro e' w' ⟨rfl, rfl⟩
  go_wp2_with fail
  refine (within_b g (-((r - cs) * cd)) ((r - cs) * cd) _ WB.out _).mono ?_
  rintro e' w' ⟨rfl, rfl⟩
  go_wp2_with fail
  refine (within_b (1000 * g) (-((r - cs) * cd)) ((r - cs) * cd) _ WC.out _).mono ?_
  rintro e' w' ⟨rfl, rfl⟩
  go_wp2_with fail
  refine (has_b F U t _ WF.out _).mono ?_
  rintro e' w7 ⟨rfl, hb⟩
  replace B := Lib.hid (on_below B.out hb)
  replace c0 := keepc hb c0
  replace c1 := keepc hb c1
  replace c2 := keepc hb c2
  replace s0 := keepc hb s0
  replace s1 := keepc hb s1
  replace gc := Nat.lt_of_lt_of_le gc hb.size
  replace gs := Nat.lt_of_lt_of_le gs hb.size
  clear hb
  go_wp2_with fail
  all_goals go_ret
  all_goals exact ⟨rfl, B.out⟩
set_option maxRecDepth 100000 in
set_option maxHeartbeats 1000000 in
theorem qcy (cs : Int) (ics : I64 cs) (ce : Int) (ice : I64 ce) (cd : Int) (icd : I64 cd) (r : Int) (ir : I64 r) (o : Int) (io : I64 o) (g : Int) (ig : I64 g) (t : Int) (it : I64 t) (w : World) (F U : Int) (b0 : 0 ≤ F) (b1 : F ≤ r) (b2 : r < U) (b3 : U ≤ 600001) (n0 : 0 ≤ ce) (n1 : ce ≤ 1000) (n2 : 0 ≤ cs) (n3 : cs ≤ r) (n4 : 0 ≤ cd) (n5 : cd ≤ 100) (m0 : 0 ≤ ((r - cs) * cd)) (m1 : ((r - cs) * cd) ≤ 60000000) (h1 : rds cs ce cd r = true) (p1 : tF cs ce cd r = F) (p2 : tU cs ce cd r = U) (p3 : tE cs ce cd r = 0) (hh : (decide (F ≤ r) && decide (r < U)) = true) (wa : (decide (-ce ≤ o) && decide (o ≤ ce)) = true) (o0 : -ce ≤ o) (o1 : o ≤ ce) (wb : (decide (-((r - cs) * cd) ≤ g) && decide (g ≤ ((r - cs) * cd))) = true) (g0 : -((r - cs) * cd) ≤ g) (g1 : g ≤ ((r - cs) * cd)) (wc : (decide (-((r - cs) * cd) ≤ 1000 * g) && decide (1000 * g ≤ ((r - cs) * cd))) = false) (wf : (decide (F ≤ t) && decide (t < U)) = true) (t0 : F ≤ t) (t1 : t < U) (hx : t - r < r - t) (l : 1000 * (r - t) ≤ 1000 * ce + ((r - cs) * cd) + 999) :
    Calls Try.prog 4 #[.agg #[.int .i64 cs, .int .i64 ce, .int .i64 cd], .int .i64 r, .int .i64 o, .int .i64 g, .int .i64 t] w fun e w' => e = .returned (.bool true) ∧ Below w.heap.size w w' := by
  have H1 := Lib.hid h1
  clear h1
  have P1 := Lib.hid p1
  clear p1
  have P2 := Lib.hid p2
  clear p2
  have P3 := Lib.hid p3
  clear p3
  have HH := Lib.hid hh
  clear hh
  have WA := Lib.hid wa
  clear wa
  have WF := Lib.hid wf
  clear wf
  have WB := Lib.hid wb
  clear wb
  have WC := Lib.hid wc
  clear wc
  go_enter Try.func4, Try.ntmps4
  go_wp2_with fail
  have c0 : World.cell? (w.alloc (.cells #[.int .i64 cs, .int .i64 ce, .int .i64 cd] 23)) ⟨w.heap.size, 0, none⟩ = some (.int .i64 cs) := by simp [go_sem]
  have c1 : World.cell? (w.alloc (.cells #[.int .i64 cs, .int .i64 ce, .int .i64 cd] 23)) ⟨w.heap.size, 1, none⟩ = some (.int .i64 ce) := by simp [go_sem]
  have c2 : World.cell? (w.alloc (.cells #[.int .i64 cs, .int .i64 ce, .int .i64 cd] 23)) ⟨w.heap.size, 2, none⟩ = some (.int .i64 cd) := by simp [go_sem]
  have gc : w.heap.size < (w.alloc (.cells #[.int .i64 cs, .int .i64 ce, .int .i64 cd] 23)).heap.size := by simp <;> omega
  have B := Lib.hid (show Below w.heap.size w (w.alloc (.cells #[.int .i64 cs, .int .i64 ce, .int .i64 cd] 23)) from ((Below.refl _ _).alloc (by simp; try omega) _))
  generalize w.alloc (.cells #[.int .i64 cs, .int .i64 ce, .int .i64 cd] 23) = V1 at *
  refine (head_any _).mono ?_
  rintro e' w2 ⟨rfl, hb⟩
  replace B := Lib.hid (on_below B.out hb)
  replace c0 := keepc hb c0
  replace c1 := keepc hb c1
  replace c2 := keepc hb c2
  replace gc := Nat.lt_of_lt_of_le gc hb.size
  clear hb
  go_wp2_with fail
  refine (reads_b cs ce cd r _ H1.out _).mono ?_
  rintro e' w3 ⟨rfl, hb⟩
  replace B := Lib.hid (on_below B.out hb)
  replace c0 := keepc hb c0
  replace c1 := keepc hb c1
  replace c2 := keepc hb c2
  replace gc := Nat.lt_of_lt_of_le gc hb.size
  clear hb
  go_wp2_with fail
  refine (true_is cs ce cd r F U 0 P1.out P2.out P3.out _).mono ?_
  rintro e' w4 ⟨rfl, hb⟩
  replace B := Lib.hid (on_below B.out hb)
  replace c0 := keepc hb c0
  replace c1 := keepc hb c1
  replace c2 := keepc hb c2
  replace gc := Nat.lt_of_lt_of_le gc hb.size
  clear hb
  go_wp2_with fail
  have s0 : World.cell? (w4.alloc (.cells #[.int .i64 F, .int .i64 U] 25)) ⟨w4.heap.size, 0, none⟩ = some (.int .i64 F) := by simp [go_sem]
  have s1 : World.cell? (w4.alloc (.cells #[.int .i64 F, .int .i64 U] 25)) ⟨w4.heap.size, 1, none⟩ = some (.int .i64 U) := by simp [go_sem]
  have gs : w4.heap.size < (w4.alloc (.cells #[.int .i64 F, .int .i64 U] 25)).heap.size := by simp <;> omega
  have hb : Below w4.heap.size w4 (w4.alloc (.cells #[.int .i64 F, .int .i64 U] 25)) := ((Below.refl _ _).alloc (by simp; try omega) _)
  generalize w4.alloc (.cells #[.int .i64 F, .int .i64 U] 25) = V5 at *
  replace B := Lib.hid (on_below B.out hb)
  replace c0 := keepc hb c0
  replace c1 := keepc hb c1
  replace c2 := keepc hb c2
  replace gc := Nat.lt_of_lt_of_le gc hb.size
  clear hb
  refine (has_b F U r _ HH.out _).mono ?_
  rintro e' w6 ⟨rfl, hb⟩
  replace B := Lib.hid (on_below B.out hb)
  replace c0 := keepc hb c0
  replace c1 := keepc hb c1
  replace c2 := keepc hb c2
  replace s0 := keepc hb s0
  replace s1 := keepc hb s1
  replace gc := Nat.lt_of_lt_of_le gc hb.size
  replace gs := Nat.lt_of_lt_of_le gs hb.size
  clear hb
  go_wp2_with fail
  refine (within_b o (-ce) ce _ WA.out _).mono ?_
  rintro e' w' ⟨rfl, rfl⟩
  go_wp2_with fail
  refine (within_b g (-((r - cs) * cd)) ((r - cs) * cd) _ WB.out _).mono ?_
  rintro e' w' ⟨rfl, rfl⟩
  go_wp2_with fail
  refine (within_b (1000 * g) (-((r - cs) * cd)) ((r - cs) * cd) _ WC.out _).mono ?_
  rintro e' w' ⟨rfl, rfl⟩
  go_wp2_with fail
  refine (has_b F U t _ WF.out _).mono ?_
  rintro e' w7 ⟨rfl, hb⟩
  replace B := Lib.hid (on_below B.out hb)
  replace c0 := keepc hb c0
  replace c1 := keepc hb c1
  replace c2 := keepc hb c2
  replace s0 := keepc hb s0
  replace s1 := keepc hb s1
  replace gc := Nat.lt_of_lt_of_le gc hb.size
  replace gs := Nat.lt_of_lt_of_le gs hb.size
  clear hb
  go_wp2_with fail
  all_goals go_ret
  all_goals exact ⟨rfl, B.out⟩
set_option maxRecDepth 100000 in
set_option maxHeartbeats 1000000 in
theorem qcz (cs : Int) (ics : I64 cs) (ce : Int) (ice : I64 ce) (cd : Int) (icd : I64 cd) (r : Int) (ir : I64 r) (o : Int) (io : I64 o) (g : Int) (ig : I64 g) (t : Int) (it : I64 t) (w : World) (F U : Int) (b0 : 0 ≤ F) (b1 : F ≤ r) (b2 : r < U) (b3 : U ≤ 600001) (n0 : 0 ≤ ce) (n1 : ce ≤ 1000) (n2 : 0 ≤ cs) (n3 : cs ≤ r) (n4 : 0 ≤ cd) (n5 : cd ≤ 100) (m0 : 0 ≤ ((r - cs) * cd)) (m1 : ((r - cs) * cd) ≤ 60000000) (h1 : rds cs ce cd r = true) (p1 : tF cs ce cd r = F) (p2 : tU cs ce cd r = U) (p3 : tE cs ce cd r = 0) (hh : (decide (F ≤ r) && decide (r < U)) = true) (wa : (decide (-ce ≤ o) && decide (o ≤ ce)) = true) (o0 : -ce ≤ o) (o1 : o ≤ ce) (wb : (decide (-((r - cs) * cd) ≤ g) && decide (g ≤ ((r - cs) * cd))) = true) (g0 : -((r - cs) * cd) ≤ g) (g1 : g ≤ ((r - cs) * cd)) (wc : (decide (-((r - cs) * cd) ≤ 1000 * g) && decide (1000 * g ≤ ((r - cs) * cd))) = false) (wf : (decide (F ≤ t) && decide (t < U)) = true) (t0 : F ≤ t) (t1 : t < U) (hx : r - t ≤ t - r) (l : 1000 * (t - r) ≤ 1000 * ce + ((r - cs) * cd) + 999) :
    Calls Try.prog 4 #[.agg #[.int .i64 cs, .int .i64 ce, .int .i64 cd], .int .i64 r, .int .i64 o, .int .i64 g, .int .i64 t] w fun e w' => e = .returned (.bool true) ∧ Below w.heap.size w w' := by
  have H1 := Lib.hid h1
  clear h1
  have P1 := Lib.hid p1
  clear p1
  have P2 := Lib.hid p2
  clear p2
  have P3 := Lib.hid p3
  clear p3
  have HH := Lib.hid hh
  clear hh
  have WA := Lib.hid wa
  clear wa
  have WF := Lib.hid wf
  clear wf
  have WB := Lib.hid wb
  clear wb
  have WC := Lib.hid wc
  clear wc
  go_enter Try.func4, Try.ntmps4
  go_wp2_with fail
  have c0 : World.cell? (w.alloc (.cells #[.int .i64 cs, .int .i64 ce, .int .i64 cd] 23)) ⟨w.heap.size, 0, none⟩ = some (.int .i64 cs) := by simp [go_sem]
  have c1 : World.cell? (w.alloc (.cells #[.int .i64 cs, .int .i64 ce, .int .i64 cd] 23)) ⟨w.heap.size, 1, none⟩ = some (.int .i64 ce) := by simp [go_sem]
  have c2 : World.cell? (w.alloc (.cells #[.int .i64 cs, .int .i64 ce, .int .i64 cd] 23)) ⟨w.heap.size, 2, none⟩ = some (.int .i64 cd) := by simp [go_sem]
  have gc : w.heap.size < (w.alloc (.cells #[.int .i64 cs, .int .i64 ce, .int .i64 cd] 23)).heap.size := by simp <;> omega
  have B := Lib.hid (show Below w.heap.size w (w.alloc (.cells #[.int .i64 cs, .int .i64 ce, .int .i64 cd] 23)) from ((Below.refl _ _).alloc (by simp; try omega) _))
  generalize w.alloc (.cells #[.int .i64 cs, .int .i64 ce, .int .i64 cd] 23) = V1 at *
  refine (head_any _).mono ?_
  rintro e' w2 ⟨rfl, hb⟩
  replace B := Lib.hid (on_below B.out hb)
  replace c0 := keepc hb c0
  replace c1 := keepc hb c1
  replace c2 := keepc hb c2
  replace gc := Nat.lt_of_lt_of_le gc hb.size
  clear hb
  go_wp2_with fail
  refine (reads_b cs ce cd r _ H1.out _).mono ?_
  rintro e' w3 ⟨rfl, hb⟩
  replace B := Lib.hid (on_below B.out hb)
  replace c0 := keepc hb c0
  replace c1 := keepc hb c1
  replace c2 := keepc hb c2
  replace gc := Nat.lt_of_lt_of_le gc hb.size
  clear hb
  go_wp2_with fail
  refine (true_is cs ce cd r F U 0 P1.out P2.out P3.out _).mono ?_
  rintro e' w4 ⟨rfl, hb⟩
  replace B := Lib.hid (on_below B.out hb)
  replace c0 := keepc hb c0
  replace c1 := keepc hb c1
  replace c2 := keepc hb c2
  replace gc := Nat.lt_of_lt_of_le gc hb.size
  clear hb
  go_wp2_with fail
  have s0 : World.cell? (w4.alloc (.cells #[.int .i64 F, .int .i64 U] 25)) ⟨w4.heap.size, 0, none⟩ = some (.int .i64 F) := by simp [go_sem]
  have s1 : World.cell? (w4.alloc (.cells #[.int .i64 F, .int .i64 U] 25)) ⟨w4.heap.size, 1, none⟩ = some (.int .i64 U) := by simp [go_sem]
  have gs : w4.heap.size < (w4.alloc (.cells #[.int .i64 F, .int .i64 U] 25)).heap.size := by simp <;> omega
  have hb : Below w4.heap.size w4 (w4.alloc (.cells #[.int .i64 F, .int .i64 U] 25)) := ((Below.refl _ _).alloc (by simp; try omega) _)
  generalize w4.alloc (.cells #[.int .i64 F, .int .i64 U] 25) = V5 at *
  replace B := Lib.hid (on_below B.out hb)
  replace c0 := keepc hb c0
  replace c1 := keepc hb c1
  replace c2 := keepc hb c2
  replace gc := Nat.lt_of_lt_of_le gc hb.size
  clear hb
  refine (has_b F U r _ HH.out _).mono ?_
  rintro e' w6 ⟨rfl, hb⟩
  replace B := Lib.hid (on_below B.out hb)
  replace c0 := keepc hb c0
  replace c1 := keepc hb c1
  replace c2 := keepc hb c2
  replace s0 := keepc hb s0
  replace s1 := keepc hb s1
  replace gc := Nat.lt_of_lt_of_le gc hb.size
  replace gs := Nat.lt_of_lt_of_le gs hb.size
  clear hb
  go_wp2_with fail
  refine (within_b o (-ce) ce _ WA.out _).mono ?_
  rintro e' w' ⟨rfl, rfl⟩
  go_wp2_with fail
  refine (within_b g (-((r - cs) * cd)) ((r - cs) * cd) _ WB.out _).mono ?_
  rintro e' w' ⟨rfl, rfl⟩
  go_wp2_with fail
  refine (within_b (1000 * g) (-((r - cs) * cd)) ((r - cs) * cd) _ WC.out _).mono ?_
  rintro e' w' ⟨rfl, rfl⟩
  go_wp2_with fail
  refine (has_b F U t _ WF.out _).mono ?_
  rintro e' w7 ⟨rfl, hb⟩
  replace B := Lib.hid (on_below B.out hb)
  replace c0 := keepc hb c0
  replace c1 := keepc hb c1
  replace c2 := keepc hb c2
  replace s0 := keepc hb s0
  replace s1 := keepc hb s1
  replace gc := Nat.lt_of_lt_of_le gc hb.size
  replace gs := Nat.lt_of_lt_of_le gs hb.size
  clear hb
  go_wp2_with fail
  all_goals go_ret
  all_goals exact ⟨rfl, B.out⟩
set_option maxRecDepth 100000 in
set_option maxHeartbeats 1000000 in
theorem qdx (cs : Int) (ics : I64 cs) (ce : Int) (ice : I64 ce) (cd : Int) (icd : I64 cd) (r : Int) (ir : I64 r) (o : Int) (io : I64 o) (g : Int) (ig : I64 g) (t : Int) (it : I64 t) (w : World) (F U : Int) (b0 : 0 ≤ F) (b1 : F ≤ r) (b2 : r < U) (b3 : U ≤ 600001) (n0 : 0 ≤ ce) (n1 : ce ≤ 1000) (n2 : 0 ≤ cs) (n3 : cs ≤ r) (n4 : 0 ≤ cd) (n5 : cd ≤ 100) (m0 : 0 ≤ ((r - cs) * cd)) (m1 : ((r - cs) * cd) ≤ 60000000) (h1 : rds cs ce cd r = true) (p1 : tF cs ce cd r = F) (p2 : tU cs ce cd r = U) (p3 : tE cs ce cd r = 0) (hh : (decide (F ≤ r) && decide (r < U)) = true) (wa : (decide (-ce ≤ o) && decide (o ≤ ce)) = true) (o0 : -ce ≤ o) (o1 : o ≤ ce) (wb : (decide (-((r - cs) * cd) ≤ g) && decide (g ≤ ((r - cs) * cd))) = true) (g0 : -((r - cs) * cd) ≤ g) (g1 : g ≤ ((r - cs) * cd)) (wc : (decide (-((r - cs) * cd) ≤ 1000 * g) && decide (1000 * g ≤ ((r - cs) * cd))) = true) (wd : (decide (0 ≤ (r + o + g)) && decide ((r + o + g) ≤ 600000)) = false) (wf : (decide (F ≤ t) && decide (t < U)) = false) :
    Calls Try.prog 4 #[.agg #[.int .i64 cs, .int .i64 ce, .int .i64 cd], .int .i64 r, .int .i64 o, .int .i64 g, .int .i64 t] w fun e w' => e = .returned (.bool true) ∧ Below w.heap.size w w' := by
  have H1 := Lib.hid h1
  clear h1
  have P1 := Lib.hid p1
  clear p1
  have P2 := Lib.hid p2
  clear p2
  have P3 := Lib.hid p3
  clear p3
  have HH := Lib.hid hh
  clear hh
  have WA := Lib.hid wa
  clear wa
  have WF := Lib.hid wf
  clear wf
  have WB := Lib.hid wb
  clear wb
  have WC := Lib.hid wc
  clear wc
  have WD := Lib.hid wd
  clear wd
  go_enter Try.func4, Try.ntmps4
  go_wp2_with fail
  have c0 : World.cell? (w.alloc (.cells #[.int .i64 cs, .int .i64 ce, .int .i64 cd] 23)) ⟨w.heap.size, 0, none⟩ = some (.int .i64 cs) := by simp [go_sem]
  have c1 : World.cell? (w.alloc (.cells #[.int .i64 cs, .int .i64 ce, .int .i64 cd] 23)) ⟨w.heap.size, 1, none⟩ = some (.int .i64 ce) := by simp [go_sem]
  have c2 : World.cell? (w.alloc (.cells #[.int .i64 cs, .int .i64 ce, .int .i64 cd] 23)) ⟨w.heap.size, 2, none⟩ = some (.int .i64 cd) := by simp [go_sem]
  have gc : w.heap.size < (w.alloc (.cells #[.int .i64 cs, .int .i64 ce, .int .i64 cd] 23)).heap.size := by simp <;> omega
  have B := Lib.hid (show Below w.heap.size w (w.alloc (.cells #[.int .i64 cs, .int .i64 ce, .int .i64 cd] 23)) from ((Below.refl _ _).alloc (by simp; try omega) _))
  generalize w.alloc (.cells #[.int .i64 cs, .int .i64 ce, .int .i64 cd] 23) = V1 at *
  refine (head_any _).mono ?_
  rintro e' w2 ⟨rfl, hb⟩
  replace B := Lib.hid (on_below B.out hb)
  replace c0 := keepc hb c0
  replace c1 := keepc hb c1
  replace c2 := keepc hb c2
  replace gc := Nat.lt_of_lt_of_le gc hb.size
  clear hb
  go_wp2_with fail
  refine (reads_b cs ce cd r _ H1.out _).mono ?_
  rintro e' w3 ⟨rfl, hb⟩
  replace B := Lib.hid (on_below B.out hb)
  replace c0 := keepc hb c0
  replace c1 := keepc hb c1
  replace c2 := keepc hb c2
  replace gc := Nat.lt_of_lt_of_le gc hb.size
  clear hb
  go_wp2_with fail
  refine (true_is cs ce cd r F U 0 P1.out P2.out P3.out _).mono ?_
  rintro e' w4 ⟨rfl, hb⟩
  replace B := Lib.hid (on_below B.out hb)
  replace c0 := keepc hb c0
  replace c1 := keepc hb c1
  replace c2 := keepc hb c2
  replace gc := Nat.lt_of_lt_of_le gc hb.size
  clear hb
  go_wp2_with fail
  have s0 : World.cell? (w4.alloc (.cells #[.int .i64 F, .int .i64 U] 25)) ⟨w4.heap.size, 0, none⟩ = some (.int .i64 F) := by simp [go_sem]
  have s1 : World.cell? (w4.alloc (.cells #[.int .i64 F, .int .i64 U] 25)) ⟨w4.heap.size, 1, none⟩ = some (.int .i64 U) := by simp [go_sem]
  have gs : w4.heap.size < (w4.alloc (.cells #[.int .i64 F, .int .i64 U] 25)).heap.size := by simp <;> omega
  have hb : Below w4.heap.size w4 (w4.alloc (.cells #[.int .i64 F, .int .i64 U] 25)) := ((Below.refl _ _).alloc (by simp; try omega) _)
  generalize w4.alloc (.cells #[.int .i64 F, .int .i64 U] 25) = V5 at *
  replace B := Lib.hid (on_below B.out hb)
  replace c0 := keepc hb c0
  replace c1 := keepc hb c1
  replace c2 := keepc hb c2
  replace gc := Nat.lt_of_lt_of_le gc hb.size
  clear hb
  refine (has_b F U r _ HH.out _).mono ?_
  rintro e' w6 ⟨rfl, hb⟩
  replace B := Lib.hid (on_below B.out hb)
  replace c0 := keepc hb c0
  replace c1 := keepc hb c1
  replace c2 := keepc hb c2
  replace s0 := keepc hb s0
  replace s1 := keepc hb s1
  replace gc := Nat.lt_of_lt_of_le gc hb.size
  replace gs := Nat.lt_of_lt_of_le gs hb.size
  clear hb
  go_wp2_with fail
  refine (within_b o (-ce) ce _ WA.out _).mono ?_
  rintro e' w' ⟨rfl, rfl⟩
  go_wp2_with fail
  refine (within_b g (-((r - cs) * cd)) ((r - cs) * cd) _ WB.out _).mono ?_
  rintro e' w' ⟨rfl, rfl⟩
  go_wp2_with fail
  refine (within_b (1000 * g) (-((r - cs) * cd)) ((r - cs) * cd) _ WC.out _).mono ?_
  rintro e' w' ⟨rfl, rfl⟩
  go_wp2_with fail
  refine (within_b (r + o + g) 0 600000 _ WD.out _).mono ?_
  rintro e' w' ⟨rfl, rfl⟩
  go_wp2_with fail
  refine (has_b F U t _ WF.out _).mono ?_
  rintro e' w7 ⟨rfl, hb⟩
  replace B := Lib.hid (on_below B.out hb)
  replace c0 := keepc hb c0
  replace c1 := keepc hb c1
  replace c2 := keepc hb c2
  replace s0 := keepc hb s0
  replace s1 := keepc hb s1
  replace gc := Nat.lt_of_lt_of_le gc hb.size
  replace gs := Nat.lt_of_lt_of_le gs hb.size
  clear hb
  go_wp2_with fail
  all_goals go_ret
  all_goals exact ⟨rfl, B.out⟩
set_option maxRecDepth 100000 in
set_option maxHeartbeats 1000000 in
theorem qdy (cs : Int) (ics : I64 cs) (ce : Int) (ice : I64 ce) (cd : Int) (icd : I64 cd) (r : Int) (ir : I64 r) (o : Int) (io : I64 o) (g : Int) (ig : I64 g) (t : Int) (it : I64 t) (w : World) (F U : Int) (b0 : 0 ≤ F) (b1 : F ≤ r) (b2 : r < U) (b3 : U ≤ 600001) (n0 : 0 ≤ ce) (n1 : ce ≤ 1000) (n2 : 0 ≤ cs) (n3 : cs ≤ r) (n4 : 0 ≤ cd) (n5 : cd ≤ 100) (m0 : 0 ≤ ((r - cs) * cd)) (m1 : ((r - cs) * cd) ≤ 60000000) (h1 : rds cs ce cd r = true) (p1 : tF cs ce cd r = F) (p2 : tU cs ce cd r = U) (p3 : tE cs ce cd r = 0) (hh : (decide (F ≤ r) && decide (r < U)) = true) (wa : (decide (-ce ≤ o) && decide (o ≤ ce)) = true) (o0 : -ce ≤ o) (o1 : o ≤ ce) (wb : (decide (-((r - cs) * cd) ≤ g) && decide (g ≤ ((r - cs) * cd))) = true) (g0 : -((r - cs) * cd) ≤ g) (g1 : g ≤ ((r - cs) * cd)) (wc : (decide (-((r - cs) * cd) ≤ 1000 * g) && decide (1000 * g ≤ ((r - cs) * cd))) = true) (wd : (decide (0 ≤ (r + o + g)) && decide ((r + o + g) ≤ 600000)) = false) (wf : (decide (F ≤ t) && decide (t < U)) = true) (t0 : F ≤ t) (t1 : t < U) (hx : t - r < r - t) (l : 1000 * (r - t) ≤ 1000 * ce + ((r - cs) * cd) + 999) :
    Calls Try.prog 4 #[.agg #[.int .i64 cs, .int .i64 ce, .int .i64 cd], .int .i64 r, .int .i64 o, .int .i64 g, .int .i64 t] w fun e w' => e = .returned (.bool true) ∧ Below w.heap.size w w' := by
  have H1 := Lib.hid h1
  clear h1
  have P1 := Lib.hid p1
  clear p1
  have P2 := Lib.hid p2
  clear p2
  have P3 := Lib.hid p3
  clear p3
  have HH := Lib.hid hh
  clear hh
  have WA := Lib.hid wa
  clear wa
  have WF := Lib.hid wf
  clear wf
  have WB := Lib.hid wb
  clear wb
  have WC := Lib.hid wc
  clear wc
  have WD := Lib.hid wd
  clear wd
  go_enter Try.func4, Try.ntmps4
  go_wp2_with fail
  have c0 : World.cell? (w.alloc (.cells #[.int .i64 cs, .int .i64 ce, .int .i64 cd] 23)) ⟨w.heap.size, 0, none⟩ = some (.int .i64 cs) := by simp [go_sem]
  have c1 : World.cell? (w.alloc (.cells #[.int .i64 cs, .int .i64 ce, .int .i64 cd] 23)) ⟨w.heap.size, 1, none⟩ = some (.int .i64 ce) := by simp [go_sem]
  have c2 : World.cell? (w.alloc (.cells #[.int .i64 cs, .int .i64 ce, .int .i64 cd] 23)) ⟨w.heap.size, 2, none⟩ = some (.int .i64 cd) := by simp [go_sem]
  have gc : w.heap.size < (w.alloc (.cells #[.int .i64 cs, .int .i64 ce, .int .i64 cd] 23)).heap.size := by simp <;> omega
  have B := Lib.hid (show Below w.heap.size w (w.alloc (.cells #[.int .i64 cs, .int .i64 ce, .int .i64 cd] 23)) from ((Below.refl _ _).alloc (by simp; try omega) _))
  generalize w.alloc (.cells #[.int .i64 cs, .int .i64 ce, .int .i64 cd] 23) = V1 at *
  refine (head_any _).mono ?_
  rintro e' w2 ⟨rfl, hb⟩
  replace B := Lib.hid (on_below B.out hb)
  replace c0 := keepc hb c0
  replace c1 := keepc hb c1
  replace c2 := keepc hb c2
  replace gc := Nat.lt_of_lt_of_le gc hb.size
  clear hb
  go_wp2_with fail
  refine (reads_b cs ce cd r _ H1.out _).mono ?_
  rintro e' w3 ⟨rfl, hb⟩
  replace B := Lib.hid (on_below B.out hb)
  replace c0 := keepc hb c0
  replace c1 := keepc hb c1
  replace c2 := keepc hb c2
  replace gc := Nat.lt_of_lt_of_le gc hb.size
  clear hb
  go_wp2_with fail
  refine (true_is cs ce cd r F U 0 P1.out P2.out P3.out _).mono ?_
  rintro e' w4 ⟨rfl, hb⟩
  replace B := Lib.hid (on_below B.out hb)
  replace c0 := keepc hb c0
  replace c1 := keepc hb c1
  replace c2 := keepc hb c2
  replace gc := Nat.lt_of_lt_of_le gc hb.size
  clear hb
  go_wp2_with fail
  have s0 : World.cell? (w4.alloc (.cells #[.int .i64 F, .int .i64 U] 25)) ⟨w4.heap.size, 0, none⟩ = some (.int .i64 F) := by simp [go_sem]
  have s1 : World.cell? (w4.alloc (.cells #[.int .i64 F, .int .i64 U] 25)) ⟨w4.heap.size, 1, none⟩ = some (.int .i64 U) := by simp [go_sem]
  have gs : w4.heap.size < (w4.alloc (.cells #[.int .i64 F, .int .i64 U] 25)).heap.size := by simp <;> omega
  have hb : Below w4.heap.size w4 (w4.alloc (.cells #[.int .i64 F, .int .i64 U] 25)) := ((Below.refl _ _).alloc (by simp; try omega) _)
  generalize w4.alloc (.cells #[.int .i64 F, .int .i64 U] 25) = V5 at *
  replace B := Lib.hid (on_below B.out hb)
  replace c0 := keepc hb c0
  replace c1 := keepc hb c1
  replace c2 := keepc hb c2
  replace gc := Nat.lt_of_lt_of_le gc hb.size
  clear hb
  refine (has_b F U r _ HH.out _).mono ?_
  rintro e' w6 ⟨rfl, hb⟩
  replace B := Lib.hid (on_below B.out hb)
  replace c0 := keepc hb c0
  replace c1 := keepc hb c1
  replace c2 := keepc hb c2
  replace s0 := keepc hb s0
  replace s1 := keepc hb s1
  replace gc := Nat.lt_of_lt_of_le gc hb.size
  replace gs := Nat.lt_of_lt_of_le gs hb.size
  clear hb
  go_wp2_with fail
  refine (within_b o (-ce) ce _ WA.out _).mono ?_
  rintro e' w' ⟨rfl, rfl⟩
  go_wp2_with fail
  refine (within_b g (-((r - cs) * cd)) ((r - cs) * cd) _ WB.out _).mono ?_
  rintro e' w' ⟨rfl, rfl⟩
  go_wp2_with fail
  refine (within_b (1000 * g) (-((r - cs) * cd)) ((r - cs) * cd) _ WC.out _).mono ?_
  rintro e' w' ⟨rfl, rfl⟩
  go_wp2_with fail
  refine (within_b (r + o + g) 0 600000 _ WD.out _).mono ?_
  rintro e' w' ⟨rfl, rfl⟩
  go_wp2_with fail
  refine (has_b F U t _ WF.out _).mono ?_
  rintro e' w7 ⟨rfl, hb⟩
  replace B := Lib.hid (on_below B.out hb)
  replace c0 := keepc hb c0
  replace c1 := keepc hb c1
  replace c2 := keepc hb c2
  replace s0 := keepc hb s0
  replace s1 := keepc hb s1
  replace gc := Nat.lt_of_lt_of_le gc hb.size
  replace gs := Nat.lt_of_lt_of_le gs hb.size
  clear hb
  go_wp2_with fail
  all_goals go_ret
  all_goals exact ⟨rfl, B.out⟩
set_option maxRecDepth 100000 in
set_option maxHeartbeats 1000000 in
theorem qdz (cs : Int) (ics : I64 cs) (ce : Int) (ice : I64 ce) (cd : Int) (icd : I64 cd) (r : Int) (ir : I64 r) (o : Int) (io : I64 o) (g : Int) (ig : I64 g) (t : Int) (it : I64 t) (w : World) (F U : Int) (b0 : 0 ≤ F) (b1 : F ≤ r) (b2 : r < U) (b3 : U ≤ 600001) (n0 : 0 ≤ ce) (n1 : ce ≤ 1000) (n2 : 0 ≤ cs) (n3 : cs ≤ r) (n4 : 0 ≤ cd) (n5 : cd ≤ 100) (m0 : 0 ≤ ((r - cs) * cd)) (m1 : ((r - cs) * cd) ≤ 60000000) (h1 : rds cs ce cd r = true) (p1 : tF cs ce cd r = F) (p2 : tU cs ce cd r = U) (p3 : tE cs ce cd r = 0) (hh : (decide (F ≤ r) && decide (r < U)) = true) (wa : (decide (-ce ≤ o) && decide (o ≤ ce)) = true) (o0 : -ce ≤ o) (o1 : o ≤ ce) (wb : (decide (-((r - cs) * cd) ≤ g) && decide (g ≤ ((r - cs) * cd))) = true) (g0 : -((r - cs) * cd) ≤ g) (g1 : g ≤ ((r - cs) * cd)) (wc : (decide (-((r - cs) * cd) ≤ 1000 * g) && decide (1000 * g ≤ ((r - cs) * cd))) = true) (wd : (decide (0 ≤ (r + o + g)) && decide ((r + o + g) ≤ 600000)) = false) (wf : (decide (F ≤ t) && decide (t < U)) = true) (t0 : F ≤ t) (t1 : t < U) (hx : r - t ≤ t - r) (l : 1000 * (t - r) ≤ 1000 * ce + ((r - cs) * cd) + 999) :
    Calls Try.prog 4 #[.agg #[.int .i64 cs, .int .i64 ce, .int .i64 cd], .int .i64 r, .int .i64 o, .int .i64 g, .int .i64 t] w fun e w' => e = .returned (.bool true) ∧ Below w.heap.size w w' := by
  have H1 := Lib.hid h1
  clear h1
  have P1 := Lib.hid p1
  clear p1
  have P2 := Lib.hid p2
  clear p2
  have P3 := Lib.hid p3
  clear p3
  have HH := Lib.hid hh
  clear hh
  have WA := Lib.hid wa
  clear wa
  have WF := Lib.hid wf
  clear wf
  have WB := Lib.hid wb
  clear wb
  have WC := Lib.hid wc
  clear wc
  have WD := Lib.hid wd
  clear wd
  go_enter Try.func4, Try.ntmps4
  go_wp2_with fail
  have c0 : World.cell? (w.alloc (.cells #[.int .i64 cs, .int .i64 ce, .int .i64 cd] 23)) ⟨w.heap.size, 0, none⟩ = some (.int .i64 cs) := by simp [go_sem]
  have c1 : World.cell? (w.alloc (.cells #[.int .i64 cs, .int .i64 ce, .int .i64 cd] 23)) ⟨w.heap.size, 1, none⟩ = some (.int .i64 ce) := by simp [go_sem]
  have c2 : World.cell? (w.alloc (.cells #[.int .i64 cs, .int .i64 ce, .int .i64 cd] 23)) ⟨w.heap.size, 2, none⟩ = some (.int .i64 cd) := by simp [go_sem]
  have gc : w.heap.size < (w.alloc (.cells #[.int .i64 cs, .int .i64 ce, .int .i64 cd] 23)).heap.size := by simp <;> omega
  have B := Lib.hid (show Below w.heap.size w (w.alloc (.cells #[.int .i64 cs, .int .i64 ce, .int .i64 cd] 23)) from ((Below.refl _ _).alloc (by simp; try omega) _))
  generalize w.alloc (.cells #[.int .i64 cs, .int .i64 ce, .int .i64 cd] 23) = V1 at *
  refine (head_any _).mono ?_
  rintro e' w2 ⟨rfl, hb⟩
  replace B := Lib.hid (on_below B.out hb)
  replace c0 := keepc hb c0
  replace c1 := keepc hb c1
  replace c2 := keepc hb c2
  replace gc := Nat.lt_of_lt_of_le gc hb.size
  clear hb
  go_wp2_with fail
  refine (reads_b cs ce cd r _ H1.out _).mono ?_
  rintro e' w3 ⟨rfl, hb⟩
  replace B := Lib.hid (on_below B.out hb)
  replace c0 := keepc hb c0
  replace c1 := keepc hb c1
  replace c2 := keepc hb c2
  replace gc := Nat.lt_of_lt_of_le gc hb.size
  clear hb
  go_wp2_with fail
  refine (true_is cs ce cd r F U 0 P1.out P2.out P3.out _).mono ?_
  rintro e' w4 ⟨rfl, hb⟩
  replace B := Lib.hid (on_below B.out hb)
  replace c0 := keepc hb c0
  replace c1 := keepc hb c1
  replace c2 := keepc hb c2
  replace gc := Nat.lt_of_lt_of_le gc hb.size
  clear hb
  go_wp2_with fail
  have s0 : World.cell? (w4.alloc (.cells #[.int .i64 F, .int .i64 U] 25)) ⟨w4.heap.size, 0, none⟩ = some (.int .i64 F) := by simp [go_sem]
  have s1 : World.cell? (w4.alloc (.cells #[.int .i64 F, .int .i64 U] 25)) ⟨w4.heap.size, 1, none⟩ = some (.int .i64 U) := by simp [go_sem]
  have gs : w4.heap.size < (w4.alloc (.cells #[.int .i64 F, .int .i64 U] 25)).heap.size := by simp <;> omega
  have hb : Below w4.heap.size w4 (w4.alloc (.cells #[.int .i64 F, .int .i64 U] 25)) := ((Below.refl _ _).alloc (by simp; try omega) _)
  generalize w4.alloc (.cells #[.int .i64 F, .int .i64 U] 25) = V5 at *
  replace B := Lib.hid (on_below B.out hb)
  replace c0 := keepc hb c0
  replace c1 := keepc hb c1
  replace c2 := keepc hb c2
  replace gc := Nat.lt_of_lt_of_le gc hb.size
  clear hb
  refine (has_b F U r _ HH.out _).mono ?_
  rintro e' w6 ⟨rfl, hb⟩
  replace B := Lib.hid (on_below B.out hb)
  replace c0 := keepc hb c0
  replace c1 := keepc hb c1
  replace c2 := keepc hb c2
  replace s0 := keepc hb s0
  replace s1 := keepc hb s1
  replace gc := Nat.lt_of_lt_of_le gc hb.size
  replace gs := Nat.lt_of_lt_of_le gs hb.size
  clear hb
  go_wp2_with fail
  refine (within_b o (-ce) ce _ WA.out _).mono ?_
  rintro e' w' ⟨rfl, rfl⟩
  go_wp2_with fail
  refine (within_b g (-((r - cs) * cd)) ((r - cs) * cd) _ WB.out _).mono ?_
  rintro e' w' ⟨rfl, rfl⟩
  go_wp2_with fail
  refine (within_b (1000 * g) (-((r - cs) * cd)) ((r - cs) * cd) _ WC.out _).mono ?_
  rintro e' w' ⟨rfl, rfl⟩
  go_wp2_with fail
  refine (within_b (r + o + g) 0 600000 _ WD.out _).mono ?_
  rintro e' w' ⟨rfl, rfl⟩
  go_wp2_with fail
  refine (has_b F U t _ WF.out _).mono ?_
  rintro e' w7 ⟨rfl, hb⟩
  replace B := Lib.hid (on_below B.out hb)
  replace c0 := keepc hb c0
  replace c1 := keepc hb c1
  replace c2 := keepc hb c2
  replace s0 := keepc hb s0
  replace s1 := keepc hb s1
  replace gc := Nat.lt_of_lt_of_le gc hb.size
  replace gs := Nat.lt_of_lt_of_le gs hb.size
  clear hb
  go_wp2_with fail
  all_goals go_ret
  all_goals exact ⟨rfl, B.out⟩
set_option maxRecDepth 100000 in
set_option maxHeartbeats 1000000 in
theorem qex (cs : Int) (ics : I64 cs) (ce : Int) (ice : I64 ce) (cd : Int) (icd : I64 cd) (r : Int) (ir : I64 r) (o : Int) (io : I64 o) (g : Int) (ig : I64 g) (t : Int) (it : I64 t) (w : World) (F U : Int) (b0 : 0 ≤ F) (b1 : F ≤ r) (b2 : r < U) (b3 : U ≤ 600001) (n0 : 0 ≤ ce) (n1 : ce ≤ 1000) (n2 : 0 ≤ cs) (n3 : cs ≤ r) (n4 : 0 ≤ cd) (n5 : cd ≤ 100) (m0 : 0 ≤ ((r - cs) * cd)) (m1 : ((r - cs) * cd) ≤ 60000000) (h1 : rds cs ce cd r = true) (p1 : tF cs ce cd r = F) (p2 : tU cs ce cd r = U) (p3 : tE cs ce cd r = 0) (hh : (decide (F ≤ r) && decide (r < U)) = true) (wa : (decide (-ce ≤ o) && decide (o ≤ ce)) = true) (o0 : -ce ≤ o) (o1 : o ≤ ce) (wb : (decide (-((r - cs) * cd) ≤ g) && decide (g ≤ ((r - cs) * cd))) = true) (g0 : -((r - cs) * cd) ≤ g) (g1 : g ≤ ((r - cs) * cd)) (wc : (decide (-((r - cs) * cd) ≤ 1000 * g) && decide (1000 * g ≤ ((r - cs) * cd))) = true) (wd : (decide (0 ≤ (r + o + g)) && decide ((r + o + g) ≤ 600000)) = true) (we : (decide (F ≤ (r + o + g)) && decide ((r + o + g) < U)) = true) (wf : (decide (F ≤ t) && decide (t < U)) = false) :
    Calls Try.prog 4 #[.agg #[.int .i64 cs, .int .i64 ce, .int .i64 cd], .int .i64 r, .int .i64 o, .int .i64 g, .int .i64 t] w fun e w' => e = .returned (.bool true) ∧ Below w.heap.size w w' := by
  have H1 := Lib.hid h1
  clear h1
  have P1 := Lib.hid p1
  clear p1
  have P2 := Lib.hid p2
  clear p2
  have P3 := Lib.hid p3
  clear p3
  have HH := Lib.hid hh
  clear hh
  have WA := Lib.hid wa
  clear wa
  have WF := Lib.hid wf
  clear wf
  have WB := Lib.hid wb
  clear wb
  have WC := Lib.hid wc
  clear wc
  have WD := Lib.hid wd
  clear wd
  have WE := Lib.hid we
  clear we
  go_enter Try.func4, Try.ntmps4
  go_wp2_with fail
  have c0 : World.cell? (w.alloc (.cells #[.int .i64 cs, .int .i64 ce, .int .i64 cd] 23)) ⟨w.heap.size, 0, none⟩ = some (.int .i64 cs) := by simp [go_sem]
  have c1 : World.cell? (w.alloc (.cells #[.int .i64 cs, .int .i64 ce, .int .i64 cd] 23)) ⟨w.heap.size, 1, none⟩ = some (.int .i64 ce) := by simp [go_sem]
  have c2 : World.cell? (w.alloc (.cells #[.int .i64 cs, .int .i64 ce, .int .i64 cd] 23)) ⟨w.heap.size, 2, none⟩ = some (.int .i64 cd) := by simp [go_sem]
  have gc : w.heap.size < (w.alloc (.cells #[.int .i64 cs, .int .i64 ce, .int .i64 cd] 23)).heap.size := by simp <;> omega
  have B := Lib.hid (show Below w.heap.size w (w.alloc (.cells #[.int .i64 cs, .int .i64 ce, .int .i64 cd] 23)) from ((Below.refl _ _).alloc (by simp; try omega) _))
  generalize w.alloc (.cells #[.int .i64 cs, .int .i64 ce, .int .i64 cd] 23) = V1 at *
  refine (head_any _).mono ?_
  rintro e' w2 ⟨rfl, hb⟩
  replace B := Lib.hid (on_below B.out hb)
  replace c0 := keepc hb c0
  replace c1 := keepc hb c1
  replace c2 := keepc hb c2
  replace gc := Nat.lt_of_lt_of_le gc hb.size
  clear hb
  go_wp2_with fail
  refine (reads_b cs ce cd r _ H1.out _).mono ?_
  rintro e' w3 ⟨rfl, hb⟩
  replace B := Lib.hid (on_below B.out hb)
  replace c0 := keepc hb c0
  replace c1 := keepc hb c1
  replace c2 := keepc hb c2
  replace gc := Nat.lt_of_lt_of_le gc hb.size
  clear hb
  go_wp2_with fail
  refine (true_is cs ce cd r F U 0 P1.out P2.out P3.out _).mono ?_
  rintro e' w4 ⟨rfl, hb⟩
  replace B := Lib.hid (on_below B.out hb)
  replace c0 := keepc hb c0
  replace c1 := keepc hb c1
  replace c2 := keepc hb c2
  replace gc := Nat.lt_of_lt_of_le gc hb.size
  clear hb
  go_wp2_with fail
  have s0 : World.cell? (w4.alloc (.cells #[.int .i64 F, .int .i64 U] 25)) ⟨w4.heap.size, 0, none⟩ = some (.int .i64 F) := by simp [go_sem]
  have s1 : World.cell? (w4.alloc (.cells #[.int .i64 F, .int .i64 U] 25)) ⟨w4.heap.size, 1, none⟩ = some (.int .i64 U) := by simp [go_sem]
  have gs : w4.heap.size < (w4.alloc (.cells #[.int .i64 F, .int .i64 U] 25)).heap.size := by simp <;> omega
  have hb : Below w4.heap.size w4 (w4.alloc (.cells #[.int .i64 F, .int .i64 U] 25)) := ((Below.refl _ _).alloc (by simp; try omega) _)
  generalize w4.alloc (.cells #[.int .i64 F, .int .i64 U] 25) = V5 at *
  replace B := Lib.hid (on_below B.out hb)
  replace c0 := keepc hb c0
  replace c1 := keepc hb c1
  replace c2 := keepc hb c2
  replace gc := Nat.lt_of_lt_of_le gc hb.size
  clear hb
  refine (has_b F U r _ HH.out _).mono ?_
  rintro e' w6 ⟨rfl, hb⟩
  replace B := Lib.hid (on_below B.out hb)
  replace c0 := keepc hb c0
  replace c1 := keepc hb c1
  replace c2 := keepc hb c2
  replace s0 := keepc hb s0
  replace s1 := keepc hb s1
  replace gc := Nat.lt_of_lt_of_le gc hb.size
  replace gs := Nat.lt_of_lt_of_le gs hb.size
  clear hb
  go_wp2_with fail
  refine (within_b o (-ce) ce _ WA.out _).mono ?_
  rintro e' w' ⟨rfl, rfl⟩
  go_wp2_with fail
  refine (within_b g (-((r - cs) * cd)) ((r - cs) * cd) _ WB.out _).mono ?_
  rintro e' w' ⟨rfl, rfl⟩
  go_wp2_with fail
  refine (within_b (1000 * g) (-((r - cs) * cd)) ((r - cs) * cd) _ WC.out _).mono ?_
  rintro e' w' ⟨rfl, rfl⟩
  go_wp2_with fail
  refine (within_b (r + o + g) 0 600000 _ WD.out _).mono ?_
  rintro e' w' ⟨rfl, rfl⟩
  go_wp2_with fail
  refine (has_b F U (r + o + g) _ WE.out _).mono ?_
  rintro e' w7 ⟨rfl, hb⟩
  replace B := Lib.hid (on_below B.out hb)
  replace c0 := keepc hb c0
  replace c1 := keepc hb c1
  replace c2 := keepc hb c2
  replace s0 := keepc hb s0
  replace s1 := keepc hb s1
  replace gc := Nat.lt_of_lt_of_le gc hb.size
  replace gs := Nat.lt_of_lt_of_le gs hb.size
  clear hb
  go_wp2_with fail
  refine (has_b F U t _ WF.out _).mono ?_
  rintro e' w8 ⟨rfl, hb⟩
  replace B := Lib.hid (on_below B.out hb)
  replace c0 := keepc hb c0
  replace c1 := keepc hb c1
  replace c2 := keepc hb c2
  replace s0 := keepc hb s0
  replace s1 := keepc hb s1
  replace gc := Nat.lt_of_lt_of_le gc hb.size
  replace gs := Nat.lt_of_lt_of_le gs hb.size
  clear hb
  go_wp2_with fail
  all_goals go_ret
  all_goals exact ⟨rfl, B.out⟩
set_option maxRecDepth 100000 in
set_option maxHeartbeats 1000000 in
theorem qey (cs : Int) (ics : I64 cs) (ce : Int) (ice : I64 ce) (cd : Int) (icd : I64 cd) (r : Int) (ir : I64 r) (o : Int) (io : I64 o) (g : Int) (ig : I64 g) (t : Int) (it : I64 t) (w : World) (F U : Int) (b0 : 0 ≤ F) (b1 : F ≤ r) (b2 : r < U) (b3 : U ≤ 600001) (n0 : 0 ≤ ce) (n1 : ce ≤ 1000) (n2 : 0 ≤ cs) (n3 : cs ≤ r) (n4 : 0 ≤ cd) (n5 : cd ≤ 100) (m0 : 0 ≤ ((r - cs) * cd)) (m1 : ((r - cs) * cd) ≤ 60000000) (h1 : rds cs ce cd r = true) (p1 : tF cs ce cd r = F) (p2 : tU cs ce cd r = U) (p3 : tE cs ce cd r = 0) (hh : (decide (F ≤ r) && decide (r < U)) = true) (wa : (decide (-ce ≤ o) && decide (o ≤ ce)) = true) (o0 : -ce ≤ o) (o1 : o ≤ ce) (wb : (decide (-((r - cs) * cd) ≤ g) && decide (g ≤ ((r - cs) * cd))) = true) (g0 : -((r - cs) * cd) ≤ g) (g1 : g ≤ ((r - cs) * cd)) (wc : (decide (-((r - cs) * cd) ≤ 1000 * g) && decide (1000 * g ≤ ((r - cs) * cd))) = true) (wd : (decide (0 ≤ (r + o + g)) && decide ((r + o + g) ≤ 600000)) = true) (we : (decide (F ≤ (r + o + g)) && decide ((r + o + g) < U)) = true) (wf : (decide (F ≤ t) && decide (t < U)) = true) (t0 : F ≤ t) (t1 : t < U) (hx : t - r < r - t) (l : 1000 * (r - t) ≤ 1000 * ce + ((r - cs) * cd) + 999) :
    Calls Try.prog 4 #[.agg #[.int .i64 cs, .int .i64 ce, .int .i64 cd], .int .i64 r, .int .i64 o, .int .i64 g, .int .i64 t] w fun e w' => e = .returned (.bool true) ∧ Below w.heap.size w w' := by
  have H1 := Lib.hid h1
  clear h1
  have P1 := Lib.hid p1
  clear p1
  have P2 := Lib.hid p2
  clear p2
  have P3 := Lib.hid p3
  clear p3
  have HH := Lib.hid hh
  clear hh
  have WA := Lib.hid wa
  clear wa
  have WF := Lib.hid wf
  clear wf
  have WB := Lib.hid wb
  clear wb
  have WC := Lib.hid wc
  clear wc
  have WD := Lib.hid wd
  clear wd
  have WE := Lib.hid we
  clear we
  go_enter Try.func4, Try.ntmps4
  go_wp2_with fail
  have c0 : World.cell? (w.alloc (.cells #[.int .i64 cs, .int .i64 ce, .int .i64 cd] 23)) ⟨w.heap.size, 0, none⟩ = some (.int .i64 cs) := by simp [go_sem]
  have c1 : World.cell? (w.alloc (.cells #[.int .i64 cs, .int .i64 ce, .int .i64 cd] 23)) ⟨w.heap.size, 1, none⟩ = some (.int .i64 ce) := by simp [go_sem]
  have c2 : World.cell? (w.alloc (.cells #[.int .i64 cs, .int .i64 ce, .int .i64 cd] 23)) ⟨w.heap.size, 2, none⟩ = some (.int .i64 cd) := by simp [go_sem]
  have gc : w.heap.size < (w.alloc (.cells #[.int .i64 cs, .int .i64 ce, .int .i64 cd] 23)).heap.size := by simp <;> omega
  have B := Lib.hid (show Below w.heap.size w (w.alloc (.cells #[.int .i64 cs, .int .i64 ce, .int .i64 cd] 23)) from ((Below.refl _ _).alloc (by simp; try omega) _))
  generalize w.alloc (.cells #[.int .i64 cs, .int .i64 ce, .int .i64 cd] 23) = V1 at *
  refine (head_any _).mono ?_
  rintro e' w2 ⟨rfl, hb⟩
  replace B := Lib.hid (on_below B.out hb)
  replace c0 := keepc hb c0
  replace c1 := keepc hb c1
  replace c2 := keepc hb c2
  replace gc := Nat.lt_of_lt_of_le gc hb.size
  clear hb
  go_wp2_with fail
  refine (reads_b cs ce cd r _ H1.out _).mono ?_
  rintro e' w3 ⟨rfl, hb⟩
  replace B := Lib.hid (on_below B.out hb)
  replace c0 := keepc hb c0
  replace c1 := keepc hb c1
  replace c2 := keepc hb c2
  replace gc := Nat.lt_of_lt_of_le gc hb.size
  clear hb
  go_wp2_with fail
  refine (true_is cs ce cd r F U 0 P1.out P2.out P3.out _).mono ?_
  rintro e' w4 ⟨rfl, hb⟩
  replace B := Lib.hid (on_below B.out hb)
  replace c0 := keepc hb c0
  replace c1 := keepc hb c1
  replace c2 := keepc hb c2
  replace gc := Nat.lt_of_lt_of_le gc hb.size
  clear hb
  go_wp2_with fail
  have s0 : World.cell? (w4.alloc (.cells #[.int .i64 F, .int .i64 U] 25)) ⟨w4.heap.size, 0, none⟩ = some (.int .i64 F) := by simp [go_sem]
  have s1 : World.cell? (w4.alloc (.cells #[.int .i64 F, .int .i64 U] 25)) ⟨w4.heap.size, 1, none⟩ = some (.int .i64 U) := by simp [go_sem]
  have gs : w4.heap.size < (w4.alloc (.cells #[.int .i64 F, .int .i64 U] 25)).heap.size := by simp <;> omega
  have hb : Below w4.heap.size w4 (w4.alloc (.cells #[.int .i64 F, .int .i64 U] 25)) := ((Below.refl _ _).alloc (by simp; try omega) _)
  generalize w4.alloc (.cells #[.int .i64 F, .int .i64 U] 25) = V5 at *
  replace B := Lib.hid (on_below B.out hb)
  replace c0 := keepc hb c0
  replace c1 := keepc hb c1
  replace c2 := keepc hb c2
  replace gc := Nat.lt_of_lt_of_le gc hb.size
  clear hb
  refine (has_b F U r _ HH.out _).mono ?_
  rintro e' w6 ⟨rfl, hb⟩
  replace B := Lib.hid (on_below B.out hb)
  replace c0 := keepc hb c0
  replace c1 := keepc hb c1
  replace c2 := keepc hb c2
  replace s0 := keepc hb s0
  replace s1 := keepc hb s1
  replace gc := Nat.lt_of_lt_of_le gc hb.size
  replace gs := Nat.lt_of_lt_of_le gs hb.size
  clear hb
  go_wp2_with fail
  refine (within_b o (-ce) ce _ WA.out _).mono ?_
  rintro e' w' ⟨rfl, rfl⟩
  go_wp2_with fail
  refine (within_b g (-((r - cs) * cd)) ((r - cs) * cd) _ WB.out _).mono ?_
  rintro e' w' ⟨rfl, rfl⟩
  go_wp2_with fail
  refine (within_b (1000 * g) (-((r - cs) * cd)) ((r - cs) * cd) _ WC.out _).mono ?_
  rintro e' w' ⟨rfl, rfl⟩
  go_wp2_with fail
  refine (within_b (r + o + g) 0 600000 _ WD.out _).mono ?_
  rintro e' w' ⟨rfl, rfl⟩
  go_wp2_with fail
  refine (has_b F U (r + o + g) _ WE.out _).mono ?_
  rintro e' w7 ⟨rfl, hb⟩
  replace B := Lib.hid (on_below B.out hb)
  replace c0 := keepc hb c0
  replace c1 := keepc hb c1
  replace c2 := keepc hb c2
  replace s0 := keepc hb s0
  replace s1 := keepc hb s1
  replace gc := Nat.lt_of_lt_of_le gc hb.size
  replace gs := Nat.lt_of_lt_of_le gs hb.size
  clear hb
  go_wp2_with fail
  refine (has_b F U t _ WF.out _).mono ?_
  rintro e' w8 ⟨rfl, hb⟩
  replace B := Lib.hid (on_below B.out hb)
  replace c0 := keepc hb c0
  replace c1 := keepc hb c1
  replace c2 := keepc hb c2
  replace s0 := keepc hb s0
  replace s1 := keepc hb s1
  replace gc := Nat.lt_of_lt_of_le gc hb.size
  replace gs := Nat.lt_of_lt_of_le gs hb.size
  clear hb
  go_wp2_with fail
  all_goals go_ret
  all_goals exact ⟨rfl, B.out⟩
set_option maxRecDepth 100000 in
set_option maxHeartbeats 1000000 in
theorem qez (cs : Int) (ics : I64 cs) (ce : Int) (ice : I64 ce) (cd : Int) (icd : I64 cd) (r : Int) (ir : I64 r) (o : Int) (io : I64 o) (g : Int) (ig : I64 g) (t : Int) (it : I64 t) (w : World) (F U : Int) (b0 : 0 ≤ F) (b1 : F ≤ r) (b2 : r < U) (b3 : U ≤ 600001) (n0 : 0 ≤ ce) (n1 : ce ≤ 1000) (n2 : 0 ≤ cs) (n3 : cs ≤ r) (n4 : 0 ≤ cd) (n5 : cd ≤ 100) (m0 : 0 ≤ ((r - cs) * cd)) (m1 : ((r - cs) * cd) ≤ 60000000) (h1 : rds cs ce cd r = true) (p1 : tF cs ce cd r = F) (p2 : tU cs ce cd r = U) (p3 : tE cs ce cd r = 0) (hh : (decide (F ≤ r) && decide (r < U)) = true) (wa : (decide (-ce ≤ o) && decide (o ≤ ce)) = true) (o0 : -ce ≤ o) (o1 : o ≤ ce) (wb : (decide (-((r - cs) * cd) ≤ g) && decide (g ≤ ((r - cs) * cd))) = true) (g0 : -((r - cs) * cd) ≤ g) (g1 : g ≤ ((r - cs) * cd)) (wc : (decide (-((r - cs) * cd) ≤ 1000 * g) && decide (1000 * g ≤ ((r - cs) * cd))) = true) (wd : (decide (0 ≤ (r + o + g)) && decide ((r + o + g) ≤ 600000)) = true) (we : (decide (F ≤ (r + o + g)) && decide ((r + o + g) < U)) = true) (wf : (decide (F ≤ t) && decide (t < U)) = true) (t0 : F ≤ t) (t1 : t < U) (hx : r - t ≤ t - r) (l : 1000 * (t - r) ≤ 1000 * ce + ((r - cs) * cd) + 999) :
    Calls Try.prog 4 #[.agg #[.int .i64 cs, .int .i64 ce, .int .i64 cd], .int .i64 r, .int .i64 o, .int .i64 g, .int .i64 t] w fun e w' => e = .returned (.bool true) ∧ Below w.heap.size w w' := by
  have H1 := Lib.hid h1
  clear h1
  have P1 := Lib.hid p1
  clear p1
  have P2 := Lib.hid p2
  clear p2
  have P3 := Lib.hid p3
  clear p3
  have HH := Lib.hid hh
  clear hh
  have WA := Lib.hid wa
  clear wa
  have WF := Lib.hid wf
  clear wf
  have WB := Lib.hid wb
  clear wb
  have WC := Lib.hid wc
  clear wc
  have WD := Lib.hid wd
  clear wd
  have WE := Lib.hid we
  clear we
  go_enter Try.func4, Try.ntmps4
  go_wp2_with fail
  have c0 : World.cell? (w.alloc (.cells #[.int .i64 cs, .int .i64 ce, .int .i64 cd] 23)) ⟨w.heap.size, 0, none⟩ = some (.int .i64 cs) := by simp [go_sem]
  have c1 : World.cell? (w.alloc (.cells #[.int .i64 cs, .int .i64 ce, .int .i64 cd] 23)) ⟨w.heap.size, 1, none⟩ = some (.int .i64 ce) := by simp [go_sem]
  have c2 : World.cell? (w.alloc (.cells #[.int .i64 cs, .int .i64 ce, .int .i64 cd] 23)) ⟨w.heap.size, 2, none⟩ = some (.int .i64 cd) := by simp [go_sem]
  have gc : w.heap.size < (w.alloc (.cells #[.int .i64 cs, .int .i64 ce, .int .i64 cd] 23)).heap.size := by simp <;> omega
  have B := Lib.hid (show Below w.heap.size w (w.alloc (.cells #[.int .i64 cs, .int .i64 ce, .int .i64 cd] 23)) from ((Below.refl _ _).alloc (by simp; try omega) _))
  generalize w.alloc (.cells #[.int .i64 cs, .int .i64 ce, .int .i64 cd] 23) = V1 at *
  refine (head_any _).mono ?_
  rintro e' w2 ⟨rfl, hb⟩
  replace B := Lib.hid (on_below B.out hb)
  replace c0 := keepc hb c0
  replace c1 := keepc hb c1
  replace c2 := keepc hb c2
  replace gc := Nat.lt_of_lt_of_le gc hb.size
  clear hb
  go_wp2_with fail
  refine (reads_b cs ce cd r _ H1.out _).mono ?_
  rintro e' w3 ⟨rfl, hb⟩
  replace B := Lib.hid (on_below B.out hb)
  replace c0 := keepc hb c0
  replace c1 := keepc hb c1
  replace c2 := keepc hb c2
  replace gc := Nat.lt_of_lt_of_le gc hb.size
  clear hb
  go_wp2_with fail
  refine (true_is cs ce cd r F U 0 P1.out P2.out P3.out _).mono ?_
  rintro e' w4 ⟨rfl, hb⟩
  replace B := Lib.hid (on_below B.out hb)
  replace c0 := keepc hb c0
  replace c1 := keepc hb c1
  replace c2 := keepc hb c2
  replace gc := Nat.lt_of_lt_of_le gc hb.size
  clear hb
  go_wp2_with fail
  have s0 : World.cell? (w4.alloc (.cells #[.int .i64 F, .int .i64 U] 25)) ⟨w4.heap.size, 0, none⟩ = some (.int .i64 F) := by simp [go_sem]
  have s1 : World.cell? (w4.alloc (.cells #[.int .i64 F, .int .i64 U] 25)) ⟨w4.heap.size, 1, none⟩ = some (.int .i64 U) := by simp [go_sem]
  have gs : w4.heap.size < (w4.alloc (.cells #[.int .i64 F, .int .i64 U] 25)).heap.size := by simp <;> omega
  have hb : Below w4.heap.size w4 (w4.alloc (.cells #[.int .i64 F, .int .i64 U] 25)) := ((Below.refl _ _).alloc (by simp; try omega) _)
  generalize w4.alloc (.cells #[.int .i64 F, .int .i64 U] 25) = V5 at *
  replace B := Lib.hid (on_below B.out hb)
  replace c0 := keepc hb c0
  replace c1 := keepc hb c1
  replace c2 := keepc hb c2
  replace gc := Nat.lt_of_lt_of_le gc hb.size
  clear hb
  refine (has_b F U r _ HH.out _).mono ?_
  rintro e' w6 ⟨rfl, hb⟩
  replace B := Lib.hid (on_below B.out hb)
  replace c0 := keepc hb c0
  replace c1 := keepc hb c1
  replace c2 := keepc hb c2
  replace s0 := keepc hb s0
  replace s1 := keepc hb s1
  replace gc := Nat.lt_of_lt_of_le gc hb.size
  replace gs := Nat.lt_of_lt_of_le gs hb.size
  clear hb
  go_wp2_with fail
  refine (within_b o (-ce) ce _ WA.out _).mono ?_
  rintro e' w' ⟨rfl, rfl⟩
  go_wp2_with fail
  refine (within_b g (-((r - cs) * cd)) ((r - cs) * cd) _ WB.out _).mono ?_
  rintro e' w' ⟨rfl, rfl⟩
  go_wp2_with fail
  refine (within_b (1000 * g) (-((r - cs) * cd)) ((r - cs) * cd) _ WC.out _).mono ?_
  rintro e' w' ⟨rfl, rfl⟩
  go_wp2_with fail
  refine (within_b (r + o + g) 0 600000 _ WD.out _).mono ?_
  rintro e' w' ⟨rfl, rfl⟩
  go_wp2_with fail
  refine (has_b F U (r + o + g) _ WE.out _).mono ?_
  rintro e' w7 ⟨rfl, hb⟩
  replace B := Lib.hid (on_below B.out hb)
  replace c0 := keepc hb c0
  replace c1 := keepc hb c1
  replace c2 := keepc hb c2
  replace s0 := keepc hb s0
  replace s1 := keepc hb s1
  replace gc := Nat.lt_of_lt_of_le gc hb.size
  replace gs := Nat.lt_of_lt_of_le gs hb.size
  clear hb
  go_wp2_with fail
  refine (has_b F U t _ WF.out _).mono ?_
  rintro e' w8 ⟨rfl, hb⟩
  replace B := Lib.hid (on_below B.out hb)
  replace c0 := keepc hb c0
  replace c1 := keepc hb c1
  replace c2 := keepc hb c2
  replace s0 := keepc hb s0
  replace s1 := keepc hb s1
  replace gc := Nat.lt_of_lt_of_le gc hb.size
  replace gs := Nat.lt_of_lt_of_le gs hb.size
  clear hb
  go_wp2_with fail
  all_goals go_ret
  all_goals exact ⟨rfl, B.out⟩

theorem dec_iff {n l h : Int} (e : (decide (l ≤ n) && decide (n ≤ h)) = true) : l ≤ n ∧ n ≤ h := by simpa using e
theorem dec_iff' {n l h : Int} (e : (decide (l ≤ n) && decide (n < h)) = true) : l ≤ n ∧ n < h := by simpa using e
theorem truth_far {s e d r t : Int} (h : rds s e d r = true) (h0 : frm s e d r ≤ t) (h1 : t < unt s e d r) : 1000 * (t - r) ≤ 1000 * e + (r - s) * d + 999 ∧ 1000 * (r - t) ≤ 1000 * e + (r - s) * d + 999 := by
  unfold frm unt off at *
  have := part_le h
  omega
theorem truth_in {s e d r o g : Int} (h : rds s e d r = true) (o0 : -e ≤ o) (o1 : o ≤ e) (g0 : -((r - s) * d) ≤ 1000 * g) (g1 : 1000 * g ≤ (r - s) * d) (t0 : 0 ≤ r + o + g) (t1 : r + o + g ≤ 600000) : frm s e d r ≤ r + o + g ∧ r + o + g < unt s e d r := by
  unfold frm unt off
  have := part_le h
  omega
theorem walk (cs : Int) (ics : I64 cs) (ce : Int) (ice : I64 ce) (cd : Int) (icd : I64 cd) (r : Int) (ir : I64 r) (o : Int) (io : I64 o) (g : Int) (ig : I64 g) (t : Int) (it : I64 t) (w : World) :
    Calls Try.prog 4 #[.agg #[.int .i64 cs, .int .i64 ce, .int .i64 cd], .int .i64 r, .int .i64 o, .int .i64 g, .int .i64 t] w fun e w' => e = .returned (.bool true) ∧ Below w.heap.size w w' := by
  cases h1 : rds cs ce cd r with
  | false => exact no1 cs ics ce ice cd icd r ir o io g ig t it w h1
  | true =>
    have b := in_bd h1
    have m := part_le h1
    obtain ⟨hv, hr, ht⟩ := rds_iff.1 h1
    obtain ⟨n1, n2, n3⟩ := vc_iff.1 hv
    rcases ha : (decide (-ce ≤ o) && decide (o ≤ ce)) with _ | _
    · rcases hf : (decide (frm cs ce cd r ≤ t) && decide (t < unt cs ce cd r)) with _ | _
      · exact qax cs ics ce ice cd icd r ir o io g ig t it w _ _ b.1 b.2.1 b.2.2.1 b.2.2.2 n2.1 n2.2 n1.1 hr n3.1 n3.2 m.1 m.2 h1 (tF_ok h1) (tU_ok h1) (tE_ok h1) (by simp; omega) ha hf
      · have q := dec_iff' hf
        have l := truth_far h1 q.1 q.2
        rcases Int.lt_or_le (t - r) (r - t) with hx | hx
        · exact qay cs ics ce ice cd icd r ir o io g ig t it w _ _ b.1 b.2.1 b.2.2.1 b.2.2.2 n2.1 n2.2 n1.1 hr n3.1 n3.2 m.1 m.2 h1 (tF_ok h1) (tU_ok h1) (tE_ok h1) (by simp; omega) ha hf q.1 q.2 hx (by omega)
        · exact qaz cs ics ce ice cd icd r ir o io g ig t it w _ _ b.1 b.2.1 b.2.2.1 b.2.2.2 n2.1 n2.2 n1.1 hr n3.1 n3.2 m.1 m.2 h1 (tF_ok h1) (tU_ok h1) (tE_ok h1) (by simp; omega) ha hf q.1 q.2 hx (by omega)
    have o1 := dec_iff ha
    rcases hb : (decide (-((r - cs) * cd) ≤ g) && decide (g ≤ ((r - cs) * cd))) with _ | _
    · rcases hf : (decide (frm cs ce cd r ≤ t) && decide (t < unt cs ce cd r)) with _ | _
      · exact qbx cs ics ce ice cd icd r ir o io g ig t it w _ _ b.1 b.2.1 b.2.2.1 b.2.2.2 n2.1 n2.2 n1.1 hr n3.1 n3.2 m.1 m.2 h1 (tF_ok h1) (tU_ok h1) (tE_ok h1) (by simp; omega) ha o1.1 o1.2 hb hf
      · have q := dec_iff' hf
        have l := truth_far h1 q.1 q.2
        rcases Int.lt_or_le (t - r) (r - t) with hx | hx
        · exact qby cs ics ce ice cd icd r ir o io g ig t it w _ _ b.1 b.2.1 b.2.2.1 b.2.2.2 n2.1 n2.2 n1.1 hr n3.1 n3.2 m.1 m.2 h1 (tF_ok h1) (tU_ok h1) (tE_ok h1) (by simp; omega) ha o1.1 o1.2 hb hf q.1 q.2 hx (by omega)
        · exact qbz cs ics ce ice cd icd r ir o io g ig t it w _ _ b.1 b.2.1 b.2.2.1 b.2.2.2 n2.1 n2.2 n1.1 hr n3.1 n3.2 m.1 m.2 h1 (tF_ok h1) (tU_ok h1) (tE_ok h1) (by simp; omega) ha o1.1 o1.2 hb hf q.1 q.2 hx (by omega)
    have g1 := dec_iff hb
    rcases hc : (decide (-((r - cs) * cd) ≤ 1000 * g) && decide (1000 * g ≤ ((r - cs) * cd))) with _ | _
    · rcases hf : (decide (frm cs ce cd r ≤ t) && decide (t < unt cs ce cd r)) with _ | _
      · exact qcx cs ics ce ice cd icd r ir o io g ig t it w _ _ b.1 b.2.1 b.2.2.1 b.2.2.2 n2.1 n2.2 n1.1 hr n3.1 n3.2 m.1 m.2 h1 (tF_ok h1) (tU_ok h1) (tE_ok h1) (by simp; omega) ha o1.1 o1.2 hb g1.1 g1.2 hc hf
      · have q := dec_iff' hf
        have l := truth_far h1 q.1 q.2
        rcases Int.lt_or_le (t - r) (r - t) with hx | hx
        · exact qcy cs ics ce ice cd icd r ir o io g ig t it w _ _ b.1 b.2.1 b.2.2.1 b.2.2.2 n2.1 n2.2 n1.1 hr n3.1 n3.2 m.1 m.2 h1 (tF_ok h1) (tU_ok h1) (tE_ok h1) (by simp; omega) ha o1.1 o1.2 hb g1.1 g1.2 hc hf q.1 q.2 hx (by omega)
        · exact qcz cs ics ce ice cd icd r ir o io g ig t it w _ _ b.1 b.2.1 b.2.2.1 b.2.2.2 n2.1 n2.2 n1.1 hr n3.1 n3.2 m.1 m.2 h1 (tF_ok h1) (tU_ok h1) (tE_ok h1) (by simp; omega) ha o1.1 o1.2 hb g1.1 g1.2 hc hf q.1 q.2 hx (by omega)
    have g2 := dec_iff hc
    rcases hd : (decide (0 ≤ (r + o + g)) && decide ((r + o + g) ≤ 600000)) with _ | _
    · rcases hf : (decide (frm cs ce cd r ≤ t) && decide (t < unt cs ce cd r)) with _ | _
      · exact qdx cs ics ce ice cd icd r ir o io g ig t it w _ _ b.1 b.2.1 b.2.2.1 b.2.2.2 n2.1 n2.2 n1.1 hr n3.1 n3.2 m.1 m.2 h1 (tF_ok h1) (tU_ok h1) (tE_ok h1) (by simp; omega) ha o1.1 o1.2 hb g1.1 g1.2 hc hd hf
      · have q := dec_iff' hf
        have l := truth_far h1 q.1 q.2
        rcases Int.lt_or_le (t - r) (r - t) with hx | hx
        · exact qdy cs ics ce ice cd icd r ir o io g ig t it w _ _ b.1 b.2.1 b.2.2.1 b.2.2.2 n2.1 n2.2 n1.1 hr n3.1 n3.2 m.1 m.2 h1 (tF_ok h1) (tU_ok h1) (tE_ok h1) (by simp; omega) ha o1.1 o1.2 hb g1.1 g1.2 hc hd hf q.1 q.2 hx (by omega)
        · exact qdz cs ics ce ice cd icd r ir o io g ig t it w _ _ b.1 b.2.1 b.2.2.1 b.2.2.2 n2.1 n2.2 n1.1 hr n3.1 n3.2 m.1 m.2 h1 (tF_ok h1) (tU_ok h1) (tE_ok h1) (by simp; omega) ha o1.1 o1.2 hb g1.1 g1.2 hc hd hf q.1 q.2 hx (by omega)
    have t2 := dec_iff hd
    have hi := truth_in h1 o1.1 o1.2 g2.1 g2.2 t2.1 t2.2
    have he : (decide (frm cs ce cd r ≤ (r + o + g)) && decide ((r + o + g) < unt cs ce cd r)) = true := by simpa using hi
    rcases hf : (decide (frm cs ce cd r ≤ t) && decide (t < unt cs ce cd r)) with _ | _
    · exact qex cs ics ce ice cd icd r ir o io g ig t it w _ _ b.1 b.2.1 b.2.2.1 b.2.2.2 n2.1 n2.2 n1.1 hr n3.1 n3.2 m.1 m.2 h1 (tF_ok h1) (tU_ok h1) (tE_ok h1) (by simp; omega) ha o1.1 o1.2 hb g1.1 g1.2 hc hd he hf
    · have q := dec_iff' hf
      have l := truth_far h1 q.1 q.2
      rcases Int.lt_or_le (t - r) (r - t) with hx | hx
      · exact qey cs ics ce ice cd icd r ir o io g ig t it w _ _ b.1 b.2.1 b.2.2.1 b.2.2.2 n2.1 n2.2 n1.1 hr n3.1 n3.2 m.1 m.2 h1 (tF_ok h1) (tU_ok h1) (tE_ok h1) (by simp; omega) ha o1.1 o1.2 hb g1.1 g1.2 hc hd he hf q.1 q.2 hx (by omega)
      · exact qez cs ics ce ice cd icd r ir o io g ig t it w _ _ b.1 b.2.1 b.2.2.1 b.2.2.2 n2.1 n2.2 n1.1 hr n3.1 n3.2 m.1 m.2 h1 (tF_ok h1) (tU_ok h1) (tE_ok h1) (by simp; omega) ha o1.1 o1.2 hb g1.1 g1.2 hc hd he hf q.1 q.2 hx (by omega)

/-! ### The row -/
open Go.ChangeShapes Go.WideShapes Go.ChangeAt Go.Joins
theorem own : ownKnob Try.prog.godebug = none := by kernel_rfl
noncomputable def laidWorld (os : Os) : World := World.holding Try.prog os ⟨#[], #[], []⟩
theorem laidWorld_met (os : Os) (args : Array Value) : laidMet Try.prog [] ((laidWorld os).forCall (fun _ _ => 0) ⟨#[], args, []⟩).memory :=
  laidMet_of_run' 8 (by kernel_rfl) (by kernel_rfl)

set_option maxRecDepth 100000 in
theorem contract (H : Type) (enc : TypeId × Value → H) (W : World) (base : Nat) (args : Array Value) (ds gs : List (DataW H)) (before : List MemPlace)
    (hval : ∀ (j : Nat) t v, Try.f4.params[j]? = some t → args[j]? = some v → Value.okWide Try.prog W .any base t v)
    (hW : DataW.Whole enc Try.prog Try.f4.params.toList Rows.clockTruthSpec.vars false W args.toList ds gs before) :
    Calls Try.prog 4 args W fun e W' => ∃ v, e = .returned v ∧ Rows.clockTruthSpec.post enc Try.prog Try.f4 false true false false W args v W' := by
  have hW' := hW
  obtain ⟨p, q, hA0, hV, rfl, hfz, hnd⟩ := hW
  have hA : DataW.TrodAll enc Try.prog W 0 (fun _ => true) true Try.f4.params.toList args.toList ds p := hA0
  rw [Try.params4] at hA hval
  obtain ⟨v0, vs0, d0, ds0, p0, q0, hargs, rfl, rfl, h0, r0⟩ := trodAll_cons hA
  obtain ⟨v1, vs1, d1, ds1, p1, q1, rfl, rfl, rfl, h1, r1⟩ := trodAll_cons r0
  obtain ⟨v2, vs2, d2, ds2, p2, q2, rfl, rfl, rfl, h2, r2⟩ := trodAll_cons r1
  obtain ⟨v3, vs3, d3, ds3, p3, q3, rfl, rfl, rfl, h3, r3⟩ := trodAll_cons r2
  obtain ⟨v4, vs4, d4, ds4, p4, q4, rfl, rfl, rfl, h4, r4⟩ := trodAll_cons r3
  obtain ⟨rfl, rfl, rfl⟩ := trodAll_nil r4
  obtain rfl : args = #[v0, v1, v2, v3, v4] := Array.toList_inj.1 hargs
  obtain ⟨rfl, rfl⟩ := trodVars_none hV
  obtain ⟨cs, ce, cd, rfl, rfl, rfl, ics, ice, icd⟩ := open_clock (hval 0 23 v0 rfl rfl) h0
  obtain ⟨r, rfl, rfl, rfl, wr⟩ := open_int Try.underlying3 (hval 1 3 v1 rfl rfl) h1
  obtain ⟨o, rfl, rfl, rfl, wo⟩ := open_int Try.underlying3 (hval 2 3 v2 rfl rfl) h2
  obtain ⟨g, rfl, rfl, rfl, wg⟩ := open_int Try.underlying3 (hval 3 3 v3 rfl rfl) h3
  obtain ⟨t, rfl, rfl, rfl, wt⟩ := open_int Try.underlying3 (hval 4 3 v4 rfl rfl) h4
  clear hA0
  refine (walk cs (wf_i ics) ce (wf_i ice) cd (wf_i icd) r (wf_i wr) o (wf_i wo) g (wf_i wg) t (wf_i wt) W).mono fun e W' ⟨he, bel⟩ => ?_
  subst he
  exact ⟨_, rfl, _, _, _, [], _, [], hW', trodAll_mk1 (shut_bool Try.underlying4 _), (trodAll_cons_mk (shut_clock ics ice icd) (trodAll_cons_mk (shut_int Try.underlying3 wr) (trodAll_cons_mk (shut_int Try.underlying3 wo) (trodAll_cons_mk (shut_int Try.underlying3 wg) (trodAll_cons_mk (shut_int Try.underlying3 wt) trodAll_mk0))))), rfl, bel.frame _, fun h => by cases h⟩

theorem reads (os : Os) {H : Type} (enc : TypeId × Value → H) : ∃ places, DataW.whole enc Try.prog ((laidWorld os).forCall (fun _ _ => 0) ⟨#[], #[.agg #[.int .i64 0, .int .i64 0, .int .i64 0], .int .i64 0, .int .i64 0, .int .i64 0, .int .i64 0], []⟩).memory Try.f4.params.toList Rows.clockTruthSpec.vars false (#[.agg #[.int .i64 0, .int .i64 0, .int .i64 0], .int .i64 0, .int .i64 0, .int .i64 0, .int .i64 0] : Array Value).toList 8 = some ([.agg [.lit (.int .i64 0), .lit (.int .i64 0), .lit (.int .i64 0)], .lit (.int .i64 0), .lit (.int .i64 0), .lit (.int .i64 0), .lit (.int .i64 0)], [], places) :=
  ⟨[], by kernel_rfl⟩

set_option maxRecDepth 100000 in
theorem lifted (os : Os) (started : os.Started) (H : Type) (enc : TypeId × Value → H) (F : Stop.Interp) :
    ReturnsInHanded {} Try.checked os 4 .any ((OpenSpec.ofChange Rows.clockTruthSpec).preRow enc Try.prog Try.f4 Rows.clockTruthRow.domain false Rows.clockTruthRow.laid) (((OpenSpec.ofChange Rows.clockTruthSpec).at F).post enc Try.prog Try.f4 false true false false) := by
  obtain ⟨places, hx⟩ := reads os enc
  refine returnsInHanded_of_row (C := Try.checked) (s := OpenSpec.ofChange Rows.clockTruthSpec) own started (by kernel_rfl) Try.func4
    (witness_row_atRef (enc := enc) (C := Try.checked) false (laidWorld os) #[.agg #[.int .i64 0, .int .i64 0, .int .i64 0], .int .i64 0, .int .i64 0, .int .i64 0, .int .i64 0] rfl (by kernel_rfl) (by kernel_rfl) (by kernel_rfl)
      (OpenSpec.preRow_of_cond 8 hx (by kernel_rfl) (fun k hk => by cases hk) (by kernel_rfl) (laidWorld_met os _))) ?_
  intro W base args ds gs before hval hW _ hcond _ hL hsh _
  exact contract H enc W base args ds gs before hval hW

/-- The statement. -/
theorem said : Rows.ClockTruthSaid :=
  OpenClaim.holds_of_cond 4 Try.f4 rfl rfl rfl rfl rfl rfl rfl ⟨rfl, rfl, rfl, rfl, rfl⟩ rfl rfl rfl rfl rfl (by kernel_rfl) Try.func4 (by kernel_rfl)
    (of_decide_eq_true (by kernel_rfl)) (by unfold Func.isWrapper; first | (rw [if_pos (by decide +kernel)]; kernel_rfl) | (rw [if_neg (by decide +kernel)]; exact ⟨rfl, rfl⟩))
    (fun os started H enc _ F => by rw [OpenClaim.pre_eq_preRow]; exact lifted os started H enc F)
end Go.Proofs.Ytnjhepkfjohdnaa.clockTruth
