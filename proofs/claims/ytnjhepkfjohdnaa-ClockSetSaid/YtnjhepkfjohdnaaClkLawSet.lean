/-
  ClockSet: what Set returns is valid and includes the given times, and no smaller Error does.
  Conditions: none besides the row's.
-/
import Derived.Test.YtnjhepkfjohdnaaClkM
import Derived.Test.YtnjhepkfjohdnaaRows
import Derived.ProofKit
import Derived.OpenShut
import Derived.Deep.DeepHandedRow
import Derived.Deep.DeepWitnessRowRef
import Derived.MakeChecks
namespace Go.Proofs.Ytnjhepkfjohdnaa.clockSet
open Go.RowKit Go.Sort
open Go.RowKit (Below)
set_option linter.unusedVariables false
set_option linter.unusedSimpArgs false
set_option maxRecDepth 100000 in
set_option maxHeartbeats 1000000 in
theorem bad (cs : Int) (ics : I64 cs) (ce : Int) (ice : I64 ce) (cd : Int) (icd : I64 cd) (r : Int) (ir : I64 r) (tf : Int) (itf : I64 tf) (tu : Int) (itu : I64 tu) (w : World) (e1 : c1 cs ce cd r tf tu = 0) (e2 : c2 cs ce cd r tf tu = 0) (e3 : c3 cs ce cd r tf tu = 0) (e4 : sE cs ce cd r tf tu = 1) :
    Calls Try.prog 8 #[.agg #[.int .i64 cs, .int .i64 ce, .int .i64 cd], .int .i64 r, .agg #[.int .i64 tf, .int .i64 tu]] w fun e w' => e = .returned (.bool true) ∧ Below w.heap.size w w' := by
  have E1 := Lib.hid e1
  clear e1
  have E2 := Lib.hid e2
  clear e2
  have E3 := Lib.hid e3
  clear e3
  have E4 := Lib.hid e4
  clear e4
  go_enter Try.func8, Try.ntmps8
  go_wp2_with fail
  have c0 : World.cell? ((w.alloc (.cells #[.int .i64 cs, .int .i64 ce, .int .i64 cd] 23)).alloc (.cells #[.int .i64 tf, .int .i64 tu] 25)) ⟨w.heap.size, 0, none⟩ = some (.int .i64 cs) := by simp [go_sem]
  have c1 : World.cell? ((w.alloc (.cells #[.int .i64 cs, .int .i64 ce, .int .i64 cd] 23)).alloc (.cells #[.int .i64 tf, .int .i64 tu] 25)) ⟨w.heap.size, 1, none⟩ = some (.int .i64 ce) := by simp [go_sem]
  have c2 : World.cell? ((w.alloc (.cells #[.int .i64 cs, .int .i64 ce, .int .i64 cd] 23)).alloc (.cells #[.int .i64 tf, .int .i64 tu] 25)) ⟨w.heap.size, 2, none⟩ = some (.int .i64 cd) := by simp [go_sem]
  have t0 : World.cell? ((w.alloc (.cells #[.int .i64 cs, .int .i64 ce, .int .i64 cd] 23)).alloc (.cells #[.int .i64 tf, .int .i64 tu] 25)) ⟨w.heap.size + 1, 0, none⟩ = some (.int .i64 tf) := by simp [go_sem]
  have t1 : World.cell? ((w.alloc (.cells #[.int .i64 cs, .int .i64 ce, .int .i64 cd] 23)).alloc (.cells #[.int .i64 tf, .int .i64 tu] 25)) ⟨w.heap.size + 1, 1, none⟩ = some (.int .i64 tu) := by simp [go_sem]
  have gc : w.heap.size < ((w.alloc (.cells #[.int .i64 cs, .int .i64 ce, .int .i64 cd] 23)).alloc (.cells #[.int .i64 tf, .int .i64 tu] 25)).heap.size := by simp <;> omega
  have gt : w.heap.size + 1 < ((w.alloc (.cells #[.int .i64 cs, .int .i64 ce, .int .i64 cd] 23)).alloc (.cells #[.int .i64 tf, .int .i64 tu] 25)).heap.size := by simp <;> omega
  have B := Lib.hid (show Below w.heap.size w ((w.alloc (.cells #[.int .i64 cs, .int .i64 ce, .int .i64 cd] 23)).alloc (.cells #[.int .i64 tf, .int .i64 tu] 25)) from (((Below.refl _ _).alloc (by simp; try omega) _).alloc (by simp; try omega) _))
  generalize (w.alloc (.cells #[.int .i64 cs, .int .i64 ce, .int .i64 cd] 23)).alloc (.cells #[.int .i64 tf, .int .i64 tu] 25) = V1 at *
  refine (head_any _).mono ?_
  rintro e' w2 ⟨rfl, hb⟩
  replace B := Lib.hid (on_below B.out hb)
  replace c0 := keepc hb c0
  replace c1 := keepc hb c1
  replace c2 := keepc hb c2
  replace t0 := keepc hb t0
  replace t1 := keepc hb t1
  replace gc := Nat.lt_of_lt_of_le gc hb.size
  replace gt := Nat.lt_of_lt_of_le gt hb.size
  clear hb
  go_wp2_with fail
  refine (set_is cs ce cd r tf tu 0 0 0 1 E1.out E2.out E3.out E4.out _).mono ?_
  rintro e' w3 ⟨rfl, hb⟩
  replace B := Lib.hid (on_below B.out hb)
  replace c0 := keepc hb c0
  replace c1 := keepc hb c1
  replace c2 := keepc hb c2
  replace t0 := keepc hb t0
  replace t1 := keepc hb t1
  replace gc := Nat.lt_of_lt_of_le gc hb.size
  replace gt := Nat.lt_of_lt_of_le gt hb.size
  clear hb
  go_wp2_with fail
  all_goals go_ret
  all_goals exact ⟨rfl, B.out.alloc B.out.size _⟩
set_option maxRecDepth 100000 in
set_option maxHeartbeats 2000000 in
theorem out1 (cs : Int) (ics : I64 cs) (ce : Int) (ice : I64 ce) (cd : Int) (icd : I64 cd) (r : Int) (ir : I64 r) (tf : Int) (itf : I64 tf) (tu : Int) (itu : I64 tu) (w : World) (e1 : c1 cs ce cd r tf tu = 0) (e2 : c2 cs ce cd r tf tu = 0) (e3 : c3 cs ce cd r tf tu = 0) (e4 : sE cs ce cd r tf tu = 3) (hv : vc cs ce cd = true) (ht : tm r = true) (k0 : 0 ≤ tf) (k1 : tf < tu) (k2 : tu ≤ 600001) (F U : Int) (f1 : tF r 1000 0 r = F) (f2 : tU r 1000 0 r = U) (f3 : tE r 1000 0 r = 0) (l : tf < F) :
    Calls Try.prog 8 #[.agg #[.int .i64 cs, .int .i64 ce, .int .i64 cd], .int .i64 r, .agg #[.int .i64 tf, .int .i64 tu]] w fun e w' => e = .returned (.bool true) ∧ Below w.heap.size w w' := by
  have E1 := Lib.hid e1
  clear e1
  have E2 := Lib.hid e2
  clear e2
  have E3 := Lib.hid e3
  clear e3
  have E4 := Lib.hid e4
  clear e4
  have HV := Lib.hid hv
  clear hv
  have HT := Lib.hid ht
  clear ht
  have F1 := Lib.hid f1
  clear f1
  have F2 := Lib.hid f2
  clear f2
  have F3 := Lib.hid f3
  clear f3
  go_enter Try.func8, Try.ntmps8
  go_wp2_with fail
  have c0 : World.cell? ((w.alloc (.cells #[.int .i64 cs, .int .i64 ce, .int .i64 cd] 23)).alloc (.cells #[.int .i64 tf, .int .i64 tu] 25)) ⟨w.heap.size, 0, none⟩ = some (.int .i64 cs) := by simp [go_sem]
  have c1 : World.cell? ((w.alloc (.cells #[.int .i64 cs, .int .i64 ce, .int .i64 cd] 23)).alloc (.cells #[.int .i64 tf, .int .i64 tu] 25)) ⟨w.heap.size, 1, none⟩ = some (.int .i64 ce) := by simp [go_sem]
  have c2 : World.cell? ((w.alloc (.cells #[.int .i64 cs, .int .i64 ce, .int .i64 cd] 23)).alloc (.cells #[.int .i64 tf, .int .i64 tu] 25)) ⟨w.heap.size, 2, none⟩ = some (.int .i64 cd) := by simp [go_sem]
  have t0 : World.cell? ((w.alloc (.cells #[.int .i64 cs, .int .i64 ce, .int .i64 cd] 23)).alloc (.cells #[.int .i64 tf, .int .i64 tu] 25)) ⟨w.heap.size + 1, 0, none⟩ = some (.int .i64 tf) := by simp [go_sem]
  have t1 : World.cell? ((w.alloc (.cells #[.int .i64 cs, .int .i64 ce, .int .i64 cd] 23)).alloc (.cells #[.int .i64 tf, .int .i64 tu] 25)) ⟨w.heap.size + 1, 1, none⟩ = some (.int .i64 tu) := by simp [go_sem]
  have gc : w.heap.size < ((w.alloc (.cells #[.int .i64 cs, .int .i64 ce, .int .i64 cd] 23)).alloc (.cells #[.int .i64 tf, .int .i64 tu] 25)).heap.size := by simp <;> omega
  have gt : w.heap.size + 1 < ((w.alloc (.cells #[.int .i64 cs, .int .i64 ce, .int .i64 cd] 23)).alloc (.cells #[.int .i64 tf, .int .i64 tu] 25)).heap.size := by simp <;> omega
  have B := Lib.hid (show Below w.heap.size w ((w.alloc (.cells #[.int .i64 cs, .int .i64 ce, .int .i64 cd] 23)).alloc (.cells #[.int .i64 tf, .int .i64 tu] 25)) from (((Below.refl _ _).alloc (by simp; try omega) _).alloc (by simp; try omega) _))
  generalize (w.alloc (.cells #[.int .i64 cs, .int .i64 ce, .int .i64 cd] 23)).alloc (.cells #[.int .i64 tf, .int .i64 tu] 25) = V1 at *
  refine (head_any _).mono ?_
  rintro e' w2 ⟨rfl, hb⟩
  replace B := Lib.hid (on_below B.out hb)
  replace c0 := keepc hb c0
  replace c1 := keepc hb c1
  replace c2 := keepc hb c2
  replace t0 := keepc hb t0
  replace t1 := keepc hb t1
  replace gc := Nat.lt_of_lt_of_le gc hb.size
  replace gt := Nat.lt_of_lt_of_le gt hb.size
  clear hb
  go_wp2_with fail
  refine (set_is cs ce cd r tf tu 0 0 0 3 E1.out E2.out E3.out E4.out _).mono ?_
  rintro e' w3 ⟨rfl, hb⟩
  replace B := Lib.hid (on_below B.out hb)
  replace c0 := keepc hb c0
  replace c1 := keepc hb c1
  replace c2 := keepc hb c2
  replace t0 := keepc hb t0
  replace t1 := keepc hb t1
  replace gc := Nat.lt_of_lt_of_le gc hb.size
  replace gt := Nat.lt_of_lt_of_le gt hb.size
  clear hb
  go_wp2_with fail
  have d0 : World.cell? (w3.alloc (.cells #[.int .i64 0, .int .i64 0, .int .i64 0] 23)) ⟨w3.heap.size, 0, none⟩ = some (.int .i64 0) := by simp [go_sem]
  have zd0 : World.frozen? (w3.alloc (.cells #[.int .i64 0, .int .i64 0, .int .i64 0] 23)) ⟨w3.heap.size, 0, none⟩ = false := by simp [go_sem]
  have d1 : World.cell? (w3.alloc (.cells #[.int .i64 0, .int .i64 0, .int .i64 0] 23)) ⟨w3.heap.size, 1, none⟩ = some (.int .i64 0) := by simp [go_sem]
  have zd1 : World.frozen? (w3.alloc (.cells #[.int .i64 0, .int .i64 0, .int .i64 0] 23)) ⟨w3.heap.size, 1, none⟩ = false := by simp [go_sem]
  have d2 : World.cell? (w3.alloc (.cells #[.int .i64 0, .int .i64 0, .int .i64 0] 23)) ⟨w3.heap.size, 2, none⟩ = some (.int .i64 0) := by simp [go_sem]
  have zd2 : World.frozen? (w3.alloc (.cells #[.int .i64 0, .int .i64 0, .int .i64 0] 23)) ⟨w3.heap.size, 2, none⟩ = false := by simp [go_sem]
  have ndgc := gc
  have ndgt := gt
  have gd : w3.heap.size < (w3.alloc (.cells #[.int .i64 0, .int .i64 0, .int .i64 0] 23)).heap.size := by simp
  have od : w.heap.size ≤ w3.heap.size := B.out.size
  have hb : Below w3.heap.size w3 (w3.alloc (.cells #[.int .i64 0, .int .i64 0, .int .i64 0] 23)) := (Below.refl _ _).alloc (by simp) _
  generalize w3.alloc (.cells #[.int .i64 0, .int .i64 0, .int .i64 0] 23) = V4 at *
  replace B := Lib.hid (on_below B.out hb)
  replace c0 := keepc hb c0
  replace c1 := keepc hb c1
  replace c2 := keepc hb c2
  replace t0 := keepc hb t0
  replace t1 := keepc hb t1
  replace gc := Nat.lt_of_lt_of_le gc hb.size
  replace gt := Nat.lt_of_lt_of_le gt hb.size
  clear hb
  go_wp2_with fail
  refine (rvalid_b cs ce cd _ HV.out _).mono ?_
  rintro e' w5 ⟨rfl, hb⟩
  replace zd0 := keepf hb d0 zd0
  replace zd1 := keepf hb d1 zd1
  replace zd2 := keepf hb d2 zd2
  replace B := Lib.hid (on_below B.out hb)
  replace c0 := keepc hb c0
  replace c1 := keepc hb c1
  replace c2 := keepc hb c2
  replace t0 := keepc hb t0
  replace t1 := keepc hb t1
  replace d0 := keepc hb d0
  replace d1 := keepc hb d1
  replace d2 := keepc hb d2
  replace gc := Nat.lt_of_lt_of_le gc hb.size
  replace gt := Nat.lt_of_lt_of_le gt hb.size
  replace gd := Nat.lt_of_lt_of_le gd hb.size
  clear hb
  go_wp2_with fail
  refine (rtime_b r _ HT.out _).mono ?_
  rintro e' w' ⟨rfl, rfl⟩
  go_wp2_with fail
  have q0 : World.cell? (w5.alloc (.cells #[.int .i64 r, .int .i64 1000, .int .i64 0] 23)) ⟨w5.heap.size, 0, none⟩ = some (.int .i64 r) := by simp [go_sem]
  have q1 : World.cell? (w5.alloc (.cells #[.int .i64 r, .int .i64 1000, .int .i64 0] 23)) ⟨w5.heap.size, 1, none⟩ = some (.int .i64 1000) := by simp [go_sem]
  have q2 : World.cell? (w5.alloc (.cells #[.int .i64 r, .int .i64 1000, .int .i64 0] 23)) ⟨w5.heap.size, 2, none⟩ = some (.int .i64 0) := by simp [go_sem]
  have gq : w5.heap.size < (w5.alloc (.cells #[.int .i64 r, .int .i64 1000, .int .i64 0] 23)).heap.size := by simp <;> omega
  have hb : Below w5.heap.size w5 (w5.alloc (.cells #[.int .i64 r, .int .i64 1000, .int .i64 0] 23)) := ((Below.refl _ _).alloc (by simp; try omega) _)
  generalize w5.alloc (.cells #[.int .i64 r, .int .i64 1000, .int .i64 0] 23) = V6 at *
  replace zd0 := keepf hb d0 zd0
  replace zd1 := keepf hb d1 zd1
  replace zd2 := keepf hb d2 zd2
  replace B := Lib.hid (on_below B.out hb)
  replace c0 := keepc hb c0
  replace c1 := keepc hb c1
  replace c2 := keepc hb c2
  replace t0 := keepc hb t0
  replace t1 := keepc hb t1
  replace d0 := keepc hb d0
  replace d1 := keepc hb d1
  replace d2 := keepc hb d2
  replace gc := Nat.lt_of_lt_of_le gc hb.size
  replace gt := Nat.lt_of_lt_of_le gt hb.size
  replace gd := Nat.lt_of_lt_of_le gd hb.size
  clear hb
  refine (true_is r 1000 0 r F U 0 F1.out F2.out F3.out _).mono ?_
  rintro e' w7 ⟨rfl, hb⟩
  replace zd0 := keepf hb d0 zd0
  replace zd1 := keepf hb d1 zd1
  replace zd2 := keepf hb d2 zd2
  replace B := Lib.hid (on_below B.out hb)
  replace c0 := keepc hb c0
  replace c1 := keepc hb c1
  replace c2 := keepc hb c2
  replace t0 := keepc hb t0
  replace t1 := keepc hb t1
  replace d0 := keepc hb d0
  replace d1 := keepc hb d1
  replace d2 := keepc hb d2
  replace q0 := keepc hb q0
  replace q1 := keepc hb q1
  replace q2 := keepc hb q2
  replace gc := Nat.lt_of_lt_of_le gc hb.size
  replace gt := Nat.lt_of_lt_of_le gt hb.size
  replace gd := Nat.lt_of_lt_of_le gd hb.size
  replace gq := Nat.lt_of_lt_of_le gq hb.size
  clear hb
  go_wp2_with fail
  have s0 : World.cell? (w7.alloc (.cells #[.int .i64 F, .int .i64 U] 25)) ⟨w7.heap.size, 0, none⟩ = some (.int .i64 F) := by simp [go_sem]
  have zs0 : World.frozen? (w7.alloc (.cells #[.int .i64 F, .int .i64 U] 25)) ⟨w7.heap.size, 0, none⟩ = false := by simp [go_sem]
  have s1 : World.cell? (w7.alloc (.cells #[.int .i64 F, .int .i64 U] 25)) ⟨w7.heap.size, 1, none⟩ = some (.int .i64 U) := by simp [go_sem]
  have zs1 : World.frozen? (w7.alloc (.cells #[.int .i64 F, .int .i64 U] 25)) ⟨w7.heap.size, 1, none⟩ = false := by simp [go_sem]
  have nsgc := gc
  have nsgt := gt
  have nsgd := gd
  have nsgq := gq
  have gs : w7.heap.size < (w7.alloc (.cells #[.int .i64 F, .int .i64 U] 25)).heap.size := by simp
  have os : w.heap.size ≤ w7.heap.size := B.out.size
  have hb : Below w7.heap.size w7 (w7.alloc (.cells #[.int .i64 F, .int .i64 U] 25)) := (Below.refl _ _).alloc (by simp) _
  generalize w7.alloc (.cells #[.int .i64 F, .int .i64 U] 25) = V8 at *
  replace zd0 := keepf hb d0 zd0
  replace zd1 := keepf hb d1 zd1
  replace zd2 := keepf hb d2 zd2
  replace B := Lib.hid (on_below B.out hb)
  replace c0 := keepc hb c0
  replace c1 := keepc hb c1
  replace c2 := keepc hb c2
  replace t0 := keepc hb t0
  replace t1 := keepc hb t1
  replace d0 := keepc hb d0
  replace d1 := keepc hb d1
  replace d2 := keepc hb d2
  replace q0 := keepc hb q0
  replace q1 := keepc hb q1
  replace q2 := keepc hb q2
  replace gc := Nat.lt_of_lt_of_le gc hb.size
  replace gt := Nat.lt_of_lt_of_le gt hb.size
  replace gd := Nat.lt_of_lt_of_le gd hb.size
  replace gq := Nat.lt_of_lt_of_le gq hb.size
  clear hb
  go_wp2_with fail
  all_goals go_ret
  all_goals exact ⟨rfl, B.out⟩
set_option maxRecDepth 100000 in
set_option maxHeartbeats 2000000 in
theorem out2 (cs : Int) (ics : I64 cs) (ce : Int) (ice : I64 ce) (cd : Int) (icd : I64 cd) (r : Int) (ir : I64 r) (tf : Int) (itf : I64 tf) (tu : Int) (itu : I64 tu) (w : World) (e1 : c1 cs ce cd r tf tu = 0) (e2 : c2 cs ce cd r tf tu = 0) (e3 : c3 cs ce cd r tf tu = 0) (e4 : sE cs ce cd r tf tu = 3) (hv : vc cs ce cd = true) (ht : tm r = true) (k0 : 0 ≤ tf) (k1 : tf < tu) (k2 : tu ≤ 600001) (F U : Int) (f1 : tF r 1000 0 r = F) (f2 : tU r 1000 0 r = U) (f3 : tE r 1000 0 r = 0) (l : F ≤ tf) (l1 : U < tu) :
    Calls Try.prog 8 #[.agg #[.int .i64 cs, .int .i64 ce, .int .i64 cd], .int .i64 r, .agg #[.int .i64 tf, .int .i64 tu]] w fun e w' => e = .returned (.bool true) ∧ Below w.heap.size w w' := by
  have E1 := Lib.hid e1
  clear e1
  have E2 := Lib.hid e2
  clear e2
  have E3 := Lib.hid e3
  clear e3
  have E4 := Lib.hid e4
  clear e4
  have HV := Lib.hid hv
  clear hv
  have HT := Lib.hid ht
  clear ht
  have F1 := Lib.hid f1
  clear f1
  have F2 := Lib.hid f2
  clear f2
  have F3 := Lib.hid f3
  clear f3
  go_enter Try.func8, Try.ntmps8
  go_wp2_with fail
  have c0 : World.cell? ((w.alloc (.cells #[.int .i64 cs, .int .i64 ce, .int .i64 cd] 23)).alloc (.cells #[.int .i64 tf, .int .i64 tu] 25)) ⟨w.heap.size, 0, none⟩ = some (.int .i64 cs) := by simp [go_sem]
  have c1 : World.cell? ((w.alloc (.cells #[.int .i64 cs, .int .i64 ce, .int .i64 cd] 23)).alloc (.cells #[.int .i64 tf, .int .i64 tu] 25)) ⟨w.heap.size, 1, none⟩ = some (.int .i64 ce) := by simp [go_sem]
  have c2 : World.cell? ((w.alloc (.cells #[.int .i64 cs, .int .i64 ce, .int .i64 cd] 23)).alloc (.cells #[.int .i64 tf, .int .i64 tu] 25)) ⟨w.heap.size, 2, none⟩ = some (.int .i64 cd) := by simp [go_sem]
  have t0 : World.cell? ((w.alloc (.cells #[.int .i64 cs, .int .i64 ce, .int .i64 cd] 23)).alloc (.cells #[.int .i64 tf, .int .i64 tu] 25)) ⟨w.heap.size + 1, 0, none⟩ = some (.int .i64 tf) := by simp [go_sem]
  have t1 : World.cell? ((w.alloc (.cells #[.int .i64 cs, .int .i64 ce, .int .i64 cd] 23)).alloc (.cells #[.int .i64 tf, .int .i64 tu] 25)) ⟨w.heap.size + 1, 1, none⟩ = some (.int .i64 tu) := by simp [go_sem]
  have gc : w.heap.size < ((w.alloc (.cells #[.int .i64 cs, .int .i64 ce, .int .i64 cd] 23)).alloc (.cells #[.int .i64 tf, .int .i64 tu] 25)).heap.size := by simp <;> omega
  have gt : w.heap.size + 1 < ((w.alloc (.cells #[.int .i64 cs, .int .i64 ce, .int .i64 cd] 23)).alloc (.cells #[.int .i64 tf, .int .i64 tu] 25)).heap.size := by simp <;> omega
  have B := Lib.hid (show Below w.heap.size w ((w.alloc (.cells #[.int .i64 cs, .int .i64 ce, .int .i64 cd] 23)).alloc (.cells #[.int .i64 tf, .int .i64 tu] 25)) from (((Below.refl _ _).alloc (by simp; try omega) _).alloc (by simp; try omega) _))
  generalize (w.alloc (.cells #[.int .i64 cs, .int .i64 ce, .int .i64 cd] 23)).alloc (.cells #[.int .i64 tf, .int .i64 tu] 25) = V1 at *
  refine (head_any _).mono ?_
  rintro e' w2 ⟨rfl, hb⟩
  replace B := Lib.hid (on_below B.out hb)
  replace c0 := keepc hb c0
  replace c1 := keepc hb c1
  replace c2 := keepc hb c2
  replace t0 := keepc hb t0
  replace t1 := keepc hb t1
  replace gc := Nat.lt_of_lt_of_le gc hb.size
  replace gt := Nat.lt_of_lt_of_le gt hb.size
  clear hb
  go_wp2_with fail
  refine (set_is cs ce cd r tf tu 0 0 0 3 E1.out E2.out E3.out E4.out _).mono ?_
  rintro e' w3 ⟨rfl, hb⟩
  replace B := Lib.hid (on_below B.out hb)
  replace c0 := keepc hb c0
  replace c1 := keepc hb c1
  replace c2 := keepc hb c2
  replace t0 := keepc hb t0
  replace t1 := keepc hb t1
  replace gc := Nat.lt_of_lt_of_le gc hb.size
  replace gt := Nat.lt_of_lt_of_le gt hb.size
  clear hb
  go_wp2_with fail
  have d0 : World.cell? (w3.alloc (.cells #[.int .i64 0, .int .i64 0, .int .i64 0] 23)) ⟨w3.heap.size, 0, none⟩ = some (.int .i64 0) := by simp [go_sem]
  have zd0 : World.frozen? (w3.alloc (.cells #[.int .i64 0, .int .i64 0, .int .i64 0] 23)) ⟨w3.heap.size, 0, none⟩ = false := by simp [go_sem]
  have d1 : World.cell? (w3.alloc (.cells #[.int .i64 0, .int .i64 0, .int .i64 0] 23)) ⟨w3.heap.size, 1, none⟩ = some (.int .i64 0) := by simp [go_sem]
  have zd1 : World.frozen? (w3.alloc (.cells #[.int .i64 0, .int .i64 0, .int .i64 0] 23)) ⟨w3.heap.size, 1, none⟩ = false := by simp [go_sem]
  have d2 : World.cell? (w3.alloc (.cells #[.int .i64 0, .int .i64 0, .int .i64 0] 23)) ⟨w3.heap.size, 2, none⟩ = some (.int .i64 0) := by simp [go_sem]
  have zd2 : World.frozen? (w3.alloc (.cells #[.int .i64 0, .int .i64 0, .int .i64 0] 23)) ⟨w3.heap.size, 2, none⟩ = false := by simp [go_sem]
  have ndgc := gc
  have ndgt := gt
  have gd : w3.heap.size < (w3.alloc (.cells #[.int .i64 0, .int .i64 0, .int .i64 0] 23)).heap.size := by simp
  have od : w.heap.size ≤ w3.heap.size := B.out.size
  have hb : Below w3.heap.size w3 (w3.alloc (.cells #[.int .i64 0, .int .i64 0, .int .i64 0] 23)) := (Below.refl _ _).alloc (by simp) _
  generalize w3.alloc (.cells #[.int .i64 0, .int .i64 0, .int .i64 0] 23) = V4 at *
  replace B := Lib.hid (on_below B.out hb)
  replace c0 := keepc hb c0
  replace c1 := keepc hb c1
  replace c2 := keepc hb c2
  replace t0 := keepc hb t0
  replace t1 := keepc hb t1
  replace gc := Nat.lt_of_lt_of_le gc hb.size
  replace gt := Nat.lt_of_lt_of_le gt hb.size
  clear hb
  go_wp2_with fail
  refine (rvalid_b cs ce cd _ HV.out _).mono ?_
  rintro e' w5 ⟨rfl, hb⟩
  replace zd0 := keepf hb d0 zd0
  replace zd1 := keepf hb d1 zd1
  replace zd2 := keepf hb d2 zd2
  replace B := Lib.hid (on_below B.out hb)
  replace c0 := keepc hb c0
  replace c1 := keepc hb c1
  replace c2 := keepc hb c2
  replace t0 := keepc hb t0
  replace t1 := keepc hb t1
  replace d0 := keepc hb d0
  replace d1 := keepc hb d1
  replace d2 := keepc hb d2
  replace gc := Nat.lt_of_lt_of_le gc hb.size
  replace gt := Nat.lt_of_lt_of_le gt hb.size
  replace gd := Nat.lt_of_lt_of_le gd hb.size
  clear hb
  go_wp2_with fail
  refine (rtime_b r _ HT.out _).mono ?_
  rintro e' w' ⟨rfl, rfl⟩
  go_wp2_with fail
  have q0 : World.cell? (w5.alloc (.cells #[.int .i64 r, .int .i64 1000, .int .i64 0] 23)) ⟨w5.heap.size, 0, none⟩ = some (.int .i64 r) := by simp [go_sem]
  have q1 : World.cell? (w5.alloc (.cells #[.int .i64 r, .int .i64 1000, .int .i64 0] 23)) ⟨w5.heap.size, 1, none⟩ = some (.int .i64 1000) := by simp [go_sem]
  have q2 : World.cell? (w5.alloc (.cells #[.int .i64 r, .int .i64 1000, .int .i64 0] 23)) ⟨w5.heap.size, 2, none⟩ = some (.int .i64 0) := by simp [go_sem]
  have gq : w5.heap.size < (w5.alloc (.cells #[.int .i64 r, .int .i64 1000, .int .i64 0] 23)).heap.size := by simp <;> omega
  have hb : Below w5.heap.size w5 (w5.alloc (.cells #[.int .i64 r, .int .i64 1000, .int .i64 0] 23)) := ((Below.refl _ _).alloc (by simp; try omega) _)
  generalize w5.alloc (.cells #[.int .i64 r, .int .i64 1000, .int .i64 0] 23) = V6 at *
  replace zd0 := keepf hb d0 zd0
  replace zd1 := keepf hb d1 zd1
  replace zd2 := keepf hb d2 zd2
  replace B := Lib.hid (on_below B.out hb)
  replace c0 := keepc hb c0
  replace c1 := keepc hb c1
  replace c2 := keepc hb c2
  replace t0 := keepc hb t0
  replace t1 := keepc hb t1
  replace d0 := keepc hb d0
  replace d1 := keepc hb d1
  replace d2 := keepc hb d2
  replace gc := Nat.lt_of_lt_of_le gc hb.size
  replace gt := Nat.lt_of_lt_of_le gt hb.size
  replace gd := Nat.lt_of_lt_of_le gd hb.size
  clear hb
  refine (true_is r 1000 0 r F U 0 F1.out F2.out F3.out _).mono ?_
  rintro e' w7 ⟨rfl, hb⟩
  replace zd0 := keepf hb d0 zd0
  replace zd1 := keepf hb d1 zd1
  replace zd2 := keepf hb d2 zd2
  replace B := Lib.hid (on_below B.out hb)
  replace c0 := keepc hb c0
  replace c1 := keepc hb c1
  replace c2 := keepc hb c2
  replace t0 := keepc hb t0
  replace t1 := keepc hb t1
  replace d0 := keepc hb d0
  replace d1 := keepc hb d1
  replace d2 := keepc hb d2
  replace q0 := keepc hb q0
  replace q1 := keepc hb q1
  replace q2 := keepc hb q2
  replace gc := Nat.lt_of_lt_of_le gc hb.size
  replace gt := Nat.lt_of_lt_of_le gt hb.size
  replace gd := Nat.lt_of_lt_of_le gd hb.size
  replace gq := Nat.lt_of_lt_of_le gq hb.size
  clear hb
  go_wp2_with fail
  have s0 : World.cell? (w7.alloc (.cells #[.int .i64 F, .int .i64 U] 25)) ⟨w7.heap.size, 0, none⟩ = some (.int .i64 F) := by simp [go_sem]
  have zs0 : World.frozen? (w7.alloc (.cells #[.int .i64 F, .int .i64 U] 25)) ⟨w7.heap.size, 0, none⟩ = false := by simp [go_sem]
  have s1 : World.cell? (w7.alloc (.cells #[.int .i64 F, .int .i64 U] 25)) ⟨w7.heap.size, 1, none⟩ = some (.int .i64 U) := by simp [go_sem]
  have zs1 : World.frozen? (w7.alloc (.cells #[.int .i64 F, .int .i64 U] 25)) ⟨w7.heap.size, 1, none⟩ = false := by simp [go_sem]
  have nsgc := gc
  have nsgt := gt
  have nsgd := gd
  have nsgq := gq
  have gs : w7.heap.size < (w7.alloc (.cells #[.int .i64 F, .int .i64 U] 25)).heap.size := by simp
  have os : w.heap.size ≤ w7.heap.size := B.out.size
  have hb : Below w7.heap.size w7 (w7.alloc (.cells #[.int .i64 F, .int .i64 U] 25)) := (Below.refl _ _).alloc (by simp) _
  generalize w7.alloc (.cells #[.int .i64 F, .int .i64 U] 25) = V8 at *
  replace zd0 := keepf hb d0 zd0
  replace zd1 := keepf hb d1 zd1
  replace zd2 := keepf hb d2 zd2
  replace B := Lib.hid (on_below B.out hb)
  replace c0 := keepc hb c0
  replace c1 := keepc hb c1
  replace c2 := keepc hb c2
  replace t0 := keepc hb t0
  replace t1 := keepc hb t1
  replace d0 := keepc hb d0
  replace d1 := keepc hb d1
  replace d2 := keepc hb d2
  replace q0 := keepc hb q0
  replace q1 := keepc hb q1
  replace q2 := keepc hb q2
  replace gc := Nat.lt_of_lt_of_le gc hb.size
  replace gt := Nat.lt_of_lt_of_le gt hb.size
  replace gd := Nat.lt_of_lt_of_le gd hb.size
  replace gq := Nat.lt_of_lt_of_le gq hb.size
  clear hb
  go_wp2_with fail
  all_goals go_ret
  all_goals exact ⟨rfl, B.out⟩
set_option maxRecDepth 100000 in
set_option maxHeartbeats 2000000 in
theorem nil (cs : Int) (ics : I64 cs) (ce : Int) (ice : I64 ce) (cd : Int) (icd : I64 cd) (r : Int) (ir : I64 r) (tf : Int) (itf : I64 tf) (tu : Int) (itu : I64 tu) (w : World) (n : Int) (e1 : c1 cs ce cd r tf tu = r) (e2 : c2 cs ce cd r tf tu = n) (e3 : c3 cs ce cd r tf tu = cd) (e4 : sE cs ce cd r tf tu = 0) (hv : vc cs ce cd = true) (ht : tm r = true) (k0 : 0 ≤ tf) (k1 : tf < tu) (k2 : tu ≤ 600001) (F U : Int) (f1 : tF r 1000 0 r = F) (f2 : tU r 1000 0 r = U) (f3 : tE r 1000 0 r = 0) (A V : Int) (l : F ≤ tf) (l1 : tu ≤ U) (a1 : tF r n cd r = A) (a2 : tU r n cd r = V) (a3 : tE r n cd r = 0) (m : A ≤ tf) (m1 : tu ≤ V) (hn : n ≤ 0) (hn1 : 0 ≤ n) :
    Calls Try.prog 8 #[.agg #[.int .i64 cs, .int .i64 ce, .int .i64 cd], .int .i64 r, .agg #[.int .i64 tf, .int .i64 tu]] w fun e w' => e = .returned (.bool true) ∧ Below w.heap.size w w' := by
  have E1 := Lib.hid e1
  clear e1
  have E2 := Lib.hid e2
  clear e2
  have E3 := Lib.hid e3
  clear e3
  have E4 := Lib.hid e4
  clear e4
  have HV := Lib.hid hv
  clear hv
  have HT := Lib.hid ht
  clear ht
  have F1 := Lib.hid f1
  clear f1
  have F2 := Lib.hid f2
  clear f2
  have F3 := Lib.hid f3
  clear f3
  have A1 := Lib.hid a1
  clear a1
  have A2 := Lib.hid a2
  clear a2
  have A3 := Lib.hid a3
  clear a3
  go_enter Try.func8, Try.ntmps8
  go_wp2_with fail
  have c0 : World.cell? ((w.alloc (.cells #[.int .i64 cs, .int .i64 ce, .int .i64 cd] 23)).alloc (.cells #[.int .i64 tf, .int .i64 tu] 25)) ⟨w.heap.size, 0, none⟩ = some (.int .i64 cs) := by simp [go_sem]
  have c1 : World.cell? ((w.alloc (.cells #[.int .i64 cs, .int .i64 ce, .int .i64 cd] 23)).alloc (.cells #[.int .i64 tf, .int .i64 tu] 25)) ⟨w.heap.size, 1, none⟩ = some (.int .i64 ce) := by simp [go_sem]
  have c2 : World.cell? ((w.alloc (.cells #[.int .i64 cs, .int .i64 ce, .int .i64 cd] 23)).alloc (.cells #[.int .i64 tf, .int .i64 tu] 25)) ⟨w.heap.size, 2, none⟩ = some (.int .i64 cd) := by simp [go_sem]
  have t0 : World.cell? ((w.alloc (.cells #[.int .i64 cs, .int .i64 ce, .int .i64 cd] 23)).alloc (.cells #[.int .i64 tf, .int .i64 tu] 25)) ⟨w.heap.size + 1, 0, none⟩ = some (.int .i64 tf) := by simp [go_sem]
  have t1 : World.cell? ((w.alloc (.cells #[.int .i64 cs, .int .i64 ce, .int .i64 cd] 23)).alloc (.cells #[.int .i64 tf, .int .i64 tu] 25)) ⟨w.heap.size + 1, 1, none⟩ = some (.int .i64 tu) := by simp [go_sem]
  have gc : w.heap.size < ((w.alloc (.cells #[.int .i64 cs, .int .i64 ce, .int .i64 cd] 23)).alloc (.cells #[.int .i64 tf, .int .i64 tu] 25)).heap.size := by simp <;> omega
  have gt : w.heap.size + 1 < ((w.alloc (.cells #[.int .i64 cs, .int .i64 ce, .int .i64 cd] 23)).alloc (.cells #[.int .i64 tf, .int .i64 tu] 25)).heap.size := by simp <;> omega
  have B := Lib.hid (show Below w.heap.size w ((w.alloc (.cells #[.int .i64 cs, .int .i64 ce, .int .i64 cd] 23)).alloc (.cells #[.int .i64 tf, .int .i64 tu] 25)) from (((Below.refl _ _).alloc (by simp; try omega) _).alloc (by simp; try omega) _))
  generalize (w.alloc (.cells #[.int .i64 cs, .int .i64 ce, .int .i64 cd] 23)).alloc (.cells #[.int .i64 tf, .int .i64 tu] 25) = V1 at *
  refine (head_any _).mono ?_
  rintro e' w2 ⟨rfl, hb⟩
  replace B := Lib.hid (on_below B.out hb)
  replace c0 := keepc hb c0
  replace c1 := keepc hb c1
  replace c2 := keepc hb c2
  replace t0 := keepc hb t0
  replace t1 := keepc hb t1
  replace gc := Nat.lt_of_lt_of_le gc hb.size
  replace gt := Nat.lt_of_lt_of_le gt hb.size
  clear hb
  go_wp2_with fail
  refine (set_is cs ce cd r tf tu r n cd 0 E1.out E2.out E3.out E4.out _).mono ?_
  rintro e' w3 ⟨rfl, hb⟩
  replace B := Lib.hid (on_below B.out hb)
  replace c0 := keepc hb c0
  replace c1 := keepc hb c1
  replace c2 := keepc hb c2
  replace t0 := keepc hb t0
  replace t1 := keepc hb t1
  replace gc := Nat.lt_of_lt_of_le gc hb.size
  replace gt := Nat.lt_of_lt_of_le gt hb.size
  clear hb
  go_wp2_with fail
  have d0 : World.cell? (w3.alloc (.cells #[.int .i64 r, .int .i64 n, .int .i64 cd] 23)) ⟨w3.heap.size, 0, none⟩ = some (.int .i64 r) := by simp [go_sem]
  have zd0 : World.frozen? (w3.alloc (.cells #[.int .i64 r, .int .i64 n, .int .i64 cd] 23)) ⟨w3.heap.size, 0, none⟩ = false := by simp [go_sem]
  have d1 : World.cell? (w3.alloc (.cells #[.int .i64 r, .int .i64 n, .int .i64 cd] 23)) ⟨w3.heap.size, 1, none⟩ = some (.int .i64 n) := by simp [go_sem]
  have zd1 : World.frozen? (w3.alloc (.cells #[.int .i64 r, .int .i64 n, .int .i64 cd] 23)) ⟨w3.heap.size, 1, none⟩ = false := by simp [go_sem]
  have d2 : World.cell? (w3.alloc (.cells #[.int .i64 r, .int .i64 n, .int .i64 cd] 23)) ⟨w3.heap.size, 2, none⟩ = some (.int .i64 cd) := by simp [go_sem]
  have zd2 : World.frozen? (w3.alloc (.cells #[.int .i64 r, .int .i64 n, .int .i64 cd] 23)) ⟨w3.heap.size, 2, none⟩ = false := by simp [go_sem]
  have ndgc := gc
  have ndgt := gt
  have gd : w3.heap.size < (w3.alloc (.cells #[.int .i64 r, .int .i64 n, .int .i64 cd] 23)).heap.size := by simp
  have od : w.heap.size ≤ w3.heap.size := B.out.size
  have hb : Below w3.heap.size w3 (w3.alloc (.cells #[.int .i64 r, .int .i64 n, .int .i64 cd] 23)) := (Below.refl _ _).alloc (by simp) _
  generalize w3.alloc (.cells #[.int .i64 r, .int .i64 n, .int .i64 cd] 23) = V4 at *
  replace B := Lib.hid (on_below B.out hb)
  replace c0 := keepc hb c0
  replace c1 := keepc hb c1
  replace c2 := keepc hb c2
  replace t0 := keepc hb t0
  replace t1 := keepc hb t1
  replace gc := Nat.lt_of_lt_of_le gc hb.size
  replace gt := Nat.lt_of_lt_of_le gt hb.size
  clear hb
  go_wp2_with fail
  refine (rvalid_b cs ce cd _ HV.out _).mono ?_
  rintro e' w5 ⟨rfl, hb⟩
  replace zd0 := keepf hb d0 zd0
  replace zd1 := keepf hb d1 zd1
  replace zd2 := keepf hb d2 zd2
  replace B := Lib.hid (on_below B.out hb)
  replace c0 := keepc hb c0
  replace c1 := keepc hb c1
  replace c2 := keepc hb c2
  replace t0 := keepc hb t0
  replace t1 := keepc hb t1
  replace d0 := keepc hb d0
  replace d1 := keepc hb d1
  replace d2 := keepc hb d2
  replace gc := Nat.lt_of_lt_of_le gc hb.size
  replace gt := Nat.lt_of_lt_of_le gt hb.size
  replace gd := Nat.lt_of_lt_of_le gd hb.size
  clear hb
  go_wp2_with fail
  refine (rtime_b r _ HT.out _).mono ?_
  rintro e' w' ⟨rfl, rfl⟩
  go_wp2_with fail
  have q0 : World.cell? (w5.alloc (.cells #[.int .i64 r, .int .i64 1000, .int .i64 0] 23)) ⟨w5.heap.size, 0, none⟩ = some (.int .i64 r) := by simp [go_sem]
  have q1 : World.cell? (w5.alloc (.cells #[.int .i64 r, .int .i64 1000, .int .i64 0] 23)) ⟨w5.heap.size, 1, none⟩ = some (.int .i64 1000) := by simp [go_sem]
  have q2 : World.cell? (w5.alloc (.cells #[.int .i64 r, .int .i64 1000, .int .i64 0] 23)) ⟨w5.heap.size, 2, none⟩ = some (.int .i64 0) := by simp [go_sem]
  have gq : w5.heap.size < (w5.alloc (.cells #[.int .i64 r, .int .i64 1000, .int .i64 0] 23)).heap.size := by simp <;> omega
  have hb : Below w5.heap.size w5 (w5.alloc (.cells #[.int .i64 r, .int .i64 1000, .int .i64 0] 23)) := ((Below.refl _ _).alloc (by simp; try omega) _)
  generalize w5.alloc (.cells #[.int .i64 r, .int .i64 1000, .int .i64 0] 23) = V6 at *
  replace zd0 := keepf hb d0 zd0
  replace zd1 := keepf hb d1 zd1
  replace zd2 := keepf hb d2 zd2
  replace B := Lib.hid (on_below B.out hb)
  replace c0 := keepc hb c0
  replace c1 := keepc hb c1
  replace c2 := keepc hb c2
  replace t0 := keepc hb t0
  replace t1 := keepc hb t1
  replace d0 := keepc hb d0
  replace d1 := keepc hb d1
  replace d2 := keepc hb d2
  replace gc := Nat.lt_of_lt_of_le gc hb.size
  replace gt := Nat.lt_of_lt_of_le gt hb.size
  replace gd := Nat.lt_of_lt_of_le gd hb.size
  clear hb
  refine (true_is r 1000 0 r F U 0 F1.out F2.out F3.out _).mono ?_
  rintro e' w7 ⟨rfl, hb⟩
  replace zd0 := keepf hb d0 zd0
  replace zd1 := keepf hb d1 zd1
  replace zd2 := keepf hb d2 zd2
  replace B := Lib.hid (on_below B.out hb)
  replace c0 := keepc hb c0
  replace c1 := keepc hb c1
  replace c2 := keepc hb c2
  replace t0 := keepc hb t0
  replace t1 := keepc hb t1
  replace d0 := keepc hb d0
  replace d1 := keepc hb d1
  replace d2 := keepc hb d2
  replace q0 := keepc hb q0
  replace q1 := keepc hb q1
  replace q2 := keepc hb q2
  replace gc := Nat.lt_of_lt_of_le gc hb.size
  replace gt := Nat.lt_of_lt_of_le gt hb.size
  replace gd := Nat.lt_of_lt_of_le gd hb.size
  replace gq := Nat.lt_of_lt_of_le gq hb.size
  clear hb
  go_wp2_with fail
  have s0 : World.cell? (w7.alloc (.cells #[.int .i64 F, .int .i64 U] 25)) ⟨w7.heap.size, 0, none⟩ = some (.int .i64 F) := by simp [go_sem]
  have zs0 : World.frozen? (w7.alloc (.cells #[.int .i64 F, .int .i64 U] 25)) ⟨w7.heap.size, 0, none⟩ = false := by simp [go_sem]
  have s1 : World.cell? (w7.alloc (.cells #[.int .i64 F, .int .i64 U] 25)) ⟨w7.heap.size, 1, none⟩ = some (.int .i64 U) := by simp [go_sem]
  have zs1 : World.frozen? (w7.alloc (.cells #[.int .i64 F, .int .i64 U] 25)) ⟨w7.heap.size, 1, none⟩ = false := by simp [go_sem]
  have nsgc := gc
  have nsgt := gt
  have nsgd := gd
  have nsgq := gq
  have gs : w7.heap.size < (w7.alloc (.cells #[.int .i64 F, .int .i64 U] 25)).heap.size := by simp
  have os : w.heap.size ≤ w7.heap.size := B.out.size
  have hb : Below w7.heap.size w7 (w7.alloc (.cells #[.int .i64 F, .int .i64 U] 25)) := (Below.refl _ _).alloc (by simp) _
  generalize w7.alloc (.cells #[.int .i64 F, .int .i64 U] 25) = V8 at *
  replace zd0 := keepf hb d0 zd0
  replace zd1 := keepf hb d1 zd1
  replace zd2 := keepf hb d2 zd2
  replace B := Lib.hid (on_below B.out hb)
  replace c0 := keepc hb c0
  replace c1 := keepc hb c1
  replace c2 := keepc hb c2
  replace t0 := keepc hb t0
  replace t1 := keepc hb t1
  replace d0 := keepc hb d0
  replace d1 := keepc hb d1
  replace d2 := keepc hb d2
  replace q0 := keepc hb q0
  replace q1 := keepc hb q1
  replace q2 := keepc hb q2
  replace gc := Nat.lt_of_lt_of_le gc hb.size
  replace gt := Nat.lt_of_lt_of_le gt hb.size
  replace gd := Nat.lt_of_lt_of_le gd hb.size
  replace gq := Nat.lt_of_lt_of_le gq hb.size
  clear hb
  go_wp2_with fail
  refine (true_is r n cd r A V 0 A1.out A2.out A3.out _).mono ?_
  rintro e' w9 ⟨rfl, hb⟩
  replace zd0 := keepf hb d0 zd0
  replace zd1 := keepf hb d1 zd1
  replace zd2 := keepf hb d2 zd2
  replace zs0 := keepf hb s0 zs0
  replace zs1 := keepf hb s1 zs1
  replace B := Lib.hid (on_below B.out hb)
  replace c0 := keepc hb c0
  replace c1 := keepc hb c1
  replace c2 := keepc hb c2
  replace t0 := keepc hb t0
  replace t1 := keepc hb t1
  replace d0 := keepc hb d0
  replace d1 := keepc hb d1
  replace d2 := keepc hb d2
  replace q0 := keepc hb q0
  replace q1 := keepc hb q1
  replace q2 := keepc hb q2
  replace s0 := keepc hb s0
  replace s1 := keepc hb s1
  replace gc := Nat.lt_of_lt_of_le gc hb.size
  replace gt := Nat.lt_of_lt_of_le gt hb.size
  replace gd := Nat.lt_of_lt_of_le gd hb.size
  replace gq := Nat.lt_of_lt_of_le gq hb.size
  replace gs := Nat.lt_of_lt_of_le gs hb.size
  clear hb
  go_wp2_with fail
  all_goals go_ret
  all_goals exact ⟨rfl, (B.out.setCell os _).setCell os _⟩
section
variable {w : World} {b o b' c : Nat} {u : Value} {x y z : Int}
theorem far3 (h : w.cell? ⟨c, o, none⟩ = some u) (ne : c ≠ b) (ne' : c ≠ b') : (((w.setCell ⟨b, 0, none⟩ (.int .i64 x)).setCell ⟨b, 1, none⟩ (.int .i64 y)).setCell ⟨b', 1, none⟩ (.int .i64 z)).cell? ⟨c, o, none⟩ = some u := by
  rw [World.cell?_setCell_far _ _ _ _ (by simp; omega)]; exact far2 ne h
theorem near3 {u' : Value} (h0 : w.cell? ⟨b, 0, none⟩ = some u) (h1 : w.cell? ⟨b, 1, none⟩ = some u') (ne : b ≠ b') : (((w.setCell ⟨b, 0, none⟩ (.int .i64 x)).setCell ⟨b, 1, none⟩ (.int .i64 y)).setCell ⟨b', 1, none⟩ (.int .i64 z)).cell? ⟨b, 0, none⟩ = some (.int .i64 x) ∧ (((w.setCell ⟨b, 0, none⟩ (.int .i64 x)).setCell ⟨b, 1, none⟩ (.int .i64 y)).setCell ⟨b', 1, none⟩ (.int .i64 z)).cell? ⟨b, 1, none⟩ = some (.int .i64 y) := by
  refine ⟨?_, ?_⟩
  · rw [World.cell?_setCell_far _ _ _ _ (by simp; omega)]; simp [go_sem, h0]
  · rw [World.cell?_setCell_far _ _ _ _ (by simp; omega)]; simp [go_sem, h1]
theorem froz3 {p : Addr} (h : w.frozen? p = false) : (((w.setCell ⟨b, 0, none⟩ (.int .i64 x)).setCell ⟨b, 1, none⟩ (.int .i64 y)).setCell ⟨b', 1, none⟩ (.int .i64 z)).frozen? p = false := by rw [World.frozen?_setCell]; rw [World.frozen?_setCell, World.frozen?_setCell]; exact h
end
set_option maxRecDepth 100000 in
set_option maxHeartbeats 2000000 in
theorem pos1 (cs : Int) (ics : I64 cs) (ce : Int) (ice : I64 ce) (cd : Int) (icd : I64 cd) (r : Int) (ir : I64 r) (tf : Int) (itf : I64 tf) (tu : Int) (itu : I64 tu) (w : World) (n : Int) (e1 : c1 cs ce cd r tf tu = r) (e2 : c2 cs ce cd r tf tu = n) (e3 : c3 cs ce cd r tf tu = cd) (e4 : sE cs ce cd r tf tu = 0) (hv : vc cs ce cd = true) (ht : tm r = true) (k0 : 0 ≤ tf) (k1 : tf < tu) (k2 : tu ≤ 600001) (F U : Int) (f1 : tF r 1000 0 r = F) (f2 : tU r 1000 0 r = U) (f3 : tE r 1000 0 r = 0) (A V : Int) (l : F ≤ tf) (l1 : tu ≤ U) (a1 : tF r n cd r = A) (a2 : tU r n cd r = V) (a3 : tE r n cd r = 0) (m : A ≤ tf) (m1 : tu ≤ V) (hn : 1 ≤ n) (hn1 : n ≤ 1000) (P Q : Int) (b1 : tF r (n - 1) cd r = P) (b2 : tU r (n - 1) cd r = Q) (b3 : tE r (n - 1) cd r = 0) (k : tf < P) :
    Calls Try.prog 8 #[.agg #[.int .i64 cs, .int .i64 ce, .int .i64 cd], .int .i64 r, .agg #[.int .i64 tf, .int .i64 tu]] w fun e w' => e = .returned (.bool true) ∧ Below w.heap.size w w' := by
  have E1 := Lib.hid e1
  clear e1
  have E2 := Lib.hid e2
  clear e2
  have E3 := Lib.hid e3
  clear e3
  have E4 := Lib.hid e4
  clear e4
  have HV := Lib.hid hv
  clear hv
  have HT := Lib.hid ht
  clear ht
  have F1 := Lib.hid f1
  clear f1
  have F2 := Lib.hid f2
  clear f2
  have F3 := Lib.hid f3
  clear f3
  have A1 := Lib.hid a1
  clear a1
  have A2 := Lib.hid a2
  clear a2
  have A3 := Lib.hid a3
  clear a3
  have B1 := Lib.hid b1
  clear b1
  have B2 := Lib.hid b2
  clear b2
  have B3 := Lib.hid b3
  clear b3
  go_enter Try.func8, Try.ntmps8
  go_wp2_with fail
  have c0 : World.cell? ((w.alloc (.cells #[.int .i64 cs, .int .i64 ce, .int .i64 cd] 23)).alloc (.cells #[.int .i64 tf, .int .i64 tu] 25)) ⟨w.heap.size, 0, none⟩ = some (.int .i64 cs) := by simp [go_sem]
  have c1 : World.cell? ((w.alloc (.cells #[.int .i64 cs, .int .i64 ce, .int .i64 cd] 23)).alloc (.cells #[.int .i64 tf, .int .i64 tu] 25)) ⟨w.heap.size, 1, none⟩ = some (.int .i64 ce) := by simp [go_sem]
  have c2 : World.cell? ((w.alloc (.cells #[.int .i64 cs, .int .i64 ce, .int .i64 cd] 23)).alloc (.cells #[.int .i64 tf, .int .i64 tu] 25)) ⟨w.heap.size, 2, none⟩ = some (.int .i64 cd) := by simp [go_sem]
  have t0 : World.cell? ((w.alloc (.cells #[.int .i64 cs, .int .i64 ce, .int .i64 cd] 23)).alloc (.cells #[.int .i64 tf, .int .i64 tu] 25)) ⟨w.heap.size + 1, 0, none⟩ = some (.int .i64 tf) := by simp [go_sem]
  have t1 : World.cell? ((w.alloc (.cells #[.int .i64 cs, .int .i64 ce, .int .i64 cd] 23)).alloc (.cells #[.int .i64 tf, .int .i64 tu] 25)) ⟨w.heap.size + 1, 1, none⟩ = some (.int .i64 tu) := by simp [go_sem]
  have gc : w.heap.size < ((w.alloc (.cells #[.int .i64 cs, .int .i64 ce, .int .i64 cd] 23)).alloc (.cells #[.int .i64 tf, .int .i64 tu] 25)).heap.size := by simp <;> omega
  have gt : w.heap.size + 1 < ((w.alloc (.cells #[.int .i64 cs, .int .i64 ce, .int .i64 cd] 23)).alloc (.cells #[.int .i64 tf, .int .i64 tu] 25)).heap.size := by simp <;> omega
  have B := Lib.hid (show Below w.heap.size w ((w.alloc (.cells #[.int .i64 cs, .int .i64 ce, .int .i64 cd] 23)).alloc (.cells #[.int .i64 tf, .int .i64 tu] 25)) from (((Below.refl _ _).alloc (by simp; try omega) _).alloc (by simp; try omega) _))
  generalize (w.alloc (.cells #[.int .i64 cs, .int .i64 ce, .int .i64 cd] 23)).alloc (.cells #[.int .i64 tf, .int .i64 tu] 25) = V1 at *
  refine (head_any _).mono ?_
  rintro e' w2 ⟨rfl, hb⟩
  replace B := Lib.hid (on_below B.out hb)
  replace c0 := keepc hb c0
  replace c1 := keepc hb c1
  replace c2 := keepc hb c2
  replace t0 := keepc hb t0
  replace t1 := keepc hb t1
  replace gc := Nat.lt_of_lt_of_le gc hb.size
  replace gt := Nat.lt_of_lt_of_le gt hb.size
  clear hb
  go_wp2_with fail
  refine (set_is cs ce cd r tf tu r n cd 0 E1.out E2.out E3.out E4.out _).mono ?_
  rintro e' w3 ⟨rfl, hb⟩
  replace B := Lib.hid (on_below B.out hb)
  replace c0 := keepc hb c0
  replace c1 := keepc hb c1
  replace c2 := keepc hb c2
  replace t0 := keepc hb t0
  replace t1 := keepc hb t1
  replace gc := Nat.lt_of_lt_of_le gc hb.size
  replace gt := Nat.lt_of_lt_of_le gt hb.size
  clear hb
  go_wp2_with fail
  have d0 : World.cell? (w3.alloc (.cells #[.int .i64 r, .int .i64 n, .int .i64 cd] 23)) ⟨w3.heap.size, 0, none⟩ = some (.int .i64 r) := by simp [go_sem]
  have zd0 : World.frozen? (w3.alloc (.cells #[.int .i64 r, .int .i64 n, .int .i64 cd] 23)) ⟨w3.heap.size, 0, none⟩ = false := by simp [go_sem]
  have d1 : World.cell? (w3.alloc (.cells #[.int .i64 r, .int .i64 n, .int .i64 cd] 23)) ⟨w3.heap.size, 1, none⟩ = some (.int .i64 n) := by simp [go_sem]
  have zd1 : World.frozen? (w3.alloc (.cells #[.int .i64 r, .int .i64 n, .int .i64 cd] 23)) ⟨w3.heap.size, 1, none⟩ = false := by simp [go_sem]
  have d2 : World.cell? (w3.alloc (.cells #[.int .i64 r, .int .i64 n, .int .i64 cd] 23)) ⟨w3.heap.size, 2, none⟩ = some (.int .i64 cd) := by simp [go_sem]
  have zd2 : World.frozen? (w3.alloc (.cells #[.int .i64 r, .int .i64 n, .int .i64 cd] 23)) ⟨w3.heap.size, 2, none⟩ = false := by simp [go_sem]
  have ndgc := gc
  have ndgt := gt
  have gd : w3.heap.size < (w3.alloc (.cells #[.int .i64 r, .int .i64 n, .int .i64 cd] 23)).heap.size := by simp
  have od : w.heap.size ≤ w3.heap.size := B.out.size
  have hb : Below w3.heap.size w3 (w3.alloc (.cells #[.int .i64 r, .int .i64 n, .int .i64 cd] 23)) := (Below.refl _ _).alloc (by simp) _
  generalize w3.alloc (.cells #[.int .i64 r, .int .i64 n, .int .i64 cd] 23) = V4 at *
  replace B := Lib.hid (on_below B.out hb)
  replace c0 := keepc hb c0
  replace c1 := keepc hb c1
  replace c2 := keepc hb c2
  replace t0 := keepc hb t0
  replace t1 := keepc hb t1
  replace gc := Nat.lt_of_lt_of_le gc hb.size
  replace gt := Nat.lt_of_lt_of_le gt hb.size
  clear hb
  go_wp2_with fail
  refine (rvalid_b cs ce cd _ HV.out _).mono ?_
  rintro e' w5 ⟨rfl, hb⟩
  replace zd0 := keepf hb d0 zd0
  replace zd1 := keepf hb d1 zd1
  replace zd2 := keepf hb d2 zd2
  replace B := Lib.hid (on_below B.out hb)
  replace c0 := keepc hb c0
  replace c1 := keepc hb c1
  replace c2 := keepc hb c2
  replace t0 := keepc hb t0
  replace t1 := keepc hb t1
  replace d0 := keepc hb d0
  replace d1 := keepc hb d1
  replace d2 := keepc hb d2
  replace gc := Nat.lt_of_lt_of_le gc hb.size
  replace gt := Nat.lt_of_lt_of_le gt hb.size
  replace gd := Nat.lt_of_lt_of_le gd hb.size
  clear hb
  go_wp2_with fail
  refine (rtime_b r _ HT.out _).mono ?_
  rintro e' w' ⟨rfl, rfl⟩
  go_wp2_with fail
  have q0 : World.cell? (w5.alloc (.cells #[.int .i64 r, .int .i64 1000, .int .i64 0] 23)) ⟨w5.heap.size, 0, none⟩ = some (.int .i64 r) := by simp [go_sem]
  have q1 : World.cell? (w5.alloc (.cells #[.int .i64 r, .int .i64 1000, .int .i64 0] 23)) ⟨w5.heap.size, 1, none⟩ = some (.int .i64 1000) := by simp [go_sem]
  have q2 : World.cell? (w5.alloc (.cells #[.int .i64 r, .int .i64 1000, .int .i64 0] 23)) ⟨w5.heap.size, 2, none⟩ = some (.int .i64 0) := by simp [go_sem]
  have gq : w5.heap.size < (w5.alloc (.cells #[.int .i64 r, .int .i64 1000, .int .i64 0] 23)).heap.size := by simp <;> omega
  have hb : Below w5.heap.size w5 (w5.alloc (.cells #[.int .i64 r, .int .i64 1000, .int .i64 0] 23)) := ((Below.refl _ _).alloc (by simp; try omega) _)
  generalize w5.alloc (.cells #[.int .i64 r, .int .i64 1000, .int .i64 0] 23) = V6 at *
  replace zd0 := keepf hb d0 zd0
  replace zd1 := keepf hb d1 zd1
  replace zd2 := keepf hb d2 zd2
  replace B := Lib.hid (on_below B.out hb)
  replace c0 := keepc hb c0
  replace c1 := keepc hb c1
  replace c2 := keepc hb c2
  replace t0 := keepc hb t0
  replace t1 := keepc hb t1
  replace d0 := keepc hb d0
  replace d1 := keepc hb d1
  replace d2 := keepc hb d2
  replace gc := Nat.lt_of_lt_of_le gc hb.size
  replace gt := Nat.lt_of_lt_of_le gt hb.size
  replace gd := Nat.lt_of_lt_of_le gd hb.size
  clear hb
  refine (true_is r 1000 0 r F U 0 F1.out F2.out F3.out _).mono ?_
  rintro e' w7 ⟨rfl, hb⟩
  replace zd0 := keepf hb d0 zd0
  replace zd1 := keepf hb d1 zd1
  replace zd2 := keepf hb d2 zd2
  replace B := Lib.hid (on_below B.out hb)
  replace c0 := keepc hb c0
  replace c1 := keepc hb c1
  replace c2 := keepc hb c2
  replace t0 := keepc hb t0
  replace t1 := keepc hb t1
  replace d0 := keepc hb d0
  replace d1 := keepc hb d1
  replace d2 := keepc hb d2
  replace q0 := keepc hb q0
  replace q1 := keepc hb q1
  replace q2 := keepc hb q2
  replace gc := Nat.lt_of_lt_of_le gc hb.size
  replace gt := Nat.lt_of_lt_of_le gt hb.size
  replace gd := Nat.lt_of_lt_of_le gd hb.size
  replace gq := Nat.lt_of_lt_of_le gq hb.size
  clear hb
  go_wp2_with fail
  have s0 : World.cell? (w7.alloc (.cells #[.int .i64 F, .int .i64 U] 25)) ⟨w7.heap.size, 0, none⟩ = some (.int .i64 F) := by simp [go_sem]
  have zs0 : World.frozen? (w7.alloc (.cells #[.int .i64 F, .int .i64 U] 25)) ⟨w7.heap.size, 0, none⟩ = false := by simp [go_sem]
  have s1 : World.cell? (w7.alloc (.cells #[.int .i64 F, .int .i64 U] 25)) ⟨w7.heap.size, 1, none⟩ = some (.int .i64 U) := by simp [go_sem]
  have zs1 : World.frozen? (w7.alloc (.cells #[.int .i64 F, .int .i64 U] 25)) ⟨w7.heap.size, 1, none⟩ = false := by simp [go_sem]
  have nsgc := gc
  have nsgt := gt
  have nsgd := gd
  have nsgq := gq
  have gs : w7.heap.size < (w7.alloc (.cells #[.int .i64 F, .int .i64 U] 25)).heap.size := by simp
  have os : w.heap.size ≤ w7.heap.size := B.out.size
  have hb : Below w7.heap.size w7 (w7.alloc (.cells #[.int .i64 F, .int .i64 U] 25)) := (Below.refl _ _).alloc (by simp) _
  generalize w7.alloc (.cells #[.int .i64 F, .int .i64 U] 25) = V8 at *
  replace zd0 := keepf hb d0 zd0
  replace zd1 := keepf hb d1 zd1
  replace zd2 := keepf hb d2 zd2
  replace B := Lib.hid (on_below B.out hb)
  replace c0 := keepc hb c0
  replace c1 := keepc hb c1
  replace c2 := keepc hb c2
  replace t0 := keepc hb t0
  replace t1 := keepc hb t1
  replace d0 := keepc hb d0
  replace d1 := keepc hb d1
  replace d2 := keepc hb d2
  replace q0 := keepc hb q0
  replace q1 := keepc hb q1
  replace q2 := keepc hb q2
  replace gc := Nat.lt_of_lt_of_le gc hb.size
  replace gt := Nat.lt_of_lt_of_le gt hb.size
  replace gd := Nat.lt_of_lt_of_le gd hb.size
  replace gq := Nat.lt_of_lt_of_le gq hb.size
  clear hb
  go_wp2_with fail
  refine (true_is r n cd r A V 0 A1.out A2.out A3.out _).mono ?_
  rintro e' w9 ⟨rfl, hb⟩
  replace zd0 := keepf hb d0 zd0
  replace zd1 := keepf hb d1 zd1
  replace zd2 := keepf hb d2 zd2
  replace zs0 := keepf hb s0 zs0
  replace zs1 := keepf hb s1 zs1
  replace B := Lib.hid (on_below B.out hb)
  replace c0 := keepc hb c0
  replace c1 := keepc hb c1
  replace c2 := keepc hb c2
  replace t0 := keepc hb t0
  replace t1 := keepc hb t1
  replace d0 := keepc hb d0
  replace d1 := keepc hb d1
  replace d2 := keepc hb d2
  replace q0 := keepc hb q0
  replace q1 := keepc hb q1
  replace q2 := keepc hb q2
  replace s0 := keepc hb s0
  replace s1 := keepc hb s1
  replace gc := Nat.lt_of_lt_of_le gc hb.size
  replace gt := Nat.lt_of_lt_of_le gt hb.size
  replace gd := Nat.lt_of_lt_of_le gd hb.size
  replace gq := Nat.lt_of_lt_of_le gq hb.size
  replace gs := Nat.lt_of_lt_of_le gs hb.size
  clear hb
  go_wp2_with fail
  have t0' := far3 (x := A) (y := V) (z := n - 1) (b := w7.heap.size) (b' := w3.heap.size) t0 (by omega) (by omega)
  have t1' := far3 (x := A) (y := V) (z := n - 1) (b := w7.heap.size) (b' := w3.heap.size) t1 (by omega) (by omega)
  obtain ⟨s0', s1'⟩ := near3 (x := A) (y := V) (z := n - 1) (b := w7.heap.size) (b' := w3.heap.size) s0 s1 (by omega)
  have zs0' := froz3 (x := A) (y := V) (z := n - 1) (b := w7.heap.size) (b' := w3.heap.size) zs0
  have zs1' := froz3 (x := A) (y := V) (z := n - 1) (b := w7.heap.size) (b' := w3.heap.size) zs1
  have B' := Lib.hid (show Below w.heap.size w (((w9.setCell ⟨w7.heap.size, 0, none⟩ (.int .i64 A)).setCell ⟨w7.heap.size, 1, none⟩ (.int .i64 V)).setCell ⟨w3.heap.size, 1, none⟩ (.int .i64 (n - 1))) from ((B.out.setCell os _).setCell os _).setCell od _)
  clear t0 t1 s0 s1 zs0 zs1 B c0 c1 c2 d0 d1 d2 zd0 zd1 zd2 q0 q1 q2 gc gt gd gq gs
  generalize ((w9.setCell ⟨w7.heap.size, 0, none⟩ (.int .i64 A)).setCell ⟨w7.heap.size, 1, none⟩ (.int .i64 V)).setCell ⟨w3.heap.size, 1, none⟩ (.int .i64 (n - 1)) = Y at *
  refine (true_is r (n - 1) cd r P Q 0 B1.out B2.out B3.out _).mono ?_
  rintro e' w99 ⟨rfl, hb⟩
  replace B' := Lib.hid (on_below B'.out hb)
  have zs0 := keepf hb s0' zs0'
  have zs1 := keepf hb s1' zs1'
  have s0 := keepc hb s0'
  have s1 := keepc hb s1'
  have t0 := keepc hb t0'
  have t1 := keepc hb t1'
  clear hb t0' t1' s0' s1' zs0' zs1'
  go_wp2_with fail
  all_goals go_ret
  all_goals exact ⟨rfl, (B'.out.setCell os _).setCell os _⟩
set_option maxRecDepth 100000 in
set_option maxHeartbeats 2000000 in
theorem pos2 (cs : Int) (ics : I64 cs) (ce : Int) (ice : I64 ce) (cd : Int) (icd : I64 cd) (r : Int) (ir : I64 r) (tf : Int) (itf : I64 tf) (tu : Int) (itu : I64 tu) (w : World) (n : Int) (e1 : c1 cs ce cd r tf tu = r) (e2 : c2 cs ce cd r tf tu = n) (e3 : c3 cs ce cd r tf tu = cd) (e4 : sE cs ce cd r tf tu = 0) (hv : vc cs ce cd = true) (ht : tm r = true) (k0 : 0 ≤ tf) (k1 : tf < tu) (k2 : tu ≤ 600001) (F U : Int) (f1 : tF r 1000 0 r = F) (f2 : tU r 1000 0 r = U) (f3 : tE r 1000 0 r = 0) (A V : Int) (l : F ≤ tf) (l1 : tu ≤ U) (a1 : tF r n cd r = A) (a2 : tU r n cd r = V) (a3 : tE r n cd r = 0) (m : A ≤ tf) (m1 : tu ≤ V) (hn : 1 ≤ n) (hn1 : n ≤ 1000) (P Q : Int) (b1 : tF r (n - 1) cd r = P) (b2 : tU r (n - 1) cd r = Q) (b3 : tE r (n - 1) cd r = 0) (k : P ≤ tf) (k3 : Q < tu) :
    Calls Try.prog 8 #[.agg #[.int .i64 cs, .int .i64 ce, .int .i64 cd], .int .i64 r, .agg #[.int .i64 tf, .int .i64 tu]] w fun e w' => e = .returned (.bool true) ∧ Below w.heap.size w w' := by
  have E1 := Lib.hid e1
  clear e1
  have E2 := Lib.hid e2
  clear e2
  have E3 := Lib.hid e3
  clear e3
  have E4 := Lib.hid e4
  clear e4
  have HV := Lib.hid hv
  clear hv
  have HT := Lib.hid ht
  clear ht
  have F1 := Lib.hid f1
  clear f1
  have F2 := Lib.hid f2
  clear f2
  have F3 := Lib.hid f3
  clear f3
  have A1 := Lib.hid a1
  clear a1
  have A2 := Lib.hid a2
  clear a2
  have A3 := Lib.hid a3
  clear a3
  have B1 := Lib.hid b1
  clear b1
  have B2 := Lib.hid b2
  clear b2
  have B3 := Lib.hid b3
  clear b3
  go_enter Try.func8, Try.ntmps8
  go_wp2_with fail
  have c0 : World.cell? ((w.alloc (.cells #[.int .i64 cs, .int .i64 ce, .int .i64 cd] 23)).alloc (.cells #[.int .i64 tf, .int .i64 tu] 25)) ⟨w.heap.size, 0, none⟩ = some (.int .i64 cs) := by simp [go_sem]
  have c1 : World.cell? ((w.alloc (.cells #[.int .i64 cs, .int .i64 ce, .int .i64 cd] 23)).alloc (.cells #[.int .i64 tf, .int .i64 tu] 25)) ⟨w.heap.size, 1, none⟩ = some (.int .i64 ce) := by simp [go_sem]
  have c2 : World.cell? ((w.alloc (.cells #[.int .i64 cs, .int .i64 ce, .int .i64 cd] 23)).alloc (.cells #[.int .i64 tf, .int .i64 tu] 25)) ⟨w.heap.size, 2, none⟩ = some (.int .i64 cd) := by simp [go_sem]
  have t0 : World.cell? ((w.alloc (.cells #[.int .i64 cs, .int .i64 ce, .int .i64 cd] 23)).alloc (.cells #[.int .i64 tf, .int .i64 tu] 25)) ⟨w.heap.size + 1, 0, none⟩ = some (.int .i64 tf) := by simp [go_sem]
  have t1 : World.cell? ((w.alloc (.cells #[.int .i64 cs, .int .i64 ce, .int .i64 cd] 23)).alloc (.cells #[.int .i64 tf, .int .i64 tu] 25)) ⟨w.heap.size + 1, 1, none⟩ = some (.int .i64 tu) := by simp [go_sem]
  have gc : w.heap.size < ((w.alloc (.cells #[.int .i64 cs, .int .i64 ce, .int .i64 cd] 23)).alloc (.cells #[.int .i64 tf, .int .i64 tu] 25)).heap.size := by simp <;> omega
  have gt : w.heap.size + 1 < ((w.alloc (.cells #[.int .i64 cs, .int .i64 ce, .int .i64 cd] 23)).alloc (.cells #[.int .i64 tf, .int .i64 tu] 25)).heap.size := by simp <;> omega
  have B := Lib.hid (show Below w.heap.size w ((w.alloc (.cells #[.int .i64 cs, .int .i64 ce, .int .i64 cd] 23)).alloc (.cells #[.int .i64 tf, .int .i64 tu] 25)) from (((Below.refl _ _).alloc (by simp; try omega) _).alloc (by simp; try omega) _))
  generalize (w.alloc (.cells #[.int .i64 cs, .int .i64 ce, .int .i64 cd] 23)).alloc (.cells #[.int .i64 tf, .int .i64 tu] 25) = V1 at *
  refine (head_any _).mono ?_
  rintro e' w2 ⟨rfl, hb⟩
  replace B := Lib.hid (on_below B.out hb)
  replace c0 := keepc hb c0
  replace c1 := keepc hb c1
  replace c2 := keepc hb c2
  replace t0 := keepc hb t0
  replace t1 := keepc hb t1
  replace gc := Nat.lt_of_lt_of_le gc hb.size
  replace gt := Nat.lt_of_lt_of_le gt hb.size
  clear hb
  go_wp2_with fail
  refine (set_is cs ce cd r tf tu r n cd 0 E1.out E2.out E3.out E4.out _).mono ?_
  rintro e' w3 ⟨rfl, hb⟩
  replace B := Lib.hid (on_below B.out hb)
  replace c0 := keepc hb c0
  replace c1 := keepc hb c1
  replace c2 := keepc hb c2
  replace t0 := keepc hb t0
  replace t1 := keepc hb t1
  replace gc := Nat.lt_of_lt_of_le gc hb.size
  replace gt := Nat.lt_of_lt_of_le gt hb.size
  clear hb
  go_wp2_with fail
  have d0 : World.cell? (w3.alloc (.cells #[.int .i64 r, .int .i64 n, .int .i64 cd] 23)) ⟨w3.heap.size, 0, none⟩ = some (.int .i64 r) := by simp [go_sem]
  have zd0 : World.frozen? (w3.alloc (.cells #[.int .i64 r, .int .i64 n, .int .i64 cd] 23)) ⟨w3.heap.size, 0, none⟩ = false := by simp [go_sem]
  have d1 : World.cell? (w3.alloc (.cells #[.int .i64 r, .int .i64 n, .int .i64 cd] 23)) ⟨w3.heap.size, 1, none⟩ = some (.int .i64 n) := by simp [go_sem]
  have zd1 : World.frozen? (w3.alloc (.cells #[.int .i64 r, .int .i64 n, .int .i64 cd] 23)) ⟨w3.heap.size, 1, none⟩ = false := by simp [go_sem]
  have d2 : World.cell? (w3.alloc (.cells #[.int .i64 r, .int .i64 n, .int .i64 cd] 23)) ⟨w3.heap.size, 2, none⟩ = some (.int .i64 cd) := by simp [go_sem]
  have zd2 : World.frozen? (w3.alloc (.cells #[.int .i64 r, .int .i64 n, .int .i64 cd] 23)) ⟨w3.heap.size, 2, none⟩ = false := by simp [go_sem]
  have ndgc := gc
  have ndgt := gt
  have gd : w3.heap.size < (w3.alloc (.cells #[.int .i64 r, .int .i64 n, .int .i64 cd] 23)).heap.size := by simp
  have od : w.heap.size ≤ w3.heap.size := B.out.size
  have hb : Below w3.heap.size w3 (w3.alloc (.cells #[.int .i64 r, .int .i64 n, .int .i64 cd] 23)) := (Below.refl _ _).alloc (by simp) _
  generalize w3.alloc (.cells #[.int .i64 r, .int .i64 n, .int .i64 cd] 23) = V4 at *
  replace B := Lib.hid (on_below B.out hb)
  replace c0 := keepc hb c0
  replace c1 := keepc hb c1
  replace c2 := keepc hb c2
  replace t0 := keepc hb t0
  replace t1 := keepc hb t1
  replace gc := Nat.lt_of_lt_of_le gc hb.size
  replace gt := Nat.lt_of_lt_of_le gt hb.size
  clear hb
  go_wp2_with fail
  refine (rvalid_b cs ce cd _ HV.out _).mono ?_
  rintro e' w5 ⟨rfl, hb⟩
  replace zd0 := keepf hb d0 zd0
  replace zd1 := keepf hb d1 zd1
  replace zd2 := keepf hb d2 zd2
  replace B := Lib.hid (on_below B.out hb)
  replace c0 := keepc hb c0
  replace c1 := keepc hb c1
  replace c2 := keepc hb c2
  replace t0 := keepc hb t0
  replace t1 := keepc hb t1
  replace d0 := keepc hb d0
  replace d1 := keepc hb d1
  replace d2 := keepc hb d2
  replace gc := Nat.lt_of_lt_of_le gc hb.size
  replace gt := Nat.lt_of_lt_of_le gt hb.size
  replace gd := Nat.lt_of_lt_of_le gd hb.size
  clear hb
  go_wp2_with fail
  refine (rtime_b r _ HT.out _).mono ?_
  rintro e' w' ⟨rfl, rfl⟩
  go_wp2_with fail
  have q0 : World.cell? (w5.alloc (.cells #[.int .i64 r, .int .i64 1000, .int .i64 0] 23)) ⟨w5.heap.size, 0, none⟩ = some (.int .i64 r) := by simp [go_sem]
  have q1 : World.cell? (w5.alloc (.cells #[.int .i64 r, .int .i64 1000, .int .i64 0] 23)) ⟨w5.heap.size, 1, none⟩ = some (.int .i64 1000) := by simp [go_sem]
  have q2 : World.cell? (w5.alloc (.cells #[.int .i64 r, .int .i64 1000, .int .i64 0] 23)) ⟨w5.heap.size, 2, none⟩ = some (.int .i64 0) := by simp [go_sem]
  have gq : w5.heap.size < (w5.alloc (.cells #[.int .i64 r, .int .i64 1000, .int .i64 0] 23)).heap.size := by simp <;> omega
  have hb : Below w5.heap.size w5 (w5.alloc (.cells #[.int .i64 r, .int .i64 1000, .int .i64 0] 23)) := ((Below.refl _ _).alloc (by simp; try omega) _)
  generalize w5.alloc (.cells #[.int .i64 r, .int .i64 1000, .int .i64 0] 23) = V6 at *
  replace zd0 := keepf hb d0 zd0
  replace zd1 := keepf hb d1 zd1
  replace zd2 := keepf hb d2 zd2
  replace B := Lib.hid (on_below B.out hb)
  replace c0 := keepc hb c0
  replace c1 := keepc hb c1
  replace c2 := keepc hb c2
  replace t0 := keepc hb t0
  replace t1 := keepc hb t1
  replace d0 := keepc hb d0
  replace d1 := keepc hb d1
  replace d2 := keepc hb d2
  replace gc := Nat.lt_of_lt_of_le gc hb.size
  replace gt := Nat.lt_of_lt_of_le gt hb.size
  replace gd := Nat.lt_of_lt_of_le gd hb.size
  clear hb
  refine (true_is r 1000 0 r F U 0 F1.out F2.out F3.out _).mono ?_
  rintro e' w7 ⟨rfl, hb⟩
  replace zd0 := keepf hb d0 zd0
  replace zd1 := keepf hb d1 zd1
  replace zd2 := keepf hb d2 zd2
  replace B := Lib.hid (on_below B.out hb)
  replace c0 := keepc hb c0
  replace c1 := keepc hb c1
  replace c2 := keepc hb c2
  replace t0 := keepc hb t0
  replace t1 := keepc hb t1
  replace d0 := keepc hb d0
  replace d1 := keepc hb d1
  replace d2 := keepc hb d2
  replace q0 := keepc hb q0
  replace q1 := keepc hb q1
  replace q2 := keepc hb q2
  replace gc := Nat.lt_of_lt_of_le gc hb.size
  replace gt := Nat.lt_of_lt_of_le gt hb.size
  replace gd := Nat.lt_of_lt_of_le gd hb.size
  replace gq := Nat.lt_of_lt_of_le gq hb.size
  clear hb
  go_wp2_with fail
  have s0 : World.cell? (w7.alloc (.cells #[.int .i64 F, .int .i64 U] 25)) ⟨w7.heap.size, 0, none⟩ = some (.int .i64 F) := by simp [go_sem]
  have zs0 : World.frozen? (w7.alloc (.cells #[.int .i64 F, .int .i64 U] 25)) ⟨w7.heap.size, 0, none⟩ = false := by simp [go_sem]
  have s1 : World.cell? (w7.alloc (.cells #[.int .i64 F, .int .i64 U] 25)) ⟨w7.heap.size, 1, none⟩ = some (.int .i64 U) := by simp [go_sem]
  have zs1 : World.frozen? (w7.alloc (.cells #[.int .i64 F, .int .i64 U] 25)) ⟨w7.heap.size, 1, none⟩ = false := by simp [go_sem]
  have nsgc := gc
  have nsgt := gt
  have nsgd := gd
  have nsgq := gq
  have gs : w7.heap.size < (w7.alloc (.cells #[.int .i64 F, .int .i64 U] 25)).heap.size := by simp
  have os : w.heap.size ≤ w7.heap.size := B.out.size
  have hb : Below w7.heap.size w7 (w7.alloc (.cells #[.int .i64 F, .int .i64 U] 25)) := (Below.refl _ _).alloc (by simp) _
  generalize w7.alloc (.cells #[.int .i64 F, .int .i64 U] 25) = V8 at *
  replace zd0 := keepf hb d0 zd0
  replace zd1 := keepf hb d1 zd1
  replace zd2 := keepf hb d2 zd2
  replace B := Lib.hid (on_below B.out hb)
  replace c0 := keepc hb c0
  replace c1 := keepc hb c1
  replace c2 := keepc hb c2
  replace t0 := keepc hb t0
  replace t1 := keepc hb t1
  replace d0 := keepc hb d0
  replace d1 := keepc hb d1
  replace d2 := keepc hb d2
  replace q0 := keepc hb q0
  replace q1 := keepc hb q1
  replace q2 := keepc hb q2
  replace gc := Nat.lt_of_lt_of_le gc hb.size
  replace gt := Nat.lt_of_lt_of_le gt hb.size
  replace gd := Nat.lt_of_lt_of_le gd hb.size
  replace gq := Nat.lt_of_lt_of_le gq hb.size
  clear hb
  go_wp2_with fail
  refine (true_is r n cd r A V 0 A1.out A2.out A3.out _).mono ?_
  rintro e' w9 ⟨rfl, hb⟩
  replace zd0 := keepf hb d0 zd0
  replace zd1 := keepf hb d1 zd1
  replace zd2 := keepf hb d2 zd2
  replace zs0 := keepf hb s0 zs0
  replace zs1 := keepf hb s1 zs1
  replace B := Lib.hid (on_below B.out hb)
  replace c0 := keepc hb c0
  replace c1 := keepc hb c1
  replace c2 := keepc hb c2
  replace t0 := keepc hb t0
  replace t1 := keepc hb t1
  replace d0 := keepc hb d0
  replace d1 := keepc hb d1
  replace d2 := keepc hb d2
  replace q0 := keepc hb q0
  replace q1 := keepc hb q1
  replace q2 := keepc hb q2
  replace s0 := keepc hb s0
  replace s1 := keepc hb s1
  replace gc := Nat.lt_of_lt_of_le gc hb.size
  replace gt := Nat.lt_of_lt_of_le gt hb.size
  replace gd := Nat.lt_of_lt_of_le gd hb.size
  replace gq := Nat.lt_of_lt_of_le gq hb.size
  replace gs := Nat.lt_of_lt_of_le gs hb.size
  clear hb
  go_wp2_with fail
  have t0' := far3 (x := A) (y := V) (z := n - 1) (b := w7.heap.size) (b' := w3.heap.size) t0 (by omega) (by omega)
  have t1' := far3 (x := A) (y := V) (z := n - 1) (b := w7.heap.size) (b' := w3.heap.size) t1 (by omega) (by omega)
  obtain ⟨s0', s1'⟩ := near3 (x := A) (y := V) (z := n - 1) (b := w7.heap.size) (b' := w3.heap.size) s0 s1 (by omega)
  have zs0' := froz3 (x := A) (y := V) (z := n - 1) (b := w7.heap.size) (b' := w3.heap.size) zs0
  have zs1' := froz3 (x := A) (y := V) (z := n - 1) (b := w7.heap.size) (b' := w3.heap.size) zs1
  have B' := Lib.hid (show Below w.heap.size w (((w9.setCell ⟨w7.heap.size, 0, none⟩ (.int .i64 A)).setCell ⟨w7.heap.size, 1, none⟩ (.int .i64 V)).setCell ⟨w3.heap.size, 1, none⟩ (.int .i64 (n - 1))) from ((B.out.setCell os _).setCell os _).setCell od _)
  clear t0 t1 s0 s1 zs0 zs1 B c0 c1 c2 d0 d1 d2 zd0 zd1 zd2 q0 q1 q2 gc gt gd gq gs
  generalize ((w9.setCell ⟨w7.heap.size, 0, none⟩ (.int .i64 A)).setCell ⟨w7.heap.size, 1, none⟩ (.int .i64 V)).setCell ⟨w3.heap.size, 1, none⟩ (.int .i64 (n - 1)) = Y at *
  refine (true_is r (n - 1) cd r P Q 0 B1.out B2.out B3.out _).mono ?_
  rintro e' w99 ⟨rfl, hb⟩
  replace B' := Lib.hid (on_below B'.out hb)
  have zs0 := keepf hb s0' zs0'
  have zs1 := keepf hb s1' zs1'
  have s0 := keepc hb s0'
  have s1 := keepc hb s1'
  have t0 := keepc hb t0'
  have t1 := keepc hb t1'
  clear hb t0' t1' s0' s1' zs0' zs1'
  go_wp2_with fail
  all_goals go_ret
  all_goals exact ⟨rfl, (B'.out.setCell os _).setCell os _⟩

theorem off_self (r e d : Int) : off r e d r = e := by
  unfold off
  rw [Int.sub_self, Int.zero_mul]
  omega
theorem own_rds {r e d : Int} (ht : tm r = true) (e0 : 0 ≤ e) (e1 : e ≤ 1000) (d0 : 0 ≤ d) (d1 : d ≤ 100) : rds r e d r = true :=
  rds_iff.2 ⟨vc_iff.2 ⟨tm_iff.1 ht, ⟨e0, e1⟩, d0, d1⟩, Int.le_refl _, ht⟩
theorem own_frm (r e d : Int) : frm r e d r = max (r - e) 0 ∧ unt r e d r = min (r + e) 600000 + 1 := by
  unfold frm unt
  rw [off_self]
  exact ⟨rfl, rfl⟩
theorem walk (cs : Int) (ics : I64 cs) (ce : Int) (ice : I64 ce) (cd : Int) (icd : I64 cd) (r : Int) (ir : I64 r) (tf : Int) (itf : I64 tf) (tu : Int) (itu : I64 tu) (w : World) :
    Calls Try.prog 8 #[.agg #[.int .i64 cs, .int .i64 ce, .int .i64 cd], .int .i64 r, .agg #[.int .i64 tf, .int .i64 tu]] w fun e w' => e = .returned (.bool true) ∧ Below w.heap.size w w' := by
  have vv : ∀ x, sE cs ce cd r tf tu = x → c1 cs ce cd r tf tu = (if x = 0 then r else 0) ∧ c2 cs ce cd r tf tu = (if x = 0 then sN r tf tu else 0) ∧ c3 cs ce cd r tf tu = (if x = 0 then cd else 0) := by rintro x rfl; exact ⟨rfl, rfl, rfl⟩
  cases hm : may cs ce cd r tf tu with
  | false =>
    have h := sE_bad hm
    obtain ⟨e1, e2, e3⟩ := vv _ h
    exact bad cs ics ce ice cd icd r ir tf itf tu itu w (by simpa using e1) (by simpa using e2) (by simpa using e3) h
  | true =>
    have hm' := hm
    simp only [may, Bool.and_eq_true] at hm'
    obtain ⟨⟨hv, ht⟩, ha⟩ := hm'
    obtain ⟨k0, k1, k2⟩ := ar_iff.1 ha
    obtain ⟨m1, m2, m3⟩ := vc_iff.1 hv
    have m4 := tm_iff.1 ht
    have z1 := own_rds (e := 1000) (d := 0) ht (by omega) (by omega) (by omega) (by omega)
    obtain ⟨y1, y2⟩ := own_frm r 1000 0
    have x1 : tF r 1000 0 r = max (r - 1000) 0 := (tF_ok z1).trans y1
    have x2 : tU r 1000 0 r = min (r + 1000) 600000 + 1 := (tU_ok z1).trans y2
    have x3 := tE_ok z1
    have hN : sN r tf tu = max (max 0 (r - tf)) (tu - 1 - r) := rfl
    generalize hn : sN r tf tu = n at *
    rcases Int.lt_or_le 1000 n with h1 | h1
    · have h := sE_far hm (by omega)
      obtain ⟨e1, e2, e3⟩ := vv _ h
      rcases Int.lt_or_le tf (max (r - 1000) 0) with l | l
      · exact out1 cs ics ce ice cd icd r ir tf itf tu itu w (by simpa using e1) (by simpa using e2) (by simpa using e3) h hv ht k0 k1 k2 _ _ x1 x2 x3 l
      · exact out2 cs ics ce ice cd icd r ir tf itf tu itu w (by simpa using e1) (by simpa using e2) (by simpa using e3) h hv ht k0 k1 k2 _ _ x1 x2 x3 l (by omega)
    · have h := sE_ok hm (by omega)
      obtain ⟨e1, e2, e3⟩ := vv _ h
      replace e1 : c1 cs ce cd r tf tu = r := by simpa using e1
      replace e2 : c2 cs ce cd r tf tu = n := by simpa using e2
      replace e3 : c3 cs ce cd r tf tu = cd := by simpa using e3
      have z2 := own_rds (e := n) (d := cd) ht (by omega) (by omega) m3.1 m3.2
      obtain ⟨y3, y4⟩ := own_frm r n cd
      have x4 : tF r n cd r = max (r - n) 0 := (tF_ok z2).trans y3
      have x5 : tU r n cd r = min (r + n) 600000 + 1 := (tU_ok z2).trans y4
      have x6 := tE_ok z2
      rcases Int.lt_or_le 0 n with h2 | h2
      · have z3 := own_rds (e := n - 1) (d := cd) ht (by omega) (by omega) m3.1 m3.2
        obtain ⟨y5, y6⟩ := own_frm r (n - 1) cd
        have x7 : tF r (n - 1) cd r = max (r - (n - 1)) 0 := (tF_ok z3).trans y5
        have x8 : tU r (n - 1) cd r = min (r + (n - 1)) 600000 + 1 := (tU_ok z3).trans y6
        have x9 := tE_ok z3
        rcases Int.lt_or_le tf (max (r - (n - 1)) 0) with l | l
        · exact pos1 cs ics ce ice cd icd r ir tf itf tu itu w n e1 e2 e3 h hv ht k0 k1 k2 _ _ x1 x2 x3 _ _ (by omega) (by omega) x4 x5 x6 (by omega) (by omega) (by omega) h1 _ _ x7 x8 x9 l
        · exact pos2 cs ics ce ice cd icd r ir tf itf tu itu w n e1 e2 e3 h hv ht k0 k1 k2 _ _ x1 x2 x3 _ _ (by omega) (by omega) x4 x5 x6 (by omega) (by omega) (by omega) h1 _ _ x7 x8 x9 l (by omega)
      · exact nil cs ics ce ice cd icd r ir tf itf tu itu w n e1 e2 e3 h hv ht k0 k1 k2 _ _ x1 x2 x3 _ _ (by omega) (by omega) x4 x5 x6 (by omega) (by omega) h2 (by omega)

/-! ### The row -/
open Go.ChangeShapes Go.WideShapes Go.ChangeAt Go.Joins
theorem own : ownKnob Try.prog.godebug = none := by kernel_rfl
noncomputable def laidWorld (os : Os) : World := World.holding Try.prog os ⟨#[], #[], []⟩
theorem laidWorld_met (os : Os) (args : Array Value) : laidMet Try.prog [] ((laidWorld os).forCall (fun _ _ => 0) ⟨#[], args, []⟩).memory :=
  laidMet_of_run' 8 (by kernel_rfl) (by kernel_rfl)

set_option maxRecDepth 100000 in
theorem contract (H : Type) (enc : TypeId × Value → H) (W : World) (base : Nat) (args : Array Value) (ds gs : List (DataW H)) (before : List MemPlace)
    (hval : ∀ (j : Nat) t v, Try.f8.params[j]? = some t → args[j]? = some v → Value.okWide Try.prog W .any base t v)
    (hW : DataW.Whole enc Try.prog Try.f8.params.toList Rows.clockSetSpec.vars false W args.toList ds gs before) :
    Calls Try.prog 8 args W fun e W' => ∃ v, e = .returned v ∧ Rows.clockSetSpec.post enc Try.prog Try.f8 false true false false W args v W' := by
  have hW' := hW
  obtain ⟨p, q, hA0, hV, rfl, hfz, hnd⟩ := hW
  have hA : DataW.TrodAll enc Try.prog W 0 (fun _ => true) true Try.f8.params.toList args.toList ds p := hA0
  rw [Try.params8] at hA hval
  obtain ⟨v0, vs0, d0, ds0, p0, q0, hargs, rfl, rfl, h0, r0⟩ := trodAll_cons hA
  obtain ⟨v1, vs1, d1, ds1, p1, q1, rfl, rfl, rfl, h1, r1⟩ := trodAll_cons r0
  obtain ⟨v2, vs2, d2, ds2, p2, q2, rfl, rfl, rfl, h2, r2⟩ := trodAll_cons r1
  obtain ⟨rfl, rfl, rfl⟩ := trodAll_nil r2
  obtain rfl : args = #[v0, v1, v2] := Array.toList_inj.1 hargs
  obtain ⟨rfl, rfl⟩ := trodVars_none hV
  obtain ⟨cs, ce, cd, rfl, rfl, rfl, ics, ice, icd⟩ := open_clock (hval 0 23 v0 rfl rfl) h0
  obtain ⟨r, rfl, rfl, rfl, wr⟩ := open_int Try.underlying3 (hval 1 3 v1 rfl rfl) h1
  obtain ⟨tf, tu, rfl, rfl, rfl, itf, itu⟩ := open_span (hval 2 25 v2 rfl rfl) h2
  clear hA0
  refine (walk cs (wf_i ics) ce (wf_i ice) cd (wf_i icd) r (wf_i wr) tf (wf_i itf) tu (wf_i itu) W).mono fun e W' ⟨he, bel⟩ => ?_
  subst he
  exact ⟨_, rfl, _, _, _, [], _, [], hW', trodAll_mk1 (shut_bool Try.underlying4 _), (trodAll_cons_mk (shut_clock ics ice icd) (trodAll_cons_mk (shut_int Try.underlying3 wr) (trodAll_cons_mk (shut_span itf itu) trodAll_mk0))), rfl, bel.frame _, fun h => by cases h⟩

theorem reads (os : Os) {H : Type} (enc : TypeId × Value → H) : ∃ places, DataW.whole enc Try.prog ((laidWorld os).forCall (fun _ _ => 0) ⟨#[], #[.agg #[.int .i64 0, .int .i64 0, .int .i64 0], .int .i64 0, .agg #[.int .i64 0, .int .i64 0]], []⟩).memory Try.f8.params.toList Rows.clockSetSpec.vars false (#[.agg #[.int .i64 0, .int .i64 0, .int .i64 0], .int .i64 0, .agg #[.int .i64 0, .int .i64 0]] : Array Value).toList 8 = some ([.agg [.lit (.int .i64 0), .lit (.int .i64 0), .lit (.int .i64 0)], .lit (.int .i64 0), .agg [.lit (.int .i64 0), .lit (.int .i64 0)]], [], places) :=
  ⟨[], by kernel_rfl⟩

set_option maxRecDepth 100000 in
theorem lifted (os : Os) (started : os.Started) (H : Type) (enc : TypeId × Value → H) (F : Stop.Interp) :
    ReturnsInHanded {} Try.checked os 8 .any ((OpenSpec.ofChange Rows.clockSetSpec).preRow enc Try.prog Try.f8 Rows.clockSetRow.domain false Rows.clockSetRow.laid) (((OpenSpec.ofChange Rows.clockSetSpec).at F).post enc Try.prog Try.f8 false true false false) := by
  obtain ⟨places, hx⟩ := reads os enc
  refine returnsInHanded_of_row (C := Try.checked) (s := OpenSpec.ofChange Rows.clockSetSpec) own started (by kernel_rfl) Try.func8
    (witness_row_atRef (enc := enc) (C := Try.checked) false (laidWorld os) #[.agg #[.int .i64 0, .int .i64 0, .int .i64 0], .int .i64 0, .agg #[.int .i64 0, .int .i64 0]] rfl (by kernel_rfl) (by kernel_rfl) (by kernel_rfl)
      (OpenSpec.preRow_of_cond 8 hx (by kernel_rfl) (fun k hk => by cases hk) (by kernel_rfl) (laidWorld_met os _))) ?_
  intro W base args ds gs before hval hW _ hcond _ hL hsh _
  exact contract H enc W base args ds gs before hval hW

/-- The statement. -/
theorem said : Rows.ClockSetSaid :=
  OpenClaim.holds_of_cond 8 Try.f8 rfl rfl rfl rfl rfl rfl rfl ⟨rfl, rfl, rfl, rfl, rfl⟩ rfl rfl rfl rfl rfl (by kernel_rfl) Try.func8 (by kernel_rfl)
    (of_decide_eq_true (by kernel_rfl)) (by unfold Func.isWrapper; first | (rw [if_pos (by decide +kernel)]; kernel_rfl) | (rw [if_neg (by decide +kernel)]; exact ⟨rfl, rfl⟩))
    (fun os started H enc _ F => by rw [OpenClaim.pre_eq_preRow]; exact lifted os started H enc F)
end Go.Proofs.Ytnjhepkfjohdnaa.clockSet
