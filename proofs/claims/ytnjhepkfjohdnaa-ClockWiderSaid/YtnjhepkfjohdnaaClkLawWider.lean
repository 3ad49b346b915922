/-
  ClockWider: what is sure by a clock that may differ more is sure by one that may differ less.
  Conditions: none besides the row's.
-/
import Derived.Test.YtnjhepkfjohdnaaClkM
import Derived.Test.YtnjhepkfjohdnaaRows
import Derived.ProofKit
import Derived.OpenShut
import Derived.Deep.DeepHandedRow
import Derived.Deep.DeepWitnessRowRef
import Derived.MakeChecks
namespace Go.Proofs.Ytnjhepkfjohdnaa.clockWider
open Go.RowKit Go.Sort
open Go.RowKit (Below)
set_option linter.unusedVariables false
set_option linter.unusedSimpArgs false
set_option maxRecDepth 100000 in
set_option maxHeartbeats 1000000 in
theorem no1 (ks : Int) (iks : I64 ks) (ke : Int) (ike : I64 ke) (kd : Int) (ikd : I64 kd) (ms : Int) (ims : I64 ms) (me : Int) (ime : I64 me) (md : Int) (imd : I64 md) (r : Int) (ir : I64 r) (t : Int) (it : I64 t) (cs : Int) (ics : I64 cs) (ce : Int) (ice : I64 ce) (cd : Int) (icd : I64 cd) (z : Int) (iz : I64 z) (w : World) (h1 : rds ks ke kd r = false) :
    Calls Try.prog 9 #[.agg #[.int .i64 ks, .int .i64 ke, .int .i64 kd], .agg #[.int .i64 ms, .int .i64 me, .int .i64 md], .int .i64 r, .int .i64 t, .agg #[.int .i64 cs, .int .i64 ce, .int .i64 cd], .int .i64 z] w fun e w' => e = .returned (.bool true) ∧ Below w.heap.size w w' := by
  have H1 := Lib.hid h1
  clear h1
  go_enter Try.func9, Try.ntmps9
  go_wp2_with fail
  have k0 : World.cell? (((w.alloc (.cells #[.int .i64 ks, .int .i64 ke, .int .i64 kd] 23)).alloc (.cells #[.int .i64 ms, .int .i64 me, .int .i64 md] 23)).alloc (.cells #[.int .i64 cs, .int .i64 ce, .int .i64 cd] 23)) ⟨w.heap.size, 0, none⟩ = some (.int .i64 ks) := by simp [go_sem]
  have k1 : World.cell? (((w.alloc (.cells #[.int .i64 ks, .int .i64 ke, .int .i64 kd] 23)).alloc (.cells #[.int .i64 ms, .int .i64 me, .int .i64 md] 23)).alloc (.cells #[.int .i64 cs, .int .i64 ce, .int .i64 cd] 23)) ⟨w.heap.size, 1, none⟩ = some (.int .i64 ke) := by simp [go_sem]
  have k2 : World.cell? (((w.alloc (.cells #[.int .i64 ks, .int .i64 ke, .int .i64 kd] 23)).alloc (.cells #[.int .i64 ms, .int .i64 me, .int .i64 md] 23)).alloc (.cells #[.int .i64 cs, .int .i64 ce, .int .i64 cd] 23)) ⟨w.heap.size, 2, none⟩ = some (.int .i64 kd) := by simp [go_sem]
  have m0 : World.cell? (((w.alloc (.cells #[.int .i64 ks, .int .i64 ke, .int .i64 kd] 23)).alloc (.cells #[.int .i64 ms, .int .i64 me, .int .i64 md] 23)).alloc (.cells #[.int .i64 cs, .int .i64 ce, .int .i64 cd] 23)) ⟨w.heap.size + 1, 0, none⟩ = some (.int .i64 ms) := by simp [go_sem]
  have m1 : World.cell? (((w.alloc (.cells #[.int .i64 ks, .int .i64 ke, .int .i64 kd] 23)).alloc (.cells #[.int .i64 ms, .int .i64 me, .int .i64 md] 23)).alloc (.cells #[.int .i64 cs, .int .i64 ce, .int .i64 cd] 23)) ⟨w.heap.size + 1, 1, none⟩ = some (.int .i64 me) := by simp [go_sem]
  have m2 : World.cell? (((w.alloc (.cells #[.int .i64 ks, .int .i64 ke, .int .i64 kd] 23)).alloc (.cells #[.int .i64 ms, .int .i64 me, .int .i64 md] 23)).alloc (.cells #[.int .i64 cs, .int .i64 ce, .int .i64 cd] 23)) ⟨w.heap.size + 1, 2, none⟩ = some (.int .i64 md) := by simp [go_sem]
  have c0 : World.cell? (((w.alloc (.cells #[.int .i64 ks, .int .i64 ke, .int .i64 kd] 23)).alloc (.cells #[.int .i64 ms, .int .i64 me, .int .i64 md] 23)).alloc (.cells #[.int .i64 cs, .int .i64 ce, .int .i64 cd] 23)) ⟨w.heap.size + 1 + 1, 0, none⟩ = some (.int .i64 cs) := by simp [go_sem]
  have c1 : World.cell? (((w.alloc (.cells #[.int .i64 ks, .int .i64 ke, .int .i64 kd] 23)).alloc (.cells #[.int .i64 ms, .int .i64 me, .int .i64 md] 23)).alloc (.cells #[.int .i64 cs, .int .i64 ce, .int .i64 cd] 23)) ⟨w.heap.size + 1 + 1, 1, none⟩ = some (.int .i64 ce) := by simp [go_sem]
  have c2 : World.cell? (((w.alloc (.cells #[.int .i64 ks, .int .i64 ke, .int .i64 kd] 23)).alloc (.cells #[.int .i64 ms, .int .i64 me, .int .i64 md] 23)).alloc (.cells #[.int .i64 cs, .int .i64 ce, .int .i64 cd] 23)) ⟨w.heap.size + 1 + 1, 2, none⟩ = some (.int .i64 cd) := by simp [go_sem]
  have gk : w.heap.size < (((w.alloc (.cells #[.int .i64 ks, .int .i64 ke, .int .i64 kd] 23)).alloc (.cells #[.int .i64 ms, .int .i64 me, .int .i64 md] 23)).alloc (.cells #[.int .i64 cs, .int .i64 ce, .int .i64 cd] 23)).heap.size := by simp <;> omega
  have gm : w.heap.size + 1 < (((w.alloc (.cells #[.int .i64 ks, .int .i64 ke, .int .i64 kd] 23)).alloc (.cells #[.int .i64 ms, .int .i64 me, .int .i64 md] 23)).alloc (.cells #[.int .i64 cs, .int .i64 ce, .int .i64 cd] 23)).heap.size := by simp <;> omega
  have gc : w.heap.size + 1 + 1 < (((w.alloc (.cells #[.int .i64 ks, .int .i64 ke, .int .i64 kd] 23)).alloc (.cells #[.int .i64 ms, .int .i64 me, .int .i64 md] 23)).alloc (.cells #[.int .i64 cs, .int .i64 ce, .int .i64 cd] 23)).heap.size := by simp <;> omega
  have B := Lib.hid (show Below w.heap.size w (((w.alloc (.cells #[.int .i64 ks, .int .i64 ke, .int .i64 kd] 23)).alloc (.cells #[.int .i64 ms, .int .i64 me, .int .i64 md] 23)).alloc (.cells #[.int .i64 cs, .int .i64 ce, .int .i64 cd] 23)) from ((((Below.refl _ _).alloc (by simp; try omega) _).alloc (by simp; try omega) _).alloc (by simp; try omega) _))
  generalize ((w.alloc (.cells #[.int .i64 ks, .int .i64 ke, .int .i64 kd] 23)).alloc (.cells #[.int .i64 ms, .int .i64 me, .int .i64 md] 23)).alloc (.cells #[.int .i64 cs, .int .i64 ce, .int .i64 cd] 23) = V1 at *
  refine (head_any _).mono ?_
  rintro e' w2 ⟨rfl, hb⟩
  replace B := Lib.hid (on_below B.out hb)
  replace k0 := keepc hb k0
  replace k1 := keepc hb k1
  replace k2 := keepc hb k2
  replace m0 := keepc hb m0
  replace m1 := keepc hb m1
  replace m2 := keepc hb m2
  replace c0 := keepc hb c0
  replace c1 := keepc hb c1
  replace c2 := keepc hb c2
  replace gk := Nat.lt_of_lt_of_le gk hb.size
  replace gm := Nat.lt_of_lt_of_le gm hb.size
  replace gc := Nat.lt_of_lt_of_le gc hb.size
  clear hb
  go_wp2_with fail
  have b0 : World.cell? (w2.alloc (.cells #[.int .i64 ks, .int .i64 me, .int .i64 md] 23)) ⟨w2.heap.size, 0, none⟩ = some (.int .i64 ks) := by simp [go_sem]
  have b1 : World.cell? (w2.alloc (.cells #[.int .i64 ks, .int .i64 me, .int .i64 md] 23)) ⟨w2.heap.size, 1, none⟩ = some (.int .i64 me) := by simp [go_sem]
  have b2 : World.cell? (w2.alloc (.cells #[.int .i64 ks, .int .i64 me, .int .i64 md] 23)) ⟨w2.heap.size, 2, none⟩ = some (.int .i64 md) := by simp [go_sem]
  have gb : w2.heap.size < (w2.alloc (.cells #[.int .i64 ks, .int .i64 me, .int .i64 md] 23)).heap.size := by simp <;> omega
  have hb : Below w2.heap.size w2 (w2.alloc (.cells #[.int .i64 ks, .int .i64 me, .int .i64 md] 23)) := ((Below.refl _ _).alloc (by simp; try omega) _)
  generalize w2.alloc (.cells #[.int .i64 ks, .int .i64 me, .int .i64 md] 23) = V3 at *
  replace B := Lib.hid (on_below B.out hb)
  replace k0 := keepc hb k0
  replace k1 := keepc hb k1
  replace k2 := keepc hb k2
  replace m0 := keepc hb m0
  replace m1 := keepc hb m1
  replace m2 := keepc hb m2
  replace c0 := keepc hb c0
  replace c1 := keepc hb c1
  replace c2 := keepc hb c2
  replace gk := Nat.lt_of_lt_of_le gk hb.size
  replace gm := Nat.lt_of_lt_of_le gm hb.size
  replace gc := Nat.lt_of_lt_of_le gc hb.size
  clear hb
  refine (reads_b ks ke kd r _ H1.out _).mono ?_
  rintro e' w4 ⟨rfl, hb⟩
  replace B := Lib.hid (on_below B.out hb)
  replace k0 := keepc hb k0
  replace k1 := keepc hb k1
  replace k2 := keepc hb k2
  replace m0 := keepc hb m0
  replace m1 := keepc hb m1
  replace m2 := keepc hb m2
  replace c0 := keepc hb c0
  replace c1 := keepc hb c1
  replace c2 := keepc hb c2
  replace b0 := keepc hb b0
  replace b1 := keepc hb b1
  replace b2 := keepc hb b2
  replace gk := Nat.lt_of_lt_of_le gk hb.size
  replace gm := Nat.lt_of_lt_of_le gm hb.size
  replace gc := Nat.lt_of_lt_of_le gc hb.size
  replace gb := Nat.lt_of_lt_of_le gb hb.size
  clear hb
  go_wp2_with fail
  all_goals go_ret
  all_goals exact ⟨rfl, B.out⟩
set_option maxRecDepth 100000 in
set_option maxHeartbeats 1000000 in
theorem no2 (ks : Int) (iks : I64 ks) (ke : Int) (ike : I64 ke) (kd : Int) (ikd : I64 kd) (ms : Int) (ims : I64 ms) (me : Int) (ime : I64 me) (md : Int) (imd : I64 md) (r : Int) (ir : I64 r) (t : Int) (it : I64 t) (cs : Int) (ics : I64 cs) (ce : Int) (ice : I64 ce) (cd : Int) (icd : I64 cd) (z : Int) (iz : I64 z) (w : World) (h1 : rds ks ke kd r = true) (h2 : rds ks me md r = false) :
    Calls Try.prog 9 #[.agg #[.int .i64 ks, .int .i64 ke, .int .i64 kd], .agg #[.int .i64 ms, .int .i64 me, .int .i64 md], .int .i64 r, .int .i64 t, .agg #[.int .i64 cs, .int .i64 ce, .int .i64 cd], .int .i64 z] w fun e w' => e = .returned (.bool true) ∧ Below w.heap.size w w' := by
  have H1 := Lib.hid h1
  clear h1
  have H2 := Lib.hid h2
  clear h2
  go_enter Try.func9, Try.ntmps9
  go_wp2_with fail
  have k0 : World.cell? (((w.alloc (.cells #[.int .i64 ks, .int .i64 ke, .int .i64 kd] 23)).alloc (.cells #[.int .i64 ms, .int .i64 me, .int .i64 md] 23)).alloc (.cells #[.int .i64 cs, .int .i64 ce, .int .i64 cd] 23)) ⟨w.heap.size, 0, none⟩ = some (.int .i64 ks) := by simp [go_sem]
  have k1 : World.cell? (((w.alloc (.cells #[.int .i64 ks, .int .i64 ke, .int .i64 kd] 23)).alloc (.cells #[.int .i64 ms, .int .i64 me, .int .i64 md] 23)).alloc (.cells #[.int .i64 cs, .int .i64 ce, .int .i64 cd] 23)) ⟨w.heap.size, 1, none⟩ = some (.int .i64 ke) := by simp [go_sem]
  have k2 : World.cell? (((w.alloc (.cells #[.int .i64 ks, .int .i64 ke, .int .i64 kd] 23)).alloc (.cells #[.int .i64 ms, .int .i64 me, .int .i64 md] 23)).alloc (.cells #[.int .i64 cs, .int .i64 ce, .int .i64 cd] 23)) ⟨w.heap.size, 2, none⟩ = some (.int .i64 kd) := by simp [go_sem]
  have m0 : World.cell? (((w.alloc (.cells #[.int .i64 ks, .int .i64 ke, .int .i64 kd] 23)).alloc (.cells #[.int .i64 ms, .int .i64 me, .int .i64 md] 23)).alloc (.cells #[.int .i64 cs, .int .i64 ce, .int .i64 cd] 23)) ⟨w.heap.size + 1, 0, none⟩ = some (.int .i64 ms) := by simp [go_sem]
  have m1 : World.cell? (((w.alloc (.cells #[.int .i64 ks, .int .i64 ke, .int .i64 kd] 23)).alloc (.cells #[.int .i64 ms, .int .i64 me, .int .i64 md] 23)).alloc (.cells #[.int .i64 cs, .int .i64 ce, .int .i64 cd] 23)) ⟨w.heap.size + 1, 1, none⟩ = some (.int .i64 me) := by simp [go_sem]
  have m2 : World.cell? (((w.alloc (.cells #[.int .i64 ks, .int .i64 ke, .int .i64 kd] 23)).alloc (.cells #[.int .i64 ms, .int .i64 me, .int .i64 md] 23)).alloc (.cells #[.int .i64 cs, .int .i64 ce, .int .i64 cd] 23)) ⟨w.heap.size + 1, 2, none⟩ = some (.int .i64 md) := by simp [go_sem]
  have c0 : World.cell? (((w.alloc (.cells #[.int .i64 ks, .int .i64 ke, .int .i64 kd] 23)).alloc (.cells #[.int .i64 ms, .int .i64 me, .int .i64 md] 23)).alloc (.cells #[.int .i64 cs, .int .i64 ce, .int .i64 cd] 23)) ⟨w.heap.size + 1 + 1, 0, none⟩ = some (.int .i64 cs) := by simp [go_sem]
  have c1 : World.cell? (((w.alloc (.cells #[.int .i64 ks, .int .i64 ke, .int .i64 kd] 23)).alloc (.cells #[.int .i64 ms, .int .i64 me, .int .i64 md] 23)).alloc (.cells #[.int .i64 cs, .int .i64 ce, .int .i64 cd] 23)) ⟨w.heap.size + 1 + 1, 1, none⟩ = some (.int .i64 ce) := by simp [go_sem]
  have c2 : World.cell? (((w.alloc (.cells #[.int .i64 ks, .int .i64 ke, .int .i64 kd] 23)).alloc (.cells #[.int .i64 ms, .int .i64 me, .int .i64 md] 23)).alloc (.cells #[.int .i64 cs, .int .i64 ce, .int .i64 cd] 23)) ⟨w.heap.size + 1 + 1, 2, none⟩ = some (.int .i64 cd) := by simp [go_sem]
  have gk : w.heap.size < (((w.alloc (.cells #[.int .i64 ks, .int .i64 ke, .int .i64 kd] 23)).alloc (.cells #[.int .i64 ms, .int .i64 me, .int .i64 md] 23)).alloc (.cells #[.int .i64 cs, .int .i64 ce, .int .i64 cd] 23)).heap.size := by simp <;> omega
  have gm : w.heap.size + 1 < (((w.alloc (.cells #[.int .i64 ks, .int .i64 ke, .int .i64 kd] 23)).alloc (.cells #[.int .i64 ms, .int .i64 me, .int .i64 md] 23)).alloc (.cells #[.int .i64 cs, .int .i64 ce, .int .i64 cd] 23)).heap.size := by simp <;> omega
  have gc : w.heap.size + 1 + 1 < (((w.alloc (.cells #[.int .i64 ks, .int .i64 ke, .int .i64 kd] 23)).alloc (.cells #[.int .i64 ms, .int .i64 me, .int .i64 md] 23)).alloc (.cells #[.int .i64 cs, .int .i64 ce, .int .i64 cd] 23)).heap.size := by simp <;> omega
  have B := Lib.hid (show Below w.heap.size w (((w.alloc (.cells #[.int .i64 ks, .int .i64 ke, .int .i64 kd] 23)).alloc (.cells #[.int .i64 ms, .int .i64 me, .int .i64 md] 23)).alloc (.cells #[.int .i64 cs, .int .i64 ce, .int .i64 cd] 23)) from ((((Below.refl _ _).alloc (by simp; try omega) _).alloc (by simp; try omega) _).alloc (by simp; try omega) _))
  generalize ((w.alloc (.cells #[.int .i64 ks, .int .i64 ke, .int .i64 kd] 23)).alloc (.cells #[.int .i64 ms, .int .i64 me, .int .i64 md] 23)).alloc (.cells #[.int .i64 cs, .int .i64 ce, .int .i64 cd] 23) = V1 at *
  refine (head_any _).mono ?_
  rintro e' w2 ⟨rfl, hb⟩
  replace B := Lib.hid (on_below B.out hb)
  replace k0 := keepc hb k0
  replace k1 := keepc hb k1
  replace k2 := keepc hb k2
  replace m0 := keepc hb m0
  replace m1 := keepc hb m1
  replace m2 := keepc hb m2
  replace c0 := keepc hb c0
  replace c1 := keepc hb c1
  replace c2 := keepc hb c2
  replace gk := Nat.lt_of_lt_of_le gk hb.size
  replace gm := Nat.lt_of_lt_of_le gm hb.size
  replace gc := Nat.lt_of_lt_of_le gc hb.size
  clear hb
  go_wp2_with fail
  have b0 : World.cell? (w2.alloc (.cells #[.int .i64 ks, .int .i64 me, .int .i64 md] 23)) ⟨w2.heap.size, 0, none⟩ = some (.int .i64 ks) := by simp [go_sem]
  have b1 : World.cell? (w2.alloc (.cells #[.int .i64 ks, .int .i64 me, .int .i64 md] 23)) ⟨w2.heap.size, 1, none⟩ = some (.int .i64 me) := by simp [go_sem]
  have b2 : World.cell? (w2.alloc (.cells #[.int .i64 ks, .int .i64 me, .int .i64 md] 23)) ⟨w2.heap.size, 2, none⟩ = some (.int .i64 md) := by simp [go_sem]
  have gb : w2.heap.size < (w2.alloc (.cells #[.int .i64 ks, .int .i64 me, .int .i64 md] 23)).heap.size := by simp <;> omega
  have hb : Below w2.heap.size w2 (w2.alloc (.cells #[.int .i64 ks, .int .i64 me, .int .i64 md] 23)) := ((Below.refl _ _).alloc (by simp; try omega) _)
  generalize w2.alloc (.cells #[.int .i64 ks, .int .i64 me, .int .i64 md] 23) = V3 at *
  replace B := Lib.hid (on_below B.out hb)
  replace k0 := keepc hb k0
  replace k1 := keepc hb k1
  replace k2 := keepc hb k2
  replace m0 := keepc hb m0
  replace m1 := keepc hb m1
  replace m2 := keepc hb m2
  replace c0 := keepc hb c0
  replace c1 := keepc hb c1
  replace c2 := keepc hb c2
  replace gk := Nat.lt_of_lt_of_le gk hb.size
  replace gm := Nat.lt_of_lt_of_le gm hb.size
  replace gc := Nat.lt_of_lt_of_le gc hb.size
  clear hb
  refine (reads_b ks ke kd r _ H1.out _).mono ?_
  rintro e' w4 ⟨rfl, hb⟩
  replace B := Lib.hid (on_below B.out hb)
  replace k0 := keepc hb k0
  replace k1 := keepc hb k1
  replace k2 := keepc hb k2
  replace m0 := keepc hb m0
  replace m1 := keepc hb m1
  replace m2 := keepc hb m2
  replace c0 := keepc hb c0
  replace c1 := keepc hb c1
  replace c2 := keepc hb c2
  replace b0 := keepc hb b0
  replace b1 := keepc hb b1
  replace b2 := keepc hb b2
  replace gk := Nat.lt_of_lt_of_le gk hb.size
  replace gm := Nat.lt_of_lt_of_le gm hb.size
  replace gc := Nat.lt_of_lt_of_le gc hb.size
  replace gb := Nat.lt_of_lt_of_le gb hb.size
  clear hb
  go_wp2_with fail
  refine (reads_b ks me md r _ H2.out _).mono ?_
  rintro e' w5 ⟨rfl, hb⟩
  replace B := Lib.hid (on_below B.out hb)
  replace k0 := keepc hb k0
  replace k1 := keepc hb k1
  replace k2 := keepc hb k2
  replace m0 := keepc hb m0
  replace m1 := keepc hb m1
  replace m2 := keepc hb m2
  replace c0 := keepc hb c0
  replace c1 := keepc hb c1
  replace c2 := keepc hb c2
  replace b0 := keepc hb b0
  replace b1 := keepc hb b1
  replace b2 := keepc hb b2
  replace gk := Nat.lt_of_lt_of_le gk hb.size
  replace gm := Nat.lt_of_lt_of_le gm hb.size
  replace gc := Nat.lt_of_lt_of_le gc hb.size
  replace gb := Nat.lt_of_lt_of_le gb hb.size
  clear hb
  go_wp2_with fail
  all_goals go_ret
  all_goals exact ⟨rfl, B.out⟩
set_option maxRecDepth 100000 in
set_option maxHeartbeats 1000000 in
theorem no3 (ks : Int) (iks : I64 ks) (ke : Int) (ike : I64 ke) (kd : Int) (ikd : I64 kd) (ms : Int) (ims : I64 ms) (me : Int) (ime : I64 me) (md : Int) (imd : I64 md) (r : Int) (ir : I64 r) (t : Int) (it : I64 t) (cs : Int) (ics : I64 cs) (ce : Int) (ice : I64 ce) (cd : Int) (icd : I64 cd) (z : Int) (iz : I64 z) (w : World) (h1 : rds ks ke kd r = true) (h2 : rds ks me md r = true) (hx : me < ke) :
    Calls Try.prog 9 #[.agg #[.int .i64 ks, .int .i64 ke, .int .i64 kd], .agg #[.int .i64 ms, .int .i64 me, .int .i64 md], .int .i64 r, .int .i64 t, .agg #[.int .i64 cs, .int .i64 ce, .int .i64 cd], .int .i64 z] w fun e w' => e = .returned (.bool true) ∧ Below w.heap.size w w' := by
  have H1 := Lib.hid h1
  clear h1
  have H2 := Lib.hid h2
  clear h2
  go_enter Try.func9, Try.ntmps9
  go_wp2_with fail
  have k0 : World.cell? (((w.alloc (.cells #[.int .i64 ks, .int .i64 ke, .int .i64 kd] 23)).alloc (.cells #[.int .i64 ms, .int .i64 me, .int .i64 md] 23)).alloc (.cells #[.int .i64 cs, .int .i64 ce, .int .i64 cd] 23)) ⟨w.heap.size, 0, none⟩ = some (.int .i64 ks) := by simp [go_sem]
  have k1 : World.cell? (((w.alloc (.cells #[.int .i64 ks, .int .i64 ke, .int .i64 kd] 23)).alloc (.cells #[.int .i64 ms, .int .i64 me, .int .i64 md] 23)).alloc (.cells #[.int .i64 cs, .int .i64 ce, .int .i64 cd] 23)) ⟨w.heap.size, 1, none⟩ = some (.int .i64 ke) := by simp [go_sem]
  have k2 : World.cell? (((w.alloc (.cells #[.int .i64 ks, .int .i64 ke, .int .i64 kd] 23)).alloc (.cells #[.int .i64 ms, .int .i64 me, .int .i64 md] 23)).alloc (.cells #[.int .i64 cs, .int .i64 ce, .int .i64 cd] 23)) ⟨w.heap.size, 2, none⟩ = some (.int .i64 kd) := by simp [go_sem]
  have m0 : World.cell? (((w.alloc (.cells #[.int .i64 ks, .int .i64 ke, .int .i64 kd] 23)).alloc (.cells #[.int .i64 ms, .int .i64 me, .int .i64 md] 23)).alloc (.cells #[.int .i64 cs, .int .i64 ce, .int .i64 cd] 23)) ⟨w.heap.size + 1, 0, none⟩ = some (.int .i64 ms) := by simp [go_sem]
  have m1 : World.cell? (((w.alloc (.cells #[.int .i64 ks, .int .i64 ke, .int .i64 kd] 23)).alloc (.cells #[.int .i64 ms, .int .i64 me, .int .i64 md] 23)).alloc (.cells #[.int .i64 cs, .int .i64 ce, .int .i64 cd] 23)) ⟨w.heap.size + 1, 1, none⟩ = some (.int .i64 me) := by simp [go_sem]
  have m2 : World.cell? (((w.alloc (.cells #[.int .i64 ks, .int .i64 ke, .int .i64 kd] 23)).alloc (.cells #[.int .i64 ms, .int .i64 me, .int .i64 md] 23)).alloc (.cells #[.int .i64 cs, .int .i64 ce, .int .i64 cd] 23)) ⟨w.heap.size + 1, 2, none⟩ = some (.int .i64 md) := by simp [go_sem]
  have c0 : World.cell? (((w.alloc (.cells #[.int .i64 ks, .int .i64 ke, .int .i64 kd] 23)).alloc (.cells #[.int .i64 ms, .int .i64 me, .int .i64 md] 23)).alloc (.cells #[.int .i64 cs, .int .i64 ce, .int .i64 cd] 23)) ⟨w.heap.size + 1 + 1, 0, none⟩ = some (.int .i64 cs) := by simp [go_sem]
  have c1 : World.cell? (((w.alloc (.cells #[.int .i64 ks, .int .i64 ke, .int .i64 kd] 23)).alloc (.cells #[.int .i64 ms, .int .i64 me, .int .i64 md] 23)).alloc (.cells #[.int .i64 cs, .int .i64 ce, .int .i64 cd] 23)) ⟨w.heap.size + 1 + 1, 1, none⟩ = some (.int .i64 ce) := by simp [go_sem]
  have c2 : World.cell? (((w.alloc (.cells #[.int .i64 ks, .int .i64 ke, .int .i64 kd] 23)).alloc (.cells #[.int .i64 ms, .int .i64 me, .int .i64 md] 23)).alloc (.cells #[.int .i64 cs, .int .i64 ce, .int .i64 cd] 23)) ⟨w.heap.size + 1 + 1, 2, none⟩ = some (.int .i64 cd) := by simp [go_sem]
  have gk : w.heap.size < (((w.alloc (.cells #[.int .i64 ks, .int .i64 ke, .int .i64 kd] 23)).alloc (.cells #[.int .i64 ms, .int .i64 me, .int .i64 md] 23)).alloc (.cells #[.int .i64 cs, .int .i64 ce, .int .i64 cd] 23)).heap.size := by simp <;> omega
  have gm : w.heap.size + 1 < (((w.alloc (.cells #[.int .i64 ks, .int .i64 ke, .int .i64 kd] 23)).alloc (.cells #[.int .i64 ms, .int .i64 me, .int .i64 md] 23)).alloc (.cells #[.int .i64 cs, .int .i64 ce, .int .i64 cd] 23)).heap.size := by simp <;> omega
  have gc : w.heap.size + 1 + 1 < (((w.alloc (.cells #[.int .i64 ks, .int .i64 ke, .int .i64 kd] 23)).alloc (.cells #[.int .i64 ms, .int .i64 me, .int .i64 md] 23)).alloc (.cells #[.int .i64 cs, .int .i64 ce, .int .i64 cd] 23)).heap.size := by simp <;> omega
  have B := Lib.hid (show Below w.heap.size w (((w.alloc (.cells #[.int .i64 ks, .int .i64 ke, .int .i64 kd] 23)).alloc (.cells #[.int .i64 ms, .int .i64 me, .int .i64 md] 23)).alloc (.cells #[.int .i64 cs, .int .i64 ce, .int .i64 cd] 23)) from ((((Below.refl _ _).alloc (by simp; try omega) _).alloc (by simp; try omega) _).alloc (by simp; try omega) _))
  generalize ((w.alloc (.cells #[.int .i64 ks, .int .i64 ke, .int .i64 kd] 23)).alloc (.cells #[.int .i64 ms, .int .i64 me, .int .i64 md] 23)).alloc (.cells #[.int .i64 cs, .int .i64 ce, .int .i64 cd] 23) = V1 at *
  refine (head_any _).mono ?_
  rintro e' w2 ⟨rfl, hb⟩
  replace B := Lib.hid (on_below B.out hb)
  replace k0 := keepc hb k0
  replace k1 := keepc hb k1
  replace k2 := keepc hb k2
  replace m0 := keepc hb m0
  replace m1 := keepc hb m1
  replace m2 := keepc hb m2
  replace c0 := keepc hb c0
  replace c1 := keepc hb c1
  replace c2 := keepc hb c2
  replace gk := Nat.lt_of_lt_of_le gk hb.size
  replace gm := Nat.lt_of_lt_of_le gm hb.size
  replace gc := Nat.lt_of_lt_of_le gc hb.size
  clear hb
  go_wp2_with fail
  have b0 : World.cell? (w2.alloc (.cells #[.int .i64 ks, .int .i64 me, .int .i64 md] 23)) ⟨w2.heap.size, 0, none⟩ = some (.int .i64 ks) := by simp [go_sem]
  have b1 : World.cell? (w2.alloc (.cells #[.int .i64 ks, .int .i64 me, .int .i64 md] 23)) ⟨w2.heap.size, 1, none⟩ = some (.int .i64 me) := by simp [go_sem]
  have b2 : World.cell? (w2.alloc (.cells #[.int .i64 ks, .int .i64 me, .int .i64 md] 23)) ⟨w2.heap.size, 2, none⟩ = some (.int .i64 md) := by simp [go_sem]
  have gb : w2.heap.size < (w2.alloc (.cells #[.int .i64 ks, .int .i64 me, .int .i64 md] 23)).heap.size := by simp <;> omega
  have hb : Below w2.heap.size w2 (w2.alloc (.cells #[.int .i64 ks, .int .i64 me, .int .i64 md] 23)) := ((Below.refl _ _).alloc (by simp; try omega) _)
  generalize w2.alloc (.cells #[.int .i64 ks, .int .i64 me, .int .i64 md] 23) = V3 at *
  replace B := Lib.hid (on_below B.out hb)
  replace k0 := keepc hb k0
  replace k1 := keepc hb k1
  replace k2 := keepc hb k2
  replace m0 := keepc hb m0
  replace m1 := keepc hb m1
  replace m2 := keepc hb m2
  replace c0 := keepc hb c0
  replace c1 := keepc hb c1
  replace c2 := keepc hb c2
  replace gk := Nat.lt_of_lt_of_le gk hb.size
  replace gm := Nat.lt_of_lt_of_le gm hb.size
  replace gc := Nat.lt_of_lt_of_le gc hb.size
  clear hb
  refine (reads_b ks ke kd r _ H1.out _).mono ?_
  rintro e' w4 ⟨rfl, hb⟩
  replace B := Lib.hid (on_below B.out hb)
  replace k0 := keepc hb k0
  replace k1 := keepc hb k1
  replace k2 := keepc hb k2
  replace m0 := keepc hb m0
  replace m1 := keepc hb m1
  replace m2 := keepc hb m2
  replace c0 := keepc hb c0
  replace c1 := keepc hb c1
  replace c2 := keepc hb c2
  replace b0 := keepc hb b0
  replace b1 := keepc hb b1
  replace b2 := keepc hb b2
  replace gk := Nat.lt_of_lt_of_le gk hb.size
  replace gm := Nat.lt_of_lt_of_le gm hb.size
  replace gc := Nat.lt_of_lt_of_le gc hb.size
  replace gb := Nat.lt_of_lt_of_le gb hb.size
  clear hb
  go_wp2_with fail
  refine (reads_b ks me md r _ H2.out _).mono ?_
  rintro e' w5 ⟨rfl, hb⟩
  replace B := Lib.hid (on_below B.out hb)
  replace k0 := keepc hb k0
  replace k1 := keepc hb k1
  replace k2 := keepc hb k2
  replace m0 := keepc hb m0
  replace m1 := keepc hb m1
  replace m2 := keepc hb m2
  replace c0 := keepc hb c0
  replace c1 := keepc hb c1
  replace c2 := keepc hb c2
  replace b0 := keepc hb b0
  replace b1 := keepc hb b1
  replace b2 := keepc hb b2
  replace gk := Nat.lt_of_lt_of_le gk hb.size
  replace gm := Nat.lt_of_lt_of_le gm hb.size
  replace gc := Nat.lt_of_lt_of_le gc hb.size
  replace gb := Nat.lt_of_lt_of_le gb hb.size
  clear hb
  go_wp2_with fail
  all_goals go_ret
  all_goals exact ⟨rfl, B.out⟩
set_option maxRecDepth 100000 in
set_option maxHeartbeats 1000000 in
theorem no4 (ks : Int) (iks : I64 ks) (ke : Int) (ike : I64 ke) (kd : Int) (ikd : I64 kd) (ms : Int) (ims : I64 ms) (me : Int) (ime : I64 me) (md : Int) (imd : I64 md) (r : Int) (ir : I64 r) (t : Int) (it : I64 t) (cs : Int) (ics : I64 cs) (ce : Int) (ice : I64 ce) (cd : Int) (icd : I64 cd) (z : Int) (iz : I64 z) (w : World) (h1 : rds ks ke kd r = true) (h2 : rds ks me md r = true) (hx : ke ≤ me) (hy : md < kd) :
    Calls Try.prog 9 #[.agg #[.int .i64 ks, .int .i64 ke, .int .i64 kd], .agg #[.int .i64 ms, .int .i64 me, .int .i64 md], .int .i64 r, .int .i64 t, .agg #[.int .i64 cs, .int .i64 ce, .int .i64 cd], .int .i64 z] w fun e w' => e = .returned (.bool true) ∧ Below w.heap.size w w' := by
  have H1 := Lib.hid h1
  clear h1
  have H2 := Lib.hid h2
  clear h2
  go_enter Try.func9, Try.ntmps9
  go_wp2_with fail
  have k0 : World.cell? (((w.alloc (.cells #[.int .i64 ks, .int .i64 ke, .int .i64 kd] 23)).alloc (.cells #[.int .i64 ms, .int .i64 me, .int .i64 md] 23)).alloc (.cells #[.int .i64 cs, .int .i64 ce, .int .i64 cd] 23)) ⟨w.heap.size, 0, none⟩ = some (.int .i64 ks) := by simp [go_sem]
  have k1 : World.cell? (((w.alloc (.cells #[.int .i64 ks, .int .i64 ke, .int .i64 kd] 23)).alloc (.cells #[.int .i64 ms, .int .i64 me, .int .i64 md] 23)).alloc (.cells #[.int .i64 cs, .int .i64 ce, .int .i64 cd] 23)) ⟨w.heap.size, 1, none⟩ = some (.int .i64 ke) := by simp [go_sem]
  have k2 : World.cell? (((w.alloc (.cells #[.int .i64 ks, .int .i64 ke, .int .i64 kd] 23)).alloc (.cells #[.int .i64 ms, .int .i64 me, .int .i64 md] 23)).alloc (.cells #[.int .i64 cs, .int .i64 ce, .int .i64 cd] 23)) ⟨w.heap.size, 2, none⟩ = some (.int .i64 kd) := by simp [go_sem]
  have m0 : World.cell? (((w.alloc (.cells #[.int .i64 ks, .int .i64 ke, .int .i64 kd] 23)).alloc (.cells #[.int .i64 ms, .int .i64 me, .int .i64 md] 23)).alloc (.cells #[.int .i64 cs, .int .i64 ce, .int .i64 cd] 23)) ⟨w.heap.size + 1, 0, none⟩ = some (.int .i64 ms) := by simp [go_sem]
  have m1 : World.cell? (((w.alloc (.cells #[.int .i64 ks, .int .i64 ke, .int .i64 kd] 23)).alloc (.cells #[.int .i64 ms, .int .i64 me, .int .i64 md] 23)).alloc (.cells #[.int .i64 cs, .int .i64 ce, .int .i64 cd] 23)) ⟨w.heap.size + 1, 1, none⟩ = some (.int .i64 me) := by simp [go_sem]
  have m2 : World.cell? (((w.alloc (.cells #[.int .i64 ks, .int .i64 ke, .int .i64 kd] 23)).alloc (.cells #[.int .i64 ms, .int .i64 me, .int .i64 md] 23)).alloc (.cells #[.int .i64 cs, .int .i64 ce, .int .i64 cd] 23)) ⟨w.heap.size + 1, 2, none⟩ = some (.int .i64 md) := by simp [go_sem]
  have c0 : World.cell? (((w.alloc (.cells #[.int .i64 ks, .int .i64 ke, .int .i64 kd] 23)).alloc (.cells #[.int .i64 ms, .int .i64 me, .int .i64 md] 23)).alloc (.cells #[.int .i64 cs, .int .i64 ce, .int .i64 cd] 23)) ⟨w.heap.size + 1 + 1, 0, none⟩ = some (.int .i64 cs) := by simp [go_sem]
  have c1 : World.cell? (((w.alloc (.cells #[.int .i64 ks, .int .i64 ke, .int .i64 kd] 23)).alloc (.cells #[.int .i64 ms, .int .i64 me, .int .i64 md] 23)).alloc (.cells #[.int .i64 cs, .int .i64 ce, .int .i64 cd] 23)) ⟨w.heap.size + 1 + 1, 1, none⟩ = some (.int .i64 ce) := by simp [go_sem]
  have c2 : World.cell? (((w.alloc (.cells #[.int .i64 ks, .int .i64 ke, .int .i64 kd] 23)).alloc (.cells #[.int .i64 ms, .int .i64 me, .int .i64 md] 23)).alloc (.cells #[.int .i64 cs, .int .i64 ce, .int .i64 cd] 23)) ⟨w.heap.size + 1 + 1, 2, none⟩ = some (.int .i64 cd) := by simp [go_sem]
  have gk : w.heap.size < (((w.alloc (.cells #[.int .i64 ks, .int .i64 ke, .int .i64 kd] 23)).alloc (.cells #[.int .i64 ms, .int .i64 me, .int .i64 md] 23)).alloc (.cells #[.int .i64 cs, .int .i64 ce, .int .i64 cd] 23)).heap.size := by simp <;> omega
  have gm : w.heap.size + 1 < (((w.alloc (.cells #[.int .i64 ks, .int .i64 ke, .int .i64 kd] 23)).alloc (.cells #[.int .i64 ms, .int .i64 me, .int .i64 md] 23)).alloc (.cells #[.int .i64 cs, .int .i64 ce, .int .i64 cd] 23)).heap.size := by simp <;> omega
  have gc : w.heap.size + 1 + 1 < (((w.alloc (.cells #[.int .i64 ks, .int .i64 ke, .int .i64 kd] 23)).alloc (.cells #[.int .i64 ms, .int .i64 me, .int .i64 md] 23)).alloc (.cells #[.int .i64 cs, .int .i64 ce, .int .i64 cd] 23)).heap.size := by simp <;> omega
  have B := Lib.hid (show Below w.heap.size w (((w.alloc (.cells #[.int .i64 ks, .int .i64 ke, .int .i64 kd] 23)).alloc (.cells #[.int .i64 ms, .int .i64 me, .int .i64 md] 23)).alloc (.cells #[.int .i64 cs, .int .i64 ce, .int .i64 cd] 23)) from ((((Below.refl _ _).alloc (by simp; try omega) _).alloc (by simp; try omega) _).alloc (by simp; try omega) _))
  generalize ((w.alloc (.cells #[.int .i64 ks, .int .i64 ke, .int .i64 kd] 23)).alloc (.cells #[.int .i64 ms, .int .i64 me, .int .i64 md] 23)).alloc (.cells #[.int .i64 cs, .int .i64 ce, .int .i64 cd] 23) = V1 at *
  refine (head_any _).mono ?_
  rintro e' w2 ⟨rfl, hb⟩
  replace B := Lib.hid (on_below B.out hb)
  replace k0 := keepc hb k0
  replace k1 := keepc hb k1
  replace k2 := keepc hb k2
  replace m0 := keepc hb m0
  replace m1 := keepc hb m1
  replace m2 := keepc hb m2
  replace c0 := keepc hb c0
  replace c1 := keepc hb c1
  replace c2 := keepc hb c2
  replace gk := Nat.lt_of_lt_of_le gk hb.size
  replace gm := Nat.lt_of_lt_of_le gm hb.size
  replace gc := Nat.lt_of_lt_of_le gc hb.size
  clear hb
  go_wp2_with fail
  have b0 : World.cell? (w2.alloc (.cells #[.int .i64 ks, .int .i64 me, .int .i64 md] 23)) ⟨w2.heap.size, 0, none⟩ = some (.int .i64 ks) := by simp [go_sem]
  have b1 : World.cell? (w2.alloc (.cells #[.int .i64 ks, .int .i64 me, .int .i64 md] 23)) ⟨w2.heap.size, 1, none⟩ = some (.int .i64 me) := by simp [go_sem]
  have b2 : World.cell? (w2.alloc (.cells #[.int .i64 ks, .int .i64 me, .int .i64 md] 23)) ⟨w2.heap.size, 2, none⟩ = some (.int .i64 md) := by simp [go_sem]
  have gb : w2.heap.size < (w2.alloc (.cells #[.int .i64 ks, .int .i64 me, .int .i64 md] 23)).heap.size := by simp <;> omega
  have hb : Below w2.heap.size w2 (w2.alloc (.cells #[.int .i64 ks, .int .i64 me, .int .i64 md] 23)) := ((Below.refl _ _).alloc (by simp; try omega) _)
  generalize w2.alloc (.cells #[.int .i64 ks, .int .i64 me, .int .i64 md] 23) = V3 at *
  replace B := Lib.hid (on_below B.out hb)
  replace k0 := keepc hb k0
  replace k1 := keepc hb k1
  replace k2 := keepc hb k2
  replace m0 := keepc hb m0
  replace m1 := keepc hb m1
  replace m2 := keepc hb m2
  replace c0 := keepc hb c0
  replace c1 := keepc hb c1
  replace c2 := keepc hb c2
  replace gk := Nat.lt_of_lt_of_le gk hb.size
  replace gm := Nat.lt_of_lt_of_le gm hb.size
  replace gc := Nat.lt_of_lt_of_le gc hb.size
  clear hb
  refine (reads_b ks ke kd r _ H1.out _).mono ?_
  rintro e' w4 ⟨rfl, hb⟩
  replace B := Lib.hid (on_below B.out hb)
  replace k0 := keepc hb k0
  replace k1 := keepc hb k1
  replace k2 := keepc hb k2
  replace m0 := keepc hb m0
  replace m1 := keepc hb m1
  replace m2 := keepc hb m2
  replace c0 := keepc hb c0
  replace c1 := keepc hb c1
  replace c2 := keepc hb c2
  replace b0 := keepc hb b0
  replace b1 := keepc hb b1
  replace b2 := keepc hb b2
  replace gk := Nat.lt_of_lt_of_le gk hb.size
  replace gm := Nat.lt_of_lt_of_le gm hb.size
  replace gc := Nat.lt_of_lt_of_le gc hb.size
  replace gb := Nat.lt_of_lt_of_le gb hb.size
  clear hb
  go_wp2_with fail
  refine (reads_b ks me md r _ H2.out _).mono ?_
  rintro e' w5 ⟨rfl, hb⟩
  replace B := Lib.hid (on_below B.out hb)
  replace k0 := keepc hb k0
  replace k1 := keepc hb k1
  replace k2 := keepc hb k2
  replace m0 := keepc hb m0
  replace m1 := keepc hb m1
  replace m2 := keepc hb m2
  replace c0 := keepc hb c0
  replace c1 := keepc hb c1
  replace c2 := keepc hb c2
  replace b0 := keepc hb b0
  replace b1 := keepc hb b1
  replace b2 := keepc hb b2
  replace gk := Nat.lt_of_lt_of_le gk hb.size
  replace gm := Nat.lt_of_lt_of_le gm hb.size
  replace gc := Nat.lt_of_lt_of_le gc hb.size
  replace gb := Nat.lt_of_lt_of_le gb hb.size
  clear hb
  go_wp2_with fail
  all_goals go_ret
  all_goals exact ⟨rfl, B.out⟩
set_option maxRecDepth 100000 in
set_option maxHeartbeats 1000000 in
theorem no5 (ks : Int) (iks : I64 ks) (ke : Int) (ike : I64 ke) (kd : Int) (ikd : I64 kd) (ms : Int) (ims : I64 ms) (me : Int) (ime : I64 me) (md : Int) (imd : I64 md) (r : Int) (ir : I64 r) (t : Int) (it : I64 t) (cs : Int) (ics : I64 cs) (ce : Int) (ice : I64 ce) (cd : Int) (icd : I64 cd) (z : Int) (iz : I64 z) (w : World) (h1 : rds ks ke kd r = true) (h2 : rds ks me md r = true) (hx : ke ≤ me) (hy : kd ≤ md) (h3 : rds cs ce cd z = false) :
    Calls Try.prog 9 #[.agg #[.int .i64 ks, .int .i64 ke, .int .i64 kd], .agg #[.int .i64 ms, .int .i64 me, .int .i64 md], .int .i64 r, .int .i64 t, .agg #[.int .i64 cs, .int .i64 ce, .int .i64 cd], .int .i64 z] w fun e w' => e = .returned (.bool true) ∧ Below w.heap.size w w' := by
  have H1 := Lib.hid h1
  clear h1
  have H2 := Lib.hid h2
  clear h2
  have H3 := Lib.hid h3
  clear h3
  go_enter Try.func9, Try.ntmps9
  go_wp2_with fail
  have k0 : World.cell? (((w.alloc (.cells #[.int .i64 ks, .int .i64 ke, .int .i64 kd] 23)).alloc (.cells #[.int .i64 ms, .int .i64 me, .int .i64 md] 23)).alloc (.cells #[.int .i64 cs, .int .i64 ce, .int .i64 cd] 23)) ⟨w.heap.size, 0, none⟩ = some (.int .i64 ks) := by simp [go_sem]
  have k1 : World.cell? (((w.alloc (.cells #[.int .i64 ks, .int .i64 ke, .int .i64 kd] 23)).alloc (.cells #[.int .i64 ms, .int .i64 me, .int .i64 md] 23)).alloc (.cells #[.int .i64 cs, .int .i64 ce, .int .i64 cd] 23)) ⟨w.heap.size, 1, none⟩ = some (.int .i64 ke) := by simp [go_sem]
  have k2 : World.cell? (((w.alloc (.cells #[.int .i64 ks, .int .i64 ke, .int .i64 kd] 23)).alloc (.cells #[.int .i64 ms, .int .i64 me, .int .i64 md] 23)).alloc (.cells #[.int .i64 cs, .int .i64 ce, .int .i64 cd] 23)) ⟨w.heap.size, 2, none⟩ = some (.int .i64 kd) := by simp [go_sem]
  have m0 : World.cell? (((w.alloc (.cells #[.int .i64 ks, .int .i64 ke, .int .i64 kd] 23)).alloc (.cells #[.int .i64 ms, .int .i64 me, .int .i64 md] 23)).alloc (.cells #[.int .i64 cs, .int .i64 ce, .int .i64 cd] 23)) ⟨w.heap.size + 1, 0, none⟩ = some (.int .i64 ms) := by simp [go_sem]
  have m1 : World.cell? (((w.alloc (.cells #[.int .i64 ks, .int .i64 ke, .int .i64 kd] 23)).alloc (.cells #[.int .i64 ms, .int .i64 me, .int .i64 md] 23)).alloc (.cells #[.int .i64 cs, .int .i64 ce, .int .i64 cd] 23)) ⟨w.heap.size + 1, 1, none⟩ = some (.int .i64 me) := by simp [go_sem]
  have m2 : World.cell? (((w.alloc (.cells #[.int .i64 ks, .int .i64 ke, .int .i64 kd] 23)).alloc (.cells #[.int .i64 ms, .int .i64 me, .int .i64 md] 23)).alloc (.cells #[.int .i64 cs, .int .i64 ce, .int .i64 cd] 23)) ⟨w.heap.size + 1, 2, none⟩ = some (.int .i64 md) := by simp [go_sem]
  have c0 : World.cell? (((w.alloc (.cells #[.int .i64 ks, .int .i64 ke, .int .i64 kd] 23)).alloc (.cells #[.int .i64 ms, .int .i64 me, .int .i64 md] 23)).alloc (.cells #[.int .i64 cs, .int .i64 ce, .int .i64 cd] 23)) ⟨w.heap.size + 1 + 1, 0, none⟩ = some (.int .i64 cs) := by simp [go_sem]
  have c1 : World.cell? (((w.alloc (.cells #[.int .i64 ks, .int .i64 ke, .int .i64 kd] 23)).alloc (.cells #[.int .i64 ms, .int .i64 me, .int .i64 md] 23)).alloc (.cells #[.int .i64 cs, .int .i64 ce, .int .i64 cd] 23)) ⟨w.heap.size + 1 + 1, 1, none⟩ = some (.int .i64 ce) := by simp [go_sem]
  have c2 : World.cell? (((w.alloc (.cells #[.int .i64 ks, .int .i64 ke, .int .i64 kd] 23)).alloc (.cells #[.int .i64 ms, .int .i64 me, .int .i64 md] 23)).alloc (.cells #[.int .i64 cs, .int .i64 ce, .int .i64 cd] 23)) ⟨w.heap.size + 1 + 1, 2, none⟩ = some (.int .i64 cd) := by simp [go_sem]
  have gk : w.heap.size < (((w.alloc (.cells #[.int .i64 ks, .int .i64 ke, .int .i64 kd] 23)).alloc (.cells #[.int .i64 ms, .int .i64 me, .int .i64 md] 23)).alloc (.cells #[.int .i64 cs, .int .i64 ce, .int .i64 cd] 23)).heap.size := by simp <;> omega
  have gm : w.heap.size + 1 < (((w.alloc (.cells #[.int .i64 ks, .int .i64 ke, .int .i64 kd] 23)).alloc (.cells #[.int .i64 ms, .int .i64 me, .int .i64 md] 23)).alloc (.cells #[.int .i64 cs, .int .i64 ce, .int .i64 cd] 23)).heap.size := by simp <;> omega
  have gc : w.heap.size + 1 + 1 < (((w.alloc (.cells #[.int .i64 ks, .int .i64 ke, .int .i64 kd] 23)).alloc (.cells #[.int .i64 ms, .int .i64 me, .int .i64 md] 23)).alloc (.cells #[.int .i64 cs, .int .i64 ce, .int .i64 cd] 23)).heap.size := by simp <;> omega
  have B := Lib.hid (show Below w.heap.size w (((w.alloc (.cells #[.int .i64 ks, .int .i64 ke, .int .i64 kd] 23)).alloc (.cells #[.int .i64 ms, .int .i64 me, .int .i64 md] 23)).alloc (.cells #[.int .i64 cs, .int .i64 ce, .int .i64 cd] 23)) from ((((Below.refl _ _).alloc (by simp; try omega) _).alloc (by simp; try omega) _).alloc (by simp; try omega) _))
  generalize ((w.alloc (.cells #[.int .i64 ks, .int .i64 ke, .int .i64 kd] 23)).alloc (.cells #[.int .i64 ms, .int .i64 me, .int .i64 md] 23)).alloc (.cells #[.int .i64 cs, .int .i64 ce, .int .i64 cd] 23) = V1 at *
  refine (head_any _).mono ?_
  rintro e' w2 ⟨rfl, hb⟩
  replace B := Lib.hid (on_below B.out hb)
  replace k0 := keepc hb k0
  replace k1 := keepc hb k1
  replace k2 := keepc hb k2
  replace m0 := keepc hb m0
  replace m1 := keepc hb m1
  replace m2 := keepc hb m2
  replace c0 := keepc hb c0
  replace c1 := keepc hb c1
  replace c2 := keepc hb c2
  replace gk := Nat.lt_of_lt_of_le gk hb.size
  replace gm := Nat.lt_of_lt_of_le gm hb.size
  replace gc := Nat.lt_of_lt_of_le gc hb.size
  clear hb
  go_wp2_with fail
  have b0 : World.cell? (w2.alloc (.cells #[.int .i64 ks, .int .i64 me, .int .i64 md] 23)) ⟨w2.heap.size, 0, none⟩ = some (.int .i64 ks) := by simp [go_sem]
  have b1 : World.cell? (w2.alloc (.cells #[.int .i64 ks, .int .i64 me, .int .i64 md] 23)) ⟨w2.heap.size, 1, none⟩ = some (.int .i64 me) := by simp [go_sem]
  have b2 : World.cell? (w2.alloc (.cells #[.int .i64 ks, .int .i64 me, .int .i64 md] 23)) ⟨w2.heap.size, 2, none⟩ = some (.int .i64 md) := by simp [go_sem]
  have gb : w2.heap.size < (w2.alloc (.cells #[.int .i64 ks, .int .i64 me, .int .i64 md] 23)).heap.size := by simp <;> omega
  have hb : Below w2.heap.size w2 (w2.alloc (.cells #[.int .i64 ks, .int .i64 me, .int .i64 md] 23)) := ((Below.refl _ _).alloc (by simp; try omega) _)
  generalize w2.alloc (.cells #[.int .i64 ks, .int .i64 me, .int .i64 md] 23) = V3 at *
  replace B := Lib.hid (on_below B.out hb)
  replace k0 := keepc hb k0
  replace k1 := keepc hb k1
  replace k2 := keepc hb k2
  replace m0 := keepc hb m0
  replace m1 := keepc hb m1
  replace m2 := keepc hb m2
  replace c0 := keepc hb c0
  replace c1 := keepc hb c1
  replace c2 := keepc hb c2
  replace gk := Nat.lt_of_lt_of_le gk hb.size
  replace gm := Nat.lt_of_lt_of_le gm hb.size
  replace gc := Nat.lt_of_lt_of_le gc hb.size
  clear hb
  refine (reads_b ks ke kd r _ H1.out _).mono ?_
  rintro e' w4 ⟨rfl, hb⟩
  replace B := Lib.hid (on_below B.out hb)
  replace k0 := keepc hb k0
  replace k1 := keepc hb k1
  replace k2 := keepc hb k2
  replace m0 := keepc hb m0
  replace m1 := keepc hb m1
  replace m2 := keepc hb m2
  replace c0 := keepc hb c0
  replace c1 := keepc hb c1
  replace c2 := keepc hb c2
  replace b0 := keepc hb b0
  replace b1 := keepc hb b1
  replace b2 := keepc hb b2
  replace gk := Nat.lt_of_lt_of_le gk hb.size
  replace gm := Nat.lt_of_lt_of_le gm hb.size
  replace gc := Nat.lt_of_lt_of_le gc hb.size
  replace gb := Nat.lt_of_lt_of_le gb hb.size
  clear hb
  go_wp2_with fail
  refine (reads_b ks me md r _ H2.out _).mono ?_
  rintro e' w5 ⟨rfl, hb⟩
  replace B := Lib.hid (on_below B.out hb)
  replace k0 := keepc hb k0
  replace k1 := keepc hb k1
  replace k2 := keepc hb k2
  replace m0 := keepc hb m0
  replace m1 := keepc hb m1
  replace m2 := keepc hb m2
  replace c0 := keepc hb c0
  replace c1 := keepc hb c1
  replace c2 := keepc hb c2
  replace b0 := keepc hb b0
  replace b1 := keepc hb b1
  replace b2 := keepc hb b2
  replace gk := Nat.lt_of_lt_of_le gk hb.size
  replace gm := Nat.lt_of_lt_of_le gm hb.size
  replace gc := Nat.lt_of_lt_of_le gc hb.size
  replace gb := Nat.lt_of_lt_of_le gb hb.size
  clear hb
  go_wp2_with fail
  refine (reads_b cs ce cd z _ H3.out _).mono ?_
  rintro e' w6 ⟨rfl, hb⟩
  replace B := Lib.hid (on_below B.out hb)
  replace k0 := keepc hb k0
  replace k1 := keepc hb k1
  replace k2 := keepc hb k2
  replace m0 := keepc hb m0
  replace m1 := keepc hb m1
  replace m2 := keepc hb m2
  replace c0 := keepc hb c0
  replace c1 := keepc hb c1
  replace c2 := keepc hb c2
  replace b0 := keepc hb b0
  replace b1 := keepc hb b1
  replace b2 := keepc hb b2
  replace gk := Nat.lt_of_lt_of_le gk hb.size
  replace gm := Nat.lt_of_lt_of_le gm hb.size
  replace gc := Nat.lt_of_lt_of_le gc hb.size
  replace gb := Nat.lt_of_lt_of_le gb hb.size
  clear hb
  go_wp2_with fail
  all_goals go_ret
  all_goals exact ⟨rfl, B.out⟩
set_option maxRecDepth 100000 in
set_option maxHeartbeats 1000000 in
theorem ok00 (ks : Int) (iks : I64 ks) (ke : Int) (ike : I64 ke) (kd : Int) (ikd : I64 kd) (ms : Int) (ims : I64 ms) (me : Int) (ime : I64 me) (md : Int) (imd : I64 md) (r : Int) (ir : I64 r) (t : Int) (it : I64 t) (cs : Int) (ics : I64 cs) (ce : Int) (ice : I64 ce) (cd : Int) (icd : I64 cd) (z : Int) (iz : I64 z) (w : World) (h1 : rds ks ke kd r = true) (h2 : rds ks me md r = true) (h3 : rds cs ce cd z = true) (hx : ke ≤ me) (hy : kd ≤ md) (F U F' U' p m : Int) (l1 : F' ≤ F) (l2 : U ≤ U') (e1 : tF ks ke kd r = F) (e2 : tU ks ke kd r = U) (e3 : tE ks ke kd r = 0) (f1 : tF ks me md r = F') (f2 : tU ks me md r = U') (f3 : tE ks me md r = 0) (v1 : pV ks ke kd r t = p) (v2 : pV ks me md r t = 0) (o1 : oV ks ke kd r cs ce cd z = m) (o2 : oE ks ke kd r cs ce cd z = 0) (o3 : oV ks me md r cs ce cd z = 0) (o4 : oE ks me md r cs ce cd z = 0) :
    Calls Try.prog 9 #[.agg #[.int .i64 ks, .int .i64 ke, .int .i64 kd], .agg #[.int .i64 ms, .int .i64 me, .int .i64 md], .int .i64 r, .int .i64 t, .agg #[.int .i64 cs, .int .i64 ce, .int .i64 cd], .int .i64 z] w fun e w' => e = .returned (.bool true) ∧ Below w.heap.size w w' := by
  have H1 := Lib.hid h1
  clear h1
  have H2 := Lib.hid h2
  clear h2
  have H3 := Lib.hid h3
  clear h3
  have XE1 := Lib.hid e1
  clear e1
  have XE2 := Lib.hid e2
  clear e2
  have XE3 := Lib.hid e3
  clear e3
  have XF1 := Lib.hid f1
  clear f1
  have XF2 := Lib.hid f2
  clear f2
  have XF3 := Lib.hid f3
  clear f3
  have XV1 := Lib.hid v1
  clear v1
  have XV2 := Lib.hid v2
  clear v2
  have XO1 := Lib.hid o1
  clear o1
  have XO2 := Lib.hid o2
  clear o2
  have XO3 := Lib.hid o3
  clear o3
  have XO4 := Lib.hid o4
  clear o4
  go_enter Try.func9, Try.ntmps9
  go_wp2_with fail
  have k0 : World.cell? (((w.alloc (.cells #[.int .i64 ks, .int .i64 ke, .int .i64 kd] 23)).alloc (.cells #[.int .i64 ms, .int .i64 me, .int .i64 md] 23)).alloc (.cells #[.int .i64 cs, .int .i64 ce, .int .i64 cd] 23)) ⟨w.heap.size, 0, none⟩ = some (.int .i64 ks) := by simp [go_sem]
  have k1 : World.cell? (((w.alloc (.cells #[.int .i64 ks, .int .i64 ke, .int .i64 kd] 23)).alloc (.cells #[.int .i64 ms, .int .i64 me, .int .i64 md] 23)).alloc (.cells #[.int .i64 cs, .int .i64 ce, .int .i64 cd] 23)) ⟨w.heap.size, 1, none⟩ = some (.int .i64 ke) := by simp [go_sem]
  have k2 : World.cell? (((w.alloc (.cells #[.int .i64 ks, .int .i64 ke, .int .i64 kd] 23)).alloc (.cells #[.int .i64 ms, .int .i64 me, .int .i64 md] 23)).alloc (.cells #[.int .i64 cs, .int .i64 ce, .int .i64 cd] 23)) ⟨w.heap.size, 2, none⟩ = some (.int .i64 kd) := by simp [go_sem]
  have m0 : World.cell? (((w.alloc (.cells #[.int .i64 ks, .int .i64 ke, .int .i64 kd] 23)).alloc (.cells #[.int .i64 ms, .int .i64 me, .int .i64 md] 23)).alloc (.cells #[.int .i64 cs, .int .i64 ce, .int .i64 cd] 23)) ⟨w.heap.size + 1, 0, none⟩ = some (.int .i64 ms) := by simp [go_sem]
  have m1 : World.cell? (((w.alloc (.cells #[.int .i64 ks, .int .i64 ke, .int .i64 kd] 23)).alloc (.cells #[.int .i64 ms, .int .i64 me, .int .i64 md] 23)).alloc (.cells #[.int .i64 cs, .int .i64 ce, .int .i64 cd] 23)) ⟨w.heap.size + 1, 1, none⟩ = some (.int .i64 me) := by simp [go_sem]
  have m2 : World.cell? (((w.alloc (.cells #[.int .i64 ks, .int .i64 ke, .int .i64 kd] 23)).alloc (.cells #[.int .i64 ms, .int .i64 me, .int .i64 md] 23)).alloc (.cells #[.int .i64 cs, .int .i64 ce, .int .i64 cd] 23)) ⟨w.heap.size + 1, 2, none⟩ = some (.int .i64 md) := by simp [go_sem]
  have c0 : World.cell? (((w.alloc (.cells #[.int .i64 ks, .int .i64 ke, .int .i64 kd] 23)).alloc (.cells #[.int .i64 ms, .int .i64 me, .int .i64 md] 23)).alloc (.cells #[.int .i64 cs, .int .i64 ce, .int .i64 cd] 23)) ⟨w.heap.size + 1 + 1, 0, none⟩ = some (.int .i64 cs) := by simp [go_sem]
  have c1 : World.cell? (((w.alloc (.cells #[.int .i64 ks, .int .i64 ke, .int .i64 kd] 23)).alloc (.cells #[.int .i64 ms, .int .i64 me, .int .i64 md] 23)).alloc (.cells #[.int .i64 cs, .int .i64 ce, .int .i64 cd] 23)) ⟨w.heap.size + 1 + 1, 1, none⟩ = some (.int .i64 ce) := by simp [go_sem]
  have c2 : World.cell? (((w.alloc (.cells #[.int .i64 ks, .int .i64 ke, .int .i64 kd] 23)).alloc (.cells #[.int .i64 ms, .int .i64 me, .int .i64 md] 23)).alloc (.cells #[.int .i64 cs, .int .i64 ce, .int .i64 cd] 23)) ⟨w.heap.size + 1 + 1, 2, none⟩ = some (.int .i64 cd) := by simp [go_sem]
  have gk : w.heap.size < (((w.alloc (.cells #[.int .i64 ks, .int .i64 ke, .int .i64 kd] 23)).alloc (.cells #[.int .i64 ms, .int .i64 me, .int .i64 md] 23)).alloc (.cells #[.int .i64 cs, .int .i64 ce, .int .i64 cd] 23)).heap.size := by simp <;> omega
  have gm : w.heap.size + 1 < (((w.alloc (.cells #[.int .i64 ks, .int .i64 ke, .int .i64 kd] 23)).alloc (.cells #[.int .i64 ms, .int .i64 me, .int .i64 md] 23)).alloc (.cells #[.int .i64 cs, .int .i64 ce, .int .i64 cd] 23)).heap.size := by simp <;> omega
  have gc : w.heap.size + 1 + 1 < (((w.alloc (.cells #[.int .i64 ks, .int .i64 ke, .int .i64 kd] 23)).alloc (.cells #[.int .i64 ms, .int .i64 me, .int .i64 md] 23)).alloc (.cells #[.int .i64 cs, .int .i64 ce, .int .i64 cd] 23)).heap.size := by simp <;> omega
  have B := Lib.hid (show Below w.heap.size w (((w.alloc (.cells #[.int .i64 ks, .int .i64 ke, .int .i64 kd] 23)).alloc (.cells #[.int .i64 ms, .int .i64 me, .int .i64 md] 23)).alloc (.cells #[.int .i64 cs, .int .i64 ce, .int .i64 cd] 23)) from ((((Below.refl _ _).alloc (by simp; try omega) _).alloc (by simp; try omega) _).alloc (by simp; try omega) _))
  generalize ((w.alloc (.cells #[.int .i64 ks, .int .i64 ke, .int .i64 kd] 23)).alloc (.cells #[.int .i64 ms, .int .i64 me, .int .i64 md] 23)).alloc (.cells #[.int .i64 cs, .int .i64 ce, .int .i64 cd] 23) = V1 at *
  refine (head_any _).mono ?_
  rintro e' w2 ⟨rfl, hb⟩
  replace B := Lib.hid (on_below B.out hb)
  replace k0 := keepc hb k0
  replace k1 := keepc hb k1
  replace k2 := keepc hb k2
  replace m0 := keepc hb m0
  replace m1 := keepc hb m1
  replace m2 := keepc hb m2
  replace c0 := keepc hb c0
  replace c1 := keepc hb c1
  replace c2 := keepc hb c2
  replace gk := Nat.lt_of_lt_of_le gk hb.size
  replace gm := Nat.lt_of_lt_of_le gm hb.size
  replace gc := Nat.lt_of_lt_of_le gc hb.size
  clear hb
  go_wp2_with fail
  have b0 : World.cell? (w2.alloc (.cells #[.int .i64 ks, .int .i64 me, .int .i64 md] 23)) ⟨w2.heap.size, 0, none⟩ = some (.int .i64 ks) := by simp [go_sem]
  have b1 : World.cell? (w2.alloc (.cells #[.int .i64 ks, .int .i64 me, .int .i64 md] 23)) ⟨w2.heap.size, 1, none⟩ = some (.int .i64 me) := by simp [go_sem]
  have b2 : World.cell? (w2.alloc (.cells #[.int .i64 ks, .int .i64 me, .int .i64 md] 23)) ⟨w2.heap.size, 2, none⟩ = some (.int .i64 md) := by simp [go_sem]
  have gb : w2.heap.size < (w2.alloc (.cells #[.int .i64 ks, .int .i64 me, .int .i64 md] 23)).heap.size := by simp <;> omega
  have hb : Below w2.heap.size w2 (w2.alloc (.cells #[.int .i64 ks, .int .i64 me, .int .i64 md] 23)) := ((Below.refl _ _).alloc (by simp; try omega) _)
  generalize w2.alloc (.cells #[.int .i64 ks, .int .i64 me, .int .i64 md] 23) = V3 at *
  replace B := Lib.hid (on_below B.out hb)
  replace k0 := keepc hb k0
  replace k1 := keepc hb k1
  replace k2 := keepc hb k2
  replace m0 := keepc hb m0
  replace m1 := keepc hb m1
  replace m2 := keepc hb m2
  replace c0 := keepc hb c0
  replace c1 := keepc hb c1
  replace c2 := keepc hb c2
  replace gk := Nat.lt_of_lt_of_le gk hb.size
  replace gm := Nat.lt_of_lt_of_le gm hb.size
  replace gc := Nat.lt_of_lt_of_le gc hb.size
  clear hb
  refine (reads_b ks ke kd r _ H1.out _).mono ?_
  rintro e' w4 ⟨rfl, hb⟩
  replace B := Lib.hid (on_below B.out hb)
  replace k0 := keepc hb k0
  replace k1 := keepc hb k1
  replace k2 := keepc hb k2
  replace m0 := keepc hb m0
  replace m1 := keepc hb m1
  replace m2 := keepc hb m2
  replace c0 := keepc hb c0
  replace c1 := keepc hb c1
  replace c2 := keepc hb c2
  replace b0 := keepc hb b0
  replace b1 := keepc hb b1
  replace b2 := keepc hb b2
  replace gk := Nat.lt_of_lt_of_le gk hb.size
  replace gm := Nat.lt_of_lt_of_le gm hb.size
  replace gc := Nat.lt_of_lt_of_le gc hb.size
  replace gb := Nat.lt_of_lt_of_le gb hb.size
  clear hb
  go_wp2_with fail
  refine (reads_b ks me md r _ H2.out _).mono ?_
  rintro e' w5 ⟨rfl, hb⟩
  replace B := Lib.hid (on_below B.out hb)
  replace k0 := keepc hb k0
  replace k1 := keepc hb k1
  replace k2 := keepc hb k2
  replace m0 := keepc hb m0
  replace m1 := keepc hb m1
  replace m2 := keepc hb m2
  replace c0 := keepc hb c0
  replace c1 := keepc hb c1
  replace c2 := keepc hb c2
  replace b0 := keepc hb b0
  replace b1 := keepc hb b1
  replace b2 := keepc hb b2
  replace gk := Nat.lt_of_lt_of_le gk hb.size
  replace gm := Nat.lt_of_lt_of_le gm hb.size
  replace gc := Nat.lt_of_lt_of_le gc hb.size
  replace gb := Nat.lt_of_lt_of_le gb hb.size
  clear hb
  go_wp2_with fail
  refine (reads_b cs ce cd z _ H3.out _).mono ?_
  rintro e' w6 ⟨rfl, hb⟩
  replace B := Lib.hid (on_below B.out hb)
  replace k0 := keepc hb k0
  replace k1 := keepc hb k1
  replace k2 := keepc hb k2
  replace m0 := keepc hb m0
  replace m1 := keepc hb m1
  replace m2 := keepc hb m2
  replace c0 := keepc hb c0
  replace c1 := keepc hb c1
  replace c2 := keepc hb c2
  replace b0 := keepc hb b0
  replace b1 := keepc hb b1
  replace b2 := keepc hb b2
  replace gk := Nat.lt_of_lt_of_le gk hb.size
  replace gm := Nat.lt_of_lt_of_le gm hb.size
  replace gc := Nat.lt_of_lt_of_le gc hb.size
  replace gb := Nat.lt_of_lt_of_le gb hb.size
  clear hb
  go_wp2_with fail
  refine (true_is ks ke kd r F U 0 XE1.out XE2.out XE3.out _).mono ?_
  rintro e' w7 ⟨rfl, hb⟩
  replace B := Lib.hid (on_below B.out hb)
  replace k0 := keepc hb k0
  replace k1 := keepc hb k1
  replace k2 := keepc hb k2
  replace m0 := keepc hb m0
  replace m1 := keepc hb m1
  replace m2 := keepc hb m2
  replace c0 := keepc hb c0
  replace c1 := keepc hb c1
  replace c2 := keepc hb c2
  replace b0 := keepc hb b0
  replace b1 := keepc hb b1
  replace b2 := keepc hb b2
  replace gk := Nat.lt_of_lt_of_le gk hb.size
  replace gm := Nat.lt_of_lt_of_le gm hb.size
  replace gc := Nat.lt_of_lt_of_le gc hb.size
  replace gb := Nat.lt_of_lt_of_le gb hb.size
  clear hb
  go_wp2_with fail
  have s0 : World.cell? (w7.alloc (.cells #[.int .i64 F, .int .i64 U] 25)) ⟨w7.heap.size, 0, none⟩ = some (.int .i64 F) := by simp [go_sem]
  have s1 : World.cell? (w7.alloc (.cells #[.int .i64 F, .int .i64 U] 25)) ⟨w7.heap.size, 1, none⟩ = some (.int .i64 U) := by simp [go_sem]
  have gs : w7.heap.size < (w7.alloc (.cells #[.int .i64 F, .int .i64 U] 25)).heap.size := by simp <;> omega
  have hb : Below w7.heap.size w7 (w7.alloc (.cells #[.int .i64 F, .int .i64 U] 25)) := ((Below.refl _ _).alloc (by simp; try omega) _)
  generalize w7.alloc (.cells #[.int .i64 F, .int .i64 U] 25) = V8 at *
  replace B := Lib.hid (on_below B.out hb)
  replace k0 := keepc hb k0
  replace k1 := keepc hb k1
  replace k2 := keepc hb k2
  replace m0 := keepc hb m0
  replace m1 := keepc hb m1
  replace m2 := keepc hb m2
  replace c0 := keepc hb c0
  replace c1 := keepc hb c1
  replace c2 := keepc hb c2
  replace b0 := keepc hb b0
  replace b1 := keepc hb b1
  replace b2 := keepc hb b2
  replace gk := Nat.lt_of_lt_of_le gk hb.size
  replace gm := Nat.lt_of_lt_of_le gm hb.size
  replace gc := Nat.lt_of_lt_of_le gc hb.size
  replace gb := Nat.lt_of_lt_of_le gb hb.size
  clear hb
  refine (true_is ks me md r F' U' 0 XF1.out XF2.out XF3.out _).mono ?_
  rintro e' w9 ⟨rfl, hb⟩
  replace B := Lib.hid (on_below B.out hb)
  replace k0 := keepc hb k0
  replace k1 := keepc hb k1
  replace k2 := keepc hb k2
  replace m0 := keepc hb m0
  replace m1 := keepc hb m1
  replace m2 := keepc hb m2
  replace c0 := keepc hb c0
  replace c1 := keepc hb c1
  replace c2 := keepc hb c2
  replace b0 := keepc hb b0
  replace b1 := keepc hb b1
  replace b2 := keepc hb b2
  replace s0 := keepc hb s0
  replace s1 := keepc hb s1
  replace gk := Nat.lt_of_lt_of_le gk hb.size
  replace gm := Nat.lt_of_lt_of_le gm hb.size
  replace gc := Nat.lt_of_lt_of_le gc hb.size
  replace gb := Nat.lt_of_lt_of_le gb hb.size
  replace gs := Nat.lt_of_lt_of_le gs hb.size
  clear hb
  go_wp2_with fail
  have v0 : World.cell? (w9.alloc (.cells #[.int .i64 F', .int .i64 U'] 25)) ⟨w9.heap.size, 0, none⟩ = some (.int .i64 F') := by simp [go_sem]
  have v1 : World.cell? (w9.alloc (.cells #[.int .i64 F', .int .i64 U'] 25)) ⟨w9.heap.size, 1, none⟩ = some (.int .i64 U') := by simp [go_sem]
  have gv : w9.heap.size < (w9.alloc (.cells #[.int .i64 F', .int .i64 U'] 25)).heap.size := by simp <;> omega
  have hb : Below w9.heap.size w9 (w9.alloc (.cells #[.int .i64 F', .int .i64 U'] 25)) := ((Below.refl _ _).alloc (by simp; try omega) _)
  generalize w9.alloc (.cells #[.int .i64 F', .int .i64 U'] 25) = V10 at *
  replace B := Lib.hid (on_below B.out hb)
  replace k0 := keepc hb k0
  replace k1 := keepc hb k1
  replace k2 := keepc hb k2
  replace m0 := keepc hb m0
  replace m1 := keepc hb m1
  replace m2 := keepc hb m2
  replace c0 := keepc hb c0
  replace c1 := keepc hb c1
  replace c2 := keepc hb c2
  replace b0 := keepc hb b0
  replace b1 := keepc hb b1
  replace b2 := keepc hb b2
  replace s0 := keepc hb s0
  replace s1 := keepc hb s1
  replace gk := Nat.lt_of_lt_of_le gk hb.size
  replace gm := Nat.lt_of_lt_of_le gm hb.size
  replace gc := Nat.lt_of_lt_of_le gc hb.size
  replace gb := Nat.lt_of_lt_of_le gb hb.size
  replace gs := Nat.lt_of_lt_of_le gs hb.size
  clear hb
  refine (passed_is ks ke kd r t p 0 XV1.out XE3.out _).mono ?_
  rintro e' w11 ⟨rfl, hb⟩
  replace B := Lib.hid (on_below B.out hb)
  replace k0 := keepc hb k0
  replace k1 := keepc hb k1
  replace k2 := keepc hb k2
  replace m0 := keepc hb m0
  replace m1 := keepc hb m1
  replace m2 := keepc hb m2
  replace c0 := keepc hb c0
  replace c1 := keepc hb c1
  replace c2 := keepc hb c2
  replace b0 := keepc hb b0
  replace b1 := keepc hb b1
  replace b2 := keepc hb b2
  replace s0 := keepc hb s0
  replace s1 := keepc hb s1
  replace v0 := keepc hb v0
  replace v1 := keepc hb v1
  replace gk := Nat.lt_of_lt_of_le gk hb.size
  replace gm := Nat.lt_of_lt_of_le gm hb.size
  replace gc := Nat.lt_of_lt_of_le gc hb.size
  replace gb := Nat.lt_of_lt_of_le gb hb.size
  replace gs := Nat.lt_of_lt_of_le gs hb.size
  replace gv := Nat.lt_of_lt_of_le gv hb.size
  clear hb
  go_wp2_with fail
  refine (passed_is ks me md r t 0 0 XV2.out XF3.out _).mono ?_
  rintro e' w12 ⟨rfl, hb⟩
  replace B := Lib.hid (on_below B.out hb)
  replace k0 := keepc hb k0
  replace k1 := keepc hb k1
  replace k2 := keepc hb k2
  replace m0 := keepc hb m0
  replace m1 := keepc hb m1
  replace m2 := keepc hb m2
  replace c0 := keepc hb c0
  replace c1 := keepc hb c1
  replace c2 := keepc hb c2
  replace b0 := keepc hb b0
  replace b1 := keepc hb b1
  replace b2 := keepc hb b2
  replace s0 := keepc hb s0
  replace s1 := keepc hb s1
  replace v0 := keepc hb v0
  replace v1 := keepc hb v1
  replace gk := Nat.lt_of_lt_of_le gk hb.size
  replace gm := Nat.lt_of_lt_of_le gm hb.size
  replace gc := Nat.lt_of_lt_of_le gc hb.size
  replace gb := Nat.lt_of_lt_of_le gb hb.size
  replace gs := Nat.lt_of_lt_of_le gs hb.size
  replace gv := Nat.lt_of_lt_of_le gv hb.size
  clear hb
  go_wp2_with fail
  refine (order_is ks ke kd r cs ce cd z m 0 XO1.out XO2.out _).mono ?_
  rintro e' w13 ⟨rfl, hb⟩
  replace B := Lib.hid (on_below B.out hb)
  replace k0 := keepc hb k0
  replace k1 := keepc hb k1
  replace k2 := keepc hb k2
  replace m0 := keepc hb m0
  replace m1 := keepc hb m1
  replace m2 := keepc hb m2
  replace c0 := keepc hb c0
  replace c1 := keepc hb c1
  replace c2 := keepc hb c2
  replace b0 := keepc hb b0
  replace b1 := keepc hb b1
  replace b2 := keepc hb b2
  replace s0 := keepc hb s0
  replace s1 := keepc hb s1
  replace v0 := keepc hb v0
  replace v1 := keepc hb v1
  replace gk := Nat.lt_of_lt_of_le gk hb.size
  replace gm := Nat.lt_of_lt_of_le gm hb.size
  replace gc := Nat.lt_of_lt_of_le gc hb.size
  replace gb := Nat.lt_of_lt_of_le gb hb.size
  replace gs := Nat.lt_of_lt_of_le gs hb.size
  replace gv := Nat.lt_of_lt_of_le gv hb.size
  clear hb
  go_wp2_with fail
  refine (order_is ks me md r cs ce cd z 0 0 XO3.out XO4.out _).mono ?_
  rintro e' w14 ⟨rfl, hb⟩
  replace B := Lib.hid (on_below B.out hb)
  replace k0 := keepc hb k0
  replace k1 := keepc hb k1
  replace k2 := keepc hb k2
  replace m0 := keepc hb m0
  replace m1 := keepc hb m1
  replace m2 := keepc hb m2
  replace c0 := keepc hb c0
  replace c1 := keepc hb c1
  replace c2 := keepc hb c2
  replace b0 := keepc hb b0
  replace b1 := keepc hb b1
  replace b2 := keepc hb b2
  replace s0 := keepc hb s0
  replace s1 := keepc hb s1
  replace v0 := keepc hb v0
  replace v1 := keepc hb v1
  replace gk := Nat.lt_of_lt_of_le gk hb.size
  replace gm := Nat.lt_of_lt_of_le gm hb.size
  replace gc := Nat.lt_of_lt_of_le gc hb.size
  replace gb := Nat.lt_of_lt_of_le gb hb.size
  replace gs := Nat.lt_of_lt_of_le gs hb.size
  replace gv := Nat.lt_of_lt_of_le gv hb.size
  clear hb
  go_wp2_with fail
  all_goals go_ret
  all_goals exact ⟨rfl, B.out⟩
set_option maxRecDepth 100000 in
set_option maxHeartbeats 1000000 in
theorem ok01 (ks : Int) (iks : I64 ks) (ke : Int) (ike : I64 ke) (kd : Int) (ikd : I64 kd) (ms : Int) (ims : I64 ms) (me : Int) (ime : I64 me) (md : Int) (imd : I64 md) (r : Int) (ir : I64 r) (t : Int) (it : I64 t) (cs : Int) (ics : I64 cs) (ce : Int) (ice : I64 ce) (cd : Int) (icd : I64 cd) (z : Int) (iz : I64 z) (w : World) (h1 : rds ks ke kd r = true) (h2 : rds ks me md r = true) (h3 : rds cs ce cd z = true) (hx : ke ≤ me) (hy : kd ≤ md) (F U F' U' p m : Int) (l1 : F' ≤ F) (l2 : U ≤ U') (e1 : tF ks ke kd r = F) (e2 : tU ks ke kd r = U) (e3 : tE ks ke kd r = 0) (f1 : tF ks me md r = F') (f2 : tU ks me md r = U') (f3 : tE ks me md r = 0) (v1 : pV ks ke kd r t = p) (v2 : pV ks me md r t = 0) (o1 : oV ks ke kd r cs ce cd z = m) (o2 : oE ks ke kd r cs ce cd z = 0) (o3 : oV ks me md r cs ce cd z = m) (o4 : oE ks me md r cs ce cd z = 0) :
    Calls Try.prog 9 #[.agg #[.int .i64 ks, .int .i64 ke, .int .i64 kd], .agg #[.int .i64 ms, .int .i64 me, .int .i64 md], .int .i64 r, .int .i64 t, .agg #[.int .i64 cs, .int .i64 ce, .int .i64 cd], .int .i64 z] w fun e w' => e = .returned (.bool true) ∧ Below w.heap.size w w' := by
  have H1 := Lib.hid h1
  clear h1
  have H2 := Lib.hid h2
  clear h2
  have H3 := Lib.hid h3
  clear h3
  have XE1 := Lib.hid e1
  clear e1
  have XE2 := Lib.hid e2
  clear e2
  have XE3 := Lib.hid e3
  clear e3
  have XF1 := Lib.hid f1
  clear f1
  have XF2 := Lib.hid f2
  clear f2
  have XF3 := Lib.hid f3
  clear f3
  have XV1 := Lib.hid v1
  clear v1
  have XV2 := Lib.hid v2
  clear v2
  have XO1 := Lib.hid o1
  clear o1
  have XO2 := Lib.hid o2
  clear o2
  have XO3 := Lib.hid o3
  clear o3
  have XO4 := Lib.hid o4
  clear o4
  go_enter Try.func9, Try.ntmps9
  go_wp2_with fail
  have k0 : World.cell? (((w.alloc (.cells #[.int .i64 ks, .int .i64 ke, .int .i64 kd] 23)).alloc (.cells #[.int .i64 ms, .int .i64 me, .int .i64 md] 23)).alloc (.cells #[.int .i64 cs, .int .i64 ce, .int .i64 cd] 23)) ⟨w.heap.size, 0, none⟩ = some (.int .i64 ks) := by simp [go_sem]
  have k1 : World.cell? (((w.alloc (.cells #[.int .i64 ks, .int .i64 ke, .int .i64 kd] 23)).alloc (.cells #[.int .i64 ms, .int .i64 me, .int .i64 md] 23)).alloc (.cells #[.int .i64 cs, .int .i64 ce, .int .i64 cd] 23)) ⟨w.heap.size, 1, none⟩ = some (.int .i64 ke) := by simp [go_sem]
  have k2 : World.cell? (((w.alloc (.cells #[.int .i64 ks, .int .i64 ke, .int .i64 kd] 23)).alloc (.cells #[.int .i64 ms, .int .i64 me, .int .i64 md] 23)).alloc (.cells #[.int .i64 cs, .int .i64 ce, .int .i64 cd] 23)) ⟨w.heap.size, 2, none⟩ = some (.int .i64 kd) := by simp [go_sem]
  have m0 : World.cell? (((w.alloc (.cells #[.int .i64 ks, .int .i64 ke, .int .i64 kd] 23)).alloc (.cells #[.int .i64 ms, .int .i64 me, .int .i64 md] 23)).alloc (.cells #[.int .i64 cs, .int .i64 ce, .int .i64 cd] 23)) ⟨w.heap.size + 1, 0, none⟩ = some (.int .i64 ms) := by simp [go_sem]
  have m1 : World.cell? (((w.alloc (.cells #[.int .i64 ks, .int .i64 ke, .int .i64 kd] 23)).alloc (.cells #[.int .i64 ms, .int .i64 me, .int .i64 md] 23)).alloc (.cells #[.int .i64 cs, .int .i64 ce, .int .i64 cd] 23)) ⟨w.heap.size + 1, 1, none⟩ = some (.int .i64 me) := by simp [go_sem]
  have m2 : World.cell? (((w.alloc (.cells #[.int .i64 ks, .int .i64 ke, .int .i64 kd] 23)).alloc (.cells #[.int .i64 ms, .int .i64 me, .int .i64 md] 23)).alloc (.cells #[.int .i64 cs, .int .i64 ce, .int .i64 cd] 23)) ⟨w.heap.size + 1, 2, none⟩ = some (.int .i64 md) := by simp [go_sem]
  have c0 : World.cell? (((w.alloc (.cells #[.int .i64 ks, .int .i64 ke, .int .i64 kd] 23)).alloc (.cells #[.int .i64 ms, .int .i64 me, .int .i64 md] 23)).alloc (.cells #[.int .i64 cs, .int .i64 ce, .int .i64 cd] 23)) ⟨w.heap.size + 1 + 1, 0, none⟩ = some (.int .i64 cs) := by simp [go_sem]
  have c1 : World.cell? (((w.alloc (.cells #[.int .i64 ks, .int .i64 ke, .int .i64 kd] 23)).alloc (.cells #[.int .i64 ms, .int .i64 me, .int .i64 md] 23)).alloc (.cells #[.int .i64 cs, .int .i64 ce, .int .i64 cd] 23)) ⟨w.heap.size + 1 + 1, 1, none⟩ = some (.int .i64 ce) := by simp [go_sem]
  have c2 : World.cell? (((w.alloc (.cells #[.int .i64 ks, .int .i64 ke, .int .i64 kd] 23)).alloc (.cells #[.int .i64 ms, .int .i64 me, .int .i64 md] 23)).alloc (.cells #[.int .i64 cs, .int .i64 ce, .int .i64 cd] 23)) ⟨w.heap.size + 1 + 1, 2, none⟩ = some (.int .i64 cd) := by simp [go_sem]
  have gk : w.heap.size < (((w.alloc (.cells #[.int .i64 ks, .int .i64 ke, .int .i64 kd] 23)).alloc (.cells #[.int .i64 ms, .int .i64 me, .int .i64 md] 23)).alloc (.cells #[.int .i64 cs, .int .i64 ce, .int .i64 cd] 23)).heap.size := by simp <;> omega
  have gm : w.heap.size + 1 < (((w.alloc (.cells #[.int .i64 ks, .int .i64 ke, .int .i64 kd] 23)).alloc (.cells #[.int .i64 ms, .int .i64 me, .int .i64 md] 23)).alloc (.cells #[.int .i64 cs, .int .i64 ce, .int .i64 cd] 23)).heap.size := by simp <;> omega
  have gc : w.heap.size + 1 + 1 < (((w.alloc (.cells #[.int .i64 ks, .int .i64 ke, .int .i64 kd] 23)).alloc (.cells #[.int .i64 ms, .int .i64 me, .int .i64 md] 23)).alloc (.cells #[.int .i64 cs, .int .i64 ce, .int .i64 cd] 23)).heap.size := by simp <;> omega
  have B := Lib.hid (show Below w.heap.size w (((w.alloc (.cells #[.int .i64 ks, .int .i64 ke, .int .i64 kd] 23)).alloc (.cells #[.int .i64 ms, .int .i64 me, .int .i64 md] 23)).alloc (.cells #[.int .i64 cs, .int .i64 ce, .int .i64 cd] 23)) from ((((Below.refl _ _).alloc (by simp; try omega) _).alloc (by simp; try omega) _).alloc (by simp; try omega) _))
  generalize ((w.alloc (.cells #[.int .i64 ks, .int .i64 ke, .int .i64 kd] 23)).alloc (.cells #[.int .i64 ms, .int .i64 me, .int .i64 md] 23)).alloc (.cells #[.int .i64 cs, .int .i64 ce, .int .i64 cd] 23) = V1 at *
  refine (head_any _).mono ?_
  rintro e' w2 ⟨rfl, hb⟩
  replace B := Lib.hid (on_below B.out hb)
  replace k0 := keepc hb k0
  replace k1 := keepc hb k1
  replace k2 := keepc hb k2
  replace m0 := keepc hb m0
  replace m1 := keepc hb m1
  replace m2 := keepc hb m2
  replace c0 := keepc hb c0
  replace c1 := keepc hb c1
  replace c2 := keepc hb c2
  replace gk := Nat.lt_of_lt_of_le gk hb.size
  replace gm := Nat.lt_of_lt_of_le gm hb.size
  replace gc := Nat.lt_of_lt_of_le gc hb.size
  clear hb
  go_wp2_with fail
  have b0 : World.cell? (w2.alloc (.cells #[.int .i64 ks, .int .i64 me, .int .i64 md] 23)) ⟨w2.heap.size, 0, none⟩ = some (.int .i64 ks) := by simp [go_sem]
  have b1 : World.cell? (w2.alloc (.cells #[.int .i64 ks, .int .i64 me, .int .i64 md] 23)) ⟨w2.heap.size, 1, none⟩ = some (.int .i64 me) := by simp [go_sem]
  have b2 : World.cell? (w2.alloc (.cells #[.int .i64 ks, .int .i64 me, .int .i64 md] 23)) ⟨w2.heap.size, 2, none⟩ = some (.int .i64 md) := by simp [go_sem]
  have gb : w2.heap.size < (w2.alloc (.cells #[.int .i64 ks, .int .i64 me, .int .i64 md] 23)).heap.size := by simp <;> omega
  have hb : Below w2.heap.size w2 (w2.alloc (.cells #[.int .i64 ks, .int .i64 me, .int .i64 md] 23)) := ((Below.refl _ _).alloc (by simp; try omega) _)
  generalize w2.alloc (.cells #[.int .i64 ks, .int .i64 me, .int .i64 md] 23) = V3 at *
  replace B := Lib.hid (on_below B.out hb)
  replace k0 := keepc hb k0
  replace k1 := keepc hb k1
  replace k2 := keepc hb k2
  replace m0 := keepc hb m0
  replace m1 := keepc hb m1
  replace m2 := keepc hb m2
  replace c0 := keepc hb c0
  replace c1 := keepc hb c1
  replace c2 := keepc hb c2
  replace gk := Nat.lt_of_lt_of_le gk hb.size
  replace gm := Nat.lt_of_lt_of_le gm hb.size
  replace gc := Nat.lt_of_lt_of_le gc hb.size
  clear hb
  refine (reads_b ks ke kd r _ H1.out _).mono ?_
  rintro e' w4 ⟨rfl, hb⟩
  replace B := Lib.hid (on_below B.out hb)
  replace k0 := keepc hb k0
  replace k1 := keepc hb k1
  replace k2 := keepc hb k2
  replace m0 := keepc hb m0
  replace m1 := keepc hb m1
  replace m2 := keepc hb m2
  replace c0 := keepc hb c0
  replace c1 := keepc hb c1
  replace c2 := keepc hb c2
  replace b0 := keepc hb b0
  replace b1 := keepc hb b1
  replace b2 := keepc hb b2
  replace gk := Nat.lt_of_lt_of_le gk hb.size
  replace gm := Nat.lt_of_lt_of_le gm hb.size
  replace gc := Nat.lt_of_lt_of_le gc hb.size
  replace gb := Nat.lt_of_lt_of_le gb hb.size
  clear hb
  go_wp2_with fail
  refine (reads_b ks me md r _ H2.out _).mono ?_
  rintro e' w5 ⟨rfl, hb⟩
  replace B := Lib.hid (on_below B.out hb)
  replace k0 := keepc hb k0
  replace k1 := keepc hb k1
  replace k2 := keepc hb k2
  replace m0 := keepc hb m0
  replace m1 := keepc hb m1
  replace m2 := keepc hb m2
  replace c0 := keepc hb c0
  replace c1 := keepc hb c1
  replace c2 := keepc hb c2
  replace b0 := keepc hb b0
  replace b1 := keepc hb b1
  replace b2 := keepc hb b2
  replace gk := Nat.lt_of_lt_of_le gk hb.size
  replace gm := Nat.lt_of_lt_of_le gm hb.size
  replace gc := Nat.lt_of_lt_of_le gc hb.size
  replace gb := Nat.lt_of_lt_of_le gb hb.size
  clear hb
  go_wp2_with fail
  refine (reads_b cs ce cd z _ H3.out _).mono ?_
  rintro e' w6 ⟨rfl, hb⟩
  replace B := Lib.hid (on_below B.out hb)
  replace k0 := keepc hb k0
  replace k1 := keepc hb k1
  replace k2 := keepc hb k2
  replace m0 := keepc hb m0
  replace m1 := keepc hb m1
  replace m2 := keepc hb m2
  replace c0 := keepc hb c0
  replace c1 := keepc hb c1
  replace c2 := keepc hb c2
  replace b0 := keepc hb b0
  replace b1 := keepc hb b1
  replace b2 := keepc hb b2
  replace gk := Nat.lt_of_lt_of_le gk hb.size
  replace gm := Nat.lt_of_lt_of_le gm hb.size
  replace gc := Nat.lt_of_lt_of_le gc hb.size
  replace gb := Nat.lt_of_lt_of_le gb hb.size
  clear hb
  go_wp2_with fail
  refine (true_is ks ke kd r F U 0 XE1.out XE2.out XE3.out _).mono ?_
  rintro e' w7 ⟨rfl, hb⟩
  replace B := Lib.hid (on_below B.out hb)
  replace k0 := keepc hb k0
  replace k1 := keepc hb k1
  replace k2 := keepc hb k2
  replace m0 := keepc hb m0
  replace m1 := keepc hb m1
  replace m2 := keepc hb m2
  replace c0 := keepc hb c0
  replace c1 := keepc hb c1
  replace c2 := keepc hb c2
  replace b0 := keepc hb b0
  replace b1 := keepc hb b1
  replace b2 := keepc hb b2
  replace gk := Nat.lt_of_lt_of_le gk hb.size
  replace gm := Nat.lt_of_lt_of_le gm hb.size
  replace gc := Nat.lt_of_lt_of_le gc hb.size
  replace gb := Nat.lt_of_lt_of_le gb hb.size
  clear hb
  go_wp2_with fail
  have s0 : World.cell? (w7.alloc (.cells #[.int .i64 F, .int .i64 U] 25)) ⟨w7.heap.size, 0, none⟩ = some (.int .i64 F) := by simp [go_sem]
  have s1 : World.cell? (w7.alloc (.cells #[.int .i64 F, .int .i64 U] 25)) ⟨w7.heap.size, 1, none⟩ = some (.int .i64 U) := by simp [go_sem]
  have gs : w7.heap.size < (w7.alloc (.cells #[.int .i64 F, .int .i64 U] 25)).heap.size := by simp <;> omega
  have hb : Below w7.heap.size w7 (w7.alloc (.cells #[.int .i64 F, .int .i64 U] 25)) := ((Below.refl _ _).alloc (by simp; try omega) _)
  generalize w7.alloc (.cells #[.int .i64 F, .int .i64 U] 25) = V8 at *
  replace B := Lib.hid (on_below B.out hb)
  replace k0 := keepc hb k0
  replace k1 := keepc hb k1
  replace k2 := keepc hb k2
  replace m0 := keepc hb m0
  replace m1 := keepc hb m1
  replace m2 := keepc hb m2
  replace c0 := keepc hb c0
  replace c1 := keepc hb c1
  replace c2 := keepc hb c2
  replace b0 := keepc hb b0
  replace b1 := keepc hb b1
  replace b2 := keepc hb b2
  replace gk := Nat.lt_of_lt_of_le gk hb.size
  replace gm := Nat.lt_of_lt_of_le gm hb.size
  replace gc := Nat.lt_of_lt_of_le gc hb.size
  replace gb := Nat.lt_of_lt_of_le gb hb.size
  clear hb
  refine (true_is ks me md r F' U' 0 XF1.out XF2.out XF3.out _).mono ?_
  rintro e' w9 ⟨rfl, hb⟩
  replace B := Lib.hid (on_below B.out hb)
  replace k0 := keepc hb k0
  replace k1 := keepc hb k1
  replace k2 := keepc hb k2
  replace m0 := keepc hb m0
  replace m1 := keepc hb m1
  replace m2 := keepc hb m2
  replace c0 := keepc hb c0
  replace c1 := keepc hb c1
  replace c2 := keepc hb c2
  replace b0 := keepc hb b0
  replace b1 := keepc hb b1
  replace b2 := keepc hb b2
  replace s0 := keepc hb s0
  replace s1 := keepc hb s1
  replace gk := Nat.lt_of_lt_of_le gk hb.size
  replace gm := Nat.lt_of_lt_of_le gm hb.size
  replace gc := Nat.lt_of_lt_of_le gc hb.size
  replace gb := Nat.lt_of_lt_of_le gb hb.size
  replace gs := Nat.lt_of_lt_of_le gs hb.size
  clear hb
  go_wp2_with fail
  have v0 : World.cell? (w9.alloc (.cells #[.int .i64 F', .int .i64 U'] 25)) ⟨w9.heap.size, 0, none⟩ = some (.int .i64 F') := by simp [go_sem]
  have v1 : World.cell? (w9.alloc (.cells #[.int .i64 F', .int .i64 U'] 25)) ⟨w9.heap.size, 1, none⟩ = some (.int .i64 U') := by simp [go_sem]
  have gv : w9.heap.size < (w9.alloc (.cells #[.int .i64 F', .int .i64 U'] 25)).heap.size := by simp <;> omega
  have hb : Below w9.heap.size w9 (w9.alloc (.cells #[.int .i64 F', .int .i64 U'] 25)) := ((Below.refl _ _).alloc (by simp; try omega) _)
  generalize w9.alloc (.cells #[.int .i64 F', .int .i64 U'] 25) = V10 at *
  replace B := Lib.hid (on_below B.out hb)
  replace k0 := keepc hb k0
  replace k1 := keepc hb k1
  replace k2 := keepc hb k2
  replace m0 := keepc hb m0
  replace m1 := keepc hb m1
  replace m2 := keepc hb m2
  replace c0 := keepc hb c0
  replace c1 := keepc hb c1
  replace c2 := keepc hb c2
  replace b0 := keepc hb b0
  replace b1 := keepc hb b1
  replace b2 := keepc hb b2
  replace s0 := keepc hb s0
  replace s1 := keepc hb s1
  replace gk := Nat.lt_of_lt_of_le gk hb.size
  replace gm := Nat.lt_of_lt_of_le gm hb.size
  replace gc := Nat.lt_of_lt_of_le gc hb.size
  replace gb := Nat.lt_of_lt_of_le gb hb.size
  replace gs := Nat.lt_of_lt_of_le gs hb.size
  clear hb
  refine (passed_is ks ke kd r t p 0 XV1.out XE3.out _).mono ?_
  rintro e' w11 ⟨rfl, hb⟩
  replace B := Lib.hid (on_below B.out hb)
  replace k0 := keepc hb k0
  replace k1 := keepc hb k1
  replace k2 := keepc hb k2
  replace m0 := keepc hb m0
  replace m1 := keepc hb m1
  replace m2 := keepc hb m2
  replace c0 := keepc hb c0
  replace c1 := keepc hb c1
  replace c2 := keepc hb c2
  replace b0 := keepc hb b0
  replace b1 := keepc hb b1
  replace b2 := keepc hb b2
  replace s0 := keepc hb s0
  replace s1 := keepc hb s1
  replace v0 := keepc hb v0
  replace v1 := keepc hb v1
  replace gk := Nat.lt_of_lt_of_le gk hb.size
  replace gm := Nat.lt_of_lt_of_le gm hb.size
  replace gc := Nat.lt_of_lt_of_le gc hb.size
  replace gb := Nat.lt_of_lt_of_le gb hb.size
  replace gs := Nat.lt_of_lt_of_le gs hb.size
  replace gv := Nat.lt_of_lt_of_le gv hb.size
  clear hb
  go_wp2_with fail
  refine (passed_is ks me md r t 0 0 XV2.out XF3.out _).mono ?_
  rintro e' w12 ⟨rfl, hb⟩
  replace B := Lib.hid (on_below B.out hb)
  replace k0 := keepc hb k0
  replace k1 := keepc hb k1
  replace k2 := keepc hb k2
  replace m0 := keepc hb m0
  replace m1 := keepc hb m1
  replace m2 := keepc hb m2
  replace c0 := keepc hb c0
  replace c1 := keepc hb c1
  replace c2 := keepc hb c2
  replace b0 := keepc hb b0
  replace b1 := keepc hb b1
  replace b2 := keepc hb b2
  replace s0 := keepc hb s0
  replace s1 := keepc hb s1
  replace v0 := keepc hb v0
  replace v1 := keepc hb v1
  replace gk := Nat.lt_of_lt_of_le gk hb.size
  replace gm := Nat.lt_of_lt_of_le gm hb.size
  replace gc := Nat.lt_of_lt_of_le gc hb.size
  replace gb := Nat.lt_of_lt_of_le gb hb.size
  replace gs := Nat.lt_of_lt_of_le gs hb.size
  replace gv := Nat.lt_of_lt_of_le gv hb.size
  clear hb
  go_wp2_with fail
  refine (order_is ks ke kd r cs ce cd z m 0 XO1.out XO2.out _).mono ?_
  rintro e' w13 ⟨rfl, hb⟩
  replace B := Lib.hid (on_below B.out hb)
  replace k0 := keepc hb k0
  replace k1 := keepc hb k1
  replace k2 := keepc hb k2
  replace m0 := keepc hb m0
  replace m1 := keepc hb m1
  replace m2 := keepc hb m2
  replace c0 := keepc hb c0
  replace c1 := keepc hb c1
  replace c2 := keepc hb c2
  replace b0 := keepc hb b0
  replace b1 := keepc hb b1
  replace b2 := keepc hb b2
  replace s0 := keepc hb s0
  replace s1 := keepc hb s1
  replace v0 := keepc hb v0
  replace v1 := keepc hb v1
  replace gk := Nat.lt_of_lt_of_le gk hb.size
  replace gm := Nat.lt_of_lt_of_le gm hb.size
  replace gc := Nat.lt_of_lt_of_le gc hb.size
  replace gb := Nat.lt_of_lt_of_le gb hb.size
  replace gs := Nat.lt_of_lt_of_le gs hb.size
  replace gv := Nat.lt_of_lt_of_le gv hb.size
  clear hb
  go_wp2_with fail
  refine (order_is ks me md r cs ce cd z m 0 XO3.out XO4.out _).mono ?_
  rintro e' w14 ⟨rfl, hb⟩
  replace B := Lib.hid (on_below B.out hb)
  replace k0 := keepc hb k0
  replace k1 := keepc hb k1
  replace k2 := keepc hb k2
  replace m0 := keepc hb m0
  replace m1 := keepc hb m1
  replace m2 := keepc hb m2
  replace c0 := keepc hb c0
  replace c1 := keepc hb c1
  replace c2 := keepc hb c2
  replace b0 := keepc hb b0
  replace b1 := keepc hb b1
  replace b2 := keepc hb b2
  replace s0 := keepc hb s0
  replace s1 := keepc hb s1
  replace v0 := keepc hb v0
  replace v1 := keepc hb v1
  replace gk := Nat.lt_of_lt_of_le gk hb.size
  replace gm := Nat.lt_of_lt_of_le gm hb.size
  replace gc := Nat.lt_of_lt_of_le gc hb.size
  replace gb := Nat.lt_of_lt_of_le gb hb.size
  replace gs := Nat.lt_of_lt_of_le gs hb.size
  replace gv := Nat.lt_of_lt_of_le gv hb.size
  clear hb
  go_wp2_with fail
  all_goals go_ret
  all_goals exact ⟨rfl, B.out⟩
set_option maxRecDepth 100000 in
set_option maxHeartbeats 1000000 in
theorem ok10 (ks : Int) (iks : I64 ks) (ke : Int) (ike : I64 ke) (kd : Int) (ikd : I64 kd) (ms : Int) (ims : I64 ms) (me : Int) (ime : I64 me) (md : Int) (imd : I64 md) (r : Int) (ir : I64 r) (t : Int) (it : I64 t) (cs : Int) (ics : I64 cs) (ce : Int) (ice : I64 ce) (cd : Int) (icd : I64 cd) (z : Int) (iz : I64 z) (w : World) (h1 : rds ks ke kd r = true) (h2 : rds ks me md r = true) (h3 : rds cs ce cd z = true) (hx : ke ≤ me) (hy : kd ≤ md) (F U F' U' p m : Int) (l1 : F' ≤ F) (l2 : U ≤ U') (e1 : tF ks ke kd r = F) (e2 : tU ks ke kd r = U) (e3 : tE ks ke kd r = 0) (f1 : tF ks me md r = F') (f2 : tU ks me md r = U') (f3 : tE ks me md r = 0) (v1 : pV ks ke kd r t = p) (v2 : pV ks me md r t = p) (o1 : oV ks ke kd r cs ce cd z = m) (o2 : oE ks ke kd r cs ce cd z = 0) (o3 : oV ks me md r cs ce cd z = 0) (o4 : oE ks me md r cs ce cd z = 0) :
    Calls Try.prog 9 #[.agg #[.int .i64 ks, .int .i64 ke, .int .i64 kd], .agg #[.int .i64 ms, .int .i64 me, .int .i64 md], .int .i64 r, .int .i64 t, .agg #[.int .i64 cs, .int .i64 ce, .int .i64 cd], .int .i64 z] w fun e w' => e = .returned (.bool true) ∧ Below w.heap.size w w' := by
  have H1 := Lib.hid h1
  clear h1
  have H2 := Lib.hid h2
  clear h2
  have H3 := Lib.hid h3
  clear h3
  have XE1 := Lib.hid e1
  clear e1
  have XE2 := Lib.hid e2
  clear e2
  have XE3 := Lib.hid e3
  clear e3
  have XF1 := Lib.hid f1
  clear f1
  have XF2 := Lib.hid f2
  clear f2
  have XF3 := Lib.hid f3
  clear f3
  have XV1 := Lib.hid v1
  clear v1
  have XV2 := Lib.hid v2
  clear v2
  have XO1 := Lib.hid o1
  clear o1
  have XO2 := Lib.hid o2
  clear o2
  have XO3 := Lib.hid o3
  clear o3
  have XO4 := Lib.hid o4
  clear o4
  go_enter Try.func9, Try.ntmps9
  go_wp2_with fail
  have k0 : World.cell? (((w.alloc (.cells #[.int .i64 ks, .int .i64 ke, .int .i64 kd] 23)).alloc (.cells #[.int .i64 ms, .int .i64 me, .int .i64 md] 23)).alloc (.cells #[.int .i64 cs, .int .i64 ce, .int .i64 cd] 23)) ⟨w.heap.size, 0, none⟩ = some (.int .i64 ks) := by simp [go_sem]
  have k1 : World.cell? (((w.alloc (.cells #[.int .i64 ks, .int .i64 ke, .int .i64 kd] 23)).alloc (.cells #[.int .i64 ms, .int .i64 me, .int .i64 md] 23)).alloc (.cells #[.int .i64 cs, .int .i64 ce, .int .i64 cd] 23)) ⟨w.heap.size, 1, none⟩ = some (.int .i64 ke) := by simp [go_sem]
  have k2 : World.cell? (((w.alloc (.cells #[.int .i64 ks, .int .i64 ke, .int .i64 kd] 23)).alloc (.cells #[.int .i64 ms, .int .i64 me, .int .i64 md] 23)).alloc (.cells #[.int .i64 cs, .int .i64 ce, .int .i64 cd] 23)) ⟨w.heap.size, 2, none⟩ = some (.int .i64 kd) := by simp [go_sem]
  have m0 : World.cell? (((w.alloc (.cells #[.int .i64 ks, .int .i64 ke, .int .i64 kd] 23)).alloc (.cells #[.int .i64 ms, .int .i64 me, .int .i64 md] 23)).alloc (.cells #[.int .i64 cs, .int .i64 ce, .int .i64 cd] 23)) ⟨w.heap.size + 1, 0, none⟩ = some (.int .i64 ms) := by simp [go_sem]
  have m1 : World.cell? (((w.alloc (.cells #[.int .i64 ks, .int .i64 ke, .int .i64 kd] 23)).alloc (.cells #[.int .i64 ms, .int .i64 me, .int .i64 md] 23)).alloc (.cells #[.int .i64 cs, .int .i64 ce, .int .i64 cd] 23)) ⟨w.heap.size + 1, 1, none⟩ = some (.int .i64 me) := by simp [go_sem]
  have m2 : World.cell? (((w.alloc (.cells #[.int .i64 ks, .int .i64 ke, .int .i64 kd] 23)).alloc (.cells #[.int .i64 ms, .int .i64 me, .int .i64 md] 23)).alloc (.cells #[.int .i64 cs, .int .i64 ce, .int .i64 cd] 23)) ⟨w.heap.size + 1, 2, none⟩ = some (.int .i64 md) := by simp [go_sem]
  have c0 : World.cell? (((w.alloc (.cells #[.int .i64 ks, .int .i64 ke, .int .i64 kd] 23)).alloc (.cells #[.int .i64 ms, .int .i64 me, .int .i64 md] 23)).alloc (.cells #[.int .i64 cs, .int .i64 ce, .int .i64 cd] 23)) ⟨w.heap.size + 1 + 1, 0, none⟩ = some (.int .i64 cs) := by simp [go_sem]
  have c1 : World.cell? (((w.alloc (.cells #[.int .i64 ks, .int .i64 ke, .int .i64 kd] 23)).alloc (.cells #[.int .i64 ms, .int .i64 me, .int .i64 md] 23)).alloc (.cells #[.int .i64 cs, .int .i64 ce, .int .i64 cd] 23)) ⟨w.heap.size + 1 + 1, 1, none⟩ = some (.int .i64 ce) := by simp [go_sem]
  have c2 : World.cell? (((w.alloc (.cells #[.int .i64 ks, .int .i64 ke, .int .i64 kd] 23)).alloc (.cells #[.int .i64 ms, .int .i64 me, .int .i64 md] 23)).alloc (.cells #[.int .i64 cs, .int .i64 ce, .int .i64 cd] 23)) ⟨w.heap.size + 1 + 1, 2, none⟩ = some (.int .i64 cd) := by simp [go_sem]
  have gk : w.heap.size < (((w.alloc (.cells #[.int .i64 ks, .int .i64 ke, .int .i64 kd] 23)).alloc (.cells #[.int .i64 ms, .int .i64 me, .int .i64 md] 23)).alloc (.cells #[.int .i64 cs, .int .i64 ce, .int .i64 cd] 23)).heap.size := by simp <;> omega
  have gm : w.heap.size + 1 < (((w.alloc (.cells #[.int .i64 ks, .int .i64 ke, .int .i64 kd] 23)).alloc (.cells #[.int .i64 ms, .int .i64 me, .int .i64 md] 23)).alloc (.cells #[.int .i64 cs, .int .i64 ce, .int .i64 cd] 23)).heap.size := by simp <;> omega
  have gc : w.heap.size + 1 + 1 < (((w.alloc (.cells #[.int .i64 ks, .int .i64 ke, .int .i64 kd] 23)).alloc (.cells #[.int .i64 ms, .int .i64 me, .int .i64 md] 23)).alloc (.cells #[.int .i64 cs, .int .i64 ce, .int .i64 cd] 23)).heap.size := by simp <;> omega
  have B := Lib.hid (show Below w.heap.size w (((w.alloc (.cells #[.int .i64 ks, .int .i64 ke, .int .i64 kd] 23)).alloc (.cells #[.int .i64 ms, .int .i64 me, .int .i64 md] 23)).alloc (.cells #[.int .i64 cs, .int .i64 ce, .int .i64 cd] 23)) from ((((Below.refl _ _).alloc (by simp; try omega) _).alloc (by simp; try omega) _).alloc (by simp; try omega) _))
  generalize ((w.alloc (.cells #[.int .i64 ks, .int .i64 ke, .int .i64 kd] 23)).alloc (.cells #[.int .i64 ms, .int .i64 me, .int .i64 md] 23)).alloc (.cells #[.int .i64 cs, .int .i64 ce, .int .i64 cd] 23) = V1 at *
  refine (head_any _).mono ?_
  rintro e' w2 ⟨rfl, hb⟩
  replace B := Lib.hid (on_below B.out hb)
  replace k0 := keepc hb k0
  replace k1 := keepc hb k1
  replace k2 := keepc hb k2
  replace m0 := keepc hb m0
  replace m1 := keepc hb m1
  replace m2 := keepc hb m2
  replace c0 := keepc hb c0
  replace c1 := keepc hb c1
  replace c2 := keepc hb c2
  replace gk := Nat.lt_of_lt_of_le gk hb.size
  replace gm := Nat.lt_of_lt_of_le gm hb.size
  replace gc := Nat.lt_of_lt_of_le gc hb.size
  clear hb
  go_wp2_with fail
  have b0 : World.cell? (w2.alloc (.cells #[.int .i64 ks, .int .i64 me, .int .i64 md] 23)) ⟨w2.heap.size, 0, none⟩ = some (.int .i64 ks) := by simp [go_sem]
  have b1 : World.cell? (w2.alloc (.cells #[.int .i64 ks, .int .i64 me, .int .i64 md] 23)) ⟨w2.heap.size, 1, none⟩ = some (.int .i64 me) := by simp [go_sem]
  have b2 : World.cell? (w2.alloc (.cells #[.int .i64 ks, .int .i64 me, .int .i64 md] 23)) ⟨w2.heap.size, 2, none⟩ = some (.int .i64 md) := by simp [go_sem]
  have gb : w2.heap.size < (w2.alloc (.cells #[.int .i64 ks, .int .i64 me, .int .i64 md] 23)).heap.size := by simp <;> omega
  have hb : Below w2.heap.size w2 (w2.alloc (.cells #[.int .i64 ks, .int .i64 me, .int .i64 md] 23)) := ((Below.refl _ _).alloc (by simp; try omega) _)
  generalize w2.alloc (.cells #[.int .i64 ks, .int .i64 me, .int .i64 md] 23) = V3 at *
  replace B := Lib.hid (on_below B.out hb)
  replace k0 := keepc hb k0
  replace k1 := keepc hb k1
  replace k2 := keepc hb k2
  replace m0 := keepc hb m0
  replace m1 := keepc hb m1
  replace m2 := keepc hb m2
  replace c0 := keepc hb c0
  replace c1 := keepc hb c1
  replace c2 := keepc hb c2
  replace gk := Nat.lt_of_lt_of_le gk hb.size
  replace gm := Nat.lt_of_lt_of_le gm hb.size
  replace gc := Nat.lt_of_lt_of_le gc hb.size
  clear hb
  refine (reads_b ks ke kd r _ H1.out _).mono ?_
  rintro e' w4 ⟨rfl, hb⟩
  replace B := Lib.hid (on_below B.out hb)
  replace k0 := keepc hb k0
  replace k1 := keepc hb k1
  replace k2 := keepc hb k2
  replace m0 := keepc hb m0
  replace m1 := keepc hb m1
  replace m2 := keepc hb m2
  replace c0 := keepc hb c0
  replace c1 := keepc hb c1
  replace c2 := keepc hb c2
  replace b0 := keepc hb b0
  replace b1 := keepc hb b1
  replace b2 := keepc hb b2
  replace gk := Nat.lt_of_lt_of_le gk hb.size
  replace gm := Nat.lt_of_lt_of_le gm hb.size
  replace gc := Nat.lt_of_lt_of_le gc hb.size
  replace gb := Nat.lt_of_lt_of_le gb hb.size
  clear hb
  go_wp2_with fail
  refine (reads_b ks me md r _ H2.out _).mono ?_
  rintro e' w5 ⟨rfl, hb⟩
  replace B := Lib.hid (on_below B.out hb)
  replace k0 := keepc hb k0
  replace k1 := keepc hb k1
  replace k2 := keepc hb k2
  replace m0 := keepc hb m0
  replace m1 := keepc hb m1
  replace m2 := keepc hb m2
  replace c0 := keepc hb c0
  replace c1 := keepc hb c1
  replace c2 := keepc hb c2
  replace b0 := keepc hb b0
  replace b1 := keepc hb b1
  replace b2 := keepc hb b2
  replace gk := Nat.lt_of_lt_of_le gk hb.size
  replace gm := Nat.lt_of_lt_of_le gm hb.size
  replace gc := Nat.lt_of_lt_of_le gc hb.size
  replace gb := Nat.lt_of_lt_of_le gb hb.size
  clear hb
  go_wp2_with fail
  refine (reads_b cs ce cd z _ H3.out _).mono ?_
  rintro e' w6 ⟨rfl, hb⟩
  replace B := Lib.hid (on_below B.out hb)
  replace k0 := keepc hb k0
  replace k1 := keepc hb k1
  replace k2 := keepc hb k2
  replace m0 := keepc hb m0
  replace m1 := keepc hb m1
  replace m2 := keepc hb m2
  replace c0 := keepc hb c0
  replace c1 := keepc hb c1
  replace c2 := keepc hb c2
  replace b0 := keepc hb b0
  replace b1 := keepc hb b1
  replace b2 := keepc hb b2
  replace gk := Nat.lt_of_lt_of_le gk hb.size
  replace gm := Nat.lt_of_lt_of_le gm hb.size
  replace gc := Nat.lt_of_lt_of_le gc hb.size
  replace gb := Nat.lt_of_lt_of_le gb hb.size
  clear hb
  go_wp2_with fail
  refine (true_is ks ke kd r F U 0 XE1.out XE2.out XE3.out _).mono ?_
  rintro e' w7 ⟨rfl, hb⟩
  replace B := Lib.hid (on_below B.out hb)
  replace k0 := keepc hb k0
  replace k1 := keepc hb k1
  replace k2 := keepc hb k2
  replace m0 := keepc hb m0
  replace m1 := keepc hb m1
  replace m2 := keepc hb m2
  replace c0 := keepc hb c0
  replace c1 := keepc hb c1
  replace c2 := keepc hb c2
  replace b0 := keepc hb b0
  replace b1 := keepc hb b1
  replace b2 := keepc hb b2
  replace gk := Nat.lt_of_lt_of_le gk hb.size
  replace gm := Nat.lt_of_lt_of_le gm hb.size
  replace gc := Nat.lt_of_lt_of_le gc hb.size
  replace gb := Nat.lt_of_lt_of_le gb hb.size
  clear hb
  go_wp2_with fail
  have s0 : World.cell? (w7.alloc (.cells #[.int .i64 F, .int .i64 U] 25)) ⟨w7.heap.size, 0, none⟩ = some (.int .i64 F) := by simp [go_sem]
  have s1 : World.cell? (w7.alloc (.cells #[.int .i64 F, .int .i64 U] 25)) ⟨w7.heap.size, 1, none⟩ = some (.int .i64 U) := by simp [go_sem]
  have gs : w7.heap.size < (w7.alloc (.cells #[.int .i64 F, .int .i64 U] 25)).heap.size := by simp <;> omega
  have hb : Below w7.heap.size w7 (w7.alloc (.cells #[.int .i64 F, .int .i64 U] 25)) := ((Below.refl _ _).alloc (by simp; try omega) _)
  generalize w7.alloc (.cells #[.int .i64 F, .int .i64 U] 25) = V8 at *
  replace B := Lib.hid (on_below B.out hb)
  replace k0 := keepc hb k0
  replace k1 := keepc hb k1
  replace k2 := keepc hb k2
  replace m0 := keepc hb m0
  replace m1 := keepc hb m1
  replace m2 := keepc hb m2
  replace c0 := keepc hb c0
  replace c1 := keepc hb c1
  replace c2 := keepc hb c2
  replace b0 := keepc hb b0
  replace b1 := keepc hb b1
  replace b2 := keepc hb b2
  replace gk := Nat.lt_of_lt_of_le gk hb.size
  replace gm := Nat.lt_of_lt_of_le gm hb.size
  replace gc := Nat.lt_of_lt_of_le gc hb.size
  replace gb := Nat.lt_of_lt_of_le gb hb.size
  clear hb
  refine (true_is ks me md r F' U' 0 XF1.out XF2.out XF3.out _).mono ?_
  rintro e' w9 ⟨rfl, hb⟩
  replace B := Lib.hid (on_below B.out hb)
  replace k0 := keepc hb k0
  replace k1 := keepc hb k1
  replace k2 := keepc hb k2
  replace m0 := keepc hb m0
  replace m1 := keepc hb m1
  replace m2 := keepc hb m2
  replace c0 := keepc hb c0
  replace c1 := keepc hb c1
  replace c2 := keepc hb c2
  replace b0 := keepc hb b0
  replace b1 := keepc hb b1
  replace b2 := keepc hb b2
  replace s0 := keepc hb s0
  replace s1 := keepc hb s1
  replace gk := Nat.lt_of_lt_of_le gk hb.size
  replace gm := Nat.lt_of_lt_of_le gm hb.size
  replace gc := Nat.lt_of_lt_of_le gc hb.size
  replace gb := Nat.lt_of_lt_of_le gb hb.size
  replace gs := Nat.lt_of_lt_of_le gs hb.size
  clear hb
  go_wp2_with fail
  have v0 : World.cell? (w9.alloc (.cells #[.int .i64 F', .int .i64 U'] 25)) ⟨w9.heap.size, 0, none⟩ = some (.int .i64 F') := by simp [go_sem]
  have v1 : World.cell? (w9.alloc (.cells #[.int .i64 F', .int .i64 U'] 25)) ⟨w9.heap.size, 1, none⟩ = some (.int .i64 U') := by simp [go_sem]
  have gv : w9.heap.size < (w9.alloc (.cells #[.int .i64 F', .int .i64 U'] 25)).heap.size := by simp <;> omega
  have hb : Below w9.heap.size w9 (w9.alloc (.cells #[.int .i64 F', .int .i64 U'] 25)) := ((Below.refl _ _).alloc (by simp; try omega) _)
  generalize w9.alloc (.cells #[.int .i64 F', .int .i64 U'] 25) = V10 at *
  replace B := Lib.hid (on_below B.out hb)
  replace k0 := keepc hb k0
  replace k1 := keepc hb k1
  replace k2 := keepc hb k2
  replace m0 := keepc hb m0
  replace m1 := keepc hb m1
  replace m2 := keepc hb m2
  replace c0 := keepc hb c0
  replace c1 := keepc hb c1
  replace c2 := keepc hb c2
  replace b0 := keepc hb b0
  replace b1 := keepc hb b1
  replace b2 := keepc hb b2
  replace s0 := keepc hb s0
  replace s1 := keepc hb s1
  replace gk := Nat.lt_of_lt_of_le gk hb.size
  replace gm := Nat.lt_of_lt_of_le gm hb.size
  replace gc := Nat.lt_of_lt_of_le gc hb.size
  replace gb := Nat.lt_of_lt_of_le gb hb.size
  replace gs := Nat.lt_of_lt_of_le gs hb.size
  clear hb
  refine (passed_is ks ke kd r t p 0 XV1.out XE3.out _).mono ?_
  rintro e' w11 ⟨rfl, hb⟩
  replace B := Lib.hid (on_below B.out hb)
  replace k0 := keepc hb k0
  replace k1 := keepc hb k1
  replace k2 := keepc hb k2
  replace m0 := keepc hb m0
  replace m1 := keepc hb m1
  replace m2 := keepc hb m2
  replace c0 := keepc hb c0
  replace c1 := keepc hb c1
  replace c2 := keepc hb c2
  replace b0 := keepc hb b0
  replace b1 := keepc hb b1
  replace b2 := keepc hb b2
  replace s0 := keepc hb s0
  replace s1 := keepc hb s1
  replace v0 := keepc hb v0
  replace v1 := keepc hb v1
  replace gk := Nat.lt_of_lt_of_le gk hb.size
  replace gm := Nat.lt_of_lt_of_le gm hb.size
  replace gc := Nat.lt_of_lt_of_le gc hb.size
  replace gb := Nat.lt_of_lt_of_le gb hb.size
  replace gs := Nat.lt_of_lt_of_le gs hb.size
  replace gv := Nat.lt_of_lt_of_le gv hb.size
  clear hb
  go_wp2_with fail
  refine (passed_is ks me md r t p 0 XV2.out XF3.out _).mono ?_
  rintro e' w12 ⟨rfl, hb⟩
  replace B := Lib.hid (on_below B.out hb)
  replace k0 := keepc hb k0
  replace k1 := keepc hb k1
  replace k2 := keepc hb k2
  replace m0 := keepc hb m0
  replace m1 := keepc hb m1
  replace m2 := keepc hb m2
  replace c0 := keepc hb c0
  replace c1 := keepc hb c1
  replace c2 := keepc hb c2
  replace b0 := keepc hb b0
  replace b1 := keepc hb b1
  replace b2 := keepc hb b2
  replace s0 := keepc hb s0
  replace s1 := keepc hb s1
  replace v0 := keepc hb v0
  replace v1 := keepc hb v1
  replace gk := Nat.lt_of_lt_of_le gk hb.size
  replace gm := Nat.lt_of_lt_of_le gm hb.size
  replace gc := Nat.lt_of_lt_of_le gc hb.size
  replace gb := Nat.lt_of_lt_of_le gb hb.size
  replace gs := Nat.lt_of_lt_of_le gs hb.size
  replace gv := Nat.lt_of_lt_of_le gv hb.size
  clear hb
  go_wp2_with fail
  refine (order_is ks ke kd r cs ce cd z m 0 XO1.out XO2.out _).mono ?_
  rintro e' w13 ⟨rfl, hb⟩
  replace B := Lib.hid (on_below B.out hb)
  replace k0 := keepc hb k0
  replace k1 := keepc hb k1
  replace k2 := keepc hb k2
  replace m0 := keepc hb m0
  replace m1 := keepc hb m1
  replace m2 := keepc hb m2
  replace c0 := keepc hb c0
  replace c1 := keepc hb c1
  replace c2 := keepc hb c2
  replace b0 := keepc hb b0
  replace b1 := keepc hb b1
  replace b2 := keepc hb b2
  replace s0 := keepc hb s0
  replace s1 := keepc hb s1
  replace v0 := keepc hb v0
  replace v1 := keepc hb v1
  replace gk := Nat.lt_of_lt_of_le gk hb.size
  replace gm := Nat.lt_of_lt_of_le gm hb.size
  replace gc := Nat.lt_of_lt_of_le gc hb.size
  replace gb := Nat.lt_of_lt_of_le gb hb.size
  replace gs := Nat.lt_of_lt_of_le gs hb.size
  replace gv := Nat.lt_of_lt_of_le gv hb.size
  clear hb
  go_wp2_with fail
  refine (order_is ks me md r cs ce cd z 0 0 XO3.out XO4.out _).mono ?_
  rintro e' w14 ⟨rfl, hb⟩
  replace B := Lib.hid (on_below B.out hb)
  replace k0 := keepc hb k0
  replace k1 := keepc hb k1
  replace k2 := keepc hb k2
  replace m0 := keepc hb m0
  replace m1 := keepc hb m1
  replace m2 := keepc hb m2
  replace c0 := keepc hb c0
  replace c1 := keepc hb c1
  replace c2 := keepc hb c2
  replace b0 := keepc hb b0
  replace b1 := keepc hb b1
  replace b2 := keepc hb b2
  replace s0 := keepc hb s0
  replace s1 := keepc hb s1
  replace v0 := keepc hb v0
  replace v1 := keepc hb v1
  replace gk := Nat.lt_of_lt_of_le gk hb.size
  replace gm := Nat.lt_of_lt_of_le gm hb.size
  replace gc := Nat.lt_of_lt_of_le gc hb.size
  replace gb := Nat.lt_of_lt_of_le gb hb.size
  replace gs := Nat.lt_of_lt_of_le gs hb.size
  replace gv := Nat.lt_of_lt_of_le gv hb.size
  clear hb
  go_wp2_with fail
  all_goals go_ret
  all_goals exact ⟨rfl, B.out⟩
set_option maxRecDepth 100000 in
set_option maxHeartbeats 1000000 in
theorem ok11 (ks : Int) (iks : I64 ks) (ke : Int) (ike : I64 ke) (kd : Int) (ikd : I64 kd) (ms : Int) (ims : I64 ms) (me : Int) (ime : I64 me) (md : Int) (imd : I64 md) (r : Int) (ir : I64 r) (t : Int) (it : I64 t) (cs : Int) (ics : I64 cs) (ce : Int) (ice : I64 ce) (cd : Int) (icd : I64 cd) (z : Int) (iz : I64 z) (w : World) (h1 : rds ks ke kd r = true) (h2 : rds ks me md r = true) (h3 : rds cs ce cd z = true) (hx : ke ≤ me) (hy : kd ≤ md) (F U F' U' p m : Int) (l1 : F' ≤ F) (l2 : U ≤ U') (e1 : tF ks ke kd r = F) (e2 : tU ks ke kd r = U) (e3 : tE ks ke kd r = 0) (f1 : tF ks me md r = F') (f2 : tU ks me md r = U') (f3 : tE ks me md r = 0) (v1 : pV ks ke kd r t = p) (v2 : pV ks me md r t = p) (o1 : oV ks ke kd r cs ce cd z = m) (o2 : oE ks ke kd r cs ce cd z = 0) (o3 : oV ks me md r cs ce cd z = m) (o4 : oE ks me md r cs ce cd z = 0) :
    Calls Try.prog 9 #[.agg #[.int .i64 ks, .int .i64 ke, .int .i64 kd], .agg #[.int .i64 ms, .int .i64 me, .int .i64 md], .int .i64 r, .int .i64 t, .agg #[.int .i64 cs, .int .i64 ce, .int .i64 cd], .int .i64 z] w fun e w' => e = .returned (.bool true) ∧ Below w.heap.size w w' := by
  have H1 := Lib.hid h1
  clear h1
  have H2 := Lib.hid h2
  clear h2
  have H3 := Lib.hid h3
  clear h3
  have XE1 := Lib.hid e1
  clear e1
  have XE2 := Lib.hid e2
  clear e2
  have XE3 := Lib.hid e3
  clear e3
  have XF1 := Lib.hid f1
  clear f1
  have XF2 := Lib.hid f2
  clear f2
  have XF3 := Lib.hid f3
  clear f3
  have XV1 := Lib.hid v1
  clear v1
  have XV2 := Lib.hid v2
  clear v2
  have XO1 := Lib.hid o1
  clear o1
  have XO2 := Lib.hid o2
  clear o2
  have XO3 := Lib.hid o3
  clear o3
  have XO4 := Lib.hid o4
  clear o4
  go_enter Try.func9, Try.ntmps9
  go_wp2_with fail
  have k0 : World.cell? (((w.alloc (.cells #[.int .i64 ks, .int .i64 ke, .int .i64 kd] 23)).alloc (.cells #[.int .i64 ms, .int .i64 me, .int .i64 md] 23)).alloc (.cells #[.int .i64 cs, .int .i64 ce, .int .i64 cd] 23)) ⟨w.heap.size, 0, none⟩ = some (.int .i64 ks) := by simp [go_sem]
  have k1 : World.cell? (((w.alloc (.cells #[.int .i64 ks, .int .i64 ke, .int .i64 kd] 23)).alloc (.cells #[.int .i64 ms, .int .i64 me, .int .i64 md] 23)).alloc (.cells #[.int .i64 cs, .int .i64 ce, .int .i64 cd] 23)) ⟨w.heap.size, 1, none⟩ = some (.int .i64 ke) := by simp [go_sem]
  have k2 : World.cell? (((w.alloc (.cells #[.int .i64 ks, .int .i64 ke, .int .i64 kd] 23)).alloc (.cells #[.int .i64 ms, .int .i64 me, .int .i64 md] 23)).alloc (.cells #[.int .i64 cs, .int .i64 ce, .int .i64 cd] 23)) ⟨w.heap.size, 2, none⟩ = some (.int .i64 kd) := by simp [go_sem]
  have m0 : World.cell? (((w.alloc (.cells #[.int .i64 ks, .int .i64 ke, .int .i64 kd] 23)).alloc (.cells #[.int .i64 ms, .int .i64 me, .int .i64 md] 23)).alloc (.cells #[.int .i64 cs, .int .i64 ce, .int .i64 cd] 23)) ⟨w.heap.size + 1, 0, none⟩ = some (.int .i64 ms) := by simp [go_sem]
  have m1 : World.cell? (((w.alloc (.cells #[.int .i64 ks, .int .i64 ke, .int .i64 kd] 23)).alloc (.cells #[.int .i64 ms, .int .i64 me, .int .i64 md] 23)).alloc (.cells #[.int .i64 cs, .int .i64 ce, .int .i64 cd] 23)) ⟨w.heap.size + 1, 1, none⟩ = some (.int .i64 me) := by simp [go_sem]
  have m2 : World.cell? (((w.alloc (.cells #[.int .i64 ks, .int .i64 ke, .int .i64 kd] 23)).alloc (.cells #[.int .i64 ms, .int .i64 me, .int .i64 md] 23)).alloc (.cells #[.int .i64 cs, .int .i64 ce, .int .i64 cd] 23)) ⟨w.heap.size + 1, 2, none⟩ = some (.int .i64 md) := by simp [go_sem]
  have c0 : World.cell? (((w.alloc (.cells #[.int .i64 ks, .int .i64 ke, .int .i64 kd] 23)).alloc (.cells #[.int .i64 ms, .int .i64 me, .int .i64 md] 23)).alloc (.cells #[.int .i64 cs, .int .i64 ce, .int .i64 cd] 23)) ⟨w.heap.size + 1 + 1, 0, none⟩ = some (.int .i64 cs) := by simp [go_sem]
  have c1 : World.cell? (((w.alloc (.cells #[.int .i64 ks, .int .i64 ke, .int .i64 kd] 23)).alloc (.cells #[.int .i64 ms, .int .i64 me, .int .i64 md] 23)).alloc (.cells #[.int .i64 cs, .int .i64 ce, .int .i64 cd] 23)) ⟨w.heap.size + 1 + 1, 1, none⟩ = some (.int .i64 ce) := by simp [go_sem]
  have c2 : World.cell? (((w.alloc (.cells #[.int .i64 ks, .int .i64 ke, .int .i64 kd] 23)).alloc (.cells #[.int .i64 ms, .int .i64 me, .int .i64 md] 23)).alloc (.cells #[.int .i64 cs, .int .i64 ce, .int .i64 cd] 23)) ⟨w.heap.size + 1 + 1, 2, none⟩ = some (.int .i64 cd) := by simp [go_sem]
  have gk : w.heap.size < (((w.alloc (.cells #[.int .i64 ks, .int .i64 ke, .int .i64 kd] 23)).alloc (.cells #[.int .i64 ms, .int .i64 me, .int .i64 md] 23)).alloc (.cells #[.int .i64 cs, .int .i64 ce, .int .i64 cd] 23)).heap.size := by simp <;> omega
  have gm : w.heap.size + 1 < (((w.alloc (.cells #[.int .i64 ks, .int .i64 ke, .int .i64 kd] 23)).alloc (.cells #[.int .i64 ms, .int .i64 me, .int .i64 md] 23)).alloc (.cells #[.int .i64 cs, .int .i64 ce, .int .i64 cd] 23)).heap.size := by simp <;> omega
  have gc : w.heap.size + 1 + 1 < (((w.alloc (.cells #[.int .i64 ks, .int .i64 ke, .int .i64 kd] 23)).alloc (.cells #[.int .i64 ms, .int .i64 me, .int .i64 md] 23)).alloc (.cells #[.int .i64 cs, .int .i64 ce, .int .i64 cd] 23)).heap.size := by simp <;> omega
  have B := Lib.hid (show Below w.heap.size w (((w.alloc (.cells #[.int .i64 ks, .int .i64 ke, .int .i64 kd] 23)).alloc (.cells #[.int .i64 ms, .int .i64 me, .int .i64 md] 23)).alloc (.cells #[.int .i64 cs, .int .i64 ce, .int .i64 cd] 23)) from ((((Below.refl _ _).alloc (by simp; try omega) _).alloc (by simp; try omega) _).alloc (by simp; try omega) _))
  generalize ((w.alloc (.cells #[.int .i64 ks, .int .i64 ke, .int .i64 kd] 23)).alloc (.cells #[.int .i64 ms, .int .i64 me, .int .i64 md] 23)).alloc (.cells #[.int .i64 cs, .int .i64 ce, .int .i64 cd] 23) = V1 at *
  refine (head_any _).mono ?_
  rintro e' w2 ⟨rfl, hb⟩
  replace B := Lib.hid (on_below B.out hb)
  replace k0 := keepc hb k0
  replace k1 := keepc hb k1
  replace k2 := keepc hb k2
  replace m0 := keepc hb m0
  replace m1 := keepc hb m1
  replace m2 := keepc hb m2
  replace c0 := keepc hb c0
  replace c1 := keepc hb c1
  replace c2 := keepc hb c2
  replace gk := Nat.lt_of_lt_of_le gk hb.size
  replace gm := Nat.lt_of_lt_of_le gm hb.size
  replace gc := Nat.lt_of_lt_of_le gc hb.size
  clear hb
  go_wp2_with fail
  have b0 : World.cell? (w2.alloc (.cells #[.int .i64 ks, .int .i64 me, .int .i64 md] 23)) ⟨w2.heap.size, 0, none⟩ = some (.int .i64 ks) := by simp [go_sem]
  have b1 : World.cell? (w2.alloc (.cells #[.int .i64 ks, .int .i64 me, .int .i64 md] 23)) ⟨w2.heap.size, 1, none⟩ = some (.int .i64 me) := by simp [go_sem]
  have b2 : World.cell? (w2.alloc (.cells #[.int .i64 ks, .int .i64 me, .int .i64 md] 23)) ⟨w2.heap.size, 2, none⟩ = some (.int .i64 md) := by simp [go_sem]
  have gb : w2.heap.size < (w2.alloc (.cells #[.int .i64 ks, .int .i64 me, .int .i64 md] 23)).heap.size := by simp <;> omega
  have hb : Below w2.heap.size w2 (w2.alloc (.cells #[.int .i64 ks, .int .i64 me, .int .i64 md] 23)) := ((Below.refl _ _).alloc (by simp; try omega) _)
  generalize w2.alloc (.cells #[.int .i64 ks, .int .i64 me, .int .i64 md] 23) = V3 at *
  replace B := Lib.hid (on_below B.out hb)
  replace k0 := keepc hb k0
  replace k1 := keepc hb k1
  replace k2 := keepc hb k2
  replace m0 := keepc hb m0
  replace m1 := keepc hb m1
  replace m2 := keepc hb m2
  replace c0 := keepc hb c0
  replace c1 := keepc hb c1
  replace c2 := keepc hb c2
  replace gk := Nat.lt_of_lt_of_le gk hb.size
  replace gm := Nat.lt_of_lt_of_le gm hb.size
  replace gc := Nat.lt_of_lt_of_le gc hb.size
  clear hb
  refine (reads_b ks ke kd r _ H1.out _).mono ?_
  rintro e' w4 ⟨rfl, hb⟩
  replace B := Lib.hid (on_below B.out hb)
  replace k0 := keepc hb k0
  replace k1 := keepc hb k1
  replace k2 := keepc hb k2
  replace m0 := keepc hb m0
  replace m1 := keepc hb m1
  replace m2 := keepc hb m2
  replace c0 := keepc hb c0
  replace c1 := keepc hb c1
  replace c2 := keepc hb c2
  replace b0 := keepc hb b0
  replace b1 := keepc hb b1
  replace b2 := keepc hb b2
  replace gk := Nat.lt_of_lt_of_le gk hb.size
  replace gm := Nat.lt_of_lt_of_le gm hb.size
  replace gc := Nat.lt_of_lt_of_le gc hb.size
  replace gb := Nat.lt_of_lt_of_le gb hb.size
  clear hb
  go_wp2_with fail
  refine (reads_b ks me md r _ H2.out _).mono ?_
  rintro e' w5 ⟨rfl, hb⟩
  replace B := Lib.hid (on_below B.out hb)
  replace k0 := keepc hb k0
  replace k1 := keepc hb k1
  replace k2 := keepc hb k2
  replace m0 := keepc hb m0
  replace m1 := keepc hb m1
  replace m2 := keepc hb m2
  replace c0 := keepc hb c0
  replace c1 := keepc hb c1
  replace c2 := keepc hb c2
  replace b0 := keepc hb b0
  replace b1 := keepc hb b1
  replace b2 := keepc hb b2
  replace gk := Nat.lt_of_lt_of_le gk hb.size
  replace gm := Nat.lt_of_lt_of_le gm hb.size
  replace gc := Nat.lt_of_lt_of_le gc hb.size
  replace gb := Nat.lt_of_lt_of_le gb hb.size
  clear hb
  go_wp2_with fail
  refine (reads_b cs ce cd z _ H3.out _).mono ?_
  rintro e' w6 ⟨rfl, hb⟩
  replace B := Lib.hid (on_below B.out hb)
  replace k0 := keepc hb k0
  replace k1 := keepc hb k1
  replace k2 := keepc hb k2
  replace m0 := keepc hb m0
  replace m1 := keepc hb m1
  replace m2 := keepc hb m2
  replace c0 := keepc hb c0
  replace c1 := keepc hb c1
  replace c2 := keepc hb c2
  replace b0 := keepc hb b0
  replace b1 := keepc hb b1
  replace b2 := keepc hb b2
  replace gk := Nat.lt_of_lt_of_le gk hb.size
  replace gm := Nat.lt_of_lt_of_le gm hb.size
  replace gc := Nat.lt_of_lt_of_le gc hb.size
  replace gb := Nat.lt_of_lt_of_le gb hb.size
  clear hb
  go_wp2_with fail
  refine (true_is ks ke kd r F U 0 XE1.out XE2.out XE3.out _).mono ?_
  rintro e' w7 ⟨rfl, hb⟩
  replace B := Lib.hid (on_below B.out hb)
  replace k0 := keepc hb k0
  replace k1 := keepc hb k1
  replace k2 := keepc hb k2
  replace m0 := keepc hb m0
  replace m1 := keepc hb m1
  replace m2 := keepc hb m2
  replace c0 := keepc hb c0
  replace c1 := keepc hb c1
  replace c2 := keepc hb c2
  replace b0 := keepc hb b0
  replace b1 := keepc hb b1
  replace b2 := keepc hb b2
  replace gk := Nat.lt_of_lt_of_le gk hb.size
  replace gm := Nat.lt_of_lt_of_le gm hb.size
  replace gc := Nat.lt_of_lt_of_le gc hb.size
  replace gb := Nat.lt_of_lt_of_le gb hb.size
  clear hb
  go_wp2_with fail
  have s0 : World.cell? (w7.alloc (.cells #[.int .i64 F, .int .i64 U] 25)) ⟨w7.heap.size, 0, none⟩ = some (.int .i64 F) := by simp [go_sem]
  have s1 : World.cell? (w7.alloc (.cells #[.int .i64 F, .int .i64 U] 25)) ⟨w7.heap.size, 1, none⟩ = some (.int .i64 U) := by simp [go_sem]
  have gs : w7.heap.size < (w7.alloc (.cells #[.int .i64 F, .int .i64 U] 25)).heap.size := by simp <;> omega
  have hb : Below w7.heap.size w7 (w7.alloc (.cells #[.int .i64 F, .int .i64 U] 25)) := ((Below.refl _ _).alloc (by simp; try omega) _)
  generalize w7.alloc (.cells #[.int .i64 F, .int .i64 U] 25) = V8 at *
  replace B := Lib.hid (on_below B.out hb)
  replace k0 := keepc hb k0
  replace k1 := keepc hb k1
  replace k2 := keepc hb k2
  replace m0 := keepc hb m0
  replace m1 := keepc hb m1
  replace m2 := keepc hb m2
  replace c0 := keepc hb c0
  replace c1 := keepc hb c1
  replace c2 := keepc hb c2
  replace b0 := keepc hb b0
  replace b1 := keepc hb b1
  replace b2 := keepc hb b2
  replace gk := Nat.lt_of_lt_of_le gk hb.size
  replace gm := Nat.lt_of_lt_of_le gm hb.size
  replace gc := Nat.lt_of_lt_of_le gc hb.size
  replace gb := Nat.lt_of_lt_of_le gb hb.size
  clear hb
  refine (true_is ks me md r F' U' 0 XF1.out XF2.out XF3.out _).mono ?_
  rintro e' w9 ⟨rfl, hb⟩
  replace B := Lib.hid (on_below B.out hb)
  replace k0 := keepc hb k0
  replace k1 := keepc hb k1
  replace k2 := keepc hb k2
  replace m0 := keepc hb m0
  replace m1 := keepc hb m1
  replace m2 := keepc hb m2
  replace c0 := keepc hb c0
  replace c1 := keepc hb c1
  replace c2 := keepc hb c2
  replace b0 := keepc hb b0
  replace b1 := keepc hb b1
  replace b2 := keepc hb b2
  replace s0 := keepc hb s0
  replace s1 := keepc hb s1
  replace gk := Nat.lt_of_lt_of_le gk hb.size
  replace gm := Nat.lt_of_lt_of_le gm hb.size
  replace gc := Nat.lt_of_lt_of_le gc hb.size
  replace gb := Nat.lt_of_lt_of_le gb hb.size
  replace gs := Nat.lt_of_lt_of_le gs hb.size
  clear hb
  go_wp2_with fail
  have v0 : World.cell? (w9.alloc (.cells #[.int .i64 F', .int .i64 U'] 25)) ⟨w9.heap.size, 0, none⟩ = some (.int .i64 F') := by simp [go_sem]
  have v1 : World.cell? (w9.alloc (.cells #[.int .i64 F', .int .i64 U'] 25)) ⟨w9.heap.size, 1, none⟩ = some (.int .i64 U') := by simp [go_sem]
  have gv : w9.heap.size < (w9.alloc (.cells #[.int .i64 F', .int .i64 U'] 25)).heap.size := by simp <;> omega
  have hb : Below w9.heap.size w9 (w9.alloc (.cells #[.int .i64 F', .int .i64 U'] 25)) := ((Below.refl _ _).alloc (by simp; try omega) _)
  generalize w9.alloc (.cells #[.int .i64 F', .int .i64 U'] 25) = V10 at *
  replace B := Lib.hid (on_below B.out hb)
  replace k0 := keepc hb k0
  replace k1 := keepc hb k1
  replace k2 := keepc hb k2
  replace m0 := keepc hb m0
  replace m1 := keepc hb m1
  replace m2 := keepc hb m2
  replace c0 := keepc hb c0
  replace c1 := keepc hb c1
  replace c2 := keepc hb c2
  replace b0 := keepc hb b0
  replace b1 := keepc hb b1
  replace b2 := keepc hb b2
  replace s0 := keepc hb s0
  replace s1 := keepc hb s1
  replace gk := Nat.lt_of_lt_of_le gk hb.size
  replace gm := Nat.lt_of_lt_of_le gm hb.size
  replace gc := Nat.lt_of_lt_of_le gc hb.size
  replace gb := Nat.lt_of_lt_of_le gb hb.size
  replace gs := Nat.lt_of_lt_of_le gs hb.size
  clear hb
  refine (passed_is ks ke kd r t p 0 XV1.out XE3.out _).mono ?_
  rintro e' w11 ⟨rfl, hb⟩
  replace B := Lib.hid (on_below B.out hb)
  replace k0 := keepc hb k0
  replace k1 := keepc hb k1
  replace k2 := keepc hb k2
  replace m0 := keepc hb m0
  replace m1 := keepc hb m1
  replace m2 := keepc hb m2
  replace c0 := keepc hb c0
  replace c1 := keepc hb c1
  replace c2 := keepc hb c2
  replace b0 := keepc hb b0
  replace b1 := keepc hb b1
  replace b2 := keepc hb b2
  replace s0 := keepc hb s0
  replace s1 := keepc hb s1
  replace v0 := keepc hb v0
  replace v1 := keepc hb v1
  replace gk := Nat.lt_of_lt_of_le gk hb.size
  replace gm := Nat.lt_of_lt_of_le gm hb.size
  replace gc := Nat.lt_of_lt_of_le gc hb.size
  replace gb := Nat.lt_of_lt_of_le gb hb.size
  replace gs := Nat.lt_of_lt_of_le gs hb.size
  replace gv := Nat.lt_of_lt_of_le gv hb.size
  clear hb
  go_wp2_with fail
  refine (passed_is ks me md r t p 0 XV2.out XF3.out _).mono ?_
  rintro e' w12 ⟨rfl, hb⟩
  replace B := Lib.hid (on_below B.out hb)
  replace k0 := keepc hb k0
  replace k1 := keepc hb k1
  replace k2 := keepc hb k2
  replace m0 := keepc hb m0
  replace m1 := keepc hb m1
  replace m2 := keepc hb m2
  replace c0 := keepc hb c0
  replace c1 := keepc hb c1
  replace c2 := keepc hb c2
  replace b0 := keepc hb b0
  replace b1 := keepc hb b1
  replace b2 := keepc hb b2
  replace s0 := keepc hb s0
  replace s1 := keepc hb s1
  replace v0 := keepc hb v0
  replace v1 := keepc hb v1
  replace gk := Nat.lt_of_lt_of_le gk hb.size
  replace gm := Nat.lt_of_lt_of_le gm hb.size
  replace gc := Nat.lt_of_lt_of_le gc hb.size
  replace gb := Nat.lt_of_lt_of_le gb hb.size
  replace gs := Nat.lt_of_lt_of_le gs hb.size
  replace gv := Nat.lt_of_lt_of_le gv hb.size
  clear hb
  go_wp2_with fail
  refine (order_is ks ke kd r cs ce cd z m 0 XO1.out XO2.out _).mono ?_
  rintro e' w13 ⟨rfl, hb⟩
  replace B := Lib.hid (on_below B.out hb)
  replace k0 := keepc hb k0
  replace k1 := keepc hb k1
  replace k2 := keepc hb k2
  replace m0 := keepc hb m0
  replace m1 := keepc hb m1
  replace m2 := keepc hb m2
  replace c0 := keepc hb c0
  replace c1 := keepc hb c1
  replace c2 := keepc hb c2
  replace b0 := keepc hb b0
  replace b1 := keepc hb b1
  replace b2 := keepc hb b2
  replace s0 := keepc hb s0
  replace s1 := keepc hb s1
  replace v0 := keepc hb v0
  replace v1 := keepc hb v1
  replace gk := Nat.lt_of_lt_of_le gk hb.size
  replace gm := Nat.lt_of_lt_of_le gm hb.size
  replace gc := Nat.lt_of_lt_of_le gc hb.size
  replace gb := Nat.lt_of_lt_of_le gb hb.size
  replace gs := Nat.lt_of_lt_of_le gs hb.size
  replace gv := Nat.lt_of_lt_of_le gv hb.size
  clear hb
  go_wp2_with fail
  refine (order_is ks me md r cs ce cd z m 0 XO3.out XO4.out _).mono ?_
  rintro e' w14 ⟨rfl, hb⟩
  replace B := Lib.hid (on_below B.out hb)
  replace k0 := keepc hb k0
  replace k1 := keepc hb k1
  replace k2 := keepc hb k2
  replace m0 := keepc hb m0
  replace m1 := keepc hb m1
  replace m2 := keepc hb m2
  replace c0 := keepc hb c0
  replace c1 := keepc hb c1
  replace c2 := keepc hb c2
  replace b0 := keepc hb b0
  replace b1 := keepc hb b1
  replace b2 := keepc hb b2
  replace s0 := keepc hb s0
  replace s1 := keepc hb s1
  replace v0 := keepc hb v0
  replace v1 := keepc hb v1
  replace gk := Nat.lt_of_lt_of_le gk hb.size
  replace gm := Nat.lt_of_lt_of_le gm hb.size
  replace gc := Nat.lt_of_lt_of_le gc hb.size
  replace gb := Nat.lt_of_lt_of_le gb hb.size
  replace gs := Nat.lt_of_lt_of_le gs hb.size
  replace gv := Nat.lt_of_lt_of_le gv hb.size
  clear hb
  go_wp2_with fail
  all_goals go_ret
  all_goals exact ⟨rfl, B.out⟩

theorem sure {F U F' U' G V : Int} (h1 : F' ≤ F) (h2 : U ≤ U') (b1 : F < U) (b2 : F' < U') (b3 : G ≤ V) : sd F' U' G V = 0 ∨ sd F' U' G V = sd F U G V := by unfold sd; omega
theorem walk (ks : Int) (iks : I64 ks) (ke : Int) (ike : I64 ke) (kd : Int) (ikd : I64 kd) (ms : Int) (ims : I64 ms) (me : Int) (ime : I64 me) (md : Int) (imd : I64 md) (r : Int) (ir : I64 r) (t : Int) (it : I64 t) (cs : Int) (ics : I64 cs) (ce : Int) (ice : I64 ce) (cd : Int) (icd : I64 cd) (z : Int) (iz : I64 z) (w : World) :
    Calls Try.prog 9 #[.agg #[.int .i64 ks, .int .i64 ke, .int .i64 kd], .agg #[.int .i64 ms, .int .i64 me, .int .i64 md], .int .i64 r, .int .i64 t, .agg #[.int .i64 cs, .int .i64 ce, .int .i64 cd], .int .i64 z] w fun e w' => e = .returned (.bool true) ∧ Below w.heap.size w w' := by
  cases h1 : rds ks ke kd r with
  | false => exact no1 ks iks ke ike kd ikd ms ims me ime md imd r ir t it cs ics ce ice cd icd z iz w h1
  | true =>
  cases h2 : rds ks me md r with
  | false => exact no2 ks iks ke ike kd ikd ms ims me ime md imd r ir t it cs ics ce ice cd icd z iz w h1 h2
  | true =>
  rcases Int.lt_or_le me ke with hx | hx
  · exact no3 ks iks ke ike kd ikd ms ims me ime md imd r ir t it cs ics ce ice cd icd z iz w h1 h2 hx
  rcases Int.lt_or_le md kd with hy | hy
  · exact no4 ks iks ke ike kd ikd ms ims me ime md imd r ir t it cs ics ce ice cd icd z iz w h1 h2 hx hy
  cases h3 : rds cs ce cd z with
  | false => exact no5 ks iks ke ike kd ikd ms ims me ime md imd r ir t it cs ics ce ice cd icd z iz w h1 h2 hx hy h3
  | true =>
  have l := wider h1 hx hy
  have b1 := in_bd h1
  have b2 := in_bd h2
  have a1 := pV_ok (t := t) h1
  have a2 := pV_ok (t := t) h2
  have a3 := oV_ok h1 h3
  have a4 := oV_ok h2 h3
  have s1 := sure (G := t) (V := t) l.1 l.2 (by omega) (by omega) (Int.le_refl _)
  have b3 := in_bd h3
  have s2 := sure (G := frm cs ce cd z) (V := unt cs ce cd z) l.1 l.2 (by omega) (by omega) (by omega)
  rw [← a1, ← a2] at s1
  rw [← a3, ← a4] at s2
  clear a1 a2 a3 a4
  rcases s1 with s1 | s1 <;> rcases s2 with s2 | s2
  · exact ok00 ks iks ke ike kd ikd ms ims me ime md imd r ir t it cs ics ce ice cd icd z iz w h1 h2 h3 hx hy _ _ _ _ _ _ l.1 l.2 (tF_ok h1) (tU_ok h1) (tE_ok h1) (tF_ok h2) (tU_ok h2) (tE_ok h2) rfl s1 rfl (oE_ok h1 h3) s2 (oE_ok h2 h3)
  · exact ok01 ks iks ke ike kd ikd ms ims me ime md imd r ir t it cs ics ce ice cd icd z iz w h1 h2 h3 hx hy _ _ _ _ _ _ l.1 l.2 (tF_ok h1) (tU_ok h1) (tE_ok h1) (tF_ok h2) (tU_ok h2) (tE_ok h2) rfl s1 rfl (oE_ok h1 h3) s2 (oE_ok h2 h3)
  · exact ok10 ks iks ke ike kd ikd ms ims me ime md imd r ir t it cs ics ce ice cd icd z iz w h1 h2 h3 hx hy _ _ _ _ _ _ l.1 l.2 (tF_ok h1) (tU_ok h1) (tE_ok h1) (tF_ok h2) (tU_ok h2) (tE_ok h2) rfl s1 rfl (oE_ok h1 h3) s2 (oE_ok h2 h3)
  · exact ok11 ks iks ke ike kd ikd ms ims me ime md imd r ir t it cs ics ce ice cd icd z iz w h1 h2 h3 hx hy _ _ _ _ _ _ l.1 l.2 (tF_ok h1) (tU_ok h1) (tE_ok h1) (tF_ok h2) (tU_ok h2) (tE_ok h2) rfl s1 rfl (oE_ok h1 h3) s2 (oE_ok h2 h3)

/-! ### The row -/
open Go.ChangeShapes Go.WideShapes Go.ChangeAt Go.Joins
theorem own : ownKnob Try.prog.godebug = none := by kernel_rfl
noncomputable def laidWorld (os : Os) : World := World.holding Try.prog os ⟨#[], #[], []⟩
theorem laidWorld_met (os : Os) (args : Array Value) : laidMet Try.prog [] ((laidWorld os).forCall (fun _ _ => 0) ⟨#[], args, []⟩).memory :=
  laidMet_of_run' 8 (by kernel_rfl) (by kernel_rfl)

set_option maxRecDepth 100000 in
theorem contract (H : Type) (enc : TypeId × Value → H) (W : World) (base : Nat) (args : Array Value) (ds gs : List (DataW H)) (before : List MemPlace)
    (hval : ∀ (j : Nat) t v, Try.f9.params[j]? = some t → args[j]? = some v → Value.okWide Try.prog W .any base t v)
    (hW : DataW.Whole enc Try.prog Try.f9.params.toList Rows.clockWiderSpec.vars false W args.toList ds gs before) :
    Calls Try.prog 9 args W fun e W' => ∃ v, e = .returned v ∧ Rows.clockWiderSpec.post enc Try.prog Try.f9 false true false false W args v W' := by
  have hW' := hW
  obtain ⟨p, q, hA0, hV, rfl, hfz, hnd⟩ := hW
  have hA : DataW.TrodAll enc Try.prog W 0 (fun _ => true) true Try.f9.params.toList args.toList ds p := hA0
  rw [Try.params9] at hA hval
  obtain ⟨v0, vs0, d0, ds0, p0, q0, hargs, rfl, rfl, h0, r0⟩ := trodAll_cons hA
  obtain ⟨v1, vs1, d1, ds1, p1, q1, rfl, rfl, rfl, h1, r1⟩ := trodAll_cons r0
  obtain ⟨v2, vs2, d2, ds2, p2, q2, rfl, rfl, rfl, h2, r2⟩ := trodAll_cons r1
  obtain ⟨v3, vs3, d3, ds3, p3, q3, rfl, rfl, rfl, h3, r3⟩ := trodAll_cons r2
  obtain ⟨v4, vs4, d4, ds4, p4, q4, rfl, rfl, rfl, h4, r4⟩ := trodAll_cons r3
  obtain ⟨v5, vs5, d5, ds5, p5, q5, rfl, rfl, rfl, h5, r5⟩ := trodAll_cons r4
  obtain ⟨rfl, rfl, rfl⟩ := trodAll_nil r5
  obtain rfl : args = #[v0, v1, v2, v3, v4, v5] := Array.toList_inj.1 hargs
  obtain ⟨rfl, rfl⟩ := trodVars_none hV
  obtain ⟨ks, ke, kd, rfl, rfl, rfl, iks, ike, ikd⟩ := open_clock (hval 0 23 v0 rfl rfl) h0
  obtain ⟨ms, me, md, rfl, rfl, rfl, ims, ime, imd⟩ := open_clock (hval 1 23 v1 rfl rfl) h1
  obtain ⟨r, rfl, rfl, rfl, wr⟩ := open_int Try.underlying3 (hval 2 3 v2 rfl rfl) h2
  obtain ⟨t, rfl, rfl, rfl, wt⟩ := open_int Try.underlying3 (hval 3 3 v3 rfl rfl) h3
  obtain ⟨cs, ce, cd, rfl, rfl, rfl, ics, ice, icd⟩ := open_clock (hval 4 23 v4 rfl rfl) h4
  obtain ⟨z, rfl, rfl, rfl, wz⟩ := open_int Try.underlying3 (hval 5 3 v5 rfl rfl) h5
  clear hA0
  refine (walk ks (wf_i iks) ke (wf_i ike) kd (wf_i ikd) ms (wf_i ims) me (wf_i ime) md (wf_i imd) r (wf_i wr) t (wf_i wt) cs (wf_i ics) ce (wf_i ice) cd (wf_i icd) z (wf_i wz) W).mono fun e W' ⟨he, bel⟩ => ?_
  subst he
  exact ⟨_, rfl, _, _, _, [], _, [], hW', trodAll_mk1 (shut_bool Try.underlying4 _), (trodAll_cons_mk (shut_clock iks ike ikd) (trodAll_cons_mk (shut_clock ims ime imd) (trodAll_cons_mk (shut_int Try.underlying3 wr) (trodAll_cons_mk (shut_int Try.underlying3 wt) (trodAll_cons_mk (shut_clock ics ice icd) (trodAll_cons_mk (shut_int Try.underlying3 wz) trodAll_mk0)))))), rfl, bel.frame _, fun h => by cases h⟩

theorem reads (os : Os) {H : Type} (enc : TypeId × Value → H) : ∃ places, DataW.whole enc Try.prog ((laidWorld os).forCall (fun _ _ => 0) ⟨#[], #[.agg #[.int .i64 0, .int .i64 0, .int .i64 0], .agg #[.int .i64 0, .int .i64 0, .int .i64 0], .int .i64 0, .int .i64 0, .agg #[.int .i64 0, .int .i64 0, .int .i64 0], .int .i64 0], []⟩).memory Try.f9.params.toList Rows.clockWiderSpec.vars false (#[.agg #[.int .i64 0, .int .i64 0, .int .i64 0], .agg #[.int .i64 0, .int .i64 0, .int .i64 0], .int .i64 0, .int .i64 0, .agg #[.int .i64 0, .int .i64 0, .int .i64 0], .int .i64 0] : Array Value).toList 8 = some ([.agg [.lit (.int .i64 0), .lit (.int .i64 0), .lit (.int .i64 0)], .agg [.lit (.int .i64 0), .lit (.int .i64 0), .lit (.int .i64 0)], .lit (.int .i64 0), .lit (.int .i64 0), .agg [.lit (.int .i64 0), .lit (.int .i64 0), .lit (.int .i64 0)], .lit (.int .i64 0)], [], places) :=
  ⟨[], by kernel_rfl⟩

set_option maxRecDepth 100000 in
theorem lifted (os : Os) (started : os.Started) (H : Type) (enc : TypeId × Value → H) (F : Stop.Interp) :
    ReturnsInHanded {} Try.checked os 9 .any ((OpenSpec.ofChange Rows.clockWiderSpec).preRow enc Try.prog Try.f9 Rows.clockWiderRow.domain false Rows.clockWiderRow.laid) (((OpenSpec.ofChange Rows.clockWiderSpec).at F).post enc Try.prog Try.f9 false true false false) := by
  obtain ⟨places, hx⟩ := reads os enc
  refine returnsInHanded_of_row (C := Try.checked) (s := OpenSpec.ofChange Rows.clockWiderSpec) own started (by kernel_rfl) Try.func9
    (witness_row_atRef (enc := enc) (C := Try.checked) false (laidWorld os) #[.agg #[.int .i64 0, .int .i64 0, .int .i64 0], .agg #[.int .i64 0, .int .i64 0, .int .i64 0], .int .i64 0, .int .i64 0, .agg #[.int .i64 0, .int .i64 0, .int .i64 0], .int .i64 0] rfl (by kernel_rfl) (by kernel_rfl) (by kernel_rfl)
      (OpenSpec.preRow_of_cond 8 hx (by kernel_rfl) (fun k hk => by cases hk) (by kernel_rfl) (laidWorld_met os _))) ?_
  intro W base args ds gs before hval hW _ hcond _ hL hsh _
  exact contract H enc W base args ds gs before hval hW

/-- The statement. -/
theorem said : Rows.ClockWiderSaid :=
  OpenClaim.holds_of_cond 9 Try.f9 rfl rfl rfl rfl rfl rfl rfl ⟨rfl, rfl, rfl, rfl, rfl⟩ rfl rfl rfl rfl rfl (by kernel_rfl) Try.func9 (by kernel_rfl)
    (of_decide_eq_true (by kernel_rfl)) (by unfold Func.isWrapper; first | (rw [if_pos (by decide +kernel)]; kernel_rfl) | (rw [if_neg (by decide +kernel)]; exact ⟨rfl, rfl⟩))
    (fun os started H enc _ F => by rw [OpenClaim.pre_eq_preRow]; exact lifted os started H enc F)
end Go.Proofs.Ytnjhepkfjohdnaa.clockWider
