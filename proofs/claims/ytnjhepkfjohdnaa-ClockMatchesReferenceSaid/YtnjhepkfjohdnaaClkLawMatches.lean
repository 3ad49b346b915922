/-
  ClockMatchesReference: the package and the reference return the same for whatever arguments.
  Conditions: none besides the row's.
-/
import Derived.Test.YtnjhepkfjohdnaaClkN
import Derived.Test.YtnjhepkfjohdnaaRows
import Derived.ProofKit
import Derived.OpenShut
import Derived.Deep.DeepHandedRow
import Derived.Deep.DeepWitnessRowRef
import Derived.MakeChecks
import Derived.Deep.RegionHeld3
namespace Go.Proofs.Ytnjhepkfjohdnaa.clockMatchesReference
open Go.RowKit Go.Sort
open Go.RowKit (Below)
set_option linter.unusedVariables false
set_option linter.unusedSimpArgs false
set_option maxRecDepth 100000 in
set_option maxHeartbeats 2000000 in
theorem same (ks : Int) (iks : I64 ks) (ke : Int) (ike : I64 ke) (kd : Int) (ikd : I64 kd) (x : Int) (ix : I64 x) (bs : Int) (ibs : I64 bs) (be : Int) (ibe : I64 be) (bd : Int) (ibd : I64 bd) (y : Int) (iy : I64 y) (t : Int) (it : I64 t) (qf : Int) (iqf : I64 qf) (qu : Int) (iqu : I64 qu) (w : World) (b : Bool) (F U E p o oe X Y Z G : Int) (h0 : vc ks ke kd = b) (f1 : tF ks ke kd x = F) (f2 : tU ks ke kd x = U) (f3 : tE ks ke kd x = E) (p1 : pV ks ke kd x t = p) (o1 : oV ks ke kd x bs be bd y = o) (o2 : oE ks ke kd x bs be bd y = oe) (s1 : c1 ks ke kd y qf qu = X) (s2 : c2 ks ke kd y qf qu = Y) (s3 : c3 ks ke kd y qf qu = Z) (s4 : sE ks ke kd y qf qu = G) :
    Calls Try.prog 3 #[.agg #[.int .i64 ks, .int .i64 ke, .int .i64 kd], .int .i64 x, .agg #[.int .i64 bs, .int .i64 be, .int .i64 bd], .int .i64 y, .int .i64 t, .agg #[.int .i64 qf, .int .i64 qu]] w fun e w' => e = .returned (.bool true) ∧ Below w.heap.size w w' := by
  have XH0 := Lib.hid h0
  clear h0
  have XF1 := Lib.hid f1
  clear f1
  have XF2 := Lib.hid f2
  clear f2
  have XF3 := Lib.hid f3
  clear f3
  have XP1 := Lib.hid p1
  clear p1
  have XO1 := Lib.hid o1
  clear o1
  have XO2 := Lib.hid o2
  clear o2
  have XS1 := Lib.hid s1
  clear s1
  have XS2 := Lib.hid s2
  clear s2
  have XS3 := Lib.hid s3
  clear s3
  have XS4 := Lib.hid s4
  clear s4
  go_enter Try.func3, Try.ntmps3
  go_wp2_with fail
  have k0 : World.cell? (((w.alloc (.cells #[.int .i64 ks, .int .i64 ke, .int .i64 kd] 23)).alloc (.cells #[.int .i64 bs, .int .i64 be, .int .i64 bd] 23)).alloc (.cells #[.int .i64 qf, .int .i64 qu] 25)) ⟨w.heap.size, 0, none⟩ = some (.int .i64 ks) := by simp [go_sem]
  have k1 : World.cell? (((w.alloc (.cells #[.int .i64 ks, .int .i64 ke, .int .i64 kd] 23)).alloc (.cells #[.int .i64 bs, .int .i64 be, .int .i64 bd] 23)).alloc (.cells #[.int .i64 qf, .int .i64 qu] 25)) ⟨w.heap.size, 1, none⟩ = some (.int .i64 ke) := by simp [go_sem]
  have k2 : World.cell? (((w.alloc (.cells #[.int .i64 ks, .int .i64 ke, .int .i64 kd] 23)).alloc (.cells #[.int .i64 bs, .int .i64 be, .int .i64 bd] 23)).alloc (.cells #[.int .i64 qf, .int .i64 qu] 25)) ⟨w.heap.size, 2, none⟩ = some (.int .i64 kd) := by simp [go_sem]
  have b0 : World.cell? (((w.alloc (.cells #[.int .i64 ks, .int .i64 ke, .int .i64 kd] 23)).alloc (.cells #[.int .i64 bs, .int .i64 be, .int .i64 bd] 23)).alloc (.cells #[.int .i64 qf, .int .i64 qu] 25)) ⟨w.heap.size + 1, 0, none⟩ = some (.int .i64 bs) := by simp [go_sem]
  have b1 : World.cell? (((w.alloc (.cells #[.int .i64 ks, .int .i64 ke, .int .i64 kd] 23)).alloc (.cells #[.int .i64 bs, .int .i64 be, .int .i64 bd] 23)).alloc (.cells #[.int .i64 qf, .int .i64 qu] 25)) ⟨w.heap.size + 1, 1, none⟩ = some (.int .i64 be) := by simp [go_sem]
  have b2 : World.cell? (((w.alloc (.cells #[.int .i64 ks, .int .i64 ke, .int .i64 kd] 23)).alloc (.cells #[.int .i64 bs, .int .i64 be, .int .i64 bd] 23)).alloc (.cells #[.int .i64 qf, .int .i64 qu] 25)) ⟨w.heap.size + 1, 2, none⟩ = some (.int .i64 bd) := by simp [go_sem]
  have q0 : World.cell? (((w.alloc (.cells #[.int .i64 ks, .int .i64 ke, .int .i64 kd] 23)).alloc (.cells #[.int .i64 bs, .int .i64 be, .int .i64 bd] 23)).alloc (.cells #[.int .i64 qf, .int .i64 qu] 25)) ⟨w.heap.size + 1 + 1, 0, none⟩ = some (.int .i64 qf) := by simp [go_sem]
  have q1 : World.cell? (((w.alloc (.cells #[.int .i64 ks, .int .i64 ke, .int .i64 kd] 23)).alloc (.cells #[.int .i64 bs, .int .i64 be, .int .i64 bd] 23)).alloc (.cells #[.int .i64 qf, .int .i64 qu] 25)) ⟨w.heap.size + 1 + 1, 1, none⟩ = some (.int .i64 qu) := by simp [go_sem]
  have gk : w.heap.size < (((w.alloc (.cells #[.int .i64 ks, .int .i64 ke, .int .i64 kd] 23)).alloc (.cells #[.int .i64 bs, .int .i64 be, .int .i64 bd] 23)).alloc (.cells #[.int .i64 qf, .int .i64 qu] 25)).heap.size := by simp <;> omega
  have gb : w.heap.size + 1 < (((w.alloc (.cells #[.int .i64 ks, .int .i64 ke, .int .i64 kd] 23)).alloc (.cells #[.int .i64 bs, .int .i64 be, .int .i64 bd] 23)).alloc (.cells #[.int .i64 qf, .int .i64 qu] 25)).heap.size := by simp <;> omega
  have gq : w.heap.size + 1 + 1 < (((w.alloc (.cells #[.int .i64 ks, .int .i64 ke, .int .i64 kd] 23)).alloc (.cells #[.int .i64 bs, .int .i64 be, .int .i64 bd] 23)).alloc (.cells #[.int .i64 qf, .int .i64 qu] 25)).heap.size := by simp <;> omega
  have B := Lib.hid (show Below w.heap.size w (((w.alloc (.cells #[.int .i64 ks, .int .i64 ke, .int .i64 kd] 23)).alloc (.cells #[.int .i64 bs, .int .i64 be, .int .i64 bd] 23)).alloc (.cells #[.int .i64 qf, .int .i64 qu] 25)) from ((((Below.refl _ _).alloc (by simp; try omega) _).alloc (by simp; try omega) _).alloc (by simp; try omega) _))
  generalize ((w.alloc (.cells #[.int .i64 ks, .int .i64 ke, .int .i64 kd] 23)).alloc (.cells #[.int .i64 bs, .int .i64 be, .int .i64 bd] 23)).alloc (.cells #[.int .i64 qf, .int .i64 qu] 25) = V1 at *
  clear gk gb gq
  go_region_held3 (fun W => W.cell? ⟨w.heap.size, 0, none⟩ = some (.int .i64 ks) ∧ W.cell? ⟨w.heap.size, 1, none⟩ = some (.int .i64 ke) ∧ W.cell? ⟨w.heap.size, 2, none⟩ = some (.int .i64 kd) ∧ W.cell? ⟨w.heap.size + 1, 0, none⟩ = some (.int .i64 bs) ∧ W.cell? ⟨w.heap.size + 1, 1, none⟩ = some (.int .i64 be) ∧ W.cell? ⟨w.heap.size + 1, 2, none⟩ = some (.int .i64 bd) ∧ W.cell? ⟨w.heap.size + 1 + 1, 0, none⟩ = some (.int .i64 qf) ∧ W.cell? ⟨w.heap.size + 1 + 1, 1, none⟩ = some (.int .i64 qu) ∧ Below w.heap.size w W)
    (first | assumption | exact ⟨k0, k1, k2, b0, b1, b2, q0, q1, B.out.drew⟩ | (go_split_ands; exact ⟨keepc hb (by assumption), keepc hb (by assumption), keepc hb (by assumption), keepc hb (by assumption), keepc hb (by assumption), keepc hb (by assumption), keepc hb (by assumption), keepc hb (by assumption), (on_same (w := w) (by assumption) hb).1⟩))
    (first | (go_at_call 10; refine (head_any _).mono ?_; rintro e' w1 ⟨rfl, hb⟩) | (go_at_call 11; refine (valid_b ks ke kd b XH0.out _).mono ?_; rintro e' w1 ⟨rfl, hb⟩) | (go_at_call 12; refine (rvalid_b ks ke kd b XH0.out _).mono ?_; rintro e' w1 ⟨rfl, hb⟩))
  go_split_ands
  clear k0 k1 k2 b0 b1 b2 q0 q1 B
  have k0 : w1.cell? ⟨w.heap.size, 0, none⟩ = some (.int .i64 ks) := by assumption
  have k1 : w1.cell? ⟨w.heap.size, 1, none⟩ = some (.int .i64 ke) := by assumption
  have k2 : w1.cell? ⟨w.heap.size, 2, none⟩ = some (.int .i64 kd) := by assumption
  have b0 : w1.cell? ⟨w.heap.size + 1, 0, none⟩ = some (.int .i64 bs) := by assumption
  have b1 : w1.cell? ⟨w.heap.size + 1, 1, none⟩ = some (.int .i64 be) := by assumption
  have b2 : w1.cell? ⟨w.heap.size + 1, 2, none⟩ = some (.int .i64 bd) := by assumption
  have q0 : w1.cell? ⟨w.heap.size + 1 + 1, 0, none⟩ = some (.int .i64 qf) := by assumption
  have q1 : w1.cell? ⟨w.heap.size + 1 + 1, 1, none⟩ = some (.int .i64 qu) := by assumption
  have B := Lib.hid (show Below w.heap.size w w1 by assumption)
  have gk : w.heap.size < w1.heap.size := block_lt k0
  have gb : w.heap.size + 1 < w1.heap.size := block_lt b0
  have gq : w.heap.size + 1 + 1 < w1.heap.size := block_lt q0
  go_wp2_with fail
  refine (true_is ks ke kd x F U E XF1.out XF2.out XF3.out _).mono ?_
  rintro e' w2 ⟨rfl, hb⟩
  replace B := Lib.hid (on_below B.out hb)
  replace k0 := keepc hb k0
  replace k1 := keepc hb k1
  replace k2 := keepc hb k2
  replace b0 := keepc hb b0
  replace b1 := keepc hb b1
  replace b2 := keepc hb b2
  replace q0 := keepc hb q0
  replace q1 := keepc hb q1
  replace gk := Nat.lt_of_lt_of_le gk hb.size
  replace gb := Nat.lt_of_lt_of_le gb hb.size
  replace gq := Nat.lt_of_lt_of_le gq hb.size
  clear hb
  go_wp2_with fail
  have s0 : World.cell? (w2.alloc (.cells #[.int .i64 F, .int .i64 U] 25)) ⟨w2.heap.size, 0, none⟩ = some (.int .i64 F) := by simp [go_sem]
  have s1 : World.cell? (w2.alloc (.cells #[.int .i64 F, .int .i64 U] 25)) ⟨w2.heap.size, 1, none⟩ = some (.int .i64 U) := by simp [go_sem]
  have gs : w2.heap.size < (w2.alloc (.cells #[.int .i64 F, .int .i64 U] 25)).heap.size := by simp <;> omega
  have hb : Below w2.heap.size w2 (w2.alloc (.cells #[.int .i64 F, .int .i64 U] 25)) := ((Below.refl _ _).alloc (by simp; try omega) _)
  generalize w2.alloc (.cells #[.int .i64 F, .int .i64 U] 25) = V3 at *
  replace B := Lib.hid (on_below B.out hb)
  replace k0 := keepc hb k0
  replace k1 := keepc hb k1
  replace k2 := keepc hb k2
  replace b0 := keepc hb b0
  replace b1 := keepc hb b1
  replace b2 := keepc hb b2
  replace q0 := keepc hb q0
  replace q1 := keepc hb q1
  replace gk := Nat.lt_of_lt_of_le gk hb.size
  replace gb := Nat.lt_of_lt_of_le gb hb.size
  replace gq := Nat.lt_of_lt_of_le gq hb.size
  clear hb
  refine (rtrue_is ks ke kd x F U E XF1.out XF2.out XF3.out _).mono ?_
  rintro e' w4 ⟨rfl, hb⟩
  replace B := Lib.hid (on_below B.out hb)
  replace k0 := keepc hb k0
  replace k1 := keepc hb k1
  replace k2 := keepc hb k2
  replace b0 := keepc hb b0
  replace b1 := keepc hb b1
  replace b2 := keepc hb b2
  replace q0 := keepc hb q0
  replace q1 := keepc hb q1
  replace s0 := keepc hb s0
  replace s1 := keepc hb s1
  replace gk := Nat.lt_of_lt_of_le gk hb.size
  replace gb := Nat.lt_of_lt_of_le gb hb.size
  replace gq := Nat.lt_of_lt_of_le gq hb.size
  replace gs := Nat.lt_of_lt_of_le gs hb.size
  clear hb
  go_wp2_with fail
  have v0 : World.cell? (w4.alloc (.cells #[.int .i64 F, .int .i64 U] 25)) ⟨w4.heap.size, 0, none⟩ = some (.int .i64 F) := by simp [go_sem]
  have v1 : World.cell? (w4.alloc (.cells #[.int .i64 F, .int .i64 U] 25)) ⟨w4.heap.size, 1, none⟩ = some (.int .i64 U) := by simp [go_sem]
  have gv : w4.heap.size < (w4.alloc (.cells #[.int .i64 F, .int .i64 U] 25)).heap.size := by simp <;> omega
  have hb : Below w4.heap.size w4 (w4.alloc (.cells #[.int .i64 F, .int .i64 U] 25)) := ((Below.refl _ _).alloc (by simp; try omega) _)
  generalize w4.alloc (.cells #[.int .i64 F, .int .i64 U] 25) = V5 at *
  replace B := Lib.hid (on_below B.out hb)
  replace k0 := keepc hb k0
  replace k1 := keepc hb k1
  replace k2 := keepc hb k2
  replace b0 := keepc hb b0
  replace b1 := keepc hb b1
  replace b2 := keepc hb b2
  replace q0 := keepc hb q0
  replace q1 := keepc hb q1
  replace s0 := keepc hb s0
  replace s1 := keepc hb s1
  replace gk := Nat.lt_of_lt_of_le gk hb.size
  replace gb := Nat.lt_of_lt_of_le gb hb.size
  replace gq := Nat.lt_of_lt_of_le gq hb.size
  replace gs := Nat.lt_of_lt_of_le gs hb.size
  clear hb
  refine (passed_is ks ke kd x t p E XP1.out XF3.out _).mono ?_
  rintro e' w6 ⟨rfl, hb⟩
  replace B := Lib.hid (on_below B.out hb)
  replace k0 := keepc hb k0
  replace k1 := keepc hb k1
  replace k2 := keepc hb k2
  replace b0 := keepc hb b0
  replace b1 := keepc hb b1
  replace b2 := keepc hb b2
  replace q0 := keepc hb q0
  replace q1 := keepc hb q1
  replace s0 := keepc hb s0
  replace s1 := keepc hb s1
  replace v0 := keepc hb v0
  replace v1 := keepc hb v1
  replace gk := Nat.lt_of_lt_of_le gk hb.size
  replace gb := Nat.lt_of_lt_of_le gb hb.size
  replace gq := Nat.lt_of_lt_of_le gq hb.size
  replace gs := Nat.lt_of_lt_of_le gs hb.size
  replace gv := Nat.lt_of_lt_of_le gv hb.size
  clear hb
  go_wp2_with fail
  refine (rpassed_is ks ke kd x t p E it XP1.out XF3.out _).mono ?_
  rintro e' w7 ⟨rfl, hb⟩
  replace B := Lib.hid (on_below B.out hb)
  replace k0 := keepc hb k0
  replace k1 := keepc hb k1
  replace k2 := keepc hb k2
  replace b0 := keepc hb b0
  replace b1 := keepc hb b1
  replace b2 := keepc hb b2
  replace q0 := keepc hb q0
  replace q1 := keepc hb q1
  replace s0 := keepc hb s0
  replace s1 := keepc hb s1
  replace v0 := keepc hb v0
  replace v1 := keepc hb v1
  replace gk := Nat.lt_of_lt_of_le gk hb.size
  replace gb := Nat.lt_of_lt_of_le gb hb.size
  replace gq := Nat.lt_of_lt_of_le gq hb.size
  replace gs := Nat.lt_of_lt_of_le gs hb.size
  replace gv := Nat.lt_of_lt_of_le gv hb.size
  clear hb
  go_wp2_with fail
  refine (order_is ks ke kd x bs be bd y o oe XO1.out XO2.out _).mono ?_
  rintro e' w8 ⟨rfl, hb⟩
  replace B := Lib.hid (on_below B.out hb)
  replace k0 := keepc hb k0
  replace k1 := keepc hb k1
  replace k2 := keepc hb k2
  replace b0 := keepc hb b0
  replace b1 := keepc hb b1
  replace b2 := keepc hb b2
  replace q0 := keepc hb q0
  replace q1 := keepc hb q1
  replace s0 := keepc hb s0
  replace s1 := keepc hb s1
  replace v0 := keepc hb v0
  replace v1 := keepc hb v1
  replace gk := Nat.lt_of_lt_of_le gk hb.size
  replace gb := Nat.lt_of_lt_of_le gb hb.size
  replace gq := Nat.lt_of_lt_of_le gq hb.size
  replace gs := Nat.lt_of_lt_of_le gs hb.size
  replace gv := Nat.lt_of_lt_of_le gv hb.size
  clear hb
  go_wp2_with fail
  refine (rorder_is ks ke kd x bs be bd y o oe XO1.out XO2.out _).mono ?_
  rintro e' w9 ⟨rfl, hb⟩
  replace B := Lib.hid (on_below B.out hb)
  replace k0 := keepc hb k0
  replace k1 := keepc hb k1
  replace k2 := keepc hb k2
  replace b0 := keepc hb b0
  replace b1 := keepc hb b1
  replace b2 := keepc hb b2
  replace q0 := keepc hb q0
  replace q1 := keepc hb q1
  replace s0 := keepc hb s0
  replace s1 := keepc hb s1
  replace v0 := keepc hb v0
  replace v1 := keepc hb v1
  replace gk := Nat.lt_of_lt_of_le gk hb.size
  replace gb := Nat.lt_of_lt_of_le gb hb.size
  replace gq := Nat.lt_of_lt_of_le gq hb.size
  replace gs := Nat.lt_of_lt_of_le gs hb.size
  replace gv := Nat.lt_of_lt_of_le gv hb.size
  clear hb
  go_wp2_with fail
  refine (set_is ks ke kd y qf qu X Y Z G XS1.out XS2.out XS3.out XS4.out _).mono ?_
  rintro e' w10 ⟨rfl, hb⟩
  replace B := Lib.hid (on_below B.out hb)
  replace k0 := keepc hb k0
  replace k1 := keepc hb k1
  replace k2 := keepc hb k2
  replace b0 := keepc hb b0
  replace b1 := keepc hb b1
  replace b2 := keepc hb b2
  replace q0 := keepc hb q0
  replace q1 := keepc hb q1
  replace s0 := keepc hb s0
  replace s1 := keepc hb s1
  replace v0 := keepc hb v0
  replace v1 := keepc hb v1
  replace gk := Nat.lt_of_lt_of_le gk hb.size
  replace gb := Nat.lt_of_lt_of_le gb hb.size
  replace gq := Nat.lt_of_lt_of_le gq hb.size
  replace gs := Nat.lt_of_lt_of_le gs hb.size
  replace gv := Nat.lt_of_lt_of_le gv hb.size
  clear hb
  go_wp2_with fail
  have a0 : World.cell? (w10.alloc (.cells #[.int .i64 X, .int .i64 Y, .int .i64 Z] 23)) ⟨w10.heap.size, 0, none⟩ = some (.int .i64 X) := by simp [go_sem]
  have a1 : World.cell? (w10.alloc (.cells #[.int .i64 X, .int .i64 Y, .int .i64 Z] 23)) ⟨w10.heap.size, 1, none⟩ = some (.int .i64 Y) := by simp [go_sem]
  have a2 : World.cell? (w10.alloc (.cells #[.int .i64 X, .int .i64 Y, .int .i64 Z] 23)) ⟨w10.heap.size, 2, none⟩ = some (.int .i64 Z) := by simp [go_sem]
  have ga : w10.heap.size < (w10.alloc (.cells #[.int .i64 X, .int .i64 Y, .int .i64 Z] 23)).heap.size := by simp <;> omega
  have hb : Below w10.heap.size w10 (w10.alloc (.cells #[.int .i64 X, .int .i64 Y, .int .i64 Z] 23)) := ((Below.refl _ _).alloc (by simp; try omega) _)
  generalize w10.alloc (.cells #[.int .i64 X, .int .i64 Y, .int .i64 Z] 23) = V11 at *
  replace B := Lib.hid (on_below B.out hb)
  replace k0 := keepc hb k0
  replace k1 := keepc hb k1
  replace k2 := keepc hb k2
  replace b0 := keepc hb b0
  replace b1 := keepc hb b1
  replace b2 := keepc hb b2
  replace q0 := keepc hb q0
  replace q1 := keepc hb q1
  replace s0 := keepc hb s0
  replace s1 := keepc hb s1
  replace v0 := keepc hb v0
  replace v1 := keepc hb v1
  replace gk := Nat.lt_of_lt_of_le gk hb.size
  replace gb := Nat.lt_of_lt_of_le gb hb.size
  replace gq := Nat.lt_of_lt_of_le gq hb.size
  replace gs := Nat.lt_of_lt_of_le gs hb.size
  replace gv := Nat.lt_of_lt_of_le gv hb.size
  clear hb
  refine (rset_is ks ke kd y qf qu X Y Z G iqf iqu XS1.out XS2.out XS3.out XS4.out _).mono ?_
  rintro e' w12 ⟨rfl, hb⟩
  replace B := Lib.hid (on_below B.out hb)
  replace k0 := keepc hb k0
  replace k1 := keepc hb k1
  replace k2 := keepc hb k2
  replace b0 := keepc hb b0
  replace b1 := keepc hb b1
  replace b2 := keepc hb b2
  replace q0 := keepc hb q0
  replace q1 := keepc hb q1
  replace s0 := keepc hb s0
  replace s1 := keepc hb s1
  replace v0 := keepc hb v0
  replace v1 := keepc hb v1
  replace a0 := keepc hb a0
  replace a1 := keepc hb a1
  replace a2 := keepc hb a2
  replace gk := Nat.lt_of_lt_of_le gk hb.size
  replace gb := Nat.lt_of_lt_of_le gb hb.size
  replace gq := Nat.lt_of_lt_of_le gq hb.size
  replace gs := Nat.lt_of_lt_of_le gs hb.size
  replace gv := Nat.lt_of_lt_of_le gv hb.size
  replace ga := Nat.lt_of_lt_of_le ga hb.size
  clear hb
  go_wp2_with fail
  all_goals go_ret
  all_goals exact ⟨rfl, B.out.alloc B.out.size _⟩

theorem walk (ks : Int) (iks : I64 ks) (ke : Int) (ike : I64 ke) (kd : Int) (ikd : I64 kd) (x : Int) (ix : I64 x) (bs : Int) (ibs : I64 bs) (be : Int) (ibe : I64 be) (bd : Int) (ibd : I64 bd) (y : Int) (iy : I64 y) (t : Int) (it : I64 t) (qf : Int) (iqf : I64 qf) (qu : Int) (iqu : I64 qu) (w : World) :
    Calls Try.prog 3 #[.agg #[.int .i64 ks, .int .i64 ke, .int .i64 kd], .int .i64 x, .agg #[.int .i64 bs, .int .i64 be, .int .i64 bd], .int .i64 y, .int .i64 t, .agg #[.int .i64 qf, .int .i64 qu]] w fun e w' => e = .returned (.bool true) ∧ Below w.heap.size w w' :=
  same ks iks ke ike kd ikd x ix bs ibs be ibe bd ibd y iy t it qf iqf qu iqu w _ _ _ _ _ _ _ _ _ _ _ rfl rfl rfl rfl rfl rfl rfl rfl rfl rfl rfl

/-! ### The row -/
open Go.ChangeShapes Go.WideShapes Go.ChangeAt Go.Joins
theorem own : ownKnob Try.prog.godebug = none := by kernel_rfl
noncomputable def laidWorld (os : Os) : World := World.holding Try.prog os ⟨#[], #[], []⟩
theorem laidWorld_met (os : Os) (args : Array Value) : laidMet Try.prog [] ((laidWorld os).forCall (fun _ _ => 0) ⟨#[], args, []⟩).memory :=
  laidMet_of_run' 8 (by kernel_rfl) (by kernel_rfl)

set_option maxRecDepth 100000 in
theorem contract (H : Type) (enc : TypeId × Value → H) (W : World) (base : Nat) (args : Array Value) (ds gs : List (DataW H)) (before : List MemPlace)
    (hval : ∀ (j : Nat) t v, Try.f3.params[j]? = some t → args[j]? = some v → Value.okWide Try.prog W .any base t v)
    (hW : DataW.Whole enc Try.prog Try.f3.params.toList Rows.clockMatchesReferenceSpec.vars false W args.toList ds gs before) :
    Calls Try.prog 3 args W fun e W' => ∃ v, e = .returned v ∧ Rows.clockMatchesReferenceSpec.post enc Try.prog Try.f3 false true false false W args v W' := by
  have hW' := hW
  obtain ⟨p, q, hA0, hV, rfl, hfz, hnd⟩ := hW
  have hA : DataW.TrodAll enc Try.prog W 0 (fun _ => true) true Try.f3.params.toList args.toList ds p := hA0
  rw [Try.params3] at hA hval
  obtain ⟨v0, vs0, d0, ds0, p0, q0, hargs, rfl, rfl, h0, r0⟩ := trodAll_cons hA
  obtain ⟨v1, vs1, d1, ds1, p1, q1, rfl, rfl, rfl, h1, r1⟩ := trodAll_cons r0
  obtain ⟨v2, vs2, d2, ds2, p2, q2, rfl, rfl, rfl, h2, r2⟩ := trodAll_cons r1
  obtain ⟨v3, vs3, d3, ds3, p3, q3, rfl, rfl, rfl, h3, r3⟩ := trodAll_cons r2
  obtain ⟨v4, vs4, d4, ds4, p4, q4, rfl, rfl, rfl, h4, r4⟩ := trodAll_cons r3
  obtain ⟨v5, vs5, d5, ds5, p5, q5, rfl, rfl, rfl, h5, r5⟩ := trodAll_cons r4
  obtain ⟨rfl, rfl, rfl⟩ := trodAll_nil r5
  obtain rfl : args = #[v0, v1, v2, v3, v4, v5] := Array.toList_inj.1 hargs
  obtain ⟨rfl, rfl⟩ := trodVars_none hV
  obtain ⟨ks, ke, kd, rfl, rfl, rfl, iks, ike, ikd⟩ := open_clock (hval 0 23 v0 rfl rfl) h0
  obtain ⟨x, rfl, rfl, rfl, wx⟩ := open_int Try.underlying3 (hval 1 3 v1 rfl rfl) h1
  obtain ⟨bs, be, bd, rfl, rfl, rfl, ibs, ibe, ibd⟩ := open_clock (hval 2 23 v2 rfl rfl) h2
  obtain ⟨y, rfl, rfl, rfl, wy⟩ := open_int Try.underlying3 (hval 3 3 v3 rfl rfl) h3
  obtain ⟨t, rfl, rfl, rfl, wt⟩ := open_int Try.underlying3 (hval 4 3 v4 rfl rfl) h4
  obtain ⟨qf, qu, rfl, rfl, rfl, iqf, iqu⟩ := open_span (hval 5 25 v5 rfl rfl) h5
  clear hA0
  refine (walk ks (wf_i iks) ke (wf_i ike) kd (wf_i ikd) x (wf_i wx) bs (wf_i ibs) be (wf_i ibe) bd (wf_i ibd) y (wf_i wy) t (wf_i wt) qf (wf_i iqf) qu (wf_i iqu) W).mono fun e W' ⟨he, bel⟩ => ?_
  subst he
  exact ⟨_, rfl, _, _, _, [], _, [], hW', trodAll_mk1 (shut_bool Try.underlying4 _), (trodAll_cons_mk (shut_clock iks ike ikd) (trodAll_cons_mk (shut_int Try.underlying3 wx) (trodAll_cons_mk (shut_clock ibs ibe ibd) (trodAll_cons_mk (shut_int Try.underlying3 wy) (trodAll_cons_mk (shut_int Try.underlying3 wt) (trodAll_cons_mk (shut_span iqf iqu) trodAll_mk0)))))), rfl, bel.frame _, fun h => by cases h⟩

theorem reads (os : Os) {H : Type} (enc : TypeId × Value → H) : ∃ places, DataW.whole enc Try.prog ((laidWorld os).forCall (fun _ _ => 0) ⟨#[], #[.agg #[.int .i64 0, .int .i64 0, .int .i64 0], .int .i64 0, .agg #[.int .i64 0, .int .i64 0, .int .i64 0], .int .i64 0, .int .i64 0, .agg #[.int .i64 0, .int .i64 0]], []⟩).memory Try.f3.params.toList Rows.clockMatchesReferenceSpec.vars false (#[.agg #[.int .i64 0, .int .i64 0, .int .i64 0], .int .i64 0, .agg #[.int .i64 0, .int .i64 0, .int .i64 0], .int .i64 0, .int .i64 0, .agg #[.int .i64 0, .int .i64 0]] : Array Value).toList 8 = some ([.agg [.lit (.int .i64 0), .lit (.int .i64 0), .lit (.int .i64 0)], .lit (.int .i64 0), .agg [.lit (.int .i64 0), .lit (.int .i64 0), .lit (.int .i64 0)], .lit (.int .i64 0), .lit (.int .i64 0), .agg [.lit (.int .i64 0), .lit (.int .i64 0)]], [], places) :=
  ⟨[], by kernel_rfl⟩

set_option maxRecDepth 100000 in
theorem lifted (os : Os) (started : os.Started) (H : Type) (enc : TypeId × Value → H) (F : Stop.Interp) :
    ReturnsInHanded {} Try.checked os 3 .any ((OpenSpec.ofChange Rows.clockMatchesReferenceSpec).preRow enc Try.prog Try.f3 Rows.clockMatchesReferenceRow.domain false Rows.clockMatchesReferenceRow.laid) (((OpenSpec.ofChange Rows.clockMatchesReferenceSpec).at F).post enc Try.prog Try.f3 false true false false) := by
  obtain ⟨places, hx⟩ := reads os enc
  refine returnsInHanded_of_row (C := Try.checked) (s := OpenSpec.ofChange Rows.clockMatchesReferenceSpec) own started (by kernel_rfl) Try.func3
    (witness_row_atRef (enc := enc) (C := Try.checked) false (laidWorld os) #[.agg #[.int .i64 0, .int .i64 0, .int .i64 0], .int .i64 0, .agg #[.int .i64 0, .int .i64 0, .int .i64 0], .int .i64 0, .int .i64 0, .agg #[.int .i64 0, .int .i64 0]] rfl (by kernel_rfl) (by kernel_rfl) (by kernel_rfl)
      (OpenSpec.preRow_of_cond 8 hx (by kernel_rfl) (fun k hk => by cases hk) (by kernel_rfl) (laidWorld_met os _))) ?_
  intro W base args ds gs before hval hW _ hcond _ hL hsh _
  exact contract H enc W base args ds gs before hval hW

/-- The statement. -/
theorem said : Rows.ClockMatchesReferenceSaid :=
  OpenClaim.holds_of_cond 3 Try.f3 rfl rfl rfl rfl rfl rfl rfl ⟨rfl, rfl, rfl, rfl, rfl⟩ rfl rfl rfl rfl rfl (by kernel_rfl) Try.func3 (by kernel_rfl)
    (of_decide_eq_true (by kernel_rfl)) (by unfold Func.isWrapper; first | (rw [if_pos (by decide +kernel)]; kernel_rfl) | (rw [if_neg (by decide +kernel)]; exact ⟨rfl, rfl⟩))
    (fun os started H enc _ F => by rw [OpenClaim.pre_eq_preRow]; exact lifted os started H enc F)
end Go.Proofs.Ytnjhepkfjohdnaa.clockMatchesReference
