/-
  MoneyExchanges: exchanging commutes with the sign and keeps the order; in the same currency nothing changes; there and back from francs an amount is near what it was: for any two ints and any pair of ints.
  Conditions: the package variables that the row lists hold what the program's text lays.
-/
import Derived.Test.YtanncjkkaeeiaaaDoorMonT
import Derived.Test.YtanncjkkaeeiaaaDoorCards
import Derived.Test.YtanncjkkaeeiaaaDoorTie
import Derived.Deep.DeepCutAuto
namespace Go.Proofs.YtanncjkkaeeiaaaDoor.moneyExchanges
open Go.RowKit Go.Sort
open Go.RowKit (Below)
set_option linter.unusedVariables false

set_option maxHeartbeats 400000 in
theorem lsize_any (x : Int) (w : World) (h1 : -9223372036854775807 ≤ x) (h2 : x ≤ 9223372036854775807) :
    Calls Tryd.prog 17 #[.int .i64 x] w fun e w' => e = .returned (.int .i64 x.natAbs) ∧ w = w' := by
  by_cases hx : x < 0
  · have hm : max x (-x) = -x := by omega
    go_enter Tryd.func17, Tryd.ntmps17
    go_wp2
    go_ret
    exact ⟨ret_int (by omega), rfl⟩
  · have hm : max x (-x) = x := by omega
    go_enter Tryd.func17, Tryd.ntmps17
    go_wp2
    go_ret
    exact ⟨ret_int (by omega), rfl⟩

theorem back_near {a x y N D : Int} (hN : 0 < N) (h1 : 2 * (x * D) ≤ 2 * (a * N) + D ∧ 2 * (a * N) ≤ 2 * (x * D) + D) (h2 : 2 * (y * N) ≤ 2 * (x * D) + N ∧ 2 * (x * D) ≤ 2 * (y * N) + N) : 2 * (((y - a).natAbs : Int) * N) ≤ N + D := by
  have e : ((y - a).natAbs : Int) * N = if y - a < 0 then a * N - y * N else y * N - a * N := by
    split
    · rename_i h
      rw [show ((y - a).natAbs : Int) = a - y by omega, Int.sub_mul]
    · rename_i h
      rw [show ((y - a).natAbs : Int) = y - a by omega, Int.sub_mul]
  rw [e]
  split <;> omega

theorem fin_eq {y a N D : Int} (h1 : -2000000000 ≤ y - a ∧ y - a ≤ 2000000000) (h2 : 1 ≤ N ∧ N ≤ 1000000000) (h3 : 1 ≤ D ∧ D ≤ 1000000000) (hf : 2 * (((y - a).natAbs : Int) * N) ≤ N + D) : decide (wrap64 (2 * ((y - a).natAbs : Int) * N) ≤ N + D) = true := by
  have e : 2 * ((y - a).natAbs : Int) * N = 2 * (((y - a).natAbs : Int) * N) := by rw [Int.mul_assoc]
  have h0 : 0 ≤ ((y - a).natAbs : Int) * N := Int.mul_nonneg (by omega) (by omega)
  rw [e, decide_eq_true_eq, show wrap64 (2 * (((y - a).natAbs : Int) * N)) = 2 * (((y - a).natAbs : Int) * N) from IntWalk.wrap64_in _ ⟨by omega, by omega⟩]
  exact hf
set_option maxRecDepth 100000 in
set_option maxHeartbeats 1000000 in
theorem inv1 (a : Int) (ia : I64 a) (b : Int) (ib : I64 b) (rN rD : Int) (irN : I64 rN) (irD : I64 rD) (w : World) (hs : St w) (ha : am a = false) :
    Calls Tryd.prog 9 #[.int .i64 a, .int .i64 b, .agg #[.int .i64 rN, .int .i64 rD]] w fun e w' => e = .returned (.bool true) ∧ Below w.heap.size w w' := by
  have HS := Lib.hid hs
  clear hs
  have HA := Lib.hid ha
  clear ha
  go_enter Tryd.func9, Tryd.ntmps9
  go_wp2_with fail
  have p := Pr.here w rN rD 30
  have b0 : Below w.heap.size w (w.alloc (.cells #[.int .i64 rN, .int .i64 rD] 30)) := (Below.refl _ _).alloc (Nat.le_refl _) _
  generalize w.alloc (.cells #[.int .i64 rN, .int .i64 rD] 30) = w0 at *
  refine (head_any _ (HS.out.below b0 HS.out.sz)).mono ?_
  rintro e w1 ⟨rfl, hb⟩
  replace p := p.on hb
  have b1 := on_below b0 hb
  clear hb b0
  have ⟨p0, p1⟩ := p
  have pl := p.lt
  go_wp2_with fail
  clear p0 p1 pl
  refine (refam_b a false HA.out _).mono ?_
  rintro e w' ⟨rfl, rfl⟩
  have ⟨p0, p1⟩ := p
  have pl := p.lt
  go_wp2_with fail
  clear p0 p1 pl
  go_ret
  exact ⟨rfl, b1⟩

set_option maxRecDepth 100000 in
set_option maxHeartbeats 1000000 in
theorem inv2 (a : Int) (ia : I64 a) (b : Int) (ib : I64 b) (rN rD : Int) (irN : I64 rN) (irD : I64 rD) (w : World) (hs : St w) (ha : am a = true) (hb : am b = false) :
    Calls Tryd.prog 9 #[.int .i64 a, .int .i64 b, .agg #[.int .i64 rN, .int .i64 rD]] w fun e w' => e = .returned (.bool true) ∧ Below w.heap.size w w' := by
  have HS := Lib.hid hs
  clear hs
  have HA := Lib.hid ha
  clear ha
  have HB := Lib.hid hb
  clear hb
  go_enter Tryd.func9, Tryd.ntmps9
  go_wp2_with fail
  have p := Pr.here w rN rD 30
  have b0 : Below w.heap.size w (w.alloc (.cells #[.int .i64 rN, .int .i64 rD] 30)) := (Below.refl _ _).alloc (Nat.le_refl _) _
  generalize w.alloc (.cells #[.int .i64 rN, .int .i64 rD] 30) = w0 at *
  refine (head_any _ (HS.out.below b0 HS.out.sz)).mono ?_
  rintro e w1 ⟨rfl, hb⟩
  replace p := p.on hb
  have b1 := on_below b0 hb
  clear hb b0
  have ⟨p0, p1⟩ := p
  have pl := p.lt
  go_wp2_with fail
  clear p0 p1 pl
  refine (refam_b a true HA.out _).mono ?_
  rintro e w' ⟨rfl, rfl⟩
  have ⟨p0, p1⟩ := p
  have pl := p.lt
  go_wp2_with fail
  clear p0 p1 pl
  refine (refam_b b false HB.out _).mono ?_
  rintro e w' ⟨rfl, rfl⟩
  have ⟨p0, p1⟩ := p
  have pl := p.lt
  go_wp2_with fail
  clear p0 p1 pl
  go_ret
  exact ⟨rfl, b1⟩

set_option maxRecDepth 100000 in
set_option maxHeartbeats 1000000 in
theorem inv3 (a : Int) (ia : I64 a) (b : Int) (ib : I64 b) (rN rD : Int) (irN : I64 rN) (irD : I64 rD) (w : World) (hs : St w) (ha : am a = true) (hb : am b = true) (hv : vld rN rD = false) :
    Calls Tryd.prog 9 #[.int .i64 a, .int .i64 b, .agg #[.int .i64 rN, .int .i64 rD]] w fun e w' => e = .returned (.bool true) ∧ Below w.heap.size w w' := by
  have HS := Lib.hid hs
  clear hs
  have HA := Lib.hid ha
  clear ha
  have HB := Lib.hid hb
  clear hb
  have HV := Lib.hid hv
  clear hv
  have HI := Lib.hid (And.intro irN irD)
  go_enter Tryd.func9, Tryd.ntmps9
  go_wp2_with fail
  have p := Pr.here w rN rD 30
  have b0 : Below w.heap.size w (w.alloc (.cells #[.int .i64 rN, .int .i64 rD] 30)) := (Below.refl _ _).alloc (Nat.le_refl _) _
  generalize w.alloc (.cells #[.int .i64 rN, .int .i64 rD] 30) = w0 at *
  refine (head_any _ (HS.out.below b0 HS.out.sz)).mono ?_
  rintro e w1 ⟨rfl, hb⟩
  replace p := p.on hb
  have b1 := on_below b0 hb
  clear hb b0
  have ⟨p0, p1⟩ := p
  have pl := p.lt
  go_wp2_with fail
  clear p0 p1 pl
  refine (refam_b a true HA.out _).mono ?_
  rintro e w' ⟨rfl, rfl⟩
  have ⟨p0, p1⟩ := p
  have pl := p.lt
  go_wp2_with fail
  clear p0 p1 pl
  refine (refam_b b true HB.out _).mono ?_
  rintro e w' ⟨rfl, rfl⟩
  have ⟨p0, p1⟩ := p
  have pl := p.lt
  go_wp2_with fail
  clear p0 p1 pl
  refine (refvalid_b _ _ false HV.out _ HI.out.1 HI.out.2).mono ?_
  rintro e w2 ⟨rfl, hb⟩
  replace p := p.on hb
  have b2 := on_below b1 hb
  clear hb b1
  have ⟨p0, p1⟩ := p
  have pl := p.lt
  go_wp2_with fail
  clear p0 p1 pl
  go_ret
  exact ⟨rfl, b2⟩

set_option maxRecDepth 100000 in
set_option maxHeartbeats 1000000 in
theorem inv4 (a : Int) (ia : I64 a) (b : Int) (ib : I64 b) (rN rD : Int) (irN : I64 rN) (irD : I64 rD) (w : World) (hs : St w) (ha : am a = true) (hb : am b = true) (hv : vld rN rD = true) (hn : rN ≤ 0) :
    Calls Tryd.prog 9 #[.int .i64 a, .int .i64 b, .agg #[.int .i64 rN, .int .i64 rD]] w fun e w' => e = .returned (.bool true) ∧ Below w.heap.size w w' := by
  have HS := Lib.hid hs
  clear hs
  have HA := Lib.hid ha
  clear ha
  have HB := Lib.hid hb
  clear hb
  have HV := Lib.hid hv
  clear hv
  have HI := Lib.hid (And.intro irN irD)
  go_enter Tryd.func9, Tryd.ntmps9
  go_wp2_with fail
  have p := Pr.here w rN rD 30
  have b0 : Below w.heap.size w (w.alloc (.cells #[.int .i64 rN, .int .i64 rD] 30)) := (Below.refl _ _).alloc (Nat.le_refl _) _
  generalize w.alloc (.cells #[.int .i64 rN, .int .i64 rD] 30) = w0 at *
  refine (head_any _ (HS.out.below b0 HS.out.sz)).mono ?_
  rintro e w1 ⟨rfl, hb⟩
  replace p := p.on hb
  have b1 := on_below b0 hb
  clear hb b0
  have ⟨p0, p1⟩ := p
  have pl := p.lt
  go_wp2_with fail
  clear p0 p1 pl
  refine (refam_b a true HA.out _).mono ?_
  rintro e w' ⟨rfl, rfl⟩
  have ⟨p0, p1⟩ := p
  have pl := p.lt
  go_wp2_with fail
  clear p0 p1 pl
  refine (refam_b b true HB.out _).mono ?_
  rintro e w' ⟨rfl, rfl⟩
  have ⟨p0, p1⟩ := p
  have pl := p.lt
  go_wp2_with fail
  clear p0 p1 pl
  refine (refvalid_b _ _ true HV.out _ HI.out.1 HI.out.2).mono ?_
  rintro e w2 ⟨rfl, hb⟩
  replace p := p.on hb
  have b2 := on_below b1 hb
  clear hb b1
  have ⟨p0, p1⟩ := p
  have pl := p.lt
  go_wp2_with fail
  clear p0 p1 pl
  go_ret
  exact ⟨rfl, b2⟩

set_option maxRecDepth 100000 in
set_option maxHeartbeats 1000000 in
theorem fbad (a : Int) (ia : I64 a) (b : Int) (ib : I64 b) (rN rD : Int) (irN : I64 rN) (irD : I64 rD) (w : World) (hs : St w) (ha : am a = true) (hb : am b = true) (hv : vld rN rD = true) (hn : 1 ≤ rN) (ba : -1000000000 ≤ a ∧ a ≤ 1000000000) (k1 : ∀ W : World, Calls Tryd.prog 21 #[.int .i64 a, .int .i64 1, .int .i64 1, .agg #[.int .i64 rN, .int .i64 rD]] W fun e w' => e = .returned (.tuple #[.int .i64 a, .int .i64 0]) ∧ Below W.heap.size W w') (z h : Int) (k2 : ∀ W : World, Calls Tryd.prog 21 #[.int .i64 a, .int .i64 0, .int .i64 1, .agg #[.int .i64 rN, .int .i64 rD]] W fun e w' => e = .returned (.tuple #[.int .i64 0, .int .i64 3]) ∧ Below W.heap.size W w') (k3 : ∀ W : World, Calls Tryd.prog 21 #[.int .i64 (-a), .int .i64 0, .int .i64 1, .agg #[.int .i64 rN, .int .i64 rD]] W fun e w' => e = .returned (.tuple #[.int .i64 0, .int .i64 3]) ∧ Below W.heap.size W w') (k4 : ∀ W : World, Calls Tryd.prog 21 #[.int .i64 b, .int .i64 0, .int .i64 1, .agg #[.int .i64 rN, .int .i64 rD]] W fun e w' => e = .returned (.tuple #[.int .i64 z, .int .i64 h]) ∧ Below W.heap.size W w') :
    Calls Tryd.prog 9 #[.int .i64 a, .int .i64 b, .agg #[.int .i64 rN, .int .i64 rD]] w fun e w' => e = .returned (.bool true) ∧ Below w.heap.size w w' := by
  have HS := Lib.hid hs
  clear hs
  have HA := Lib.hid ha
  clear ha
  have HB := Lib.hid hb
  clear hb
  have HV := Lib.hid hv
  clear hv
  have K1 := Lib.hid k1
  clear k1
  have K2 := Lib.hid k2
  clear k2
  have K3 := Lib.hid k3
  clear k3
  have K4 := Lib.hid k4
  clear k4
  have HI := Lib.hid (And.intro irN irD)
  obtain ⟨ba1, ba2⟩ := ba
  go_enter Tryd.func9, Tryd.ntmps9
  go_wp2_with fail
  have p := Pr.here w rN rD 30
  have b0 : Below w.heap.size w (w.alloc (.cells #[.int .i64 rN, .int .i64 rD] 30)) := (Below.refl _ _).alloc (Nat.le_refl _) _
  generalize w.alloc (.cells #[.int .i64 rN, .int .i64 rD] 30) = w0 at *
  refine (head_any _ (HS.out.below b0 HS.out.sz)).mono ?_
  rintro e w1 ⟨rfl, hb⟩
  replace p := p.on hb
  have b1 := on_below b0 hb
  clear hb b0
  have ⟨p0, p1⟩ := p
  have pl := p.lt
  go_wp2_with fail
  clear p0 p1 pl
  refine (refam_b a true HA.out _).mono ?_
  rintro e w' ⟨rfl, rfl⟩
  have ⟨p0, p1⟩ := p
  have pl := p.lt
  go_wp2_with fail
  clear p0 p1 pl
  refine (refam_b b true HB.out _).mono ?_
  rintro e w' ⟨rfl, rfl⟩
  have ⟨p0, p1⟩ := p
  have pl := p.lt
  go_wp2_with fail
  clear p0 p1 pl
  refine (refvalid_b _ _ true HV.out _ HI.out.1 HI.out.2).mono ?_
  rintro e w2 ⟨rfl, hb⟩
  replace p := p.on hb
  have b2 := on_below b1 hb
  clear hb b1
  have ⟨p0, p1⟩ := p
  have pl := p.lt
  go_wp2_with fail
  clear p0 p1 pl
  refine (K1.out _).mono ?_
  rintro e w3 ⟨rfl, hb⟩
  replace p := p.on hb
  have b3 := on_below b2 hb
  clear hb b2
  have ⟨p0, p1⟩ := p
  have pl := p.lt
  go_wp2_with fail
  clear p0 p1 pl
  refine (K2.out _).mono ?_
  rintro e w4 ⟨rfl, hb⟩
  replace p := p.on hb
  have b4 := on_below b3 hb
  clear hb b3
  have ⟨p0, p1⟩ := p
  have pl := p.lt
  go_wp2_with fail
  clear p0 p1 pl
  refine (K3.out _).mono ?_
  rintro e w5 ⟨rfl, hb⟩
  replace p := p.on hb
  have b5 := on_below b4 hb
  clear hb b4
  have ⟨p0, p1⟩ := p
  have pl := p.lt
  go_wp2_with fail
  clear p0 p1 pl
  refine (K4.out _).mono ?_
  rintro e w6 ⟨rfl, hb⟩
  replace p := p.on hb
  have b6 := on_below b5 hb
  clear hb b5
  have ⟨p0, p1⟩ := p
  have pl := p.lt
  go_wp2_with fail
  clear p0 p1 pl
  go_ret
  exact ⟨rfl, b6⟩

set_option maxRecDepth 100000 in
set_option maxHeartbeats 1000000 in
theorem ok_00 (a : Int) (ia : I64 a) (b : Int) (ib : I64 b) (rN rD : Int) (irN : I64 rN) (irD : I64 rD) (w : World) (hs : St w) (ha : am a = true) (hb : am b = true) (hv : vld rN rD = true) (hn : 1 ≤ rN) (ba : -1000000000 ≤ a ∧ a ≤ 1000000000) (k1 : ∀ W : World, Calls Tryd.prog 21 #[.int .i64 a, .int .i64 1, .int .i64 1, .agg #[.int .i64 rN, .int .i64 rD]] W fun e w' => e = .returned (.tuple #[.int .i64 a, .int .i64 0]) ∧ Below W.heap.size W w') (x z : Int) (bx : -1000000000 ≤ x ∧ x ≤ 1000000000) (h3 : Int) (hh3 : (h3 == 0) = false) (k2 : ∀ W : World, Calls Tryd.prog 21 #[.int .i64 a, .int .i64 0, .int .i64 1, .agg #[.int .i64 rN, .int .i64 rD]] W fun e w' => e = .returned (.tuple #[.int .i64 x, .int .i64 0]) ∧ Below W.heap.size W w') (k3 : ∀ W : World, Calls Tryd.prog 21 #[.int .i64 (-a), .int .i64 0, .int .i64 1, .agg #[.int .i64 rN, .int .i64 rD]] W fun e w' => e = .returned (.tuple #[.int .i64 (-x), .int .i64 0]) ∧ Below W.heap.size W w') (k4 : ∀ W : World, Calls Tryd.prog 21 #[.int .i64 b, .int .i64 0, .int .i64 1, .agg #[.int .i64 rN, .int .i64 rD]] W fun e w' => e = .returned (.tuple #[.int .i64 z, .int .i64 h3]) ∧ Below W.heap.size W w') (k5 : ∀ W : World, Calls Tryd.prog 21 #[.int .i64 x, .int .i64 1, .int .i64 0, .agg #[.int .i64 rN, .int .i64 rD]] W fun e w' => e = .returned (.tuple #[.int .i64 0, .int .i64 3]) ∧ Below W.heap.size W w') :
    Calls Tryd.prog 9 #[.int .i64 a, .int .i64 b, .agg #[.int .i64 rN, .int .i64 rD]] w fun e w' => e = .returned (.bool true) ∧ Below w.heap.size w w' := by
  have HS := Lib.hid hs
  clear hs
  have HA := Lib.hid ha
  clear ha
  have HB := Lib.hid hb
  clear hb
  have HV := Lib.hid hv
  clear hv
  have K1 := Lib.hid k1
  clear k1
  have K2 := Lib.hid k2
  clear k2
  have K3 := Lib.hid k3
  clear k3
  have K4 := Lib.hid k4
  clear k4
  have HI := Lib.hid (And.intro irN irD)
  obtain ⟨ba1, ba2⟩ := ba
  obtain ⟨bx1, bx2⟩ := bx
  have K5 := Lib.hid k5
  clear k5
  go_enter Tryd.func9, Tryd.ntmps9
  go_wp2_with fail
  have p := Pr.here w rN rD 30
  have b0 : Below w.heap.size w (w.alloc (.cells #[.int .i64 rN, .int .i64 rD] 30)) := (Below.refl _ _).alloc (Nat.le_refl _) _
  generalize w.alloc (.cells #[.int .i64 rN, .int .i64 rD] 30) = w0 at *
  refine (head_any _ (HS.out.below b0 HS.out.sz)).mono ?_
  rintro e w1 ⟨rfl, hb⟩
  replace p := p.on hb
  have b1 := on_below b0 hb
  clear hb b0
  have ⟨p0, p1⟩ := p
  have pl := p.lt
  go_wp2_with fail
  clear p0 p1 pl
  refine (refam_b a true HA.out _).mono ?_
  rintro e w' ⟨rfl, rfl⟩
  have ⟨p0, p1⟩ := p
  have pl := p.lt
  go_wp2_with fail
  clear p0 p1 pl
  refine (refam_b b true HB.out _).mono ?_
  rintro e w' ⟨rfl, rfl⟩
  have ⟨p0, p1⟩ := p
  have pl := p.lt
  go_wp2_with fail
  clear p0 p1 pl
  refine (refvalid_b _ _ true HV.out _ HI.out.1 HI.out.2).mono ?_
  rintro e w2 ⟨rfl, hb⟩
  replace p := p.on hb
  have b2 := on_below b1 hb
  clear hb b1
  have ⟨p0, p1⟩ := p
  have pl := p.lt
  go_wp2_with fail
  clear p0 p1 pl
  refine (K1.out _).mono ?_
  rintro e w3 ⟨rfl, hb⟩
  replace p := p.on hb
  have b3 := on_below b2 hb
  clear hb b2
  have ⟨p0, p1⟩ := p
  have pl := p.lt
  go_wp2_with fail
  clear p0 p1 pl
  refine (K2.out _).mono ?_
  rintro e w4 ⟨rfl, hb⟩
  replace p := p.on hb
  have b4 := on_below b3 hb
  clear hb b3
  have ⟨p0, p1⟩ := p
  have pl := p.lt
  go_wp2_with fail
  clear p0 p1 pl
  refine (K3.out _).mono ?_
  rintro e w5 ⟨rfl, hb⟩
  replace p := p.on hb
  have b5 := on_below b4 hb
  clear hb b4
  have ⟨p0, p1⟩ := p
  have pl := p.lt
  go_wp2_with fail
  clear p0 p1 pl
  refine (K4.out _).mono ?_
  rintro e w6 ⟨rfl, hb⟩
  replace p := p.on hb
  have b6 := on_below b5 hb
  clear hb b5
  have ⟨p0, p1⟩ := p
  have pl := p.lt
  go_wp2_with fail
  clear p0 p1 pl
  refine (K5.out _).mono ?_
  rintro e w7 ⟨rfl, hb⟩
  replace p := p.on hb
  have b7 := on_below b6 hb
  clear hb b6
  have ⟨p0, p1⟩ := p
  have pl := p.lt
  go_wp2_with fail
  clear p0 p1 pl
  go_ret
  exact ⟨rfl, b7⟩

set_option maxRecDepth 100000 in
set_option maxHeartbeats 1000000 in
theorem ok_01 (a : Int) (ia : I64 a) (b : Int) (ib : I64 b) (rN rD : Int) (irN : I64 rN) (irD : I64 rD) (w : World) (hs : St w) (ha : am a = true) (hb : am b = true) (hv : vld rN rD = true) (hn : 1 ≤ rN) (ba : -1000000000 ≤ a ∧ a ≤ 1000000000) (k1 : ∀ W : World, Calls Tryd.prog 21 #[.int .i64 a, .int .i64 1, .int .i64 1, .agg #[.int .i64 rN, .int .i64 rD]] W fun e w' => e = .returned (.tuple #[.int .i64 a, .int .i64 0]) ∧ Below W.heap.size W w') (x z : Int) (bx : -1000000000 ≤ x ∧ x ≤ 1000000000) (h3 : Int) (hh3 : (h3 == 0) = false) (k2 : ∀ W : World, Calls Tryd.prog 21 #[.int .i64 a, .int .i64 0, .int .i64 1, .agg #[.int .i64 rN, .int .i64 rD]] W fun e w' => e = .returned (.tuple #[.int .i64 x, .int .i64 0]) ∧ Below W.heap.size W w') (k3 : ∀ W : World, Calls Tryd.prog 21 #[.int .i64 (-a), .int .i64 0, .int .i64 1, .agg #[.int .i64 rN, .int .i64 rD]] W fun e w' => e = .returned (.tuple #[.int .i64 (-x), .int .i64 0]) ∧ Below W.heap.size W w') (k4 : ∀ W : World, Calls Tryd.prog 21 #[.int .i64 b, .int .i64 0, .int .i64 1, .agg #[.int .i64 rN, .int .i64 rD]] W fun e w' => e = .returned (.tuple #[.int .i64 z, .int .i64 h3]) ∧ Below W.heap.size W w') (y : Int) (hy : am y = true) (bY : -1000000000 ≤ y ∧ y ≤ 1000000000) (k5 : ∀ W : World, Calls Tryd.prog 21 #[.int .i64 x, .int .i64 1, .int .i64 0, .agg #[.int .i64 rN, .int .i64 rD]] W fun e w' => e = .returned (.tuple #[.int .i64 y, .int .i64 0]) ∧ Below W.heap.size W w') (hf : 2 * (((y - a).natAbs : Int) * rN) ≤ rN + rD) (hr : rN ≤ 1000000000 ∧ 1 ≤ rD ∧ rD ≤ 1000000000) :
    Calls Tryd.prog 9 #[.int .i64 a, .int .i64 b, .agg #[.int .i64 rN, .int .i64 rD]] w fun e w' => e = .returned (.bool true) ∧ Below w.heap.size w w' := by
  have HS := Lib.hid hs
  clear hs
  have HA := Lib.hid ha
  clear ha
  have HB := Lib.hid hb
  clear hb
  have HV := Lib.hid hv
  clear hv
  have K1 := Lib.hid k1
  clear k1
  have K2 := Lib.hid k2
  clear k2
  have K3 := Lib.hid k3
  clear k3
  have K4 := Lib.hid k4
  clear k4
  have HI := Lib.hid (And.intro irN irD)
  obtain ⟨ba1, ba2⟩ := ba
  obtain ⟨bx1, bx2⟩ := bx
  have K5 := Lib.hid k5
  clear k5
  have HY := Lib.hid hy
  clear hy
  have HF := Lib.hid hf
  clear hf
  obtain ⟨by1, by2⟩ := bY
  obtain ⟨hr1, hr2, hr3⟩ := hr
  go_enter Tryd.func9, Tryd.ntmps9
  go_wp2_with fail
  have p := Pr.here w rN rD 30
  have b0 : Below w.heap.size w (w.alloc (.cells #[.int .i64 rN, .int .i64 rD] 30)) := (Below.refl _ _).alloc (Nat.le_refl _) _
  generalize w.alloc (.cells #[.int .i64 rN, .int .i64 rD] 30) = w0 at *
  refine (head_any _ (HS.out.below b0 HS.out.sz)).mono ?_
  rintro e w1 ⟨rfl, hb⟩
  replace p := p.on hb
  have b1 := on_below b0 hb
  clear hb b0
  have ⟨p0, p1⟩ := p
  have pl := p.lt
  go_wp2_with fail
  clear p0 p1 pl
  refine (refam_b a true HA.out _).mono ?_
  rintro e w' ⟨rfl, rfl⟩
  have ⟨p0, p1⟩ := p
  have pl := p.lt
  go_wp2_with fail
  clear p0 p1 pl
  refine (refam_b b true HB.out _).mono ?_
  rintro e w' ⟨rfl, rfl⟩
  have ⟨p0, p1⟩ := p
  have pl := p.lt
  go_wp2_with fail
  clear p0 p1 pl
  refine (refvalid_b _ _ true HV.out _ HI.out.1 HI.out.2).mono ?_
  rintro e w2 ⟨rfl, hb⟩
  replace p := p.on hb
  have b2 := on_below b1 hb
  clear hb b1
  have ⟨p0, p1⟩ := p
  have pl := p.lt
  go_wp2_with fail
  clear p0 p1 pl
  refine (K1.out _).mono ?_
  rintro e w3 ⟨rfl, hb⟩
  replace p := p.on hb
  have b3 := on_below b2 hb
  clear hb b2
  have ⟨p0, p1⟩ := p
  have pl := p.lt
  go_wp2_with fail
  clear p0 p1 pl
  refine (K2.out _).mono ?_
  rintro e w4 ⟨rfl, hb⟩
  replace p := p.on hb
  have b4 := on_below b3 hb
  clear hb b3
  have ⟨p0, p1⟩ := p
  have pl := p.lt
  go_wp2_with fail
  clear p0 p1 pl
  refine (K3.out _).mono ?_
  rintro e w5 ⟨rfl, hb⟩
  replace p := p.on hb
  have b5 := on_below b4 hb
  clear hb b4
  have ⟨p0, p1⟩ := p
  have pl := p.lt
  go_wp2_with fail
  clear p0 p1 pl
  refine (K4.out _).mono ?_
  rintro e w6 ⟨rfl, hb⟩
  replace p := p.on hb
  have b6 := on_below b5 hb
  clear hb b5
  have ⟨p0, p1⟩ := p
  have pl := p.lt
  go_wp2_with fail
  clear p0 p1 pl
  refine (K5.out _).mono ?_
  rintro e w7 ⟨rfl, hb⟩
  replace p := p.on hb
  have b7 := on_below b6 hb
  clear hb b6
  have ⟨p0, p1⟩ := p
  have pl := p.lt
  go_wp2_with fail
  clear p0 p1 pl
  refine (refam_b y true HY.out _).mono ?_
  rintro e w' ⟨rfl, rfl⟩
  have ⟨p0, p1⟩ := p
  have pl := p.lt
  go_wp2_with fail
  go_quiet ((go_at_call 17; exact quiet_left (lsize_any _ _ (by omega) (by omega))))
  go_wp2
  go_ret
  exact ⟨ret_bool (fin_eq (by omega) (by omega) (by omega) HF.out), below_drewN' b7 _⟩

set_option maxRecDepth 100000 in
set_option maxHeartbeats 1000000 in
theorem ok_10 (a : Int) (ia : I64 a) (b : Int) (ib : I64 b) (rN rD : Int) (irN : I64 rN) (irD : I64 rD) (w : World) (hs : St w) (ha : am a = true) (hb : am b = true) (hv : vld rN rD = true) (hn : 1 ≤ rN) (ba : -1000000000 ≤ a ∧ a ≤ 1000000000) (k1 : ∀ W : World, Calls Tryd.prog 21 #[.int .i64 a, .int .i64 1, .int .i64 1, .agg #[.int .i64 rN, .int .i64 rD]] W fun e w' => e = .returned (.tuple #[.int .i64 a, .int .i64 0]) ∧ Below W.heap.size W w') (x z : Int) (bx : -1000000000 ≤ x ∧ x ≤ 1000000000) (q1 : a < b) (q2 : x ≤ z) (k2 : ∀ W : World, Calls Tryd.prog 21 #[.int .i64 a, .int .i64 0, .int .i64 1, .agg #[.int .i64 rN, .int .i64 rD]] W fun e w' => e = .returned (.tuple #[.int .i64 x, .int .i64 0]) ∧ Below W.heap.size W w') (k3 : ∀ W : World, Calls Tryd.prog 21 #[.int .i64 (-a), .int .i64 0, .int .i64 1, .agg #[.int .i64 rN, .int .i64 rD]] W fun e w' => e = .returned (.tuple #[.int .i64 (-x), .int .i64 0]) ∧ Below W.heap.size W w') (k4 : ∀ W : World, Calls Tryd.prog 21 #[.int .i64 b, .int .i64 0, .int .i64 1, .agg #[.int .i64 rN, .int .i64 rD]] W fun e w' => e = .returned (.tuple #[.int .i64 z, .int .i64 0]) ∧ Below W.heap.size W w') (k5 : ∀ W : World, Calls Tryd.prog 21 #[.int .i64 x, .int .i64 1, .int .i64 0, .agg #[.int .i64 rN, .int .i64 rD]] W fun e w' => e = .returned (.tuple #[.int .i64 0, .int .i64 3]) ∧ Below W.heap.size W w') :
    Calls Tryd.prog 9 #[.int .i64 a, .int .i64 b, .agg #[.int .i64 rN, .int .i64 rD]] w fun e w' => e = .returned (.bool true) ∧ Below w.heap.size w w' := by
  have HS := Lib.hid hs
  clear hs
  have HA := Lib.hid ha
  clear ha
  have HB := Lib.hid hb
  clear hb
  have HV := Lib.hid hv
  clear hv
  have K1 := Lib.hid k1
  clear k1
  have K2 := Lib.hid k2
  clear k2
  have K3 := Lib.hid k3
  clear k3
  have K4 := Lib.hid k4
  clear k4
  have HI := Lib.hid (And.intro irN irD)
  obtain ⟨ba1, ba2⟩ := ba
  obtain ⟨bx1, bx2⟩ := bx
  have K5 := Lib.hid k5
  clear k5
  go_enter Tryd.func9, Tryd.ntmps9
  go_wp2_with fail
  have p := Pr.here w rN rD 30
  have b0 : Below w.heap.size w (w.alloc (.cells #[.int .i64 rN, .int .i64 rD] 30)) := (Below.refl _ _).alloc (Nat.le_refl _) _
  generalize w.alloc (.cells #[.int .i64 rN, .int .i64 rD] 30) = w0 at *
  refine (head_any _ (HS.out.below b0 HS.out.sz)).mono ?_
  rintro e w1 ⟨rfl, hb⟩
  replace p := p.on hb
  have b1 := on_below b0 hb
  clear hb b0
  have ⟨p0, p1⟩ := p
  have pl := p.lt
  go_wp2_with fail
  clear p0 p1 pl
  refine (refam_b a true HA.out _).mono ?_
  rintro e w' ⟨rfl, rfl⟩
  have ⟨p0, p1⟩ := p
  have pl := p.lt
  go_wp2_with fail
  clear p0 p1 pl
  refine (refam_b b true HB.out _).mono ?_
  rintro e w' ⟨rfl, rfl⟩
  have ⟨p0, p1⟩ := p
  have pl := p.lt
  go_wp2_with fail
  clear p0 p1 pl
  refine (refvalid_b _ _ true HV.out _ HI.out.1 HI.out.2).mono ?_
  rintro e w2 ⟨rfl, hb⟩
  replace p := p.on hb
  have b2 := on_below b1 hb
  clear hb b1
  have ⟨p0, p1⟩ := p
  have pl := p.lt
  go_wp2_with fail
  clear p0 p1 pl
  refine (K1.out _).mono ?_
  rintro e w3 ⟨rfl, hb⟩
  replace p := p.on hb
  have b3 := on_below b2 hb
  clear hb b2
  have ⟨p0, p1⟩ := p
  have pl := p.lt
  go_wp2_with fail
  clear p0 p1 pl
  refine (K2.out _).mono ?_
  rintro e w4 ⟨rfl, hb⟩
  replace p := p.on hb
  have b4 := on_below b3 hb
  clear hb b3
  have ⟨p0, p1⟩ := p
  have pl := p.lt
  go_wp2_with fail
  clear p0 p1 pl
  refine (K3.out _).mono ?_
  rintro e w5 ⟨rfl, hb⟩
  replace p := p.on hb
  have b5 := on_below b4 hb
  clear hb b4
  have ⟨p0, p1⟩ := p
  have pl := p.lt
  go_wp2_with fail
  clear p0 p1 pl
  refine (K4.out _).mono ?_
  rintro e w6 ⟨rfl, hb⟩
  replace p := p.on hb
  have b6 := on_below b5 hb
  clear hb b5
  have ⟨p0, p1⟩ := p
  have pl := p.lt
  go_wp2_with fail
  clear p0 p1 pl
  refine (K5.out _).mono ?_
  rintro e w7 ⟨rfl, hb⟩
  replace p := p.on hb
  have b7 := on_below b6 hb
  clear hb b6
  have ⟨p0, p1⟩ := p
  have pl := p.lt
  go_wp2_with fail
  clear p0 p1 pl
  go_ret
  exact ⟨rfl, b7⟩

set_option maxRecDepth 100000 in
set_option maxHeartbeats 1000000 in
theorem ok_11 (a : Int) (ia : I64 a) (b : Int) (ib : I64 b) (rN rD : Int) (irN : I64 rN) (irD : I64 rD) (w : World) (hs : St w) (ha : am a = true) (hb : am b = true) (hv : vld rN rD = true) (hn : 1 ≤ rN) (ba : -1000000000 ≤ a ∧ a ≤ 1000000000) (k1 : ∀ W : World, Calls Tryd.prog 21 #[.int .i64 a, .int .i64 1, .int .i64 1, .agg #[.int .i64 rN, .int .i64 rD]] W fun e w' => e = .returned (.tuple #[.int .i64 a, .int .i64 0]) ∧ Below W.heap.size W w') (x z : Int) (bx : -1000000000 ≤ x ∧ x ≤ 1000000000) (q1 : a < b) (q2 : x ≤ z) (k2 : ∀ W : World, Calls Tryd.prog 21 #[.int .i64 a, .int .i64 0, .int .i64 1, .agg #[.int .i64 rN, .int .i64 rD]] W fun e w' => e = .returned (.tuple #[.int .i64 x, .int .i64 0]) ∧ Below W.heap.size W w') (k3 : ∀ W : World, Calls Tryd.prog 21 #[.int .i64 (-a), .int .i64 0, .int .i64 1, .agg #[.int .i64 rN, .int .i64 rD]] W fun e w' => e = .returned (.tuple #[.int .i64 (-x), .int .i64 0]) ∧ Below W.heap.size W w') (k4 : ∀ W : World, Calls Tryd.prog 21 #[.int .i64 b, .int .i64 0, .int .i64 1, .agg #[.int .i64 rN, .int .i64 rD]] W fun e w' => e = .returned (.tuple #[.int .i64 z, .int .i64 0]) ∧ Below W.heap.size W w') (y : Int) (hy : am y = true) (bY : -1000000000 ≤ y ∧ y ≤ 1000000000) (k5 : ∀ W : World, Calls Tryd.prog 21 #[.int .i64 x, .int .i64 1, .int .i64 0, .agg #[.int .i64 rN, .int .i64 rD]] W fun e w' => e = .returned (.tuple #[.int .i64 y, .int .i64 0]) ∧ Below W.heap.size W w') (hf : 2 * (((y - a).natAbs : Int) * rN) ≤ rN + rD) (hr : rN ≤ 1000000000 ∧ 1 ≤ rD ∧ rD ≤ 1000000000) :
    Calls Tryd.prog 9 #[.int .i64 a, .int .i64 b, .agg #[.int .i64 rN, .int .i64 rD]] w fun e w' => e = .returned (.bool true) ∧ Below w.heap.size w w' := by
  have HS := Lib.hid hs
  clear hs
  have HA := Lib.hid ha
  clear ha
  have HB := Lib.hid hb
  clear hb
  have HV := Lib.hid hv
  clear hv
  have K1 := Lib.hid k1
  clear k1
  have K2 := Lib.hid k2
  clear k2
  have K3 := Lib.hid k3
  clear k3
  have K4 := Lib.hid k4
  clear k4
  have HI := Lib.hid (And.intro irN irD)
  obtain ⟨ba1, ba2⟩ := ba
  obtain ⟨bx1, bx2⟩ := bx
  have K5 := Lib.hid k5
  clear k5
  have HY := Lib.hid hy
  clear hy
  have HF := Lib.hid hf
  clear hf
  obtain ⟨by1, by2⟩ := bY
  obtain ⟨hr1, hr2, hr3⟩ := hr
  go_enter Tryd.func9, Tryd.ntmps9
  go_wp2_with fail
  have p := Pr.here w rN rD 30
  have b0 : Below w.heap.size w (w.alloc (.cells #[.int .i64 rN, .int .i64 rD] 30)) := (Below.refl _ _).alloc (Nat.le_refl _) _
  generalize w.alloc (.cells #[.int .i64 rN, .int .i64 rD] 30) = w0 at *
  refine (head_any _ (HS.out.below b0 HS.out.sz)).mono ?_
  rintro e w1 ⟨rfl, hb⟩
  replace p := p.on hb
  have b1 := on_below b0 hb
  clear hb b0
  have ⟨p0, p1⟩ := p
  have pl := p.lt
  go_wp2_with fail
  clear p0 p1 pl
  refine (refam_b a true HA.out _).mono ?_
  rintro e w' ⟨rfl, rfl⟩
  have ⟨p0, p1⟩ := p
  have pl := p.lt
  go_wp2_with fail
  clear p0 p1 pl
  refine (refam_b b true HB.out _).mono ?_
  rintro e w' ⟨rfl, rfl⟩
  have ⟨p0, p1⟩ := p
  have pl := p.lt
  go_wp2_with fail
  clear p0 p1 pl
  refine (refvalid_b _ _ true HV.out _ HI.out.1 HI.out.2).mono ?_
  rintro e w2 ⟨rfl, hb⟩
  replace p := p.on hb
  have b2 := on_below b1 hb
  clear hb b1
  have ⟨p0, p1⟩ := p
  have pl := p.lt
  go_wp2_with fail
  clear p0 p1 pl
  refine (K1.out _).mono ?_
  rintro e w3 ⟨rfl, hb⟩
  replace p := p.on hb
  have b3 := on_below b2 hb
  clear hb b2
  have ⟨p0, p1⟩ := p
  have pl := p.lt
  go_wp2_with fail
  clear p0 p1 pl
  refine (K2.out _).mono ?_
  rintro e w4 ⟨rfl, hb⟩
  replace p := p.on hb
  have b4 := on_below b3 hb
  clear hb b3
  have ⟨p0, p1⟩ := p
  have pl := p.lt
  go_wp2_with fail
  clear p0 p1 pl
  refine (K3.out _).mono ?_
  rintro e w5 ⟨rfl, hb⟩
  replace p := p.on hb
  have b5 := on_below b4 hb
  clear hb b4
  have ⟨p0, p1⟩ := p
  have pl := p.lt
  go_wp2_with fail
  clear p0 p1 pl
  refine (K4.out _).mono ?_
  rintro e w6 ⟨rfl, hb⟩
  replace p := p.on hb
  have b6 := on_below b5 hb
  clear hb b5
  have ⟨p0, p1⟩ := p
  have pl := p.lt
  go_wp2_with fail
  clear p0 p1 pl
  refine (K5.out _).mono ?_
  rintro e w7 ⟨rfl, hb⟩
  replace p := p.on hb
  have b7 := on_below b6 hb
  clear hb b6
  have ⟨p0, p1⟩ := p
  have pl := p.lt
  go_wp2_with fail
  clear p0 p1 pl
  refine (refam_b y true HY.out _).mono ?_
  rintro e w' ⟨rfl, rfl⟩
  have ⟨p0, p1⟩ := p
  have pl := p.lt
  go_wp2_with fail
  go_quiet ((go_at_call 17; exact quiet_left (lsize_any _ _ (by omega) (by omega))))
  go_wp2
  go_ret
  exact ⟨ret_bool (fin_eq (by omega) (by omega) (by omega) HF.out), below_drewN' b7 _⟩

set_option maxRecDepth 100000 in
set_option maxHeartbeats 1000000 in
theorem ok_20 (a : Int) (ia : I64 a) (b : Int) (ib : I64 b) (rN rD : Int) (irN : I64 rN) (irD : I64 rD) (w : World) (hs : St w) (ha : am a = true) (hb : am b = true) (hv : vld rN rD = true) (hn : 1 ≤ rN) (ba : -1000000000 ≤ a ∧ a ≤ 1000000000) (k1 : ∀ W : World, Calls Tryd.prog 21 #[.int .i64 a, .int .i64 1, .int .i64 1, .agg #[.int .i64 rN, .int .i64 rD]] W fun e w' => e = .returned (.tuple #[.int .i64 a, .int .i64 0]) ∧ Below W.heap.size W w') (x z : Int) (bx : -1000000000 ≤ x ∧ x ≤ 1000000000) (q1 : b < a) (q2 : z ≤ x) (k2 : ∀ W : World, Calls Tryd.prog 21 #[.int .i64 a, .int .i64 0, .int .i64 1, .agg #[.int .i64 rN, .int .i64 rD]] W fun e w' => e = .returned (.tuple #[.int .i64 x, .int .i64 0]) ∧ Below W.heap.size W w') (k3 : ∀ W : World, Calls Tryd.prog 21 #[.int .i64 (-a), .int .i64 0, .int .i64 1, .agg #[.int .i64 rN, .int .i64 rD]] W fun e w' => e = .returned (.tuple #[.int .i64 (-x), .int .i64 0]) ∧ Below W.heap.size W w') (k4 : ∀ W : World, Calls Tryd.prog 21 #[.int .i64 b, .int .i64 0, .int .i64 1, .agg #[.int .i64 rN, .int .i64 rD]] W fun e w' => e = .returned (.tuple #[.int .i64 z, .int .i64 0]) ∧ Below W.heap.size W w') (k5 : ∀ W : World, Calls Tryd.prog 21 #[.int .i64 x, .int .i64 1, .int .i64 0, .agg #[.int .i64 rN, .int .i64 rD]] W fun e w' => e = .returned (.tuple #[.int .i64 0, .int .i64 3]) ∧ Below W.heap.size W w') :
    Calls Tryd.prog 9 #[.int .i64 a, .int .i64 b, .agg #[.int .i64 rN, .int .i64 rD]] w fun e w' => e = .returned (.bool true) ∧ Below w.heap.size w w' := by
  have HS := Lib.hid hs
  clear hs
  have HA := Lib.hid ha
  clear ha
  have HB := Lib.hid hb
  clear hb
  have HV := Lib.hid hv
  clear hv
  have K1 := Lib.hid k1
  clear k1
  have K2 := Lib.hid k2
  clear k2
  have K3 := Lib.hid k3
  clear k3
  have K4 := Lib.hid k4
  clear k4
  have HI := Lib.hid (And.intro irN irD)
  obtain ⟨ba1, ba2⟩ := ba
  obtain ⟨bx1, bx2⟩ := bx
  have K5 := Lib.hid k5
  clear k5
  go_enter Tryd.func9, Tryd.ntmps9
  go_wp2_with fail
  have p := Pr.here w rN rD 30
  have b0 : Below w.heap.size w (w.alloc (.cells #[.int .i64 rN, .int .i64 rD] 30)) := (Below.refl _ _).alloc (Nat.le_refl _) _
  generalize w.alloc (.cells #[.int .i64 rN, .int .i64 rD] 30) = w0 at *
  refine (head_any _ (HS.out.below b0 HS.out.sz)).mono ?_
  rintro e w1 ⟨rfl, hb⟩
  replace p := p.on hb
  have b1 := on_below b0 hb
  clear hb b0
  have ⟨p0, p1⟩ := p
  have pl := p.lt
  go_wp2_with fail
  clear p0 p1 pl
  refine (refam_b a true HA.out _).mono ?_
  rintro e w' ⟨rfl, rfl⟩
  have ⟨p0, p1⟩ := p
  have pl := p.lt
  go_wp2_with fail
  clear p0 p1 pl
  refine (refam_b b true HB.out _).mono ?_
  rintro e w' ⟨rfl, rfl⟩
  have ⟨p0, p1⟩ := p
  have pl := p.lt
  go_wp2_with fail
  clear p0 p1 pl
  refine (refvalid_b _ _ true HV.out _ HI.out.1 HI.out.2).mono ?_
  rintro e w2 ⟨rfl, hb⟩
  replace p := p.on hb
  have b2 := on_below b1 hb
  clear hb b1
  have ⟨p0, p1⟩ := p
  have pl := p.lt
  go_wp2_with fail
  clear p0 p1 pl
  refine (K1.out _).mono ?_
  rintro e w3 ⟨rfl, hb⟩
  replace p := p.on hb
  have b3 := on_below b2 hb
  clear hb b2
  have ⟨p0, p1⟩ := p
  have pl := p.lt
  go_wp2_with fail
  clear p0 p1 pl
  refine (K2.out _).mono ?_
  rintro e w4 ⟨rfl, hb⟩
  replace p := p.on hb
  have b4 := on_below b3 hb
  clear hb b3
  have ⟨p0, p1⟩ := p
  have pl := p.lt
  go_wp2_with fail
  clear p0 p1 pl
  refine (K3.out _).mono ?_
  rintro e w5 ⟨rfl, hb⟩
  replace p := p.on hb
  have b5 := on_below b4 hb
  clear hb b4
  have ⟨p0, p1⟩ := p
  have pl := p.lt
  go_wp2_with fail
  clear p0 p1 pl
  refine (K4.out _).mono ?_
  rintro e w6 ⟨rfl, hb⟩
  replace p := p.on hb
  have b6 := on_below b5 hb
  clear hb b5
  have ⟨p0, p1⟩ := p
  have pl := p.lt
  go_wp2_with fail
  clear p0 p1 pl
  refine (K5.out _).mono ?_
  rintro e w7 ⟨rfl, hb⟩
  replace p := p.on hb
  have b7 := on_below b6 hb
  clear hb b6
  have ⟨p0, p1⟩ := p
  have pl := p.lt
  go_wp2_with fail
  clear p0 p1 pl
  go_ret
  exact ⟨rfl, b7⟩

set_option maxRecDepth 100000 in
set_option maxHeartbeats 1000000 in
theorem ok_21 (a : Int) (ia : I64 a) (b : Int) (ib : I64 b) (rN rD : Int) (irN : I64 rN) (irD : I64 rD) (w : World) (hs : St w) (ha : am a = true) (hb : am b = true) (hv : vld rN rD = true) (hn : 1 ≤ rN) (ba : -1000000000 ≤ a ∧ a ≤ 1000000000) (k1 : ∀ W : World, Calls Tryd.prog 21 #[.int .i64 a, .int .i64 1, .int .i64 1, .agg #[.int .i64 rN, .int .i64 rD]] W fun e w' => e = .returned (.tuple #[.int .i64 a, .int .i64 0]) ∧ Below W.heap.size W w') (x z : Int) (bx : -1000000000 ≤ x ∧ x ≤ 1000000000) (q1 : b < a) (q2 : z ≤ x) (k2 : ∀ W : World, Calls Tryd.prog 21 #[.int .i64 a, .int .i64 0, .int .i64 1, .agg #[.int .i64 rN, .int .i64 rD]] W fun e w' => e = .returned (.tuple #[.int .i64 x, .int .i64 0]) ∧ Below W.heap.size W w') (k3 : ∀ W : World, Calls Tryd.prog 21 #[.int .i64 (-a), .int .i64 0, .int .i64 1, .agg #[.int .i64 rN, .int .i64 rD]] W fun e w' => e = .returned (.tuple #[.int .i64 (-x), .int .i64 0]) ∧ Below W.heap.size W w') (k4 : ∀ W : World, Calls Tryd.prog 21 #[.int .i64 b, .int .i64 0, .int .i64 1, .agg #[.int .i64 rN, .int .i64 rD]] W fun e w' => e = .returned (.tuple #[.int .i64 z, .int .i64 0]) ∧ Below W.heap.size W w') (y : Int) (hy : am y = true) (bY : -1000000000 ≤ y ∧ y ≤ 1000000000) (k5 : ∀ W : World, Calls Tryd.prog 21 #[.int .i64 x, .int .i64 1, .int .i64 0, .agg #[.int .i64 rN, .int .i64 rD]] W fun e w' => e = .returned (.tuple #[.int .i64 y, .int .i64 0]) ∧ Below W.heap.size W w') (hf : 2 * (((y - a).natAbs : Int) * rN) ≤ rN + rD) (hr : rN ≤ 1000000000 ∧ 1 ≤ rD ∧ rD ≤ 1000000000) :
    Calls Tryd.prog 9 #[.int .i64 a, .int .i64 b, .agg #[.int .i64 rN, .int .i64 rD]] w fun e w' => e = .returned (.bool true) ∧ Below w.heap.size w w' := by
  have HS := Lib.hid hs
  clear hs
  have HA := Lib.hid ha
  clear ha
  have HB := Lib.hid hb
  clear hb
  have HV := Lib.hid hv
  clear hv
  have K1 := Lib.hid k1
  clear k1
  have K2 := Lib.hid k2
  clear k2
  have K3 := Lib.hid k3
  clear k3
  have K4 := Lib.hid k4
  clear k4
  have HI := Lib.hid (And.intro irN irD)
  obtain ⟨ba1, ba2⟩ := ba
  obtain ⟨bx1, bx2⟩ := bx
  have K5 := Lib.hid k5
  clear k5
  have HY := Lib.hid hy
  clear hy
  have HF := Lib.hid hf
  clear hf
  obtain ⟨by1, by2⟩ := bY
  obtain ⟨hr1, hr2, hr3⟩ := hr
  go_enter Tryd.func9, Tryd.ntmps9
  go_wp2_with fail
  have p := Pr.here w rN rD 30
  have b0 : Below w.heap.size w (w.alloc (.cells #[.int .i64 rN, .int .i64 rD] 30)) := (Below.refl _ _).alloc (Nat.le_refl _) _
  generalize w.alloc (.cells #[.int .i64 rN, .int .i64 rD] 30) = w0 at *
  refine (head_any _ (HS.out.below b0 HS.out.sz)).mono ?_
  rintro e w1 ⟨rfl, hb⟩
  replace p := p.on hb
  have b1 := on_below b0 hb
  clear hb b0
  have ⟨p0, p1⟩ := p
  have pl := p.lt
  go_wp2_with fail
  clear p0 p1 pl
  refine (refam_b a true HA.out _).mono ?_
  rintro e w' ⟨rfl, rfl⟩
  have ⟨p0, p1⟩ := p
  have pl := p.lt
  go_wp2_with fail
  clear p0 p1 pl
  refine (refam_b b true HB.out _).mono ?_
  rintro e w' ⟨rfl, rfl⟩
  have ⟨p0, p1⟩ := p
  have pl := p.lt
  go_wp2_with fail
  clear p0 p1 pl
  refine (refvalid_b _ _ true HV.out _ HI.out.1 HI.out.2).mono ?_
  rintro e w2 ⟨rfl, hb⟩
  replace p := p.on hb
  have b2 := on_below b1 hb
  clear hb b1
  have ⟨p0, p1⟩ := p
  have pl := p.lt
  go_wp2_with fail
  clear p0 p1 pl
  refine (K1.out _).mono ?_
  rintro e w3 ⟨rfl, hb⟩
  replace p := p.on hb
  have b3 := on_below b2 hb
  clear hb b2
  have ⟨p0, p1⟩ := p
  have pl := p.lt
  go_wp2_with fail
  clear p0 p1 pl
  refine (K2.out _).mono ?_
  rintro e w4 ⟨rfl, hb⟩
  replace p := p.on hb
  have b4 := on_below b3 hb
  clear hb b3
  have ⟨p0, p1⟩ := p
  have pl := p.lt
  go_wp2_with fail
  clear p0 p1 pl
  refine (K3.out _).mono ?_
  rintro e w5 ⟨rfl, hb⟩
  replace p := p.on hb
  have b5 := on_below b4 hb
  clear hb b4
  have ⟨p0, p1⟩ := p
  have pl := p.lt
  go_wp2_with fail
  clear p0 p1 pl
  refine (K4.out _).mono ?_
  rintro e w6 ⟨rfl, hb⟩
  replace p := p.on hb
  have b6 := on_below b5 hb
  clear hb b5
  have ⟨p0, p1⟩ := p
  have pl := p.lt
  go_wp2_with fail
  clear p0 p1 pl
  refine (K5.out _).mono ?_
  rintro e w7 ⟨rfl, hb⟩
  replace p := p.on hb
  have b7 := on_below b6 hb
  clear hb b6
  have ⟨p0, p1⟩ := p
  have pl := p.lt
  go_wp2_with fail
  clear p0 p1 pl
  refine (refam_b y true HY.out _).mono ?_
  rintro e w' ⟨rfl, rfl⟩
  have ⟨p0, p1⟩ := p
  have pl := p.lt
  go_wp2_with fail
  go_quiet ((go_at_call 17; exact quiet_left (lsize_any _ _ (by omega) (by omega))))
  go_wp2
  go_ret
  exact ⟨ret_bool (fin_eq (by omega) (by omega) (by omega) HF.out), below_drewN' b7 _⟩

set_option maxRecDepth 100000 in
set_option maxHeartbeats 1000000 in
theorem ok_30 (a : Int) (ia : I64 a) (b : Int) (ib : I64 b) (rN rD : Int) (irN : I64 rN) (irD : I64 rD) (w : World) (hs : St w) (ha : am a = true) (hb : am b = true) (hv : vld rN rD = true) (hn : 1 ≤ rN) (ba : -1000000000 ≤ a ∧ a ≤ 1000000000) (k1 : ∀ W : World, Calls Tryd.prog 21 #[.int .i64 a, .int .i64 1, .int .i64 1, .agg #[.int .i64 rN, .int .i64 rD]] W fun e w' => e = .returned (.tuple #[.int .i64 a, .int .i64 0]) ∧ Below W.heap.size W w') (x z : Int) (bx : -1000000000 ≤ x ∧ x ≤ 1000000000) (q1 : a ≤ b) (q3 : b ≤ a) (q2 : x ≤ z) (q4 : z ≤ x) (k2 : ∀ W : World, Calls Tryd.prog 21 #[.int .i64 a, .int .i64 0, .int .i64 1, .agg #[.int .i64 rN, .int .i64 rD]] W fun e w' => e = .returned (.tuple #[.int .i64 x, .int .i64 0]) ∧ Below W.heap.size W w') (k3 : ∀ W : World, Calls Tryd.prog 21 #[.int .i64 (-a), .int .i64 0, .int .i64 1, .agg #[.int .i64 rN, .int .i64 rD]] W fun e w' => e = .returned (.tuple #[.int .i64 (-x), .int .i64 0]) ∧ Below W.heap.size W w') (k4 : ∀ W : World, Calls Tryd.prog 21 #[.int .i64 b, .int .i64 0, .int .i64 1, .agg #[.int .i64 rN, .int .i64 rD]] W fun e w' => e = .returned (.tuple #[.int .i64 z, .int .i64 0]) ∧ Below W.heap.size W w') (k5 : ∀ W : World, Calls Tryd.prog 21 #[.int .i64 x, .int .i64 1, .int .i64 0, .agg #[.int .i64 rN, .int .i64 rD]] W fun e w' => e = .returned (.tuple #[.int .i64 0, .int .i64 3]) ∧ Below W.heap.size W w') :
    Calls Tryd.prog 9 #[.int .i64 a, .int .i64 b, .agg #[.int .i64 rN, .int .i64 rD]] w fun e w' => e = .returned (.bool true) ∧ Below w.heap.size w w' := by
  have HS := Lib.hid hs
  clear hs
  have HA := Lib.hid ha
  clear ha
  have HB := Lib.hid hb
  clear hb
  have HV := Lib.hid hv
  clear hv
  have K1 := Lib.hid k1
  clear k1
  have K2 := Lib.hid k2
  clear k2
  have K3 := Lib.hid k3
  clear k3
  have K4 := Lib.hid k4
  clear k4
  have HI := Lib.hid (And.intro irN irD)
  obtain ⟨ba1, ba2⟩ := ba
  obtain ⟨bx1, bx2⟩ := bx
  have K5 := Lib.hid k5
  clear k5
  go_enter Tryd.func9, Tryd.ntmps9
  go_wp2_with fail
  have p := Pr.here w rN rD 30
  have b0 : Below w.heap.size w (w.alloc (.cells #[.int .i64 rN, .int .i64 rD] 30)) := (Below.refl _ _).alloc (Nat.le_refl _) _
  generalize w.alloc (.cells #[.int .i64 rN, .int .i64 rD] 30) = w0 at *
  refine (head_any _ (HS.out.below b0 HS.out.sz)).mono ?_
  rintro e w1 ⟨rfl, hb⟩
  replace p := p.on hb
  have b1 := on_below b0 hb
  clear hb b0
  have ⟨p0, p1⟩ := p
  have pl := p.lt
  go_wp2_with fail
  clear p0 p1 pl
  refine (refam_b a true HA.out _).mono ?_
  rintro e w' ⟨rfl, rfl⟩
  have ⟨p0, p1⟩ := p
  have pl := p.lt
  go_wp2_with fail
  clear p0 p1 pl
  refine (refam_b b true HB.out _).mono ?_
  rintro e w' ⟨rfl, rfl⟩
  have ⟨p0, p1⟩ := p
  have pl := p.lt
  go_wp2_with fail
  clear p0 p1 pl
  refine (refvalid_b _ _ true HV.out _ HI.out.1 HI.out.2).mono ?_
  rintro e w2 ⟨rfl, hb⟩
  replace p := p.on hb
  have b2 := on_below b1 hb
  clear hb b1
  have ⟨p0, p1⟩ := p
  have pl := p.lt
  go_wp2_with fail
  clear p0 p1 pl
  refine (K1.out _).mono ?_
  rintro e w3 ⟨rfl, hb⟩
  replace p := p.on hb
  have b3 := on_below b2 hb
  clear hb b2
  have ⟨p0, p1⟩ := p
  have pl := p.lt
  go_wp2_with fail
  clear p0 p1 pl
  refine (K2.out _).mono ?_
  rintro e w4 ⟨rfl, hb⟩
  replace p := p.on hb
  have b4 := on_below b3 hb
  clear hb b3
  have ⟨p0, p1⟩ := p
  have pl := p.lt
  go_wp2_with fail
  clear p0 p1 pl
  refine (K3.out _).mono ?_
  rintro e w5 ⟨rfl, hb⟩
  replace p := p.on hb
  have b5 := on_below b4 hb
  clear hb b4
  have ⟨p0, p1⟩ := p
  have pl := p.lt
  go_wp2_with fail
  clear p0 p1 pl
  refine (K4.out _).mono ?_
  rintro e w6 ⟨rfl, hb⟩
  replace p := p.on hb
  have b6 := on_below b5 hb
  clear hb b5
  have ⟨p0, p1⟩ := p
  have pl := p.lt
  go_wp2_with fail
  clear p0 p1 pl
  refine (K5.out _).mono ?_
  rintro e w7 ⟨rfl, hb⟩
  replace p := p.on hb
  have b7 := on_below b6 hb
  clear hb b6
  have ⟨p0, p1⟩ := p
  have pl := p.lt
  go_wp2_with fail
  clear p0 p1 pl
  go_ret
  exact ⟨rfl, b7⟩

set_option maxRecDepth 100000 in
set_option maxHeartbeats 1000000 in
theorem ok_31 (a : Int) (ia : I64 a) (b : Int) (ib : I64 b) (rN rD : Int) (irN : I64 rN) (irD : I64 rD) (w : World) (hs : St w) (ha : am a = true) (hb : am b = true) (hv : vld rN rD = true) (hn : 1 ≤ rN) (ba : -1000000000 ≤ a ∧ a ≤ 1000000000) (k1 : ∀ W : World, Calls Tryd.prog 21 #[.int .i64 a, .int .i64 1, .int .i64 1, .agg #[.int .i64 rN, .int .i64 rD]] W fun e w' => e = .returned (.tuple #[.int .i64 a, .int .i64 0]) ∧ Below W.heap.size W w') (x z : Int) (bx : -1000000000 ≤ x ∧ x ≤ 1000000000) (q1 : a ≤ b) (q3 : b ≤ a) (q2 : x ≤ z) (q4 : z ≤ x) (k2 : ∀ W : World, Calls Tryd.prog 21 #[.int .i64 a, .int .i64 0, .int .i64 1, .agg #[.int .i64 rN, .int .i64 rD]] W fun e w' => e = .returned (.tuple #[.int .i64 x, .int .i64 0]) ∧ Below W.heap.size W w') (k3 : ∀ W : World, Calls Tryd.prog 21 #[.int .i64 (-a), .int .i64 0, .int .i64 1, .agg #[.int .i64 rN, .int .i64 rD]] W fun e w' => e = .returned (.tuple #[.int .i64 (-x), .int .i64 0]) ∧ Below W.heap.size W w') (k4 : ∀ W : World, Calls Tryd.prog 21 #[.int .i64 b, .int .i64 0, .int .i64 1, .agg #[.int .i64 rN, .int .i64 rD]] W fun e w' => e = .returned (.tuple #[.int .i64 z, .int .i64 0]) ∧ Below W.heap.size W w') (y : Int) (hy : am y = true) (bY : -1000000000 ≤ y ∧ y ≤ 1000000000) (k5 : ∀ W : World, Calls Tryd.prog 21 #[.int .i64 x, .int .i64 1, .int .i64 0, .agg #[.int .i64 rN, .int .i64 rD]] W fun e w' => e = .returned (.tuple #[.int .i64 y, .int .i64 0]) ∧ Below W.heap.size W w') (hf : 2 * (((y - a).natAbs : Int) * rN) ≤ rN + rD) (hr : rN ≤ 1000000000 ∧ 1 ≤ rD ∧ rD ≤ 1000000000) :
    Calls Tryd.prog 9 #[.int .i64 a, .int .i64 b, .agg #[.int .i64 rN, .int .i64 rD]] w fun e w' => e = .returned (.bool true) ∧ Below w.heap.size w w' := by
  have HS := Lib.hid hs
  clear hs
  have HA := Lib.hid ha
  clear ha
  have HB := Lib.hid hb
  clear hb
  have HV := Lib.hid hv
  clear hv
  have K1 := Lib.hid k1
  clear k1
  have K2 := Lib.hid k2
  clear k2
  have K3 := Lib.hid k3
  clear k3
  have K4 := Lib.hid k4
  clear k4
  have HI := Lib.hid (And.intro irN irD)
  obtain ⟨ba1, ba2⟩ := ba
  obtain ⟨bx1, bx2⟩ := bx
  have K5 := Lib.hid k5
  clear k5
  have HY := Lib.hid hy
  clear hy
  have HF := Lib.hid hf
  clear hf
  obtain ⟨by1, by2⟩ := bY
  obtain ⟨hr1, hr2, hr3⟩ := hr
  go_enter Tryd.func9, Tryd.ntmps9
  go_wp2_with fail
  have p := Pr.here w rN rD 30
  have b0 : Below w.heap.size w (w.alloc (.cells #[.int .i64 rN, .int .i64 rD] 30)) := (Below.refl _ _).alloc (Nat.le_refl _) _
  generalize w.alloc (.cells #[.int .i64 rN, .int .i64 rD] 30) = w0 at *
  refine (head_any _ (HS.out.below b0 HS.out.sz)).mono ?_
  rintro e w1 ⟨rfl, hb⟩
  replace p := p.on hb
  have b1 := on_below b0 hb
  clear hb b0
  have ⟨p0, p1⟩ := p
  have pl := p.lt
  go_wp2_with fail
  clear p0 p1 pl
  refine (refam_b a true HA.out _).mono ?_
  rintro e w' ⟨rfl, rfl⟩
  have ⟨p0, p1⟩ := p
  have pl := p.lt
  go_wp2_with fail
  clear p0 p1 pl
  refine (refam_b b true HB.out _).mono ?_
  rintro e w' ⟨rfl, rfl⟩
  have ⟨p0, p1⟩ := p
  have pl := p.lt
  go_wp2_with fail
  clear p0 p1 pl
  refine (refvalid_b _ _ true HV.out _ HI.out.1 HI.out.2).mono ?_
  rintro e w2 ⟨rfl, hb⟩
  replace p := p.on hb
  have b2 := on_below b1 hb
  clear hb b1
  have ⟨p0, p1⟩ := p
  have pl := p.lt
  go_wp2_with fail
  clear p0 p1 pl
  refine (K1.out _).mono ?_
  rintro e w3 ⟨rfl, hb⟩
  replace p := p.on hb
  have b3 := on_below b2 hb
  clear hb b2
  have ⟨p0, p1⟩ := p
  have pl := p.lt
  go_wp2_with fail
  clear p0 p1 pl
  refine (K2.out _).mono ?_
  rintro e w4 ⟨rfl, hb⟩
  replace p := p.on hb
  have b4 := on_below b3 hb
  clear hb b3
  have ⟨p0, p1⟩ := p
  have pl := p.lt
  go_wp2_with fail
  clear p0 p1 pl
  refine (K3.out _).mono ?_
  rintro e w5 ⟨rfl, hb⟩
  replace p := p.on hb
  have b5 := on_below b4 hb
  clear hb b4
  have ⟨p0, p1⟩ := p
  have pl := p.lt
  go_wp2_with fail
  clear p0 p1 pl
  refine (K4.out _).mono ?_
  rintro e w6 ⟨rfl, hb⟩
  replace p := p.on hb
  have b6 := on_below b5 hb
  clear hb b5
  have ⟨p0, p1⟩ := p
  have pl := p.lt
  go_wp2_with fail
  clear p0 p1 pl
  refine (K5.out _).mono ?_
  rintro e w7 ⟨rfl, hb⟩
  replace p := p.on hb
  have b7 := on_below b6 hb
  clear hb b6
  have ⟨p0, p1⟩ := p
  have pl := p.lt
  go_wp2_with fail
  clear p0 p1 pl
  refine (refam_b y true HY.out _).mono ?_
  rintro e w' ⟨rfl, rfl⟩
  have ⟨p0, p1⟩ := p
  have pl := p.lt
  go_wp2_with fail
  go_quiet ((go_at_call 17; exact quiet_left (lsize_any _ _ (by omega) (by omega))))
  go_wp2
  go_ret
  exact ⟨ret_bool (fin_eq (by omega) (by omega) (by omega) HF.out), below_drewN' b7 _⟩


theorem three_ne : ((3 : Int) == 0) = false := rfl
theorem rs_y {x : Int} (h : am x = true) : rsN x = x := by simp [rsN, h]
theorem rs_e {x : Int} (h : am x = true) : rsE x = 0 := by simp [rsE, h]
theorem rs_n {x : Int} (h : am x = false) : rsN x = 0 := by simp [rsN, h]
theorem rs_3 {x : Int} (h : am x = false) : rsE x = 3 := by simp [rsE, h]
theorem walk (a : Int) (ia : I64 a) (b : Int) (ib : I64 b) (rN rD : Int) (irN : I64 rN) (irD : I64 rD) (w : World) (hs : St w) :
    Calls Tryd.prog 9 #[.int .i64 a, .int .i64 b, .agg #[.int .i64 rN, .int .i64 rD]] w fun e w' => e = .returned (.bool true) ∧ Below w.heap.size w w' := by
  cases ha : am a with
  | false => exact inv1 a ia b ib rN rD irN irD w hs ha
  | true =>
  cases hb : am b with
  | false => exact inv2 a ia b ib rN rD irN irD w hs ha hb
  | true =>
  cases hv : vld rN rD with
  | false => exact inv3 a ia b ib rN rD irN irD w hs ha hb hv
  | true =>
  by_cases hn0 : rN ≤ 0
  · exact inv4 a ia b ib rN rD irN irD w hs ha hb hv hn0
  · have hn : 1 ≤ rN := by omega
    have hn' : 0 < rN := by omega
    have ba := am_bd.1 ha
    obtain ⟨v1, v2, v3, v4, -⟩ := (vld_iff rN rD).1 hv
    have ha' : am (-a) = true := am_iff.2 (by have := am_iff.1 ha; omega)
    have ok : ∀ c f t : Int, am c = true → cur f = true → cur t = true → exok c f t rN rD = true := fun c f t h1 h2 h3 => exok_iff.2 ⟨h1, h2, h3, hv, hn'⟩
    have c0 : cur 0 = true := by decide
    have c1 : cur 1 = true := by decide
    have k1 : ∀ W : World, Calls Tryd.prog 21 #[.int .i64 a, .int .i64 1, .int .i64 1, .agg #[.int .i64 rN, .int .i64 rD]] W fun e w' => e = .returned (.tuple #[.int .i64 a, .int .i64 0]) ∧ Below W.heap.size W w' := fun W => by
      have h := exchange_any a 1 1 rN rD W irN irD
      rwa [show excN a 1 1 rN rD = a by simp [excN, ok a 1 1 ha c1 c1], show excE a 1 1 rN rD = 0 by simp [excE, ok a 1 1 ha c1 c1]] at h
    have k2 := fun W => exchange_any a 0 1 rN rD W irN irD
    have k3 := fun W => exchange_any (-a) 0 1 rN rD W irN irD
    have k4 := fun W => exchange_any b 0 1 rN rD W irN irD
    rw [show excN a 0 1 rN rD = rsN (tms a rN rD) by simp [excN, ok a 0 1 ha c0 c1], show excE a 0 1 rN rD = rsE (tms a rN rD) by simp [excE, ok a 0 1 ha c0 c1]] at k2
    rw [show excN (-a) 0 1 rN rD = rsN (-(tms a rN rD)) by simp [excN, ok (-a) 0 1 ha' c0 c1, tms_neg a rN v1], show excE (-a) 0 1 rN rD = rsE (-(tms a rN rD)) by simp [excE, ok (-a) 0 1 ha' c0 c1, tms_neg a rN v1]] at k3
    rw [show excN b 0 1 rN rD = rsN (tms b rN rD) by simp [excN, ok b 0 1 hb c0 c1], show excE b 0 1 rN rD = rsE (tms b rN rD) by simp [excE, ok b 0 1 hb c0 c1]] at k4
    have near := tms_near a rN v1
    have mo1 : a ≤ b → tms a rN rD ≤ tms b rN rD := fun h => tms_mono v1 (by omega) h
    have mo2 : b ≤ a → tms b rN rD ≤ tms a rN rD := fun h => tms_mono v1 (by omega) h
    generalize tms a rN rD = x at *
    generalize tms b rN rD = zt at *
    cases hf : am x with
    | false =>
      have hf' : am (-x) = false := am_no.2 (by have := am_no.1 hf; omega)
      rw [rs_n hf, rs_3 hf] at k2
      rw [rs_n hf', rs_3 hf'] at k3
      exact fbad a ia b ib rN rD irN irD w hs ha hb hv hn ba k1 _ _ k2 k3 k4
    | true =>
      have hf' : am (-x) = true := am_iff.2 (by have := am_iff.1 hf; omega)
      rw [rs_y hf, rs_e hf] at k2
      rw [rs_y hf', rs_e hf'] at k3
      have bx := am_bd.1 hf
      have k5 := fun W => exchange_any x 1 0 rN rD W irN irD
      rw [show excN x 1 0 rN rD = rsN (tms x rD rN) by simp [excN, ok x 1 0 hf c1 c0], show excE x 1 0 rN rD = rsE (tms x rD rN) by simp [excE, ok x 1 0 hf c1 c0]] at k5
      cases hz : am zt with
      | false =>
        rw [rs_n hz, rs_3 hz] at k4
        · skip
          by_cases hi : am (tms x rD rN) = true
          · have by' := am_bd.1 hi
            exact ok_01 a ia b ib rN rD irN irD w hs ha hb hv hn ba k1 x 0 bx 3 three_ne k2 k3 k4 (tms x rD rN) hi by' (by rwa [rs_y hi, rs_e hi] at k5) (back_near hn' near (tms_near x rD hn)) ⟨v4, v1, v2⟩
          · have hi' : am (tms x rD rN) = false := by simpa using hi
            exact ok_00 a ia b ib rN rD irN irD w hs ha hb hv hn ba k1 x 0 bx 3 three_ne k2 k3 k4 (by rwa [rs_n hi', rs_3 hi'] at k5)
      | true =>
        rw [rs_y hz, rs_e hz] at k4
        obtain ⟨z, rfl⟩ : ∃ z : Int, z = zt := ⟨zt, rfl⟩
        rcases Int.lt_trichotomy a b with q | q | q
        · skip
          by_cases hi : am (tms x rD rN) = true
          · have by' := am_bd.1 hi
            exact ok_11 a ia b ib rN rD irN irD w hs ha hb hv hn ba k1 x z bx q (mo1 (by omega)) k2 k3 k4 (tms x rD rN) hi by' (by rwa [rs_y hi, rs_e hi] at k5) (back_near hn' near (tms_near x rD hn)) ⟨v4, v1, v2⟩
          · have hi' : am (tms x rD rN) = false := by simpa using hi
            exact ok_10 a ia b ib rN rD irN irD w hs ha hb hv hn ba k1 x z bx q (mo1 (by omega)) k2 k3 k4 (by rwa [rs_n hi', rs_3 hi'] at k5)
        · skip
          by_cases hi : am (tms x rD rN) = true
          · have by' := am_bd.1 hi
            exact ok_31 a ia b ib rN rD irN irD w hs ha hb hv hn ba k1 x z bx (by omega) (by omega) (mo1 (by omega)) (mo2 (by omega)) k2 k3 k4 (tms x rD rN) hi by' (by rwa [rs_y hi, rs_e hi] at k5) (back_near hn' near (tms_near x rD hn)) ⟨v4, v1, v2⟩
          · have hi' : am (tms x rD rN) = false := by simpa using hi
            exact ok_30 a ia b ib rN rD irN irD w hs ha hb hv hn ba k1 x z bx (by omega) (by omega) (mo1 (by omega)) (mo2 (by omega)) k2 k3 k4 (by rwa [rs_n hi', rs_3 hi'] at k5)
        · skip
          by_cases hi : am (tms x rD rN) = true
          · have by' := am_bd.1 hi
            exact ok_21 a ia b ib rN rD irN irD w hs ha hb hv hn ba k1 x z bx q (mo2 (by omega)) k2 k3 k4 (tms x rD rN) hi by' (by rwa [rs_y hi, rs_e hi] at k5) (back_near hn' near (tms_near x rD hn)) ⟨v4, v1, v2⟩
          · have hi' : am (tms x rD rN) = false := by simpa using hi
            exact ok_20 a ia b ib rN rD irN irD w hs ha hb hv hn ba k1 x z bx q (mo2 (by omega)) k2 k3 k4 (by rwa [rs_n hi', rs_3 hi'] at k5)

/-! ### The row and the card -/
open Go.ChangeShapes Go.WideShapes Go.ChangeAt
open Go.ChangeMaps (open_string shut_string)

set_option maxRecDepth 100000 in
theorem contract (H : Type) (enc : TypeId × Value → H) (W : World) (base : Nat) (args : Array Value) (ds gs : List (DataW H)) (before : List MemPlace)
    (hval : ∀ (j : Nat) t v, Tryd.f9.params[j]? = some t → args[j]? = some v → Value.okWide Tryd.prog W .any base t v)
    (hW : DataW.Whole enc Tryd.prog Tryd.f9.params.toList Rows.moneyExchangesSpec.vars false W args.toList ds gs before) (hL : laidMetH Tryd.prog laid4 W) (hsh : W.ShapedOpen Tryd.prog) :
    Calls Tryd.prog 9 args W fun e W' => ∃ v, e = .returned v ∧ Rows.moneyExchangesSpec.post enc Tryd.prog Tryd.f9 false true false false W args v W' := by
  have hW' := hW
  obtain ⟨p, q, hA0, hV, rfl, hfz, hnd⟩ := hW
  have hA : DataW.TrodAll enc Tryd.prog W 0 (fun _ => true) true Tryd.f9.params.toList args.toList ds p := hA0
  rw [Tryd.params9] at hA hval
  obtain ⟨v0, vs0, d0, ds0, p0, q0, hargs, rfl, rfl, h0, r0⟩ := trodAll_cons hA
  obtain ⟨v1, vs1, d1, ds1, p1, q1, rfl, rfl, rfl, h1, r1⟩ := trodAll_cons r0
  obtain ⟨v2, vs2, d2, ds2, p2, q2, rfl, rfl, rfl, h2, r2⟩ := trodAll_cons r1
  obtain ⟨rfl, rfl, rfl⟩ := trodAll_nil r2
  obtain rfl : args = #[v0, v1, v2] := Array.toList_inj.1 hargs
  obtain ⟨rfl, rfl⟩ := trodVars_none hV
  obtain ⟨a, rfl, rfl, rfl, wa⟩ := open_int Tryd.underlying3 (hval 0 3 v0 rfl rfl) h0
  obtain ⟨b, rfl, rfl, rfl, wb⟩ := open_int Tryd.underlying3 (hval 1 3 v1 rfl rfl) h1
  obtain ⟨rN, rD, rfl, rfl, rfl, wrN, wrD⟩ := open_rat (hval 2 30 v2 rfl rfl) h2
  clear hA0
  refine (walk a (wf_i wa) b (wf_i wb) rN rD (wf_i wrN) (wf_i wrD) W (st_of4 hL)).mono fun e W' ⟨he, bel⟩ => ?_
  subst he
  exact ⟨_, rfl, _, _, _, [], [], [], hW', trodAll_mk1 (shut_bool Tryd.underlying4 _), (trodAll_cons_mk (shut_int Tryd.underlying3 wa) (trodAll_cons_mk (shut_int Tryd.underlying3 wb) (trodAll_cons_mk (shut_rat wrN wrD) trodAll_mk0))), rfl, bel.frame _, fun h => by cases h⟩

theorem reads (os : Os) {H : Type} (enc : TypeId × Value → H) : ∃ places, DataW.whole enc Tryd.prog ((laidWorld os).forCall (fun _ _ => 0) ⟨#[], #[.int .i64 0, .int .i64 0, .agg #[.int .i64 0, .int .i64 0]], []⟩).memory Tryd.f9.params.toList Rows.moneyExchangesSpec.vars false (#[.int .i64 0, .int .i64 0, .agg #[.int .i64 0, .int .i64 0]] : Array Value).toList 8 = some ([.lit (.int .i64 0), .lit (.int .i64 0), .agg [.lit (.int .i64 0), .lit (.int .i64 0)]], [], places) :=
  ⟨[], by kernel_rfl⟩

set_option maxRecDepth 100000 in
theorem lifted (os : Os) (started : os.Started) (H : Type) (enc : TypeId × Value → H) (F : Stop.Interp) :
    ReturnsInHanded {} Tryd.checked os 9 .any ((OpenSpec.ofChange Rows.moneyExchangesSpec).preRow enc Tryd.prog Tryd.f9 Rows.moneyExchangesRow.domain false Rows.moneyExchangesRow.laid) (((OpenSpec.ofChange Rows.moneyExchangesSpec).at F).post enc Tryd.prog Tryd.f9 false true false false) := by
  obtain ⟨places, hx⟩ := reads os enc
  refine returnsInHanded_of_row (C := Tryd.checked) (s := OpenSpec.ofChange Rows.moneyExchangesSpec) own started (by kernel_rfl) Tryd.func9
    (witness_row_atRef (enc := enc) (C := Tryd.checked) false (laidWorld os) #[.int .i64 0, .int .i64 0, .agg #[.int .i64 0, .int .i64 0]] rfl (by kernel_rfl) (by kernel_rfl) (by kernel_rfl)
      (OpenSpec.preRow_of_cond 8 hx (by kernel_rfl) (fun k hk => by cases hk) (by kernel_rfl) (laidWorld_met4 os _))) ?_
  intro W base args ds gs before hval hW _ hcond _ hL hsh _
  exact contract H enc W base args ds gs before hval hW hL hsh

theorem said : Rows.MoneyExchangesSaid :=
  OpenClaim.holds_of_cond 9 Tryd.f9 rfl rfl rfl rfl rfl rfl rfl ⟨rfl, rfl, rfl, rfl, rfl⟩ rfl rfl rfl rfl rfl (by kernel_rfl) Tryd.func9 (by kernel_rfl)
    (of_decide_eq_true (by kernel_rfl)) (by unfold Func.isWrapper; first | (rw [if_pos (by decide +kernel)]; kernel_rfl) | (rw [if_neg (by decide +kernel)]; exact ⟨rfl, rfl⟩))
    (fun os started H enc _ F => by rw [OpenClaim.pre_eq_preRow]; exact lifted os started H enc F)

theorem plain (f : FuncId) (fn : Func) (hf : Tryd.pinned.checked.prog.funcNamed "barcarole/barcarolelaw02.MoneyExchanges" = some f) (hfn : Tryd.pinned.checked.prog.funcs[f]? = some fn) :
    true = Tryd.pinned.checked.prog.looks [] ∧ ∀ (j : Nat) t, fn.params[j]? = some t → Tryd.pinned.checked.prog.wantsStandIn t = false := by
  obtain rfl : f = 9 := Option.some.inj ((show Tryd.prog.funcNamed "barcarole/barcarolelaw02.MoneyExchanges" = some 9 by kernel_rfl).symm.trans hf) |>.symm
  obtain rfl : fn = Tryd.f9 := (Option.some.inj (Tryd.func9.symm.trans hfn)).symm
  refine ⟨by kernel_rfl, fun j t ht => ?_⟩
  rw [Tryd.params9] at ht
  have ht' : t = 30 ∨ t = 3 := by
    have := Array.mem_of_getElem? ht
    simp at this
    first | omega | (rcases this with h | h | h | h | h <;> simp [h]) | (rcases this with h | h | h | h <;> simp [h]) | (rcases this with h | h | h <;> simp [h]) | (rcases this with h | h <;> simp [h])
  rcases ht' with rfl | rfl
  · exact (show Tryd.prog.wantsStandIn 30 = false by kernel_rfl)
  · exact (show Tryd.prog.wantsStandIn 3 = false by kernel_rfl)

/-- The statement. -/
theorem card : Rows.MoneyExchangesCardSaid :=
  Claim7.holds_tied_plain_at .later [] _ _ _ _ said (fun _ h => by cases h) (by kernel_rfl) (fun _ h => by cases h) moneyExchanges_row_tie rfl ⟨rfl, rfl⟩ (by kernel_rfl) rfl plain (by kernel_rfl)
end Go.Proofs.YtanncjkkaeeiaaaDoor.moneyExchanges
