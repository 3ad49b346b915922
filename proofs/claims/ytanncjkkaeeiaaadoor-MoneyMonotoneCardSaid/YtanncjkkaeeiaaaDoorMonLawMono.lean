/-
  MoneyMonotone: by a number that is not negative, the greater one of two amounts is not scaled to less: for any two ints and any pair of ints.
  Conditions: the package variables that the row lists hold what the program's text lays.
-/
import Derived.Test.YtanncjkkaeeiaaaDoorMonT
import Derived.Test.YtanncjkkaeeiaaaDoorCards
import Derived.Test.YtanncjkkaeeiaaaDoorTie
import Derived.Deep.DeepCutAuto
namespace Go.Proofs.YtanncjkkaeeiaaaDoor.moneyMonotone
open Go.RowKit Go.Sort
open Go.RowKit (Below)
set_option linter.unusedVariables false

set_option maxRecDepth 100000 in
set_option maxHeartbeats 1000000 in
theorem inv1 (a : Int) (ia : I64 a) (b : Int) (ib : I64 b) (rN rD : Int) (irN : I64 rN) (irD : I64 rD) (w : World) (hs : St w) (hv : vld rN rD = false) :
    Calls Tryd.prog 5 #[.int .i64 a, .int .i64 b, .agg #[.int .i64 rN, .int .i64 rD]] w fun e w' => e = .returned (.bool true) ∧ Below w.heap.size w w' := by
  have HS := Lib.hid hs
  clear hs
  have HV := Lib.hid hv
  clear hv
  have HI := Lib.hid (And.intro irN irD)
  go_enter Tryd.func5, Tryd.ntmps5
  go_wp2_with fail
  have p := Pr.here w rN rD 30
  have b0 : Below w.heap.size w (w.alloc (.cells #[.int .i64 rN, .int .i64 rD] 30)) := (Below.refl _ _).alloc (Nat.le_refl _) _
  generalize w.alloc (.cells #[.int .i64 rN, .int .i64 rD] 30) = w0 at *
  refine (head_any _ (HS.out.below b0 HS.out.sz)).mono ?_
  rintro e w1 ⟨rfl, hb⟩
  replace p := p.on hb
  have b1 := on_below b0 hb
  clear hb b0
  have ⟨p0, p1⟩ := p
  have pl := p.lt
  go_wp2_with fail
  clear p0 p1 pl
  refine (refvalid_b _ _ false HV.out _ HI.out.1 HI.out.2).mono ?_
  rintro e w2 ⟨rfl, hb⟩
  replace p := p.on hb
  have b2 := on_below b1 hb
  clear hb b1
  have ⟨p0, p1⟩ := p
  have pl := p.lt
  go_wp2_with fail
  clear p0 p1 pl
  go_ret
  exact ⟨rfl, b2⟩

set_option maxRecDepth 100000 in
set_option maxHeartbeats 1000000 in
theorem inv2 (a : Int) (ia : I64 a) (b : Int) (ib : I64 b) (rN rD : Int) (irN : I64 rN) (irD : I64 rD) (w : World) (hs : St w) (hv : vld rN rD = true) (hn : rN < 0) :
    Calls Tryd.prog 5 #[.int .i64 a, .int .i64 b, .agg #[.int .i64 rN, .int .i64 rD]] w fun e w' => e = .returned (.bool true) ∧ Below w.heap.size w w' := by
  have HS := Lib.hid hs
  clear hs
  have HV := Lib.hid hv
  clear hv
  have HI := Lib.hid (And.intro irN irD)
  go_enter Tryd.func5, Tryd.ntmps5
  go_wp2_with fail
  have p := Pr.here w rN rD 30
  have b0 : Below w.heap.size w (w.alloc (.cells #[.int .i64 rN, .int .i64 rD] 30)) := (Below.refl _ _).alloc (Nat.le_refl _) _
  generalize w.alloc (.cells #[.int .i64 rN, .int .i64 rD] 30) = w0 at *
  refine (head_any _ (HS.out.below b0 HS.out.sz)).mono ?_
  rintro e w1 ⟨rfl, hb⟩
  replace p := p.on hb
  have b1 := on_below b0 hb
  clear hb b0
  have ⟨p0, p1⟩ := p
  have pl := p.lt
  go_wp2_with fail
  clear p0 p1 pl
  refine (refvalid_b _ _ true HV.out _ HI.out.1 HI.out.2).mono ?_
  rintro e w2 ⟨rfl, hb⟩
  replace p := p.on hb
  have b2 := on_below b1 hb
  clear hb b1
  have ⟨p0, p1⟩ := p
  have pl := p.lt
  go_wp2_with fail
  clear p0 p1 pl
  go_ret
  exact ⟨rfl, b2⟩

set_option maxRecDepth 100000 in
set_option maxHeartbeats 1000000 in
theorem ok_00 (a : Int) (ia : I64 a) (b : Int) (ib : I64 b) (rN rD : Int) (irN : I64 rN) (irD : I64 rD) (w : World) (hs : St w) (hv : vld rN rD = true) (hn : 0 ≤ rN) (hmn : a ≤ b) (x y : Int) (e3 g : Int) (he3 : (e3 != 0) = true) (k1 : ∀ W : World, Calls Tryd.prog 14 #[.int .i64 a, .agg #[.int .i64 rN, .int .i64 rD]] W fun e w' => e = .returned (.tuple #[.int .i64 x, .int .i64 e3]) ∧ Below W.heap.size W w') (k2 : ∀ W : World, Calls Tryd.prog 14 #[.int .i64 b, .agg #[.int .i64 rN, .int .i64 rD]] W fun e w' => e = .returned (.tuple #[.int .i64 y, .int .i64 g]) ∧ Below W.heap.size W w') :
    Calls Tryd.prog 5 #[.int .i64 a, .int .i64 b, .agg #[.int .i64 rN, .int .i64 rD]] w fun e w' => e = .returned (.bool true) ∧ Below w.heap.size w w' := by
  have HS := Lib.hid hs
  clear hs
  have HV := Lib.hid hv
  clear hv
  have K1 := Lib.hid k1
  clear k1
  have K2 := Lib.hid k2
  clear k2
  have HI := Lib.hid (And.intro irN irD)
  have hmin : min a b = a := by omega
  have hmax : max a b = b := by omega
  go_enter Tryd.func5, Tryd.ntmps5
  go_wp2_with fail
  have p := Pr.here w rN rD 30
  have b0 : Below w.heap.size w (w.alloc (.cells #[.int .i64 rN, .int .i64 rD] 30)) := (Below.refl _ _).alloc (Nat.le_refl _) _
  generalize w.alloc (.cells #[.int .i64 rN, .int .i64 rD] 30) = w0 at *
  refine (head_any _ (HS.out.below b0 HS.out.sz)).mono ?_
  rintro e w1 ⟨rfl, hb⟩
  replace p := p.on hb
  have b1 := on_below b0 hb
  clear hb b0
  have ⟨p0, p1⟩ := p
  have pl := p.lt
  go_wp2_with fail
  clear p0 p1 pl
  refine (refvalid_b _ _ true HV.out _ HI.out.1 HI.out.2).mono ?_
  rintro e w2 ⟨rfl, hb⟩
  replace p := p.on hb
  have b2 := on_below b1 hb
  clear hb b1
  have ⟨p0, p1⟩ := p
  have pl := p.lt
  go_wp2_with fail
  clear p0 p1 pl
  refine (K1.out _).mono ?_
  rintro e w3 ⟨rfl, hb⟩
  replace p := p.on hb
  have b3 := on_below b2 hb
  clear hb b2
  have ⟨p0, p1⟩ := p
  have pl := p.lt
  go_wp2_with fail
  clear p0 p1 pl
  refine (K2.out _).mono ?_
  rintro e w4 ⟨rfl, hb⟩
  replace p := p.on hb
  have b4 := on_below b3 hb
  clear hb b3
  have ⟨p0, p1⟩ := p
  have pl := p.lt
  go_wp2_with fail
  clear p0 p1 pl
  go_ret
  exact ⟨rfl, b4⟩

set_option maxRecDepth 100000 in
set_option maxHeartbeats 1000000 in
theorem ok_01 (a : Int) (ia : I64 a) (b : Int) (ib : I64 b) (rN rD : Int) (irN : I64 rN) (irD : I64 rD) (w : World) (hs : St w) (hv : vld rN rD = true) (hn : 0 ≤ rN) (hmn : b < a) (x y : Int) (e3 g : Int) (he3 : (e3 != 0) = true) (k1 : ∀ W : World, Calls Tryd.prog 14 #[.int .i64 b, .agg #[.int .i64 rN, .int .i64 rD]] W fun e w' => e = .returned (.tuple #[.int .i64 x, .int .i64 e3]) ∧ Below W.heap.size W w') (k2 : ∀ W : World, Calls Tryd.prog 14 #[.int .i64 a, .agg #[.int .i64 rN, .int .i64 rD]] W fun e w' => e = .returned (.tuple #[.int .i64 y, .int .i64 g]) ∧ Below W.heap.size W w') :
    Calls Tryd.prog 5 #[.int .i64 a, .int .i64 b, .agg #[.int .i64 rN, .int .i64 rD]] w fun e w' => e = .returned (.bool true) ∧ Below w.heap.size w w' := by
  have HS := Lib.hid hs
  clear hs
  have HV := Lib.hid hv
  clear hv
  have K1 := Lib.hid k1
  clear k1
  have K2 := Lib.hid k2
  clear k2
  have HI := Lib.hid (And.intro irN irD)
  have hmin : min a b = b := by omega
  have hmax : max a b = a := by omega
  go_enter Tryd.func5, Tryd.ntmps5
  go_wp2_with fail
  have p := Pr.here w rN rD 30
  have b0 : Below w.heap.size w (w.alloc (.cells #[.int .i64 rN, .int .i64 rD] 30)) := (Below.refl _ _).alloc (Nat.le_refl _) _
  generalize w.alloc (.cells #[.int .i64 rN, .int .i64 rD] 30) = w0 at *
  refine (head_any _ (HS.out.below b0 HS.out.sz)).mono ?_
  rintro e w1 ⟨rfl, hb⟩
  replace p := p.on hb
  have b1 := on_below b0 hb
  clear hb b0
  have ⟨p0, p1⟩ := p
  have pl := p.lt
  go_wp2_with fail
  clear p0 p1 pl
  refine (refvalid_b _ _ true HV.out _ HI.out.1 HI.out.2).mono ?_
  rintro e w2 ⟨rfl, hb⟩
  replace p := p.on hb
  have b2 := on_below b1 hb
  clear hb b1
  have ⟨p0, p1⟩ := p
  have pl := p.lt
  go_wp2_with fail
  clear p0 p1 pl
  refine (K1.out _).mono ?_
  rintro e w3 ⟨rfl, hb⟩
  replace p := p.on hb
  have b3 := on_below b2 hb
  clear hb b2
  have ⟨p0, p1⟩ := p
  have pl := p.lt
  go_wp2_with fail
  clear p0 p1 pl
  refine (K2.out _).mono ?_
  rintro e w4 ⟨rfl, hb⟩
  replace p := p.on hb
  have b4 := on_below b3 hb
  clear hb b3
  have ⟨p0, p1⟩ := p
  have pl := p.lt
  go_wp2_with fail
  clear p0 p1 pl
  go_ret
  exact ⟨rfl, b4⟩

set_option maxRecDepth 100000 in
set_option maxHeartbeats 1000000 in
theorem ok_10 (a : Int) (ia : I64 a) (b : Int) (ib : I64 b) (rN rD : Int) (irN : I64 rN) (irD : I64 rD) (w : World) (hs : St w) (hv : vld rN rD = true) (hn : 0 ≤ rN) (hmn : a ≤ b) (x y : Int) (g3 : Int) (hg3 : (g3 != 0) = true) (k1 : ∀ W : World, Calls Tryd.prog 14 #[.int .i64 a, .agg #[.int .i64 rN, .int .i64 rD]] W fun e w' => e = .returned (.tuple #[.int .i64 x, .int .i64 0]) ∧ Below W.heap.size W w') (k2 : ∀ W : World, Calls Tryd.prog 14 #[.int .i64 b, .agg #[.int .i64 rN, .int .i64 rD]] W fun e w' => e = .returned (.tuple #[.int .i64 y, .int .i64 g3]) ∧ Below W.heap.size W w') :
    Calls Tryd.prog 5 #[.int .i64 a, .int .i64 b, .agg #[.int .i64 rN, .int .i64 rD]] w fun e w' => e = .returned (.bool true) ∧ Below w.heap.size w w' := by
  have HS := Lib.hid hs
  clear hs
  have HV := Lib.hid hv
  clear hv
  have K1 := Lib.hid k1
  clear k1
  have K2 := Lib.hid k2
  clear k2
  have HI := Lib.hid (And.intro irN irD)
  have hmin : min a b = a := by omega
  have hmax : max a b = b := by omega
  go_enter Tryd.func5, Tryd.ntmps5
  go_wp2_with fail
  have p := Pr.here w rN rD 30
  have b0 : Below w.heap.size w (w.alloc (.cells #[.int .i64 rN, .int .i64 rD] 30)) := (Below.refl _ _).alloc (Nat.le_refl _) _
  generalize w.alloc (.cells #[.int .i64 rN, .int .i64 rD] 30) = w0 at *
  refine (head_any _ (HS.out.below b0 HS.out.sz)).mono ?_
  rintro e w1 ⟨rfl, hb⟩
  replace p := p.on hb
  have b1 := on_below b0 hb
  clear hb b0
  have ⟨p0, p1⟩ := p
  have pl := p.lt
  go_wp2_with fail
  clear p0 p1 pl
  refine (refvalid_b _ _ true HV.out _ HI.out.1 HI.out.2).mono ?_
  rintro e w2 ⟨rfl, hb⟩
  replace p := p.on hb
  have b2 := on_below b1 hb
  clear hb b1
  have ⟨p0, p1⟩ := p
  have pl := p.lt
  go_wp2_with fail
  clear p0 p1 pl
  refine (K1.out _).mono ?_
  rintro e w3 ⟨rfl, hb⟩
  replace p := p.on hb
  have b3 := on_below b2 hb
  clear hb b2
  have ⟨p0, p1⟩ := p
  have pl := p.lt
  go_wp2_with fail
  clear p0 p1 pl
  refine (K2.out _).mono ?_
  rintro e w4 ⟨rfl, hb⟩
  replace p := p.on hb
  have b4 := on_below b3 hb
  clear hb b3
  have ⟨p0, p1⟩ := p
  have pl := p.lt
  go_wp2_with fail
  clear p0 p1 pl
  go_ret
  exact ⟨rfl, b4⟩

set_option maxRecDepth 100000 in
set_option maxHeartbeats 1000000 in
theorem ok_11 (a : Int) (ia : I64 a) (b : Int) (ib : I64 b) (rN rD : Int) (irN : I64 rN) (irD : I64 rD) (w : World) (hs : St w) (hv : vld rN rD = true) (hn : 0 ≤ rN) (hmn : b < a) (x y : Int) (g3 : Int) (hg3 : (g3 != 0) = true) (k1 : ∀ W : World, Calls Tryd.prog 14 #[.int .i64 b, .agg #[.int .i64 rN, .int .i64 rD]] W fun e w' => e = .returned (.tuple #[.int .i64 x, .int .i64 0]) ∧ Below W.heap.size W w') (k2 : ∀ W : World, Calls Tryd.prog 14 #[.int .i64 a, .agg #[.int .i64 rN, .int .i64 rD]] W fun e w' => e = .returned (.tuple #[.int .i64 y, .int .i64 g3]) ∧ Below W.heap.size W w') :
    Calls Tryd.prog 5 #[.int .i64 a, .int .i64 b, .agg #[.int .i64 rN, .int .i64 rD]] w fun e w' => e = .returned (.bool true) ∧ Below w.heap.size w w' := by
  have HS := Lib.hid hs
  clear hs
  have HV := Lib.hid hv
  clear hv
  have K1 := Lib.hid k1
  clear k1
  have K2 := Lib.hid k2
  clear k2
  have HI := Lib.hid (And.intro irN irD)
  have hmin : min a b = b := by omega
  have hmax : max a b = a := by omega
  go_enter Tryd.func5, Tryd.ntmps5
  go_wp2_with fail
  have p := Pr.here w rN rD 30
  have b0 : Below w.heap.size w (w.alloc (.cells #[.int .i64 rN, .int .i64 rD] 30)) := (Below.refl _ _).alloc (Nat.le_refl _) _
  generalize w.alloc (.cells #[.int .i64 rN, .int .i64 rD] 30) = w0 at *
  refine (head_any _ (HS.out.below b0 HS.out.sz)).mono ?_
  rintro e w1 ⟨rfl, hb⟩
  replace p := p.on hb
  have b1 := on_below b0 hb
  clear hb b0
  have ⟨p0, p1⟩ := p
  have pl := p.lt
  go_wp2_with fail
  clear p0 p1 pl
  refine (refvalid_b _ _ true HV.out _ HI.out.1 HI.out.2).mono ?_
  rintro e w2 ⟨rfl, hb⟩
  replace p := p.on hb
  have b2 := on_below b1 hb
  clear hb b1
  have ⟨p0, p1⟩ := p
  have pl := p.lt
  go_wp2_with fail
  clear p0 p1 pl
  refine (K1.out _).mono ?_
  rintro e w3 ⟨rfl, hb⟩
  replace p := p.on hb
  have b3 := on_below b2 hb
  clear hb b2
  have ⟨p0, p1⟩ := p
  have pl := p.lt
  go_wp2_with fail
  clear p0 p1 pl
  refine (K2.out _).mono ?_
  rintro e w4 ⟨rfl, hb⟩
  replace p := p.on hb
  have b4 := on_below b3 hb
  clear hb b3
  have ⟨p0, p1⟩ := p
  have pl := p.lt
  go_wp2_with fail
  clear p0 p1 pl
  go_ret
  exact ⟨rfl, b4⟩

set_option maxRecDepth 100000 in
set_option maxHeartbeats 1000000 in
theorem ok_20 (a : Int) (ia : I64 a) (b : Int) (ib : I64 b) (rN rD : Int) (irN : I64 rN) (irD : I64 rD) (w : World) (hs : St w) (hv : vld rN rD = true) (hn : 0 ≤ rN) (hmn : a ≤ b) (x y : Int) (hxy : x ≤ y) (k1 : ∀ W : World, Calls Tryd.prog 14 #[.int .i64 a, .agg #[.int .i64 rN, .int .i64 rD]] W fun e w' => e = .returned (.tuple #[.int .i64 x, .int .i64 0]) ∧ Below W.heap.size W w') (k2 : ∀ W : World, Calls Tryd.prog 14 #[.int .i64 b, .agg #[.int .i64 rN, .int .i64 rD]] W fun e w' => e = .returned (.tuple #[.int .i64 y, .int .i64 0]) ∧ Below W.heap.size W w') :
    Calls Tryd.prog 5 #[.int .i64 a, .int .i64 b, .agg #[.int .i64 rN, .int .i64 rD]] w fun e w' => e = .returned (.bool true) ∧ Below w.heap.size w w' := by
  have HS := Lib.hid hs
  clear hs
  have HV := Lib.hid hv
  clear hv
  have K1 := Lib.hid k1
  clear k1
  have K2 := Lib.hid k2
  clear k2
  have HI := Lib.hid (And.intro irN irD)
  have hmin : min a b = a := by omega
  have hmax : max a b = b := by omega
  go_enter Tryd.func5, Tryd.ntmps5
  go_wp2_with fail
  have p := Pr.here w rN rD 30
  have b0 : Below w.heap.size w (w.alloc (.cells #[.int .i64 rN, .int .i64 rD] 30)) := (Below.refl _ _).alloc (Nat.le_refl _) _
  generalize w.alloc (.cells #[.int .i64 rN, .int .i64 rD] 30) = w0 at *
  refine (head_any _ (HS.out.below b0 HS.out.sz)).mono ?_
  rintro e w1 ⟨rfl, hb⟩
  replace p := p.on hb
  have b1 := on_below b0 hb
  clear hb b0
  have ⟨p0, p1⟩ := p
  have pl := p.lt
  go_wp2_with fail
  clear p0 p1 pl
  refine (refvalid_b _ _ true HV.out _ HI.out.1 HI.out.2).mono ?_
  rintro e w2 ⟨rfl, hb⟩
  replace p := p.on hb
  have b2 := on_below b1 hb
  clear hb b1
  have ⟨p0, p1⟩ := p
  have pl := p.lt
  go_wp2_with fail
  clear p0 p1 pl
  refine (K1.out _).mono ?_
  rintro e w3 ⟨rfl, hb⟩
  replace p := p.on hb
  have b3 := on_below b2 hb
  clear hb b2
  have ⟨p0, p1⟩ := p
  have pl := p.lt
  go_wp2_with fail
  clear p0 p1 pl
  refine (K2.out _).mono ?_
  rintro e w4 ⟨rfl, hb⟩
  replace p := p.on hb
  have b4 := on_below b3 hb
  clear hb b3
  have ⟨p0, p1⟩ := p
  have pl := p.lt
  go_wp2_with fail
  clear p0 p1 pl
  go_ret
  exact ⟨rfl, b4⟩

set_option maxRecDepth 100000 in
set_option maxHeartbeats 1000000 in
theorem ok_21 (a : Int) (ia : I64 a) (b : Int) (ib : I64 b) (rN rD : Int) (irN : I64 rN) (irD : I64 rD) (w : World) (hs : St w) (hv : vld rN rD = true) (hn : 0 ≤ rN) (hmn : b < a) (x y : Int) (hxy : x ≤ y) (k1 : ∀ W : World, Calls Tryd.prog 14 #[.int .i64 b, .agg #[.int .i64 rN, .int .i64 rD]] W fun e w' => e = .returned (.tuple #[.int .i64 x, .int .i64 0]) ∧ Below W.heap.size W w') (k2 : ∀ W : World, Calls Tryd.prog 14 #[.int .i64 a, .agg #[.int .i64 rN, .int .i64 rD]] W fun e w' => e = .returned (.tuple #[.int .i64 y, .int .i64 0]) ∧ Below W.heap.size W w') :
    Calls Tryd.prog 5 #[.int .i64 a, .int .i64 b, .agg #[.int .i64 rN, .int .i64 rD]] w fun e w' => e = .returned (.bool true) ∧ Below w.heap.size w w' := by
  have HS := Lib.hid hs
  clear hs
  have HV := Lib.hid hv
  clear hv
  have K1 := Lib.hid k1
  clear k1
  have K2 := Lib.hid k2
  clear k2
  have HI := Lib.hid (And.intro irN irD)
  have hmin : min a b = b := by omega
  have hmax : max a b = a := by omega
  go_enter Tryd.func5, Tryd.ntmps5
  go_wp2_with fail
  have p := Pr.here w rN rD 30
  have b0 : Below w.heap.size w (w.alloc (.cells #[.int .i64 rN, .int .i64 rD] 30)) := (Below.refl _ _).alloc (Nat.le_refl _) _
  generalize w.alloc (.cells #[.int .i64 rN, .int .i64 rD] 30) = w0 at *
  refine (head_any _ (HS.out.below b0 HS.out.sz)).mono ?_
  rintro e w1 ⟨rfl, hb⟩
  replace p := p.on hb
  have b1 := on_below b0 hb
  clear hb b0
  have ⟨p0, p1⟩ := p
  have pl := p.lt
  go_wp2_with fail
  clear p0 p1 pl
  refine (refvalid_b _ _ true HV.out _ HI.out.1 HI.out.2).mono ?_
  rintro e w2 ⟨rfl, hb⟩
  replace p := p.on hb
  have b2 := on_below b1 hb
  clear hb b1
  have ⟨p0, p1⟩ := p
  have pl := p.lt
  go_wp2_with fail
  clear p0 p1 pl
  refine (K1.out _).mono ?_
  rintro e w3 ⟨rfl, hb⟩
  replace p := p.on hb
  have b3 := on_below b2 hb
  clear hb b2
  have ⟨p0, p1⟩ := p
  have pl := p.lt
  go_wp2_with fail
  clear p0 p1 pl
  refine (K2.out _).mono ?_
  rintro e w4 ⟨rfl, hb⟩
  replace p := p.on hb
  have b4 := on_below b3 hb
  clear hb b3
  have ⟨p0, p1⟩ := p
  have pl := p.lt
  go_wp2_with fail
  clear p0 p1 pl
  go_ret
  exact ⟨rfl, b4⟩


theorem scl_ok {c N D : Int} (h : sclE c N D = 0) : sclN c N D = tms c N D := by
  unfold sclE at h
  unfold sclN
  split at h
  · rename_i h1
    rw [if_pos h1]
    unfold rsE at h
    split at h
    · rename_i h2; rw [rsN, if_pos h2]
    · cases h
  · cases h
theorem walk (a : Int) (ia : I64 a) (b : Int) (ib : I64 b) (rN rD : Int) (irN : I64 rN) (irD : I64 rD) (w : World) (hs : St w) :
    Calls Tryd.prog 5 #[.int .i64 a, .int .i64 b, .agg #[.int .i64 rN, .int .i64 rD]] w fun e w' => e = .returned (.bool true) ∧ Below w.heap.size w w' := by
  cases hv : vld rN rD with
  | false => exact inv1 a ia b ib rN rD irN irD w hs hv
  | true =>
    by_cases hn : rN < 0
    · exact inv2 a ia b ib rN rD irN irD w hs hv hn
    · by_cases hmn : a ≤ b
      · skip
        have k1 := fun W => scale_any a rN rD W irN irD
        have k2 := fun W => scale_any b rN rD W irN irD
        have hxy : sclE a rN rD = 0 → sclE b rN rD = 0 → sclN a rN rD ≤ sclN b rN rD := fun h1 h2 => by
          rw [scl_ok h1, scl_ok h2]
          exact tms_mono ((vld_iff rN rD).1 hv).1 (by omega) (by omega)
        generalize sclE a rN rD = e at *
        generalize sclN a rN rD = x at *
        generalize sclE b rN rD = g at *
        generalize sclN b rN rD = y at *
        by_cases he : e = 0
        · subst he
          by_cases hg : g = 0
          · subst hg; exact ok_20 a ia b ib rN rD irN irD w hs hv (by omega) hmn x y (hxy rfl rfl) k1 k2
          · exact ok_10 a ia b ib rN rD irN irD w hs hv (by omega) hmn x y g (by simpa using hg) k1 k2
        · exact ok_00 a ia b ib rN rD irN irD w hs hv (by omega) hmn x y e g (by simpa using he) k1 k2
      · replace hmn : b < a := by omega
        have k1 := fun W => scale_any b rN rD W irN irD
        have k2 := fun W => scale_any a rN rD W irN irD
        have hxy : sclE b rN rD = 0 → sclE a rN rD = 0 → sclN b rN rD ≤ sclN a rN rD := fun h1 h2 => by
          rw [scl_ok h1, scl_ok h2]
          exact tms_mono ((vld_iff rN rD).1 hv).1 (by omega) (by omega)
        generalize sclE b rN rD = e at *
        generalize sclN b rN rD = x at *
        generalize sclE a rN rD = g at *
        generalize sclN a rN rD = y at *
        by_cases he : e = 0
        · subst he
          by_cases hg : g = 0
          · subst hg; exact ok_21 a ia b ib rN rD irN irD w hs hv (by omega) hmn x y (hxy rfl rfl) k1 k2
          · exact ok_11 a ia b ib rN rD irN irD w hs hv (by omega) hmn x y g (by simpa using hg) k1 k2
        · exact ok_01 a ia b ib rN rD irN irD w hs hv (by omega) hmn x y e g (by simpa using he) k1 k2

/-! ### The row and the card -/
open Go.ChangeShapes Go.WideShapes Go.ChangeAt
open Go.ChangeMaps (open_string shut_string)

set_option maxRecDepth 100000 in
theorem contract (H : Type) (enc : TypeId × Value → H) (W : World) (base : Nat) (args : Array Value) (ds gs : List (DataW H)) (before : List MemPlace)
    (hval : ∀ (j : Nat) t v, Tryd.f5.params[j]? = some t → args[j]? = some v → Value.okWide Tryd.prog W .any base t v)
    (hW : DataW.Whole enc Tryd.prog Tryd.f5.params.toList Rows.moneyMonotoneSpec.vars false W args.toList ds gs before) (hL : laidMetH Tryd.prog laid4 W) (hsh : W.ShapedOpen Tryd.prog) :
    Calls Tryd.prog 5 args W fun e W' => ∃ v, e = .returned v ∧ Rows.moneyMonotoneSpec.post enc Tryd.prog Tryd.f5 false true false false W args v W' := by
  have hW' := hW
  obtain ⟨p, q, hA0, hV, rfl, hfz, hnd⟩ := hW
  have hA : DataW.TrodAll enc Tryd.prog W 0 (fun _ => true) true Tryd.f5.params.toList args.toList ds p := hA0
  rw [Tryd.params5] at hA hval
  obtain ⟨v0, vs0, d0, ds0, p0, q0, hargs, rfl, rfl, h0, r0⟩ := trodAll_cons hA
  obtain ⟨v1, vs1, d1, ds1, p1, q1, rfl, rfl, rfl, h1, r1⟩ := trodAll_cons r0
  obtain ⟨v2, vs2, d2, ds2, p2, q2, rfl, rfl, rfl, h2, r2⟩ := trodAll_cons r1
  obtain ⟨rfl, rfl, rfl⟩ := trodAll_nil r2
  obtain rfl : args = #[v0, v1, v2] := Array.toList_inj.1 hargs
  obtain ⟨rfl, rfl⟩ := trodVars_none hV
  obtain ⟨a, rfl, rfl, rfl, wa⟩ := open_int Tryd.underlying3 (hval 0 3 v0 rfl rfl) h0
  obtain ⟨b, rfl, rfl, rfl, wb⟩ := open_int Tryd.underlying3 (hval 1 3 v1 rfl rfl) h1
  obtain ⟨rN, rD, rfl, rfl, rfl, wrN, wrD⟩ := open_rat (hval 2 30 v2 rfl rfl) h2
  clear hA0
  refine (walk a (wf_i wa) b (wf_i wb) rN rD (wf_i wrN) (wf_i wrD) W (st_of4 hL)).mono fun e W' ⟨he, bel⟩ => ?_
  subst he
  exact ⟨_, rfl, _, _, _, [], [], [], hW', trodAll_mk1 (shut_bool Tryd.underlying4 _), (trodAll_cons_mk (shut_int Tryd.underlying3 wa) (trodAll_cons_mk (shut_int Tryd.underlying3 wb) (trodAll_cons_mk (shut_rat wrN wrD) trodAll_mk0))), rfl, bel.frame _, fun h => by cases h⟩

theorem reads (os : Os) {H : Type} (enc : TypeId × Value → H) : ∃ places, DataW.whole enc Tryd.prog ((laidWorld os).forCall (fun _ _ => 0) ⟨#[], #[.int .i64 0, .int .i64 0, .agg #[.int .i64 0, .int .i64 0]], []⟩).memory Tryd.f5.params.toList Rows.moneyMonotoneSpec.vars false (#[.int .i64 0, .int .i64 0, .agg #[.int .i64 0, .int .i64 0]] : Array Value).toList 8 = some ([.lit (.int .i64 0), .lit (.int .i64 0), .agg [.lit (.int .i64 0), .lit (.int .i64 0)]], [], places) :=
  ⟨[], by kernel_rfl⟩

set_option maxRecDepth 100000 in
theorem lifted (os : Os) (started : os.Started) (H : Type) (enc : TypeId × Value → H) (F : Stop.Interp) :
    ReturnsInHanded {} Tryd.checked os 5 .any ((OpenSpec.ofChange Rows.moneyMonotoneSpec).preRow enc Tryd.prog Tryd.f5 Rows.moneyMonotoneRow.domain false Rows.moneyMonotoneRow.laid) (((OpenSpec.ofChange Rows.moneyMonotoneSpec).at F).post enc Tryd.prog Tryd.f5 false true false false) := by
  obtain ⟨places, hx⟩ := reads os enc
  refine returnsInHanded_of_row (C := Tryd.checked) (s := OpenSpec.ofChange Rows.moneyMonotoneSpec) own started (by kernel_rfl) Tryd.func5
    (witness_row_atRef (enc := enc) (C := Tryd.checked) false (laidWorld os) #[.int .i64 0, .int .i64 0, .agg #[.int .i64 0, .int .i64 0]] rfl (by kernel_rfl) (by kernel_rfl) (by kernel_rfl)
      (OpenSpec.preRow_of_cond 8 hx (by kernel_rfl) (fun k hk => by cases hk) (by kernel_rfl) (laidWorld_met4 os _))) ?_
  intro W base args ds gs before hval hW _ hcond _ hL hsh _
  exact contract H enc W base args ds gs before hval hW hL hsh

theorem said : Rows.MoneyMonotoneSaid :=
  OpenClaim.holds_of_cond 5 Tryd.f5 rfl rfl rfl rfl rfl rfl rfl ⟨rfl, rfl, rfl, rfl, rfl⟩ rfl rfl rfl rfl rfl (by kernel_rfl) Tryd.func5 (by kernel_rfl)
    (of_decide_eq_true (by kernel_rfl)) (by unfold Func.isWrapper; first | (rw [if_pos (by decide +kernel)]; kernel_rfl) | (rw [if_neg (by decide +kernel)]; exact ⟨rfl, rfl⟩))
    (fun os started H enc _ F => by rw [OpenClaim.pre_eq_preRow]; exact lifted os started H enc F)

theorem plain (f : FuncId) (fn : Func) (hf : Tryd.pinned.checked.prog.funcNamed "barcarole/barcarolelaw02.MoneyMonotone" = some f) (hfn : Tryd.pinned.checked.prog.funcs[f]? = some fn) :
    true = Tryd.pinned.checked.prog.looks [] ∧ ∀ (j : Nat) t, fn.params[j]? = some t → Tryd.pinned.checked.prog.wantsStandIn t = false := by
  obtain rfl : f = 5 := Option.some.inj ((show Tryd.prog.funcNamed "barcarole/barcarolelaw02.MoneyMonotone" = some 5 by kernel_rfl).symm.trans hf) |>.symm
  obtain rfl : fn = Tryd.f5 := (Option.some.inj (Tryd.func5.symm.trans hfn)).symm
  refine ⟨by kernel_rfl, fun j t ht => ?_⟩
  rw [Tryd.params5] at ht
  have ht' : t = 30 ∨ t = 3 := by
    have := Array.mem_of_getElem? ht
    simp at this
    first | omega | (rcases this with h | h | h | h | h <;> simp [h]) | (rcases this with h | h | h | h <;> simp [h]) | (rcases this with h | h | h <;> simp [h]) | (rcases this with h | h <;> simp [h])
  rcases ht' with rfl | rfl
  · exact (show Tryd.prog.wantsStandIn 30 = false by kernel_rfl)
  · exact (show Tryd.prog.wantsStandIn 3 = false by kernel_rfl)

/-- The statement. -/
theorem card : Rows.MoneyMonotoneCardSaid :=
  Claim7.holds_tied_plain_at .later [] _ _ _ _ said (fun _ h => by cases h) (by kernel_rfl) (fun _ h => by cases h) moneyMonotone_row_tie rfl ⟨rfl, rfl⟩ (by kernel_rfl) rfl plain (by kernel_rfl)
end Go.Proofs.YtanncjkkaeeiaaaDoor.moneyMonotone
