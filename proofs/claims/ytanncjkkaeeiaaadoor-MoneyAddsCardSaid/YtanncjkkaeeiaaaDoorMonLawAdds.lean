/-
  MoneyAdds: the sum of three amounts in any order and one by one, and of an amount and the negative one: for any three ints.
  Conditions: the package variables that the row lists hold what the program's text lays.
-/
import Derived.Test.YtanncjkkaeeiaaaDoorMonW
import Derived.Test.YtanncjkkaeeiaaaDoorCards
import Derived.Test.YtanncjkkaeeiaaaDoorTie
import Derived.Deep.DeepCutAuto
namespace Go.Proofs.YtanncjkkaeeiaaaDoor.moneyAdds
open Go.RowKit Go.Sort
open Go.RowKit (Below)
set_option linter.unusedVariables false

theorem sl2 (w : World) (x y : Int) (t : TypeId) : Sl (w.alloc (.cells #[.int .i64 x, .int .i64 y] t)) (some ⟨w.heap.size, 0, none⟩) [x, y] := by
  intro k hk
  refine ⟨_, _, rfl, ?_⟩
  have hk' : k = 0 ∨ k = 1 := by simp at hk; omega
  rcases hk' with rfl | rfl <;> simp [go_sem, gd]
theorem add3 (x y z : Int) : ∀ (W : World) (t : TypeId), Calls Tryd.prog 11 #[.slice (some ⟨W.heap.size, 0, none⟩) 3 3] (W.alloc (.cells #[.int .i64 x, .int .i64 y, .int .i64 z] t)) fun e w' => e = .returned (.tuple #[.int .i64 (addN [x, y, z]), .int .i64 (addE [x, y, z])]) ∧ Below W.heap.size W w' := fun W t =>
  (add_any (some ⟨W.heap.size, 0, none⟩) 3 [x, y, z] _ (by simp) (sl3 W x y z t)).mono fun e w' ⟨he, hw⟩ => ⟨he, by subst hw; exact (Below.refl _ _).alloc (Nat.le_refl _) _⟩
theorem add2 (x y : Int) : ∀ (W : World) (t : TypeId), Calls Tryd.prog 11 #[.slice (some ⟨W.heap.size, 0, none⟩) 2 2] (W.alloc (.cells #[.int .i64 x, .int .i64 y] t)) fun e w' => e = .returned (.tuple #[.int .i64 (addN [x, y]), .int .i64 (addE [x, y])]) ∧ Below W.heap.size W w' := fun W t =>
  (add_any (some ⟨W.heap.size, 0, none⟩) 2 [x, y] _ (by simp) (sl2 W x y t)).mono fun e w' ⟨he, hw⟩ => ⟨he, by subst hw; exact (Below.refl _ _).alloc (Nat.le_refl _) _⟩
theorem turned (a b c : Int) : addN [c, a, b] = addN [a, b, c] ∧ addE [c, a, b] = addE [a, b, c] := by
  have h1 : [c, a, b].all am = [a, b, c].all am := by
    simp only [List.all_cons, List.all_nil, Bool.and_true]
    cases am a <;> cases am b <;> cases am c <;> rfl
  have h2 : [c, a, b].sum = [a, b, c].sum := by simp only [List.sum_cons, List.sum_nil]; omega
  unfold addN addE
  rw [h1, h2]
  exact ⟨rfl, rfl⟩
theorem onebyone (a b c : Int) (h1 : addE [a, b, c] = 0) (h2 : addE [a, b] = 0) : addE [addN [a, b], c] = 0 ∧ addN [addN [a, b], c] = addN [a, b, c] := by
  simp only [addE, addN, rsE, rsN, List.all_cons, List.all_nil, Bool.and_true, List.sum_cons, List.sum_nil, Int.add_zero] at *
  cases ha : am a <;> cases hb : am b <;> cases hc : am c <;> simp [ha, hb, hc] at h1 h2 ⊢
  have e : a + (b + c) = a + b + c := by omega
  rw [e] at h1 ⊢
  simp [h1, h2]
theorem opposite (a : Int) (h : am a = true) : addE [a, -a] = 0 ∧ addN [a, -a] = 0 := by
  have h2 : am (-a) = true := by rw [am_iff] at *; omega
  have h3 : am 0 = true := by decide
  have e : a + -a = 0 := by omega
  simp [addE, addN, rsE, rsN, h, h2, h3, e]

set_option maxRecDepth 100000 in
set_option maxHeartbeats 1000000 in
theorem w_000 (a : Int) (ia : I64 a) (b : Int) (ib : I64 b) (c : Int) (ic : I64 c) (w : World) (hs : St w) (x z : Int) (k1 : ∀ (W : World) (t : TypeId), Calls Tryd.prog 11 #[.slice (some ⟨W.heap.size, 0, none⟩) 3 3] (W.alloc (.cells #[.int .i64 a, .int .i64 b, .int .i64 c] t)) fun e w' => e = .returned (.tuple #[.int .i64 x, .int .i64 0]) ∧ Below W.heap.size W w') (k2 : ∀ (W : World) (t : TypeId), Calls Tryd.prog 11 #[.slice (some ⟨W.heap.size, 0, none⟩) 3 3] (W.alloc (.cells #[.int .i64 c, .int .i64 a, .int .i64 b] t)) fun e w' => e = .returned (.tuple #[.int .i64 x, .int .i64 0]) ∧ Below W.heap.size W w') (k3 : ∀ (W : World) (t : TypeId), Calls Tryd.prog 11 #[.slice (some ⟨W.heap.size, 0, none⟩) 2 2] (W.alloc (.cells #[.int .i64 a, .int .i64 b] t)) fun e w' => e = .returned (.tuple #[.int .i64 z, .int .i64 0]) ∧ Below W.heap.size W w') (k4 : ∀ (W : World) (t : TypeId), Calls Tryd.prog 11 #[.slice (some ⟨W.heap.size, 0, none⟩) 2 2] (W.alloc (.cells #[.int .i64 z, .int .i64 c] t)) fun e w' => e = .returned (.tuple #[.int .i64 x, .int .i64 0]) ∧ Below W.heap.size W w') (ha : am a = false)  :
    Calls Tryd.prog 3 #[.int .i64 a, .int .i64 b, .int .i64 c] w fun e w' => e = .returned (.bool true) ∧ Below w.heap.size w w' := by
  have HS := Lib.hid hs
  clear hs
  have K1 := Lib.hid k1
  clear k1
  have K2 := Lib.hid k2
  clear k2
  have K3 := Lib.hid k3
  clear k3
  have HA := Lib.hid ha
  clear ha
  have K4 := Lib.hid k4
  clear k4
  go_enter Tryd.func3, Tryd.ntmps3
  go_wp2_with fail
  refine (head_any _ HS.out).mono ?_
  rintro e w1 ⟨rfl, b1⟩
  go_wp2_with fail
  refine (K1.out _ _).mono ?_
  rintro e w2 ⟨rfl, hb⟩
  have b2 := on_below b1 hb
  clear hb b1
  go_wp2_with fail
  refine (K2.out _ _).mono ?_
  rintro e w3 ⟨rfl, hb⟩
  have b3 := on_below b2 hb
  clear hb b2
  go_wp2_with fail
  refine (K3.out _ _).mono ?_
  rintro e w4 ⟨rfl, hb⟩
  have b4 := on_below b3 hb
  clear hb b3
  go_wp2_with fail
  refine (K4.out _ _).mono ?_
  rintro e w5 ⟨rfl, hb⟩
  have b5 := on_below b4 hb
  clear hb b4
  go_wp2_with fail
  refine (refam_b _ false HA.out _).mono ?_
  rintro e w' ⟨rfl, rfl⟩
  go_wp2_with fail
  go_ret
  exact ⟨rfl, b5⟩

set_option maxRecDepth 100000 in
set_option maxHeartbeats 1000000 in
theorem w_001 (a : Int) (ia : I64 a) (b : Int) (ib : I64 b) (c : Int) (ic : I64 c) (w : World) (hs : St w) (x z : Int) (k1 : ∀ (W : World) (t : TypeId), Calls Tryd.prog 11 #[.slice (some ⟨W.heap.size, 0, none⟩) 3 3] (W.alloc (.cells #[.int .i64 a, .int .i64 b, .int .i64 c] t)) fun e w' => e = .returned (.tuple #[.int .i64 x, .int .i64 0]) ∧ Below W.heap.size W w') (k2 : ∀ (W : World) (t : TypeId), Calls Tryd.prog 11 #[.slice (some ⟨W.heap.size, 0, none⟩) 3 3] (W.alloc (.cells #[.int .i64 c, .int .i64 a, .int .i64 b] t)) fun e w' => e = .returned (.tuple #[.int .i64 x, .int .i64 0]) ∧ Below W.heap.size W w') (k3 : ∀ (W : World) (t : TypeId), Calls Tryd.prog 11 #[.slice (some ⟨W.heap.size, 0, none⟩) 2 2] (W.alloc (.cells #[.int .i64 a, .int .i64 b] t)) fun e w' => e = .returned (.tuple #[.int .i64 z, .int .i64 0]) ∧ Below W.heap.size W w') (k4 : ∀ (W : World) (t : TypeId), Calls Tryd.prog 11 #[.slice (some ⟨W.heap.size, 0, none⟩) 2 2] (W.alloc (.cells #[.int .i64 z, .int .i64 c] t)) fun e w' => e = .returned (.tuple #[.int .i64 x, .int .i64 0]) ∧ Below W.heap.size W w') (ha : am a = true) (k5 : ∀ (W : World) (t : TypeId), Calls Tryd.prog 11 #[.slice (some ⟨W.heap.size, 0, none⟩) 2 2] (W.alloc (.cells #[.int .i64 a, .int .i64 (-a)] t)) fun e w' => e = .returned (.tuple #[.int .i64 0, .int .i64 0]) ∧ Below W.heap.size W w') (ba : -1000000000 ≤ a ∧ a ≤ 1000000000)  :
    Calls Tryd.prog 3 #[.int .i64 a, .int .i64 b, .int .i64 c] w fun e w' => e = .returned (.bool true) ∧ Below w.heap.size w w' := by
  have HS := Lib.hid hs
  clear hs
  have K1 := Lib.hid k1
  clear k1
  have K2 := Lib.hid k2
  clear k2
  have K3 := Lib.hid k3
  clear k3
  have HA := Lib.hid ha
  clear ha
  have K4 := Lib.hid k4
  clear k4
  have K5 := Lib.hid k5
  clear k5
  obtain ⟨ba1, ba2⟩ := ba
  go_enter Tryd.func3, Tryd.ntmps3
  go_wp2_with fail
  refine (head_any _ HS.out).mono ?_
  rintro e w1 ⟨rfl, b1⟩
  go_wp2_with fail
  refine (K1.out _ _).mono ?_
  rintro e w2 ⟨rfl, hb⟩
  have b2 := on_below b1 hb
  clear hb b1
  go_wp2_with fail
  refine (K2.out _ _).mono ?_
  rintro e w3 ⟨rfl, hb⟩
  have b3 := on_below b2 hb
  clear hb b2
  go_wp2_with fail
  refine (K3.out _ _).mono ?_
  rintro e w4 ⟨rfl, hb⟩
  have b4 := on_below b3 hb
  clear hb b3
  go_wp2_with fail
  refine (K4.out _ _).mono ?_
  rintro e w5 ⟨rfl, hb⟩
  have b5 := on_below b4 hb
  clear hb b4
  go_wp2_with fail
  refine (refam_b _ true HA.out _).mono ?_
  rintro e w' ⟨rfl, rfl⟩
  go_wp2_with fail
  refine (K5.out _ _).mono ?_
  rintro e w6 ⟨rfl, hb⟩
  have b6 := on_below b5 hb
  clear hb
  go_wp2_with fail
  go_ret
  exact ⟨rfl, b6⟩

set_option maxRecDepth 100000 in
set_option maxHeartbeats 1000000 in
theorem w_010 (a : Int) (ia : I64 a) (b : Int) (ib : I64 b) (c : Int) (ic : I64 c) (w : World) (hs : St w) (x z : Int) (g3 : Int) (hg3 : (g3 == 0) = false) (k1 : ∀ (W : World) (t : TypeId), Calls Tryd.prog 11 #[.slice (some ⟨W.heap.size, 0, none⟩) 3 3] (W.alloc (.cells #[.int .i64 a, .int .i64 b, .int .i64 c] t)) fun e w' => e = .returned (.tuple #[.int .i64 x, .int .i64 0]) ∧ Below W.heap.size W w') (k2 : ∀ (W : World) (t : TypeId), Calls Tryd.prog 11 #[.slice (some ⟨W.heap.size, 0, none⟩) 3 3] (W.alloc (.cells #[.int .i64 c, .int .i64 a, .int .i64 b] t)) fun e w' => e = .returned (.tuple #[.int .i64 x, .int .i64 0]) ∧ Below W.heap.size W w') (k3 : ∀ (W : World) (t : TypeId), Calls Tryd.prog 11 #[.slice (some ⟨W.heap.size, 0, none⟩) 2 2] (W.alloc (.cells #[.int .i64 a, .int .i64 b] t)) fun e w' => e = .returned (.tuple #[.int .i64 z, .int .i64 g3]) ∧ Below W.heap.size W w') (ha : am a = false)  :
    Calls Tryd.prog 3 #[.int .i64 a, .int .i64 b, .int .i64 c] w fun e w' => e = .returned (.bool true) ∧ Below w.heap.size w w' := by
  have HS := Lib.hid hs
  clear hs
  have K1 := Lib.hid k1
  clear k1
  have K2 := Lib.hid k2
  clear k2
  have K3 := Lib.hid k3
  clear k3
  have HA := Lib.hid ha
  clear ha
  go_enter Tryd.func3, Tryd.ntmps3
  go_wp2_with fail
  refine (head_any _ HS.out).mono ?_
  rintro e w1 ⟨rfl, b1⟩
  go_wp2_with fail
  refine (K1.out _ _).mono ?_
  rintro e w2 ⟨rfl, hb⟩
  have b2 := on_below b1 hb
  clear hb b1
  go_wp2_with fail
  refine (K2.out _ _).mono ?_
  rintro e w3 ⟨rfl, hb⟩
  have b3 := on_below b2 hb
  clear hb b2
  go_wp2_with fail
  refine (K3.out _ _).mono ?_
  rintro e w4 ⟨rfl, hb⟩
  have b4 := on_below b3 hb
  clear hb b3
  go_wp2_with fail
  refine (refam_b _ false HA.out _).mono ?_
  rintro e w' ⟨rfl, rfl⟩
  go_wp2_with fail
  go_ret
  exact ⟨rfl, b4⟩

set_option maxRecDepth 100000 in
set_option maxHeartbeats 1000000 in
theorem w_011 (a : Int) (ia : I64 a) (b : Int) (ib : I64 b) (c : Int) (ic : I64 c) (w : World) (hs : St w) (x z : Int) (g3 : Int) (hg3 : (g3 == 0) = false) (k1 : ∀ (W : World) (t : TypeId), Calls Tryd.prog 11 #[.slice (some ⟨W.heap.size, 0, none⟩) 3 3] (W.alloc (.cells #[.int .i64 a, .int .i64 b, .int .i64 c] t)) fun e w' => e = .returned (.tuple #[.int .i64 x, .int .i64 0]) ∧ Below W.heap.size W w') (k2 : ∀ (W : World) (t : TypeId), Calls Tryd.prog 11 #[.slice (some ⟨W.heap.size, 0, none⟩) 3 3] (W.alloc (.cells #[.int .i64 c, .int .i64 a, .int .i64 b] t)) fun e w' => e = .returned (.tuple #[.int .i64 x, .int .i64 0]) ∧ Below W.heap.size W w') (k3 : ∀ (W : World) (t : TypeId), Calls Tryd.prog 11 #[.slice (some ⟨W.heap.size, 0, none⟩) 2 2] (W.alloc (.cells #[.int .i64 a, .int .i64 b] t)) fun e w' => e = .returned (.tuple #[.int .i64 z, .int .i64 g3]) ∧ Below W.heap.size W w') (ha : am a = true) (k5 : ∀ (W : World) (t : TypeId), Calls Tryd.prog 11 #[.slice (some ⟨W.heap.size, 0, none⟩) 2 2] (W.alloc (.cells #[.int .i64 a, .int .i64 (-a)] t)) fun e w' => e = .returned (.tuple #[.int .i64 0, .int .i64 0]) ∧ Below W.heap.size W w') (ba : -1000000000 ≤ a ∧ a ≤ 1000000000)  :
    Calls Tryd.prog 3 #[.int .i64 a, .int .i64 b, .int .i64 c] w fun e w' => e = .returned (.bool true) ∧ Below w.heap.size w w' := by
  have HS := Lib.hid hs
  clear hs
  have K1 := Lib.hid k1
  clear k1
  have K2 := Lib.hid k2
  clear k2
  have K3 := Lib.hid k3
  clear k3
  have HA := Lib.hid ha
  clear ha
  have K5 := Lib.hid k5
  clear k5
  obtain ⟨ba1, ba2⟩ := ba
  go_enter Tryd.func3, Tryd.ntmps3
  go_wp2_with fail
  refine (head_any _ HS.out).mono ?_
  rintro e w1 ⟨rfl, b1⟩
  go_wp2_with fail
  refine (K1.out _ _).mono ?_
  rintro e w2 ⟨rfl, hb⟩
  have b2 := on_below b1 hb
  clear hb b1
  go_wp2_with fail
  refine (K2.out _ _).mono ?_
  rintro e w3 ⟨rfl, hb⟩
  have b3 := on_below b2 hb
  clear hb b2
  go_wp2_with fail
  refine (K3.out _ _).mono ?_
  rintro e w4 ⟨rfl, hb⟩
  have b4 := on_below b3 hb
  clear hb b3
  go_wp2_with fail
  refine (refam_b _ true HA.out _).mono ?_
  rintro e w' ⟨rfl, rfl⟩
  go_wp2_with fail
  refine (K5.out _ _).mono ?_
  rintro e w6 ⟨rfl, hb⟩
  have b6 := on_below b4 hb
  clear hb
  go_wp2_with fail
  go_ret
  exact ⟨rfl, b6⟩

set_option maxRecDepth 100000 in
set_option maxHeartbeats 1000000 in
theorem w_100 (a : Int) (ia : I64 a) (b : Int) (ib : I64 b) (c : Int) (ic : I64 c) (w : World) (hs : St w) (x z : Int) (e3 : Int) (he3 : (e3 == 0) = false) (k1 : ∀ (W : World) (t : TypeId), Calls Tryd.prog 11 #[.slice (some ⟨W.heap.size, 0, none⟩) 3 3] (W.alloc (.cells #[.int .i64 a, .int .i64 b, .int .i64 c] t)) fun e w' => e = .returned (.tuple #[.int .i64 x, .int .i64 e3]) ∧ Below W.heap.size W w') (k2 : ∀ (W : World) (t : TypeId), Calls Tryd.prog 11 #[.slice (some ⟨W.heap.size, 0, none⟩) 3 3] (W.alloc (.cells #[.int .i64 c, .int .i64 a, .int .i64 b] t)) fun e w' => e = .returned (.tuple #[.int .i64 x, .int .i64 e3]) ∧ Below W.heap.size W w') (k3 : ∀ (W : World) (t : TypeId), Calls Tryd.prog 11 #[.slice (some ⟨W.heap.size, 0, none⟩) 2 2] (W.alloc (.cells #[.int .i64 a, .int .i64 b] t)) fun e w' => e = .returned (.tuple #[.int .i64 z, .int .i64 0]) ∧ Below W.heap.size W w') (ha : am a = false)  :
    Calls Tryd.prog 3 #[.int .i64 a, .int .i64 b, .int .i64 c] w fun e w' => e = .returned (.bool true) ∧ Below w.heap.size w w' := by
  have HS := Lib.hid hs
  clear hs
  have K1 := Lib.hid k1
  clear k1
  have K2 := Lib.hid k2
  clear k2
  have K3 := Lib.hid k3
  clear k3
  have HA := Lib.hid ha
  clear ha
  go_enter Tryd.func3, Tryd.ntmps3
  go_wp2_with fail
  refine (head_any _ HS.out).mono ?_
  rintro e w1 ⟨rfl, b1⟩
  go_wp2_with fail
  refine (K1.out _ _).mono ?_
  rintro e w2 ⟨rfl, hb⟩
  have b2 := on_below b1 hb
  clear hb b1
  go_wp2_with fail
  refine (K2.out _ _).mono ?_
  rintro e w3 ⟨rfl, hb⟩
  have b3 := on_below b2 hb
  clear hb b2
  go_wp2_with fail
  refine (K3.out _ _).mono ?_
  rintro e w4 ⟨rfl, hb⟩
  have b4 := on_below b3 hb
  clear hb b3
  go_wp2_with fail
  refine (refam_b _ false HA.out _).mono ?_
  rintro e w' ⟨rfl, rfl⟩
  go_wp2_with fail
  go_ret
  exact ⟨rfl, b4⟩

set_option maxRecDepth 100000 in
set_option maxHeartbeats 1000000 in
theorem w_101 (a : Int) (ia : I64 a) (b : Int) (ib : I64 b) (c : Int) (ic : I64 c) (w : World) (hs : St w) (x z : Int) (e3 : Int) (he3 : (e3 == 0) = false) (k1 : ∀ (W : World) (t : TypeId), Calls Tryd.prog 11 #[.slice (some ⟨W.heap.size, 0, none⟩) 3 3] (W.alloc (.cells #[.int .i64 a, .int .i64 b, .int .i64 c] t)) fun e w' => e = .returned (.tuple #[.int .i64 x, .int .i64 e3]) ∧ Below W.heap.size W w') (k2 : ∀ (W : World) (t : TypeId), Calls Tryd.prog 11 #[.slice (some ⟨W.heap.size, 0, none⟩) 3 3] (W.alloc (.cells #[.int .i64 c, .int .i64 a, .int .i64 b] t)) fun e w' => e = .returned (.tuple #[.int .i64 x, .int .i64 e3]) ∧ Below W.heap.size W w') (k3 : ∀ (W : World) (t : TypeId), Calls Tryd.prog 11 #[.slice (some ⟨W.heap.size, 0, none⟩) 2 2] (W.alloc (.cells #[.int .i64 a, .int .i64 b] t)) fun e w' => e = .returned (.tuple #[.int .i64 z, .int .i64 0]) ∧ Below W.heap.size W w') (ha : am a = true) (k5 : ∀ (W : World) (t : TypeId), Calls Tryd.prog 11 #[.slice (some ⟨W.heap.size, 0, none⟩) 2 2] (W.alloc (.cells #[.int .i64 a, .int .i64 (-a)] t)) fun e w' => e = .returned (.tuple #[.int .i64 0, .int .i64 0]) ∧ Below W.heap.size W w') (ba : -1000000000 ≤ a ∧ a ≤ 1000000000)  :
    Calls Tryd.prog 3 #[.int .i64 a, .int .i64 b, .int .i64 c] w fun e w' => e = .returned (.bool true) ∧ Below w.heap.size w w' := by
  have HS := Lib.hid hs
  clear hs
  have K1 := Lib.hid k1
  clear k1
  have K2 := Lib.hid k2
  clear k2
  have K3 := Lib.hid k3
  clear k3
  have HA := Lib.hid ha
  clear ha
  have K5 := Lib.hid k5
  clear k5
  obtain ⟨ba1, ba2⟩ := ba
  go_enter Tryd.func3, Tryd.ntmps3
  go_wp2_with fail
  refine (head_any _ HS.out).mono ?_
  rintro e w1 ⟨rfl, b1⟩
  go_wp2_with fail
  refine (K1.out _ _).mono ?_
  rintro e w2 ⟨rfl, hb⟩
  have b2 := on_below b1 hb
  clear hb b1
  go_wp2_with fail
  refine (K2.out _ _).mono ?_
  rintro e w3 ⟨rfl, hb⟩
  have b3 := on_below b2 hb
  clear hb b2
  go_wp2_with fail
  refine (K3.out _ _).mono ?_
  rintro e w4 ⟨rfl, hb⟩
  have b4 := on_below b3 hb
  clear hb b3
  go_wp2_with fail
  refine (refam_b _ true HA.out _).mono ?_
  rintro e w' ⟨rfl, rfl⟩
  go_wp2_with fail
  refine (K5.out _ _).mono ?_
  rintro e w6 ⟨rfl, hb⟩
  have b6 := on_below b4 hb
  clear hb
  go_wp2_with fail
  go_ret
  exact ⟨rfl, b6⟩

set_option maxRecDepth 100000 in
set_option maxHeartbeats 1000000 in
theorem w_110 (a : Int) (ia : I64 a) (b : Int) (ib : I64 b) (c : Int) (ic : I64 c) (w : World) (hs : St w) (x z : Int) (e3 : Int) (he3 : (e3 == 0) = false) (g3 : Int) (hg3 : (g3 == 0) = false) (k1 : ∀ (W : World) (t : TypeId), Calls Tryd.prog 11 #[.slice (some ⟨W.heap.size, 0, none⟩) 3 3] (W.alloc (.cells #[.int .i64 a, .int .i64 b, .int .i64 c] t)) fun e w' => e = .returned (.tuple #[.int .i64 x, .int .i64 e3]) ∧ Below W.heap.size W w') (k2 : ∀ (W : World) (t : TypeId), Calls Tryd.prog 11 #[.slice (some ⟨W.heap.size, 0, none⟩) 3 3] (W.alloc (.cells #[.int .i64 c, .int .i64 a, .int .i64 b] t)) fun e w' => e = .returned (.tuple #[.int .i64 x, .int .i64 e3]) ∧ Below W.heap.size W w') (k3 : ∀ (W : World) (t : TypeId), Calls Tryd.prog 11 #[.slice (some ⟨W.heap.size, 0, none⟩) 2 2] (W.alloc (.cells #[.int .i64 a, .int .i64 b] t)) fun e w' => e = .returned (.tuple #[.int .i64 z, .int .i64 g3]) ∧ Below W.heap.size W w') (ha : am a = false)  :
    Calls Tryd.prog 3 #[.int .i64 a, .int .i64 b, .int .i64 c] w fun e w' => e = .returned (.bool true) ∧ Below w.heap.size w w' := by
  have HS := Lib.hid hs
  clear hs
  have K1 := Lib.hid k1
  clear k1
  have K2 := Lib.hid k2
  clear k2
  have K3 := Lib.hid k3
  clear k3
  have HA := Lib.hid ha
  clear ha
  go_enter Tryd.func3, Tryd.ntmps3
  go_wp2_with fail
  refine (head_any _ HS.out).mono ?_
  rintro e w1 ⟨rfl, b1⟩
  go_wp2_with fail
  refine (K1.out _ _).mono ?_
  rintro e w2 ⟨rfl, hb⟩
  have b2 := on_below b1 hb
  clear hb b1
  go_wp2_with fail
  refine (K2.out _ _).mono ?_
  rintro e w3 ⟨rfl, hb⟩
  have b3 := on_below b2 hb
  clear hb b2
  go_wp2_with fail
  refine (K3.out _ _).mono ?_
  rintro e w4 ⟨rfl, hb⟩
  have b4 := on_below b3 hb
  clear hb b3
  go_wp2_with fail
  refine (refam_b _ false HA.out _).mono ?_
  rintro e w' ⟨rfl, rfl⟩
  go_wp2_with fail
  go_ret
  exact ⟨rfl, b4⟩

set_option maxRecDepth 100000 in
set_option maxHeartbeats 1000000 in
theorem w_111 (a : Int) (ia : I64 a) (b : Int) (ib : I64 b) (c : Int) (ic : I64 c) (w : World) (hs : St w) (x z : Int) (e3 : Int) (he3 : (e3 == 0) = false) (g3 : Int) (hg3 : (g3 == 0) = false) (k1 : ∀ (W : World) (t : TypeId), Calls Tryd.prog 11 #[.slice (some ⟨W.heap.size, 0, none⟩) 3 3] (W.alloc (.cells #[.int .i64 a, .int .i64 b, .int .i64 c] t)) fun e w' => e = .returned (.tuple #[.int .i64 x, .int .i64 e3]) ∧ Below W.heap.size W w') (k2 : ∀ (W : World) (t : TypeId), Calls Tryd.prog 11 #[.slice (some ⟨W.heap.size, 0, none⟩) 3 3] (W.alloc (.cells #[.int .i64 c, .int .i64 a, .int .i64 b] t)) fun e w' => e = .returned (.tuple #[.int .i64 x, .int .i64 e3]) ∧ Below W.heap.size W w') (k3 : ∀ (W : World) (t : TypeId), Calls Tryd.prog 11 #[.slice (some ⟨W.heap.size, 0, none⟩) 2 2] (W.alloc (.cells #[.int .i64 a, .int .i64 b] t)) fun e w' => e = .returned (.tuple #[.int .i64 z, .int .i64 g3]) ∧ Below W.heap.size W w') (ha : am a = true) (k5 : ∀ (W : World) (t : TypeId), Calls Tryd.prog 11 #[.slice (some ⟨W.heap.size, 0, none⟩) 2 2] (W.alloc (.cells #[.int .i64 a, .int .i64 (-a)] t)) fun e w' => e = .returned (.tuple #[.int .i64 0, .int .i64 0]) ∧ Below W.heap.size W w') (ba : -1000000000 ≤ a ∧ a ≤ 1000000000)  :
    Calls Tryd.prog 3 #[.int .i64 a, .int .i64 b, .int .i64 c] w fun e w' => e = .returned (.bool true) ∧ Below w.heap.size w w' := by
  have HS := Lib.hid hs
  clear hs
  have K1 := Lib.hid k1
  clear k1
  have K2 := Lib.hid k2
  clear k2
  have K3 := Lib.hid k3
  clear k3
  have HA := Lib.hid ha
  clear ha
  have K5 := Lib.hid k5
  clear k5
  obtain ⟨ba1, ba2⟩ := ba
  go_enter Tryd.func3, Tryd.ntmps3
  go_wp2_with fail
  refine (head_any _ HS.out).mono ?_
  rintro e w1 ⟨rfl, b1⟩
  go_wp2_with fail
  refine (K1.out _ _).mono ?_
  rintro e w2 ⟨rfl, hb⟩
  have b2 := on_below b1 hb
  clear hb b1
  go_wp2_with fail
  refine (K2.out _ _).mono ?_
  rintro e w3 ⟨rfl, hb⟩
  have b3 := on_below b2 hb
  clear hb b2
  go_wp2_with fail
  refine (K3.out _ _).mono ?_
  rintro e w4 ⟨rfl, hb⟩
  have b4 := on_below b3 hb
  clear hb b3
  go_wp2_with fail
  refine (refam_b _ true HA.out _).mono ?_
  rintro e w' ⟨rfl, rfl⟩
  go_wp2_with fail
  refine (K5.out _ _).mono ?_
  rintro e w6 ⟨rfl, hb⟩
  have b6 := on_below b4 hb
  clear hb
  go_wp2_with fail
  go_ret
  exact ⟨rfl, b6⟩

theorem walk (a : Int) (ia : I64 a) (b : Int) (ib : I64 b) (c : Int) (ic : I64 c) (w : World) (hs : St w) :
    Calls Tryd.prog 3 #[.int .i64 a, .int .i64 b, .int .i64 c] w fun e w' => e = .returned (.bool true) ∧ Below w.heap.size w w' := by
  have k1 := add3 a b c
  have k2 := add3 c a b
  have k3 := add2 a b
  rw [(turned a b c).1, (turned a b c).2] at k2
  have k4 : addE [a, b, c] = 0 → addE [a, b] = 0 → ∀ (W : World) (t : TypeId), Calls Tryd.prog 11 #[.slice (some ⟨W.heap.size, 0, none⟩) 2 2] (W.alloc (.cells #[.int .i64 (addN [a, b]), .int .i64 c] t)) fun e w' => e = .returned (.tuple #[.int .i64 (addN [a, b, c]), .int .i64 0]) ∧ Below W.heap.size W w' := fun h1 h2 W t => by
    have h := add2 (addN [a, b]) c W t
    rwa [(onebyone a b c h1 h2).1, (onebyone a b c h1 h2).2] at h
  have k5 : am a = true → ∀ (W : World) (t : TypeId), Calls Tryd.prog 11 #[.slice (some ⟨W.heap.size, 0, none⟩) 2 2] (W.alloc (.cells #[.int .i64 a, .int .i64 (-a)] t)) fun e w' => e = .returned (.tuple #[.int .i64 0, .int .i64 0]) ∧ Below W.heap.size W w' := fun h W t => by
    have h' := add2 a (-a) W t
    rwa [(opposite a h).1, (opposite a h).2] at h'
  generalize addE [a, b, c] = e at *
  generalize addN [a, b, c] = x at *
  generalize addE [a, b] = g at *
  generalize addN [a, b] = z at *
  cases ha : am a with
  | true =>
    have ba := am_iff.1 ha
    by_cases he : e = 0
    · subst he
      by_cases hg : g = 0
      · subst hg; exact w_001 a ia b ib c ic w hs x z k1 k2 k3 (k4 rfl rfl) ha (k5 ha) ba
      · exact w_011 a ia b ib c ic w hs x z g (by simpa using hg) k1 k2 k3 ha (k5 ha) ba
    · by_cases hg : g = 0
      · subst hg; exact w_101 a ia b ib c ic w hs x z e (by simpa using he) k1 k2 k3 ha (k5 ha) ba
      · exact w_111 a ia b ib c ic w hs x z e (by simpa using he) g (by simpa using hg) k1 k2 k3 ha (k5 ha) ba
  | false =>
    by_cases he : e = 0
    · subst he
      by_cases hg : g = 0
      · subst hg; exact w_000 a ia b ib c ic w hs x z k1 k2 k3 (k4 rfl rfl) ha
      · exact w_010 a ia b ib c ic w hs x z g (by simpa using hg) k1 k2 k3 ha
    · by_cases hg : g = 0
      · subst hg; exact w_100 a ia b ib c ic w hs x z e (by simpa using he) k1 k2 k3 ha
      · exact w_110 a ia b ib c ic w hs x z e (by simpa using he) g (by simpa using hg) k1 k2 k3 ha

/-! ### The row and the card -/
open Go.ChangeShapes Go.WideShapes Go.ChangeAt
open Go.ChangeMaps (open_string shut_string)

set_option maxRecDepth 100000 in
theorem contract (H : Type) (enc : TypeId × Value → H) (W : World) (base : Nat) (args : Array Value) (ds gs : List (DataW H)) (before : List MemPlace)
    (hval : ∀ (j : Nat) t v, Tryd.f3.params[j]? = some t → args[j]? = some v → Value.okWide Tryd.prog W .any base t v)
    (hW : DataW.Whole enc Tryd.prog Tryd.f3.params.toList Rows.moneyAddsSpec.vars false W args.toList ds gs before) (hL : laidMetH Tryd.prog laid4 W) (hsh : W.ShapedOpen Tryd.prog) :
    Calls Tryd.prog 3 args W fun e W' => ∃ v, e = .returned v ∧ Rows.moneyAddsSpec.post enc Tryd.prog Tryd.f3 false true false false W args v W' := by
  have hW' := hW
  obtain ⟨p, q, hA0, hV, rfl, hfz, hnd⟩ := hW
  have hA : DataW.TrodAll enc Tryd.prog W 0 (fun _ => true) true Tryd.f3.params.toList args.toList ds p := hA0
  rw [Tryd.params3] at hA hval
  obtain ⟨v0, vs0, d0, ds0, p0, q0, hargs, rfl, rfl, h0, r0⟩ := trodAll_cons hA
  obtain ⟨v1, vs1, d1, ds1, p1, q1, rfl, rfl, rfl, h1, r1⟩ := trodAll_cons r0
  obtain ⟨v2, vs2, d2, ds2, p2, q2, rfl, rfl, rfl, h2, r2⟩ := trodAll_cons r1
  obtain ⟨rfl, rfl, rfl⟩ := trodAll_nil r2
  obtain rfl : args = #[v0, v1, v2] := Array.toList_inj.1 hargs
  obtain ⟨rfl, rfl⟩ := trodVars_none hV
  obtain ⟨a, rfl, rfl, rfl, wa⟩ := open_int Tryd.underlying3 (hval 0 3 v0 rfl rfl) h0
  obtain ⟨b, rfl, rfl, rfl, wb⟩ := open_int Tryd.underlying3 (hval 1 3 v1 rfl rfl) h1
  obtain ⟨c, rfl, rfl, rfl, wc⟩ := open_int Tryd.underlying3 (hval 2 3 v2 rfl rfl) h2
  clear hA0
  refine (walk a (wf_i wa) b (wf_i wb) c (wf_i wc) W (st_of4 hL)).mono fun e W' ⟨he, bel⟩ => ?_
  subst he
  exact ⟨_, rfl, _, _, _, [], [], [], hW', trodAll_mk1 (shut_bool Tryd.underlying4 _), (trodAll_cons_mk (shut_int Tryd.underlying3 wa) (trodAll_cons_mk (shut_int Tryd.underlying3 wb) (trodAll_cons_mk (shut_int Tryd.underlying3 wc) trodAll_mk0))), rfl, bel.frame _, fun h => by cases h⟩

theorem reads (os : Os) {H : Type} (enc : TypeId × Value → H) : ∃ places, DataW.whole enc Tryd.prog ((laidWorld os).forCall (fun _ _ => 0) ⟨#[], #[.int .i64 0, .int .i64 0, .int .i64 0], []⟩).memory Tryd.f3.params.toList Rows.moneyAddsSpec.vars false (#[.int .i64 0, .int .i64 0, .int .i64 0] : Array Value).toList 8 = some ([.lit (.int .i64 0), .lit (.int .i64 0), .lit (.int .i64 0)], [], places) :=
  ⟨[], by kernel_rfl⟩

set_option maxRecDepth 100000 in
theorem lifted (os : Os) (started : os.Started) (H : Type) (enc : TypeId × Value → H) (F : Stop.Interp) :
    ReturnsInHanded {} Tryd.checked os 3 .any ((OpenSpec.ofChange Rows.moneyAddsSpec).preRow enc Tryd.prog Tryd.f3 Rows.moneyAddsRow.domain false Rows.moneyAddsRow.laid) (((OpenSpec.ofChange Rows.moneyAddsSpec).at F).post enc Tryd.prog Tryd.f3 false true false false) := by
  obtain ⟨places, hx⟩ := reads os enc
  refine returnsInHanded_of_row (C := Tryd.checked) (s := OpenSpec.ofChange Rows.moneyAddsSpec) own started (by kernel_rfl) Tryd.func3
    (witness_row_atRef (enc := enc) (C := Tryd.checked) false (laidWorld os) #[.int .i64 0, .int .i64 0, .int .i64 0] rfl (by kernel_rfl) (by kernel_rfl) (by kernel_rfl)
      (OpenSpec.preRow_of_cond 8 hx (by kernel_rfl) (fun k hk => by cases hk) (by kernel_rfl) (laidWorld_met4 os _))) ?_
  intro W base args ds gs before hval hW _ hcond _ hL hsh _
  exact contract H enc W base args ds gs before hval hW hL hsh

theorem said : Rows.MoneyAddsSaid :=
  OpenClaim.holds_of_cond 3 Tryd.f3 rfl rfl rfl rfl rfl rfl rfl ⟨rfl, rfl, rfl, rfl, rfl⟩ rfl rfl rfl rfl rfl (by kernel_rfl) Tryd.func3 (by kernel_rfl)
    (of_decide_eq_true (by kernel_rfl)) (by unfold Func.isWrapper; first | (rw [if_pos (by decide +kernel)]; kernel_rfl) | (rw [if_neg (by decide +kernel)]; exact ⟨rfl, rfl⟩))
    (fun os started H enc _ F => by rw [OpenClaim.pre_eq_preRow]; exact lifted os started H enc F)

theorem plain (f : FuncId) (fn : Func) (hf : Tryd.pinned.checked.prog.funcNamed "barcarole/barcarolelaw02.MoneyAdds" = some f) (hfn : Tryd.pinned.checked.prog.funcs[f]? = some fn) :
    true = Tryd.pinned.checked.prog.looks [] ∧ ∀ (j : Nat) t, fn.params[j]? = some t → Tryd.pinned.checked.prog.wantsStandIn t = false := by
  obtain rfl : f = 3 := Option.some.inj ((show Tryd.prog.funcNamed "barcarole/barcarolelaw02.MoneyAdds" = some 3 by kernel_rfl).symm.trans hf) |>.symm
  obtain rfl : fn = Tryd.f3 := (Option.some.inj (Tryd.func3.symm.trans hfn)).symm
  refine ⟨by kernel_rfl, fun j t ht => ?_⟩
  rw [Tryd.params3] at ht
  have ht' : t = 3 := by
    have := Array.mem_of_getElem? ht
    simp at this
    omega
  rcases ht' with rfl
  · exact (show Tryd.prog.wantsStandIn 3 = false by kernel_rfl)

/-- The statement. -/
theorem card : Rows.MoneyAddsCardSaid :=
  Claim7.holds_tied_plain_at .later [] _ _ _ _ said (fun _ h => by cases h) (by kernel_rfl) (fun _ h => by cases h) moneyAdds_row_tie rfl ⟨rfl, rfl⟩ (by kernel_rfl) rfl plain (by kernel_rfl)
end Go.Proofs.YtanncjkkaeeiaaaDoor.moneyAdds
