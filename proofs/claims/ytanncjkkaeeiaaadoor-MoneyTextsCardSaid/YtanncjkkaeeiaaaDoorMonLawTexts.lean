/-
  MoneyTexts: the string of an amount is parsed to it and its currency; a string that is parsed is that of the amount: for any two ints and any string.
  Conditions: the package variables that the row lists hold what the program's text lays.
-/
import Derived.Test.YtanncjkkaeeiaaaDoorMonX
import Derived.Test.YtanncjkkaeeiaaaDoorCards
import Derived.Test.YtanncjkkaeeiaaaDoorTie
import Derived.Deep.DeepCutAuto
namespace Go.Proofs.YtanncjkkaeeiaaaDoor.moneyTexts
open Go.RowKit Go.Sort
open Go.RowKit (Below)
set_option linter.unusedVariables false

set_option maxRecDepth 100000 in
set_option maxHeartbeats 1000000 in
theorem okok (c : Int) (ic : I64 c) (f : Int) (if_ : I64 f) (s : ByteArray) (zs : s.size ≤ 9223372036854775807) (w : World) (hs : St6 w) (m : Nat) (hm : min (s.size : Int) 100 = m) (hms : m ≤ s.size) (S : ByteArray) (hS : s.extract 0 m = S) (t : ByteArray) (k1 : ∀ W : World, St6 W → Calls Tryd.prog 18 #[.int .i64 c, .int .i64 f] W fun e w' => e = .returned (.tuple #[.string t, .int .i64 0]) ∧ Below W.heap.size W w') (k2 : ∀ W : World, St6 W → Calls Tryd.prog 19 #[.string t] W fun e w' => e = .returned (.tuple #[.int .i64 c, .int .i64 f, .int .i64 0]) ∧ Below W.heap.size W w') (n k : Int) (k3 : ∀ W : World, St6 W → Calls Tryd.prog 19 #[.string S] W fun e w' => e = .returned (.tuple #[.int .i64 n, .int .i64 k, .int .i64 0]) ∧ Below W.heap.size W w') (k4 : ∀ W : World, St6 W → Calls Tryd.prog 18 #[.int .i64 n, .int .i64 k] W fun e w' => e = .returned (.tuple #[.string S, .int .i64 0]) ∧ Below W.heap.size W w') :
    Calls Tryd.prog 8 #[.int .i64 c, .int .i64 f, .string s] w fun e w' => e = .returned (.bool true) ∧ Below w.heap.size w w' := by
  subst hS
  have HS := Lib.hid hs
  clear hs
  have K1 := Lib.hid k1
  clear k1
  have K2 := Lib.hid k2
  clear k2
  have K3 := Lib.hid k3
  clear k3
  have K4 := Lib.hid k4
  clear k4
  go_enter Tryd.func8, Tryd.ntmps8
  go_wp2_with fail
  refine (head_any _ HS.out.st).mono ?_
  rintro e w1 ⟨rfl, b1⟩
  have HS1 := Lib.hid (HS.out.below b1 HS.out.st.sz)
  go_wp2_with fail
  refine (K1.out _ HS1.out).mono ?_
  rintro e w2 ⟨rfl, hb⟩
  have HS2 := Lib.hid (HS1.out.below hb HS1.out.st.sz)
  have b2 := on_below b1 hb
  clear hb b1 HS1
  go_wp2_with (first
    | (go_at_call 12; refine (refam_b _ _ HC.out _).mono ?_; rintro e w' ⟨rfl, rfl⟩)
    | (go_at_call 20; refine (refcur_b _ _ HF.out _).mono ?_; rintro e w' ⟨rfl, rfl⟩))
  refine (K2.out _ HS2.out).mono ?_
  rintro e w3 ⟨rfl, hb⟩
  have HS3 := Lib.hid (HS2.out.below hb HS2.out.st.sz)
  have b3 := on_below b2 hb
  clear hb b2 HS2
  go_wp2_with (first
    | (go_at_call 12; refine (refam_b _ _ HC.out _).mono ?_; rintro e w' ⟨rfl, rfl⟩)
    | (go_at_call 20; refine (refcur_b _ _ HF.out _).mono ?_; rintro e w' ⟨rfl, rfl⟩))
  refine (K3.out _ HS3.out).mono ?_
  rintro e w4 ⟨rfl, hb⟩
  have HS4 := Lib.hid (HS3.out.below hb HS3.out.st.sz)
  have b4 := on_below b3 hb
  clear hb b3 HS3
  go_wp2_with (first
    | (go_at_call 12; refine (refam_b _ _ HC.out _).mono ?_; rintro e w' ⟨rfl, rfl⟩)
    | (go_at_call 20; refine (refcur_b _ _ HF.out _).mono ?_; rintro e w' ⟨rfl, rfl⟩))
  refine (K4.out _ HS4.out).mono ?_
  rintro e w5 ⟨rfl, hb⟩
  have HS5 := Lib.hid (HS4.out.below hb HS4.out.st.sz)
  have b5 := on_below b4 hb
  clear hb b4 HS4
  go_wp2_with (first
    | (go_at_call 12; refine (refam_b _ _ HC.out _).mono ?_; rintro e w' ⟨rfl, rfl⟩)
    | (go_at_call 20; refine (refcur_b _ _ HF.out _).mono ?_; rintro e w' ⟨rfl, rfl⟩))
  go_ret
  exact ⟨rfl, b5⟩

set_option maxRecDepth 100000 in
set_option maxHeartbeats 1000000 in
theorem oke3 (c : Int) (ic : I64 c) (f : Int) (if_ : I64 f) (s : ByteArray) (zs : s.size ≤ 9223372036854775807) (w : World) (hs : St6 w) (m : Nat) (hm : min (s.size : Int) 100 = m) (hms : m ≤ s.size) (S : ByteArray) (hS : s.extract 0 m = S) (t : ByteArray) (k1 : ∀ W : World, St6 W → Calls Tryd.prog 18 #[.int .i64 c, .int .i64 f] W fun e w' => e = .returned (.tuple #[.string t, .int .i64 0]) ∧ Below W.heap.size W w') (k2 : ∀ W : World, St6 W → Calls Tryd.prog 19 #[.string t] W fun e w' => e = .returned (.tuple #[.int .i64 c, .int .i64 f, .int .i64 0]) ∧ Below W.heap.size W w') (k3 : ∀ W : World, St6 W → Calls Tryd.prog 19 #[.string S] W fun e w' => e = .returned (.tuple #[.int .i64 0, .int .i64 0, .int .i64 3]) ∧ Below W.heap.size W w') :
    Calls Tryd.prog 8 #[.int .i64 c, .int .i64 f, .string s] w fun e w' => e = .returned (.bool true) ∧ Below w.heap.size w w' := by
  subst hS
  have HS := Lib.hid hs
  clear hs
  have K1 := Lib.hid k1
  clear k1
  have K2 := Lib.hid k2
  clear k2
  have K3 := Lib.hid k3
  clear k3
  go_enter Tryd.func8, Tryd.ntmps8
  go_wp2_with fail
  refine (head_any _ HS.out.st).mono ?_
  rintro e w1 ⟨rfl, b1⟩
  have HS1 := Lib.hid (HS.out.below b1 HS.out.st.sz)
  go_wp2_with fail
  refine (K1.out _ HS1.out).mono ?_
  rintro e w2 ⟨rfl, hb⟩
  have HS2 := Lib.hid (HS1.out.below hb HS1.out.st.sz)
  have b2 := on_below b1 hb
  clear hb b1 HS1
  go_wp2_with (first
    | (go_at_call 12; refine (refam_b _ _ HC.out _).mono ?_; rintro e w' ⟨rfl, rfl⟩)
    | (go_at_call 20; refine (refcur_b _ _ HF.out _).mono ?_; rintro e w' ⟨rfl, rfl⟩))
  refine (K2.out _ HS2.out).mono ?_
  rintro e w3 ⟨rfl, hb⟩
  have HS3 := Lib.hid (HS2.out.below hb HS2.out.st.sz)
  have b3 := on_below b2 hb
  clear hb b2 HS2
  go_wp2_with (first
    | (go_at_call 12; refine (refam_b _ _ HC.out _).mono ?_; rintro e w' ⟨rfl, rfl⟩)
    | (go_at_call 20; refine (refcur_b _ _ HF.out _).mono ?_; rintro e w' ⟨rfl, rfl⟩))
  refine (K3.out _ HS3.out).mono ?_
  rintro e w4 ⟨rfl, hb⟩
  have HS4 := Lib.hid (HS3.out.below hb HS3.out.st.sz)
  have b4 := on_below b3 hb
  clear hb b3 HS3
  go_wp2_with (first
    | (go_at_call 12; refine (refam_b _ _ HC.out _).mono ?_; rintro e w' ⟨rfl, rfl⟩)
    | (go_at_call 20; refine (refcur_b _ _ HF.out _).mono ?_; rintro e w' ⟨rfl, rfl⟩))
  go_ret
  exact ⟨rfl, b4⟩

set_option maxRecDepth 100000 in
set_option maxHeartbeats 1000000 in
theorem oke8 (c : Int) (ic : I64 c) (f : Int) (if_ : I64 f) (s : ByteArray) (zs : s.size ≤ 9223372036854775807) (w : World) (hs : St6 w) (m : Nat) (hm : min (s.size : Int) 100 = m) (hms : m ≤ s.size) (S : ByteArray) (hS : s.extract 0 m = S) (t : ByteArray) (k1 : ∀ W : World, St6 W → Calls Tryd.prog 18 #[.int .i64 c, .int .i64 f] W fun e w' => e = .returned (.tuple #[.string t, .int .i64 0]) ∧ Below W.heap.size W w') (k2 : ∀ W : World, St6 W → Calls Tryd.prog 19 #[.string t] W fun e w' => e = .returned (.tuple #[.int .i64 c, .int .i64 f, .int .i64 0]) ∧ Below W.heap.size W w') (k3 : ∀ W : World, St6 W → Calls Tryd.prog 19 #[.string S] W fun e w' => e = .returned (.tuple #[.int .i64 0, .int .i64 0, .int .i64 8]) ∧ Below W.heap.size W w') :
    Calls Tryd.prog 8 #[.int .i64 c, .int .i64 f, .string s] w fun e w' => e = .returned (.bool true) ∧ Below w.heap.size w w' := by
  subst hS
  have HS := Lib.hid hs
  clear hs
  have K1 := Lib.hid k1
  clear k1
  have K2 := Lib.hid k2
  clear k2
  have K3 := Lib.hid k3
  clear k3
  go_enter Tryd.func8, Tryd.ntmps8
  go_wp2_with fail
  refine (head_any _ HS.out.st).mono ?_
  rintro e w1 ⟨rfl, b1⟩
  have HS1 := Lib.hid (HS.out.below b1 HS.out.st.sz)
  go_wp2_with fail
  refine (K1.out _ HS1.out).mono ?_
  rintro e w2 ⟨rfl, hb⟩
  have HS2 := Lib.hid (HS1.out.below hb HS1.out.st.sz)
  have b2 := on_below b1 hb
  clear hb b1 HS1
  go_wp2_with (first
    | (go_at_call 12; refine (refam_b _ _ HC.out _).mono ?_; rintro e w' ⟨rfl, rfl⟩)
    | (go_at_call 20; refine (refcur_b _ _ HF.out _).mono ?_; rintro e w' ⟨rfl, rfl⟩))
  refine (K2.out _ HS2.out).mono ?_
  rintro e w3 ⟨rfl, hb⟩
  have HS3 := Lib.hid (HS2.out.below hb HS2.out.st.sz)
  have b3 := on_below b2 hb
  clear hb b2 HS2
  go_wp2_with (first
    | (go_at_call 12; refine (refam_b _ _ HC.out _).mono ?_; rintro e w' ⟨rfl, rfl⟩)
    | (go_at_call 20; refine (refcur_b _ _ HF.out _).mono ?_; rintro e w' ⟨rfl, rfl⟩))
  refine (K3.out _ HS3.out).mono ?_
  rintro e w4 ⟨rfl, hb⟩
  have HS4 := Lib.hid (HS3.out.below hb HS3.out.st.sz)
  have b4 := on_below b3 hb
  clear hb b3 HS3
  go_wp2_with (first
    | (go_at_call 12; refine (refam_b _ _ HC.out _).mono ?_; rintro e w' ⟨rfl, rfl⟩)
    | (go_at_call 20; refine (refcur_b _ _ HF.out _).mono ?_; rintro e w' ⟨rfl, rfl⟩))
  go_ret
  exact ⟨rfl, b4⟩

set_option maxRecDepth 100000 in
set_option maxHeartbeats 1000000 in
theorem no1ok (c : Int) (ic : I64 c) (f : Int) (if_ : I64 f) (s : ByteArray) (zs : s.size ≤ 9223372036854775807) (w : World) (hs : St6 w) (m : Nat) (hm : min (s.size : Int) 100 = m) (hms : m ≤ s.size) (S : ByteArray) (hS : s.extract 0 m = S) (hc : am c = false) (k1 : ∀ W : World, St6 W → Calls Tryd.prog 18 #[.int .i64 c, .int .i64 f] W fun e w' => e = .returned (.tuple #[.string ⟨#[]⟩, .int .i64 1]) ∧ Below W.heap.size W w') (n k : Int) (k3 : ∀ W : World, St6 W → Calls Tryd.prog 19 #[.string S] W fun e w' => e = .returned (.tuple #[.int .i64 n, .int .i64 k, .int .i64 0]) ∧ Below W.heap.size W w') (k4 : ∀ W : World, St6 W → Calls Tryd.prog 18 #[.int .i64 n, .int .i64 k] W fun e w' => e = .returned (.tuple #[.string S, .int .i64 0]) ∧ Below W.heap.size W w') :
    Calls Tryd.prog 8 #[.int .i64 c, .int .i64 f, .string s] w fun e w' => e = .returned (.bool true) ∧ Below w.heap.size w w' := by
  subst hS
  have HS := Lib.hid hs
  clear hs
  have K1 := Lib.hid k1
  clear k1
  have HC := Lib.hid hc
  clear hc
  have K3 := Lib.hid k3
  clear k3
  have K4 := Lib.hid k4
  clear k4
  go_enter Tryd.func8, Tryd.ntmps8
  go_wp2_with fail
  refine (head_any _ HS.out.st).mono ?_
  rintro e w1 ⟨rfl, b1⟩
  have HS1 := Lib.hid (HS.out.below b1 HS.out.st.sz)
  go_wp2_with fail
  refine (K1.out _ HS1.out).mono ?_
  rintro e w2 ⟨rfl, hb⟩
  have HS2 := Lib.hid (HS1.out.below hb HS1.out.st.sz)
  have b2 := on_below b1 hb
  clear hb b1 HS1
  go_wp2_with (first
    | (go_at_call 12; refine (refam_b _ _ HC.out _).mono ?_; rintro e w' ⟨rfl, rfl⟩)
    | (go_at_call 20; refine (refcur_b _ _ HF.out _).mono ?_; rintro e w' ⟨rfl, rfl⟩))
  refine (K3.out _ HS2.out).mono ?_
  rintro e w3 ⟨rfl, hb⟩
  have HS3 := Lib.hid (HS2.out.below hb HS2.out.st.sz)
  have b3 := on_below b2 hb
  clear hb b2 HS2
  go_wp2_with (first
    | (go_at_call 12; refine (refam_b _ _ HC.out _).mono ?_; rintro e w' ⟨rfl, rfl⟩)
    | (go_at_call 20; refine (refcur_b _ _ HF.out _).mono ?_; rintro e w' ⟨rfl, rfl⟩))
  refine (K4.out _ HS3.out).mono ?_
  rintro e w4 ⟨rfl, hb⟩
  have HS4 := Lib.hid (HS3.out.below hb HS3.out.st.sz)
  have b4 := on_below b3 hb
  clear hb b3 HS3
  go_wp2_with (first
    | (go_at_call 12; refine (refam_b _ _ HC.out _).mono ?_; rintro e w' ⟨rfl, rfl⟩)
    | (go_at_call 20; refine (refcur_b _ _ HF.out _).mono ?_; rintro e w' ⟨rfl, rfl⟩))
  go_ret
  exact ⟨rfl, b4⟩

set_option maxRecDepth 100000 in
set_option maxHeartbeats 1000000 in
theorem no1e3 (c : Int) (ic : I64 c) (f : Int) (if_ : I64 f) (s : ByteArray) (zs : s.size ≤ 9223372036854775807) (w : World) (hs : St6 w) (m : Nat) (hm : min (s.size : Int) 100 = m) (hms : m ≤ s.size) (S : ByteArray) (hS : s.extract 0 m = S) (hc : am c = false) (k1 : ∀ W : World, St6 W → Calls Tryd.prog 18 #[.int .i64 c, .int .i64 f] W fun e w' => e = .returned (.tuple #[.string ⟨#[]⟩, .int .i64 1]) ∧ Below W.heap.size W w') (k3 : ∀ W : World, St6 W → Calls Tryd.prog 19 #[.string S] W fun e w' => e = .returned (.tuple #[.int .i64 0, .int .i64 0, .int .i64 3]) ∧ Below W.heap.size W w') :
    Calls Tryd.prog 8 #[.int .i64 c, .int .i64 f, .string s] w fun e w' => e = .returned (.bool true) ∧ Below w.heap.size w w' := by
  subst hS
  have HS := Lib.hid hs
  clear hs
  have K1 := Lib.hid k1
  clear k1
  have HC := Lib.hid hc
  clear hc
  have K3 := Lib.hid k3
  clear k3
  go_enter Tryd.func8, Tryd.ntmps8
  go_wp2_with fail
  refine (head_any _ HS.out.st).mono ?_
  rintro e w1 ⟨rfl, b1⟩
  have HS1 := Lib.hid (HS.out.below b1 HS.out.st.sz)
  go_wp2_with fail
  refine (K1.out _ HS1.out).mono ?_
  rintro e w2 ⟨rfl, hb⟩
  have HS2 := Lib.hid (HS1.out.below hb HS1.out.st.sz)
  have b2 := on_below b1 hb
  clear hb b1 HS1
  go_wp2_with (first
    | (go_at_call 12; refine (refam_b _ _ HC.out _).mono ?_; rintro e w' ⟨rfl, rfl⟩)
    | (go_at_call 20; refine (refcur_b _ _ HF.out _).mono ?_; rintro e w' ⟨rfl, rfl⟩))
  refine (K3.out _ HS2.out).mono ?_
  rintro e w3 ⟨rfl, hb⟩
  have HS3 := Lib.hid (HS2.out.below hb HS2.out.st.sz)
  have b3 := on_below b2 hb
  clear hb b2 HS2
  go_wp2_with (first
    | (go_at_call 12; refine (refam_b _ _ HC.out _).mono ?_; rintro e w' ⟨rfl, rfl⟩)
    | (go_at_call 20; refine (refcur_b _ _ HF.out _).mono ?_; rintro e w' ⟨rfl, rfl⟩))
  go_ret
  exact ⟨rfl, b3⟩

set_option maxRecDepth 100000 in
set_option maxHeartbeats 1000000 in
theorem no1e8 (c : Int) (ic : I64 c) (f : Int) (if_ : I64 f) (s : ByteArray) (zs : s.size ≤ 9223372036854775807) (w : World) (hs : St6 w) (m : Nat) (hm : min (s.size : Int) 100 = m) (hms : m ≤ s.size) (S : ByteArray) (hS : s.extract 0 m = S) (hc : am c = false) (k1 : ∀ W : World, St6 W → Calls Tryd.prog 18 #[.int .i64 c, .int .i64 f] W fun e w' => e = .returned (.tuple #[.string ⟨#[]⟩, .int .i64 1]) ∧ Below W.heap.size W w') (k3 : ∀ W : World, St6 W → Calls Tryd.prog 19 #[.string S] W fun e w' => e = .returned (.tuple #[.int .i64 0, .int .i64 0, .int .i64 8]) ∧ Below W.heap.size W w') :
    Calls Tryd.prog 8 #[.int .i64 c, .int .i64 f, .string s] w fun e w' => e = .returned (.bool true) ∧ Below w.heap.size w w' := by
  subst hS
  have HS := Lib.hid hs
  clear hs
  have K1 := Lib.hid k1
  clear k1
  have HC := Lib.hid hc
  clear hc
  have K3 := Lib.hid k3
  clear k3
  go_enter Tryd.func8, Tryd.ntmps8
  go_wp2_with fail
  refine (head_any _ HS.out.st).mono ?_
  rintro e w1 ⟨rfl, b1⟩
  have HS1 := Lib.hid (HS.out.below b1 HS.out.st.sz)
  go_wp2_with fail
  refine (K1.out _ HS1.out).mono ?_
  rintro e w2 ⟨rfl, hb⟩
  have HS2 := Lib.hid (HS1.out.below hb HS1.out.st.sz)
  have b2 := on_below b1 hb
  clear hb b1 HS1
  go_wp2_with (first
    | (go_at_call 12; refine (refam_b _ _ HC.out _).mono ?_; rintro e w' ⟨rfl, rfl⟩)
    | (go_at_call 20; refine (refcur_b _ _ HF.out _).mono ?_; rintro e w' ⟨rfl, rfl⟩))
  refine (K3.out _ HS2.out).mono ?_
  rintro e w3 ⟨rfl, hb⟩
  have HS3 := Lib.hid (HS2.out.below hb HS2.out.st.sz)
  have b3 := on_below b2 hb
  clear hb b2 HS2
  go_wp2_with (first
    | (go_at_call 12; refine (refam_b _ _ HC.out _).mono ?_; rintro e w' ⟨rfl, rfl⟩)
    | (go_at_call 20; refine (refcur_b _ _ HF.out _).mono ?_; rintro e w' ⟨rfl, rfl⟩))
  go_ret
  exact ⟨rfl, b3⟩

set_option maxRecDepth 100000 in
set_option maxHeartbeats 1000000 in
theorem no2ok (c : Int) (ic : I64 c) (f : Int) (if_ : I64 f) (s : ByteArray) (zs : s.size ≤ 9223372036854775807) (w : World) (hs : St6 w) (m : Nat) (hm : min (s.size : Int) 100 = m) (hms : m ≤ s.size) (S : ByteArray) (hS : s.extract 0 m = S) (hc : am c = true) (hf : cur f = false) (k1 : ∀ W : World, St6 W → Calls Tryd.prog 18 #[.int .i64 c, .int .i64 f] W fun e w' => e = .returned (.tuple #[.string ⟨#[]⟩, .int .i64 1]) ∧ Below W.heap.size W w') (n k : Int) (k3 : ∀ W : World, St6 W → Calls Tryd.prog 19 #[.string S] W fun e w' => e = .returned (.tuple #[.int .i64 n, .int .i64 k, .int .i64 0]) ∧ Below W.heap.size W w') (k4 : ∀ W : World, St6 W → Calls Tryd.prog 18 #[.int .i64 n, .int .i64 k] W fun e w' => e = .returned (.tuple #[.string S, .int .i64 0]) ∧ Below W.heap.size W w') :
    Calls Tryd.prog 8 #[.int .i64 c, .int .i64 f, .string s] w fun e w' => e = .returned (.bool true) ∧ Below w.heap.size w w' := by
  subst hS
  have HS := Lib.hid hs
  clear hs
  have K1 := Lib.hid k1
  clear k1
  have HC := Lib.hid hc
  clear hc
  have HF := Lib.hid hf
  clear hf
  have K3 := Lib.hid k3
  clear k3
  have K4 := Lib.hid k4
  clear k4
  go_enter Tryd.func8, Tryd.ntmps8
  go_wp2_with fail
  refine (head_any _ HS.out.st).mono ?_
  rintro e w1 ⟨rfl, b1⟩
  have HS1 := Lib.hid (HS.out.below b1 HS.out.st.sz)
  go_wp2_with fail
  refine (K1.out _ HS1.out).mono ?_
  rintro e w2 ⟨rfl, hb⟩
  have HS2 := Lib.hid (HS1.out.below hb HS1.out.st.sz)
  have b2 := on_below b1 hb
  clear hb b1 HS1
  go_wp2_with (first
    | (go_at_call 12; refine (refam_b _ _ HC.out _).mono ?_; rintro e w' ⟨rfl, rfl⟩)
    | (go_at_call 20; refine (refcur_b _ _ HF.out _).mono ?_; rintro e w' ⟨rfl, rfl⟩))
  refine (K3.out _ HS2.out).mono ?_
  rintro e w3 ⟨rfl, hb⟩
  have HS3 := Lib.hid (HS2.out.below hb HS2.out.st.sz)
  have b3 := on_below b2 hb
  clear hb b2 HS2
  go_wp2_with (first
    | (go_at_call 12; refine (refam_b _ _ HC.out _).mono ?_; rintro e w' ⟨rfl, rfl⟩)
    | (go_at_call 20; refine (refcur_b _ _ HF.out _).mono ?_; rintro e w' ⟨rfl, rfl⟩))
  refine (K4.out _ HS3.out).mono ?_
  rintro e w4 ⟨rfl, hb⟩
  have HS4 := Lib.hid (HS3.out.below hb HS3.out.st.sz)
  have b4 := on_below b3 hb
  clear hb b3 HS3
  go_wp2_with (first
    | (go_at_call 12; refine (refam_b _ _ HC.out _).mono ?_; rintro e w' ⟨rfl, rfl⟩)
    | (go_at_call 20; refine (refcur_b _ _ HF.out _).mono ?_; rintro e w' ⟨rfl, rfl⟩))
  go_ret
  exact ⟨rfl, b4⟩

set_option maxRecDepth 100000 in
set_option maxHeartbeats 1000000 in
theorem no2e3 (c : Int) (ic : I64 c) (f : Int) (if_ : I64 f) (s : ByteArray) (zs : s.size ≤ 9223372036854775807) (w : World) (hs : St6 w) (m : Nat) (hm : min (s.size : Int) 100 = m) (hms : m ≤ s.size) (S : ByteArray) (hS : s.extract 0 m = S) (hc : am c = true) (hf : cur f = false) (k1 : ∀ W : World, St6 W → Calls Tryd.prog 18 #[.int .i64 c, .int .i64 f] W fun e w' => e = .returned (.tuple #[.string ⟨#[]⟩, .int .i64 1]) ∧ Below W.heap.size W w') (k3 : ∀ W : World, St6 W → Calls Tryd.prog 19 #[.string S] W fun e w' => e = .returned (.tuple #[.int .i64 0, .int .i64 0, .int .i64 3]) ∧ Below W.heap.size W w') :
    Calls Tryd.prog 8 #[.int .i64 c, .int .i64 f, .string s] w fun e w' => e = .returned (.bool true) ∧ Below w.heap.size w w' := by
  subst hS
  have HS := Lib.hid hs
  clear hs
  have K1 := Lib.hid k1
  clear k1
  have HC := Lib.hid hc
  clear hc
  have HF := Lib.hid hf
  clear hf
  have K3 := Lib.hid k3
  clear k3
  go_enter Tryd.func8, Tryd.ntmps8
  go_wp2_with fail
  refine (head_any _ HS.out.st).mono ?_
  rintro e w1 ⟨rfl, b1⟩
  have HS1 := Lib.hid (HS.out.below b1 HS.out.st.sz)
  go_wp2_with fail
  refine (K1.out _ HS1.out).mono ?_
  rintro e w2 ⟨rfl, hb⟩
  have HS2 := Lib.hid (HS1.out.below hb HS1.out.st.sz)
  have b2 := on_below b1 hb
  clear hb b1 HS1
  go_wp2_with (first
    | (go_at_call 12; refine (refam_b _ _ HC.out _).mono ?_; rintro e w' ⟨rfl, rfl⟩)
    | (go_at_call 20; refine (refcur_b _ _ HF.out _).mono ?_; rintro e w' ⟨rfl, rfl⟩))
  refine (K3.out _ HS2.out).mono ?_
  rintro e w3 ⟨rfl, hb⟩
  have HS3 := Lib.hid (HS2.out.below hb HS2.out.st.sz)
  have b3 := on_below b2 hb
  clear hb b2 HS2
  go_wp2_with (first
    | (go_at_call 12; refine (refam_b _ _ HC.out _).mono ?_; rintro e w' ⟨rfl, rfl⟩)
    | (go_at_call 20; refine (refcur_b _ _ HF.out _).mono ?_; rintro e w' ⟨rfl, rfl⟩))
  go_ret
  exact ⟨rfl, b3⟩

set_option maxRecDepth 100000 in
set_option maxHeartbeats 1000000 in
theorem no2e8 (c : Int) (ic : I64 c) (f : Int) (if_ : I64 f) (s : ByteArray) (zs : s.size ≤ 9223372036854775807) (w : World) (hs : St6 w) (m : Nat) (hm : min (s.size : Int) 100 = m) (hms : m ≤ s.size) (S : ByteArray) (hS : s.extract 0 m = S) (hc : am c = true) (hf : cur f = false) (k1 : ∀ W : World, St6 W → Calls Tryd.prog 18 #[.int .i64 c, .int .i64 f] W fun e w' => e = .returned (.tuple #[.string ⟨#[]⟩, .int .i64 1]) ∧ Below W.heap.size W w') (k3 : ∀ W : World, St6 W → Calls Tryd.prog 19 #[.string S] W fun e w' => e = .returned (.tuple #[.int .i64 0, .int .i64 0, .int .i64 8]) ∧ Below W.heap.size W w') :
    Calls Tryd.prog 8 #[.int .i64 c, .int .i64 f, .string s] w fun e w' => e = .returned (.bool true) ∧ Below w.heap.size w w' := by
  subst hS
  have HS := Lib.hid hs
  clear hs
  have K1 := Lib.hid k1
  clear k1
  have HC := Lib.hid hc
  clear hc
  have HF := Lib.hid hf
  clear hf
  have K3 := Lib.hid k3
  clear k3
  go_enter Tryd.func8, Tryd.ntmps8
  go_wp2_with fail
  refine (head_any _ HS.out.st).mono ?_
  rintro e w1 ⟨rfl, b1⟩
  have HS1 := Lib.hid (HS.out.below b1 HS.out.st.sz)
  go_wp2_with fail
  refine (K1.out _ HS1.out).mono ?_
  rintro e w2 ⟨rfl, hb⟩
  have HS2 := Lib.hid (HS1.out.below hb HS1.out.st.sz)
  have b2 := on_below b1 hb
  clear hb b1 HS1
  go_wp2_with (first
    | (go_at_call 12; refine (refam_b _ _ HC.out _).mono ?_; rintro e w' ⟨rfl, rfl⟩)
    | (go_at_call 20; refine (refcur_b _ _ HF.out _).mono ?_; rintro e w' ⟨rfl, rfl⟩))
  refine (K3.out _ HS2.out).mono ?_
  rintro e w3 ⟨rfl, hb⟩
  have HS3 := Lib.hid (HS2.out.below hb HS2.out.st.sz)
  have b3 := on_below b2 hb
  clear hb b2 HS2
  go_wp2_with (first
    | (go_at_call 12; refine (refam_b _ _ HC.out _).mono ?_; rintro e w' ⟨rfl, rfl⟩)
    | (go_at_call 20; refine (refcur_b _ _ HF.out _).mono ?_; rintro e w' ⟨rfl, rfl⟩))
  go_ret
  exact ⟨rfl, b3⟩

theorem walk (c : Int) (ic : I64 c) (f : Int) (if_ : I64 f) (s : ByteArray) (zs : s.size ≤ 9223372036854775807) (w : World) (hs : St6 w) :
    Calls Tryd.prog 8 #[.int .i64 c, .int .i64 f, .string s] w fun e w' => e = .returned (.bool true) ∧ Below w.heap.size w w' := by
  obtain ⟨m, hm, hms, hm1⟩ : ∃ m : Nat, min (s.size : Int) 100 = m ∧ m ≤ s.size ∧ m ≤ 100 := ⟨min s.size 100, by omega, by omega, by omega⟩
  obtain ⟨S, hS⟩ : ∃ S, s.extract 0 m = S := ⟨_, rfl⟩
  have hz : S.size ≤ 200 := by rw [← hS, ByteArray.size_extract]; omega
  have k3 := fun W h => parse_any S hz W h
  have k4 : pE S.data.toList = 0 → ∀ W : World, St6 W → Calls Tryd.prog 18 #[.int .i64 (pN S.data.toList), .int .i64 (pK S.data.toList)] W fun e w' => e = .returned (.tuple #[.string S, .int .i64 0]) ∧ Below W.heap.size W w' := fun h W hW => by
    obtain ⟨h1, h2, h3⟩ := parse_back h
    have := text_ok (pN S.data.toList) (pK S.data.toList) W h1 h2 hW.st
    rwa [h3] at this
  have k5 := fun h => parse_fail (l := S.data.toList) h
  by_cases hc : am c = true
  · by_cases hf : cur f = true
    · have k1 : ∀ W : World, St6 W → Calls Tryd.prog 18 #[.int .i64 c, .int .i64 f] W fun e w' => e = .returned (.tuple #[.string (mtc c f), .int .i64 0]) ∧ Below W.heap.size W w' := fun W hW => text_ok c f W hc hf hW.st
      obtain ⟨e1, e2, e3⟩ := parse_text hc hf
      have k2 : ∀ W : World, St6 W → Calls Tryd.prog 19 #[.string (mtc c f)] W fun e w' => e = .returned (.tuple #[.int .i64 c, .int .i64 f, .int .i64 0]) ∧ Below W.heap.size W w' := fun W hW => by
        have := parse_any (mtc c f) (Nat.le_trans (mtc_size c f (am_bd.1 hc)) (by omega)) W hW
        rwa [e1, e2, e3] at this
      by_cases hp : pE S.data.toList = 0
      · have k4 := k4 hp
        rw [hp] at k3
        exact okok c ic f if_ s zs w hs m hm hms S hS _ k1 k2 _ _ k3 k4
      · obtain ⟨h1 | h1, h2, h3⟩ := k5 hp
        · rw [h1, h2, h3] at k3
          exact oke3 c ic f if_ s zs w hs m hm hms S hS _ k1 k2 k3
        · rw [h1, h2, h3] at k3
          exact oke8 c ic f if_ s zs w hs m hm hms S hS _ k1 k2 k3
    · have hf' : cur f = false := by simpa using hf
      have k1 : ∀ W : World, St6 W → Calls Tryd.prog 18 #[.int .i64 c, .int .i64 f] W fun e w' => e = .returned (.tuple #[.string ⟨#[]⟩, .int .i64 1]) ∧ Below W.heap.size W w' := fun W hW => (text_bad c f W (by simp [hf'])).mono fun e w' ⟨h1, h2⟩ => ⟨h1, h2 ▸ Below.refl _ _⟩
      by_cases hp : pE S.data.toList = 0
      · have k4 := k4 hp
        rw [hp] at k3
        exact no2ok c ic f if_ s zs w hs m hm hms S hS hc hf' k1 _ _ k3 k4
      · obtain ⟨h1 | h1, h2, h3⟩ := k5 hp
        · rw [h1, h2, h3] at k3
          exact no2e3 c ic f if_ s zs w hs m hm hms S hS hc hf' k1 k3
        · rw [h1, h2, h3] at k3
          exact no2e8 c ic f if_ s zs w hs m hm hms S hS hc hf' k1 k3
  · have hc' : am c = false := by simpa using hc
    have k1 : ∀ W : World, St6 W → Calls Tryd.prog 18 #[.int .i64 c, .int .i64 f] W fun e w' => e = .returned (.tuple #[.string ⟨#[]⟩, .int .i64 1]) ∧ Below W.heap.size W w' := fun W hW => (text_bad c f W (by simp [hc'])).mono fun e w' ⟨h1, h2⟩ => ⟨h1, h2 ▸ Below.refl _ _⟩
    by_cases hp : pE S.data.toList = 0
    · have k4 := k4 hp
      rw [hp] at k3
      exact no1ok c ic f if_ s zs w hs m hm hms S hS hc' k1 _ _ k3 k4
    · obtain ⟨h1 | h1, h2, h3⟩ := k5 hp
      · rw [h1, h2, h3] at k3
        exact no1e3 c ic f if_ s zs w hs m hm hms S hS hc' k1 k3
      · rw [h1, h2, h3] at k3
        exact no1e8 c ic f if_ s zs w hs m hm hms S hS hc' k1 k3

/-! ### The row and the card -/
open Go.ChangeShapes Go.WideShapes Go.ChangeAt
open Go.ChangeMaps (open_string shut_string)

set_option maxRecDepth 100000 in
theorem contract (H : Type) (enc : TypeId × Value → H) (W : World) (base : Nat) (args : Array Value) (ds gs : List (DataW H)) (before : List MemPlace)
    (hval : ∀ (j : Nat) t v, Tryd.f8.params[j]? = some t → args[j]? = some v → Value.okWide Tryd.prog W .any base t v)
    (hW : DataW.Whole enc Tryd.prog Tryd.f8.params.toList Rows.moneyTextsSpec.vars false W args.toList ds gs before) (hL : laidMetH Tryd.prog laid6 W) (hsh : W.ShapedOpen Tryd.prog) :
    Calls Tryd.prog 8 args W fun e W' => ∃ v, e = .returned v ∧ Rows.moneyTextsSpec.post enc Tryd.prog Tryd.f8 false true false false W args v W' := by
  have hW' := hW
  obtain ⟨p, q, hA0, hV, rfl, hfz, hnd⟩ := hW
  have hA : DataW.TrodAll enc Tryd.prog W 0 (fun _ => true) true Tryd.f8.params.toList args.toList ds p := hA0
  rw [Tryd.params8] at hA hval
  obtain ⟨v0, vs0, d0, ds0, p0, q0, hargs, rfl, rfl, h0, r0⟩ := trodAll_cons hA
  obtain ⟨v1, vs1, d1, ds1, p1, q1, rfl, rfl, rfl, h1, r1⟩ := trodAll_cons r0
  obtain ⟨v2, vs2, d2, ds2, p2, q2, rfl, rfl, rfl, h2, r2⟩ := trodAll_cons r1
  obtain ⟨rfl, rfl, rfl⟩ := trodAll_nil r2
  obtain rfl : args = #[v0, v1, v2] := Array.toList_inj.1 hargs
  obtain ⟨rfl, rfl⟩ := trodVars_none hV
  obtain ⟨c, rfl, rfl, rfl, wc⟩ := open_int Tryd.underlying3 (hval 0 3 v0 rfl rfl) h0
  obtain ⟨f, rfl, rfl, rfl, wf⟩ := open_int Tryd.underlying3 (hval 1 3 v1 rfl rfl) h1
  obtain ⟨s, rfl, rfl, rfl, ws⟩ := open_string Tryd.underlying9 (hval 2 9 v2 rfl rfl) h2
  clear hA0
  refine (walk c (wf_i wc) f (wf_i wf) s ws W (st_of6 hL hsh)).mono fun e W' ⟨he, bel⟩ => ?_
  subst he
  exact ⟨_, rfl, _, _, _, [], [], [], hW', trodAll_mk1 (shut_bool Tryd.underlying4 _), (trodAll_cons_mk (shut_int Tryd.underlying3 wc) (trodAll_cons_mk (shut_int Tryd.underlying3 wf) (trodAll_cons_mk (shut_string Tryd.underlying9 ws) trodAll_mk0))), rfl, bel.frame _, fun h => by cases h⟩

theorem reads (os : Os) {H : Type} (enc : TypeId × Value → H) : ∃ places, DataW.whole enc Tryd.prog ((laidWorld os).forCall (fun _ _ => 0) ⟨#[], #[.int .i64 0, .int .i64 0, .string ⟨#[]⟩], []⟩).memory Tryd.f8.params.toList Rows.moneyTextsSpec.vars false (#[.int .i64 0, .int .i64 0, .string ⟨#[]⟩] : Array Value).toList 8 = some ([.lit (.int .i64 0), .lit (.int .i64 0), .lit (.string [])], [], places) :=
  ⟨[], by kernel_rfl⟩

set_option maxRecDepth 100000 in
theorem lifted (os : Os) (started : os.Started) (H : Type) (enc : TypeId × Value → H) (F : Stop.Interp) :
    ReturnsInHanded {} Tryd.checked os 8 .any ((OpenSpec.ofChange Rows.moneyTextsSpec).preRow enc Tryd.prog Tryd.f8 Rows.moneyTextsRow.domain false Rows.moneyTextsRow.laid) (((OpenSpec.ofChange Rows.moneyTextsSpec).at F).post enc Tryd.prog Tryd.f8 false true false false) := by
  obtain ⟨places, hx⟩ := reads os enc
  refine returnsInHanded_of_row (C := Tryd.checked) (s := OpenSpec.ofChange Rows.moneyTextsSpec) own started (by kernel_rfl) Tryd.func8
    (witness_row_atRef (enc := enc) (C := Tryd.checked) false (laidWorld os) #[.int .i64 0, .int .i64 0, .string ⟨#[]⟩] rfl (by kernel_rfl) (by kernel_rfl) (by kernel_rfl)
      (OpenSpec.preRow_of_cond 8 hx (by kernel_rfl) (fun k hk => by cases hk) (by kernel_rfl) (laidWorld_met6 os _))) ?_
  intro W base args ds gs before hval hW _ hcond _ hL hsh _
  exact contract H enc W base args ds gs before hval hW hL hsh

theorem said : Rows.MoneyTextsSaid :=
  OpenClaim.holds_of_cond 8 Tryd.f8 rfl rfl rfl rfl rfl rfl rfl ⟨rfl, rfl, rfl, rfl, rfl⟩ rfl rfl rfl rfl rfl (by kernel_rfl) Tryd.func8 (by kernel_rfl)
    (of_decide_eq_true (by kernel_rfl)) (by unfold Func.isWrapper; first | (rw [if_pos (by decide +kernel)]; kernel_rfl) | (rw [if_neg (by decide +kernel)]; exact ⟨rfl, rfl⟩))
    (fun os started H enc _ F => by rw [OpenClaim.pre_eq_preRow]; exact lifted os started H enc F)

theorem plain (f : FuncId) (fn : Func) (hf : Tryd.pinned.checked.prog.funcNamed "barcarole/barcarolelaw02.MoneyTexts" = some f) (hfn : Tryd.pinned.checked.prog.funcs[f]? = some fn) :
    true = Tryd.pinned.checked.prog.looks [] ∧ ∀ (j : Nat) t, fn.params[j]? = some t → Tryd.pinned.checked.prog.wantsStandIn t = false := by
  obtain rfl : f = 8 := Option.some.inj ((show Tryd.prog.funcNamed "barcarole/barcarolelaw02.MoneyTexts" = some 8 by kernel_rfl).symm.trans hf) |>.symm
  obtain rfl : fn = Tryd.f8 := (Option.some.inj (Tryd.func8.symm.trans hfn)).symm
  refine ⟨by kernel_rfl, fun j t ht => ?_⟩
  rw [Tryd.params8] at ht
  have ht' : t = 3 ∨ t = 9 := by
    have := Array.mem_of_getElem? ht
    simp at this
    first | omega | (rcases this with h | h | h | h | h <;> simp [h]) | (rcases this with h | h | h | h <;> simp [h]) | (rcases this with h | h | h <;> simp [h]) | (rcases this with h | h <;> simp [h])
  rcases ht' with rfl | rfl
  · exact (show Tryd.prog.wantsStandIn 3 = false by kernel_rfl)
  · exact (show Tryd.prog.wantsStandIn 9 = false by kernel_rfl)

/-- The statement. -/
theorem card : Rows.MoneyTextsCardSaid :=
  Claim7.holds_tied_plain_at .later [] _ _ _ _ said (fun _ h => by cases h) (by kernel_rfl) (fun _ h => by cases h) moneyTexts_row_tie rfl ⟨rfl, rfl⟩ (by kernel_rfl) rfl plain (by kernel_rfl)
end Go.Proofs.YtanncjkkaeeiaaaDoor.moneyTexts
