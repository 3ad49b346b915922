/-
  SpanParts: what a list has before a minute and what it has from it on are apart, and their union is the list: for any slice of spans and int.
  Conditions: none besides the row's.
-/
import Derived.Test.YtgdgpfpihpofdaaSpnX
import Derived.Test.YtgdgpfpihpofdaaSpnW
import Derived.Test.YtgdgpfpihpofdaaRows
import Derived.ProofKit
import Derived.OpenShut
import Derived.Deep.DeepHandedRow
import Derived.Deep.DeepWitnessRowRef
import Derived.MakeChecks
namespace Go.Proofs.Ytgdgpfpihpofdaa.spanParts
open Go.RowKit Go.Sort
open Go.RowKit (Below)
set_option linter.unusedVariables false
set_option linter.unusedSimpArgs false
theorem pair_b (A B : Option Addr) (C D : Nat) (xs ys : List Spn) (w : World) (b : Bool) (hb : pr xs ys = b) (hl : xs.length ≤ 9223372036854775807) (hl2 : ys.length ≤ 9223372036854775807) (hx : SlS w A xs) (hy : SlS w B ys) :
    Calls Try.prog 27 #[.slice A xs.length C, .slice B ys.length D] w fun e w' => e = .returned (.bool b) ∧ Below w.heap.size w w' := by subst hb; exact pair_any A B C D xs ys w hl hl2 hx hy
theorem ls_len {w : World} {A : Option Addr} {C : Nat} {xs : List Spn} (h : Ls w A C xs) : xs.length ≤ 9223372036854775807 := Nat.le_trans h.cap.1 h.cap.2

set_option maxRecDepth 100000 in
set_option maxHeartbeats 2000000 in
theorem no1 (lA : Option Addr) (lC : Nat) (l : List Spn) (m : Int) (im : I64 m) (w : World) (ll : Ls w lA lC l) (hf : decide (l.length ≤ 40) = false) :
    Calls Try.prog 7 #[.slice lA l.length lC, .int .i64 m] w fun e w' => e = .returned (.bool true) ∧ Below w.heap.size w w' := by
  have Hl := Lib.hid ll
  clear ll
  have HF := Lib.hid hf
  clear hf
  have HB := Lib.hid (Below.refl w.heap.size w)
  go_enter Try.func7, Try.ntmps7
  go_wp2_with fail
  refine (head_any _).mono ?_
  rintro e w' ⟨rfl, hb⟩
  replace HB := Lib.hid (on_below HB.out hb)
  replace Hl := Lib.hid (Hl.out.below hb)
  clear hb
  go_wp2_with fail
  refine (few_b _ _ _ _ HF.out _).mono ?_
  rintro e w' ⟨rfl, rfl⟩
  go_wp2_with fail
  go_ret
  exact ⟨rfl, HB.out⟩
set_option maxRecDepth 100000 in
set_option maxHeartbeats 2000000 in
theorem no2 (lA : Option Addr) (lC : Nat) (l : List Spn) (m : Int) (im : I64 m) (w : World) (ll : Ls w lA lC l) (hf : decide (l.length ≤ 40) = true) (vl : vldS l = false) :
    Calls Try.prog 7 #[.slice lA l.length lC, .int .i64 m] w fun e w' => e = .returned (.bool true) ∧ Below w.heap.size w w' := by
  have Hl := Lib.hid ll
  clear ll
  have HF := Lib.hid hf
  clear hf
  have VL := Lib.hid vl
  clear vl
  have HB := Lib.hid (Below.refl w.heap.size w)
  go_enter Try.func7, Try.ntmps7
  go_wp2_with fail
  refine (head_any _).mono ?_
  rintro e w' ⟨rfl, hb⟩
  replace HB := Lib.hid (on_below HB.out hb)
  replace Hl := Lib.hid (Hl.out.below hb)
  clear hb
  go_wp2_with fail
  refine (few_b _ _ _ _ HF.out _).mono ?_
  rintro e w' ⟨rfl, rfl⟩
  go_wp2_with fail
  refine (rvalid_b _ _ l _ VL.out _ (ls_len Hl.out) Hl.out.sl).mono ?_
  rintro e w' ⟨rfl, hb⟩
  replace HB := Lib.hid (on_below HB.out hb)
  replace Hl := Lib.hid (Hl.out.below hb)
  clear hb
  go_wp2_with fail
  go_ret
  exact ⟨rfl, HB.out⟩
set_option maxRecDepth 100000 in
set_option maxHeartbeats 2000000 in
theorem no3 (lA : Option Addr) (lC : Nat) (l : List Spn) (m : Int) (im : I64 m) (w : World) (ll : Ls w lA lC l) (hf : decide (l.length ≤ 40) = true) (vl : vldS l = true) (hm : m < 1) :
    Calls Try.prog 7 #[.slice lA l.length lC, .int .i64 m] w fun e w' => e = .returned (.bool true) ∧ Below w.heap.size w w' := by
  have Hl := Lib.hid ll
  clear ll
  have HF := Lib.hid hf
  clear hf
  have VL := Lib.hid vl
  clear vl
  have HB := Lib.hid (Below.refl w.heap.size w)
  go_enter Try.func7, Try.ntmps7
  go_wp2_with fail
  refine (head_any _).mono ?_
  rintro e w' ⟨rfl, hb⟩
  replace HB := Lib.hid (on_below HB.out hb)
  replace Hl := Lib.hid (Hl.out.below hb)
  clear hb
  go_wp2_with fail
  refine (few_b _ _ _ _ HF.out _).mono ?_
  rintro e w' ⟨rfl, rfl⟩
  go_wp2_with fail
  refine (rvalid_b _ _ l _ VL.out _ (ls_len Hl.out) Hl.out.sl).mono ?_
  rintro e w' ⟨rfl, hb⟩
  replace HB := Lib.hid (on_below HB.out hb)
  replace Hl := Lib.hid (Hl.out.below hb)
  clear hb
  go_wp2_with fail
  go_ret
  exact ⟨rfl, HB.out⟩
set_option maxRecDepth 100000 in
set_option maxHeartbeats 2000000 in
theorem no4 (lA : Option Addr) (lC : Nat) (l : List Spn) (m : Int) (im : I64 m) (w : World) (ll : Ls w lA lC l) (hf : decide (l.length ≤ 40) = true) (vl : vldS l = true) (hm : decide (m < 1) = false) (hm2 : 600000 < m) :
    Calls Try.prog 7 #[.slice lA l.length lC, .int .i64 m] w fun e w' => e = .returned (.bool true) ∧ Below w.heap.size w w' := by
  have Hl := Lib.hid ll
  clear ll
  have HF := Lib.hid hf
  clear hf
  have VL := Lib.hid vl
  clear vl
  have HB := Lib.hid (Below.refl w.heap.size w)
  go_enter Try.func7, Try.ntmps7
  go_wp2_with fail
  refine (head_any _).mono ?_
  rintro e w' ⟨rfl, hb⟩
  replace HB := Lib.hid (on_below HB.out hb)
  replace Hl := Lib.hid (Hl.out.below hb)
  clear hb
  go_wp2_with fail
  refine (few_b _ _ _ _ HF.out _).mono ?_
  rintro e w' ⟨rfl, rfl⟩
  go_wp2_with fail
  refine (rvalid_b _ _ l _ VL.out _ (ls_len Hl.out) Hl.out.sl).mono ?_
  rintro e w' ⟨rfl, hb⟩
  replace HB := Lib.hid (on_below HB.out hb)
  replace Hl := Lib.hid (Hl.out.below hb)
  clear hb
  go_wp2_with fail
  go_ret
  exact ⟨rfl, HB.out⟩
set_option maxRecDepth 100000 in
set_option maxHeartbeats 4000000 in
theorem ok1 (lA : Option Addr) (lC : Nat) (l : List Spn) (m : Int) (im : I64 m) (w : World) (ll : Ls w lA lC l) (hf : decide (l.length ≤ 40) = true) (vl : vldS l = true) (hm : decide (m < 1) = false) (hm2 : decide (600000 < m) = false) (A B : List Spn) (n k a : Int) (vb : vldS [(0, m)] = true) (e1 : cmb opA l [(0, m)] = A) (e2 : cmb opD l [(0, m)] = ([] : List Spn)) (e3 : cmb opA A ([] : List Spn) = []) (e4 : cmb opO A ([] : List Spn) = l) (p1 : cntS A = n) (p2 : cntS ([] : List Spn) = k) (p3 : cntS l = a) (n0 : 0 ≤ n) (n1 : n ≤ 600001) (k0 : 0 ≤ k) (k1 : k ≤ 600001) (q1 : (n + k == a) = true) (q2 : n ≤ m) (vA : vldS A = true) (vB : vldS ([] : List Spn) = true) (l1 : l.length + [(0, m)].length ≤ 500) (l2 : A.length + ([] : List Spn).length ≤ 500) :
    Calls Try.prog 7 #[.slice lA l.length lC, .int .i64 m] w fun e w' => e = .returned (.bool true) ∧ Below w.heap.size w w' := by
  have Hl := Lib.hid ll
  clear ll
  have HF := Lib.hid hf
  clear hf
  have VL := Lib.hid vl
  clear vl
  have VB0 := Lib.hid vb
  clear vb
  have E1 := Lib.hid e1
  clear e1
  have E2 := Lib.hid e2
  clear e2
  have E3 := Lib.hid e3
  clear e3
  have E4 := Lib.hid e4
  clear e4
  have P1 := Lib.hid p1
  clear p1
  have P2 := Lib.hid p2
  clear p2
  have P3 := Lib.hid p3
  clear p3
  have VA := Lib.hid vA
  clear vA
  have VB := Lib.hid vB
  clear vB
  have L1 := Lib.hid l1
  clear l1
  have L2 := Lib.hid l2
  clear l2
  have HB := Lib.hid (Below.refl w.heap.size w)
  go_enter Try.func7, Try.ntmps7
  go_wp2_with fail
  refine (head_any _).mono ?_
  rintro e w' ⟨rfl, hb⟩
  replace HB := Lib.hid (on_below HB.out hb)
  replace Hl := Lib.hid (Hl.out.below hb)
  clear hb
  go_wp2_with fail
  refine (few_b _ _ _ _ HF.out _).mono ?_
  rintro e w' ⟨rfl, rfl⟩
  go_wp2_with fail
  refine (rvalid_b _ _ l _ VL.out _ (ls_len Hl.out) Hl.out.sl).mono ?_
  rintro e w' ⟨rfl, hb⟩
  replace HB := Lib.hid (on_below HB.out hb)
  replace Hl := Lib.hid (Hl.out.below hb)
  clear hb
  go_wp2_with fail
  generalize hV : World.alloc w' (.cells #[.int .i64 0, .int .i64 m] 39) = V at *
  have HN := Lib.hid (show Ls V (some ⟨w'.heap.size, 0, none⟩) 1 [(0, m)] from hV ▸ ls_one w' 0 m _)
  have hb : Below w'.heap.size w' V := hV ▸ below_new _ _
  replace HB := Lib.hid (on_below HB.out hb)
  replace Hl := Lib.hid (Hl.out.below hb)
  clear hb hV
  refine (common_got _ _ _ 1 l [(0, m)] _ _ E1.out VL.out VB0.out L1.out Hl.out HN.out).mono ?_
  rintro e w' ⟨A1, C1, rfl, hl, hb⟩
  replace HB := Lib.hid (on_below HB.out hb)
  replace Hl := Lib.hid (Hl.out.below hb)
  replace HN := Lib.hid (HN.out.below hb)
  have H1 := Lib.hid hl
  clear hb hl
  go_wp2_with fail
  refine (minus_got _ _ _ 1 l [(0, m)] _ _ E2.out VL.out VB0.out L1.out Hl.out HN.out).mono ?_
  rintro e w' ⟨A2, C2, rfl, hl, hb⟩
  replace HB := Lib.hid (on_below HB.out hb)
  replace Hl := Lib.hid (Hl.out.below hb)
  replace HN := Lib.hid (HN.out.below hb)
  replace H1 := Lib.hid (H1.out.below hb)
  have H2 := Lib.hid hl
  clear hb hl
  go_wp2_with fail
  refine (common_got _ _ _ _ _ _ _ _ E3.out VA.out VB.out L2.out H1.out H2.out).mono ?_
  rintro e w' ⟨A3, C3, rfl, hl, hb⟩
  replace HB := Lib.hid (on_below HB.out hb)
  replace Hl := Lib.hid (Hl.out.below hb)
  replace HN := Lib.hid (HN.out.below hb)
  replace H1 := Lib.hid (H1.out.below hb)
  replace H2 := Lib.hid (H2.out.below hb)
  have H3 := Lib.hid hl
  clear hb hl
  go_wp2_with fail
  refine (union_got _ _ _ _ _ _ _ _ E4.out VA.out VB.out L2.out H1.out H2.out).mono ?_
  rintro e w' ⟨A4, C4, rfl, hl, hb⟩
  replace HB := Lib.hid (on_below HB.out hb)
  replace Hl := Lib.hid (Hl.out.below hb)
  replace HN := Lib.hid (HN.out.below hb)
  replace H1 := Lib.hid (H1.out.below hb)
  replace H2 := Lib.hid (H2.out.below hb)
  replace H3 := Lib.hid (H3.out.below hb)
  have H4 := Lib.hid hl
  clear hb hl
  go_wp2_with fail
  refine (length_got _ _ _ _ _ P1.out VA.out H1.out).mono ?_
  rintro e w' ⟨rfl, hb⟩
  replace HB := Lib.hid (on_below HB.out hb)
  replace Hl := Lib.hid (Hl.out.below hb)
  replace HN := Lib.hid (HN.out.below hb)
  replace H1 := Lib.hid (H1.out.below hb)
  replace H2 := Lib.hid (H2.out.below hb)
  replace H3 := Lib.hid (H3.out.below hb)
  replace H4 := Lib.hid (H4.out.below hb)
  clear hb
  go_wp2_with fail
  refine (length_got _ _ _ _ _ P2.out VB.out H2.out).mono ?_
  rintro e w' ⟨rfl, hb⟩
  replace HB := Lib.hid (on_below HB.out hb)
  replace Hl := Lib.hid (Hl.out.below hb)
  replace HN := Lib.hid (HN.out.below hb)
  replace H1 := Lib.hid (H1.out.below hb)
  replace H2 := Lib.hid (H2.out.below hb)
  replace H3 := Lib.hid (H3.out.below hb)
  replace H4 := Lib.hid (H4.out.below hb)
  clear hb
  go_wp2_with fail
  refine (length_got _ _ _ _ _ P3.out VL.out Hl.out).mono ?_
  rintro e w' ⟨rfl, hb⟩
  replace HB := Lib.hid (on_below HB.out hb)
  replace Hl := Lib.hid (Hl.out.below hb)
  replace HN := Lib.hid (HN.out.below hb)
  replace H1 := Lib.hid (H1.out.below hb)
  replace H2 := Lib.hid (H2.out.below hb)
  replace H3 := Lib.hid (H3.out.below hb)
  replace H4 := Lib.hid (H4.out.below hb)
  clear hb
  go_wp2_with fail
  refine (same_got _ _ _ _ l l _ true (by simp) (vldS_iff.1 VL.out).1 (vldS_iff.1 VL.out).1 H4.out Hl.out).mono ?_
  rintro e w' ⟨rfl, hb⟩
  replace HB := Lib.hid (on_below HB.out hb)
  replace Hl := Lib.hid (Hl.out.below hb)
  replace HN := Lib.hid (HN.out.below hb)
  replace H1 := Lib.hid (H1.out.below hb)
  replace H2 := Lib.hid (H2.out.below hb)
  replace H3 := Lib.hid (H3.out.below hb)
  replace H4 := Lib.hid (H4.out.below hb)
  clear hb
  go_wp2_with fail
  go_ret
  exact ⟨rfl, HB.out⟩
set_option maxRecDepth 100000 in
set_option maxHeartbeats 4000000 in
theorem ok2 (lA : Option Addr) (lC : Nat) (l : List Spn) (m : Int) (im : I64 m) (w : World) (ll : Ls w lA lC l) (hf : decide (l.length ≤ 40) = true) (vl : vldS l = true) (hm : decide (m < 1) = false) (hm2 : decide (600000 < m) = false) (A B : List Spn) (n k a : Int) (vb : vldS [(0, m)] = true) (e1 : cmb opA l [(0, m)] = A) (e2 : cmb opD l [(0, m)] = B) (e3 : cmb opA A B = []) (e4 : cmb opO A B = l) (p1 : cntS A = n) (p2 : cntS B = k) (p3 : cntS l = a) (n0 : 0 ≤ n) (n1 : n ≤ 600001) (k0 : 0 ≤ k) (k1 : k ≤ 600001) (q1 : (n + k == a) = true) (q2 : n ≤ m) (vA : vldS A = true) (vB : vldS B = true) (l1 : l.length + [(0, m)].length ≤ 500) (l2 : A.length + B.length ≤ 500) (h0 : 0 < B.length) (h1 : ((B.length : Int) == 0) = false) (h2 : m ≤ (gdS B 0).1) :
    Calls Try.prog 7 #[.slice lA l.length lC, .int .i64 m] w fun e w' => e = .returned (.bool true) ∧ Below w.heap.size w w' := by
  have Hl := Lib.hid ll
  clear ll
  have HF := Lib.hid hf
  clear hf
  have VL := Lib.hid vl
  clear vl
  have VB0 := Lib.hid vb
  clear vb
  have E1 := Lib.hid e1
  clear e1
  have E2 := Lib.hid e2
  clear e2
  have E3 := Lib.hid e3
  clear e3
  have E4 := Lib.hid e4
  clear e4
  have P1 := Lib.hid p1
  clear p1
  have P2 := Lib.hid p2
  clear p2
  have P3 := Lib.hid p3
  clear p3
  have VA := Lib.hid vA
  clear vA
  have VB := Lib.hid vB
  clear vB
  have L1 := Lib.hid l1
  clear l1
  have L2 := Lib.hid l2
  clear l2
  have HB := Lib.hid (Below.refl w.heap.size w)
  go_enter Try.func7, Try.ntmps7
  go_wp2_with fail
  refine (head_any _).mono ?_
  rintro e w' ⟨rfl, hb⟩
  replace HB := Lib.hid (on_below HB.out hb)
  replace Hl := Lib.hid (Hl.out.below hb)
  clear hb
  go_wp2_with fail
  refine (few_b _ _ _ _ HF.out _).mono ?_
  rintro e w' ⟨rfl, rfl⟩
  go_wp2_with fail
  refine (rvalid_b _ _ l _ VL.out _ (ls_len Hl.out) Hl.out.sl).mono ?_
  rintro e w' ⟨rfl, hb⟩
  replace HB := Lib.hid (on_below HB.out hb)
  replace Hl := Lib.hid (Hl.out.below hb)
  clear hb
  go_wp2_with fail
  generalize hV : World.alloc w' (.cells #[.int .i64 0, .int .i64 m] 39) = V at *
  have HN := Lib.hid (show Ls V (some ⟨w'.heap.size, 0, none⟩) 1 [(0, m)] from hV ▸ ls_one w' 0 m _)
  have hb : Below w'.heap.size w' V := hV ▸ below_new _ _
  replace HB := Lib.hid (on_below HB.out hb)
  replace Hl := Lib.hid (Hl.out.below hb)
  clear hb hV
  refine (common_got _ _ _ 1 l [(0, m)] _ _ E1.out VL.out VB0.out L1.out Hl.out HN.out).mono ?_
  rintro e w' ⟨A1, C1, rfl, hl, hb⟩
  replace HB := Lib.hid (on_below HB.out hb)
  replace Hl := Lib.hid (Hl.out.below hb)
  replace HN := Lib.hid (HN.out.below hb)
  have H1 := Lib.hid hl
  clear hb hl
  go_wp2_with fail
  refine (minus_got _ _ _ 1 l [(0, m)] _ _ E2.out VL.out VB0.out L1.out Hl.out HN.out).mono ?_
  rintro e w' ⟨A2, C2, rfl, hl, hb⟩
  replace HB := Lib.hid (on_below HB.out hb)
  replace Hl := Lib.hid (Hl.out.below hb)
  replace HN := Lib.hid (HN.out.below hb)
  replace H1 := Lib.hid (H1.out.below hb)
  have H2 := Lib.hid hl
  clear hb hl
  go_wp2_with fail
  refine (common_got _ _ _ _ _ _ _ _ E3.out VA.out VB.out L2.out H1.out H2.out).mono ?_
  rintro e w' ⟨A3, C3, rfl, hl, hb⟩
  replace HB := Lib.hid (on_below HB.out hb)
  replace Hl := Lib.hid (Hl.out.below hb)
  replace HN := Lib.hid (HN.out.below hb)
  replace H1 := Lib.hid (H1.out.below hb)
  replace H2 := Lib.hid (H2.out.below hb)
  have H3 := Lib.hid hl
  clear hb hl
  go_wp2_with fail
  refine (union_got _ _ _ _ _ _ _ _ E4.out VA.out VB.out L2.out H1.out H2.out).mono ?_
  rintro e w' ⟨A4, C4, rfl, hl, hb⟩
  replace HB := Lib.hid (on_below HB.out hb)
  replace Hl := Lib.hid (Hl.out.below hb)
  replace HN := Lib.hid (HN.out.below hb)
  replace H1 := Lib.hid (H1.out.below hb)
  replace H2 := Lib.hid (H2.out.below hb)
  replace H3 := Lib.hid (H3.out.below hb)
  have H4 := Lib.hid hl
  clear hb hl
  go_wp2_with fail
  refine (length_got _ _ _ _ _ P1.out VA.out H1.out).mono ?_
  rintro e w' ⟨rfl, hb⟩
  replace HB := Lib.hid (on_below HB.out hb)
  replace Hl := Lib.hid (Hl.out.below hb)
  replace HN := Lib.hid (HN.out.below hb)
  replace H1 := Lib.hid (H1.out.below hb)
  replace H2 := Lib.hid (H2.out.below hb)
  replace H3 := Lib.hid (H3.out.below hb)
  replace H4 := Lib.hid (H4.out.below hb)
  clear hb
  go_wp2_with fail
  refine (length_got _ _ _ _ _ P2.out VB.out H2.out).mono ?_
  rintro e w' ⟨rfl, hb⟩
  replace HB := Lib.hid (on_below HB.out hb)
  replace Hl := Lib.hid (Hl.out.below hb)
  replace HN := Lib.hid (HN.out.below hb)
  replace H1 := Lib.hid (H1.out.below hb)
  replace H2 := Lib.hid (H2.out.below hb)
  replace H3 := Lib.hid (H3.out.below hb)
  replace H4 := Lib.hid (H4.out.below hb)
  clear hb
  go_wp2_with fail
  refine (length_got _ _ _ _ _ P3.out VL.out Hl.out).mono ?_
  rintro e w' ⟨rfl, hb⟩
  replace HB := Lib.hid (on_below HB.out hb)
  replace Hl := Lib.hid (Hl.out.below hb)
  replace HN := Lib.hid (HN.out.below hb)
  replace H1 := Lib.hid (H1.out.below hb)
  replace H2 := Lib.hid (H2.out.below hb)
  replace H3 := Lib.hid (H3.out.below hb)
  replace H4 := Lib.hid (H4.out.below hb)
  clear hb
  go_wp2_with fail
  refine (same_got _ _ _ _ l l _ true (by simp) (vldS_iff.1 VL.out).1 (vldS_iff.1 VL.out).1 H4.out Hl.out).mono ?_
  rintro e w' ⟨rfl, hb⟩
  replace HB := Lib.hid (on_below HB.out hb)
  replace Hl := Lib.hid (Hl.out.below hb)
  replace HN := Lib.hid (HN.out.below hb)
  replace H1 := Lib.hid (H1.out.below hb)
  replace H2 := Lib.hid (H2.out.below hb)
  replace H3 := Lib.hid (H3.out.below hb)
  replace H4 := Lib.hid (H4.out.below hb)
  clear hb
  obtain ⟨cb, co, rfl, hcell, -⟩ := H2.out.sl 0 h0
  have hcell' : w'.cell? ⟨cb, co, none⟩ = some (.int .i64 (gdS B 0).1) := hcell
  clear hcell
  generalize (gdS B 0).1 = fi at *
  go_wp2_with fail
  go_ret
  exact ⟨rfl, HB.out⟩
theorem cnt2 {xs : List Spn} (h : vldS xs = true) : 0 ≤ cntS xs ∧ cntS xs ≤ 600001 := by
  have hc := (vldS_iff.1 h).2
  rw [cnt_n (Int.le_refl _) hc]
  have := num_le 600001 (p := hasS xs) (q := fun _ => true) (fun _ _ => rfl)
  have h2 : num 600001 (fun _ => true) = 600001 := by unfold num; simp
  omega
theorem walk (lA : Option Addr) (lC : Nat) (l : List Spn) (m : Int) (im : I64 m) (w : World) (ll : Ls w lA lC l) :
    Calls Try.prog 7 #[.slice lA l.length lC, .int .i64 m] w fun e w' => e = .returned (.bool true) ∧ Below w.heap.size w w' := by
  cases hf : decide (l.length ≤ 40) with
  | false => exact no1 lA lC l m im w ll hf
  | true =>
    cases vl : vldS l with
    | false => exact no2 lA lC l m im w ll hf vl
    | true =>
      by_cases hm : m < 1
      · exact no3 lA lC l m im w ll hf vl hm
      · have hm' : decide (m < 1) = false := by simpa using hm
        by_cases hm2 : 600000 < m
        · exact no4 lA lC l m im w ll hf vl hm' hm2
        · have hm2' : decide (600000 < m) = false := by simpa using hm2
          have h40 : l.length ≤ 40 := of_decide_eq_true hf
          have cl := (vldS_iff.1 vl).2
          have cb : chk (-1) [(0, m)] = true := chk_cons.2 ⟨by show (-1 : Int) < 0; omega, by show (0 : Int) < m; omega, by show m ≤ 600001; omega, rfl⟩
          have vb : vldS [(0, m)] = true := vldS_iff.2 ⟨by simp, cb⟩
          have hb : ∀ x, hasS [(0, m)] x = (decide (0 ≤ x) && decide (x < m)) := fun x => by rw [has_one]
          have l1 : l.length + [(0, m)].length ≤ 500 := by simp; omega
          obtain ⟨a1, a2, a3⟩ := cmb_spec (op := opA) rfl cl cb
          obtain ⟨b1, b2, b3⟩ := cmb_spec (op := opD) rfl cl cb
          have vA := cmb_vld (op := opA) _ _ rfl vl vb l1
          have vB := cmb_vld (op := opD) _ _ rfl vl vb l1
          have l2 : (cmb opA l [(0, m)]).length + (cmb opD l [(0, m)]).length ≤ 500 := by simp at a3 b3; omega
          have e3 : cmb opA (cmb opA l [(0, m)]) (cmb opD l [(0, m)]) = [] := (cmb_is (p := -1) rfl a1 b1 rfl fun x => by
            rw [has_nil, a2, b2]; cases hasS l x <;> cases hasS [(0, m)] x <;> rfl).symm
          have e4 : cmb opO (cmb opA l [(0, m)]) (cmb opD l [(0, m)]) = l := (cmb_is rfl a1 b1 cl fun x => by
            rw [a2, b2]; cases hasS l x <;> cases hasS [(0, m)] x <;> rfl).symm
          have q1 := cnt_minus cl cb
          have q2 : cntS (cmb opA l [(0, m)]) ≤ m := by
            have h := cnt_le a1 cb fun x hx => by
              rw [a2] at hx
              exact (Bool.and_eq_true_iff.1 hx).2
            rw [cnt_cons] at h
            show _ ≤ m
            have e0 : cntS ([] : List Spn) = 0 := rfl
            rw [e0] at h
            simp only at h
            omega
          have hfst : ∀ s r, cmb opD l [(0, m)] = s :: r → m ≤ s.1 := fun s r e => by
            have hc := b1
            rw [e] at hc
            obtain ⟨h1, h2, _, _⟩ := chk_cons.1 hc
            have h3 := b2 s.1
            rw [e, has_cons.2 (.inl ⟨Int.le_refl _, h2⟩)] at h3
            have h4 : (hasS l s.1 && !hasS [(0, m)] s.1) = true := h3.symm
            rw [Bool.and_eq_true, Bool.not_eq_true', hb] at h4
            have h5 := h4.2
            rw [Bool.and_eq_false_iff, decide_eq_false_iff_not, decide_eq_false_iff_not] at h5
            omega
          have hq : (cntS (cmb opA l [(0, m)]) + cntS (cmb opD l [(0, m)]) == cntS l) = true := by rw [beq_iff_eq]; omega
          generalize hA : cmb opA l [(0, m)] = A at *
          generalize hB : cmb opD l [(0, m)] = B at *
          cases B with
          | nil => exact ok1 lA lC l m im w ll hf vl hm' hm2' A [] _ _ _ vb hA hB e3 e4 rfl rfl rfl (cnt2 vA).1 (cnt2 vA).2 (cnt2 vB).1 (cnt2 vB).2 hq q2 vA vB l1 l2
          | cons s r =>
            exact ok2 lA lC l m im w ll hf vl hm' hm2' A (s :: r) _ _ _ vb hA hB e3 e4 rfl rfl rfl (cnt2 vA).1 (cnt2 vA).2 (cnt2 vB).1 (cnt2 vB).2 hq q2 vA vB l1 l2 (by simp) (by simp; omega) (hfst s r rfl)

/-! ### The row -/
open Go.ChangeShapes Go.WideShapes Go.ChangeAt Go.Joins
theorem own : ownKnob Try.prog.godebug = none := by kernel_rfl
noncomputable def laidWorld (os : Os) : World := World.holding Try.prog os ⟨#[], #[], []⟩
theorem laidWorld_met (os : Os) (args : Array Value) : laidMet Try.prog [] ((laidWorld os).forCall (fun _ _ => 0) ⟨#[], args, []⟩).memory :=
  laidMet_of_run' 8 (by kernel_rfl) (by kernel_rfl)

set_option maxRecDepth 100000 in
theorem contract (H : Type) (enc : TypeId × Value → H) (W : World) (base : Nat) (args : Array Value) (ds gs : List (DataW H)) (before : List MemPlace)
    (hval : ∀ (j : Nat) t v, Try.f7.params[j]? = some t → args[j]? = some v → Value.okWide Try.prog W .any base t v)
    (hW : DataW.Whole enc Try.prog Try.f7.params.toList Rows.spanPartsSpec.vars false W args.toList ds gs before) :
    Calls Try.prog 7 args W fun e W' => ∃ v, e = .returned v ∧ Rows.spanPartsSpec.post enc Try.prog Try.f7 false true false false W args v W' := by
  have hW' := hW
  have hold : ∀ q ∈ before, decide (q.block < W.heap.size) = true := fun q hq => by simpa using hW.lt q hq
  obtain ⟨p, q, hA0, hV, rfl, hfz, hnd⟩ := hW
  have hA : DataW.TrodAll enc Try.prog W 0 (fun _ => true) true Try.f7.params.toList args.toList ds p := hA0
  rw [Try.params7] at hA hval
  obtain ⟨v0, vs0, d0, ds0, p0, q0, hargs, rfl, rfl, h0, r0⟩ := trodAll_cons hA
  obtain ⟨v1, vs1, d1, ds1, p1, q1, rfl, rfl, rfl, h1, r1⟩ := trodAll_cons r0
  obtain ⟨rfl, rfl, rfl⟩ := trodAll_nil r1
  obtain rfl : args = #[v0, v1] := Array.toList_inj.1 hargs
  obtain ⟨rfl, rfl⟩ := trodVars_none hV
  obtain ⟨lA, lC, l, rfl, ll, jl, shutl⟩ := open_spans (hval 0 22 v0 rfl rfl) h0
  obtain ⟨m, rfl, rfl, rfl, wm⟩ := open_int Try.underlying3 (hval 1 3 v1 rfl rfl) h1
  clear hA0
  refine (walk lA lC l m (wf_i wm) W ll).mono fun e W' ⟨he, bel⟩ => ?_
  subst he
  exact ⟨_, rfl, _, _, _, [], _, [], hW', trodAll_mk1 (shut_bool Try.underlying4 _), (trodAll_cons_mk (shutl W' (fun b => decide (b < W.heap.size)) bel (fun q hq => hold q (by simp [hq]))) (trodAll_cons_mk (shut_int Try.underlying3 wm) trodAll_mk0)), rfl, bel.frame _, fun h => by cases h⟩

theorem reads (os : Os) {H : Type} (enc : TypeId × Value → H) : ∃ places, DataW.whole enc Try.prog ((laidWorld os).forCall (fun _ _ => 0) ⟨#[], #[.slice none 0 0, .int .i64 0], []⟩).memory Try.f7.params.toList Rows.spanPartsSpec.vars false (#[.slice none 0 0, .int .i64 0] : Array Value).toList 8 = some ([.nil, .lit (.int .i64 0)], [], places) :=
  ⟨[], by kernel_rfl⟩

set_option maxRecDepth 100000 in
theorem lifted (os : Os) (started : os.Started) (H : Type) (enc : TypeId × Value → H) (F : Stop.Interp) :
    ReturnsInHanded {} Try.checked os 7 .any ((OpenSpec.ofChange Rows.spanPartsSpec).preRow enc Try.prog Try.f7 Rows.spanPartsRow.domain false Rows.spanPartsRow.laid) (((OpenSpec.ofChange Rows.spanPartsSpec).at F).post enc Try.prog Try.f7 false true false false) := by
  obtain ⟨places, hx⟩ := reads os enc
  refine returnsInHanded_of_row (C := Try.checked) (s := OpenSpec.ofChange Rows.spanPartsSpec) own started (by kernel_rfl) Try.func7
    (witness_row_atRef (enc := enc) (C := Try.checked) false (laidWorld os) #[.slice none 0 0, .int .i64 0] rfl (by kernel_rfl) (by kernel_rfl) (by kernel_rfl)
      (OpenSpec.preRow_of_cond 8 hx (by kernel_rfl) (fun k hk => by cases hk) (by kernel_rfl) (laidWorld_met os _))) ?_
  intro W base args ds gs before hval hW _ hcond _ hL hsh _
  exact contract H enc W base args ds gs before hval hW

/-- The statement. -/
theorem said : Rows.SpanPartsSaid :=
  OpenClaim.holds_of_cond 7 Try.f7 rfl rfl rfl rfl rfl rfl rfl ⟨rfl, rfl, rfl, rfl, rfl⟩ rfl rfl rfl rfl rfl (by kernel_rfl) Try.func7 (by kernel_rfl)
    (of_decide_eq_true (by kernel_rfl)) (by unfold Func.isWrapper; first | (rw [if_pos (by decide +kernel)]; kernel_rfl) | (rw [if_neg (by decide +kernel)]; exact ⟨rfl, rfl⟩))
    (fun os started H enc _ F => by rw [OpenClaim.pre_eq_preRow]; exact lifted os started H enc F)
end Go.Proofs.Ytgdgpfpihpofdaa.spanParts
