/-
  SpanLaws: Union and Common are commutative and associative, absorb each other, and distribute over each other: for any slices of spans.
  Conditions: none besides the row's.
-/
import Derived.Test.YtgdgpfpihpofdaaSpnX
import Derived.Test.YtgdgpfpihpofdaaSpnW
import Derived.Test.YtgdgpfpihpofdaaRows
import Derived.ProofKit
import Derived.OpenShut
import Derived.Deep.DeepHandedRow
import Derived.Deep.DeepWitnessRowRef
import Derived.MakeChecks
namespace Go.Proofs.Ytgdgpfpihpofdaa.spanLaws
open Go.RowKit Go.Sort
open Go.RowKit (Below)
set_option linter.unusedVariables false
set_option linter.unusedSimpArgs false
theorem pair_b (A B : Option Addr) (C D : Nat) (xs ys : List Spn) (w : World) (b : Bool) (hb : pr xs ys = b) (hl : xs.length ≤ 9223372036854775807) (hl2 : ys.length ≤ 9223372036854775807) (hx : SlS w A xs) (hy : SlS w B ys) :
    Calls Try.prog 27 #[.slice A xs.length C, .slice B ys.length D] w fun e w' => e = .returned (.bool b) ∧ Below w.heap.size w w' := by subst hb; exact pair_any A B C D xs ys w hl hl2 hx hy
theorem ls_len {w : World} {A : Option Addr} {C : Nat} {xs : List Spn} (h : Ls w A C xs) : xs.length ≤ 9223372036854775807 := Nat.le_trans h.cap.1 h.cap.2

set_option maxRecDepth 100000 in
set_option maxHeartbeats 2000000 in
theorem no1 (aA : Option Addr) (aC : Nat) (a : List Spn) (bA : Option Addr) (bC : Nat) (b : List Spn) (cA : Option Addr) (cC : Nat) (c : List Spn) (w : World) (la : Ls w aA aC a) (lb : Ls w bA bC b) (lc : Ls w cA cC c) (hp : pr a b = false) :
    Calls Try.prog 6 #[.slice aA a.length aC, .slice bA b.length bC, .slice cA c.length cC] w fun e w' => e = .returned (.bool true) ∧ Below w.heap.size w w' := by
  have Ha := Lib.hid la
  clear la
  have Hb := Lib.hid lb
  clear lb
  have Hc := Lib.hid lc
  clear lc
  have HP := Lib.hid hp
  clear hp
  have HB := Lib.hid (Below.refl w.heap.size w)
  go_enter Try.func6, Try.ntmps6
  go_wp2_with fail
  refine (head_any _).mono ?_
  rintro e w' ⟨rfl, hb⟩
  replace HB := Lib.hid (on_below HB.out hb)
  replace Ha := Lib.hid (Ha.out.below hb)
  replace Hb := Lib.hid (Hb.out.below hb)
  replace Hc := Lib.hid (Hc.out.below hb)
  clear hb
  go_wp2_with fail
  refine (pair_b _ _ _ _ a b _ _ HP.out (ls_len Ha.out) (ls_len Hb.out) Ha.out.sl Hb.out.sl).mono ?_
  rintro e w' ⟨rfl, hb⟩
  replace HB := Lib.hid (on_below HB.out hb)
  replace Ha := Lib.hid (Ha.out.below hb)
  replace Hb := Lib.hid (Hb.out.below hb)
  replace Hc := Lib.hid (Hc.out.below hb)
  clear hb
  go_wp2_with fail
  go_ret
  exact ⟨rfl, HB.out⟩
set_option maxRecDepth 100000 in
set_option maxHeartbeats 2000000 in
theorem no2 (aA : Option Addr) (aC : Nat) (a : List Spn) (bA : Option Addr) (bC : Nat) (b : List Spn) (cA : Option Addr) (cC : Nat) (c : List Spn) (w : World) (la : Ls w aA aC a) (lb : Ls w bA bC b) (lc : Ls w cA cC c) (hp : pr a b = true) (hf : decide (c.length ≤ 40) = false) :
    Calls Try.prog 6 #[.slice aA a.length aC, .slice bA b.length bC, .slice cA c.length cC] w fun e w' => e = .returned (.bool true) ∧ Below w.heap.size w w' := by
  have Ha := Lib.hid la
  clear la
  have Hb := Lib.hid lb
  clear lb
  have Hc := Lib.hid lc
  clear lc
  have HP := Lib.hid hp
  clear hp
  have HF := Lib.hid hf
  clear hf
  have HB := Lib.hid (Below.refl w.heap.size w)
  go_enter Try.func6, Try.ntmps6
  go_wp2_with fail
  refine (head_any _).mono ?_
  rintro e w' ⟨rfl, hb⟩
  replace HB := Lib.hid (on_below HB.out hb)
  replace Ha := Lib.hid (Ha.out.below hb)
  replace Hb := Lib.hid (Hb.out.below hb)
  replace Hc := Lib.hid (Hc.out.below hb)
  clear hb
  go_wp2_with fail
  refine (pair_b _ _ _ _ a b _ _ HP.out (ls_len Ha.out) (ls_len Hb.out) Ha.out.sl Hb.out.sl).mono ?_
  rintro e w' ⟨rfl, hb⟩
  replace HB := Lib.hid (on_below HB.out hb)
  replace Ha := Lib.hid (Ha.out.below hb)
  replace Hb := Lib.hid (Hb.out.below hb)
  replace Hc := Lib.hid (Hc.out.below hb)
  clear hb
  go_wp2_with fail
  refine (few_b _ _ _ _ HF.out _).mono ?_
  rintro e w' ⟨rfl, rfl⟩
  go_wp2_with fail
  go_ret
  exact ⟨rfl, HB.out⟩
set_option maxRecDepth 100000 in
set_option maxHeartbeats 2000000 in
theorem no3 (aA : Option Addr) (aC : Nat) (a : List Spn) (bA : Option Addr) (bC : Nat) (b : List Spn) (cA : Option Addr) (cC : Nat) (c : List Spn) (w : World) (la : Ls w aA aC a) (lb : Ls w bA bC b) (lc : Ls w cA cC c) (hp : pr a b = true) (hf : decide (c.length ≤ 40) = true) (vc : vldS c = false) :
    Calls Try.prog 6 #[.slice aA a.length aC, .slice bA b.length bC, .slice cA c.length cC] w fun e w' => e = .returned (.bool true) ∧ Below w.heap.size w w' := by
  have Ha := Lib.hid la
  clear la
  have Hb := Lib.hid lb
  clear lb
  have Hc := Lib.hid lc
  clear lc
  have HP := Lib.hid hp
  clear hp
  have HF := Lib.hid hf
  clear hf
  have VC := Lib.hid vc
  clear vc
  have HB := Lib.hid (Below.refl w.heap.size w)
  go_enter Try.func6, Try.ntmps6
  go_wp2_with fail
  refine (head_any _).mono ?_
  rintro e w' ⟨rfl, hb⟩
  replace HB := Lib.hid (on_below HB.out hb)
  replace Ha := Lib.hid (Ha.out.below hb)
  replace Hb := Lib.hid (Hb.out.below hb)
  replace Hc := Lib.hid (Hc.out.below hb)
  clear hb
  go_wp2_with fail
  refine (pair_b _ _ _ _ a b _ _ HP.out (ls_len Ha.out) (ls_len Hb.out) Ha.out.sl Hb.out.sl).mono ?_
  rintro e w' ⟨rfl, hb⟩
  replace HB := Lib.hid (on_below HB.out hb)
  replace Ha := Lib.hid (Ha.out.below hb)
  replace Hb := Lib.hid (Hb.out.below hb)
  replace Hc := Lib.hid (Hc.out.below hb)
  clear hb
  go_wp2_with fail
  refine (few_b _ _ _ _ HF.out _).mono ?_
  rintro e w' ⟨rfl, rfl⟩
  go_wp2_with fail
  refine (rvalid_b _ _ c _ VC.out _ (ls_len Hc.out) Hc.out.sl).mono ?_
  rintro e w' ⟨rfl, hb⟩
  replace HB := Lib.hid (on_below HB.out hb)
  replace Ha := Lib.hid (Ha.out.below hb)
  replace Hb := Lib.hid (Hb.out.below hb)
  replace Hc := Lib.hid (Hc.out.below hb)
  clear hb
  go_wp2_with fail
  go_ret
  exact ⟨rfl, HB.out⟩
set_option maxRecDepth 100000 in
set_option maxHeartbeats 8000000 in
theorem ok (aA : Option Addr) (aC : Nat) (a : List Spn) (bA : Option Addr) (bC : Nat) (b : List Spn) (cA : Option Addr) (cC : Nat) (c : List Spn) (w : World) (la : Ls w aA aC a) (lb : Ls w bA bC b) (lc : Ls w cA cC c) (hp : pr a b = true) (hf : decide (c.length ≤ 40) = true) (va : vldS a = true) (vb : vldS b = true) (vc : vldS c = true) (AB BC X P R Z AC D : List Spn) (e0 : cmb opO a b = AB) (e1 : cmb opO b a = AB) (e2 : cmb opO b c = BC) (e3 : cmb opO AB c = X) (e4 : cmb opO a BC = X) (e5 : cmb opA a b = P) (e6 : cmb opA b a = P) (e7 : cmb opA b c = R) (e8 : cmb opA P c = Z) (e9 : cmb opA a R = Z) (e10 : cmb opA a AB = a) (e11 : cmb opO a P = a) (e12 : cmb opA a c = AC) (e13 : cmb opA a BC = D) (e14 : cmb opO P AC = D) (vAB : vldS AB = true) (vBC : vldS BC = true) (vP : vldS P = true) (vR : vldS R = true) (vAC : vldS AC = true) (xAB : AB.length ≤ 1000) (xX : X.length ≤ 1000) (xP : P.length ≤ 1000) (xZ : Z.length ≤ 1000) (xD : D.length ≤ 1000) (l0 : a.length + b.length ≤ 500) (l1 : b.length + a.length ≤ 500) (l2 : b.length + c.length ≤ 500) (l3 : AB.length + c.length ≤ 500) (l4 : a.length + BC.length ≤ 500) (l5 : a.length + b.length ≤ 500) (l6 : b.length + a.length ≤ 500) (l7 : b.length + c.length ≤ 500) (l8 : P.length + c.length ≤ 500) (l9 : a.length + R.length ≤ 500) (l10 : a.length + AB.length ≤ 500) (l11 : a.length + P.length ≤ 500) (l12 : a.length + c.length ≤ 500) (l13 : a.length + BC.length ≤ 500) (l14 : P.length + AC.length ≤ 500) :
    Calls Try.prog 6 #[.slice aA a.length aC, .slice bA b.length bC, .slice cA c.length cC] w fun e w' => e = .returned (.bool true) ∧ Below w.heap.size w w' := by
  have Ha := Lib.hid la
  clear la
  have Hb := Lib.hid lb
  clear lb
  have Hc := Lib.hid lc
  clear lc
  have HP := Lib.hid hp
  clear hp
  have HF := Lib.hid hf
  clear hf
  have Va := Lib.hid va
  clear va
  have Vb := Lib.hid vb
  clear vb
  have Vc := Lib.hid vc
  clear vc
  have E0 := Lib.hid e0
  clear e0
  have E1 := Lib.hid e1
  clear e1
  have E2 := Lib.hid e2
  clear e2
  have E3 := Lib.hid e3
  clear e3
  have E4 := Lib.hid e4
  clear e4
  have E5 := Lib.hid e5
  clear e5
  have E6 := Lib.hid e6
  clear e6
  have E7 := Lib.hid e7
  clear e7
  have E8 := Lib.hid e8
  clear e8
  have E9 := Lib.hid e9
  clear e9
  have E10 := Lib.hid e10
  clear e10
  have E11 := Lib.hid e11
  clear e11
  have E12 := Lib.hid e12
  clear e12
  have E13 := Lib.hid e13
  clear e13
  have E14 := Lib.hid e14
  clear e14
  have VAB := Lib.hid vAB
  clear vAB
  have VBC := Lib.hid vBC
  clear vBC
  have VP := Lib.hid vP
  clear vP
  have VR := Lib.hid vR
  clear vR
  have VAC := Lib.hid vAC
  clear vAC
  have Q0 := Lib.hid l0
  clear l0
  have Q1 := Lib.hid l1
  clear l1
  have Q2 := Lib.hid l2
  clear l2
  have Q3 := Lib.hid l3
  clear l3
  have Q4 := Lib.hid l4
  clear l4
  have Q5 := Lib.hid l5
  clear l5
  have Q6 := Lib.hid l6
  clear l6
  have Q7 := Lib.hid l7
  clear l7
  have Q8 := Lib.hid l8
  clear l8
  have Q9 := Lib.hid l9
  clear l9
  have Q10 := Lib.hid l10
  clear l10
  have Q11 := Lib.hid l11
  clear l11
  have Q12 := Lib.hid l12
  clear l12
  have Q13 := Lib.hid l13
  clear l13
  have Q14 := Lib.hid l14
  clear l14
  have XLAB := Lib.hid xAB
  clear xAB
  have XLX := Lib.hid xX
  clear xX
  have XLP := Lib.hid xP
  clear xP
  have XLZ := Lib.hid xZ
  clear xZ
  have XLD := Lib.hid xD
  clear xD
  have HB := Lib.hid (Below.refl w.heap.size w)
  go_enter Try.func6, Try.ntmps6
  go_wp2_with fail
  refine (head_any _).mono ?_
  rintro e w' ⟨rfl, hb⟩
  replace HB := Lib.hid (on_below HB.out hb)
  replace Ha := Lib.hid (Ha.out.below hb)
  replace Hb := Lib.hid (Hb.out.below hb)
  replace Hc := Lib.hid (Hc.out.below hb)
  clear hb
  go_wp2_with fail
  refine (pair_b _ _ _ _ a b _ _ HP.out (ls_len Ha.out) (ls_len Hb.out) Ha.out.sl Hb.out.sl).mono ?_
  rintro e w' ⟨rfl, hb⟩
  replace HB := Lib.hid (on_below HB.out hb)
  replace Ha := Lib.hid (Ha.out.below hb)
  replace Hb := Lib.hid (Hb.out.below hb)
  replace Hc := Lib.hid (Hc.out.below hb)
  clear hb
  go_wp2_with fail
  refine (few_b _ _ _ _ HF.out _).mono ?_
  rintro e w' ⟨rfl, rfl⟩
  go_wp2_with fail
  refine (rvalid_b _ _ c _ Vc.out _ (ls_len Hc.out) Hc.out.sl).mono ?_
  rintro e w' ⟨rfl, hb⟩
  replace HB := Lib.hid (on_below HB.out hb)
  replace Ha := Lib.hid (Ha.out.below hb)
  replace Hb := Lib.hid (Hb.out.below hb)
  replace Hc := Lib.hid (Hc.out.below hb)
  clear hb
  go_wp2_with fail
  refine (union_got _ _ _ _ a b _ _ E0.out Va.out Vb.out Q0.out Ha.out Hb.out).mono ?_
  rintro e w' ⟨A1, C1, rfl, hl, hb⟩
  replace HB := Lib.hid (on_below HB.out hb)
  replace Ha := Lib.hid (Ha.out.below hb)
  replace Hb := Lib.hid (Hb.out.below hb)
  replace Hc := Lib.hid (Hc.out.below hb)
  have H1 := Lib.hid hl
  clear hb hl
  go_wp2_with fail
  refine (union_got _ _ _ _ b a _ _ E1.out Vb.out Va.out Q1.out Hb.out Ha.out).mono ?_
  rintro e w' ⟨A2, C2, rfl, hl, hb⟩
  replace HB := Lib.hid (on_below HB.out hb)
  replace Ha := Lib.hid (Ha.out.below hb)
  replace Hb := Lib.hid (Hb.out.below hb)
  replace Hc := Lib.hid (Hc.out.below hb)
  replace H1 := Lib.hid (H1.out.below hb)
  have H2 := Lib.hid hl
  clear hb hl
  go_wp2_with fail
  refine (union_got _ _ _ _ b c _ _ E2.out Vb.out Vc.out Q2.out Hb.out Hc.out).mono ?_
  rintro e w' ⟨A3, C3, rfl, hl, hb⟩
  replace HB := Lib.hid (on_below HB.out hb)
  replace Ha := Lib.hid (Ha.out.below hb)
  replace Hb := Lib.hid (Hb.out.below hb)
  replace Hc := Lib.hid (Hc.out.below hb)
  replace H1 := Lib.hid (H1.out.below hb)
  replace H2 := Lib.hid (H2.out.below hb)
  have H3 := Lib.hid hl
  clear hb hl
  go_wp2_with fail
  refine (union_got _ _ _ _ AB c _ _ E3.out VAB.out Vc.out Q3.out H1.out Hc.out).mono ?_
  rintro e w' ⟨A4, C4, rfl, hl, hb⟩
  replace HB := Lib.hid (on_below HB.out hb)
  replace Ha := Lib.hid (Ha.out.below hb)
  replace Hb := Lib.hid (Hb.out.below hb)
  replace Hc := Lib.hid (Hc.out.below hb)
  replace H1 := Lib.hid (H1.out.below hb)
  replace H2 := Lib.hid (H2.out.below hb)
  replace H3 := Lib.hid (H3.out.below hb)
  have H4 := Lib.hid hl
  clear hb hl
  go_wp2_with fail
  refine (union_got _ _ _ _ a BC _ _ E4.out Va.out VBC.out Q4.out Ha.out H3.out).mono ?_
  rintro e w' ⟨A5, C5, rfl, hl, hb⟩
  replace HB := Lib.hid (on_below HB.out hb)
  replace Ha := Lib.hid (Ha.out.below hb)
  replace Hb := Lib.hid (Hb.out.below hb)
  replace Hc := Lib.hid (Hc.out.below hb)
  replace H1 := Lib.hid (H1.out.below hb)
  replace H2 := Lib.hid (H2.out.below hb)
  replace H3 := Lib.hid (H3.out.below hb)
  replace H4 := Lib.hid (H4.out.below hb)
  have H5 := Lib.hid hl
  clear hb hl
  go_wp2_with fail
  refine (same_got _ _ _ _ AB AB _ true (by simp) XLAB.out XLAB.out H1.out H2.out).mono ?_
  rintro e w' ⟨rfl, hb⟩
  replace HB := Lib.hid (on_below HB.out hb)
  replace Ha := Lib.hid (Ha.out.below hb)
  replace Hb := Lib.hid (Hb.out.below hb)
  replace Hc := Lib.hid (Hc.out.below hb)
  replace H1 := Lib.hid (H1.out.below hb)
  replace H2 := Lib.hid (H2.out.below hb)
  replace H3 := Lib.hid (H3.out.below hb)
  replace H4 := Lib.hid (H4.out.below hb)
  replace H5 := Lib.hid (H5.out.below hb)
  clear hb
  go_wp2_with fail
  refine (same_got _ _ _ _ X X _ true (by simp) XLX.out XLX.out H4.out H5.out).mono ?_
  rintro e w' ⟨rfl, hb⟩
  replace HB := Lib.hid (on_below HB.out hb)
  replace Ha := Lib.hid (Ha.out.below hb)
  replace Hb := Lib.hid (Hb.out.below hb)
  replace Hc := Lib.hid (Hc.out.below hb)
  replace H1 := Lib.hid (H1.out.below hb)
  replace H2 := Lib.hid (H2.out.below hb)
  replace H3 := Lib.hid (H3.out.below hb)
  replace H4 := Lib.hid (H4.out.below hb)
  replace H5 := Lib.hid (H5.out.below hb)
  clear hb
  go_wp2_with fail
  clear H2 H4 H5
  refine (common_got _ _ _ _ a b _ _ E5.out Va.out Vb.out Q5.out Ha.out Hb.out).mono ?_
  rintro e w' ⟨A6, C6, rfl, hl, hb⟩
  replace HB := Lib.hid (on_below HB.out hb)
  replace Ha := Lib.hid (Ha.out.below hb)
  replace Hb := Lib.hid (Hb.out.below hb)
  replace Hc := Lib.hid (Hc.out.below hb)
  replace H1 := Lib.hid (H1.out.below hb)
  replace H3 := Lib.hid (H3.out.below hb)
  have H6 := Lib.hid hl
  clear hb hl
  go_wp2_with fail
  refine (common_got _ _ _ _ b a _ _ E6.out Vb.out Va.out Q6.out Hb.out Ha.out).mono ?_
  rintro e w' ⟨A7, C7, rfl, hl, hb⟩
  replace HB := Lib.hid (on_below HB.out hb)
  replace Ha := Lib.hid (Ha.out.below hb)
  replace Hb := Lib.hid (Hb.out.below hb)
  replace Hc := Lib.hid (Hc.out.below hb)
  replace H1 := Lib.hid (H1.out.below hb)
  replace H3 := Lib.hid (H3.out.below hb)
  replace H6 := Lib.hid (H6.out.below hb)
  have H7 := Lib.hid hl
  clear hb hl
  go_wp2_with fail
  refine (common_got _ _ _ _ b c _ _ E7.out Vb.out Vc.out Q7.out Hb.out Hc.out).mono ?_
  rintro e w' ⟨A8, C8, rfl, hl, hb⟩
  replace HB := Lib.hid (on_below HB.out hb)
  replace Ha := Lib.hid (Ha.out.below hb)
  replace Hb := Lib.hid (Hb.out.below hb)
  replace Hc := Lib.hid (Hc.out.below hb)
  replace H1 := Lib.hid (H1.out.below hb)
  replace H3 := Lib.hid (H3.out.below hb)
  replace H6 := Lib.hid (H6.out.below hb)
  replace H7 := Lib.hid (H7.out.below hb)
  have H8 := Lib.hid hl
  clear hb hl
  go_wp2_with fail
  refine (common_got _ _ _ _ P c _ _ E8.out VP.out Vc.out Q8.out H6.out Hc.out).mono ?_
  rintro e w' ⟨A9, C9, rfl, hl, hb⟩
  replace HB := Lib.hid (on_below HB.out hb)
  replace Ha := Lib.hid (Ha.out.below hb)
  replace Hb := Lib.hid (Hb.out.below hb)
  replace Hc := Lib.hid (Hc.out.below hb)
  replace H1 := Lib.hid (H1.out.below hb)
  replace H3 := Lib.hid (H3.out.below hb)
  replace H6 := Lib.hid (H6.out.below hb)
  replace H7 := Lib.hid (H7.out.below hb)
  replace H8 := Lib.hid (H8.out.below hb)
  have H9 := Lib.hid hl
  clear hb hl
  go_wp2_with fail
  refine (common_got _ _ _ _ a R _ _ E9.out Va.out VR.out Q9.out Ha.out H8.out).mono ?_
  rintro e w' ⟨A10, C10, rfl, hl, hb⟩
  replace HB := Lib.hid (on_below HB.out hb)
  replace Ha := Lib.hid (Ha.out.below hb)
  replace Hb := Lib.hid (Hb.out.below hb)
  replace Hc := Lib.hid (Hc.out.below hb)
  replace H1 := Lib.hid (H1.out.below hb)
  replace H3 := Lib.hid (H3.out.below hb)
  replace H6 := Lib.hid (H6.out.below hb)
  replace H7 := Lib.hid (H7.out.below hb)
  replace H8 := Lib.hid (H8.out.below hb)
  replace H9 := Lib.hid (H9.out.below hb)
  have H10 := Lib.hid hl
  clear hb hl
  go_wp2_with fail
  refine (same_got _ _ _ _ P P _ true (by simp) XLP.out XLP.out H6.out H7.out).mono ?_
  rintro e w' ⟨rfl, hb⟩
  replace HB := Lib.hid (on_below HB.out hb)
  replace Ha := Lib.hid (Ha.out.below hb)
  replace Hb := Lib.hid (Hb.out.below hb)
  replace Hc := Lib.hid (Hc.out.below hb)
  replace H1 := Lib.hid (H1.out.below hb)
  replace H3 := Lib.hid (H3.out.below hb)
  replace H6 := Lib.hid (H6.out.below hb)
  replace H7 := Lib.hid (H7.out.below hb)
  replace H8 := Lib.hid (H8.out.below hb)
  replace H9 := Lib.hid (H9.out.below hb)
  replace H10 := Lib.hid (H10.out.below hb)
  clear hb
  go_wp2_with fail
  refine (same_got _ _ _ _ Z Z _ true (by simp) XLZ.out XLZ.out H9.out H10.out).mono ?_
  rintro e w' ⟨rfl, hb⟩
  replace HB := Lib.hid (on_below HB.out hb)
  replace Ha := Lib.hid (Ha.out.below hb)
  replace Hb := Lib.hid (Hb.out.below hb)
  replace Hc := Lib.hid (Hc.out.below hb)
  replace H1 := Lib.hid (H1.out.below hb)
  replace H3 := Lib.hid (H3.out.below hb)
  replace H6 := Lib.hid (H6.out.below hb)
  replace H7 := Lib.hid (H7.out.below hb)
  replace H8 := Lib.hid (H8.out.below hb)
  replace H9 := Lib.hid (H9.out.below hb)
  replace H10 := Lib.hid (H10.out.below hb)
  clear hb
  go_wp2_with fail
  clear H7 H8 H9 H10
  refine (common_got _ _ _ _ a AB _ _ E10.out Va.out VAB.out Q10.out Ha.out H1.out).mono ?_
  rintro e w' ⟨A11, C11, rfl, hl, hb⟩
  replace HB := Lib.hid (on_below HB.out hb)
  replace Ha := Lib.hid (Ha.out.below hb)
  replace Hb := Lib.hid (Hb.out.below hb)
  replace Hc := Lib.hid (Hc.out.below hb)
  replace H1 := Lib.hid (H1.out.below hb)
  replace H3 := Lib.hid (H3.out.below hb)
  replace H6 := Lib.hid (H6.out.below hb)
  have H11 := Lib.hid hl
  clear hb hl
  go_wp2_with fail
  refine (union_got _ _ _ _ a P _ _ E11.out Va.out VP.out Q11.out Ha.out H6.out).mono ?_
  rintro e w' ⟨A12, C12, rfl, hl, hb⟩
  replace HB := Lib.hid (on_below HB.out hb)
  replace Ha := Lib.hid (Ha.out.below hb)
  replace Hb := Lib.hid (Hb.out.below hb)
  replace Hc := Lib.hid (Hc.out.below hb)
  replace H1 := Lib.hid (H1.out.below hb)
  replace H3 := Lib.hid (H3.out.below hb)
  replace H6 := Lib.hid (H6.out.below hb)
  replace H11 := Lib.hid (H11.out.below hb)
  have H12 := Lib.hid hl
  clear hb hl
  go_wp2_with fail
  refine (same_got _ _ _ _ a a _ true (by simp) (vldS_iff.1 Va.out).1 (vldS_iff.1 Va.out).1 H11.out Ha.out).mono ?_
  rintro e w' ⟨rfl, hb⟩
  replace HB := Lib.hid (on_below HB.out hb)
  replace Ha := Lib.hid (Ha.out.below hb)
  replace Hb := Lib.hid (Hb.out.below hb)
  replace Hc := Lib.hid (Hc.out.below hb)
  replace H1 := Lib.hid (H1.out.below hb)
  replace H3 := Lib.hid (H3.out.below hb)
  replace H6 := Lib.hid (H6.out.below hb)
  replace H11 := Lib.hid (H11.out.below hb)
  replace H12 := Lib.hid (H12.out.below hb)
  clear hb
  go_wp2_with fail
  refine (same_got _ _ _ _ a a _ true (by simp) (vldS_iff.1 Va.out).1 (vldS_iff.1 Va.out).1 H12.out Ha.out).mono ?_
  rintro e w' ⟨rfl, hb⟩
  replace HB := Lib.hid (on_below HB.out hb)
  replace Ha := Lib.hid (Ha.out.below hb)
  replace Hb := Lib.hid (Hb.out.below hb)
  replace Hc := Lib.hid (Hc.out.below hb)
  replace H1 := Lib.hid (H1.out.below hb)
  replace H3 := Lib.hid (H3.out.below hb)
  replace H6 := Lib.hid (H6.out.below hb)
  replace H11 := Lib.hid (H11.out.below hb)
  replace H12 := Lib.hid (H12.out.below hb)
  clear hb
  go_wp2_with fail
  clear H11 H12
  refine (common_got _ _ _ _ a c _ _ E12.out Va.out Vc.out Q12.out Ha.out Hc.out).mono ?_
  rintro e w' ⟨A13, C13, rfl, hl, hb⟩
  replace HB := Lib.hid (on_below HB.out hb)
  replace Ha := Lib.hid (Ha.out.below hb)
  replace Hb := Lib.hid (Hb.out.below hb)
  replace Hc := Lib.hid (Hc.out.below hb)
  replace H1 := Lib.hid (H1.out.below hb)
  replace H3 := Lib.hid (H3.out.below hb)
  replace H6 := Lib.hid (H6.out.below hb)
  have H13 := Lib.hid hl
  clear hb hl
  go_wp2_with fail
  refine (common_got _ _ _ _ a BC _ _ E13.out Va.out VBC.out Q13.out Ha.out H3.out).mono ?_
  rintro e w' ⟨A14, C14, rfl, hl, hb⟩
  replace HB := Lib.hid (on_below HB.out hb)
  replace Ha := Lib.hid (Ha.out.below hb)
  replace Hb := Lib.hid (Hb.out.below hb)
  replace Hc := Lib.hid (Hc.out.below hb)
  replace H1 := Lib.hid (H1.out.below hb)
  replace H3 := Lib.hid (H3.out.below hb)
  replace H6 := Lib.hid (H6.out.below hb)
  replace H13 := Lib.hid (H13.out.below hb)
  have H14 := Lib.hid hl
  clear hb hl
  go_wp2_with fail
  refine (union_got _ _ _ _ P AC _ _ E14.out VP.out VAC.out Q14.out H6.out H13.out).mono ?_
  rintro e w' ⟨A15, C15, rfl, hl, hb⟩
  replace HB := Lib.hid (on_below HB.out hb)
  replace Ha := Lib.hid (Ha.out.below hb)
  replace Hb := Lib.hid (Hb.out.below hb)
  replace Hc := Lib.hid (Hc.out.below hb)
  replace H1 := Lib.hid (H1.out.below hb)
  replace H3 := Lib.hid (H3.out.below hb)
  replace H6 := Lib.hid (H6.out.below hb)
  replace H13 := Lib.hid (H13.out.below hb)
  replace H14 := Lib.hid (H14.out.below hb)
  have H15 := Lib.hid hl
  clear hb hl
  go_wp2_with fail
  refine (same_got _ _ _ _ D D _ true (by simp) XLD.out XLD.out H14.out H15.out).mono ?_
  rintro e w' ⟨rfl, hb⟩
  replace HB := Lib.hid (on_below HB.out hb)
  replace Ha := Lib.hid (Ha.out.below hb)
  replace Hb := Lib.hid (Hb.out.below hb)
  replace Hc := Lib.hid (Hc.out.below hb)
  replace H1 := Lib.hid (H1.out.below hb)
  replace H3 := Lib.hid (H3.out.below hb)
  replace H6 := Lib.hid (H6.out.below hb)
  replace H13 := Lib.hid (H13.out.below hb)
  replace H14 := Lib.hid (H14.out.below hb)
  replace H15 := Lib.hid (H15.out.below hb)
  clear hb
  go_wp2_with fail
  go_ret
  exact ⟨rfl, HB.out⟩
theorem cl {op : Bool → Bool → Bool} {xs ys : List Spn} (h0 : op false false = false) (vx : vldS xs = true) (vy : vldS ys = true) : (cmb op xs ys).length ≤ 2 * (xs.length + ys.length) := (cmb_spec h0 (vldS_iff.1 vx).2 (vldS_iff.1 vy).2).2.2
theorem walk (aA : Option Addr) (aC : Nat) (a : List Spn) (bA : Option Addr) (bC : Nat) (b : List Spn) (cA : Option Addr) (cC : Nat) (c : List Spn) (w : World) (la : Ls w aA aC a) (lb : Ls w bA bC b) (lc : Ls w cA cC c) :
    Calls Try.prog 6 #[.slice aA a.length aC, .slice bA b.length bC, .slice cA c.length cC] w fun e w' => e = .returned (.bool true) ∧ Below w.heap.size w w' := by
  cases hp : pr a b with
  | false => exact no1 aA aC a bA bC b cA cC c w la lb lc hp
  | true =>
    cases hf : decide (c.length ≤ 40) with
    | false => exact no2 aA aC a bA bC b cA cC c w la lb lc hp hf
    | true =>
      cases vc : vldS c with
      | false => exact no3 aA aC a bA bC b cA cC c w la lb lc hp hf vc
      | true =>
        obtain ⟨h1, h2, va, vb⟩ := pr_iff.1 hp
        have h3 : c.length ≤ 40 := of_decide_eq_true hf
        have ca := (vldS_iff.1 va).2
        have cb := (vldS_iff.1 vb).2
        have cc := (vldS_iff.1 vc).2
        have kAB := cl (op := opO) rfl va vb
        have kBC := cl (op := opO) rfl vb vc
        have kP := cl (op := opA) rfl va vb
        have kR := cl (op := opA) rfl vb vc
        have kAC := cl (op := opA) rfl va vc
        have vAB := cmb_vld (op := opO) a b rfl va vb (by omega)
        have vBC := cmb_vld (op := opO) b c rfl vb vc (by omega)
        have vP := cmb_vld (op := opA) a b rfl va vb (by omega)
        have vR := cmb_vld (op := opA) b c rfl vb vc (by omega)
        have vAC := cmb_vld (op := opA) a c rfl va vc (by omega)
        have kX := cl (op := opO) rfl vAB vc
        have kZ := cl (op := opA) rfl vP vc
        have kD := cl (op := opA) rfl va vBC
        exact ok aA aC a bA bC b cA cC c w la lb lc hp hf va vb vc _ _ _ _ _ _ _ _ rfl (or_comm' cb ca) rfl rfl (or_assoc' ca cb cc).symm rfl (and_comm' cb ca) rfl rfl (and_assoc' ca cb cc).symm (absorb1 ca cb) (absorb2 ca cb) rfl rfl (distrib' ca cb cc).symm
          vAB vBC vP vR vAC (by omega) (by omega) (by omega) (by omega) (by omega) (by omega) (by omega) (by omega) (by omega) (by omega) (by omega) (by omega) (by omega) (by omega) (by omega) (by omega) (by omega) (by omega) (by omega) (by omega)

/-! ### The row -/
open Go.ChangeShapes Go.WideShapes Go.ChangeAt Go.Joins
theorem own : ownKnob Try.prog.godebug = none := by kernel_rfl
noncomputable def laidWorld (os : Os) : World := World.holding Try.prog os ⟨#[], #[], []⟩
theorem laidWorld_met (os : Os) (args : Array Value) : laidMet Try.prog [] ((laidWorld os).forCall (fun _ _ => 0) ⟨#[], args, []⟩).memory :=
  laidMet_of_run' 8 (by kernel_rfl) (by kernel_rfl)

set_option maxRecDepth 100000 in
theorem contract (H : Type) (enc : TypeId × Value → H) (W : World) (base : Nat) (args : Array Value) (ds gs : List (DataW H)) (before : List MemPlace)
    (hval : ∀ (j : Nat) t v, Try.f6.params[j]? = some t → args[j]? = some v → Value.okWide Try.prog W .any base t v)
    (hW : DataW.Whole enc Try.prog Try.f6.params.toList Rows.spanLawsSpec.vars false W args.toList ds gs before) :
    Calls Try.prog 6 args W fun e W' => ∃ v, e = .returned v ∧ Rows.spanLawsSpec.post enc Try.prog Try.f6 false true false false W args v W' := by
  have hW' := hW
  have hold : ∀ q ∈ before, decide (q.block < W.heap.size) = true := fun q hq => by simpa using hW.lt q hq
  obtain ⟨p, q, hA0, hV, rfl, hfz, hnd⟩ := hW
  have hA : DataW.TrodAll enc Try.prog W 0 (fun _ => true) true Try.f6.params.toList args.toList ds p := hA0
  rw [Try.params6] at hA hval
  obtain ⟨v0, vs0, d0, ds0, p0, q0, hargs, rfl, rfl, h0, r0⟩ := trodAll_cons hA
  obtain ⟨v1, vs1, d1, ds1, p1, q1, rfl, rfl, rfl, h1, r1⟩ := trodAll_cons r0
  obtain ⟨v2, vs2, d2, ds2, p2, q2, rfl, rfl, rfl, h2, r2⟩ := trodAll_cons r1
  obtain ⟨rfl, rfl, rfl⟩ := trodAll_nil r2
  obtain rfl : args = #[v0, v1, v2] := Array.toList_inj.1 hargs
  obtain ⟨rfl, rfl⟩ := trodVars_none hV
  obtain ⟨aA, aC, a, rfl, la, ja, shuta⟩ := open_spans (hval 0 22 v0 rfl rfl) h0
  obtain ⟨bA, bC, b, rfl, lb, jb, shutb⟩ := open_spans (hval 1 22 v1 rfl rfl) h1
  obtain ⟨cA, cC, c, rfl, lc, jc, shutc⟩ := open_spans (hval 2 22 v2 rfl rfl) h2
  clear hA0
  refine (walk aA aC a bA bC b cA cC c W la lb lc).mono fun e W' ⟨he, bel⟩ => ?_
  subst he
  exact ⟨_, rfl, _, _, _, [], _, [], hW', trodAll_mk1 (shut_bool Try.underlying4 _), (trodAll_cons_mk (shuta W' (fun b => decide (b < W.heap.size)) bel (fun q hq => hold q (by simp [hq]))) (trodAll_cons_mk (shutb W' (fun b => decide (b < W.heap.size)) bel (fun q hq => hold q (by simp [hq]))) (trodAll_cons_mk (shutc W' (fun b => decide (b < W.heap.size)) bel (fun q hq => hold q (by simp [hq]))) trodAll_mk0))), rfl, bel.frame _, fun h => by cases h⟩

theorem reads (os : Os) {H : Type} (enc : TypeId × Value → H) : ∃ places, DataW.whole enc Try.prog ((laidWorld os).forCall (fun _ _ => 0) ⟨#[], #[.slice none 0 0, .slice none 0 0, .slice none 0 0], []⟩).memory Try.f6.params.toList Rows.spanLawsSpec.vars false (#[.slice none 0 0, .slice none 0 0, .slice none 0 0] : Array Value).toList 8 = some ([.nil, .nil, .nil], [], places) :=
  ⟨[], by kernel_rfl⟩

set_option maxRecDepth 100000 in
theorem lifted (os : Os) (started : os.Started) (H : Type) (enc : TypeId × Value → H) (F : Stop.Interp) :
    ReturnsInHanded {} Try.checked os 6 .any ((OpenSpec.ofChange Rows.spanLawsSpec).preRow enc Try.prog Try.f6 Rows.spanLawsRow.domain false Rows.spanLawsRow.laid) (((OpenSpec.ofChange Rows.spanLawsSpec).at F).post enc Try.prog Try.f6 false true false false) := by
  obtain ⟨places, hx⟩ := reads os enc
  refine returnsInHanded_of_row (C := Try.checked) (s := OpenSpec.ofChange Rows.spanLawsSpec) own started (by kernel_rfl) Try.func6
    (witness_row_atRef (enc := enc) (C := Try.checked) false (laidWorld os) #[.slice none 0 0, .slice none 0 0, .slice none 0 0] rfl (by kernel_rfl) (by kernel_rfl) (by kernel_rfl)
      (OpenSpec.preRow_of_cond 8 hx (by kernel_rfl) (fun k hk => by cases hk) (by kernel_rfl) (laidWorld_met os _))) ?_
  intro W base args ds gs before hval hW _ hcond _ hL hsh _
  exact contract H enc W base args ds gs before hval hW

/-- The statement. -/
theorem said : Rows.SpanLawsSaid :=
  OpenClaim.holds_of_cond 6 Try.f6 rfl rfl rfl rfl rfl rfl rfl ⟨rfl, rfl, rfl, rfl, rfl⟩ rfl rfl rfl rfl rfl (by kernel_rfl) Try.func6 (by kernel_rfl)
    (of_decide_eq_true (by kernel_rfl)) (by unfold Func.isWrapper; first | (rw [if_pos (by decide +kernel)]; kernel_rfl) | (rw [if_neg (by decide +kernel)]; exact ⟨rfl, rfl⟩))
    (fun os started H enc _ F => by rw [OpenClaim.pre_eq_preRow]; exact lifted os started H enc F)
end Go.Proofs.Ytgdgpfpihpofdaa.spanLaws
