/-
  SpanMatchesReference: all functions of the package return what the reference returns: for any slices of spans, valid or not, and ints.
  Conditions: none besides the row's.
-/
import Derived.Test.YtgdgpfpihpofdaaSpnGC
import Derived.Test.YtgdgpfpihpofdaaSpnX
import Derived.Test.YtgdgpfpihpofdaaSpnW
import Derived.Test.YtgdgpfpihpofdaaRows
import Derived.ProofKit
import Derived.OpenShut
import Derived.Deep.DeepHandedRow
import Derived.Deep.DeepWitnessRowRef
import Derived.MakeChecks
namespace Go.Proofs.Ytgdgpfpihpofdaa.spanMatchesReference
open Go.RowKit Go.Sort
open Go.RowKit (Below)
set_option linter.unusedVariables false
set_option linter.unusedSimpArgs false
theorem ls_len {w : World} {A : Option Addr} {C : Nat} {xs : List Spn} (h : Ls w A C xs) : xs.length ≤ 9223372036854775807 := Nat.le_trans h.cap.1 h.cap.2
theorem same_z (A B : Option Addr) (C D : Nat) (zs : List Spn) (w : World) (hl : zs.length ≤ 1000) (hx : SlS w A zs) (hy : SlS w B zs) :
    Calls Try.prog 16 #[.slice A zs.length C, .slice B zs.length D] w fun e w' => e = .returned (.bool true) ∧ Below w.heap.size w w' :=
  (rsame_any A B C D zs zs w (by omega) (by omega) hx hy).mono fun e w' ⟨he, n, hw⟩ => ⟨by rw [he]; simp, by subst hw; exact below_drewN' (Below.refl _ _) n⟩

set_option maxRecDepth 100000 in
set_option maxHeartbeats 2000000 in
theorem no (aA : Option Addr) (aC : Nat) (a : List Spn) (bA : Option Addr) (bC : Nat) (b : List Spn) (m : Int) (im : I64 m) (d : Int) (id_ : I64 d) (w : World) (la : Ls w aA aC a) (lb : Ls w bA bC b) (fa : decide (a.length ≤ 40) = false) (ga : a.length ≤ 1000) :
    Calls Try.prog 3 #[.slice aA a.length aC, .slice bA b.length bC, .int .i64 m, .int .i64 d] w fun e w' => e = .returned (.bool true) ∧ Below w.heap.size w w' := by
  have Ha := Lib.hid la
  clear la
  have Hb := Lib.hid lb
  clear lb
  have FA := Lib.hid fa
  clear fa
  have HB := Lib.hid (Below.refl w.heap.size w)
  go_enter Try.func3, Try.ntmps3
  go_wp2_with fail
  refine (head_any _).mono ?_
  rintro e w' ⟨rfl, hb⟩
  replace HB := Lib.hid (on_below HB.out hb)
  replace Ha := Lib.hid (Ha.out.below hb)
  replace Hb := Lib.hid (Hb.out.below hb)
  clear hb
  go_wp2_with fail
  refine (few_b _ _ _ _ FA.out _).mono ?_
  rintro e w' ⟨rfl, rfl⟩
  go_wp2_with fail
  go_ret
  exact ⟨rfl, HB.out⟩
set_option maxRecDepth 100000 in
set_option maxHeartbeats 2000000 in
theorem no_few (aA : Option Addr) (aC : Nat) (a : List Spn) (bA : Option Addr) (bC : Nat) (b : List Spn) (m : Int) (im : I64 m) (d : Int) (id_ : I64 d) (w : World) (la : Ls w aA aC a) (lb : Ls w bA bC b) (fa : decide (a.length ≤ 40) = true) (fb : decide (b.length ≤ 40) = false) (gb : b.length ≤ 1000) :
    Calls Try.prog 3 #[.slice aA a.length aC, .slice bA b.length bC, .int .i64 m, .int .i64 d] w fun e w' => e = .returned (.bool true) ∧ Below w.heap.size w w' := by
  have Ha := Lib.hid la
  clear la
  have Hb := Lib.hid lb
  clear lb
  have FA := Lib.hid fa
  clear fa
  have FB := Lib.hid fb
  clear fb
  have HB := Lib.hid (Below.refl w.heap.size w)
  go_enter Try.func3, Try.ntmps3
  go_wp2_with fail
  refine (head_any _).mono ?_
  rintro e w' ⟨rfl, hb⟩
  replace HB := Lib.hid (on_below HB.out hb)
  replace Ha := Lib.hid (Ha.out.below hb)
  replace Hb := Lib.hid (Hb.out.below hb)
  clear hb
  go_wp2_with fail
  refine (few_b _ _ _ _ FA.out _).mono ?_
  rintro e w' ⟨rfl, rfl⟩
  go_wp2_with fail
  refine (few_b _ _ _ _ FB.out _).mono ?_
  rintro e w' ⟨rfl, rfl⟩
  go_wp2_with fail
  go_ret
  exact ⟨rfl, HB.out⟩
set_option maxRecDepth 100000 in
set_option maxHeartbeats 2000000 in
theorem no_big (aA : Option Addr) (aC : Nat) (a : List Spn) (bA : Option Addr) (bC : Nat) (b : List Spn) (m : Int) (im : I64 m) (d : Int) (id_ : I64 d) (w : World) (la : Ls w aA aC a) (lb : Ls w bA bC b) (fa : decide (a.length ≤ 40) = false) (ga : 1000 < a.length) (fb : decide (b.length ≤ 40) = false) (gb : b.length ≤ 1000) :
    Calls Try.prog 3 #[.slice aA a.length aC, .slice bA b.length bC, .int .i64 m, .int .i64 d] w fun e w' => e = .returned (.bool true) ∧ Below w.heap.size w w' := by
  have Ha := Lib.hid la
  clear la
  have Hb := Lib.hid lb
  clear lb
  have FA := Lib.hid fa
  clear fa
  have FB := Lib.hid fb
  clear fb
  have HB := Lib.hid (Below.refl w.heap.size w)
  go_enter Try.func3, Try.ntmps3
  go_wp2_with fail
  refine (head_any _).mono ?_
  rintro e w' ⟨rfl, hb⟩
  replace HB := Lib.hid (on_below HB.out hb)
  replace Ha := Lib.hid (Ha.out.below hb)
  replace Hb := Lib.hid (Hb.out.below hb)
  clear hb
  go_wp2_with fail
  refine (few_b _ _ _ _ FA.out _).mono ?_
  rintro e w' ⟨rfl, rfl⟩
  go_wp2_with fail
  refine (few_b _ _ _ _ FB.out _).mono ?_
  rintro e w' ⟨rfl, rfl⟩
  go_wp2_with fail
  go_ret
  exact ⟨rfl, HB.out⟩
set_option maxRecDepth 100000 in
set_option maxHeartbeats 4000000 in
theorem ok_few_few (aA : Option Addr) (aC : Nat) (a : List Spn) (bA : Option Addr) (bC : Nat) (b : List Spn) (m : Int) (im : I64 m) (d : Int) (id_ : I64 d) (w : World) (la : Ls w aA aC a) (lb : Ls w bA bC b) (fa : decide (a.length ≤ 40) = true) (fb : decide (b.length ≤ 40) = true) (v : Bool) (hv : vldS a = v) (U C M S : List Spn) (E T n en eh : Int) (h : Bool) (hU : cmbL opO a b = U) (hC : cmbL opA a b = C) (hM : cmbL opD a b = M) (hE : cmbR a b = E) (hS : shL a d = S) (hT : shR a d = T) (hn : lenN a = n) (hen : lenE a = en) (hh : hasV a m = h) (heh : hasE a m = eh) (hcd : (vldS a && vldS b) = true → a.length + b.length ≤ 500) (lU : U.length ≤ 1000) (lC : C.length ≤ 1000) (lM : M.length ≤ 1000) (lS : S.length ≤ 1000) :
    Calls Try.prog 3 #[.slice aA a.length aC, .slice bA b.length bC, .int .i64 m, .int .i64 d] w fun e w' => e = .returned (.bool true) ∧ Below w.heap.size w w' := by
  have Ha := Lib.hid la
  clear la
  have Hb := Lib.hid lb
  clear lb
  have FA := Lib.hid fa
  clear fa
  have FB := Lib.hid fb
  clear fb
  have VA := Lib.hid hv
  clear hv
  have EU := Lib.hid hU
  clear hU
  have EC := Lib.hid hC
  clear hC
  have EM := Lib.hid hM
  clear hM
  have EE := Lib.hid hE
  clear hE
  have ES := Lib.hid hS
  clear hS
  have ET := Lib.hid hT
  clear hT
  have EN := Lib.hid hn
  clear hn
  have EEN := Lib.hid hen
  clear hen
  have EH := Lib.hid hh
  clear hh
  have EEH := Lib.hid heh
  clear heh
  have HCD := Lib.hid hcd
  clear hcd
  have LU := Lib.hid lU
  clear lU
  have LC := Lib.hid lC
  clear lC
  have LM := Lib.hid lM
  clear lM
  have LS := Lib.hid lS
  clear lS
  have HB := Lib.hid (Below.refl w.heap.size w)
  go_enter Try.func3, Try.ntmps3
  go_wp2_with fail
  refine (head_any _).mono ?_
  rintro e w' ⟨rfl, hb⟩
  replace HB := Lib.hid (on_below HB.out hb)
  replace Ha := Lib.hid (Ha.out.below hb)
  replace Hb := Lib.hid (Hb.out.below hb)
  clear hb
  go_wp2_with fail
  refine (few_b _ _ _ _ FA.out _).mono ?_
  rintro e w' ⟨rfl, rfl⟩
  go_wp2_with fail
  refine (few_b _ _ _ _ FB.out _).mono ?_
  rintro e w' ⟨rfl, rfl⟩
  go_wp2_with fail
  refine (valid_b _ _ a _ VA.out _ (ls_len Ha.out) Ha.out.sl).mono ?_
  rintro e w' ⟨rfl, hb⟩
  replace HB := Lib.hid (on_below HB.out hb)
  replace Ha := Lib.hid (Ha.out.below hb)
  replace Hb := Lib.hid (Hb.out.below hb)
  clear hb
  go_wp2_with fail
  refine (rvalid_b _ _ a _ VA.out _ (ls_len Ha.out) Ha.out.sl).mono ?_
  rintro e w' ⟨rfl, hb⟩
  replace HB := Lib.hid (on_below HB.out hb)
  replace Ha := Lib.hid (Ha.out.below hb)
  replace Hb := Lib.hid (Hb.out.below hb)
  clear hb
  go_wp2_with fail
  refine (union_any _ _ _ _ _ _ _ _ _ EU.out EE.out HCD.out Ha.out Hb.out).mono ?_
  rintro e w' ⟨AX, CX, rfl, hl, hb⟩
  replace HB := Lib.hid (on_below HB.out hb)
  replace Ha := Lib.hid (Ha.out.below hb)
  replace Hb := Lib.hid (Hb.out.below hb)
  have HX := Lib.hid hl
  clear hb hl
  go_wp2_with fail
  refine (runion_any _ _ _ _ _ _ _ _ _ EU.out EE.out (ls_len Ha.out) (ls_len Hb.out) HCD.out Ha.out.sl Hb.out.sl).mono ?_
  rintro e w' ⟨AY, CY, rfl, hl, hb⟩
  replace HB := Lib.hid (on_below HB.out hb)
  replace Ha := Lib.hid (Ha.out.below hb)
  replace Hb := Lib.hid (Hb.out.below hb)
  replace HX := Lib.hid (HX.out.below hb)
  have HY := Lib.hid hl
  clear hb hl
  go_wp2_with fail
  refine (same_z _ _ _ _ _ _ LU.out HX.out HY.out).mono ?_
  rintro e w' ⟨rfl, hb⟩
  replace HB := Lib.hid (on_below HB.out hb)
  replace Ha := Lib.hid (Ha.out.below hb)
  replace Hb := Lib.hid (Hb.out.below hb)
  replace HX := Lib.hid (HX.out.below hb)
  replace HY := Lib.hid (HY.out.below hb)
  clear hb
  go_wp2_with fail
  clear HX HY
  refine (common_any _ _ _ _ _ _ _ _ _ EC.out EE.out HCD.out Ha.out Hb.out).mono ?_
  rintro e w' ⟨AX, CX, rfl, hl, hb⟩
  replace HB := Lib.hid (on_below HB.out hb)
  replace Ha := Lib.hid (Ha.out.below hb)
  replace Hb := Lib.hid (Hb.out.below hb)
  have HX := Lib.hid hl
  clear hb hl
  go_wp2_with fail
  refine (rcommon_any _ _ _ _ _ _ _ _ _ EC.out EE.out (ls_len Ha.out) (ls_len Hb.out) HCD.out Ha.out.sl Hb.out.sl).mono ?_
  rintro e w' ⟨AY, CY, rfl, hl, hb⟩
  replace HB := Lib.hid (on_below HB.out hb)
  replace Ha := Lib.hid (Ha.out.below hb)
  replace Hb := Lib.hid (Hb.out.below hb)
  replace HX := Lib.hid (HX.out.below hb)
  have HY := Lib.hid hl
  clear hb hl
  go_wp2_with fail
  refine (same_z _ _ _ _ _ _ LC.out HX.out HY.out).mono ?_
  rintro e w' ⟨rfl, hb⟩
  replace HB := Lib.hid (on_below HB.out hb)
  replace Ha := Lib.hid (Ha.out.below hb)
  replace Hb := Lib.hid (Hb.out.below hb)
  replace HX := Lib.hid (HX.out.below hb)
  replace HY := Lib.hid (HY.out.below hb)
  clear hb
  go_wp2_with fail
  clear HX HY
  refine (minus_any _ _ _ _ _ _ _ _ _ EM.out EE.out HCD.out Ha.out Hb.out).mono ?_
  rintro e w' ⟨AX, CX, rfl, hl, hb⟩
  replace HB := Lib.hid (on_below HB.out hb)
  replace Ha := Lib.hid (Ha.out.below hb)
  replace Hb := Lib.hid (Hb.out.below hb)
  have HX := Lib.hid hl
  clear hb hl
  go_wp2_with fail
  refine (rminus_any _ _ _ _ _ _ _ _ _ EM.out EE.out (ls_len Ha.out) (ls_len Hb.out) HCD.out Ha.out.sl Hb.out.sl).mono ?_
  rintro e w' ⟨AY, CY, rfl, hl, hb⟩
  replace HB := Lib.hid (on_below HB.out hb)
  replace Ha := Lib.hid (Ha.out.below hb)
  replace Hb := Lib.hid (Hb.out.below hb)
  replace HX := Lib.hid (HX.out.below hb)
  have HY := Lib.hid hl
  clear hb hl
  go_wp2_with fail
  refine (same_z _ _ _ _ _ _ LM.out HX.out HY.out).mono ?_
  rintro e w' ⟨rfl, hb⟩
  replace HB := Lib.hid (on_below HB.out hb)
  replace Ha := Lib.hid (Ha.out.below hb)
  replace Hb := Lib.hid (Hb.out.below hb)
  replace HX := Lib.hid (HX.out.below hb)
  replace HY := Lib.hid (HY.out.below hb)
  clear hb
  go_wp2_with fail
  clear HX HY
  refine (shift_any _ _ _ d _ _ _ ES.out ET.out (ls_len Ha.out) Ha.out).mono ?_
  rintro e w' ⟨AX, CX, rfl, hl, hb⟩
  replace HB := Lib.hid (on_below HB.out hb)
  replace Ha := Lib.hid (Ha.out.below hb)
  replace Hb := Lib.hid (Hb.out.below hb)
  have HX := Lib.hid hl
  clear hb hl
  go_wp2_with fail
  refine (rshift_any _ _ _ d _ _ _ ES.out ET.out (ls_len Ha.out) Ha.out.sl).mono ?_
  rintro e w' ⟨AY, CY, rfl, hl, hb⟩
  replace HB := Lib.hid (on_below HB.out hb)
  replace Ha := Lib.hid (Ha.out.below hb)
  replace Hb := Lib.hid (Hb.out.below hb)
  replace HX := Lib.hid (HX.out.below hb)
  have HY := Lib.hid hl
  clear hb hl
  go_wp2_with fail
  refine (same_z _ _ _ _ _ _ LS.out HX.out HY.out).mono ?_
  rintro e w' ⟨rfl, hb⟩
  replace HB := Lib.hid (on_below HB.out hb)
  replace Ha := Lib.hid (Ha.out.below hb)
  replace Hb := Lib.hid (Hb.out.below hb)
  replace HX := Lib.hid (HX.out.below hb)
  replace HY := Lib.hid (HY.out.below hb)
  clear hb
  go_wp2_with fail
  clear HX HY
  refine (len_any _ _ _ _ _ _ EN.out EEN.out (ls_len Ha.out) Ha.out.sl).mono ?_
  rintro e w' ⟨rfl, hb⟩
  replace HB := Lib.hid (on_below HB.out hb)
  replace Ha := Lib.hid (Ha.out.below hb)
  replace Hb := Lib.hid (Hb.out.below hb)
  clear hb
  go_wp2_with fail
  refine (rlen_any _ _ _ _ _ _ EN.out EEN.out (ls_len Ha.out) Ha.out.sl).mono ?_
  rintro e w' ⟨rfl, hb⟩
  replace HB := Lib.hid (on_below HB.out hb)
  replace Ha := Lib.hid (Ha.out.below hb)
  replace Hb := Lib.hid (Hb.out.below hb)
  clear hb
  go_wp2_with fail
  refine (hasg_any _ _ _ m _ _ _ EH.out EEH.out (ls_len Ha.out) Ha.out).mono ?_
  rintro e w' ⟨rfl, hb⟩
  replace HB := Lib.hid (on_below HB.out hb)
  replace Ha := Lib.hid (Ha.out.below hb)
  replace Hb := Lib.hid (Hb.out.below hb)
  clear hb
  go_wp2_with fail
  refine (rhasf_any _ _ _ m _ _ _ EH.out EEH.out (ls_len Ha.out) Ha.out.sl).mono ?_
  rintro e w' ⟨rfl, hb⟩
  replace HB := Lib.hid (on_below HB.out hb)
  replace Ha := Lib.hid (Ha.out.below hb)
  replace Hb := Lib.hid (Hb.out.below hb)
  clear hb
  go_wp2_with fail
  go_ret
  exact ⟨rfl, HB.out⟩
set_option maxRecDepth 100000 in
set_option maxHeartbeats 4000000 in
theorem ok_few_big (aA : Option Addr) (aC : Nat) (a : List Spn) (bA : Option Addr) (bC : Nat) (b : List Spn) (m : Int) (im : I64 m) (d : Int) (id_ : I64 d) (w : World) (la : Ls w aA aC a) (lb : Ls w bA bC b) (fa : decide (a.length ≤ 40) = true) (fb : decide (b.length ≤ 40) = false) (gb : 1000 < b.length) (v : Bool) (hv : vldS a = v) (U C M S : List Spn) (E T n en eh : Int) (h : Bool) (hU : cmbL opO a b = U) (hC : cmbL opA a b = C) (hM : cmbL opD a b = M) (hE : cmbR a b = E) (hS : shL a d = S) (hT : shR a d = T) (hn : lenN a = n) (hen : lenE a = en) (hh : hasV a m = h) (heh : hasE a m = eh) (hcd : (vldS a && vldS b) = true → a.length + b.length ≤ 500) (lU : U.length ≤ 1000) (lC : C.length ≤ 1000) (lM : M.length ≤ 1000) (lS : S.length ≤ 1000) :
    Calls Try.prog 3 #[.slice aA a.length aC, .slice bA b.length bC, .int .i64 m, .int .i64 d] w fun e w' => e = .returned (.bool true) ∧ Below w.heap.size w w' := by
  have Ha := Lib.hid la
  clear la
  have Hb := Lib.hid lb
  clear lb
  have FA := Lib.hid fa
  clear fa
  have FB := Lib.hid fb
  clear fb
  have VA := Lib.hid hv
  clear hv
  have EU := Lib.hid hU
  clear hU
  have EC := Lib.hid hC
  clear hC
  have EM := Lib.hid hM
  clear hM
  have EE := Lib.hid hE
  clear hE
  have ES := Lib.hid hS
  clear hS
  have ET := Lib.hid hT
  clear hT
  have EN := Lib.hid hn
  clear hn
  have EEN := Lib.hid hen
  clear hen
  have EH := Lib.hid hh
  clear hh
  have EEH := Lib.hid heh
  clear heh
  have HCD := Lib.hid hcd
  clear hcd
  have LU := Lib.hid lU
  clear lU
  have LC := Lib.hid lC
  clear lC
  have LM := Lib.hid lM
  clear lM
  have LS := Lib.hid lS
  clear lS
  have HB := Lib.hid (Below.refl w.heap.size w)
  go_enter Try.func3, Try.ntmps3
  go_wp2_with fail
  refine (head_any _).mono ?_
  rintro e w' ⟨rfl, hb⟩
  replace HB := Lib.hid (on_below HB.out hb)
  replace Ha := Lib.hid (Ha.out.below hb)
  replace Hb := Lib.hid (Hb.out.below hb)
  clear hb
  go_wp2_with fail
  refine (few_b _ _ _ _ FA.out _).mono ?_
  rintro e w' ⟨rfl, rfl⟩
  go_wp2_with fail
  refine (few_b _ _ _ _ FB.out _).mono ?_
  rintro e w' ⟨rfl, rfl⟩
  go_wp2_with fail
  refine (valid_b _ _ a _ VA.out _ (ls_len Ha.out) Ha.out.sl).mono ?_
  rintro e w' ⟨rfl, hb⟩
  replace HB := Lib.hid (on_below HB.out hb)
  replace Ha := Lib.hid (Ha.out.below hb)
  replace Hb := Lib.hid (Hb.out.below hb)
  clear hb
  go_wp2_with fail
  refine (rvalid_b _ _ a _ VA.out _ (ls_len Ha.out) Ha.out.sl).mono ?_
  rintro e w' ⟨rfl, hb⟩
  replace HB := Lib.hid (on_below HB.out hb)
  replace Ha := Lib.hid (Ha.out.below hb)
  replace Hb := Lib.hid (Hb.out.below hb)
  clear hb
  go_wp2_with fail
  refine (union_any _ _ _ _ _ _ _ _ _ EU.out EE.out HCD.out Ha.out Hb.out).mono ?_
  rintro e w' ⟨AX, CX, rfl, hl, hb⟩
  replace HB := Lib.hid (on_below HB.out hb)
  replace Ha := Lib.hid (Ha.out.below hb)
  replace Hb := Lib.hid (Hb.out.below hb)
  have HX := Lib.hid hl
  clear hb hl
  go_wp2_with fail
  refine (runion_any _ _ _ _ _ _ _ _ _ EU.out EE.out (ls_len Ha.out) (ls_len Hb.out) HCD.out Ha.out.sl Hb.out.sl).mono ?_
  rintro e w' ⟨AY, CY, rfl, hl, hb⟩
  replace HB := Lib.hid (on_below HB.out hb)
  replace Ha := Lib.hid (Ha.out.below hb)
  replace Hb := Lib.hid (Hb.out.below hb)
  replace HX := Lib.hid (HX.out.below hb)
  have HY := Lib.hid hl
  clear hb hl
  go_wp2_with fail
  refine (same_z _ _ _ _ _ _ LU.out HX.out HY.out).mono ?_
  rintro e w' ⟨rfl, hb⟩
  replace HB := Lib.hid (on_below HB.out hb)
  replace Ha := Lib.hid (Ha.out.below hb)
  replace Hb := Lib.hid (Hb.out.below hb)
  replace HX := Lib.hid (HX.out.below hb)
  replace HY := Lib.hid (HY.out.below hb)
  clear hb
  go_wp2_with fail
  clear HX HY
  refine (common_any _ _ _ _ _ _ _ _ _ EC.out EE.out HCD.out Ha.out Hb.out).mono ?_
  rintro e w' ⟨AX, CX, rfl, hl, hb⟩
  replace HB := Lib.hid (on_below HB.out hb)
  replace Ha := Lib.hid (Ha.out.below hb)
  replace Hb := Lib.hid (Hb.out.below hb)
  have HX := Lib.hid hl
  clear hb hl
  go_wp2_with fail
  refine (rcommon_any _ _ _ _ _ _ _ _ _ EC.out EE.out (ls_len Ha.out) (ls_len Hb.out) HCD.out Ha.out.sl Hb.out.sl).mono ?_
  rintro e w' ⟨AY, CY, rfl, hl, hb⟩
  replace HB := Lib.hid (on_below HB.out hb)
  replace Ha := Lib.hid (Ha.out.below hb)
  replace Hb := Lib.hid (Hb.out.below hb)
  replace HX := Lib.hid (HX.out.below hb)
  have HY := Lib.hid hl
  clear hb hl
  go_wp2_with fail
  refine (same_z _ _ _ _ _ _ LC.out HX.out HY.out).mono ?_
  rintro e w' ⟨rfl, hb⟩
  replace HB := Lib.hid (on_below HB.out hb)
  replace Ha := Lib.hid (Ha.out.below hb)
  replace Hb := Lib.hid (Hb.out.below hb)
  replace HX := Lib.hid (HX.out.below hb)
  replace HY := Lib.hid (HY.out.below hb)
  clear hb
  go_wp2_with fail
  clear HX HY
  refine (minus_any _ _ _ _ _ _ _ _ _ EM.out EE.out HCD.out Ha.out Hb.out).mono ?_
  rintro e w' ⟨AX, CX, rfl, hl, hb⟩
  replace HB := Lib.hid (on_below HB.out hb)
  replace Ha := Lib.hid (Ha.out.below hb)
  replace Hb := Lib.hid (Hb.out.below hb)
  have HX := Lib.hid hl
  clear hb hl
  go_wp2_with fail
  refine (rminus_any _ _ _ _ _ _ _ _ _ EM.out EE.out (ls_len Ha.out) (ls_len Hb.out) HCD.out Ha.out.sl Hb.out.sl).mono ?_
  rintro e w' ⟨AY, CY, rfl, hl, hb⟩
  replace HB := Lib.hid (on_below HB.out hb)
  replace Ha := Lib.hid (Ha.out.below hb)
  replace Hb := Lib.hid (Hb.out.below hb)
  replace HX := Lib.hid (HX.out.below hb)
  have HY := Lib.hid hl
  clear hb hl
  go_wp2_with fail
  refine (same_z _ _ _ _ _ _ LM.out HX.out HY.out).mono ?_
  rintro e w' ⟨rfl, hb⟩
  replace HB := Lib.hid (on_below HB.out hb)
  replace Ha := Lib.hid (Ha.out.below hb)
  replace Hb := Lib.hid (Hb.out.below hb)
  replace HX := Lib.hid (HX.out.below hb)
  replace HY := Lib.hid (HY.out.below hb)
  clear hb
  go_wp2_with fail
  clear HX HY
  refine (shift_any _ _ _ d _ _ _ ES.out ET.out (ls_len Ha.out) Ha.out).mono ?_
  rintro e w' ⟨AX, CX, rfl, hl, hb⟩
  replace HB := Lib.hid (on_below HB.out hb)
  replace Ha := Lib.hid (Ha.out.below hb)
  replace Hb := Lib.hid (Hb.out.below hb)
  have HX := Lib.hid hl
  clear hb hl
  go_wp2_with fail
  refine (rshift_any _ _ _ d _ _ _ ES.out ET.out (ls_len Ha.out) Ha.out.sl).mono ?_
  rintro e w' ⟨AY, CY, rfl, hl, hb⟩
  replace HB := Lib.hid (on_below HB.out hb)
  replace Ha := Lib.hid (Ha.out.below hb)
  replace Hb := Lib.hid (Hb.out.below hb)
  replace HX := Lib.hid (HX.out.below hb)
  have HY := Lib.hid hl
  clear hb hl
  go_wp2_with fail
  refine (same_z _ _ _ _ _ _ LS.out HX.out HY.out).mono ?_
  rintro e w' ⟨rfl, hb⟩
  replace HB := Lib.hid (on_below HB.out hb)
  replace Ha := Lib.hid (Ha.out.below hb)
  replace Hb := Lib.hid (Hb.out.below hb)
  replace HX := Lib.hid (HX.out.below hb)
  replace HY := Lib.hid (HY.out.below hb)
  clear hb
  go_wp2_with fail
  clear HX HY
  refine (len_any _ _ _ _ _ _ EN.out EEN.out (ls_len Ha.out) Ha.out.sl).mono ?_
  rintro e w' ⟨rfl, hb⟩
  replace HB := Lib.hid (on_below HB.out hb)
  replace Ha := Lib.hid (Ha.out.below hb)
  replace Hb := Lib.hid (Hb.out.below hb)
  clear hb
  go_wp2_with fail
  refine (rlen_any _ _ _ _ _ _ EN.out EEN.out (ls_len Ha.out) Ha.out.sl).mono ?_
  rintro e w' ⟨rfl, hb⟩
  replace HB := Lib.hid (on_below HB.out hb)
  replace Ha := Lib.hid (Ha.out.below hb)
  replace Hb := Lib.hid (Hb.out.below hb)
  clear hb
  go_wp2_with fail
  refine (hasg_any _ _ _ m _ _ _ EH.out EEH.out (ls_len Ha.out) Ha.out).mono ?_
  rintro e w' ⟨rfl, hb⟩
  replace HB := Lib.hid (on_below HB.out hb)
  replace Ha := Lib.hid (Ha.out.below hb)
  replace Hb := Lib.hid (Hb.out.below hb)
  clear hb
  go_wp2_with fail
  refine (rhasf_any _ _ _ m _ _ _ EH.out EEH.out (ls_len Ha.out) Ha.out.sl).mono ?_
  rintro e w' ⟨rfl, hb⟩
  replace HB := Lib.hid (on_below HB.out hb)
  replace Ha := Lib.hid (Ha.out.below hb)
  replace Hb := Lib.hid (Hb.out.below hb)
  clear hb
  go_wp2_with fail
  go_ret
  exact ⟨rfl, HB.out⟩
set_option maxRecDepth 100000 in
set_option maxHeartbeats 4000000 in
theorem ok_big_few (aA : Option Addr) (aC : Nat) (a : List Spn) (bA : Option Addr) (bC : Nat) (b : List Spn) (m : Int) (im : I64 m) (d : Int) (id_ : I64 d) (w : World) (la : Ls w aA aC a) (lb : Ls w bA bC b) (fa : decide (a.length ≤ 40) = false) (ga : 1000 < a.length) (fb : decide (b.length ≤ 40) = true) (v : Bool) (hv : vldS a = v) (U C M S : List Spn) (E T n en eh : Int) (h : Bool) (hU : cmbL opO a b = U) (hC : cmbL opA a b = C) (hM : cmbL opD a b = M) (hE : cmbR a b = E) (hS : shL a d = S) (hT : shR a d = T) (hn : lenN a = n) (hen : lenE a = en) (hh : hasV a m = h) (heh : hasE a m = eh) (hcd : (vldS a && vldS b) = true → a.length + b.length ≤ 500) (lU : U.length ≤ 1000) (lC : C.length ≤ 1000) (lM : M.length ≤ 1000) (lS : S.length ≤ 1000) :
    Calls Try.prog 3 #[.slice aA a.length aC, .slice bA b.length bC, .int .i64 m, .int .i64 d] w fun e w' => e = .returned (.bool true) ∧ Below w.heap.size w w' := by
  have Ha := Lib.hid la
  clear la
  have Hb := Lib.hid lb
  clear lb
  have FA := Lib.hid fa
  clear fa
  have FB := Lib.hid fb
  clear fb
  have VA := Lib.hid hv
  clear hv
  have EU := Lib.hid hU
  clear hU
  have EC := Lib.hid hC
  clear hC
  have EM := Lib.hid hM
  clear hM
  have EE := Lib.hid hE
  clear hE
  have ES := Lib.hid hS
  clear hS
  have ET := Lib.hid hT
  clear hT
  have EN := Lib.hid hn
  clear hn
  have EEN := Lib.hid hen
  clear hen
  have EH := Lib.hid hh
  clear hh
  have EEH := Lib.hid heh
  clear heh
  have HCD := Lib.hid hcd
  clear hcd
  have LU := Lib.hid lU
  clear lU
  have LC := Lib.hid lC
  clear lC
  have LM := Lib.hid lM
  clear lM
  have LS := Lib.hid lS
  clear lS
  have HB := Lib.hid (Below.refl w.heap.size w)
  go_enter Try.func3, Try.ntmps3
  go_wp2_with fail
  refine (head_any _).mono ?_
  rintro e w' ⟨rfl, hb⟩
  replace HB := Lib.hid (on_below HB.out hb)
  replace Ha := Lib.hid (Ha.out.below hb)
  replace Hb := Lib.hid (Hb.out.below hb)
  clear hb
  go_wp2_with fail
  refine (few_b _ _ _ _ FA.out _).mono ?_
  rintro e w' ⟨rfl, rfl⟩
  go_wp2_with fail
  refine (few_b _ _ _ _ FB.out _).mono ?_
  rintro e w' ⟨rfl, rfl⟩
  go_wp2_with fail
  refine (valid_b _ _ a _ VA.out _ (ls_len Ha.out) Ha.out.sl).mono ?_
  rintro e w' ⟨rfl, hb⟩
  replace HB := Lib.hid (on_below HB.out hb)
  replace Ha := Lib.hid (Ha.out.below hb)
  replace Hb := Lib.hid (Hb.out.below hb)
  clear hb
  go_wp2_with fail
  refine (rvalid_b _ _ a _ VA.out _ (ls_len Ha.out) Ha.out.sl).mono ?_
  rintro e w' ⟨rfl, hb⟩
  replace HB := Lib.hid (on_below HB.out hb)
  replace Ha := Lib.hid (Ha.out.below hb)
  replace Hb := Lib.hid (Hb.out.below hb)
  clear hb
  go_wp2_with fail
  refine (union_any _ _ _ _ _ _ _ _ _ EU.out EE.out HCD.out Ha.out Hb.out).mono ?_
  rintro e w' ⟨AX, CX, rfl, hl, hb⟩
  replace HB := Lib.hid (on_below HB.out hb)
  replace Ha := Lib.hid (Ha.out.below hb)
  replace Hb := Lib.hid (Hb.out.below hb)
  have HX := Lib.hid hl
  clear hb hl
  go_wp2_with fail
  refine (runion_any _ _ _ _ _ _ _ _ _ EU.out EE.out (ls_len Ha.out) (ls_len Hb.out) HCD.out Ha.out.sl Hb.out.sl).mono ?_
  rintro e w' ⟨AY, CY, rfl, hl, hb⟩
  replace HB := Lib.hid (on_below HB.out hb)
  replace Ha := Lib.hid (Ha.out.below hb)
  replace Hb := Lib.hid (Hb.out.below hb)
  replace HX := Lib.hid (HX.out.below hb)
  have HY := Lib.hid hl
  clear hb hl
  go_wp2_with fail
  refine (same_z _ _ _ _ _ _ LU.out HX.out HY.out).mono ?_
  rintro e w' ⟨rfl, hb⟩
  replace HB := Lib.hid (on_below HB.out hb)
  replace Ha := Lib.hid (Ha.out.below hb)
  replace Hb := Lib.hid (Hb.out.below hb)
  replace HX := Lib.hid (HX.out.below hb)
  replace HY := Lib.hid (HY.out.below hb)
  clear hb
  go_wp2_with fail
  clear HX HY
  refine (common_any _ _ _ _ _ _ _ _ _ EC.out EE.out HCD.out Ha.out Hb.out).mono ?_
  rintro e w' ⟨AX, CX, rfl, hl, hb⟩
  replace HB := Lib.hid (on_below HB.out hb)
  replace Ha := Lib.hid (Ha.out.below hb)
  replace Hb := Lib.hid (Hb.out.below hb)
  have HX := Lib.hid hl
  clear hb hl
  go_wp2_with fail
  refine (rcommon_any _ _ _ _ _ _ _ _ _ EC.out EE.out (ls_len Ha.out) (ls_len Hb.out) HCD.out Ha.out.sl Hb.out.sl).mono ?_
  rintro e w' ⟨AY, CY, rfl, hl, hb⟩
  replace HB := Lib.hid (on_below HB.out hb)
  replace Ha := Lib.hid (Ha.out.below hb)
  replace Hb := Lib.hid (Hb.out.below hb)
  replace HX := Lib.hid (HX.out.below hb)
  have HY := Lib.hid hl
  clear hb hl
  go_wp2_with fail
  refine (same_z _ _ _ _ _ _ LC.out HX.out HY.out).mono ?_
  rintro e w' ⟨rfl, hb⟩
  replace HB := Lib.hid (on_below HB.out hb)
  replace Ha := Lib.hid (Ha.out.below hb)
  replace Hb := Lib.hid (Hb.out.below hb)
  replace HX := Lib.hid (HX.out.below hb)
  replace HY := Lib.hid (HY.out.below hb)
  clear hb
  go_wp2_with fail
  clear HX HY
  refine (minus_any _ _ _ _ _ _ _ _ _ EM.out EE.out HCD.out Ha.out Hb.out).mono ?_
  rintro e w' ⟨AX, CX, rfl, hl, hb⟩
  replace HB := Lib.hid (on_below HB.out hb)
  replace Ha := Lib.hid (Ha.out.below hb)
  replace Hb := Lib.hid (Hb.out.below hb)
  have HX := Lib.hid hl
  clear hb hl
  go_wp2_with fail
  refine (rminus_any _ _ _ _ _ _ _ _ _ EM.out EE.out (ls_len Ha.out) (ls_len Hb.out) HCD.out Ha.out.sl Hb.out.sl).mono ?_
  rintro e w' ⟨AY, CY, rfl, hl, hb⟩
  replace HB := Lib.hid (on_below HB.out hb)
  replace Ha := Lib.hid (Ha.out.below hb)
  replace Hb := Lib.hid (Hb.out.below hb)
  replace HX := Lib.hid (HX.out.below hb)
  have HY := Lib.hid hl
  clear hb hl
  go_wp2_with fail
  refine (same_z _ _ _ _ _ _ LM.out HX.out HY.out).mono ?_
  rintro e w' ⟨rfl, hb⟩
  replace HB := Lib.hid (on_below HB.out hb)
  replace Ha := Lib.hid (Ha.out.below hb)
  replace Hb := Lib.hid (Hb.out.below hb)
  replace HX := Lib.hid (HX.out.below hb)
  replace HY := Lib.hid (HY.out.below hb)
  clear hb
  go_wp2_with fail
  clear HX HY
  refine (shift_any _ _ _ d _ _ _ ES.out ET.out (ls_len Ha.out) Ha.out).mono ?_
  rintro e w' ⟨AX, CX, rfl, hl, hb⟩
  replace HB := Lib.hid (on_below HB.out hb)
  replace Ha := Lib.hid (Ha.out.below hb)
  replace Hb := Lib.hid (Hb.out.below hb)
  have HX := Lib.hid hl
  clear hb hl
  go_wp2_with fail
  refine (rshift_any _ _ _ d _ _ _ ES.out ET.out (ls_len Ha.out) Ha.out.sl).mono ?_
  rintro e w' ⟨AY, CY, rfl, hl, hb⟩
  replace HB := Lib.hid (on_below HB.out hb)
  replace Ha := Lib.hid (Ha.out.below hb)
  replace Hb := Lib.hid (Hb.out.below hb)
  replace HX := Lib.hid (HX.out.below hb)
  have HY := Lib.hid hl
  clear hb hl
  go_wp2_with fail
  refine (same_z _ _ _ _ _ _ LS.out HX.out HY.out).mono ?_
  rintro e w' ⟨rfl, hb⟩
  replace HB := Lib.hid (on_below HB.out hb)
  replace Ha := Lib.hid (Ha.out.below hb)
  replace Hb := Lib.hid (Hb.out.below hb)
  replace HX := Lib.hid (HX.out.below hb)
  replace HY := Lib.hid (HY.out.below hb)
  clear hb
  go_wp2_with fail
  clear HX HY
  refine (len_any _ _ _ _ _ _ EN.out EEN.out (ls_len Ha.out) Ha.out.sl).mono ?_
  rintro e w' ⟨rfl, hb⟩
  replace HB := Lib.hid (on_below HB.out hb)
  replace Ha := Lib.hid (Ha.out.below hb)
  replace Hb := Lib.hid (Hb.out.below hb)
  clear hb
  go_wp2_with fail
  refine (rlen_any _ _ _ _ _ _ EN.out EEN.out (ls_len Ha.out) Ha.out.sl).mono ?_
  rintro e w' ⟨rfl, hb⟩
  replace HB := Lib.hid (on_below HB.out hb)
  replace Ha := Lib.hid (Ha.out.below hb)
  replace Hb := Lib.hid (Hb.out.below hb)
  clear hb
  go_wp2_with fail
  refine (hasg_any _ _ _ m _ _ _ EH.out EEH.out (ls_len Ha.out) Ha.out).mono ?_
  rintro e w' ⟨rfl, hb⟩
  replace HB := Lib.hid (on_below HB.out hb)
  replace Ha := Lib.hid (Ha.out.below hb)
  replace Hb := Lib.hid (Hb.out.below hb)
  clear hb
  go_wp2_with fail
  refine (rhasf_any _ _ _ m _ _ _ EH.out EEH.out (ls_len Ha.out) Ha.out.sl).mono ?_
  rintro e w' ⟨rfl, hb⟩
  replace HB := Lib.hid (on_below HB.out hb)
  replace Ha := Lib.hid (Ha.out.below hb)
  replace Hb := Lib.hid (Hb.out.below hb)
  clear hb
  go_wp2_with fail
  go_ret
  exact ⟨rfl, HB.out⟩
set_option maxRecDepth 100000 in
set_option maxHeartbeats 4000000 in
theorem ok_big_big (aA : Option Addr) (aC : Nat) (a : List Spn) (bA : Option Addr) (bC : Nat) (b : List Spn) (m : Int) (im : I64 m) (d : Int) (id_ : I64 d) (w : World) (la : Ls w aA aC a) (lb : Ls w bA bC b) (fa : decide (a.length ≤ 40) = false) (ga : 1000 < a.length) (fb : decide (b.length ≤ 40) = false) (gb : 1000 < b.length) (v : Bool) (hv : vldS a = v) (U C M S : List Spn) (E T n en eh : Int) (h : Bool) (hU : cmbL opO a b = U) (hC : cmbL opA a b = C) (hM : cmbL opD a b = M) (hE : cmbR a b = E) (hS : shL a d = S) (hT : shR a d = T) (hn : lenN a = n) (hen : lenE a = en) (hh : hasV a m = h) (heh : hasE a m = eh) (hcd : (vldS a && vldS b) = true → a.length + b.length ≤ 500) (lU : U.length ≤ 1000) (lC : C.length ≤ 1000) (lM : M.length ≤ 1000) (lS : S.length ≤ 1000) :
    Calls Try.prog 3 #[.slice aA a.length aC, .slice bA b.length bC, .int .i64 m, .int .i64 d] w fun e w' => e = .returned (.bool true) ∧ Below w.heap.size w w' := by
  have Ha := Lib.hid la
  clear la
  have Hb := Lib.hid lb
  clear lb
  have FA := Lib.hid fa
  clear fa
  have FB := Lib.hid fb
  clear fb
  have VA := Lib.hid hv
  clear hv
  have EU := Lib.hid hU
  clear hU
  have EC := Lib.hid hC
  clear hC
  have EM := Lib.hid hM
  clear hM
  have EE := Lib.hid hE
  clear hE
  have ES := Lib.hid hS
  clear hS
  have ET := Lib.hid hT
  clear hT
  have EN := Lib.hid hn
  clear hn
  have EEN := Lib.hid hen
  clear hen
  have EH := Lib.hid hh
  clear hh
  have EEH := Lib.hid heh
  clear heh
  have HCD := Lib.hid hcd
  clear hcd
  have LU := Lib.hid lU
  clear lU
  have LC := Lib.hid lC
  clear lC
  have LM := Lib.hid lM
  clear lM
  have LS := Lib.hid lS
  clear lS
  have HB := Lib.hid (Below.refl w.heap.size w)
  go_enter Try.func3, Try.ntmps3
  go_wp2_with fail
  refine (head_any _).mono ?_
  rintro e w' ⟨rfl, hb⟩
  replace HB := Lib.hid (on_below HB.out hb)
  replace Ha := Lib.hid (Ha.out.below hb)
  replace Hb := Lib.hid (Hb.out.below hb)
  clear hb
  go_wp2_with fail
  refine (few_b _ _ _ _ FA.out _).mono ?_
  rintro e w' ⟨rfl, rfl⟩
  go_wp2_with fail
  refine (few_b _ _ _ _ FB.out _).mono ?_
  rintro e w' ⟨rfl, rfl⟩
  go_wp2_with fail
  refine (valid_b _ _ a _ VA.out _ (ls_len Ha.out) Ha.out.sl).mono ?_
  rintro e w' ⟨rfl, hb⟩
  replace HB := Lib.hid (on_below HB.out hb)
  replace Ha := Lib.hid (Ha.out.below hb)
  replace Hb := Lib.hid (Hb.out.below hb)
  clear hb
  go_wp2_with fail
  refine (rvalid_b _ _ a _ VA.out _ (ls_len Ha.out) Ha.out.sl).mono ?_
  rintro e w' ⟨rfl, hb⟩
  replace HB := Lib.hid (on_below HB.out hb)
  replace Ha := Lib.hid (Ha.out.below hb)
  replace Hb := Lib.hid (Hb.out.below hb)
  clear hb
  go_wp2_with fail
  refine (union_any _ _ _ _ _ _ _ _ _ EU.out EE.out HCD.out Ha.out Hb.out).mono ?_
  rintro e w' ⟨AX, CX, rfl, hl, hb⟩
  replace HB := Lib.hid (on_below HB.out hb)
  replace Ha := Lib.hid (Ha.out.below hb)
  replace Hb := Lib.hid (Hb.out.below hb)
  have HX := Lib.hid hl
  clear hb hl
  go_wp2_with fail
  refine (runion_any _ _ _ _ _ _ _ _ _ EU.out EE.out (ls_len Ha.out) (ls_len Hb.out) HCD.out Ha.out.sl Hb.out.sl).mono ?_
  rintro e w' ⟨AY, CY, rfl, hl, hb⟩
  replace HB := Lib.hid (on_below HB.out hb)
  replace Ha := Lib.hid (Ha.out.below hb)
  replace Hb := Lib.hid (Hb.out.below hb)
  replace HX := Lib.hid (HX.out.below hb)
  have HY := Lib.hid hl
  clear hb hl
  go_wp2_with fail
  refine (same_z _ _ _ _ _ _ LU.out HX.out HY.out).mono ?_
  rintro e w' ⟨rfl, hb⟩
  replace HB := Lib.hid (on_below HB.out hb)
  replace Ha := Lib.hid (Ha.out.below hb)
  replace Hb := Lib.hid (Hb.out.below hb)
  replace HX := Lib.hid (HX.out.below hb)
  replace HY := Lib.hid (HY.out.below hb)
  clear hb
  go_wp2_with fail
  clear HX HY
  refine (common_any _ _ _ _ _ _ _ _ _ EC.out EE.out HCD.out Ha.out Hb.out).mono ?_
  rintro e w' ⟨AX, CX, rfl, hl, hb⟩
  replace HB := Lib.hid (on_below HB.out hb)
  replace Ha := Lib.hid (Ha.out.below hb)
  replace Hb := Lib.hid (Hb.out.below hb)
  have HX := Lib.hid hl
  clear hb hl
  go_wp2_with fail
  refine (rcommon_any _ _ _ _ _ _ _ _ _ EC.out EE.out (ls_len Ha.out) (ls_len Hb.out) HCD.out Ha.out.sl Hb.out.sl).mono ?_
  rintro e w' ⟨AY, CY, rfl, hl, hb⟩
  replace HB := Lib.hid (on_below HB.out hb)
  replace Ha := Lib.hid (Ha.out.below hb)
  replace Hb := Lib.hid (Hb.out.below hb)
  replace HX := Lib.hid (HX.out.below hb)
  have HY := Lib.hid hl
  clear hb hl
  go_wp2_with fail
  refine (same_z _ _ _ _ _ _ LC.out HX.out HY.out).mono ?_
  rintro e w' ⟨rfl, hb⟩
  replace HB := Lib.hid (on_below HB.out hb)
  replace Ha := Lib.hid (Ha.out.below hb)
  replace Hb := Lib.hid (Hb.out.below hb)
  replace HX := Lib.hid (HX.out.below hb)
  replace HY := Lib.hid (HY.out.below hb)
  clear hb
  go_wp2_with fail
  clear HX HY
  refine (minus_any _ _ _ _ _ _ _ _ _ EM.out EE.out HCD.out Ha.out Hb.out).mono ?_
  rintro e w' ⟨AX, CX, rfl, hl, hb⟩
  replace HB := Lib.hid (on_below HB.out hb)
  replace Ha := Lib.hid (Ha.out.below hb)
  replace Hb := Lib.hid (Hb.out.below hb)
  have HX := Lib.hid hl
  clear hb hl
  go_wp2_with fail
  refine (rminus_any _ _ _ _ _ _ _ _ _ EM.out EE.out (ls_len Ha.out) (ls_len Hb.out) HCD.out Ha.out.sl Hb.out.sl).mono ?_
  rintro e w' ⟨AY, CY, rfl, hl, hb⟩
  replace HB := Lib.hid (on_below HB.out hb)
  replace Ha := Lib.hid (Ha.out.below hb)
  replace Hb := Lib.hid (Hb.out.below hb)
  replace HX := Lib.hid (HX.out.below hb)
  have HY := Lib.hid hl
  clear hb hl
  go_wp2_with fail
  refine (same_z _ _ _ _ _ _ LM.out HX.out HY.out).mono ?_
  rintro e w' ⟨rfl, hb⟩
  replace HB := Lib.hid (on_below HB.out hb)
  replace Ha := Lib.hid (Ha.out.below hb)
  replace Hb := Lib.hid (Hb.out.below hb)
  replace HX := Lib.hid (HX.out.below hb)
  replace HY := Lib.hid (HY.out.below hb)
  clear hb
  go_wp2_with fail
  clear HX HY
  refine (shift_any _ _ _ d _ _ _ ES.out ET.out (ls_len Ha.out) Ha.out).mono ?_
  rintro e w' ⟨AX, CX, rfl, hl, hb⟩
  replace HB := Lib.hid (on_below HB.out hb)
  replace Ha := Lib.hid (Ha.out.below hb)
  replace Hb := Lib.hid (Hb.out.below hb)
  have HX := Lib.hid hl
  clear hb hl
  go_wp2_with fail
  refine (rshift_any _ _ _ d _ _ _ ES.out ET.out (ls_len Ha.out) Ha.out.sl).mono ?_
  rintro e w' ⟨AY, CY, rfl, hl, hb⟩
  replace HB := Lib.hid (on_below HB.out hb)
  replace Ha := Lib.hid (Ha.out.below hb)
  replace Hb := Lib.hid (Hb.out.below hb)
  replace HX := Lib.hid (HX.out.below hb)
  have HY := Lib.hid hl
  clear hb hl
  go_wp2_with fail
  refine (same_z _ _ _ _ _ _ LS.out HX.out HY.out).mono ?_
  rintro e w' ⟨rfl, hb⟩
  replace HB := Lib.hid (on_below HB.out hb)
  replace Ha := Lib.hid (Ha.out.below hb)
  replace Hb := Lib.hid (Hb.out.below hb)
  replace HX := Lib.hid (HX.out.below hb)
  replace HY := Lib.hid (HY.out.below hb)
  clear hb
  go_wp2_with fail
  clear HX HY
  refine (len_any _ _ _ _ _ _ EN.out EEN.out (ls_len Ha.out) Ha.out.sl).mono ?_
  rintro e w' ⟨rfl, hb⟩
  replace HB := Lib.hid (on_below HB.out hb)
  replace Ha := Lib.hid (Ha.out.below hb)
  replace Hb := Lib.hid (Hb.out.below hb)
  clear hb
  go_wp2_with fail
  refine (rlen_any _ _ _ _ _ _ EN.out EEN.out (ls_len Ha.out) Ha.out.sl).mono ?_
  rintro e w' ⟨rfl, hb⟩
  replace HB := Lib.hid (on_below HB.out hb)
  replace Ha := Lib.hid (Ha.out.below hb)
  replace Hb := Lib.hid (Hb.out.below hb)
  clear hb
  go_wp2_with fail
  refine (hasg_any _ _ _ m _ _ _ EH.out EEH.out (ls_len Ha.out) Ha.out).mono ?_
  rintro e w' ⟨rfl, hb⟩
  replace HB := Lib.hid (on_below HB.out hb)
  replace Ha := Lib.hid (Ha.out.below hb)
  replace Hb := Lib.hid (Hb.out.below hb)
  clear hb
  go_wp2_with fail
  refine (rhasf_any _ _ _ m _ _ _ EH.out EEH.out (ls_len Ha.out) Ha.out.sl).mono ?_
  rintro e w' ⟨rfl, hb⟩
  replace HB := Lib.hid (on_below HB.out hb)
  replace Ha := Lib.hid (Ha.out.below hb)
  replace Hb := Lib.hid (Hb.out.below hb)
  clear hb
  go_wp2_with fail
  go_ret
  exact ⟨rfl, HB.out⟩
theorem cmbL_len {op : Bool → Bool → Bool} (h0 : op false false = false) {a b : List Spn} (hcd : (vldS a && vldS b) = true → a.length + b.length ≤ 500) : (cmbL op a b).length ≤ 1000 := by
  unfold cmbL
  split
  · rename_i hv
    have ⟨vx, vy⟩ : vldS a = true ∧ vldS b = true := by simpa using hv
    exact cmb_len a b h0 vx vy (hcd hv)
  · simp
theorem shL_len {a : List Spn} {d : Int} : (shL a d).length ≤ 1000 := by
  unfold shL
  split
  · rename_i hv
    have hv2 : shB a d = true := by simp at hv; exact hv.1
    rw [sh_len]
    exact (vldS_iff.1 (shB_iff.1 hv2).1).1
  · simp
theorem walk (aA : Option Addr) (aC : Nat) (a : List Spn) (bA : Option Addr) (bC : Nat) (b : List Spn) (m : Int) (im : I64 m) (d : Int) (id_ : I64 d) (w : World) (la : Ls w aA aC a) (lb : Ls w bA bC b) :
    Calls Try.prog 3 #[.slice aA a.length aC, .slice bA b.length bC, .int .i64 m, .int .i64 d] w fun e w' => e = .returned (.bool true) ∧ Below w.heap.size w w' := by
  have big : ∀ {x : List Spn}, vldS x = true → x.length ≤ 1000 := fun h => (vldS_iff.1 h).1
  by_cases ga : a.length ≤ 1000
  · cases fa : decide (a.length ≤ 40) with
    | false => exact no aA aC a bA bC b m im d id_ w la lb fa ga
    | true =>
      have fa' : a.length ≤ 40 := of_decide_eq_true fa
      by_cases gb : b.length ≤ 1000
      · cases fb : decide (b.length ≤ 40) with
        | false => exact no_few aA aC a bA bC b m im d id_ w la lb fa fb gb
        | true =>
          have fb' : b.length ≤ 40 := of_decide_eq_true fb
          have hcd : (vldS a && vldS b) = true → a.length + b.length ≤ 500 := fun _ => by omega
          exact ok_few_few aA aC a bA bC b m im d id_ w la lb fa fb _ rfl _ _ _ _ _ _ _ _ _ _ rfl rfl rfl rfl rfl rfl rfl rfl rfl rfl hcd (cmbL_len rfl hcd) (cmbL_len rfl hcd) (cmbL_len rfl hcd) shL_len
      · have fb : decide (b.length ≤ 40) = false := by simp; omega
        have hcd : (vldS a && vldS b) = true → a.length + b.length ≤ 500 := fun h => by
          have := big (x := b) (by simp at h; exact h.2)
          omega
        exact ok_few_big aA aC a bA bC b m im d id_ w la lb fa fb (by omega) _ rfl _ _ _ _ _ _ _ _ _ _ rfl rfl rfl rfl rfl rfl rfl rfl rfl rfl hcd (cmbL_len rfl hcd) (cmbL_len rfl hcd) (cmbL_len rfl hcd) shL_len
  · have fa : decide (a.length ≤ 40) = false := by simp; omega
    have hcd : (vldS a && vldS b) = true → a.length + b.length ≤ 500 := fun h => by
      have := big (x := a) (by simp at h; exact h.1)
      omega
    by_cases gb : b.length ≤ 1000
    · cases fb : decide (b.length ≤ 40) with
      | false => exact no_big aA aC a bA bC b m im d id_ w la lb fa (by omega) fb gb
      | true => exact ok_big_few aA aC a bA bC b m im d id_ w la lb fa (by omega) fb _ rfl _ _ _ _ _ _ _ _ _ _ rfl rfl rfl rfl rfl rfl rfl rfl rfl rfl hcd (cmbL_len rfl hcd) (cmbL_len rfl hcd) (cmbL_len rfl hcd) shL_len
    · have fb : decide (b.length ≤ 40) = false := by simp; omega
      exact ok_big_big aA aC a bA bC b m im d id_ w la lb fa (by omega) fb (by omega) _ rfl _ _ _ _ _ _ _ _ _ _ rfl rfl rfl rfl rfl rfl rfl rfl rfl rfl hcd (cmbL_len rfl hcd) (cmbL_len rfl hcd) (cmbL_len rfl hcd) shL_len

/-! ### The row -/
open Go.ChangeShapes Go.WideShapes Go.ChangeAt Go.Joins
theorem own : ownKnob Try.prog.godebug = none := by kernel_rfl
noncomputable def laidWorld (os : Os) : World := World.holding Try.prog os ⟨#[], #[], []⟩
theorem laidWorld_met (os : Os) (args : Array Value) : laidMet Try.prog [] ((laidWorld os).forCall (fun _ _ => 0) ⟨#[], args, []⟩).memory :=
  laidMet_of_run' 8 (by kernel_rfl) (by kernel_rfl)

set_option maxRecDepth 100000 in
theorem contract (H : Type) (enc : TypeId × Value → H) (W : World) (base : Nat) (args : Array Value) (ds gs : List (DataW H)) (before : List MemPlace)
    (hval : ∀ (j : Nat) t v, Try.f3.params[j]? = some t → args[j]? = some v → Value.okWide Try.prog W .any base t v)
    (hW : DataW.Whole enc Try.prog Try.f3.params.toList Rows.spanMatchesReferenceSpec.vars false W args.toList ds gs before) :
    Calls Try.prog 3 args W fun e W' => ∃ v, e = .returned v ∧ Rows.spanMatchesReferenceSpec.post enc Try.prog Try.f3 false true false false W args v W' := by
  have hW' := hW
  have hold : ∀ q ∈ before, decide (q.block < W.heap.size) = true := fun q hq => by simpa using hW.lt q hq
  obtain ⟨p, q, hA0, hV, rfl, hfz, hnd⟩ := hW
  have hA : DataW.TrodAll enc Try.prog W 0 (fun _ => true) true Try.f3.params.toList args.toList ds p := hA0
  rw [Try.params3] at hA hval
  obtain ⟨v0, vs0, d0, ds0, p0, q0, hargs, rfl, rfl, h0, r0⟩ := trodAll_cons hA
  obtain ⟨v1, vs1, d1, ds1, p1, q1, rfl, rfl, rfl, h1, r1⟩ := trodAll_cons r0
  obtain ⟨v2, vs2, d2, ds2, p2, q2, rfl, rfl, rfl, h2, r2⟩ := trodAll_cons r1
  obtain ⟨v3, vs3, d3, ds3, p3, q3, rfl, rfl, rfl, h3, r3⟩ := trodAll_cons r2
  obtain ⟨rfl, rfl, rfl⟩ := trodAll_nil r3
  obtain rfl : args = #[v0, v1, v2, v3] := Array.toList_inj.1 hargs
  obtain ⟨rfl, rfl⟩ := trodVars_none hV
  obtain ⟨aA, aC, a, rfl, la, ja, shuta⟩ := open_spans (hval 0 22 v0 rfl rfl) h0
  obtain ⟨bA, bC, b, rfl, lb, jb, shutb⟩ := open_spans (hval 1 22 v1 rfl rfl) h1
  obtain ⟨m, rfl, rfl, rfl, wm⟩ := open_int Try.underlying3 (hval 2 3 v2 rfl rfl) h2
  obtain ⟨d, rfl, rfl, rfl, wd⟩ := open_int Try.underlying3 (hval 3 3 v3 rfl rfl) h3
  clear hA0
  refine (walk aA aC a bA bC b m (wf_i wm) d (wf_i wd) W la lb).mono fun e W' ⟨he, bel⟩ => ?_
  subst he
  exact ⟨_, rfl, _, _, _, [], _, [], hW', trodAll_mk1 (shut_bool Try.underlying4 _), (trodAll_cons_mk (shuta W' (fun b => decide (b < W.heap.size)) bel (fun q hq => hold q (by simp [hq]))) (trodAll_cons_mk (shutb W' (fun b => decide (b < W.heap.size)) bel (fun q hq => hold q (by simp [hq]))) (trodAll_cons_mk (shut_int Try.underlying3 wm) (trodAll_cons_mk (shut_int Try.underlying3 wd) trodAll_mk0)))), rfl, bel.frame _, fun h => by cases h⟩

theorem reads (os : Os) {H : Type} (enc : TypeId × Value → H) : ∃ places, DataW.whole enc Try.prog ((laidWorld os).forCall (fun _ _ => 0) ⟨#[], #[.slice none 0 0, .slice none 0 0, .int .i64 0, .int .i64 0], []⟩).memory Try.f3.params.toList Rows.spanMatchesReferenceSpec.vars false (#[.slice none 0 0, .slice none 0 0, .int .i64 0, .int .i64 0] : Array Value).toList 8 = some ([.nil, .nil, .lit (.int .i64 0), .lit (.int .i64 0)], [], places) :=
  ⟨[], by kernel_rfl⟩

set_option maxRecDepth 100000 in
theorem lifted (os : Os) (started : os.Started) (H : Type) (enc : TypeId × Value → H) (F : Stop.Interp) :
    ReturnsInHanded {} Try.checked os 3 .any ((OpenSpec.ofChange Rows.spanMatchesReferenceSpec).preRow enc Try.prog Try.f3 Rows.spanMatchesReferenceRow.domain false Rows.spanMatchesReferenceRow.laid) (((OpenSpec.ofChange Rows.spanMatchesReferenceSpec).at F).post enc Try.prog Try.f3 false true false false) := by
  obtain ⟨places, hx⟩ := reads os enc
  refine returnsInHanded_of_row (C := Try.checked) (s := OpenSpec.ofChange Rows.spanMatchesReferenceSpec) own started (by kernel_rfl) Try.func3
    (witness_row_atRef (enc := enc) (C := Try.checked) false (laidWorld os) #[.slice none 0 0, .slice none 0 0, .int .i64 0, .int .i64 0] rfl (by kernel_rfl) (by kernel_rfl) (by kernel_rfl)
      (OpenSpec.preRow_of_cond 8 hx (by kernel_rfl) (fun k hk => by cases hk) (by kernel_rfl) (laidWorld_met os _))) ?_
  intro W base args ds gs before hval hW _ hcond _ hL hsh _
  exact contract H enc W base args ds gs before hval hW

/-- The statement. -/
theorem said : Rows.SpanMatchesReferenceSaid :=
  OpenClaim.holds_of_cond 3 Try.f3 rfl rfl rfl rfl rfl rfl rfl ⟨rfl, rfl, rfl, rfl, rfl⟩ rfl rfl rfl rfl rfl (by kernel_rfl) Try.func3 (by kernel_rfl)
    (of_decide_eq_true (by kernel_rfl)) (by unfold Func.isWrapper; first | (rw [if_pos (by decide +kernel)]; kernel_rfl) | (rw [if_neg (by decide +kernel)]; exact ⟨rfl, rfl⟩))
    (fun os started H enc _ F => by rw [OpenClaim.pre_eq_preRow]; exact lifted os started H enc F)
end Go.Proofs.Ytgdgpfpihpofdaa.spanMatchesReference
