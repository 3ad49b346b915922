/-
  SpanShifts: a list that is shifted has the shifted minutes, and as many; shifted back it is the list; the union of lists that are shifted is their union, shifted; a list is refused exactly if one of its minutes would be none: for any slices of spans and ints.
  Conditions: none besides the row's.
-/
import Derived.Test.YtgdgpfpihpofdaaSpnX
import Derived.Test.YtgdgpfpihpofdaaSpnW
import Derived.Test.YtgdgpfpihpofdaaRows
import Derived.ProofKit
import Derived.OpenShut
import Derived.Deep.DeepHandedRow
import Derived.Deep.DeepWitnessRowRef
import Derived.MakeChecks
namespace Go.Proofs.Ytgdgpfpihpofdaa.spanShifts
open Go.RowKit Go.Sort
open Go.RowKit (Below)
set_option linter.unusedVariables false
set_option linter.unusedSimpArgs false
theorem pair_b (A B : Option Addr) (C D : Nat) (xs ys : List Spn) (w : World) (b : Bool) (hb : pr xs ys = b) (hl : xs.length ≤ 9223372036854775807) (hl2 : ys.length ≤ 9223372036854775807) (hx : SlS w A xs) (hy : SlS w B ys) :
    Calls Try.prog 27 #[.slice A xs.length C, .slice B ys.length D] w fun e w' => e = .returned (.bool b) ∧ Below w.heap.size w w' := by subst hb; exact pair_any A B C D xs ys w hl hl2 hx hy
theorem ls_len {w : World} {A : Option Addr} {C : Nat} {xs : List Spn} (h : Ls w A C xs) : xs.length ≤ 9223372036854775807 := Nat.le_trans h.cap.1 h.cap.2

set_option maxRecDepth 100000 in
set_option maxHeartbeats 2000000 in
theorem no1 (aA : Option Addr) (aC : Nat) (a : List Spn) (bA : Option Addr) (bC : Nat) (b : List Spn) (m : Int) (im : I64 m) (d : Int) (id_ : I64 d) (w : World) (la : Ls w aA aC a) (lb : Ls w bA bC b) (hp : pr a b = false) :
    Calls Try.prog 8 #[.slice aA a.length aC, .slice bA b.length bC, .int .i64 m, .int .i64 d] w fun e w' => e = .returned (.bool true) ∧ Below w.heap.size w w' := by
  have Ha := Lib.hid la
  clear la
  have Hb := Lib.hid lb
  clear lb
  have HP := Lib.hid hp
  clear hp
  have HB := Lib.hid (Below.refl w.heap.size w)
  go_enter Try.func8, Try.ntmps8
  go_wp2_with fail
  refine (head_any _).mono ?_
  rintro e w' ⟨rfl, hb⟩
  replace HB := Lib.hid (on_below HB.out hb)
  replace Ha := Lib.hid (Ha.out.below hb)
  replace Hb := Lib.hid (Hb.out.below hb)
  clear hb
  go_wp2_with fail
  refine (pair_b _ _ _ _ a b _ _ HP.out (ls_len Ha.out) (ls_len Hb.out) Ha.out.sl Hb.out.sl).mono ?_
  rintro e w' ⟨rfl, hb⟩
  replace HB := Lib.hid (on_below HB.out hb)
  replace Ha := Lib.hid (Ha.out.below hb)
  replace Hb := Lib.hid (Hb.out.below hb)
  clear hb
  go_wp2_with fail
  go_ret
  exact ⟨rfl, HB.out⟩
set_option maxRecDepth 100000 in
set_option maxHeartbeats 2000000 in
theorem no2 (aA : Option Addr) (aC : Nat) (a : List Spn) (bA : Option Addr) (bC : Nat) (b : List Spn) (m : Int) (im : I64 m) (d : Int) (id_ : I64 d) (w : World) (la : Ls w aA aC a) (lb : Ls w bA bC b) (hp : pr a b = true) (hd : d < -600000) :
    Calls Try.prog 8 #[.slice aA a.length aC, .slice bA b.length bC, .int .i64 m, .int .i64 d] w fun e w' => e = .returned (.bool true) ∧ Below w.heap.size w w' := by
  have Ha := Lib.hid la
  clear la
  have Hb := Lib.hid lb
  clear lb
  have HP := Lib.hid hp
  clear hp
  have HB := Lib.hid (Below.refl w.heap.size w)
  go_enter Try.func8, Try.ntmps8
  go_wp2_with fail
  refine (head_any _).mono ?_
  rintro e w' ⟨rfl, hb⟩
  replace HB := Lib.hid (on_below HB.out hb)
  replace Ha := Lib.hid (Ha.out.below hb)
  replace Hb := Lib.hid (Hb.out.below hb)
  clear hb
  go_wp2_with fail
  refine (pair_b _ _ _ _ a b _ _ HP.out (ls_len Ha.out) (ls_len Hb.out) Ha.out.sl Hb.out.sl).mono ?_
  rintro e w' ⟨rfl, hb⟩
  replace HB := Lib.hid (on_below HB.out hb)
  replace Ha := Lib.hid (Ha.out.below hb)
  replace Hb := Lib.hid (Hb.out.below hb)
  clear hb
  go_wp2_with fail
  go_ret
  exact ⟨rfl, HB.out⟩
set_option maxRecDepth 100000 in
set_option maxHeartbeats 2000000 in
theorem no3 (aA : Option Addr) (aC : Nat) (a : List Spn) (bA : Option Addr) (bC : Nat) (b : List Spn) (m : Int) (im : I64 m) (d : Int) (id_ : I64 d) (w : World) (la : Ls w aA aC a) (lb : Ls w bA bC b) (hp : pr a b = true) (hd : decide (d < -600000) = false) (hd2 : 600000 < d) :
    Calls Try.prog 8 #[.slice aA a.length aC, .slice bA b.length bC, .int .i64 m, .int .i64 d] w fun e w' => e = .returned (.bool true) ∧ Below w.heap.size w w' := by
  have Ha := Lib.hid la
  clear la
  have Hb := Lib.hid lb
  clear lb
  have HP := Lib.hid hp
  clear hp
  have HB := Lib.hid (Below.refl w.heap.size w)
  go_enter Try.func8, Try.ntmps8
  go_wp2_with fail
  refine (head_any _).mono ?_
  rintro e w' ⟨rfl, hb⟩
  replace HB := Lib.hid (on_below HB.out hb)
  replace Ha := Lib.hid (Ha.out.below hb)
  replace Hb := Lib.hid (Hb.out.below hb)
  clear hb
  go_wp2_with fail
  refine (pair_b _ _ _ _ a b _ _ HP.out (ls_len Ha.out) (ls_len Hb.out) Ha.out.sl Hb.out.sl).mono ?_
  rintro e w' ⟨rfl, hb⟩
  replace HB := Lib.hid (on_below HB.out hb)
  replace Ha := Lib.hid (Ha.out.below hb)
  replace Hb := Lib.hid (Hb.out.below hb)
  clear hb
  go_wp2_with fail
  go_ret
  exact ⟨rfl, HB.out⟩
set_option maxRecDepth 100000 in
set_option maxHeartbeats 4000000 in
theorem out0 (aA : Option Addr) (aC : Nat) (a : List Spn) (bA : Option Addr) (bC : Nat) (b : List Spn) (m : Int) (im : I64 m) (d : Int) (id_ : I64 d) (w : World) (la : Ls w aA aC a) (lb : Ls w bA bC b) (hp : pr a b = true) (hd : decide (d < -600000) = false) (hd2 : decide (600000 < d) = false) (d1 : -600000 ≤ d) (d2 : d ≤ 600000) (U : List Spn) (hU : cmb opO a b = U) (va : vldS a = true) (vb : vldS b = true) (sa : shB a d = true) (sb : shB b d = true) (sU : shB U d = true) (hl : a.length + b.length ≤ 500) (xa : lv a d = true) (xb : lv b d = true) (xU : lv U d = true) :
    Calls Try.prog 8 #[.slice aA a.length aC, .slice bA b.length bC, .int .i64 m, .int .i64 d] w fun e w' => e = .returned (.bool true) ∧ Below w.heap.size w w' := by
  have Ha := Lib.hid la
  clear la
  have Hb := Lib.hid lb
  clear lb
  have HP := Lib.hid hp
  clear hp
  have EU := Lib.hid hU
  clear hU
  have VA := Lib.hid va
  clear va
  have VB := Lib.hid vb
  clear vb
  have SA := Lib.hid sa
  clear sa
  have SB := Lib.hid sb
  clear sb
  have SU := Lib.hid sU
  clear sU
  have HL := Lib.hid hl
  clear hl
  have La := Lib.hid xa
  clear xa
  have Lb := Lib.hid xb
  clear xb
  have LU := Lib.hid xU
  clear xU
  have HB := Lib.hid (Below.refl w.heap.size w)
  go_enter Try.func8, Try.ntmps8
  go_wp2_with fail
  refine (head_any _).mono ?_
  rintro e w' ⟨rfl, hb⟩
  replace HB := Lib.hid (on_below HB.out hb)
  replace Ha := Lib.hid (Ha.out.below hb)
  replace Hb := Lib.hid (Hb.out.below hb)
  clear hb
  go_wp2_with fail
  refine (pair_b _ _ _ _ a b _ _ HP.out (ls_len Ha.out) (ls_len Hb.out) Ha.out.sl Hb.out.sl).mono ?_
  rintro e w' ⟨rfl, hb⟩
  replace HB := Lib.hid (on_below HB.out hb)
  replace Ha := Lib.hid (Ha.out.below hb)
  replace Hb := Lib.hid (Hb.out.below hb)
  clear hb
  go_wp2_with fail
  refine (shift_out _ _ _ _ d SA.out La.out Ha.out).mono ?_
  rintro e w' ⟨rfl, hb⟩
  replace HB := Lib.hid (on_below HB.out hb)
  replace Ha := Lib.hid (Ha.out.below hb)
  replace Hb := Lib.hid (Hb.out.below hb)
  clear hb
  go_wp2_with fail
  refine (shift_out _ _ _ _ d SB.out Lb.out Hb.out).mono ?_
  rintro e w' ⟨rfl, hb⟩
  replace HB := Lib.hid (on_below HB.out hb)
  replace Ha := Lib.hid (Ha.out.below hb)
  replace Hb := Lib.hid (Hb.out.below hb)
  clear hb
  go_wp2_with fail
  refine (union_got _ _ _ _ _ _ _ _ EU.out VA.out VB.out HL.out Ha.out Hb.out).mono ?_
  rintro e w' ⟨AU, CU, rfl, hl, hb⟩
  replace HB := Lib.hid (on_below HB.out hb)
  replace Ha := Lib.hid (Ha.out.below hb)
  replace Hb := Lib.hid (Hb.out.below hb)
  have HU := Lib.hid hl
  clear hb hl
  go_wp2_with fail
  refine (shift_out _ _ _ _ d SU.out LU.out HU.out).mono ?_
  rintro e w' ⟨rfl, hb⟩
  replace HB := Lib.hid (on_below HB.out hb)
  replace Ha := Lib.hid (Ha.out.below hb)
  replace Hb := Lib.hid (Hb.out.below hb)
  replace HU := Lib.hid (HU.out.below hb)
  clear hb
  go_wp2_with fail
  refine (leaves_any _ _ _ d true _ La.out VA.out d1 d2 Ha.out.sl).mono ?_
  rintro e w' ⟨rfl, rfl⟩
  go_wp2_with fail
  refine (leaves_any _ _ _ d true _ Lb.out VB.out d1 d2 Hb.out.sl).mono ?_
  rintro e w' ⟨rfl, rfl⟩
  go_wp2_with fail
  go_ret
  exact ⟨rfl, HB.out⟩
set_option maxRecDepth 100000 in
set_option maxHeartbeats 4000000 in
theorem out1 (aA : Option Addr) (aC : Nat) (a : List Spn) (bA : Option Addr) (bC : Nat) (b : List Spn) (m : Int) (im : I64 m) (d : Int) (id_ : I64 d) (w : World) (la : Ls w aA aC a) (lb : Ls w bA bC b) (hp : pr a b = true) (hd : decide (d < -600000) = false) (hd2 : decide (600000 < d) = false) (d1 : -600000 ≤ d) (d2 : d ≤ 600000) (U : List Spn) (hU : cmb opO a b = U) (va : vldS a = true) (vb : vldS b = true) (sa : shB a d = true) (sb : shB b d = true) (sU : shB U d = true) (hl : a.length + b.length ≤ 500) (xa : lv a d = true) (xb : lv b d = false) (xU : lv U d = true) (Y : List Spn) (eY : shS b d = Y) :
    Calls Try.prog 8 #[.slice aA a.length aC, .slice bA b.length bC, .int .i64 m, .int .i64 d] w fun e w' => e = .returned (.bool true) ∧ Below w.heap.size w w' := by
  have Ha := Lib.hid la
  clear la
  have Hb := Lib.hid lb
  clear lb
  have HP := Lib.hid hp
  clear hp
  have EU := Lib.hid hU
  clear hU
  have VA := Lib.hid va
  clear va
  have VB := Lib.hid vb
  clear vb
  have SA := Lib.hid sa
  clear sa
  have SB := Lib.hid sb
  clear sb
  have SU := Lib.hid sU
  clear sU
  have HL := Lib.hid hl
  clear hl
  have La := Lib.hid xa
  clear xa
  have Lb := Lib.hid xb
  clear xb
  have LU := Lib.hid xU
  clear xU
  have EY := Lib.hid eY
  clear eY
  have HB := Lib.hid (Below.refl w.heap.size w)
  go_enter Try.func8, Try.ntmps8
  go_wp2_with fail
  refine (head_any _).mono ?_
  rintro e w' ⟨rfl, hb⟩
  replace HB := Lib.hid (on_below HB.out hb)
  replace Ha := Lib.hid (Ha.out.below hb)
  replace Hb := Lib.hid (Hb.out.below hb)
  clear hb
  go_wp2_with fail
  refine (pair_b _ _ _ _ a b _ _ HP.out (ls_len Ha.out) (ls_len Hb.out) Ha.out.sl Hb.out.sl).mono ?_
  rintro e w' ⟨rfl, hb⟩
  replace HB := Lib.hid (on_below HB.out hb)
  replace Ha := Lib.hid (Ha.out.below hb)
  replace Hb := Lib.hid (Hb.out.below hb)
  clear hb
  go_wp2_with fail
  refine (shift_out _ _ _ _ d SA.out La.out Ha.out).mono ?_
  rintro e w' ⟨rfl, hb⟩
  replace HB := Lib.hid (on_below HB.out hb)
  replace Ha := Lib.hid (Ha.out.below hb)
  replace Hb := Lib.hid (Hb.out.below hb)
  clear hb
  go_wp2_with fail
  refine (shift_got _ _ _ _ d _ EY.out SB.out Lb.out Hb.out).mono ?_
  rintro e w' ⟨ASb, CSb, rfl, hl, hb⟩
  replace HB := Lib.hid (on_below HB.out hb)
  replace Ha := Lib.hid (Ha.out.below hb)
  replace Hb := Lib.hid (Hb.out.below hb)
  have HSb := Lib.hid hl
  clear hb hl
  go_wp2_with fail
  refine (union_got _ _ _ _ _ _ _ _ EU.out VA.out VB.out HL.out Ha.out Hb.out).mono ?_
  rintro e w' ⟨AU, CU, rfl, hl, hb⟩
  replace HB := Lib.hid (on_below HB.out hb)
  replace Ha := Lib.hid (Ha.out.below hb)
  replace Hb := Lib.hid (Hb.out.below hb)
  replace HSb := Lib.hid (HSb.out.below hb)
  have HU := Lib.hid hl
  clear hb hl
  go_wp2_with fail
  refine (shift_out _ _ _ _ d SU.out LU.out HU.out).mono ?_
  rintro e w' ⟨rfl, hb⟩
  replace HB := Lib.hid (on_below HB.out hb)
  replace Ha := Lib.hid (Ha.out.below hb)
  replace Hb := Lib.hid (Hb.out.below hb)
  replace HSb := Lib.hid (HSb.out.below hb)
  replace HU := Lib.hid (HU.out.below hb)
  clear hb
  go_wp2_with fail
  refine (leaves_any _ _ _ d true _ La.out VA.out d1 d2 Ha.out.sl).mono ?_
  rintro e w' ⟨rfl, rfl⟩
  go_wp2_with fail
  refine (leaves_any _ _ _ d false _ Lb.out VB.out d1 d2 Hb.out.sl).mono ?_
  rintro e w' ⟨rfl, rfl⟩
  go_wp2_with fail
  go_ret
  exact ⟨rfl, HB.out⟩
set_option maxRecDepth 100000 in
set_option maxHeartbeats 4000000 in
theorem out2 (aA : Option Addr) (aC : Nat) (a : List Spn) (bA : Option Addr) (bC : Nat) (b : List Spn) (m : Int) (im : I64 m) (d : Int) (id_ : I64 d) (w : World) (la : Ls w aA aC a) (lb : Ls w bA bC b) (hp : pr a b = true) (hd : decide (d < -600000) = false) (hd2 : decide (600000 < d) = false) (d1 : -600000 ≤ d) (d2 : d ≤ 600000) (U : List Spn) (hU : cmb opO a b = U) (va : vldS a = true) (vb : vldS b = true) (sa : shB a d = true) (sb : shB b d = true) (sU : shB U d = true) (hl : a.length + b.length ≤ 500) (xa : lv a d = false) (xb : lv b d = true) (xU : lv U d = true) (X : List Spn) (eX : shS a d = X) :
    Calls Try.prog 8 #[.slice aA a.length aC, .slice bA b.length bC, .int .i64 m, .int .i64 d] w fun e w' => e = .returned (.bool true) ∧ Below w.heap.size w w' := by
  have Ha := Lib.hid la
  clear la
  have Hb := Lib.hid lb
  clear lb
  have HP := Lib.hid hp
  clear hp
  have EU := Lib.hid hU
  clear hU
  have VA := Lib.hid va
  clear va
  have VB := Lib.hid vb
  clear vb
  have SA := Lib.hid sa
  clear sa
  have SB := Lib.hid sb
  clear sb
  have SU := Lib.hid sU
  clear sU
  have HL := Lib.hid hl
  clear hl
  have La := Lib.hid xa
  clear xa
  have Lb := Lib.hid xb
  clear xb
  have LU := Lib.hid xU
  clear xU
  have EX := Lib.hid eX
  clear eX
  have HB := Lib.hid (Below.refl w.heap.size w)
  go_enter Try.func8, Try.ntmps8
  go_wp2_with fail
  refine (head_any _).mono ?_
  rintro e w' ⟨rfl, hb⟩
  replace HB := Lib.hid (on_below HB.out hb)
  replace Ha := Lib.hid (Ha.out.below hb)
  replace Hb := Lib.hid (Hb.out.below hb)
  clear hb
  go_wp2_with fail
  refine (pair_b _ _ _ _ a b _ _ HP.out (ls_len Ha.out) (ls_len Hb.out) Ha.out.sl Hb.out.sl).mono ?_
  rintro e w' ⟨rfl, hb⟩
  replace HB := Lib.hid (on_below HB.out hb)
  replace Ha := Lib.hid (Ha.out.below hb)
  replace Hb := Lib.hid (Hb.out.below hb)
  clear hb
  go_wp2_with fail
  refine (shift_got _ _ _ _ d _ EX.out SA.out La.out Ha.out).mono ?_
  rintro e w' ⟨ASa, CSa, rfl, hl, hb⟩
  replace HB := Lib.hid (on_below HB.out hb)
  replace Ha := Lib.hid (Ha.out.below hb)
  replace Hb := Lib.hid (Hb.out.below hb)
  have HSa := Lib.hid hl
  clear hb hl
  go_wp2_with fail
  refine (shift_out _ _ _ _ d SB.out Lb.out Hb.out).mono ?_
  rintro e w' ⟨rfl, hb⟩
  replace HB := Lib.hid (on_below HB.out hb)
  replace Ha := Lib.hid (Ha.out.below hb)
  replace Hb := Lib.hid (Hb.out.below hb)
  replace HSa := Lib.hid (HSa.out.below hb)
  clear hb
  go_wp2_with fail
  refine (union_got _ _ _ _ _ _ _ _ EU.out VA.out VB.out HL.out Ha.out Hb.out).mono ?_
  rintro e w' ⟨AU, CU, rfl, hl, hb⟩
  replace HB := Lib.hid (on_below HB.out hb)
  replace Ha := Lib.hid (Ha.out.below hb)
  replace Hb := Lib.hid (Hb.out.below hb)
  replace HSa := Lib.hid (HSa.out.below hb)
  have HU := Lib.hid hl
  clear hb hl
  go_wp2_with fail
  refine (shift_out _ _ _ _ d SU.out LU.out HU.out).mono ?_
  rintro e w' ⟨rfl, hb⟩
  replace HB := Lib.hid (on_below HB.out hb)
  replace Ha := Lib.hid (Ha.out.below hb)
  replace Hb := Lib.hid (Hb.out.below hb)
  replace HSa := Lib.hid (HSa.out.below hb)
  replace HU := Lib.hid (HU.out.below hb)
  clear hb
  go_wp2_with fail
  refine (leaves_any _ _ _ d false _ La.out VA.out d1 d2 Ha.out.sl).mono ?_
  rintro e w' ⟨rfl, rfl⟩
  go_wp2_with fail
  refine (leaves_any _ _ _ d true _ Lb.out VB.out d1 d2 Hb.out.sl).mono ?_
  rintro e w' ⟨rfl, rfl⟩
  go_wp2_with fail
  go_ret
  exact ⟨rfl, HB.out⟩
set_option maxRecDepth 100000 in
set_option maxHeartbeats 6000000 in
theorem in1 (aA : Option Addr) (aC : Nat) (a : List Spn) (bA : Option Addr) (bC : Nat) (b : List Spn) (m : Int) (im : I64 m) (d : Int) (id_ : I64 d) (w : World) (la : Ls w aA aC a) (lb : Ls w bA bC b) (hp : pr a b = true) (hd : decide (d < -600000) = false) (hd2 : decide (600000 < d) = false) (d1 : -600000 ≤ d) (d2 : d ≤ 600000) (U : List Spn) (hU : cmb opO a b = U) (va : vldS a = true) (vb : vldS b = true) (sa : shB a d = true) (sb : shB b d = true) (sU : shB U d = true) (hl : a.length + b.length ≤ 500) (xa : lv a d = false) (xb : lv b d = false) (xU : lv U d = false) (X Y Z : List Spn) (eX : shS a d = X) (eY : shS b d = Y) (eZ : shS U d = Z) (eB : shS X (-d) = a) (sX : shB X (-d) = true) (xX : lv X (-d) = false) (eV : cmb opO X Y = Z) (vX : vldS X = true) (vY : vldS Y = true) (zl : Z.length ≤ 1000) (l2 : X.length + Y.length ≤ 500) (n : Int) (p1 : cntS a = n) (p2 : cntS X = n) (hm : minu m = false) :
    Calls Try.prog 8 #[.slice aA a.length aC, .slice bA b.length bC, .int .i64 m, .int .i64 d] w fun e w' => e = .returned (.bool true) ∧ Below w.heap.size w w' := by
  have Ha := Lib.hid la
  clear la
  have Hb := Lib.hid lb
  clear lb
  have HP := Lib.hid hp
  clear hp
  have EU := Lib.hid hU
  clear hU
  have VA := Lib.hid va
  clear va
  have VB := Lib.hid vb
  clear vb
  have SA := Lib.hid sa
  clear sa
  have SB := Lib.hid sb
  clear sb
  have SU := Lib.hid sU
  clear sU
  have HL := Lib.hid hl
  clear hl
  have La := Lib.hid xa
  clear xa
  have Lb := Lib.hid xb
  clear xb
  have LU := Lib.hid xU
  clear xU
  have EX := Lib.hid eX
  clear eX
  have EY := Lib.hid eY
  clear eY
  have EZ := Lib.hid eZ
  clear eZ
  have EB := Lib.hid eB
  clear eB
  have SX := Lib.hid sX
  clear sX
  have LX := Lib.hid xX
  clear xX
  have EV := Lib.hid eV
  clear eV
  have VX := Lib.hid vX
  clear vX
  have VY := Lib.hid vY
  clear vY
  have ZL := Lib.hid zl
  clear zl
  have L2 := Lib.hid l2
  clear l2
  have P1 := Lib.hid p1
  clear p1
  have P2 := Lib.hid p2
  clear p2
  have KM := Lib.hid hm
  clear hm
  have HB := Lib.hid (Below.refl w.heap.size w)
  go_enter Try.func8, Try.ntmps8
  go_wp2_with fail
  refine (head_any _).mono ?_
  rintro e w' ⟨rfl, hb⟩
  replace HB := Lib.hid (on_below HB.out hb)
  replace Ha := Lib.hid (Ha.out.below hb)
  replace Hb := Lib.hid (Hb.out.below hb)
  clear hb
  go_wp2_with fail
  refine (pair_b _ _ _ _ a b _ _ HP.out (ls_len Ha.out) (ls_len Hb.out) Ha.out.sl Hb.out.sl).mono ?_
  rintro e w' ⟨rfl, hb⟩
  replace HB := Lib.hid (on_below HB.out hb)
  replace Ha := Lib.hid (Ha.out.below hb)
  replace Hb := Lib.hid (Hb.out.below hb)
  clear hb
  go_wp2_with fail
  refine (shift_got _ _ _ _ d _ EX.out SA.out La.out Ha.out).mono ?_
  rintro e w' ⟨ASa, CSa, rfl, hl, hb⟩
  replace HB := Lib.hid (on_below HB.out hb)
  replace Ha := Lib.hid (Ha.out.below hb)
  replace Hb := Lib.hid (Hb.out.below hb)
  have HSa := Lib.hid hl
  clear hb hl
  go_wp2_with fail
  refine (shift_got _ _ _ _ d _ EY.out SB.out Lb.out Hb.out).mono ?_
  rintro e w' ⟨ASb, CSb, rfl, hl, hb⟩
  replace HB := Lib.hid (on_below HB.out hb)
  replace Ha := Lib.hid (Ha.out.below hb)
  replace Hb := Lib.hid (Hb.out.below hb)
  replace HSa := Lib.hid (HSa.out.below hb)
  have HSb := Lib.hid hl
  clear hb hl
  go_wp2_with fail
  refine (union_got _ _ _ _ _ _ _ _ EU.out VA.out VB.out HL.out Ha.out Hb.out).mono ?_
  rintro e w' ⟨AU, CU, rfl, hl, hb⟩
  replace HB := Lib.hid (on_below HB.out hb)
  replace Ha := Lib.hid (Ha.out.below hb)
  replace Hb := Lib.hid (Hb.out.below hb)
  replace HSa := Lib.hid (HSa.out.below hb)
  replace HSb := Lib.hid (HSb.out.below hb)
  have HU := Lib.hid hl
  clear hb hl
  go_wp2_with fail
  refine (shift_got _ _ _ _ d _ EZ.out SU.out LU.out HU.out).mono ?_
  rintro e w' ⟨ASU2, CSU2, rfl, hl, hb⟩
  replace HB := Lib.hid (on_below HB.out hb)
  replace Ha := Lib.hid (Ha.out.below hb)
  replace Hb := Lib.hid (Hb.out.below hb)
  replace HSa := Lib.hid (HSa.out.below hb)
  replace HSb := Lib.hid (HSb.out.below hb)
  replace HU := Lib.hid (HU.out.below hb)
  have HSU2 := Lib.hid hl
  clear hb hl
  go_wp2_with fail
  refine (leaves_any _ _ _ d false _ La.out VA.out d1 d2 Ha.out.sl).mono ?_
  rintro e w' ⟨rfl, rfl⟩
  go_wp2_with fail
  refine (leaves_any _ _ _ d false _ Lb.out VB.out d1 d2 Hb.out.sl).mono ?_
  rintro e w' ⟨rfl, rfl⟩
  go_wp2_with fail
  refine (shift_got _ _ X _ (-d) a EB.out SX.out LX.out HSa.out).mono ?_
  rintro e w' ⟨ABk, CBk, rfl, hl, hb⟩
  replace HB := Lib.hid (on_below HB.out hb)
  replace Ha := Lib.hid (Ha.out.below hb)
  replace Hb := Lib.hid (Hb.out.below hb)
  replace HSa := Lib.hid (HSa.out.below hb)
  replace HSb := Lib.hid (HSb.out.below hb)
  replace HU := Lib.hid (HU.out.below hb)
  replace HSU2 := Lib.hid (HSU2.out.below hb)
  have HBk := Lib.hid hl
  clear hb hl
  go_wp2_with fail
  refine (union_got _ _ _ _ _ _ _ _ EV.out VX.out VY.out L2.out HSa.out HSb.out).mono ?_
  rintro e w' ⟨AV, CV, rfl, hl, hb⟩
  replace HB := Lib.hid (on_below HB.out hb)
  replace Ha := Lib.hid (Ha.out.below hb)
  replace Hb := Lib.hid (Hb.out.below hb)
  replace HSa := Lib.hid (HSa.out.below hb)
  replace HSb := Lib.hid (HSb.out.below hb)
  replace HU := Lib.hid (HU.out.below hb)
  replace HSU2 := Lib.hid (HSU2.out.below hb)
  replace HBk := Lib.hid (HBk.out.below hb)
  have HV := Lib.hid hl
  clear hb hl
  go_wp2_with fail
  refine (length_got _ _ _ _ _ P1.out VA.out Ha.out).mono ?_
  rintro e w' ⟨rfl, hb⟩
  replace HB := Lib.hid (on_below HB.out hb)
  replace Ha := Lib.hid (Ha.out.below hb)
  replace Hb := Lib.hid (Hb.out.below hb)
  replace HSa := Lib.hid (HSa.out.below hb)
  replace HSb := Lib.hid (HSb.out.below hb)
  replace HU := Lib.hid (HU.out.below hb)
  replace HSU2 := Lib.hid (HSU2.out.below hb)
  replace HBk := Lib.hid (HBk.out.below hb)
  replace HV := Lib.hid (HV.out.below hb)
  clear hb
  go_wp2_with fail
  refine (length_got _ _ _ _ _ P2.out VX.out HSa.out).mono ?_
  rintro e w' ⟨rfl, hb⟩
  replace HB := Lib.hid (on_below HB.out hb)
  replace Ha := Lib.hid (Ha.out.below hb)
  replace Hb := Lib.hid (Hb.out.below hb)
  replace HSa := Lib.hid (HSa.out.below hb)
  replace HSb := Lib.hid (HSb.out.below hb)
  replace HU := Lib.hid (HU.out.below hb)
  replace HSU2 := Lib.hid (HSU2.out.below hb)
  replace HBk := Lib.hid (HBk.out.below hb)
  replace HV := Lib.hid (HV.out.below hb)
  clear hb
  go_wp2_with fail
  refine (same_got _ _ _ _ a a _ true (by simp) (vldS_iff.1 VA.out).1 (vldS_iff.1 VA.out).1 HBk.out Ha.out).mono ?_
  rintro e w' ⟨rfl, hb⟩
  replace HB := Lib.hid (on_below HB.out hb)
  replace Ha := Lib.hid (Ha.out.below hb)
  replace Hb := Lib.hid (Hb.out.below hb)
  replace HSa := Lib.hid (HSa.out.below hb)
  replace HSb := Lib.hid (HSb.out.below hb)
  replace HU := Lib.hid (HU.out.below hb)
  replace HSU2 := Lib.hid (HSU2.out.below hb)
  replace HBk := Lib.hid (HBk.out.below hb)
  replace HV := Lib.hid (HV.out.below hb)
  clear hb
  go_wp2_with fail
  refine (same_got _ _ _ _ Z Z _ true (by simp) ZL.out ZL.out HV.out HSU2.out).mono ?_
  rintro e w' ⟨rfl, hb⟩
  replace HB := Lib.hid (on_below HB.out hb)
  replace Ha := Lib.hid (Ha.out.below hb)
  replace Hb := Lib.hid (Hb.out.below hb)
  replace HSa := Lib.hid (HSa.out.below hb)
  replace HSb := Lib.hid (HSb.out.below hb)
  replace HU := Lib.hid (HU.out.below hb)
  replace HSU2 := Lib.hid (HSU2.out.below hb)
  replace HBk := Lib.hid (HBk.out.below hb)
  replace HV := Lib.hid (HV.out.below hb)
  clear hb
  go_wp2_with fail
  refine (rminute_b m _ KM.out _).mono ?_
  rintro e w' ⟨rfl, rfl⟩
  go_wp2_with fail
  go_ret
  exact ⟨rfl, HB.out⟩
set_option maxRecDepth 100000 in
set_option maxHeartbeats 6000000 in
theorem in2 (aA : Option Addr) (aC : Nat) (a : List Spn) (bA : Option Addr) (bC : Nat) (b : List Spn) (m : Int) (im : I64 m) (d : Int) (id_ : I64 d) (w : World) (la : Ls w aA aC a) (lb : Ls w bA bC b) (hp : pr a b = true) (hd : decide (d < -600000) = false) (hd2 : decide (600000 < d) = false) (d1 : -600000 ≤ d) (d2 : d ≤ 600000) (U : List Spn) (hU : cmb opO a b = U) (va : vldS a = true) (vb : vldS b = true) (sa : shB a d = true) (sb : shB b d = true) (sU : shB U d = true) (hl : a.length + b.length ≤ 500) (xa : lv a d = false) (xb : lv b d = false) (xU : lv U d = false) (X Y Z : List Spn) (eX : shS a d = X) (eY : shS b d = Y) (eZ : shS U d = Z) (eB : shS X (-d) = a) (sX : shB X (-d) = true) (xX : lv X (-d) = false) (eV : cmb opO X Y = Z) (vX : vldS X = true) (vY : vldS Y = true) (zl : Z.length ≤ 1000) (l2 : X.length + Y.length ≤ 500) (n : Int) (p1 : cntS a = n) (p2 : cntS X = n) (hm : minu m = true) (m0 : 0 ≤ m) (m1 : m ≤ 600000) (hm2 : minu (m + d) = false) :
    Calls Try.prog 8 #[.slice aA a.length aC, .slice bA b.length bC, .int .i64 m, .int .i64 d] w fun e w' => e = .returned (.bool true) ∧ Below w.heap.size w w' := by
  have Ha := Lib.hid la
  clear la
  have Hb := Lib.hid lb
  clear lb
  have HP := Lib.hid hp
  clear hp
  have EU := Lib.hid hU
  clear hU
  have VA := Lib.hid va
  clear va
  have VB := Lib.hid vb
  clear vb
  have SA := Lib.hid sa
  clear sa
  have SB := Lib.hid sb
  clear sb
  have SU := Lib.hid sU
  clear sU
  have HL := Lib.hid hl
  clear hl
  have La := Lib.hid xa
  clear xa
  have Lb := Lib.hid xb
  clear xb
  have LU := Lib.hid xU
  clear xU
  have EX := Lib.hid eX
  clear eX
  have EY := Lib.hid eY
  clear eY
  have EZ := Lib.hid eZ
  clear eZ
  have EB := Lib.hid eB
  clear eB
  have SX := Lib.hid sX
  clear sX
  have LX := Lib.hid xX
  clear xX
  have EV := Lib.hid eV
  clear eV
  have VX := Lib.hid vX
  clear vX
  have VY := Lib.hid vY
  clear vY
  have ZL := Lib.hid zl
  clear zl
  have L2 := Lib.hid l2
  clear l2
  have P1 := Lib.hid p1
  clear p1
  have P2 := Lib.hid p2
  clear p2
  have KM := Lib.hid hm
  clear hm
  have KM2 := Lib.hid hm2
  clear hm2
  have HB := Lib.hid (Below.refl w.heap.size w)
  go_enter Try.func8, Try.ntmps8
  go_wp2_with fail
  refine (head_any _).mono ?_
  rintro e w' ⟨rfl, hb⟩
  replace HB := Lib.hid (on_below HB.out hb)
  replace Ha := Lib.hid (Ha.out.below hb)
  replace Hb := Lib.hid (Hb.out.below hb)
  clear hb
  go_wp2_with fail
  refine (pair_b _ _ _ _ a b _ _ HP.out (ls_len Ha.out) (ls_len Hb.out) Ha.out.sl Hb.out.sl).mono ?_
  rintro e w' ⟨rfl, hb⟩
  replace HB := Lib.hid (on_below HB.out hb)
  replace Ha := Lib.hid (Ha.out.below hb)
  replace Hb := Lib.hid (Hb.out.below hb)
  clear hb
  go_wp2_with fail
  refine (shift_got _ _ _ _ d _ EX.out SA.out La.out Ha.out).mono ?_
  rintro e w' ⟨ASa, CSa, rfl, hl, hb⟩
  replace HB := Lib.hid (on_below HB.out hb)
  replace Ha := Lib.hid (Ha.out.below hb)
  replace Hb := Lib.hid (Hb.out.below hb)
  have HSa := Lib.hid hl
  clear hb hl
  go_wp2_with fail
  refine (shift_got _ _ _ _ d _ EY.out SB.out Lb.out Hb.out).mono ?_
  rintro e w' ⟨ASb, CSb, rfl, hl, hb⟩
  replace HB := Lib.hid (on_below HB.out hb)
  replace Ha := Lib.hid (Ha.out.below hb)
  replace Hb := Lib.hid (Hb.out.below hb)
  replace HSa := Lib.hid (HSa.out.below hb)
  have HSb := Lib.hid hl
  clear hb hl
  go_wp2_with fail
  refine (union_got _ _ _ _ _ _ _ _ EU.out VA.out VB.out HL.out Ha.out Hb.out).mono ?_
  rintro e w' ⟨AU, CU, rfl, hl, hb⟩
  replace HB := Lib.hid (on_below HB.out hb)
  replace Ha := Lib.hid (Ha.out.below hb)
  replace Hb := Lib.hid (Hb.out.below hb)
  replace HSa := Lib.hid (HSa.out.below hb)
  replace HSb := Lib.hid (HSb.out.below hb)
  have HU := Lib.hid hl
  clear hb hl
  go_wp2_with fail
  refine (shift_got _ _ _ _ d _ EZ.out SU.out LU.out HU.out).mono ?_
  rintro e w' ⟨ASU2, CSU2, rfl, hl, hb⟩
  replace HB := Lib.hid (on_below HB.out hb)
  replace Ha := Lib.hid (Ha.out.below hb)
  replace Hb := Lib.hid (Hb.out.below hb)
  replace HSa := Lib.hid (HSa.out.below hb)
  replace HSb := Lib.hid (HSb.out.below hb)
  replace HU := Lib.hid (HU.out.below hb)
  have HSU2 := Lib.hid hl
  clear hb hl
  go_wp2_with fail
  refine (leaves_any _ _ _ d false _ La.out VA.out d1 d2 Ha.out.sl).mono ?_
  rintro e w' ⟨rfl, rfl⟩
  go_wp2_with fail
  refine (leaves_any _ _ _ d false _ Lb.out VB.out d1 d2 Hb.out.sl).mono ?_
  rintro e w' ⟨rfl, rfl⟩
  go_wp2_with fail
  refine (shift_got _ _ X _ (-d) a EB.out SX.out LX.out HSa.out).mono ?_
  rintro e w' ⟨ABk, CBk, rfl, hl, hb⟩
  replace HB := Lib.hid (on_below HB.out hb)
  replace Ha := Lib.hid (Ha.out.below hb)
  replace Hb := Lib.hid (Hb.out.below hb)
  replace HSa := Lib.hid (HSa.out.below hb)
  replace HSb := Lib.hid (HSb.out.below hb)
  replace HU := Lib.hid (HU.out.below hb)
  replace HSU2 := Lib.hid (HSU2.out.below hb)
  have HBk := Lib.hid hl
  clear hb hl
  go_wp2_with fail
  refine (union_got _ _ _ _ _ _ _ _ EV.out VX.out VY.out L2.out HSa.out HSb.out).mono ?_
  rintro e w' ⟨AV, CV, rfl, hl, hb⟩
  replace HB := Lib.hid (on_below HB.out hb)
  replace Ha := Lib.hid (Ha.out.below hb)
  replace Hb := Lib.hid (Hb.out.below hb)
  replace HSa := Lib.hid (HSa.out.below hb)
  replace HSb := Lib.hid (HSb.out.below hb)
  replace HU := Lib.hid (HU.out.below hb)
  replace HSU2 := Lib.hid (HSU2.out.below hb)
  replace HBk := Lib.hid (HBk.out.below hb)
  have HV := Lib.hid hl
  clear hb hl
  go_wp2_with fail
  refine (length_got _ _ _ _ _ P1.out VA.out Ha.out).mono ?_
  rintro e w' ⟨rfl, hb⟩
  replace HB := Lib.hid (on_below HB.out hb)
  replace Ha := Lib.hid (Ha.out.below hb)
  replace Hb := Lib.hid (Hb.out.below hb)
  replace HSa := Lib.hid (HSa.out.below hb)
  replace HSb := Lib.hid (HSb.out.below hb)
  replace HU := Lib.hid (HU.out.below hb)
  replace HSU2 := Lib.hid (HSU2.out.below hb)
  replace HBk := Lib.hid (HBk.out.below hb)
  replace HV := Lib.hid (HV.out.below hb)
  clear hb
  go_wp2_with fail
  refine (length_got _ _ _ _ _ P2.out VX.out HSa.out).mono ?_
  rintro e w' ⟨rfl, hb⟩
  replace HB := Lib.hid (on_below HB.out hb)
  replace Ha := Lib.hid (Ha.out.below hb)
  replace Hb := Lib.hid (Hb.out.below hb)
  replace HSa := Lib.hid (HSa.out.below hb)
  replace HSb := Lib.hid (HSb.out.below hb)
  replace HU := Lib.hid (HU.out.below hb)
  replace HSU2 := Lib.hid (HSU2.out.below hb)
  replace HBk := Lib.hid (HBk.out.below hb)
  replace HV := Lib.hid (HV.out.below hb)
  clear hb
  go_wp2_with fail
  refine (same_got _ _ _ _ a a _ true (by simp) (vldS_iff.1 VA.out).1 (vldS_iff.1 VA.out).1 HBk.out Ha.out).mono ?_
  rintro e w' ⟨rfl, hb⟩
  replace HB := Lib.hid (on_below HB.out hb)
  replace Ha := Lib.hid (Ha.out.below hb)
  replace Hb := Lib.hid (Hb.out.below hb)
  replace HSa := Lib.hid (HSa.out.below hb)
  replace HSb := Lib.hid (HSb.out.below hb)
  replace HU := Lib.hid (HU.out.below hb)
  replace HSU2 := Lib.hid (HSU2.out.below hb)
  replace HBk := Lib.hid (HBk.out.below hb)
  replace HV := Lib.hid (HV.out.below hb)
  clear hb
  go_wp2_with fail
  refine (same_got _ _ _ _ Z Z _ true (by simp) ZL.out ZL.out HV.out HSU2.out).mono ?_
  rintro e w' ⟨rfl, hb⟩
  replace HB := Lib.hid (on_below HB.out hb)
  replace Ha := Lib.hid (Ha.out.below hb)
  replace Hb := Lib.hid (Hb.out.below hb)
  replace HSa := Lib.hid (HSa.out.below hb)
  replace HSb := Lib.hid (HSb.out.below hb)
  replace HU := Lib.hid (HU.out.below hb)
  replace HSU2 := Lib.hid (HSU2.out.below hb)
  replace HBk := Lib.hid (HBk.out.below hb)
  replace HV := Lib.hid (HV.out.below hb)
  clear hb
  go_wp2_with fail
  refine (rminute_b m _ KM.out _).mono ?_
  rintro e w' ⟨rfl, rfl⟩
  go_wp2_with fail
  refine (rminute_b (m + d) _ KM2.out _).mono ?_
  rintro e w' ⟨rfl, rfl⟩
  go_wp2_with fail
  go_ret
  exact ⟨rfl, HB.out⟩
set_option maxRecDepth 100000 in
set_option maxHeartbeats 6000000 in
theorem in3 (aA : Option Addr) (aC : Nat) (a : List Spn) (bA : Option Addr) (bC : Nat) (b : List Spn) (m : Int) (im : I64 m) (d : Int) (id_ : I64 d) (w : World) (la : Ls w aA aC a) (lb : Ls w bA bC b) (hp : pr a b = true) (hd : decide (d < -600000) = false) (hd2 : decide (600000 < d) = false) (d1 : -600000 ≤ d) (d2 : d ≤ 600000) (U : List Spn) (hU : cmb opO a b = U) (va : vldS a = true) (vb : vldS b = true) (sa : shB a d = true) (sb : shB b d = true) (sU : shB U d = true) (hl : a.length + b.length ≤ 500) (xa : lv a d = false) (xb : lv b d = false) (xU : lv U d = false) (X Y Z : List Spn) (eX : shS a d = X) (eY : shS b d = Y) (eZ : shS U d = Z) (eB : shS X (-d) = a) (sX : shB X (-d) = true) (xX : lv X (-d) = false) (eV : cmb opO X Y = Z) (vX : vldS X = true) (vY : vldS Y = true) (zl : Z.length ≤ 1000) (l2 : X.length + Y.length ≤ 500) (n : Int) (p1 : cntS a = n) (p2 : cntS X = n) (hm : minu m = true) (m0 : 0 ≤ m) (m1 : m ≤ 600000) (hm2 : minu (m + d) = true) (b0 : Bool) (h1 : hasS a m = b0) (h2 : hasS X (m + d) = b0) :
    Calls Try.prog 8 #[.slice aA a.length aC, .slice bA b.length bC, .int .i64 m, .int .i64 d] w fun e w' => e = .returned (.bool true) ∧ Below w.heap.size w w' := by
  have Ha := Lib.hid la
  clear la
  have Hb := Lib.hid lb
  clear lb
  have HP := Lib.hid hp
  clear hp
  have EU := Lib.hid hU
  clear hU
  have VA := Lib.hid va
  clear va
  have VB := Lib.hid vb
  clear vb
  have SA := Lib.hid sa
  clear sa
  have SB := Lib.hid sb
  clear sb
  have SU := Lib.hid sU
  clear sU
  have HL := Lib.hid hl
  clear hl
  have La := Lib.hid xa
  clear xa
  have Lb := Lib.hid xb
  clear xb
  have LU := Lib.hid xU
  clear xU
  have EX := Lib.hid eX
  clear eX
  have EY := Lib.hid eY
  clear eY
  have EZ := Lib.hid eZ
  clear eZ
  have EB := Lib.hid eB
  clear eB
  have SX := Lib.hid sX
  clear sX
  have LX := Lib.hid xX
  clear xX
  have EV := Lib.hid eV
  clear eV
  have VX := Lib.hid vX
  clear vX
  have VY := Lib.hid vY
  clear vY
  have ZL := Lib.hid zl
  clear zl
  have L2 := Lib.hid l2
  clear l2
  have P1 := Lib.hid p1
  clear p1
  have P2 := Lib.hid p2
  clear p2
  have KM := Lib.hid hm
  clear hm
  have KM2 := Lib.hid hm2
  clear hm2
  have H1 := Lib.hid h1
  clear h1
  have H2 := Lib.hid h2
  clear h2
  have HB := Lib.hid (Below.refl w.heap.size w)
  go_enter Try.func8, Try.ntmps8
  go_wp2_with fail
  refine (head_any _).mono ?_
  rintro e w' ⟨rfl, hb⟩
  replace HB := Lib.hid (on_below HB.out hb)
  replace Ha := Lib.hid (Ha.out.below hb)
  replace Hb := Lib.hid (Hb.out.below hb)
  clear hb
  go_wp2_with fail
  refine (pair_b _ _ _ _ a b _ _ HP.out (ls_len Ha.out) (ls_len Hb.out) Ha.out.sl Hb.out.sl).mono ?_
  rintro e w' ⟨rfl, hb⟩
  replace HB := Lib.hid (on_below HB.out hb)
  replace Ha := Lib.hid (Ha.out.below hb)
  replace Hb := Lib.hid (Hb.out.below hb)
  clear hb
  go_wp2_with fail
  refine (shift_got _ _ _ _ d _ EX.out SA.out La.out Ha.out).mono ?_
  rintro e w' ⟨ASa, CSa, rfl, hl, hb⟩
  replace HB := Lib.hid (on_below HB.out hb)
  replace Ha := Lib.hid (Ha.out.below hb)
  replace Hb := Lib.hid (Hb.out.below hb)
  have HSa := Lib.hid hl
  clear hb hl
  go_wp2_with fail
  refine (shift_got _ _ _ _ d _ EY.out SB.out Lb.out Hb.out).mono ?_
  rintro e w' ⟨ASb, CSb, rfl, hl, hb⟩
  replace HB := Lib.hid (on_below HB.out hb)
  replace Ha := Lib.hid (Ha.out.below hb)
  replace Hb := Lib.hid (Hb.out.below hb)
  replace HSa := Lib.hid (HSa.out.below hb)
  have HSb := Lib.hid hl
  clear hb hl
  go_wp2_with fail
  refine (union_got _ _ _ _ _ _ _ _ EU.out VA.out VB.out HL.out Ha.out Hb.out).mono ?_
  rintro e w' ⟨AU, CU, rfl, hl, hb⟩
  replace HB := Lib.hid (on_below HB.out hb)
  replace Ha := Lib.hid (Ha.out.below hb)
  replace Hb := Lib.hid (Hb.out.below hb)
  replace HSa := Lib.hid (HSa.out.below hb)
  replace HSb := Lib.hid (HSb.out.below hb)
  have HU := Lib.hid hl
  clear hb hl
  go_wp2_with fail
  refine (shift_got _ _ _ _ d _ EZ.out SU.out LU.out HU.out).mono ?_
  rintro e w' ⟨ASU2, CSU2, rfl, hl, hb⟩
  replace HB := Lib.hid (on_below HB.out hb)
  replace Ha := Lib.hid (Ha.out.below hb)
  replace Hb := Lib.hid (Hb.out.below hb)
  replace HSa := Lib.hid (HSa.out.below hb)
  replace HSb := Lib.hid (HSb.out.below hb)
  replace HU := Lib.hid (HU.out.below hb)
  have HSU2 := Lib.hid hl
  clear hb hl
  go_wp2_with fail
  refine (leaves_any _ _ _ d false _ La.out VA.out d1 d2 Ha.out.sl).mono ?_
  rintro e w' ⟨rfl, rfl⟩
  go_wp2_with fail
  refine (leaves_any _ _ _ d false _ Lb.out VB.out d1 d2 Hb.out.sl).mono ?_
  rintro e w' ⟨rfl, rfl⟩
  go_wp2_with fail
  refine (shift_got _ _ X _ (-d) a EB.out SX.out LX.out HSa.out).mono ?_
  rintro e w' ⟨ABk, CBk, rfl, hl, hb⟩
  replace HB := Lib.hid (on_below HB.out hb)
  replace Ha := Lib.hid (Ha.out.below hb)
  replace Hb := Lib.hid (Hb.out.below hb)
  replace HSa := Lib.hid (HSa.out.below hb)
  replace HSb := Lib.hid (HSb.out.below hb)
  replace HU := Lib.hid (HU.out.below hb)
  replace HSU2 := Lib.hid (HSU2.out.below hb)
  have HBk := Lib.hid hl
  clear hb hl
  go_wp2_with fail
  refine (union_got _ _ _ _ _ _ _ _ EV.out VX.out VY.out L2.out HSa.out HSb.out).mono ?_
  rintro e w' ⟨AV, CV, rfl, hl, hb⟩
  replace HB := Lib.hid (on_below HB.out hb)
  replace Ha := Lib.hid (Ha.out.below hb)
  replace Hb := Lib.hid (Hb.out.below hb)
  replace HSa := Lib.hid (HSa.out.below hb)
  replace HSb := Lib.hid (HSb.out.below hb)
  replace HU := Lib.hid (HU.out.below hb)
  replace HSU2 := Lib.hid (HSU2.out.below hb)
  replace HBk := Lib.hid (HBk.out.below hb)
  have HV := Lib.hid hl
  clear hb hl
  go_wp2_with fail
  refine (length_got _ _ _ _ _ P1.out VA.out Ha.out).mono ?_
  rintro e w' ⟨rfl, hb⟩
  replace HB := Lib.hid (on_below HB.out hb)
  replace Ha := Lib.hid (Ha.out.below hb)
  replace Hb := Lib.hid (Hb.out.below hb)
  replace HSa := Lib.hid (HSa.out.below hb)
  replace HSb := Lib.hid (HSb.out.below hb)
  replace HU := Lib.hid (HU.out.below hb)
  replace HSU2 := Lib.hid (HSU2.out.below hb)
  replace HBk := Lib.hid (HBk.out.below hb)
  replace HV := Lib.hid (HV.out.below hb)
  clear hb
  go_wp2_with fail
  refine (length_got _ _ _ _ _ P2.out VX.out HSa.out).mono ?_
  rintro e w' ⟨rfl, hb⟩
  replace HB := Lib.hid (on_below HB.out hb)
  replace Ha := Lib.hid (Ha.out.below hb)
  replace Hb := Lib.hid (Hb.out.below hb)
  replace HSa := Lib.hid (HSa.out.below hb)
  replace HSb := Lib.hid (HSb.out.below hb)
  replace HU := Lib.hid (HU.out.below hb)
  replace HSU2 := Lib.hid (HSU2.out.below hb)
  replace HBk := Lib.hid (HBk.out.below hb)
  replace HV := Lib.hid (HV.out.below hb)
  clear hb
  go_wp2_with fail
  refine (same_got _ _ _ _ a a _ true (by simp) (vldS_iff.1 VA.out).1 (vldS_iff.1 VA.out).1 HBk.out Ha.out).mono ?_
  rintro e w' ⟨rfl, hb⟩
  replace HB := Lib.hid (on_below HB.out hb)
  replace Ha := Lib.hid (Ha.out.below hb)
  replace Hb := Lib.hid (Hb.out.below hb)
  replace HSa := Lib.hid (HSa.out.below hb)
  replace HSb := Lib.hid (HSb.out.below hb)
  replace HU := Lib.hid (HU.out.below hb)
  replace HSU2 := Lib.hid (HSU2.out.below hb)
  replace HBk := Lib.hid (HBk.out.below hb)
  replace HV := Lib.hid (HV.out.below hb)
  clear hb
  go_wp2_with fail
  refine (same_got _ _ _ _ Z Z _ true (by simp) ZL.out ZL.out HV.out HSU2.out).mono ?_
  rintro e w' ⟨rfl, hb⟩
  replace HB := Lib.hid (on_below HB.out hb)
  replace Ha := Lib.hid (Ha.out.below hb)
  replace Hb := Lib.hid (Hb.out.below hb)
  replace HSa := Lib.hid (HSa.out.below hb)
  replace HSb := Lib.hid (HSb.out.below hb)
  replace HU := Lib.hid (HU.out.below hb)
  replace HSU2 := Lib.hid (HSU2.out.below hb)
  replace HBk := Lib.hid (HBk.out.below hb)
  replace HV := Lib.hid (HV.out.below hb)
  clear hb
  go_wp2_with fail
  refine (rminute_b m _ KM.out _).mono ?_
  rintro e w' ⟨rfl, rfl⟩
  go_wp2_with fail
  refine (rminute_b (m + d) _ KM2.out _).mono ?_
  rintro e w' ⟨rfl, rfl⟩
  go_wp2_with fail
  refine (has_got _ _ _ _ m b0 H1.out VA.out KM.out Ha.out).mono ?_
  rintro e w' ⟨rfl, hb⟩
  replace HB := Lib.hid (on_below HB.out hb)
  replace Ha := Lib.hid (Ha.out.below hb)
  replace Hb := Lib.hid (Hb.out.below hb)
  replace HSa := Lib.hid (HSa.out.below hb)
  replace HSb := Lib.hid (HSb.out.below hb)
  replace HU := Lib.hid (HU.out.below hb)
  replace HSU2 := Lib.hid (HSU2.out.below hb)
  replace HBk := Lib.hid (HBk.out.below hb)
  replace HV := Lib.hid (HV.out.below hb)
  clear hb
  go_wp2_with fail
  refine (has_got _ _ _ _ (m + d) b0 H2.out VX.out KM2.out HSa.out).mono ?_
  rintro e w' ⟨rfl, hb⟩
  replace HB := Lib.hid (on_below HB.out hb)
  replace Ha := Lib.hid (Ha.out.below hb)
  replace Hb := Lib.hid (Hb.out.below hb)
  replace HSa := Lib.hid (HSa.out.below hb)
  replace HSb := Lib.hid (HSb.out.below hb)
  replace HU := Lib.hid (HU.out.below hb)
  replace HSU2 := Lib.hid (HSU2.out.below hb)
  replace HBk := Lib.hid (HBk.out.below hb)
  replace HV := Lib.hid (HV.out.below hb)
  clear hb
  clear H1 H2
  cases b0
  all_goals
    go_wp2_with fail
    go_ret
    exact ⟨rfl, HB.out⟩
theorem lv_back {xs : List Spn} {d : Int} (hc : chk (-1) xs = true) (hv : lv xs d = false) : lv (shS xs d) (-d) = false := by
  rw [← Bool.not_eq_true, lv_iff (sh_ok hc hv)]
  rintro ⟨m, hm, h⟩
  rw [sh_has] at hm
  have h1 := has_gt hc hm
  have h2 := has_lt hc hm
  omega
theorem walk (aA : Option Addr) (aC : Nat) (a : List Spn) (bA : Option Addr) (bC : Nat) (b : List Spn) (m : Int) (im : I64 m) (d : Int) (id_ : I64 d) (w : World) (la : Ls w aA aC a) (lb : Ls w bA bC b) :
    Calls Try.prog 8 #[.slice aA a.length aC, .slice bA b.length bC, .int .i64 m, .int .i64 d] w fun e w' => e = .returned (.bool true) ∧ Below w.heap.size w w' := by
  cases hp : pr a b with
  | false => exact no1 aA aC a bA bC b m im d id_ w la lb hp
  | true =>
    by_cases hd : d < -600000
    · exact no2 aA aC a bA bC b m im d id_ w la lb hp hd
    · have hd' : decide (d < -600000) = false := by simpa using hd
      by_cases hd2 : 600000 < d
      · exact no3 aA aC a bA bC b m im d id_ w la lb hp hd' hd2
      · have hd2' : decide (600000 < d) = false := by simpa using hd2
        obtain ⟨h1, h2, va, vb⟩ := pr_iff.1 hp
        have ca := (vldS_iff.1 va).2
        have cb := (vldS_iff.1 vb).2
        have hl : a.length + b.length ≤ 500 := by omega
        have d1 : -600000 ≤ d := by omega
        have d2 : d ≤ 600000 := by omega
        have vU := cmb_vld (op := opO) _ _ rfl va vb hl
        have sa : shB a d = true := shB_iff.2 ⟨va, d1, d2⟩
        have sb : shB b d = true := shB_iff.2 ⟨vb, d1, d2⟩
        have sU : shB (cmb opO a b) d = true := shB_iff.2 ⟨vU, d1, d2⟩
        have hU := lv_union (d := d) ca cb
        cases xa : lv a d with
        | true =>
          have xU : lv (cmb opO a b) d = true := by rw [hU, xa]; rfl
          cases xb : lv b d with
          | true => exact out0 aA aC a bA bC b m im d id_ w la lb hp hd' hd2' d1 d2 _ rfl va vb sa sb sU hl xa xb xU
          | false => exact out1 aA aC a bA bC b m im d id_ w la lb hp hd' hd2' d1 d2 _ rfl va vb sa sb sU hl xa xb xU _ rfl
        | false =>
          cases xb : lv b d with
          | true =>
            have xU : lv (cmb opO a b) d = true := by rw [hU, xb, Bool.or_true]
            exact out2 aA aC a bA bC b m im d id_ w la lb hp hd' hd2' d1 d2 _ rfl va vb sa sb sU hl xa xb xU _ rfl
          | false =>
            have xU : lv (cmb opO a b) d = false := by rw [hU, xa, xb]; rfl
            have vX : vldS (shS a d) = true := by rw [sh_vld va, xa]; rfl
            have vY : vldS (shS b d) = true := by rw [sh_vld vb, xb]; rfl
            have sX : shB (shS a d) (-d) = true := shB_iff.2 ⟨vX, by omega, by omega⟩
            have xX := lv_back ca xa
            have zl : (shS (cmb opO a b) d).length ≤ 1000 := by rw [sh_len]; exact (vldS_iff.1 vU).1
            have l2 : (shS a d).length + (shS b d).length ≤ 500 := by rw [sh_len, sh_len]; exact hl
            have eV := sh_union ca cb xa xb
            have p2 := sh_cnt a d
            cases hm : minu m with
            | false => exact in1 aA aC a bA bC b m im d id_ w la lb hp hd' hd2' d1 d2 _ rfl va vb sa sb sU hl xa xb xU _ _ _ rfl rfl rfl (sh_back a d) sX xX eV vX vY zl l2 _ rfl p2 hm
            | true =>
              obtain ⟨m0, m1⟩ := minu_iff.1 hm
              cases hm2 : minu (m + d) with
              | false => exact in2 aA aC a bA bC b m im d id_ w la lb hp hd' hd2' d1 d2 _ rfl va vb sa sb sU hl xa xb xU _ _ _ rfl rfl rfl (sh_back a d) sX xX eV vX vY zl l2 _ rfl p2 hm m0 m1 hm2
              | true => exact in3 aA aC a bA bC b m im d id_ w la lb hp hd' hd2' d1 d2 _ rfl va vb sa sb sU hl xa xb xU _ _ _ rfl rfl rfl (sh_back a d) sX xX eV vX vY zl l2 _ rfl p2 hm m0 m1 hm2 _ rfl (by rw [sh_has, show m + d - d = m by omega])

/-! ### The row -/
open Go.ChangeShapes Go.WideShapes Go.ChangeAt Go.Joins
theorem own : ownKnob Try.prog.godebug = none := by kernel_rfl
noncomputable def laidWorld (os : Os) : World := World.holding Try.prog os ⟨#[], #[], []⟩
theorem laidWorld_met (os : Os) (args : Array Value) : laidMet Try.prog [] ((laidWorld os).forCall (fun _ _ => 0) ⟨#[], args, []⟩).memory :=
  laidMet_of_run' 8 (by kernel_rfl) (by kernel_rfl)

set_option maxRecDepth 100000 in
theorem contract (H : Type) (enc : TypeId × Value → H) (W : World) (base : Nat) (args : Array Value) (ds gs : List (DataW H)) (before : List MemPlace)
    (hval : ∀ (j : Nat) t v, Try.f8.params[j]? = some t → args[j]? = some v → Value.okWide Try.prog W .any base t v)
    (hW : DataW.Whole enc Try.prog Try.f8.params.toList Rows.spanShiftsSpec.vars false W args.toList ds gs before) :
    Calls Try.prog 8 args W fun e W' => ∃ v, e = .returned v ∧ Rows.spanShiftsSpec.post enc Try.prog Try.f8 false true false false W args v W' := by
  have hW' := hW
  have hold : ∀ q ∈ before, decide (q.block < W.heap.size) = true := fun q hq => by simpa using hW.lt q hq
  obtain ⟨p, q, hA0, hV, rfl, hfz, hnd⟩ := hW
  have hA : DataW.TrodAll enc Try.prog W 0 (fun _ => true) true Try.f8.params.toList args.toList ds p := hA0
  rw [Try.params8] at hA hval
  obtain ⟨v0, vs0, d0, ds0, p0, q0, hargs, rfl, rfl, h0, r0⟩ := trodAll_cons hA
  obtain ⟨v1, vs1, d1, ds1, p1, q1, rfl, rfl, rfl, h1, r1⟩ := trodAll_cons r0
  obtain ⟨v2, vs2, d2, ds2, p2, q2, rfl, rfl, rfl, h2, r2⟩ := trodAll_cons r1
  obtain ⟨v3, vs3, d3, ds3, p3, q3, rfl, rfl, rfl, h3, r3⟩ := trodAll_cons r2
  obtain ⟨rfl, rfl, rfl⟩ := trodAll_nil r3
  obtain rfl : args = #[v0, v1, v2, v3] := Array.toList_inj.1 hargs
  obtain ⟨rfl, rfl⟩ := trodVars_none hV
  obtain ⟨aA, aC, a, rfl, la, ja, shuta⟩ := open_spans (hval 0 22 v0 rfl rfl) h0
  obtain ⟨bA, bC, b, rfl, lb, jb, shutb⟩ := open_spans (hval 1 22 v1 rfl rfl) h1
  obtain ⟨m, rfl, rfl, rfl, wm⟩ := open_int Try.underlying3 (hval 2 3 v2 rfl rfl) h2
  obtain ⟨d, rfl, rfl, rfl, wd⟩ := open_int Try.underlying3 (hval 3 3 v3 rfl rfl) h3
  clear hA0
  refine (walk aA aC a bA bC b m (wf_i wm) d (wf_i wd) W la lb).mono fun e W' ⟨he, bel⟩ => ?_
  subst he
  exact ⟨_, rfl, _, _, _, [], _, [], hW', trodAll_mk1 (shut_bool Try.underlying4 _), (trodAll_cons_mk (shuta W' (fun b => decide (b < W.heap.size)) bel (fun q hq => hold q (by simp [hq]))) (trodAll_cons_mk (shutb W' (fun b => decide (b < W.heap.size)) bel (fun q hq => hold q (by simp [hq]))) (trodAll_cons_mk (shut_int Try.underlying3 wm) (trodAll_cons_mk (shut_int Try.underlying3 wd) trodAll_mk0)))), rfl, bel.frame _, fun h => by cases h⟩

theorem reads (os : Os) {H : Type} (enc : TypeId × Value → H) : ∃ places, DataW.whole enc Try.prog ((laidWorld os).forCall (fun _ _ => 0) ⟨#[], #[.slice none 0 0, .slice none 0 0, .int .i64 0, .int .i64 0], []⟩).memory Try.f8.params.toList Rows.spanShiftsSpec.vars false (#[.slice none 0 0, .slice none 0 0, .int .i64 0, .int .i64 0] : Array Value).toList 8 = some ([.nil, .nil, .lit (.int .i64 0), .lit (.int .i64 0)], [], places) :=
  ⟨[], by kernel_rfl⟩

set_option maxRecDepth 100000 in
theorem lifted (os : Os) (started : os.Started) (H : Type) (enc : TypeId × Value → H) (F : Stop.Interp) :
    ReturnsInHanded {} Try.checked os 8 .any ((OpenSpec.ofChange Rows.spanShiftsSpec).preRow enc Try.prog Try.f8 Rows.spanShiftsRow.domain false Rows.spanShiftsRow.laid) (((OpenSpec.ofChange Rows.spanShiftsSpec).at F).post enc Try.prog Try.f8 false true false false) := by
  obtain ⟨places, hx⟩ := reads os enc
  refine returnsInHanded_of_row (C := Try.checked) (s := OpenSpec.ofChange Rows.spanShiftsSpec) own started (by kernel_rfl) Try.func8
    (witness_row_atRef (enc := enc) (C := Try.checked) false (laidWorld os) #[.slice none 0 0, .slice none 0 0, .int .i64 0, .int .i64 0] rfl (by kernel_rfl) (by kernel_rfl) (by kernel_rfl)
      (OpenSpec.preRow_of_cond 8 hx (by kernel_rfl) (fun k hk => by cases hk) (by kernel_rfl) (laidWorld_met os _))) ?_
  intro W base args ds gs before hval hW _ hcond _ hL hsh _
  exact contract H enc W base args ds gs before hval hW

/-- The statement. -/
theorem said : Rows.SpanShiftsSaid :=
  OpenClaim.holds_of_cond 8 Try.f8 rfl rfl rfl rfl rfl rfl rfl ⟨rfl, rfl, rfl, rfl, rfl⟩ rfl rfl rfl rfl rfl (by kernel_rfl) Try.func8 (by kernel_rfl)
    (of_decide_eq_true (by kernel_rfl)) (by unfold Func.isWrapper; first | (rw [if_pos (by decide +kernel)]; kernel_rfl) | (rw [if_neg (by decide +kernel)]; exact ⟨rfl, rfl⟩))
    (fun os started H enc _ F => by rw [OpenClaim.pre_eq_preRow]; exact lifted os started H enc F)
end Go.Proofs.Ytgdgpfpihpofdaa.spanShifts
