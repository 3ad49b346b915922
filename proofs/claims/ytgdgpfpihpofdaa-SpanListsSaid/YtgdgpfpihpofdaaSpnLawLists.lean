/-
  SpanLists: what the functions return is valid, and both lists have the same minutes exactly if they are equal: for any slices of spans.
  Conditions: none besides the row's.
-/
import Derived.Test.YtgdgpfpihpofdaaSpnX
import Derived.Test.YtgdgpfpihpofdaaSpnW
import Derived.Test.YtgdgpfpihpofdaaRows
import Derived.ProofKit
import Derived.OpenShut
import Derived.Deep.DeepHandedRow
import Derived.Deep.DeepWitnessRowRef
import Derived.MakeChecks
namespace Go.Proofs.Ytgdgpfpihpofdaa.spanLists
open Go.RowKit Go.Sort
open Go.RowKit (Below)
set_option linter.unusedVariables false
set_option linter.unusedSimpArgs false
theorem pair_b (A B : Option Addr) (C D : Nat) (xs ys : List Spn) (w : World) (b : Bool) (hb : pr xs ys = b) (hl : xs.length ≤ 9223372036854775807) (hl2 : ys.length ≤ 9223372036854775807) (hx : SlS w A xs) (hy : SlS w B ys) :
    Calls Try.prog 27 #[.slice A xs.length C, .slice B ys.length D] w fun e w' => e = .returned (.bool b) ∧ Below w.heap.size w w' := by subst hb; exact pair_any A B C D xs ys w hl hl2 hx hy
theorem ls_len {w : World} {A : Option Addr} {C : Nat} {xs : List Spn} (h : Ls w A C xs) : xs.length ≤ 9223372036854775807 := Nat.le_trans h.cap.1 h.cap.2

set_option maxRecDepth 100000 in
set_option maxHeartbeats 2000000 in
theorem no1 (aA : Option Addr) (aC : Nat) (a : List Spn) (bA : Option Addr) (bC : Nat) (b : List Spn) (w : World) (la : Ls w aA aC a) (lb : Ls w bA bC b) (hp : pr a b = false) :
    Calls Try.prog 9 #[.slice aA a.length aC, .slice bA b.length bC] w fun e w' => e = .returned (.bool true) ∧ Below w.heap.size w w' := by
  have Ha := Lib.hid la
  clear la
  have Hb := Lib.hid lb
  clear lb
  have HP := Lib.hid hp
  clear hp
  have HB := Lib.hid (Below.refl w.heap.size w)
  go_enter Try.func9, Try.ntmps9
  go_wp2_with fail
  refine (head_any _).mono ?_
  rintro e w' ⟨rfl, hb⟩
  replace HB := Lib.hid (on_below HB.out hb)
  replace Ha := Lib.hid (Ha.out.below hb)
  replace Hb := Lib.hid (Hb.out.below hb)
  clear hb
  go_wp2_with fail
  refine (pair_b _ _ _ _ a b _ _ HP.out (ls_len Ha.out) (ls_len Hb.out) Ha.out.sl Hb.out.sl).mono ?_
  rintro e w' ⟨rfl, hb⟩
  replace HB := Lib.hid (on_below HB.out hb)
  replace Ha := Lib.hid (Ha.out.below hb)
  replace Hb := Lib.hid (Hb.out.below hb)
  clear hb
  go_wp2_with fail
  go_ret
  exact ⟨rfl, HB.out⟩
set_option maxRecDepth 100000 in
set_option maxHeartbeats 2000000 in
theorem ok (aA : Option Addr) (aC : Nat) (a : List Spn) (bA : Option Addr) (bC : Nat) (b : List Spn) (w : World) (la : Ls w aA aC a) (lb : Ls w bA bC b) (hp : pr a b = true) (U C X Y : List Spn) (e : Bool) (hU : cmb opO a b = U) (hC : cmb opA a b = C) (hX : cmb opD a b = X) (hY : cmb opD b a = Y) (he : decide (a = b) = e) (q : (((X.length : Int) + (Y.length : Int) == 0) == e) = true) (hl : a.length + b.length ≤ 500) (hl2 : b.length + a.length ≤ 500) (xl : X.length ≤ 1000) (yl : Y.length ≤ 1000) (va : vldS a = true) (vb : vldS b = true) (vU : vldS U = true) (vC : vldS C = true) (vX : vldS X = true) (vY : vldS Y = true) :
    Calls Try.prog 9 #[.slice aA a.length aC, .slice bA b.length bC] w fun e w' => e = .returned (.bool true) ∧ Below w.heap.size w w' := by
  have Ha := Lib.hid la
  clear la
  have Hb := Lib.hid lb
  clear lb
  have HP := Lib.hid hp
  clear hp
  have EU := Lib.hid hU
  clear hU
  have EC := Lib.hid hC
  clear hC
  have EX := Lib.hid hX
  clear hX
  have EY := Lib.hid hY
  clear hY
  have EE := Lib.hid he
  clear he
  have Q := Lib.hid q
  clear q
  have VA := Lib.hid va
  clear va
  have VB := Lib.hid vb
  clear vb
  have VU := Lib.hid vU
  clear vU
  have VC := Lib.hid vC
  clear vC
  have VX := Lib.hid vX
  clear vX
  have VY := Lib.hid vY
  clear vY
  have HL := Lib.hid hl
  clear hl
  have HL2 := Lib.hid hl2
  clear hl2
  have HB := Lib.hid (Below.refl w.heap.size w)
  go_enter Try.func9, Try.ntmps9
  go_wp2_with fail
  refine (head_any _).mono ?_
  rintro e w' ⟨rfl, hb⟩
  replace HB := Lib.hid (on_below HB.out hb)
  replace Ha := Lib.hid (Ha.out.below hb)
  replace Hb := Lib.hid (Hb.out.below hb)
  clear hb
  go_wp2_with fail
  refine (pair_b _ _ _ _ a b _ _ HP.out (ls_len Ha.out) (ls_len Hb.out) Ha.out.sl Hb.out.sl).mono ?_
  rintro e w' ⟨rfl, hb⟩
  replace HB := Lib.hid (on_below HB.out hb)
  replace Ha := Lib.hid (Ha.out.below hb)
  replace Hb := Lib.hid (Hb.out.below hb)
  clear hb
  go_wp2_with fail
  refine (union_got _ _ _ _ _ _ _ _ EU.out VA.out VB.out HL.out Ha.out Hb.out).mono ?_
  rintro e w' ⟨AU, CU, rfl, hl, hb⟩
  replace HB := Lib.hid (on_below HB.out hb)
  replace Ha := Lib.hid (Ha.out.below hb)
  replace Hb := Lib.hid (Hb.out.below hb)
  have HU := Lib.hid hl
  clear hb hl
  go_wp2_with fail
  refine (common_got _ _ _ _ _ _ _ _ EC.out VA.out VB.out HL.out Ha.out Hb.out).mono ?_
  rintro e w' ⟨AC, CC, rfl, hl, hb⟩
  replace HB := Lib.hid (on_below HB.out hb)
  replace Ha := Lib.hid (Ha.out.below hb)
  replace Hb := Lib.hid (Hb.out.below hb)
  replace HU := Lib.hid (HU.out.below hb)
  have HC := Lib.hid hl
  clear hb hl
  go_wp2_with fail
  refine (minus_got _ _ _ _ _ _ _ _ EX.out VA.out VB.out HL.out Ha.out Hb.out).mono ?_
  rintro e w' ⟨AX, CX, rfl, hl, hb⟩
  replace HB := Lib.hid (on_below HB.out hb)
  replace Ha := Lib.hid (Ha.out.below hb)
  replace Hb := Lib.hid (Hb.out.below hb)
  replace HU := Lib.hid (HU.out.below hb)
  replace HC := Lib.hid (HC.out.below hb)
  have HX := Lib.hid hl
  clear hb hl
  go_wp2_with fail
  refine (minus_got _ _ _ _ _ _ _ _ EY.out VB.out VA.out HL2.out Hb.out Ha.out).mono ?_
  rintro e w' ⟨AY, CY, rfl, hl, hb⟩
  replace HB := Lib.hid (on_below HB.out hb)
  replace Ha := Lib.hid (Ha.out.below hb)
  replace Hb := Lib.hid (Hb.out.below hb)
  replace HU := Lib.hid (HU.out.below hb)
  replace HC := Lib.hid (HC.out.below hb)
  replace HX := Lib.hid (HX.out.below hb)
  have HY := Lib.hid hl
  clear hb hl
  go_wp2_with fail
  refine (valid_b _ _ _ true VU.out _ (ls_len HU.out) HU.out.sl).mono ?_
  rintro e w' ⟨rfl, hb⟩
  replace HB := Lib.hid (on_below HB.out hb)
  replace Ha := Lib.hid (Ha.out.below hb)
  replace Hb := Lib.hid (Hb.out.below hb)
  replace HU := Lib.hid (HU.out.below hb)
  replace HC := Lib.hid (HC.out.below hb)
  replace HX := Lib.hid (HX.out.below hb)
  replace HY := Lib.hid (HY.out.below hb)
  clear hb
  go_wp2_with fail
  refine (valid_b _ _ _ true VC.out _ (ls_len HC.out) HC.out.sl).mono ?_
  rintro e w' ⟨rfl, hb⟩
  replace HB := Lib.hid (on_below HB.out hb)
  replace Ha := Lib.hid (Ha.out.below hb)
  replace Hb := Lib.hid (Hb.out.below hb)
  replace HU := Lib.hid (HU.out.below hb)
  replace HC := Lib.hid (HC.out.below hb)
  replace HX := Lib.hid (HX.out.below hb)
  replace HY := Lib.hid (HY.out.below hb)
  clear hb
  go_wp2_with fail
  refine (valid_b _ _ _ true VX.out _ (ls_len HX.out) HX.out.sl).mono ?_
  rintro e w' ⟨rfl, hb⟩
  replace HB := Lib.hid (on_below HB.out hb)
  replace Ha := Lib.hid (Ha.out.below hb)
  replace Hb := Lib.hid (Hb.out.below hb)
  replace HU := Lib.hid (HU.out.below hb)
  replace HC := Lib.hid (HC.out.below hb)
  replace HX := Lib.hid (HX.out.below hb)
  replace HY := Lib.hid (HY.out.below hb)
  clear hb
  go_wp2_with fail
  refine (valid_b _ _ _ true VY.out _ (ls_len HY.out) HY.out.sl).mono ?_
  rintro e w' ⟨rfl, hb⟩
  replace HB := Lib.hid (on_below HB.out hb)
  replace Ha := Lib.hid (Ha.out.below hb)
  replace Hb := Lib.hid (Hb.out.below hb)
  replace HU := Lib.hid (HU.out.below hb)
  replace HC := Lib.hid (HC.out.below hb)
  replace HX := Lib.hid (HX.out.below hb)
  replace HY := Lib.hid (HY.out.below hb)
  clear hb
  go_wp2_with fail
  refine (same_got _ _ _ _ _ _ _ _ EE.out (vldS_iff.1 VA.out).1 (vldS_iff.1 VB.out).1 Ha.out Hb.out).mono ?_
  rintro e w' ⟨rfl, hb⟩
  replace HB := Lib.hid (on_below HB.out hb)
  replace Ha := Lib.hid (Ha.out.below hb)
  replace Hb := Lib.hid (Hb.out.below hb)
  replace HU := Lib.hid (HU.out.below hb)
  replace HC := Lib.hid (HC.out.below hb)
  replace HX := Lib.hid (HX.out.below hb)
  replace HY := Lib.hid (HY.out.below hb)
  clear hb
  have hq := Q.out
  go_wp2_with fail
  go_ret
  exact ⟨rfl, HB.out⟩
theorem walk (aA : Option Addr) (aC : Nat) (a : List Spn) (bA : Option Addr) (bC : Nat) (b : List Spn) (w : World) (la : Ls w aA aC a) (lb : Ls w bA bC b) :
    Calls Try.prog 9 #[.slice aA a.length aC, .slice bA b.length bC] w fun e w' => e = .returned (.bool true) ∧ Below w.heap.size w w' := by
  cases hp : pr a b with
  | false => exact no1 aA aC a bA bC b w la lb hp
  | true =>
    obtain ⟨h1, h2, va, vb⟩ := pr_iff.1 hp
    have ca := (vldS_iff.1 va).2
    have cb := (vldS_iff.1 vb).2
    have hl : a.length + b.length ≤ 500 := by omega
    have hl2 : b.length + a.length ≤ 500 := by omega
    have vX := cmb_vld (op := opD) _ _ rfl va vb hl
    have vY := cmb_vld (op := opD) _ _ rfl vb va hl2
    have hq := minus_nil ca cb
    refine ok aA aC a bA bC b w la lb hp _ _ _ _ (decide (a = b)) rfl rfl rfl rfl rfl ?_ hl hl2 (vldS_iff.1 vX).1 (vldS_iff.1 vY).1 va vb (cmb_vld _ _ rfl va vb hl) (cmb_vld _ _ rfl va vb hl) vX vY
    rw [beq_iff_eq, Bool.eq_iff_iff, beq_iff_eq, decide_eq_true_iff, ← hq]
    omega

/-! ### The row -/
open Go.ChangeShapes Go.WideShapes Go.ChangeAt Go.Joins
theorem own : ownKnob Try.prog.godebug = none := by kernel_rfl
noncomputable def laidWorld (os : Os) : World := World.holding Try.prog os ⟨#[], #[], []⟩
theorem laidWorld_met (os : Os) (args : Array Value) : laidMet Try.prog [] ((laidWorld os).forCall (fun _ _ => 0) ⟨#[], args, []⟩).memory :=
  laidMet_of_run' 8 (by kernel_rfl) (by kernel_rfl)

set_option maxRecDepth 100000 in
theorem contract (H : Type) (enc : TypeId × Value → H) (W : World) (base : Nat) (args : Array Value) (ds gs : List (DataW H)) (before : List MemPlace)
    (hval : ∀ (j : Nat) t v, Try.f9.params[j]? = some t → args[j]? = some v → Value.okWide Try.prog W .any base t v)
    (hW : DataW.Whole enc Try.prog Try.f9.params.toList Rows.spanListsSpec.vars false W args.toList ds gs before) :
    Calls Try.prog 9 args W fun e W' => ∃ v, e = .returned v ∧ Rows.spanListsSpec.post enc Try.prog Try.f9 false true false false W args v W' := by
  have hW' := hW
  have hold : ∀ q ∈ before, decide (q.block < W.heap.size) = true := fun q hq => by simpa using hW.lt q hq
  obtain ⟨p, q, hA0, hV, rfl, hfz, hnd⟩ := hW
  have hA : DataW.TrodAll enc Try.prog W 0 (fun _ => true) true Try.f9.params.toList args.toList ds p := hA0
  rw [Try.params9] at hA hval
  obtain ⟨v0, vs0, d0, ds0, p0, q0, hargs, rfl, rfl, h0, r0⟩ := trodAll_cons hA
  obtain ⟨v1, vs1, d1, ds1, p1, q1, rfl, rfl, rfl, h1, r1⟩ := trodAll_cons r0
  obtain ⟨rfl, rfl, rfl⟩ := trodAll_nil r1
  obtain rfl : args = #[v0, v1] := Array.toList_inj.1 hargs
  obtain ⟨rfl, rfl⟩ := trodVars_none hV
  obtain ⟨aA, aC, a, rfl, la, ja, shuta⟩ := open_spans (hval 0 22 v0 rfl rfl) h0
  obtain ⟨bA, bC, b, rfl, lb, jb, shutb⟩ := open_spans (hval 1 22 v1 rfl rfl) h1
  clear hA0
  refine (walk aA aC a bA bC b W la lb).mono fun e W' ⟨he, bel⟩ => ?_
  subst he
  exact ⟨_, rfl, _, _, _, [], _, [], hW', trodAll_mk1 (shut_bool Try.underlying4 _), (trodAll_cons_mk (shuta W' (fun b => decide (b < W.heap.size)) bel (fun q hq => hold q (by simp [hq]))) (trodAll_cons_mk (shutb W' (fun b => decide (b < W.heap.size)) bel (fun q hq => hold q (by simp [hq]))) trodAll_mk0)), rfl, bel.frame _, fun h => by cases h⟩

theorem reads (os : Os) {H : Type} (enc : TypeId × Value → H) : ∃ places, DataW.whole enc Try.prog ((laidWorld os).forCall (fun _ _ => 0) ⟨#[], #[.slice none 0 0, .slice none 0 0], []⟩).memory Try.f9.params.toList Rows.spanListsSpec.vars false (#[.slice none 0 0, .slice none 0 0] : Array Value).toList 8 = some ([.nil, .nil], [], places) :=
  ⟨[], by kernel_rfl⟩

set_option maxRecDepth 100000 in
theorem lifted (os : Os) (started : os.Started) (H : Type) (enc : TypeId × Value → H) (F : Stop.Interp) :
    ReturnsInHanded {} Try.checked os 9 .any ((OpenSpec.ofChange Rows.spanListsSpec).preRow enc Try.prog Try.f9 Rows.spanListsRow.domain false Rows.spanListsRow.laid) (((OpenSpec.ofChange Rows.spanListsSpec).at F).post enc Try.prog Try.f9 false true false false) := by
  obtain ⟨places, hx⟩ := reads os enc
  refine returnsInHanded_of_row (C := Try.checked) (s := OpenSpec.ofChange Rows.spanListsSpec) own started (by kernel_rfl) Try.func9
    (witness_row_atRef (enc := enc) (C := Try.checked) false (laidWorld os) #[.slice none 0 0, .slice none 0 0] rfl (by kernel_rfl) (by kernel_rfl) (by kernel_rfl)
      (OpenSpec.preRow_of_cond 8 hx (by kernel_rfl) (fun k hk => by cases hk) (by kernel_rfl) (laidWorld_met os _))) ?_
  intro W base args ds gs before hval hW _ hcond _ hL hsh _
  exact contract H enc W base args ds gs before hval hW

/-- The statement. -/
theorem said : Rows.SpanListsSaid :=
  OpenClaim.holds_of_cond 9 Try.f9 rfl rfl rfl rfl rfl rfl rfl ⟨rfl, rfl, rfl, rfl, rfl⟩ rfl rfl rfl rfl rfl (by kernel_rfl) Try.func9 (by kernel_rfl)
    (of_decide_eq_true (by kernel_rfl)) (by unfold Func.isWrapper; first | (rw [if_pos (by decide +kernel)]; kernel_rfl) | (rw [if_neg (by decide +kernel)]; exact ⟨rfl, rfl⟩))
    (fun os started H enc _ F => by rw [OpenClaim.pre_eq_preRow]; exact lifted os started H enc F)
end Go.Proofs.Ytgdgpfpihpofdaa.spanLists
