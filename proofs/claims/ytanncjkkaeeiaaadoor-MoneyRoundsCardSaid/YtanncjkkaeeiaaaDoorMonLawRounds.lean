/-
  MoneyRounds: a scaled amount differs by half a cent at most; scaling commutes with the sign; by 1 an amount is not changed: for any int and any pair of ints.
  Conditions: the package variables that the row lists hold what the program's text lays.
-/
import Derived.Test.YtanncjkkaeeiaaaDoorMonT
import Derived.Test.YtanncjkkaeeiaaaDoorCards
import Derived.Test.YtanncjkkaeeiaaaDoorTie
import Derived.Deep.DeepCutAuto
namespace Go.Proofs.YtanncjkkaeeiaaaDoor.moneyRounds
open Go.RowKit Go.Sort
open Go.RowKit (Below)
set_option linter.unusedVariables false

set_option maxRecDepth 100000 in
set_option maxHeartbeats 1000000 in
theorem inv1 (c : Int) (ic : I64 c) (rN rD : Int) (irN : I64 rN) (irD : I64 rD) (w : World) (hs : St w) (ha : am c = false) :
    Calls Tryd.prog 4 #[.int .i64 c, .agg #[.int .i64 rN, .int .i64 rD]] w fun e w' => e = .returned (.bool true) ∧ Below w.heap.size w w' := by
  have HS := Lib.hid hs
  clear hs
  have HA := Lib.hid ha
  clear ha
  go_enter Tryd.func4, Tryd.ntmps4
  go_wp2_with fail
  have p := Pr.here w rN rD 30
  have b0 : Below w.heap.size w (w.alloc (.cells #[.int .i64 rN, .int .i64 rD] 30)) := (Below.refl _ _).alloc (Nat.le_refl _) _
  generalize w.alloc (.cells #[.int .i64 rN, .int .i64 rD] 30) = w0 at *
  refine (head_any _ (HS.out.below b0 HS.out.sz)).mono ?_
  rintro e w1 ⟨rfl, hb⟩
  replace p := p.on hb
  have b1 := on_below b0 hb
  clear hb b0
  have ⟨p0, p1⟩ := p
  have pl := p.lt
  go_wp2_with fail
  clear p0 p1 pl
  refine (refam_b c false HA.out _).mono ?_
  rintro e w' ⟨rfl, rfl⟩
  have ⟨p0, p1⟩ := p
  have pl := p.lt
  go_wp2_with fail
  clear p0 p1 pl
  go_ret
  exact ⟨rfl, b1⟩

set_option maxRecDepth 100000 in
set_option maxHeartbeats 1000000 in
theorem inv2 (c : Int) (ic : I64 c) (rN rD : Int) (irN : I64 rN) (irD : I64 rD) (w : World) (hs : St w) (ha : am c = true) (hv : vld rN rD = false) :
    Calls Tryd.prog 4 #[.int .i64 c, .agg #[.int .i64 rN, .int .i64 rD]] w fun e w' => e = .returned (.bool true) ∧ Below w.heap.size w w' := by
  have HS := Lib.hid hs
  clear hs
  have HA := Lib.hid ha
  clear ha
  have HV := Lib.hid hv
  clear hv
  have HI := Lib.hid (And.intro irN irD)
  go_enter Tryd.func4, Tryd.ntmps4
  go_wp2_with fail
  have p := Pr.here w rN rD 30
  have b0 : Below w.heap.size w (w.alloc (.cells #[.int .i64 rN, .int .i64 rD] 30)) := (Below.refl _ _).alloc (Nat.le_refl _) _
  generalize w.alloc (.cells #[.int .i64 rN, .int .i64 rD] 30) = w0 at *
  refine (head_any _ (HS.out.below b0 HS.out.sz)).mono ?_
  rintro e w1 ⟨rfl, hb⟩
  replace p := p.on hb
  have b1 := on_below b0 hb
  clear hb b0
  have ⟨p0, p1⟩ := p
  have pl := p.lt
  go_wp2_with fail
  clear p0 p1 pl
  refine (refam_b c true HA.out _).mono ?_
  rintro e w' ⟨rfl, rfl⟩
  have ⟨p0, p1⟩ := p
  have pl := p.lt
  go_wp2_with fail
  clear p0 p1 pl
  refine (refvalid_b _ _ false HV.out _ HI.out.1 HI.out.2).mono ?_
  rintro e w2 ⟨rfl, hb⟩
  have b2 := on_below b1 hb
  clear hb
  go_wp2_with fail
  go_ret
  exact ⟨rfl, b2⟩

set_option maxRecDepth 100000 in
set_option maxHeartbeats 1000000 in
theorem bad (c : Int) (ic : I64 c) (rN rD : Int) (irN : I64 rN) (irD : I64 rD) (w : World) (hs : St w) (ha : am c = true) (hv : vld rN rD = true) (bc : Bd c) (k1 : ∀ W : World, Calls Tryd.prog 14 #[.int .i64 c, .agg #[.int .i64 1, .int .i64 1]] W fun e w' => e = .returned (.tuple #[.int .i64 c, .int .i64 0]) ∧ Below W.heap.size W w') (k2 : ∀ W : World, Calls Tryd.prog 14 #[.int .i64 c, .agg #[.int .i64 rN, .int .i64 rD]] W fun e w' => e = .returned (.tuple #[.int .i64 0, .int .i64 3]) ∧ Below W.heap.size W w') (k3 : ∀ W : World, Calls Tryd.prog 14 #[.int .i64 (-c), .agg #[.int .i64 rN, .int .i64 rD]] W fun e w' => e = .returned (.tuple #[.int .i64 0, .int .i64 3]) ∧ Below W.heap.size W w') :
    Calls Tryd.prog 4 #[.int .i64 c, .agg #[.int .i64 rN, .int .i64 rD]] w fun e w' => e = .returned (.bool true) ∧ Below w.heap.size w w' := by
  have HS := Lib.hid hs
  clear hs
  have HA := Lib.hid ha
  clear ha
  have HV := Lib.hid hv
  clear hv
  have HI := Lib.hid (And.intro irN irD)
  have ⟨bc1, bc2⟩ := bc
  clear bc
  have K1 := Lib.hid k1
  clear k1
  have K2 := Lib.hid k2
  clear k2
  have K3 := Lib.hid k3
  clear k3
  go_enter Tryd.func4, Tryd.ntmps4
  go_wp2_with fail
  have p := Pr.here w rN rD 30
  have b0 : Below w.heap.size w (w.alloc (.cells #[.int .i64 rN, .int .i64 rD] 30)) := (Below.refl _ _).alloc (Nat.le_refl _) _
  generalize w.alloc (.cells #[.int .i64 rN, .int .i64 rD] 30) = w0 at *
  refine (head_any _ (HS.out.below b0 HS.out.sz)).mono ?_
  rintro e w1 ⟨rfl, hb⟩
  replace p := p.on hb
  have b1 := on_below b0 hb
  clear hb b0
  have ⟨p0, p1⟩ := p
  have pl := p.lt
  go_wp2_with fail
  clear p0 p1 pl
  refine (refam_b c true HA.out _).mono ?_
  rintro e w' ⟨rfl, rfl⟩
  have ⟨p0, p1⟩ := p
  have pl := p.lt
  go_wp2_with fail
  clear p0 p1 pl
  refine (refvalid_b _ _ true HV.out _ HI.out.1 HI.out.2).mono ?_
  rintro e w2 ⟨rfl, hb⟩
  replace p := p.on hb
  have b2 := on_below b1 hb
  clear hb b1
  have ⟨p0, p1⟩ := p
  have pl := p.lt
  go_wp2_with fail
  clear p0 p1 pl
  refine (K1.out _).mono ?_
  rintro e w3 ⟨rfl, hb⟩
  replace p := p.on hb
  have b3 := on_below b2 hb
  clear hb b2
  have ⟨p0, p1⟩ := p
  have pl := p.lt
  go_wp2_with fail
  clear p0 p1 pl
  refine (K2.out _).mono ?_
  rintro e w4 ⟨rfl, hb⟩
  replace p := p.on hb
  have b4 := on_below b3 hb
  clear hb b3
  have ⟨p0, p1⟩ := p
  have pl := p.lt
  go_wp2_with fail
  clear p0 p1 pl
  refine (K3.out _).mono ?_
  rintro e w5 ⟨rfl, hb⟩
  replace p := p.on hb
  have b5 := on_below b4 hb
  clear hb b4
  have ⟨p0, p1⟩ := p
  have pl := p.lt
  go_wp2_with fail
  clear p0 p1 pl
  go_ret
  exact ⟨rfl, b5⟩

set_option maxRecDepth 100000 in
set_option maxHeartbeats 1000000 in
theorem good (c : Int) (ic : I64 c) (rN rD : Int) (irN : I64 rN) (irD : I64 rD) (w : World) (hs : St w) (ha : am c = true) (hv : vld rN rD = true) (bc : Bd c) (t : Int) (k1 : ∀ W : World, Calls Tryd.prog 14 #[.int .i64 c, .agg #[.int .i64 1, .int .i64 1]] W fun e w' => e = .returned (.tuple #[.int .i64 c, .int .i64 0]) ∧ Below W.heap.size W w') (k2 : ∀ W : World, Calls Tryd.prog 14 #[.int .i64 c, .agg #[.int .i64 rN, .int .i64 rD]] W fun e w' => e = .returned (.tuple #[.int .i64 t, .int .i64 0]) ∧ Below W.heap.size W w') (k3 : ∀ W : World, Calls Tryd.prog 14 #[.int .i64 (-c), .agg #[.int .i64 rN, .int .i64 rD]] W fun e w' => e = .returned (.tuple #[.int .i64 (-t), .int .i64 0]) ∧ Below W.heap.size W w') (ht : am t = true) (bt : -1000000000 ≤ t ∧ t ≤ 1000000000) (hd : 2 * wrap64 (wrap64 (t * rD) - wrap64 (c * rN)) ≤ rD ∧ -(2 * wrap64 (wrap64 (t * rD) - wrap64 (c * rN))) ≤ rD ∧ 1 ≤ rD ∧ rD ≤ 1000000000) :
    Calls Tryd.prog 4 #[.int .i64 c, .agg #[.int .i64 rN, .int .i64 rD]] w fun e w' => e = .returned (.bool true) ∧ Below w.heap.size w w' := by
  have HS := Lib.hid hs
  clear hs
  have HA := Lib.hid ha
  clear ha
  have HV := Lib.hid hv
  clear hv
  have HI := Lib.hid (And.intro irN irD)
  have ⟨bc1, bc2⟩ := bc
  clear bc
  have K1 := Lib.hid k1
  clear k1
  have K2 := Lib.hid k2
  clear k2
  have K3 := Lib.hid k3
  clear k3
  have HT := Lib.hid ht
  clear ht
  have HD := Lib.hid hd
  clear hd
  obtain ⟨bt1, bt2⟩ := bt
  go_enter Tryd.func4, Tryd.ntmps4
  go_wp2_with fail
  have p := Pr.here w rN rD 30
  have b0 : Below w.heap.size w (w.alloc (.cells #[.int .i64 rN, .int .i64 rD] 30)) := (Below.refl _ _).alloc (Nat.le_refl _) _
  generalize w.alloc (.cells #[.int .i64 rN, .int .i64 rD] 30) = w0 at *
  refine (head_any _ (HS.out.below b0 HS.out.sz)).mono ?_
  rintro e w1 ⟨rfl, hb⟩
  replace p := p.on hb
  have b1 := on_below b0 hb
  clear hb b0
  have ⟨p0, p1⟩ := p
  have pl := p.lt
  go_wp2_with fail
  clear p0 p1 pl
  refine (refam_b c true HA.out _).mono ?_
  rintro e w' ⟨rfl, rfl⟩
  have ⟨p0, p1⟩ := p
  have pl := p.lt
  go_wp2_with fail
  clear p0 p1 pl
  refine (refvalid_b _ _ true HV.out _ HI.out.1 HI.out.2).mono ?_
  rintro e w2 ⟨rfl, hb⟩
  replace p := p.on hb
  have b2 := on_below b1 hb
  clear hb b1
  have ⟨p0, p1⟩ := p
  have pl := p.lt
  go_wp2_with fail
  clear p0 p1 pl
  refine (K1.out _).mono ?_
  rintro e w3 ⟨rfl, hb⟩
  replace p := p.on hb
  have b3 := on_below b2 hb
  clear hb b2
  have ⟨p0, p1⟩ := p
  have pl := p.lt
  go_wp2_with fail
  clear p0 p1 pl
  refine (K2.out _).mono ?_
  rintro e w4 ⟨rfl, hb⟩
  replace p := p.on hb
  have b4 := on_below b3 hb
  clear hb b3
  have ⟨p0, p1⟩ := p
  have pl := p.lt
  go_wp2_with fail
  clear p0 p1 pl
  refine (K3.out _).mono ?_
  rintro e w5 ⟨rfl, hb⟩
  replace p := p.on hb
  have b5 := on_below b4 hb
  clear hb b4
  have ⟨p0, p1⟩ := p
  have pl := p.lt
  go_wp2_with fail
  clear p0 p1 pl
  have hd := HD.out
  clear HD
  generalize wrap64 (wrap64 (t * rD) - wrap64 (c * rN)) = d at *
  obtain ⟨hd1, hd2, hd3, hd4⟩ := hd
  refine (refam_b t true HT.out _).mono ?_
  rintro e w' ⟨rfl, rfl⟩
  have ⟨p0, p1⟩ := p
  have pl := p.lt
  go_wp2_with fail
  go_ret
  exact ⟨ret_bool (by first | rfl | (simp; omega)), b5⟩


theorem walk (c : Int) (ic : I64 c) (rN rD : Int) (irN : I64 rN) (irD : I64 rD) (w : World) (hs : St w) :
    Calls Tryd.prog 4 #[.int .i64 c, .agg #[.int .i64 rN, .int .i64 rD]] w fun e w' => e = .returned (.bool true) ∧ Below w.heap.size w w' := by
  cases ha : am c with
  | false => exact inv1 c ic rN rD irN irD w hs ha
  | true =>
    cases hv : vld rN rD with
    | false => exact inv2 c ic rN rD irN irD w hs ha hv
    | true =>
      have bc := am_bd.1 ha
      obtain ⟨v1, v2, v3, v4, -⟩ := (vld_iff rN rD).1 hv
      have ha' : am (-c) = true := am_iff.2 (by have := am_iff.1 ha; omega)
      have k1 : ∀ W : World, Calls Tryd.prog 14 #[.int .i64 c, .agg #[.int .i64 1, .int .i64 1]] W fun e w' => e = .returned (.tuple #[.int .i64 c, .int .i64 0]) ∧ Below W.heap.size W w' := fun W => by
        have h := scale_any c 1 1 W (i64_of (by omega) (by omega)) (i64_of (by omega) (by omega))
        have e1 : tms c 1 1 = c := tms_one c
        rwa [show sclN c 1 1 = c by simp [sclN, ha, show vld 1 1 = true by decide +kernel, e1, rsN], show sclE c 1 1 = 0 by simp [sclE, ha, show vld 1 1 = true by decide +kernel, e1, rsE]] at h
      have k2 := fun W => scale_any c rN rD W irN irD
      have k3 := fun W => scale_any (-c) rN rD W irN irD
      have e2 : sclN c rN rD = rsN (tms c rN rD) := by simp [sclN, ha, hv]
      have e3 : sclE c rN rD = rsE (tms c rN rD) := by simp [sclE, ha, hv]
      have e4 : sclN (-c) rN rD = rsN (-(tms c rN rD)) := by simp [sclN, ha', hv, tms_neg c rN v1]
      have e5 : sclE (-c) rN rD = rsE (-(tms c rN rD)) := by simp [sclE, ha', hv, tms_neg c rN v1]
      rw [e2, e3] at k2
      rw [e4, e5] at k3
      have hn := tms_near c rN v1
      generalize tms c rN rD = t at *
      cases ht : am t with
      | false =>
        have ht' : am (-t) = false := am_no.2 (by have := am_no.1 ht; omega)
        rw [show rsN t = 0 by simp [rsN, ht], show rsE t = 3 by simp [rsE, ht]] at k2
        rw [show rsN (-t) = 0 by simp [rsN, ht'], show rsE (-t) = 3 by simp [rsE, ht']] at k3
        exact bad c ic rN rD irN irD w hs ha hv bc k1 k2 k3
      | true =>
        have ht' : am (-t) = true := am_iff.2 (by have := am_iff.1 ht; omega)
        rw [show rsN t = t by simp [rsN, ht], show rsE t = 0 by simp [rsE, ht]] at k2
        rw [show rsN (-t) = -t by simp [rsN, ht'], show rsE (-t) = 0 by simp [rsE, ht']] at k3
        have bt := am_bd.1 ht
        refine good c ic rN rD irN irD w hs ha hv bc t k1 k2 k3 ht bt ?_
        have m1 := mul_bd bt (⟨by omega, v2⟩ : Bd rD)
        have m2 := mul_bd bc (⟨v3, v4⟩ : Bd rN)
        rw [show wrap64 (t * rD) = t * rD from IntWalk.wrap64_in _ ⟨by omega, by omega⟩, show wrap64 (c * rN) = c * rN from IntWalk.wrap64_in _ ⟨by omega, by omega⟩, show wrap64 (t * rD - c * rN) = t * rD - c * rN from IntWalk.wrap64_in _ ⟨by omega, by omega⟩]
        omega

/-! ### The row and the card -/
open Go.ChangeShapes Go.WideShapes Go.ChangeAt
open Go.ChangeMaps (open_string shut_string)

set_option maxRecDepth 100000 in
theorem contract (H : Type) (enc : TypeId × Value → H) (W : World) (base : Nat) (args : Array Value) (ds gs : List (DataW H)) (before : List MemPlace)
    (hval : ∀ (j : Nat) t v, Tryd.f4.params[j]? = some t → args[j]? = some v → Value.okWide Tryd.prog W .any base t v)
    (hW : DataW.Whole enc Tryd.prog Tryd.f4.params.toList Rows.moneyRoundsSpec.vars false W args.toList ds gs before) (hL : laidMetH Tryd.prog laid4 W) (hsh : W.ShapedOpen Tryd.prog) :
    Calls Tryd.prog 4 args W fun e W' => ∃ v, e = .returned v ∧ Rows.moneyRoundsSpec.post enc Tryd.prog Tryd.f4 false true false false W args v W' := by
  have hW' := hW
  obtain ⟨p, q, hA0, hV, rfl, hfz, hnd⟩ := hW
  have hA : DataW.TrodAll enc Tryd.prog W 0 (fun _ => true) true Tryd.f4.params.toList args.toList ds p := hA0
  rw [Tryd.params4] at hA hval
  obtain ⟨v0, vs0, d0, ds0, p0, q0, hargs, rfl, rfl, h0, r0⟩ := trodAll_cons hA
  obtain ⟨v1, vs1, d1, ds1, p1, q1, rfl, rfl, rfl, h1, r1⟩ := trodAll_cons r0
  obtain ⟨rfl, rfl, rfl⟩ := trodAll_nil r1
  obtain rfl : args = #[v0, v1] := Array.toList_inj.1 hargs
  obtain ⟨rfl, rfl⟩ := trodVars_none hV
  obtain ⟨c, rfl, rfl, rfl, wc⟩ := open_int Tryd.underlying3 (hval 0 3 v0 rfl rfl) h0
  obtain ⟨rN, rD, rfl, rfl, rfl, wrN, wrD⟩ := open_rat (hval 1 30 v1 rfl rfl) h1
  clear hA0
  refine (walk c (wf_i wc) rN rD (wf_i wrN) (wf_i wrD) W (st_of4 hL)).mono fun e W' ⟨he, bel⟩ => ?_
  subst he
  exact ⟨_, rfl, _, _, _, [], [], [], hW', trodAll_mk1 (shut_bool Tryd.underlying4 _), (trodAll_cons_mk (shut_int Tryd.underlying3 wc) (trodAll_cons_mk (shut_rat wrN wrD) trodAll_mk0)), rfl, bel.frame _, fun h => by cases h⟩

theorem reads (os : Os) {H : Type} (enc : TypeId × Value → H) : ∃ places, DataW.whole enc Tryd.prog ((laidWorld os).forCall (fun _ _ => 0) ⟨#[], #[.int .i64 0, .agg #[.int .i64 0, .int .i64 0]], []⟩).memory Tryd.f4.params.toList Rows.moneyRoundsSpec.vars false (#[.int .i64 0, .agg #[.int .i64 0, .int .i64 0]] : Array Value).toList 8 = some ([.lit (.int .i64 0), .agg [.lit (.int .i64 0), .lit (.int .i64 0)]], [], places) :=
  ⟨[], by kernel_rfl⟩

set_option maxRecDepth 100000 in
theorem lifted (os : Os) (started : os.Started) (H : Type) (enc : TypeId × Value → H) (F : Stop.Interp) :
    ReturnsInHanded {} Tryd.checked os 4 .any ((OpenSpec.ofChange Rows.moneyRoundsSpec).preRow enc Tryd.prog Tryd.f4 Rows.moneyRoundsRow.domain false Rows.moneyRoundsRow.laid) (((OpenSpec.ofChange Rows.moneyRoundsSpec).at F).post enc Tryd.prog Tryd.f4 false true false false) := by
  obtain ⟨places, hx⟩ := reads os enc
  refine returnsInHanded_of_row (C := Tryd.checked) (s := OpenSpec.ofChange Rows.moneyRoundsSpec) own started (by kernel_rfl) Tryd.func4
    (witness_row_atRef (enc := enc) (C := Tryd.checked) false (laidWorld os) #[.int .i64 0, .agg #[.int .i64 0, .int .i64 0]] rfl (by kernel_rfl) (by kernel_rfl) (by kernel_rfl)
      (OpenSpec.preRow_of_cond 8 hx (by kernel_rfl) (fun k hk => by cases hk) (by kernel_rfl) (laidWorld_met4 os _))) ?_
  intro W base args ds gs before hval hW _ hcond _ hL hsh _
  exact contract H enc W base args ds gs before hval hW hL hsh

theorem said : Rows.MoneyRoundsSaid :=
  OpenClaim.holds_of_cond 4 Tryd.f4 rfl rfl rfl rfl rfl rfl rfl ⟨rfl, rfl, rfl, rfl, rfl⟩ rfl rfl rfl rfl rfl (by kernel_rfl) Tryd.func4 (by kernel_rfl)
    (of_decide_eq_true (by kernel_rfl)) (by unfold Func.isWrapper; first | (rw [if_pos (by decide +kernel)]; kernel_rfl) | (rw [if_neg (by decide +kernel)]; exact ⟨rfl, rfl⟩))
    (fun os started H enc _ F => by rw [OpenClaim.pre_eq_preRow]; exact lifted os started H enc F)

theorem plain (f : FuncId) (fn : Func) (hf : Tryd.pinned.checked.prog.funcNamed "barcarole/barcarolelaw02.MoneyRounds" = some f) (hfn : Tryd.pinned.checked.prog.funcs[f]? = some fn) :
    true = Tryd.pinned.checked.prog.looks [] ∧ ∀ (j : Nat) t, fn.params[j]? = some t → Tryd.pinned.checked.prog.wantsStandIn t = false := by
  obtain rfl : f = 4 := Option.some.inj ((show Tryd.prog.funcNamed "barcarole/barcarolelaw02.MoneyRounds" = some 4 by kernel_rfl).symm.trans hf) |>.symm
  obtain rfl : fn = Tryd.f4 := (Option.some.inj (Tryd.func4.symm.trans hfn)).symm
  refine ⟨by kernel_rfl, fun j t ht => ?_⟩
  rw [Tryd.params4] at ht
  have ht' : t = 30 ∨ t = 3 := by
    have := Array.mem_of_getElem? ht
    simp at this
    first | omega | (rcases this with h | h | h | h | h <;> simp [h]) | (rcases this with h | h | h | h <;> simp [h]) | (rcases this with h | h | h <;> simp [h]) | (rcases this with h | h <;> simp [h])
  rcases ht' with rfl | rfl
  · exact (show Tryd.prog.wantsStandIn 30 = false by kernel_rfl)
  · exact (show Tryd.prog.wantsStandIn 3 = false by kernel_rfl)

/-- The statement. -/
theorem card : Rows.MoneyRoundsCardSaid :=
  Claim7.holds_tied_plain_at .later [] _ _ _ _ said (fun _ h => by cases h) (by kernel_rfl) (fun _ h => by cases h) moneyRounds_row_tie rfl ⟨rfl, rfl⟩ (by kernel_rfl) rfl plain (by kernel_rfl)
end Go.Proofs.YtanncjkkaeeiaaaDoor.moneyRounds
