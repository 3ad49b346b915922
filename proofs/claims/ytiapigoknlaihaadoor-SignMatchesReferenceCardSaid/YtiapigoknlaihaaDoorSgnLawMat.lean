/-
  P6.1: all functions return what the reference returns. For any integers, signature and list.
  Conditions: none besides the row's.
-/
import Derived.Test.YtiapigoknlaihaaDoorSgnX
import Derived.Test.YtiapigoknlaihaaDoorCards
import Derived.Test.YtiapigoknlaihaaDoorTie
import Derived.Deep.DeepCutAuto
namespace Go.Proofs.YtiapigoknlaihaaDoor.signMatches
open Go.RowKit Go.Sort
open Go.RowKit (Below)
set_option linter.unusedVariables false
set_option linter.unusedSimpArgs false

set_option maxRecDepth 100000 in
set_option maxHeartbeats 4000000 in
theorem law_any (a : Int) (ia : I64 a) (x : Int) (ix : I64 x) (o : Int) (io : I64 o) (sE sS : Int) (isE : I64 sE) (isS : I64 sS) (mA : Option Addr) (mC : Nat) (m : List Int) (jm : ∀ x ∈ m, I64 x) (km : m.length ≤ mC ∧ mC ≤ 9223372036854775807) (w : World) (hs : St w) (sm : Sk .i64 w mA m) :
    Calls Tryd.prog 3 #[.int .i64 a, .int .i64 x, .int .i64 o, .agg #[.int .i64 sE, .int .i64 sS], .slice mA m.length mC] w fun e w' => e = .returned (.bool true) ∧ Below w.heap.size w w' := by
  have HS := Lib.hid hs
  clear hs
  have HM := Lib.hid sm
  have HI := Lib.hid jm
  have HL := Lib.hid (Nat.le_trans km.1 km.2)
  clear sm jm km
  obtain ⟨V, hV⟩ : ∃ v, pubV x = v := ⟨_, rfl⟩
  have HV_ := Lib.hid hV
  clear hV
  obtain ⟨F, hF⟩ : ∃ v, pubE x = v := ⟨_, rfl⟩
  have HF_ := Lib.hid hF
  clear hF
  obtain ⟨e, he⟩ : ∃ v, sgnE x o m = v := ⟨_, rfl⟩
  have He_ := Lib.hid he
  clear he
  obtain ⟨E, hE⟩ : ∃ v, sgnC x o m = v := ⟨_, rfl⟩
  have HE_ := Lib.hid hE
  clear hE
  obtain ⟨Sx, hSx⟩ : ∃ v, sgnS x o m = v := ⟨_, rfl⟩
  have HSx_ := Lib.hid hSx
  clear hSx
  obtain ⟨g, hg⟩ : ∃ v, vfE a sE sS m = v := ⟨_, rfl⟩
  have Hg_ := Lib.hid hg
  clear hg
  obtain ⟨r, hr⟩ : ∃ v, vfB a sE sS m = v := ⟨_, rfl⟩
  have Hr_ := Lib.hid hr
  clear hr
  have hg : ∀ W, (binOp .eql 23 (.agg #[.int .i64 E, .int .i64 Sx]) (.agg #[.int .i64 E, .int .i64 Sx])).run Tryd.prog W = .ok (.bool true) W := fun W => sig_eq (by simp) W
  have HB := Lib.hid (Below.refl w.heap.size w)
  go_enter Tryd.func3, Tryd.ntmps3
  go_wp2_with fail
  have b0 : World.cell? (w.alloc (.cells #[.int .i64 sE, .int .i64 sS] 23)) ⟨w.heap.size, 0, none⟩ = some (.int .i64 sE) := by simp [go_sem]
  have b1 : World.cell? (w.alloc (.cells #[.int .i64 sE, .int .i64 sS] 23)) ⟨w.heap.size, 1, none⟩ = some (.int .i64 sS) := by simp [go_sem]
  have lb : w.heap.size < (w.alloc (.cells #[.int .i64 sE, .int .i64 sS] 23)).heap.size := by simp
  have hb : Below w.heap.size w (w.alloc (.cells #[.int .i64 sE, .int .i64 sS] 23)) := below_new _ _
  have zb : (w.alloc (.cells #[.int .i64 sE, .int .i64 sS] 23)).heap.size = w.heap.size + 1 := by simp
  generalize w.alloc (.cells #[.int .i64 sE, .int .i64 sS] 23) = w1 at *
  replace HB := Lib.hid (on_below HB.out hb)
  replace HS := Lib.hid (HS.out.on hb)
  replace HM := Lib.hid (HM.out.below hb)
  clear hb
  refine (head_any _ HS.out).mono ?_
  rintro e_ w2 ⟨rfl, hb⟩
  replace HB := Lib.hid (on_below HB.out hb)
  replace HS := Lib.hid (HS.out.on hb)
  replace HM := Lib.hid (HM.out.below hb)
  replace b0 := keepc hb b0
  replace b1 := keepc hb b1
  replace lb := Nat.lt_of_lt_of_le lb hb.size
  clear hb
  go_wp2_with fail
  refine (public_is x V F HV_.out HF_.out _).mono ?_
  rintro e_ w3 ⟨rfl, hb⟩
  replace HB := Lib.hid (on_below HB.out hb)
  replace HS := Lib.hid (HS.out.on hb)
  replace HM := Lib.hid (HM.out.below hb)
  replace b0 := keepc hb b0
  replace b1 := keepc hb b1
  replace lb := Nat.lt_of_lt_of_le lb hb.size
  clear hb
  go_wp2_with fail
  refine (rpublic_is x V F HV_.out HF_.out _).mono ?_
  rintro e_ wq ⟨rfl, hw⟩
  subst hw
  go_wp2_with fail
  refine (sign_is x o mA mC m E Sx e He_.out HE_.out HSx_.out _ HS.out HL.out HI.out HM.out).mono ?_
  rintro e_ w4 ⟨rfl, hb⟩
  replace HB := Lib.hid (on_below HB.out hb)
  replace HS := Lib.hid (HS.out.on hb)
  replace HM := Lib.hid (HM.out.below hb)
  replace b0 := keepc hb b0
  replace b1 := keepc hb b1
  replace lb := Nat.lt_of_lt_of_le lb hb.size
  clear hb
  go_wp2_with fail
  have p0 : World.cell? (w4.alloc (.cells #[.int .i64 E, .int .i64 Sx] 23)) ⟨w4.heap.size, 0, none⟩ = some (.int .i64 E) := by simp [go_sem]
  have p1 : World.cell? (w4.alloc (.cells #[.int .i64 E, .int .i64 Sx] 23)) ⟨w4.heap.size, 1, none⟩ = some (.int .i64 Sx) := by simp [go_sem]
  have lp : w4.heap.size < (w4.alloc (.cells #[.int .i64 E, .int .i64 Sx] 23)).heap.size := by simp
  have hb : Below w4.heap.size w4 (w4.alloc (.cells #[.int .i64 E, .int .i64 Sx] 23)) := below_new _ _
  have zp : (w4.alloc (.cells #[.int .i64 E, .int .i64 Sx] 23)).heap.size = w4.heap.size + 1 := by simp
  generalize w4.alloc (.cells #[.int .i64 E, .int .i64 Sx] 23) = w5 at *
  replace HB := Lib.hid (on_below HB.out hb)
  replace HS := Lib.hid (HS.out.on hb)
  replace HM := Lib.hid (HM.out.below hb)
  replace b0 := keepc hb b0
  replace b1 := keepc hb b1
  replace lb := Nat.lt_of_lt_of_le lb hb.size
  clear hb
  generalize w4.heap.size = gp at *
  refine (rsign_is x o mA mC m E Sx e He_.out HE_.out HSx_.out _ HL.out HI.out HM.out).mono ?_
  rintro e_ w6 ⟨rfl, hb⟩
  replace HB := Lib.hid (on_below HB.out hb)
  replace HS := Lib.hid (HS.out.on hb)
  replace HM := Lib.hid (HM.out.below hb)
  replace b0 := keepc hb b0
  replace b1 := keepc hb b1
  replace p0 := keepc hb p0
  replace p1 := keepc hb p1
  replace lb := Nat.lt_of_lt_of_le lb hb.size
  replace lp := Nat.lt_of_lt_of_le lp hb.size
  clear hb
  go_wp2_with fail
  have q0 : World.cell? (w6.alloc (.cells #[.int .i64 E, .int .i64 Sx] 23)) ⟨w6.heap.size, 0, none⟩ = some (.int .i64 E) := by simp [go_sem]
  have q1 : World.cell? (w6.alloc (.cells #[.int .i64 E, .int .i64 Sx] 23)) ⟨w6.heap.size, 1, none⟩ = some (.int .i64 Sx) := by simp [go_sem]
  have lq : w6.heap.size < (w6.alloc (.cells #[.int .i64 E, .int .i64 Sx] 23)).heap.size := by simp
  have hb : Below w6.heap.size w6 (w6.alloc (.cells #[.int .i64 E, .int .i64 Sx] 23)) := below_new _ _
  have zq : (w6.alloc (.cells #[.int .i64 E, .int .i64 Sx] 23)).heap.size = w6.heap.size + 1 := by simp
  generalize w6.alloc (.cells #[.int .i64 E, .int .i64 Sx] 23) = w7 at *
  replace HB := Lib.hid (on_below HB.out hb)
  replace HS := Lib.hid (HS.out.on hb)
  replace HM := Lib.hid (HM.out.below hb)
  replace b0 := keepc hb b0
  replace b1 := keepc hb b1
  replace p0 := keepc hb p0
  replace p1 := keepc hb p1
  replace lb := Nat.lt_of_lt_of_le lb hb.size
  replace lp := Nat.lt_of_lt_of_le lp hb.size
  clear hb
  generalize w6.heap.size = gq at *
  refine (verify_is a sE sS mA mC m r g Hg_.out Hr_.out _ HS.out HL.out HI.out HM.out).mono ?_
  rintro e_ w8 ⟨rfl, hb⟩
  replace HB := Lib.hid (on_below HB.out hb)
  replace HS := Lib.hid (HS.out.on hb)
  replace HM := Lib.hid (HM.out.below hb)
  replace b0 := keepc hb b0
  replace b1 := keepc hb b1
  replace p0 := keepc hb p0
  replace p1 := keepc hb p1
  replace q0 := keepc hb q0
  replace q1 := keepc hb q1
  replace lb := Nat.lt_of_lt_of_le lb hb.size
  replace lp := Nat.lt_of_lt_of_le lp hb.size
  replace lq := Nat.lt_of_lt_of_le lq hb.size
  clear hb
  go_wp2_with fail
  refine (rverify_is a sE sS mA mC m r g Hg_.out Hr_.out _ HL.out HI.out HM.out).mono ?_
  rintro e_ w9 ⟨rfl, hb⟩
  replace HB := Lib.hid (on_below HB.out hb)
  replace HS := Lib.hid (HS.out.on hb)
  replace HM := Lib.hid (HM.out.below hb)
  replace b0 := keepc hb b0
  replace b1 := keepc hb b1
  replace p0 := keepc hb p0
  replace p1 := keepc hb p1
  replace q0 := keepc hb q0
  replace q1 := keepc hb q1
  replace lb := Nat.lt_of_lt_of_le lb hb.size
  replace lp := Nat.lt_of_lt_of_le lp hb.size
  replace lq := Nat.lt_of_lt_of_le lq hb.size
  clear hb
  go_wp2_with fail
  go_ret
  exact ⟨rfl, HB.out⟩
/-! ### The row and the card -/
open Go.ChangeShapes Go.WideShapes Go.ChangeAt Go.Joins

set_option maxRecDepth 100000 in
theorem contract (H : Type) (enc : TypeId × Value → H) (W : World) (base : Nat) (args : Array Value) (ds gs : List (DataW H)) (before : List MemPlace)
    (hval : ∀ (j : Nat) t v, Tryd.f3.params[j]? = some t → args[j]? = some v → Value.okWide Tryd.prog W .any base t v)
    (hW : DataW.Whole enc Tryd.prog Tryd.f3.params.toList Rows.signMatchesReferenceSpec.vars false W args.toList ds gs before) (hL : laidMetH Tryd.prog laid3 W) :
    Calls Tryd.prog 3 args W fun e W' => ∃ v, e = .returned v ∧ Rows.signMatchesReferenceSpec.post enc Tryd.prog Tryd.f3 false true false false W args v W' := by
  have hW' := hW
  have hold : ∀ q ∈ before, decide (q.block < W.heap.size) = true := fun q hq => by simpa using hW.lt q hq
  obtain ⟨p, q, hA0, hV, rfl, hfz, hnd⟩ := hW
  have hA : DataW.TrodAll enc Tryd.prog W 0 (fun _ => true) true Tryd.f3.params.toList args.toList ds p := hA0
  rw [Tryd.params3] at hA hval
  obtain ⟨v0, vs0, d0, ds0, p0, q0, hargs, rfl, rfl, h0, r0⟩ := trodAll_cons hA
  obtain ⟨v1, vs1, d1, ds1, p1, q1, rfl, rfl, rfl, h1, r1⟩ := trodAll_cons r0
  obtain ⟨v2, vs2, d2, ds2, p2, q2, rfl, rfl, rfl, h2, r2⟩ := trodAll_cons r1
  obtain ⟨v3, vs3, d3, ds3, p3, q3, rfl, rfl, rfl, h3, r3⟩ := trodAll_cons r2
  obtain ⟨v4, vs4, d4, ds4, p4, q4, rfl, rfl, rfl, h4, r4⟩ := trodAll_cons r3
  obtain ⟨rfl, rfl, rfl⟩ := trodAll_nil r4
  obtain rfl : args = #[v0, v1, v2, v3, v4] := Array.toList_inj.1 hargs
  obtain ⟨rfl, rfl⟩ := trodVars_none hV
  obtain ⟨a, rfl, rfl, rfl, wa⟩ := open_int Tryd.underlying3 (hval 0 3 v0 rfl rfl) h0
  obtain ⟨x, rfl, rfl, rfl, wx⟩ := open_int Tryd.underlying3 (hval 1 3 v1 rfl rfl) h1
  obtain ⟨o, rfl, rfl, rfl, wo⟩ := open_int Tryd.underlying3 (hval 2 3 v2 rfl rfl) h2
  obtain ⟨sE, sS, rfl, rfl, rfl, wsE, wsS⟩ := open_sig (hval 3 23 v3 rfl rfl) h3
  obtain ⟨mA, mC, m, rfl, sm, wm, km, shutm⟩ := open_nums Tryd.underlying24 Tryd.underlying3 cellsInt (hval 4 24 v4 rfl rfl) h4
  clear hA0
  refine (law_any a (wf_i wa) x (wf_i wx) o (wf_i wo) sE sS (wf_i wsE) (wf_i wsS) mA mC m (fun x hx => wf_i (wm x hx)) km W (st_of hL) sm).mono fun e W' ⟨he, bel⟩ => ?_
  subst he
  exact ⟨_, rfl, _, _, _, [], _, [], hW', trodAll_mk1 (shut_bool Tryd.underlying4 _), (trodAll_cons_mk (shut_int Tryd.underlying3 wa) (trodAll_cons_mk (shut_int Tryd.underlying3 wx) (trodAll_cons_mk (shut_int Tryd.underlying3 wo) (trodAll_cons_mk (shut_sig wsE wsS) (trodAll_cons_mk (shutm W' (fun b => decide (b < W.heap.size)) bel (fun q hq => hold q (by simp [hq]))) trodAll_mk0))))), rfl, bel.frame _, fun h => by cases h⟩

theorem reads (os : Os) {H : Type} (enc : TypeId × Value → H) : ∃ places, DataW.whole enc Tryd.prog ((laidWorld os).forCall (fun _ _ => 0) ⟨#[], #[.int .i64 0, .int .i64 0, .int .i64 0, .agg #[.int .i64 0, .int .i64 0], .slice none 0 0], []⟩).memory Tryd.f3.params.toList Rows.signMatchesReferenceSpec.vars false (#[.int .i64 0, .int .i64 0, .int .i64 0, .agg #[.int .i64 0, .int .i64 0], .slice none 0 0] : Array Value).toList 8 = some ([.lit (.int .i64 0), .lit (.int .i64 0), .lit (.int .i64 0), .agg [.lit (.int .i64 0), .lit (.int .i64 0)], .nil], [], places) :=
  ⟨[], by kernel_rfl⟩

set_option maxRecDepth 100000 in
theorem lifted (os : Os) (started : os.Started) (H : Type) (enc : TypeId × Value → H) (F : Stop.Interp) :
    ReturnsInHanded {} Tryd.checked os 3 .any ((OpenSpec.ofChange Rows.signMatchesReferenceSpec).preRow enc Tryd.prog Tryd.f3 Rows.signMatchesReferenceRow.domain false Rows.signMatchesReferenceRow.laid) (((OpenSpec.ofChange Rows.signMatchesReferenceSpec).at F).post enc Tryd.prog Tryd.f3 false true false false) := by
  obtain ⟨places, hx⟩ := reads os enc
  refine returnsInHanded_of_row (C := Tryd.checked) (s := OpenSpec.ofChange Rows.signMatchesReferenceSpec) own started (by kernel_rfl) Tryd.func3
    (witness_row_atRef (enc := enc) (C := Tryd.checked) false (laidWorld os) #[.int .i64 0, .int .i64 0, .int .i64 0, .agg #[.int .i64 0, .int .i64 0], .slice none 0 0] rfl (by kernel_rfl) (by kernel_rfl) (by kernel_rfl)
      (OpenSpec.preRow_of_cond 8 hx (by kernel_rfl) (fun k hk => by cases hk) (by kernel_rfl) (laidWorld_met3 os _))) ?_
  intro W base args ds gs before hval hW _ hcond _ hL hsh _
  exact contract H enc W base args ds gs before hval hW hL

theorem said : Rows.SignMatchesReferenceSaid :=
  OpenClaim.holds_of_cond 3 Tryd.f3 rfl rfl rfl rfl rfl rfl rfl ⟨rfl, rfl, rfl, rfl, rfl⟩ rfl rfl rfl rfl rfl (by kernel_rfl) Tryd.func3 (by kernel_rfl)
    (of_decide_eq_true (by kernel_rfl)) (by unfold Func.isWrapper; first | (rw [if_pos (by decide +kernel)]; kernel_rfl) | (rw [if_neg (by decide +kernel)]; exact ⟨rfl, rfl⟩))
    (fun os started H enc _ F => by rw [OpenClaim.pre_eq_preRow]; exact lifted os started H enc F)

theorem plain (f : FuncId) (fn : Func) (hf : Tryd.pinned.checked.prog.funcNamed "barcarole/barcarolelaw06.SignMatchesReference" = some f) (hfn : Tryd.pinned.checked.prog.funcs[f]? = some fn) :
    false = Tryd.pinned.checked.prog.looks [] ∧ ∀ (j : Nat) t, fn.params[j]? = some t → Tryd.pinned.checked.prog.wantsStandIn t = false := by
  obtain rfl : f = 3 := Option.some.inj ((show Tryd.prog.funcNamed "barcarole/barcarolelaw06.SignMatchesReference" = some 3 by kernel_rfl).symm.trans hf) |>.symm
  obtain rfl : fn = Tryd.f3 := (Option.some.inj (Tryd.func3.symm.trans hfn)).symm
  refine ⟨by kernel_rfl, fun j t ht => ?_⟩
  rw [Tryd.params3] at ht
  have ht' : t = 24 ∨ t = 23 ∨ t = 3 := by
    have := Array.mem_of_getElem? ht
    simp at this
    first | omega | (rcases this with h | h | h | h | h | h <;> simp [h]) | (rcases this with h | h | h | h | h <;> simp [h]) | (rcases this with h | h | h | h <;> simp [h]) | (rcases this with h | h | h <;> simp [h]) | (rcases this with h | h <;> simp [h])
  rcases ht' with rfl | rfl | rfl
  · exact (show Tryd.prog.wantsStandIn 24 = false by kernel_rfl)
  · exact (show Tryd.prog.wantsStandIn 23 = false by kernel_rfl)
  · exact (show Tryd.prog.wantsStandIn 3 = false by kernel_rfl)

/-- The statement. -/
theorem card : Rows.SignMatchesReferenceCardSaid :=
  Claim7.holds_tied_plain_at .later [] _ _ _ _ said (fun _ h => by cases h) (by kernel_rfl) (fun _ h => by cases h) signMatchesReference_row_tie rfl ⟨rfl, rfl⟩ (by kernel_rfl) rfl plain (by kernel_rfl)
end Go.Proofs.YtiapigoknlaihaaDoor.signMatches
