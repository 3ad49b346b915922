/-
  P6.6: the product of two public keys is the public key of the sum of the secrets, and 1 if this sum is 0. For any two numbers that secrets are made of.
  Conditions: none besides the row's.
-/
import Derived.Test.YtiapigoknlaihaaDoorSgnX
import Derived.Test.YtiapigoknlaihaaDoorCards
import Derived.Test.YtiapigoknlaihaaDoorTie
import Derived.Deep.DeepCutAuto
namespace Go.Proofs.YtiapigoknlaihaaDoor.signSums
open Go.RowKit Go.Sort
open Go.RowKit (Below)
set_option linter.unusedVariables false
set_option linter.unusedSimpArgs false

set_option maxRecDepth 100000 in
set_option maxHeartbeats 2000000 in
theorem law_any (k : Int) (ik : U64 k) (o : Int) (io : U64 o) (w : World) (hs : St w) :
    Calls Tryd.prog 8 #[.int .u64 k, .int .u64 o] w fun e w' => e = .returned (.bool true) ∧ Below w.heap.size w w' := by
  have HS := Lib.hid hs
  clear hs
  obtain ⟨x, hx, x1, x2⟩ := secret_ex k ik
  obtain ⟨y, hy, y1, y2⟩ := secret_ex o io
  obtain ⟨p, hp⟩ := pk x1 x2
  obtain ⟨q, hq⟩ := pk y1 y2
  obtain ⟨z, hz⟩ : ∃ z, (x + y) % 1073741789 = z := ⟨_, rfl⟩
  have hv : p * q % 2147483579 = pwr 4 z := by rw [← hz, ← hp.pw, ← hq.pw]; exact pwr_mul x y
  have SX := Lib.hid (fun W => secret_is k ik x hx W)
  have SY := Lib.hid (fun W => secret_is o io y hy W)
  have PX := Lib.hid hp
  have PY := Lib.hid hq
  have s1 : IntKind.i64.wrap ((x : Int) + y) = x + y := IntWalk.i64_in _ ⟨by omega, by omega⟩
  have s2 : ((x : Int) + y).tmod 1073741789 = z := by rw [Int.tmod_eq_emod_of_nonneg (by omega)]; omega
  obtain ⟨l1, l2⟩ := cast_bd hp.lp hq.lp (by omega)
  have m1 : IntKind.i64.wrap ((p : Int) * q) = p * q := IntWalk.i64_in _ ⟨by omega, by omega⟩
  have zl : z < 1073741789 := by omega
  clear hx hy ik io x1 x2 y1 y2 l1 l2 hz
  by_cases h0 : z = 0
  · have m2 : ((p : Int) * q).tmod 2147483579 = 1 := cast_mod (by rw [hv, h0]; rfl)
    rw [h0] at s2
    clear h0 hv zl
    clear hp hq
    have HB := Lib.hid (Below.refl w.heap.size w)
    go_enter Tryd.func8, Tryd.ntmps8
    go_wp2_with fail
    refine (head_any _ HS.out).mono ?_
    rintro e_ w1 ⟨rfl, hb⟩
    replace HB := Lib.hid (on_below HB.out hb)
    replace HS := Lib.hid (HS.out.on hb)
    clear hb
    go_wp2_with fail
    refine (SX.out _).mono ?_
    rintro e_ wq ⟨rfl, hw⟩
    subst hw
    go_wp2_with fail
    refine (SY.out _).mono ?_
    rintro e_ wq ⟨rfl, hw⟩
    subst hw
    go_wp2_with fail
    refine (public_is x _ _ PX.out.fV PX.out.fE _).mono ?_
    rintro e_ w2 ⟨rfl, hb⟩
    replace HB := Lib.hid (on_below HB.out hb)
    replace HS := Lib.hid (HS.out.on hb)
    clear hb
    go_wp2_with fail
    refine (public_is y _ _ PY.out.fV PY.out.fE _).mono ?_
    rintro e_ w3 ⟨rfl, hb⟩
    replace HB := Lib.hid (on_below HB.out hb)
    replace HS := Lib.hid (HS.out.on hb)
    clear hb
    go_wp2_with fail
    refine (relement_any p true PX.out.el _).mono ?_
    rintro e_ wq ⟨rfl, hw⟩
    subst hw
    go_wp2_with fail
    refine (relement_any q true PY.out.el _).mono ?_
    rintro e_ wq ⟨rfl, hw⟩
    subst hw
    go_wp2_with fail
    go_ret
    exact ⟨rfl, HB.out⟩
  obtain ⟨v, hp2⟩ := pk (x := z) (by omega) zl
  have m2 : ((p : Int) * q).tmod 2147483579 = v := cast_mod (by rw [hv, hp2.pw])
  have PZ := Lib.hid hp2
  have hz0 : ((z : Int) == 0) = false := by rw [beq_eq_false_iff_ne]; omega
  clear hp2 h0 hv zl
  clear hp hq
  have HB := Lib.hid (Below.refl w.heap.size w)
  go_enter Tryd.func8, Tryd.ntmps8
  go_wp2_with fail
  refine (head_any _ HS.out).mono ?_
  rintro e_ w1 ⟨rfl, hb⟩
  replace HB := Lib.hid (on_below HB.out hb)
  replace HS := Lib.hid (HS.out.on hb)
  clear hb
  go_wp2_with fail
  refine (SX.out _).mono ?_
  rintro e_ wq ⟨rfl, hw⟩
  subst hw
  go_wp2_with fail
  refine (SY.out _).mono ?_
  rintro e_ wq ⟨rfl, hw⟩
  subst hw
  go_wp2_with fail
  refine (public_is x _ _ PX.out.fV PX.out.fE _).mono ?_
  rintro e_ w2 ⟨rfl, hb⟩
  replace HB := Lib.hid (on_below HB.out hb)
  replace HS := Lib.hid (HS.out.on hb)
  clear hb
  go_wp2_with fail
  refine (public_is y _ _ PY.out.fV PY.out.fE _).mono ?_
  rintro e_ w3 ⟨rfl, hb⟩
  replace HB := Lib.hid (on_below HB.out hb)
  replace HS := Lib.hid (HS.out.on hb)
  clear hb
  go_wp2_with fail
  refine (relement_any p true PX.out.el _).mono ?_
  rintro e_ wq ⟨rfl, hw⟩
  subst hw
  go_wp2_with fail
  refine (relement_any q true PY.out.el _).mono ?_
  rintro e_ wq ⟨rfl, hw⟩
  subst hw
  go_wp2_with fail
  refine (public_is z _ _ PZ.out.fV PZ.out.fE _).mono ?_
  rintro e_ w4 ⟨rfl, hb⟩
  replace HB := Lib.hid (on_below HB.out hb)
  replace HS := Lib.hid (HS.out.on hb)
  clear hb
  go_wp2_with fail
  go_ret
  exact ⟨rfl, HB.out⟩
/-! ### The row and the card -/
open Go.ChangeShapes Go.WideShapes Go.ChangeAt Go.Joins

set_option maxRecDepth 100000 in
theorem contract (H : Type) (enc : TypeId × Value → H) (W : World) (base : Nat) (args : Array Value) (ds gs : List (DataW H)) (before : List MemPlace)
    (hval : ∀ (j : Nat) t v, Tryd.f8.params[j]? = some t → args[j]? = some v → Value.okWide Tryd.prog W .any base t v)
    (hW : DataW.Whole enc Tryd.prog Tryd.f8.params.toList Rows.signSumsSpec.vars false W args.toList ds gs before) (hL : laidMetH Tryd.prog laid3 W) :
    Calls Tryd.prog 8 args W fun e W' => ∃ v, e = .returned v ∧ Rows.signSumsSpec.post enc Tryd.prog Tryd.f8 false true false false W args v W' := by
  have hW' := hW
  have hold : ∀ q ∈ before, decide (q.block < W.heap.size) = true := fun q hq => by simpa using hW.lt q hq
  obtain ⟨p, q, hA0, hV, rfl, hfz, hnd⟩ := hW
  have hA : DataW.TrodAll enc Tryd.prog W 0 (fun _ => true) true Tryd.f8.params.toList args.toList ds p := hA0
  rw [Tryd.params8] at hA hval
  obtain ⟨v0, vs0, d0, ds0, p0, q0, hargs, rfl, rfl, h0, r0⟩ := trodAll_cons hA
  obtain ⟨v1, vs1, d1, ds1, p1, q1, rfl, rfl, rfl, h1, r1⟩ := trodAll_cons r0
  obtain ⟨rfl, rfl, rfl⟩ := trodAll_nil r1
  obtain rfl : args = #[v0, v1] := Array.toList_inj.1 hargs
  obtain ⟨rfl, rfl⟩ := trodVars_none hV
  obtain ⟨k, rfl, rfl, rfl, wk⟩ := open_int Tryd.underlying34 (hval 0 34 v0 rfl rfl) h0
  obtain ⟨o, rfl, rfl, rfl, wo⟩ := open_int Tryd.underlying34 (hval 1 34 v1 rfl rfl) h1
  clear hA0
  refine (law_any k (wf_u64 wk) o (wf_u64 wo) W (st_of hL)).mono fun e W' ⟨he, bel⟩ => ?_
  subst he
  exact ⟨_, rfl, _, _, _, [], _, [], hW', trodAll_mk1 (shut_bool Tryd.underlying4 _), (trodAll_cons_mk (shut_int Tryd.underlying34 wk) (trodAll_cons_mk (shut_int Tryd.underlying34 wo) trodAll_mk0)), rfl, bel.frame _, fun h => by cases h⟩

theorem reads (os : Os) {H : Type} (enc : TypeId × Value → H) : ∃ places, DataW.whole enc Tryd.prog ((laidWorld os).forCall (fun _ _ => 0) ⟨#[], #[.int .u64 0, .int .u64 0], []⟩).memory Tryd.f8.params.toList Rows.signSumsSpec.vars false (#[.int .u64 0, .int .u64 0] : Array Value).toList 8 = some ([.lit (.int .u64 0), .lit (.int .u64 0)], [], places) :=
  ⟨[], by kernel_rfl⟩

set_option maxRecDepth 100000 in
theorem lifted (os : Os) (started : os.Started) (H : Type) (enc : TypeId × Value → H) (F : Stop.Interp) :
    ReturnsInHanded {} Tryd.checked os 8 .any ((OpenSpec.ofChange Rows.signSumsSpec).preRow enc Tryd.prog Tryd.f8 Rows.signSumsRow.domain false Rows.signSumsRow.laid) (((OpenSpec.ofChange Rows.signSumsSpec).at F).post enc Tryd.prog Tryd.f8 false true false false) := by
  obtain ⟨places, hx⟩ := reads os enc
  refine returnsInHanded_of_row (C := Tryd.checked) (s := OpenSpec.ofChange Rows.signSumsSpec) own started (by kernel_rfl) Tryd.func8
    (witness_row_atRef (enc := enc) (C := Tryd.checked) false (laidWorld os) #[.int .u64 0, .int .u64 0] rfl (by kernel_rfl) (by kernel_rfl) (by kernel_rfl)
      (OpenSpec.preRow_of_cond 8 hx (by kernel_rfl) (fun k hk => by cases hk) (by kernel_rfl) (laidWorld_met3 os _))) ?_
  intro W base args ds gs before hval hW _ hcond _ hL hsh _
  exact contract H enc W base args ds gs before hval hW hL

theorem said : Rows.SignSumsSaid :=
  OpenClaim.holds_of_cond 8 Tryd.f8 rfl rfl rfl rfl rfl rfl rfl ⟨rfl, rfl, rfl, rfl, rfl⟩ rfl rfl rfl rfl rfl (by kernel_rfl) Tryd.func8 (by kernel_rfl)
    (of_decide_eq_true (by kernel_rfl)) (by unfold Func.isWrapper; first | (rw [if_pos (by decide +kernel)]; kernel_rfl) | (rw [if_neg (by decide +kernel)]; exact ⟨rfl, rfl⟩))
    (fun os started H enc _ F => by rw [OpenClaim.pre_eq_preRow]; exact lifted os started H enc F)

theorem plain (f : FuncId) (fn : Func) (hf : Tryd.pinned.checked.prog.funcNamed "barcarole/barcarolelaw06.SignSums" = some f) (hfn : Tryd.pinned.checked.prog.funcs[f]? = some fn) :
    false = Tryd.pinned.checked.prog.looks [] ∧ ∀ (j : Nat) t, fn.params[j]? = some t → Tryd.pinned.checked.prog.wantsStandIn t = false := by
  obtain rfl : f = 8 := Option.some.inj ((show Tryd.prog.funcNamed "barcarole/barcarolelaw06.SignSums" = some 8 by kernel_rfl).symm.trans hf) |>.symm
  obtain rfl : fn = Tryd.f8 := (Option.some.inj (Tryd.func8.symm.trans hfn)).symm
  refine ⟨by kernel_rfl, fun j t ht => ?_⟩
  rw [Tryd.params8] at ht
  have ht' : t = 34 := by
    have := Array.mem_of_getElem? ht
    simp at this
    first | omega | (rcases this with h | h | h | h | h | h <;> simp [h]) | (rcases this with h | h | h | h | h <;> simp [h]) | (rcases this with h | h | h | h <;> simp [h]) | (rcases this with h | h | h <;> simp [h]) | (rcases this with h | h <;> simp [h])
  rcases ht' with rfl
  · exact (show Tryd.prog.wantsStandIn 34 = false by kernel_rfl)

/-- The statement. -/
theorem card : Rows.SignSumsCardSaid :=
  Claim7.holds_tied_plain_at .later [] _ _ _ _ said (fun _ h => by cases h) (by kernel_rfl) (fun _ h => by cases h) signSums_row_tie rfl ⟨rfl, rfl⟩ (by kernel_rfl) rfl plain (by kernel_rfl)
end Go.Proofs.YtiapigoknlaihaaDoor.signSums
