/-
  P6.5: two public keys are equal exactly if the secrets are equal. For any two numbers that secrets are made of.
  Conditions: none besides the row's.
-/
import Derived.Test.YtiapigoknlaihaaDoorSgnX
import Derived.Test.YtiapigoknlaihaaDoorCards
import Derived.Test.YtiapigoknlaihaaDoorTie
import Derived.Deep.DeepCutAuto
namespace Go.Proofs.YtiapigoknlaihaaDoor.signSecrets
open Go.RowKit Go.Sort
open Go.RowKit (Below)
set_option linter.unusedVariables false
set_option linter.unusedSimpArgs false

set_option maxRecDepth 100000 in
set_option maxHeartbeats 2000000 in
theorem law_any (k : Int) (ik : U64 k) (o : Int) (io : U64 o) (w : World) (hs : St w) :
    Calls Tryd.prog 7 #[.int .u64 k, .int .u64 o] w fun e w' => e = .returned (.bool true) ∧ Below w.heap.size w w' := by
  have HS := Lib.hid hs
  clear hs
  obtain ⟨x, hx, x1, x2⟩ := secret_ex k ik
  obtain ⟨y, hy, y1, y2⟩ := secret_ex o io
  obtain ⟨p, hp⟩ := pk x1 x2
  obtain ⟨q, hq⟩ := pk y1 y2
  have HE := pk_eq x2 y2 hp hq
  have SX := Lib.hid (fun W => secret_is k ik x hx W)
  have SY := Lib.hid (fun W => secret_is o io y hy W)
  have PX := Lib.hid hp
  have PY := Lib.hid hq
  obtain ⟨r1, hr1⟩ : ∃ r, ((p : Int) == q) = r := ⟨_, rfl⟩
  obtain ⟨r2, hr2⟩ : ∃ r, ((x : Int) == y) = r := ⟨_, rfl⟩
  rw [hr1, hr2] at HE
  clear hx hy hp hq ik io x1 x2 y1 y2
  have HB := Lib.hid (Below.refl w.heap.size w)
  go_enter Tryd.func7, Tryd.ntmps7
  go_wp2_with fail
  refine (head_any _ HS.out).mono ?_
  rintro e_ w1 ⟨rfl, hb⟩
  replace HB := Lib.hid (on_below HB.out hb)
  replace HS := Lib.hid (HS.out.on hb)
  clear hb
  go_wp2_with fail
  refine (SX.out _).mono ?_
  rintro e_ wq ⟨rfl, hw⟩
  subst hw
  go_wp2_with fail
  refine (public_is x _ _ PX.out.fV PX.out.fE _).mono ?_
  rintro e_ w2 ⟨rfl, hb⟩
  replace HB := Lib.hid (on_below HB.out hb)
  replace HS := Lib.hid (HS.out.on hb)
  clear hb
  go_wp2_with fail
  refine (SY.out _).mono ?_
  rintro e_ wq ⟨rfl, hw⟩
  subst hw
  go_wp2_with fail
  refine (public_is y _ _ PY.out.fV PY.out.fE _).mono ?_
  rintro e_ w3 ⟨rfl, hb⟩
  replace HB := Lib.hid (on_below HB.out hb)
  replace HS := Lib.hid (HS.out.on hb)
  clear hb
  go_wp2_with fail
  refine (SX.out _).mono ?_
  rintro e_ wq ⟨rfl, hw⟩
  subst hw
  go_wp2_with fail
  refine (SY.out _).mono ?_
  rintro e_ wq ⟨rfl, hw⟩
  subst hw
  go_wp2_with fail
  go_ret
  exact ⟨rfl, HB.out⟩
/-! ### The row and the card -/
open Go.ChangeShapes Go.WideShapes Go.ChangeAt Go.Joins

set_option maxRecDepth 100000 in
theorem contract (H : Type) (enc : TypeId × Value → H) (W : World) (base : Nat) (args : Array Value) (ds gs : List (DataW H)) (before : List MemPlace)
    (hval : ∀ (j : Nat) t v, Tryd.f7.params[j]? = some t → args[j]? = some v → Value.okWide Tryd.prog W .any base t v)
    (hW : DataW.Whole enc Tryd.prog Tryd.f7.params.toList Rows.signSecretsSpec.vars false W args.toList ds gs before) (hL : laidMetH Tryd.prog laid3 W) :
    Calls Tryd.prog 7 args W fun e W' => ∃ v, e = .returned v ∧ Rows.signSecretsSpec.post enc Tryd.prog Tryd.f7 false true false false W args v W' := by
  have hW' := hW
  have hold : ∀ q ∈ before, decide (q.block < W.heap.size) = true := fun q hq => by simpa using hW.lt q hq
  obtain ⟨p, q, hA0, hV, rfl, hfz, hnd⟩ := hW
  have hA : DataW.TrodAll enc Tryd.prog W 0 (fun _ => true) true Tryd.f7.params.toList args.toList ds p := hA0
  rw [Tryd.params7] at hA hval
  obtain ⟨v0, vs0, d0, ds0, p0, q0, hargs, rfl, rfl, h0, r0⟩ := trodAll_cons hA
  obtain ⟨v1, vs1, d1, ds1, p1, q1, rfl, rfl, rfl, h1, r1⟩ := trodAll_cons r0
  obtain ⟨rfl, rfl, rfl⟩ := trodAll_nil r1
  obtain rfl : args = #[v0, v1] := Array.toList_inj.1 hargs
  obtain ⟨rfl, rfl⟩ := trodVars_none hV
  obtain ⟨k, rfl, rfl, rfl, wk⟩ := open_int Tryd.underlying34 (hval 0 34 v0 rfl rfl) h0
  obtain ⟨o, rfl, rfl, rfl, wo⟩ := open_int Tryd.underlying34 (hval 1 34 v1 rfl rfl) h1
  clear hA0
  refine (law_any k (wf_u64 wk) o (wf_u64 wo) W (st_of hL)).mono fun e W' ⟨he, bel⟩ => ?_
  subst he
  exact ⟨_, rfl, _, _, _, [], _, [], hW', trodAll_mk1 (shut_bool Tryd.underlying4 _), (trodAll_cons_mk (shut_int Tryd.underlying34 wk) (trodAll_cons_mk (shut_int Tryd.underlying34 wo) trodAll_mk0)), rfl, bel.frame _, fun h => by cases h⟩

theorem reads (os : Os) {H : Type} (enc : TypeId × Value → H) : ∃ places, DataW.whole enc Tryd.prog ((laidWorld os).forCall (fun _ _ => 0) ⟨#[], #[.int .u64 0, .int .u64 0], []⟩).memory Tryd.f7.params.toList Rows.signSecretsSpec.vars false (#[.int .u64 0, .int .u64 0] : Array Value).toList 8 = some ([.lit (.int .u64 0), .lit (.int .u64 0)], [], places) :=
  ⟨[], by kernel_rfl⟩

set_option maxRecDepth 100000 in
theorem lifted (os : Os) (started : os.Started) (H : Type) (enc : TypeId × Value → H) (F : Stop.Interp) :
    ReturnsInHanded {} Tryd.checked os 7 .any ((OpenSpec.ofChange Rows.signSecretsSpec).preRow enc Tryd.prog Tryd.f7 Rows.signSecretsRow.domain false Rows.signSecretsRow.laid) (((OpenSpec.ofChange Rows.signSecretsSpec).at F).post enc Tryd.prog Tryd.f7 false true false false) := by
  obtain ⟨places, hx⟩ := reads os enc
  refine returnsInHanded_of_row (C := Tryd.checked) (s := OpenSpec.ofChange Rows.signSecretsSpec) own started (by kernel_rfl) Tryd.func7
    (witness_row_atRef (enc := enc) (C := Tryd.checked) false (laidWorld os) #[.int .u64 0, .int .u64 0] rfl (by kernel_rfl) (by kernel_rfl) (by kernel_rfl)
      (OpenSpec.preRow_of_cond 8 hx (by kernel_rfl) (fun k hk => by cases hk) (by kernel_rfl) (laidWorld_met3 os _))) ?_
  intro W base args ds gs before hval hW _ hcond _ hL hsh _
  exact contract H enc W base args ds gs before hval hW hL

theorem said : Rows.SignSecretsSaid :=
  OpenClaim.holds_of_cond 7 Tryd.f7 rfl rfl rfl rfl rfl rfl rfl ⟨rfl, rfl, rfl, rfl, rfl⟩ rfl rfl rfl rfl rfl (by kernel_rfl) Tryd.func7 (by kernel_rfl)
    (of_decide_eq_true (by kernel_rfl)) (by unfold Func.isWrapper; first | (rw [if_pos (by decide +kernel)]; kernel_rfl) | (rw [if_neg (by decide +kernel)]; exact ⟨rfl, rfl⟩))
    (fun os started H enc _ F => by rw [OpenClaim.pre_eq_preRow]; exact lifted os started H enc F)

theorem plain (f : FuncId) (fn : Func) (hf : Tryd.pinned.checked.prog.funcNamed "barcarole/barcarolelaw06.SignSecrets" = some f) (hfn : Tryd.pinned.checked.prog.funcs[f]? = some fn) :
    false = Tryd.pinned.checked.prog.looks [] ∧ ∀ (j : Nat) t, fn.params[j]? = some t → Tryd.pinned.checked.prog.wantsStandIn t = false := by
  obtain rfl : f = 7 := Option.some.inj ((show Tryd.prog.funcNamed "barcarole/barcarolelaw06.SignSecrets" = some 7 by kernel_rfl).symm.trans hf) |>.symm
  obtain rfl : fn = Tryd.f7 := (Option.some.inj (Tryd.func7.symm.trans hfn)).symm
  refine ⟨by kernel_rfl, fun j t ht => ?_⟩
  rw [Tryd.params7] at ht
  have ht' : t = 34 := by
    have := Array.mem_of_getElem? ht
    simp at this
    first | omega | (rcases this with h | h | h | h | h | h <;> simp [h]) | (rcases this with h | h | h | h | h <;> simp [h]) | (rcases this with h | h | h | h <;> simp [h]) | (rcases this with h | h | h <;> simp [h]) | (rcases this with h | h <;> simp [h])
  rcases ht' with rfl
  · exact (show Tryd.prog.wantsStandIn 34 = false by kernel_rfl)

/-- The statement. -/
theorem card : Rows.SignSecretsCardSaid :=
  Claim7.holds_tied_plain_at .later [] _ _ _ _ said (fun _ h => by cases h) (by kernel_rfl) (fun _ h => by cases h) signSecrets_row_tie rfl ⟨rfl, rfl⟩ (by kernel_rfl) rfl plain (by kernel_rfl)
end Go.Proofs.YtiapigoknlaihaaDoor.signSecrets
