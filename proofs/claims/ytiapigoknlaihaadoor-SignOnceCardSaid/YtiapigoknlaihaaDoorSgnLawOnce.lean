/-
  P6.4: one secret that signs two messages with one number: the quotient of the differences is the secret, or the signatures are equal. For any two numbers that secrets are made of, and any two lists.
  Conditions: none besides the row's.
-/
import Derived.Test.YtiapigoknlaihaaDoorSgnX
import Derived.Test.YtiapigoknlaihaaDoorCards
import Derived.Test.YtiapigoknlaihaaDoorTie
import Derived.Deep.DeepCutAuto
namespace Go.Proofs.YtiapigoknlaihaaDoor.signOnce
open Go.RowKit Go.Sort
open Go.RowKit (Below)
set_option linter.unusedVariables false
set_option linter.unusedSimpArgs false

set_option maxRecDepth 100000 in
set_option maxHeartbeats 2000000 in
theorem law_any (k : Int) (ik : U64 k) (o : Int) (io : U64 o) (mA : Option Addr) (mC : Nat) (m : List Int) (jm : ∀ x ∈ m, I64 x) (km : m.length ≤ mC ∧ mC ≤ 9223372036854775807) (nA : Option Addr) (nC : Nat) (n : List Int) (jn : ∀ x ∈ n, I64 x) (kn : n.length ≤ nC ∧ nC ≤ 9223372036854775807) (w : World) (hs : St w) (sm : Sk .i64 w mA m) (sn : Sk .i64 w nA n) :
    Calls Tryd.prog 6 #[.int .u64 k, .int .u64 o, .slice mA m.length mC, .slice nA n.length nC] w fun e w' => e = .returned (.bool true) ∧ Below w.heap.size w w' := by
  have HS := Lib.hid hs
  clear hs
  obtain ⟨x, hx, x1, x2⟩ := secret_ex k ik
  obtain ⟨y, hy, y1, y2⟩ := secret_ex o io
  obtain ⟨ys, fm⟩ := few_mk sm jm
  obtain ⟨zs, fn⟩ := few_mk sn jn
  obtain ⟨p, e, s, hf⟩ := sf x1 x2 y1 y2 fm.len
  obtain ⟨p2, e2, s2, hf2⟩ := sf x1 x2 y1 y2 fn.len
  have SX := Lib.hid (fun W => secret_is k ik x hx W)
  have SY := Lib.hid (fun W => secret_is o io y hy W)
  have FM := Lib.hid (fun W => few_any mA mC m ys fm.tk w W sm km.1 km.2)
  have HF := Lib.hid hf
  have HM := Lib.hid fm.sk
  have HI := Lib.hid fm.i
  have HL := Lib.hid fm.len
  have FN := Lib.hid (fun W => few_any nA nC n zs fn.tk w W sn kn.1 kn.2)
  have HG := Lib.hid hf2
  have HN := Lib.hid fn.sk
  have HJ := Lib.hid fn.i
  have HK := Lib.hid fn.len
  by_cases hne : e = e2
  · have hs : s = s2 := by rw [← hf.isS, ← hf2.isS, hne]
    have hg : ∀ W, (binOp .eql 23 (.agg #[.int .i64 e, .int .i64 s]) (.agg #[.int .i64 e2, .int .i64 s2])).run Tryd.prog W = .ok (.bool true) W := fun W => sig_eq (by simp [hne, hs]) W
    have hee : ((e : Int) == e2) = true := by rw [hne, beq_self_eq_true]
    clear hx hy ik io y1 y2 hf hf2 fm fn sm jm km sn jn kn x1 x2 hne hs
    have HB := Lib.hid (Below.refl w.heap.size w)
    go_enter Tryd.func6, Tryd.ntmps6
    go_wp2_with fail
    refine (head_any _ HS.out).mono ?_
    rintro e_ w1 ⟨rfl, hb⟩
    replace HB := Lib.hid (on_below HB.out hb)
    replace HS := Lib.hid (HS.out.on hb)
    replace HM := Lib.hid (HM.out.below hb)
    replace HN := Lib.hid (HN.out.below hb)
    clear hb
    go_wp2_with fail
    refine (SX.out _).mono ?_
    rintro e_ wq ⟨rfl, hw⟩
    subst hw
    go_wp2_with fail
    refine (SY.out _).mono ?_
    rintro e_ wq ⟨rfl, hw⟩
    subst hw
    go_wp2_with fail
    refine (FM.out _).mono ?_
    rintro e_ wq ⟨rfl, hw⟩
    subst hw
    go_wp2_with fail
    refine (sign_is x y mA mC ys e s 0 HF.out.err HF.out.fC HF.out.fS _ HS.out (by have := HL.out; omega) HI.out HM.out).mono ?_
    rintro e_ w2 ⟨rfl, hb⟩
    replace HB := Lib.hid (on_below HB.out hb)
    replace HS := Lib.hid (HS.out.on hb)
    replace HM := Lib.hid (HM.out.below hb)
    replace HN := Lib.hid (HN.out.below hb)
    clear hb
    go_wp2_with fail
    have a0 : World.cell? (w2.alloc (.cells #[.int .i64 e, .int .i64 s] 23)) ⟨w2.heap.size, 0, none⟩ = some (.int .i64 e) := by simp [go_sem]
    have a1 : World.cell? (w2.alloc (.cells #[.int .i64 e, .int .i64 s] 23)) ⟨w2.heap.size, 1, none⟩ = some (.int .i64 s) := by simp [go_sem]
    have la : w2.heap.size < (w2.alloc (.cells #[.int .i64 e, .int .i64 s] 23)).heap.size := by simp
    have hb : Below w2.heap.size w2 (w2.alloc (.cells #[.int .i64 e, .int .i64 s] 23)) := below_new _ _
    have za : (w2.alloc (.cells #[.int .i64 e, .int .i64 s] 23)).heap.size = w2.heap.size + 1 := by simp
    generalize w2.alloc (.cells #[.int .i64 e, .int .i64 s] 23) = w3 at *
    replace HB := Lib.hid (on_below HB.out hb)
    replace HS := Lib.hid (HS.out.on hb)
    replace HM := Lib.hid (HM.out.below hb)
    replace HN := Lib.hid (HN.out.below hb)
    clear hb
    generalize w2.heap.size = ga at *
    refine (SX.out _).mono ?_
    rintro e_ wq ⟨rfl, hw⟩
    subst hw
    go_wp2_with fail
    refine (SY.out _).mono ?_
    rintro e_ wq ⟨rfl, hw⟩
    subst hw
    go_wp2_with fail
    refine (FN.out _).mono ?_
    rintro e_ wq ⟨rfl, hw⟩
    subst hw
    go_wp2_with fail
    refine (sign_is x y nA nC zs e2 s2 0 HG.out.err HG.out.fC HG.out.fS _ HS.out (by have := HK.out; omega) HJ.out HN.out).mono ?_
    rintro e_ w4 ⟨rfl, hb⟩
    replace HB := Lib.hid (on_below HB.out hb)
    replace HS := Lib.hid (HS.out.on hb)
    replace HM := Lib.hid (HM.out.below hb)
    replace HN := Lib.hid (HN.out.below hb)
    replace a0 := keepc hb a0
    replace a1 := keepc hb a1
    replace la := Nat.lt_of_lt_of_le la hb.size
    clear hb
    go_wp2_with fail
    have b0 : World.cell? (w4.alloc (.cells #[.int .i64 e2, .int .i64 s2] 23)) ⟨w4.heap.size, 0, none⟩ = some (.int .i64 e2) := by simp [go_sem]
    have b1 : World.cell? (w4.alloc (.cells #[.int .i64 e2, .int .i64 s2] 23)) ⟨w4.heap.size, 1, none⟩ = some (.int .i64 s2) := by simp [go_sem]
    have lb : w4.heap.size < (w4.alloc (.cells #[.int .i64 e2, .int .i64 s2] 23)).heap.size := by simp
    have hb : Below w4.heap.size w4 (w4.alloc (.cells #[.int .i64 e2, .int .i64 s2] 23)) := below_new _ _
    have zb : (w4.alloc (.cells #[.int .i64 e2, .int .i64 s2] 23)).heap.size = w4.heap.size + 1 := by simp
    generalize w4.alloc (.cells #[.int .i64 e2, .int .i64 s2] 23) = w5 at *
    replace HB := Lib.hid (on_below HB.out hb)
    replace HS := Lib.hid (HS.out.on hb)
    replace HM := Lib.hid (HM.out.below hb)
    replace HN := Lib.hid (HN.out.below hb)
    replace a0 := keepc hb a0
    replace a1 := keepc hb a1
    replace la := Nat.lt_of_lt_of_le la hb.size
    clear hb
    generalize w4.heap.size = gb at *
    refine (rexponent_any e true HF.out.ex _).mono ?_
    rintro e_ wq ⟨rfl, hw⟩
    subst hw
    go_wp2_with fail
    refine (rexponent_any s true HF.out.es _).mono ?_
    rintro e_ wq ⟨rfl, hw⟩
    subst hw
    go_wp2_with fail
    refine (rexponent_any e2 true HG.out.ex _).mono ?_
    rintro e_ wq ⟨rfl, hw⟩
    subst hw
    go_wp2_with fail
    refine (rexponent_any s2 true HG.out.es _).mono ?_
    rintro e_ wq ⟨rfl, hw⟩
    subst hw
    go_wp2_with fail
    go_ret
    exact ⟨rfl, HB.out⟩
  have hee : ((e : Int) == e2) = false := by rw [beq_eq_false_iff_ne]; omega
  obtain ⟨d, c, g, u1, u2, u3, v1, v2, v3, ld, isG, z1, z2⟩ := on x2 hf.le hf2.le hf.isS hf2.isS hne
  have HP := Lib.hid (fun W => rpower_inv d g ld isG W)
  clear hx hy ik io y1 y2 hf hf2 fm fn sm jm km sn jn kn x1 x2 hne ld isG
  have HB := Lib.hid (Below.refl w.heap.size w)
  go_enter Tryd.func6, Tryd.ntmps6
  go_wp2_with fail
  refine (head_any _ HS.out).mono ?_
  rintro e_ w1 ⟨rfl, hb⟩
  replace HB := Lib.hid (on_below HB.out hb)
  replace HS := Lib.hid (HS.out.on hb)
  replace HM := Lib.hid (HM.out.below hb)
  replace HN := Lib.hid (HN.out.below hb)
  clear hb
  go_wp2_with fail
  refine (SX.out _).mono ?_
  rintro e_ wq ⟨rfl, hw⟩
  subst hw
  go_wp2_with fail
  refine (SY.out _).mono ?_
  rintro e_ wq ⟨rfl, hw⟩
  subst hw
  go_wp2_with fail
  refine (FM.out _).mono ?_
  rintro e_ wq ⟨rfl, hw⟩
  subst hw
  go_wp2_with fail
  refine (sign_is x y mA mC ys e s 0 HF.out.err HF.out.fC HF.out.fS _ HS.out (by have := HL.out; omega) HI.out HM.out).mono ?_
  rintro e_ w2 ⟨rfl, hb⟩
  replace HB := Lib.hid (on_below HB.out hb)
  replace HS := Lib.hid (HS.out.on hb)
  replace HM := Lib.hid (HM.out.below hb)
  replace HN := Lib.hid (HN.out.below hb)
  clear hb
  go_wp2_with fail
  have a0 : World.cell? (w2.alloc (.cells #[.int .i64 e, .int .i64 s] 23)) ⟨w2.heap.size, 0, none⟩ = some (.int .i64 e) := by simp [go_sem]
  have a1 : World.cell? (w2.alloc (.cells #[.int .i64 e, .int .i64 s] 23)) ⟨w2.heap.size, 1, none⟩ = some (.int .i64 s) := by simp [go_sem]
  have la : w2.heap.size < (w2.alloc (.cells #[.int .i64 e, .int .i64 s] 23)).heap.size := by simp
  have hb : Below w2.heap.size w2 (w2.alloc (.cells #[.int .i64 e, .int .i64 s] 23)) := below_new _ _
  have za : (w2.alloc (.cells #[.int .i64 e, .int .i64 s] 23)).heap.size = w2.heap.size + 1 := by simp
  generalize w2.alloc (.cells #[.int .i64 e, .int .i64 s] 23) = w3 at *
  replace HB := Lib.hid (on_below HB.out hb)
  replace HS := Lib.hid (HS.out.on hb)
  replace HM := Lib.hid (HM.out.below hb)
  replace HN := Lib.hid (HN.out.below hb)
  clear hb
  generalize w2.heap.size = ga at *
  refine (SX.out _).mono ?_
  rintro e_ wq ⟨rfl, hw⟩
  subst hw
  go_wp2_with fail
  refine (SY.out _).mono ?_
  rintro e_ wq ⟨rfl, hw⟩
  subst hw
  go_wp2_with fail
  refine (FN.out _).mono ?_
  rintro e_ wq ⟨rfl, hw⟩
  subst hw
  go_wp2_with fail
  refine (sign_is x y nA nC zs e2 s2 0 HG.out.err HG.out.fC HG.out.fS _ HS.out (by have := HK.out; omega) HJ.out HN.out).mono ?_
  rintro e_ w4 ⟨rfl, hb⟩
  replace HB := Lib.hid (on_below HB.out hb)
  replace HS := Lib.hid (HS.out.on hb)
  replace HM := Lib.hid (HM.out.below hb)
  replace HN := Lib.hid (HN.out.below hb)
  replace a0 := keepc hb a0
  replace a1 := keepc hb a1
  replace la := Nat.lt_of_lt_of_le la hb.size
  clear hb
  go_wp2_with fail
  have b0 : World.cell? (w4.alloc (.cells #[.int .i64 e2, .int .i64 s2] 23)) ⟨w4.heap.size, 0, none⟩ = some (.int .i64 e2) := by simp [go_sem]
  have b1 : World.cell? (w4.alloc (.cells #[.int .i64 e2, .int .i64 s2] 23)) ⟨w4.heap.size, 1, none⟩ = some (.int .i64 s2) := by simp [go_sem]
  have lb : w4.heap.size < (w4.alloc (.cells #[.int .i64 e2, .int .i64 s2] 23)).heap.size := by simp
  have hb : Below w4.heap.size w4 (w4.alloc (.cells #[.int .i64 e2, .int .i64 s2] 23)) := below_new _ _
  have zb : (w4.alloc (.cells #[.int .i64 e2, .int .i64 s2] 23)).heap.size = w4.heap.size + 1 := by simp
  generalize w4.alloc (.cells #[.int .i64 e2, .int .i64 s2] 23) = w5 at *
  replace HB := Lib.hid (on_below HB.out hb)
  replace HS := Lib.hid (HS.out.on hb)
  replace HM := Lib.hid (HM.out.below hb)
  replace HN := Lib.hid (HN.out.below hb)
  replace a0 := keepc hb a0
  replace a1 := keepc hb a1
  replace la := Nat.lt_of_lt_of_le la hb.size
  clear hb
  generalize w4.heap.size = gb at *
  refine (rexponent_any e true HF.out.ex _).mono ?_
  rintro e_ wq ⟨rfl, hw⟩
  subst hw
  go_wp2_with fail
  refine (rexponent_any s true HF.out.es _).mono ?_
  rintro e_ wq ⟨rfl, hw⟩
  subst hw
  go_wp2_with fail
  refine (rexponent_any e2 true HG.out.ex _).mono ?_
  rintro e_ wq ⟨rfl, hw⟩
  subst hw
  go_wp2_with fail
  refine (rexponent_any s2 true HG.out.es _).mono ?_
  rintro e_ wq ⟨rfl, hw⟩
  subst hw
  go_wp2_with fail
  go_region_held3 (fun W => W.cell? ⟨ga, 1, none⟩ = some (.int .i64 s) ∧ W.cell? ⟨gb, 1, none⟩ = some (.int .i64 s2))
    (first | assumption | exact ⟨a1, b1⟩)
    (first | (go_at_call 23; (with_reducible refine (HP.out _).mono ?_); rintro e' wq ⟨rfl, rfl⟩))
  go_split_ands
  go_wp2_with fail
  refine (SX.out _).mono ?_
  rintro e_ wq ⟨rfl, hw⟩
  subst hw
  go_wp2_with fail
  go_ret
  exact ⟨rfl, HB.out.drew⟩
/-! ### The row and the card -/
open Go.ChangeShapes Go.WideShapes Go.ChangeAt Go.Joins

set_option maxRecDepth 100000 in
theorem contract (H : Type) (enc : TypeId × Value → H) (W : World) (base : Nat) (args : Array Value) (ds gs : List (DataW H)) (before : List MemPlace)
    (hval : ∀ (j : Nat) t v, Tryd.f6.params[j]? = some t → args[j]? = some v → Value.okWide Tryd.prog W .any base t v)
    (hW : DataW.Whole enc Tryd.prog Tryd.f6.params.toList Rows.signOnceSpec.vars false W args.toList ds gs before) (hL : laidMetH Tryd.prog laid3 W) :
    Calls Tryd.prog 6 args W fun e W' => ∃ v, e = .returned v ∧ Rows.signOnceSpec.post enc Tryd.prog Tryd.f6 false true false false W args v W' := by
  have hW' := hW
  have hold : ∀ q ∈ before, decide (q.block < W.heap.size) = true := fun q hq => by simpa using hW.lt q hq
  obtain ⟨p, q, hA0, hV, rfl, hfz, hnd⟩ := hW
  have hA : DataW.TrodAll enc Tryd.prog W 0 (fun _ => true) true Tryd.f6.params.toList args.toList ds p := hA0
  rw [Tryd.params6] at hA hval
  obtain ⟨v0, vs0, d0, ds0, p0, q0, hargs, rfl, rfl, h0, r0⟩ := trodAll_cons hA
  obtain ⟨v1, vs1, d1, ds1, p1, q1, rfl, rfl, rfl, h1, r1⟩ := trodAll_cons r0
  obtain ⟨v2, vs2, d2, ds2, p2, q2, rfl, rfl, rfl, h2, r2⟩ := trodAll_cons r1
  obtain ⟨v3, vs3, d3, ds3, p3, q3, rfl, rfl, rfl, h3, r3⟩ := trodAll_cons r2
  obtain ⟨rfl, rfl, rfl⟩ := trodAll_nil r3
  obtain rfl : args = #[v0, v1, v2, v3] := Array.toList_inj.1 hargs
  obtain ⟨rfl, rfl⟩ := trodVars_none hV
  obtain ⟨k, rfl, rfl, rfl, wk⟩ := open_int Tryd.underlying34 (hval 0 34 v0 rfl rfl) h0
  obtain ⟨o, rfl, rfl, rfl, wo⟩ := open_int Tryd.underlying34 (hval 1 34 v1 rfl rfl) h1
  obtain ⟨mA, mC, m, rfl, sm, wm, km, shutm⟩ := open_nums Tryd.underlying24 Tryd.underlying3 cellsInt (hval 2 24 v2 rfl rfl) h2
  obtain ⟨nA, nC, n, rfl, sn, wn, kn, shutn⟩ := open_nums Tryd.underlying24 Tryd.underlying3 cellsInt (hval 3 24 v3 rfl rfl) h3
  clear hA0
  refine (law_any k (wf_u64 wk) o (wf_u64 wo) mA mC m (fun x hx => wf_i (wm x hx)) km nA nC n (fun x hx => wf_i (wn x hx)) kn W (st_of hL) sm sn).mono fun e W' ⟨he, bel⟩ => ?_
  subst he
  exact ⟨_, rfl, _, _, _, [], _, [], hW', trodAll_mk1 (shut_bool Tryd.underlying4 _), (trodAll_cons_mk (shut_int Tryd.underlying34 wk) (trodAll_cons_mk (shut_int Tryd.underlying34 wo) (trodAll_cons_mk (shutm W' (fun b => decide (b < W.heap.size)) bel (fun q hq => hold q (by simp [hq]))) (trodAll_cons_mk (shutn W' (fun b => decide (b < W.heap.size)) bel (fun q hq => hold q (by simp [hq]))) trodAll_mk0)))), rfl, bel.frame _, fun h => by cases h⟩

theorem reads (os : Os) {H : Type} (enc : TypeId × Value → H) : ∃ places, DataW.whole enc Tryd.prog ((laidWorld os).forCall (fun _ _ => 0) ⟨#[], #[.int .u64 0, .int .u64 0, .slice none 0 0, .slice none 0 0], []⟩).memory Tryd.f6.params.toList Rows.signOnceSpec.vars false (#[.int .u64 0, .int .u64 0, .slice none 0 0, .slice none 0 0] : Array Value).toList 8 = some ([.lit (.int .u64 0), .lit (.int .u64 0), .nil, .nil], [], places) :=
  ⟨[], by kernel_rfl⟩

set_option maxRecDepth 100000 in
theorem lifted (os : Os) (started : os.Started) (H : Type) (enc : TypeId × Value → H) (F : Stop.Interp) :
    ReturnsInHanded {} Tryd.checked os 6 .any ((OpenSpec.ofChange Rows.signOnceSpec).preRow enc Tryd.prog Tryd.f6 Rows.signOnceRow.domain false Rows.signOnceRow.laid) (((OpenSpec.ofChange Rows.signOnceSpec).at F).post enc Tryd.prog Tryd.f6 false true false false) := by
  obtain ⟨places, hx⟩ := reads os enc
  refine returnsInHanded_of_row (C := Tryd.checked) (s := OpenSpec.ofChange Rows.signOnceSpec) own started (by kernel_rfl) Tryd.func6
    (witness_row_atRef (enc := enc) (C := Tryd.checked) false (laidWorld os) #[.int .u64 0, .int .u64 0, .slice none 0 0, .slice none 0 0] rfl (by kernel_rfl) (by kernel_rfl) (by kernel_rfl)
      (OpenSpec.preRow_of_cond 8 hx (by kernel_rfl) (fun k hk => by cases hk) (by kernel_rfl) (laidWorld_met3 os _))) ?_
  intro W base args ds gs before hval hW _ hcond _ hL hsh _
  exact contract H enc W base args ds gs before hval hW hL

theorem said : Rows.SignOnceSaid :=
  OpenClaim.holds_of_cond 6 Tryd.f6 rfl rfl rfl rfl rfl rfl rfl ⟨rfl, rfl, rfl, rfl, rfl⟩ rfl rfl rfl rfl rfl (by kernel_rfl) Tryd.func6 (by kernel_rfl)
    (of_decide_eq_true (by kernel_rfl)) (by unfold Func.isWrapper; first | (rw [if_pos (by decide +kernel)]; kernel_rfl) | (rw [if_neg (by decide +kernel)]; exact ⟨rfl, rfl⟩))
    (fun os started H enc _ F => by rw [OpenClaim.pre_eq_preRow]; exact lifted os started H enc F)

theorem plain (f : FuncId) (fn : Func) (hf : Tryd.pinned.checked.prog.funcNamed "barcarole/barcarolelaw06.SignOnce" = some f) (hfn : Tryd.pinned.checked.prog.funcs[f]? = some fn) :
    false = Tryd.pinned.checked.prog.looks [] ∧ ∀ (j : Nat) t, fn.params[j]? = some t → Tryd.pinned.checked.prog.wantsStandIn t = false := by
  obtain rfl : f = 6 := Option.some.inj ((show Tryd.prog.funcNamed "barcarole/barcarolelaw06.SignOnce" = some 6 by kernel_rfl).symm.trans hf) |>.symm
  obtain rfl : fn = Tryd.f6 := (Option.some.inj (Tryd.func6.symm.trans hfn)).symm
  refine ⟨by kernel_rfl, fun j t ht => ?_⟩
  rw [Tryd.params6] at ht
  have ht' : t = 24 ∨ t = 34 := by
    have := Array.mem_of_getElem? ht
    simp at this
    first | omega | (rcases this with h | h | h | h | h | h <;> simp [h]) | (rcases this with h | h | h | h | h <;> simp [h]) | (rcases this with h | h | h | h <;> simp [h]) | (rcases this with h | h | h <;> simp [h]) | (rcases this with h | h <;> simp [h])
  rcases ht' with rfl | rfl
  · exact (show Tryd.prog.wantsStandIn 24 = false by kernel_rfl)
  · exact (show Tryd.prog.wantsStandIn 34 = false by kernel_rfl)

/-- The statement. -/
theorem card : Rows.SignOnceCardSaid :=
  Claim7.holds_tied_plain_at .later [] _ _ _ _ said (fun _ h => by cases h) (by kernel_rfl) (fun _ h => by cases h) signOnce_row_tie rfl ⟨rfl, rfl⟩ (by kernel_rfl) rfl plain (by kernel_rfl)
end Go.Proofs.YtiapigoknlaihaaDoor.signOnce
