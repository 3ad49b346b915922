/-
  P6.7: two signatures of one message by one secret are equal exactly if the numbers are equal. For any three numbers that secrets are made of, and any list.
  Conditions: none besides the row's.
-/
import Derived.Test.YtiapigoknlaihaaDoorSgnX
import Derived.Test.YtiapigoknlaihaaDoorCards
import Derived.Test.YtiapigoknlaihaaDoorTie
import Derived.Deep.DeepCutAuto
namespace Go.Proofs.YtiapigoknlaihaaDoor.signNumbers
open Go.RowKit Go.Sort
open Go.RowKit (Below)
set_option linter.unusedVariables false
set_option linter.unusedSimpArgs false

set_option maxRecDepth 100000 in
set_option maxHeartbeats 2000000 in
theorem law_any (k : Int) (ik : U64 k) (o : Int) (io : U64 o) (n : Int) (in_ : U64 n) (mA : Option Addr) (mC : Nat) (m : List Int) (jm : ∀ x ∈ m, I64 x) (km : m.length ≤ mC ∧ mC ≤ 9223372036854775807) (w : World) (hs : St w) (sm : Sk .i64 w mA m) :
    Calls Tryd.prog 9 #[.int .u64 k, .int .u64 o, .int .u64 n, .slice mA m.length mC] w fun e w' => e = .returned (.bool true) ∧ Below w.heap.size w w' := by
  have HS := Lib.hid hs
  clear hs
  obtain ⟨x, hx, x1, x2⟩ := secret_ex k ik
  obtain ⟨y, hy, y1, y2⟩ := secret_ex o io
  obtain ⟨z, hz, z1, z2⟩ := secret_ex n in_
  obtain ⟨ys, fm⟩ := few_mk sm jm
  obtain ⟨p, e, s, hf⟩ := sf x1 x2 y1 y2 fm.len
  obtain ⟨p2, e2, s2, hf2⟩ := sf x1 x2 z1 z2 fm.len
  have SX := Lib.hid (fun W => secret_is k ik x hx W)
  have SY := Lib.hid (fun W => secret_is o io y hy W)
  have SZ := Lib.hid (fun W => secret_is n in_ z hz W)
  have FM := Lib.hid (fun W => few_any mA mC m ys fm.tk w W sm km.1 km.2)
  have HF := Lib.hid hf
  have HM := Lib.hid fm.sk
  have HI := Lib.hid fm.i
  have HL := Lib.hid fm.len
  have HG := Lib.hid hf2
  obtain ⟨r1, hr1⟩ : ∃ r, (decide ((e : Int) = e2) && decide ((s : Int) = s2)) = r := ⟨_, rfl⟩
  obtain ⟨r2, hr2⟩ : ∃ r, ((y : Int) == z) = r := ⟨_, rfl⟩
  have hrr : (r1 == r2) = true := by
    rw [← hr1, ← hr2]
    by_cases hyz : y = z
    · subst hyz
      have he : e = e2 := by have h1 := hf.fC.symm.trans hf2.fC; omega
      have hs : s = s2 := by rw [← hf.isS, ← hf2.isS, he]
      subst he hs
      simp
    · have h2 : ((y : Int) == z) = false := by rw [beq_eq_false_iff_ne]; omega
      rw [h2]
      have h1 : (decide ((e : Int) = e2) && decide ((s : Int) = s2)) = false := by
        rw [Bool.and_eq_false_iff, decide_eq_false_iff_not, decide_eq_false_iff_not]
        by_cases he : e = e2
        · have h2' : (z + e * x) % 1073741789 = s2 := by rw [he]; exact hf2.isS
          exact .inr fun hs => hyz (once_eq y2 z2 hf.isS h2' (by omega))
        · exact .inl (by omega)
      rw [h1]
      rfl
  have hg : ∀ W, (binOp .eql 23 (.agg #[.int .i64 e, .int .i64 s]) (.agg #[.int .i64 e2, .int .i64 s2])).run Tryd.prog W = .ok (.bool r1) W := fun W => sig_eq hr1 W
  clear hr1 hx hy hz ik io in_ x1 x2 y1 y2 z1 z2 hf hf2 fm sm jm km
  have HB := Lib.hid (Below.refl w.heap.size w)
  go_enter Tryd.func9, Tryd.ntmps9
  go_wp2_with fail
  refine (head_any _ HS.out).mono ?_
  rintro e_ w1 ⟨rfl, hb⟩
  replace HB := Lib.hid (on_below HB.out hb)
  replace HS := Lib.hid (HS.out.on hb)
  replace HM := Lib.hid (HM.out.below hb)
  clear hb
  go_wp2_with fail
  refine (SX.out _).mono ?_
  rintro e_ wq ⟨rfl, hw⟩
  subst hw
  go_wp2_with fail
  refine (SY.out _).mono ?_
  rintro e_ wq ⟨rfl, hw⟩
  subst hw
  go_wp2_with fail
  refine (FM.out _).mono ?_
  rintro e_ wq ⟨rfl, hw⟩
  subst hw
  go_wp2_with fail
  refine (sign_is x y mA mC ys e s 0 HF.out.err HF.out.fC HF.out.fS _ HS.out (by have := HL.out; omega) HI.out HM.out).mono ?_
  rintro e_ w2 ⟨rfl, hb⟩
  replace HB := Lib.hid (on_below HB.out hb)
  replace HS := Lib.hid (HS.out.on hb)
  replace HM := Lib.hid (HM.out.below hb)
  clear hb
  go_wp2_with fail
  have a0 : World.cell? (w2.alloc (.cells #[.int .i64 e, .int .i64 s] 23)) ⟨w2.heap.size, 0, none⟩ = some (.int .i64 e) := by simp [go_sem]
  have a1 : World.cell? (w2.alloc (.cells #[.int .i64 e, .int .i64 s] 23)) ⟨w2.heap.size, 1, none⟩ = some (.int .i64 s) := by simp [go_sem]
  have la : w2.heap.size < (w2.alloc (.cells #[.int .i64 e, .int .i64 s] 23)).heap.size := by simp
  have hb : Below w2.heap.size w2 (w2.alloc (.cells #[.int .i64 e, .int .i64 s] 23)) := below_new _ _
  have za : (w2.alloc (.cells #[.int .i64 e, .int .i64 s] 23)).heap.size = w2.heap.size + 1 := by simp
  generalize w2.alloc (.cells #[.int .i64 e, .int .i64 s] 23) = w3 at *
  replace HB := Lib.hid (on_below HB.out hb)
  replace HS := Lib.hid (HS.out.on hb)
  replace HM := Lib.hid (HM.out.below hb)
  clear hb
  generalize w2.heap.size = ga at *
  refine (SX.out _).mono ?_
  rintro e_ wq ⟨rfl, hw⟩
  subst hw
  go_wp2_with fail
  refine (SZ.out _).mono ?_
  rintro e_ wq ⟨rfl, hw⟩
  subst hw
  go_wp2_with fail
  refine (FM.out _).mono ?_
  rintro e_ wq ⟨rfl, hw⟩
  subst hw
  go_wp2_with fail
  refine (sign_is x z mA mC ys e2 s2 0 HG.out.err HG.out.fC HG.out.fS _ HS.out (by have := HL.out; omega) HI.out HM.out).mono ?_
  rintro e_ w4 ⟨rfl, hb⟩
  replace HB := Lib.hid (on_below HB.out hb)
  replace HS := Lib.hid (HS.out.on hb)
  replace HM := Lib.hid (HM.out.below hb)
  replace a0 := keepc hb a0
  replace a1 := keepc hb a1
  replace la := Nat.lt_of_lt_of_le la hb.size
  clear hb
  go_wp2_with fail
  have b0 : World.cell? (w4.alloc (.cells #[.int .i64 e2, .int .i64 s2] 23)) ⟨w4.heap.size, 0, none⟩ = some (.int .i64 e2) := by simp [go_sem]
  have b1 : World.cell? (w4.alloc (.cells #[.int .i64 e2, .int .i64 s2] 23)) ⟨w4.heap.size, 1, none⟩ = some (.int .i64 s2) := by simp [go_sem]
  have lb : w4.heap.size < (w4.alloc (.cells #[.int .i64 e2, .int .i64 s2] 23)).heap.size := by simp
  have hb : Below w4.heap.size w4 (w4.alloc (.cells #[.int .i64 e2, .int .i64 s2] 23)) := below_new _ _
  have zb : (w4.alloc (.cells #[.int .i64 e2, .int .i64 s2] 23)).heap.size = w4.heap.size + 1 := by simp
  generalize w4.alloc (.cells #[.int .i64 e2, .int .i64 s2] 23) = w5 at *
  replace HB := Lib.hid (on_below HB.out hb)
  replace HS := Lib.hid (HS.out.on hb)
  replace HM := Lib.hid (HM.out.below hb)
  replace a0 := keepc hb a0
  replace a1 := keepc hb a1
  replace la := Nat.lt_of_lt_of_le la hb.size
  clear hb
  generalize w4.heap.size = gb at *
  go_region_held3 (fun W => W.cell? ⟨ga, 0, none⟩ = some (.int .i64 e) ∧ W.cell? ⟨ga, 1, none⟩ = some (.int .i64 s) ∧ W.cell? ⟨gb, 0, none⟩ = some (.int .i64 e2) ∧ W.cell? ⟨gb, 1, none⟩ = some (.int .i64 s2))
    (first | assumption | exact ⟨a0, a1, b0, b1⟩)
    (first | (go_at_call 18; (with_reducible refine (SY.out _).mono ?_); rintro e' wq ⟨rfl, rfl⟩) | (go_at_call 18; (with_reducible refine (SZ.out _).mono ?_); rintro e' wq ⟨rfl, rfl⟩))
  go_split_ands
  go_wp2_with fail
  go_ret
  exact ⟨rfl, HB.out.drew⟩
/-! ### The row and the card -/
open Go.ChangeShapes Go.WideShapes Go.ChangeAt Go.Joins

set_option maxRecDepth 100000 in
theorem contract (H : Type) (enc : TypeId × Value → H) (W : World) (base : Nat) (args : Array Value) (ds gs : List (DataW H)) (before : List MemPlace)
    (hval : ∀ (j : Nat) t v, Tryd.f9.params[j]? = some t → args[j]? = some v → Value.okWide Tryd.prog W .any base t v)
    (hW : DataW.Whole enc Tryd.prog Tryd.f9.params.toList Rows.signNumbersSpec.vars false W args.toList ds gs before) (hL : laidMetH Tryd.prog laid3 W) :
    Calls Tryd.prog 9 args W fun e W' => ∃ v, e = .returned v ∧ Rows.signNumbersSpec.post enc Tryd.prog Tryd.f9 false true false false W args v W' := by
  have hW' := hW
  have hold : ∀ q ∈ before, decide (q.block < W.heap.size) = true := fun q hq => by simpa using hW.lt q hq
  obtain ⟨p, q, hA0, hV, rfl, hfz, hnd⟩ := hW
  have hA : DataW.TrodAll enc Tryd.prog W 0 (fun _ => true) true Tryd.f9.params.toList args.toList ds p := hA0
  rw [Tryd.params9] at hA hval
  obtain ⟨v0, vs0, d0, ds0, p0, q0, hargs, rfl, rfl, h0, r0⟩ := trodAll_cons hA
  obtain ⟨v1, vs1, d1, ds1, p1, q1, rfl, rfl, rfl, h1, r1⟩ := trodAll_cons r0
  obtain ⟨v2, vs2, d2, ds2, p2, q2, rfl, rfl, rfl, h2, r2⟩ := trodAll_cons r1
  obtain ⟨v3, vs3, d3, ds3, p3, q3, rfl, rfl, rfl, h3, r3⟩ := trodAll_cons r2
  obtain ⟨rfl, rfl, rfl⟩ := trodAll_nil r3
  obtain rfl : args = #[v0, v1, v2, v3] := Array.toList_inj.1 hargs
  obtain ⟨rfl, rfl⟩ := trodVars_none hV
  obtain ⟨k, rfl, rfl, rfl, wk⟩ := open_int Tryd.underlying34 (hval 0 34 v0 rfl rfl) h0
  obtain ⟨o, rfl, rfl, rfl, wo⟩ := open_int Tryd.underlying34 (hval 1 34 v1 rfl rfl) h1
  obtain ⟨n, rfl, rfl, rfl, wn⟩ := open_int Tryd.underlying34 (hval 2 34 v2 rfl rfl) h2
  obtain ⟨mA, mC, m, rfl, sm, wm, km, shutm⟩ := open_nums Tryd.underlying24 Tryd.underlying3 cellsInt (hval 3 24 v3 rfl rfl) h3
  clear hA0
  refine (law_any k (wf_u64 wk) o (wf_u64 wo) n (wf_u64 wn) mA mC m (fun x hx => wf_i (wm x hx)) km W (st_of hL) sm).mono fun e W' ⟨he, bel⟩ => ?_
  subst he
  exact ⟨_, rfl, _, _, _, [], _, [], hW', trodAll_mk1 (shut_bool Tryd.underlying4 _), (trodAll_cons_mk (shut_int Tryd.underlying34 wk) (trodAll_cons_mk (shut_int Tryd.underlying34 wo) (trodAll_cons_mk (shut_int Tryd.underlying34 wn) (trodAll_cons_mk (shutm W' (fun b => decide (b < W.heap.size)) bel (fun q hq => hold q (by simp [hq]))) trodAll_mk0)))), rfl, bel.frame _, fun h => by cases h⟩

theorem reads (os : Os) {H : Type} (enc : TypeId × Value → H) : ∃ places, DataW.whole enc Tryd.prog ((laidWorld os).forCall (fun _ _ => 0) ⟨#[], #[.int .u64 0, .int .u64 0, .int .u64 0, .slice none 0 0], []⟩).memory Tryd.f9.params.toList Rows.signNumbersSpec.vars false (#[.int .u64 0, .int .u64 0, .int .u64 0, .slice none 0 0] : Array Value).toList 8 = some ([.lit (.int .u64 0), .lit (.int .u64 0), .lit (.int .u64 0), .nil], [], places) :=
  ⟨[], by kernel_rfl⟩

set_option maxRecDepth 100000 in
theorem lifted (os : Os) (started : os.Started) (H : Type) (enc : TypeId × Value → H) (F : Stop.Interp) :
    ReturnsInHanded {} Tryd.checked os 9 .any ((OpenSpec.ofChange Rows.signNumbersSpec).preRow enc Tryd.prog Tryd.f9 Rows.signNumbersRow.domain false Rows.signNumbersRow.laid) (((OpenSpec.ofChange Rows.signNumbersSpec).at F).post enc Tryd.prog Tryd.f9 false true false false) := by
  obtain ⟨places, hx⟩ := reads os enc
  refine returnsInHanded_of_row (C := Tryd.checked) (s := OpenSpec.ofChange Rows.signNumbersSpec) own started (by kernel_rfl) Tryd.func9
    (witness_row_atRef (enc := enc) (C := Tryd.checked) false (laidWorld os) #[.int .u64 0, .int .u64 0, .int .u64 0, .slice none 0 0] rfl (by kernel_rfl) (by kernel_rfl) (by kernel_rfl)
      (OpenSpec.preRow_of_cond 8 hx (by kernel_rfl) (fun k hk => by cases hk) (by kernel_rfl) (laidWorld_met3 os _))) ?_
  intro W base args ds gs before hval hW _ hcond _ hL hsh _
  exact contract H enc W base args ds gs before hval hW hL

theorem said : Rows.SignNumbersSaid :=
  OpenClaim.holds_of_cond 9 Tryd.f9 rfl rfl rfl rfl rfl rfl rfl ⟨rfl, rfl, rfl, rfl, rfl⟩ rfl rfl rfl rfl rfl (by kernel_rfl) Tryd.func9 (by kernel_rfl)
    (of_decide_eq_true (by kernel_rfl)) (by unfold Func.isWrapper; first | (rw [if_pos (by decide +kernel)]; kernel_rfl) | (rw [if_neg (by decide +kernel)]; exact ⟨rfl, rfl⟩))
    (fun os started H enc _ F => by rw [OpenClaim.pre_eq_preRow]; exact lifted os started H enc F)

theorem plain (f : FuncId) (fn : Func) (hf : Tryd.pinned.checked.prog.funcNamed "barcarole/barcarolelaw06.SignNumbers" = some f) (hfn : Tryd.pinned.checked.prog.funcs[f]? = some fn) :
    false = Tryd.pinned.checked.prog.looks [] ∧ ∀ (j : Nat) t, fn.params[j]? = some t → Tryd.pinned.checked.prog.wantsStandIn t = false := by
  obtain rfl : f = 9 := Option.some.inj ((show Tryd.prog.funcNamed "barcarole/barcarolelaw06.SignNumbers" = some 9 by kernel_rfl).symm.trans hf) |>.symm
  obtain rfl : fn = Tryd.f9 := (Option.some.inj (Tryd.func9.symm.trans hfn)).symm
  refine ⟨by kernel_rfl, fun j t ht => ?_⟩
  rw [Tryd.params9] at ht
  have ht' : t = 24 ∨ t = 34 := by
    have := Array.mem_of_getElem? ht
    simp at this
    first | omega | (rcases this with h | h | h | h | h | h <;> simp [h]) | (rcases this with h | h | h | h | h <;> simp [h]) | (rcases this with h | h | h | h <;> simp [h]) | (rcases this with h | h | h <;> simp [h]) | (rcases this with h | h <;> simp [h])
  rcases ht' with rfl | rfl
  · exact (show Tryd.prog.wantsStandIn 24 = false by kernel_rfl)
  · exact (show Tryd.prog.wantsStandIn 34 = false by kernel_rfl)

/-- The statement. -/
theorem card : Rows.SignNumbersCardSaid :=
  Claim7.holds_tied_plain_at .later [] _ _ _ _ said (fun _ h => by cases h) (by kernel_rfl) (fun _ h => by cases h) signNumbers_row_tie rfl ⟨rfl, rfl⟩ (by kernel_rfl) rfl plain (by kernel_rfl)
end Go.Proofs.YtiapigoknlaihaaDoor.signNumbers
