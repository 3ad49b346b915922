/-
  TiersFind.
-/
import Derived.Test.YtgikpcoaennkgaaZTrsX
import Derived.Test.YtgikpcoaennkgaaRows
import Derived.ProofKit
import Derived.OpenShut
import Derived.Deep.DeepHandedRow
import Derived.Deep.DeepWitnessRowRef
import Derived.MakeChecks
import Derived.Deep.DeepCutAuto
namespace Go.Proofs.Ytgikpcoaennkgaa.LawFind
open Go.RowKit Go.Sort
open Go.RowKit (Below)
set_option linter.unusedVariables false
set_option linter.unusedSimpArgs false
attribute [local go_sem] Oper.semAt_some

set_option maxRecDepth 100000 in
set_option maxHeartbeats 4000000 in
theorem fin_0 (lA : Option Addr) (lC : Nat) (l : List Pl) (id : Int) (iid : I64 id) (h : ¬ l.length ≤ 40) (w : World) (hl : PlS w lA l) :
    Calls Try.prog 3 #[.slice lA l.length lC, .int .i64 id] w fun e_ w' => e_ = .returned (.bool true) ∧ Below w.heap.size w w' := by
  have CF := Lib.hid (few12_is lA lC l false (by simp; omega))
  have HL := Lib.hid hl
  clear hl
  have HB := Lib.hid (Below.refl w.heap.size w)
  go_enter Try.func3, Try.ntmps3
  go_wp2_with fail
  with_reducible refine (head12_any _).mono ?_
  rintro e_ w1 ⟨rfl, hb⟩
  replace HB := Lib.hid (on_below HB.out hb)
  replace HL := Lib.hid (HL.out.below hb)
  clear hb
  go_wp2_with fail
  with_reducible refine (CF.out _).mono ?_
  rintro e_ w2 ⟨rfl, hb⟩
  replace HB := Lib.hid (on_below HB.out hb)
  replace HL := Lib.hid (HL.out.below hb)
  clear hb
  go_wp2_with fail
  go_ret
  exact ⟨rfl, HB.out⟩
set_option maxRecDepth 100000 in
set_option maxHeartbeats 4000000 in
theorem fin_1 (lA : Option Addr) (lC : Nat) (l : List Pl) (id : Int) (iid : I64 id) (h : l.length ≤ 40) (hn : ¬ PlOk3 l) (w : World) (hl : PlS w lA l) :
    Calls Try.prog 3 #[.slice lA l.length lC, .int .i64 id] w fun e_ w' => e_ = .returned (.bool true) ∧ Below w.heap.size w w' := by
  have CF := Lib.hid (few12_is lA lC l true (by simp; omega))
  have CV := Lib.hid (fun W (h2 : PlS W lA l) => qval_is lA lC l (by omega) false (by simp [hn]) W h2)
  clear hn
  have HL := Lib.hid hl
  clear hl
  have HB := Lib.hid (Below.refl w.heap.size w)
  go_enter Try.func3, Try.ntmps3
  go_wp2_with fail
  with_reducible refine (head12_any _).mono ?_
  rintro e_ w1 ⟨rfl, hb⟩
  replace HB := Lib.hid (on_below HB.out hb)
  replace HL := Lib.hid (HL.out.below hb)
  clear hb
  go_wp2_with fail
  with_reducible refine (CF.out _).mono ?_
  rintro e_ w2 ⟨rfl, hb⟩
  replace HB := Lib.hid (on_below HB.out hb)
  replace HL := Lib.hid (HL.out.below hb)
  clear hb
  go_wp2_with fail
  with_reducible refine (CV.out _ HL.out).mono ?_
  rintro e_ w3 ⟨rfl, hb⟩
  replace HB := Lib.hid (on_below HB.out hb)
  replace HL := Lib.hid (HL.out.below hb)
  clear hb
  go_wp2_with fail
  go_ret
  exact ⟨rfl, HB.out⟩
set_option maxRecDepth 100000 in
set_option maxHeartbeats 4000000 in
theorem fin_2 (lA : Option Addr) (lC : Nat) (l : List Pl) (id : Int) (iid : I64 id) (h : l.length ≤ 40) (hok : PlOk3 l) (hfit : ∀ k, k < l.length → I64 (gdP l k).id) (hi : ixP l id = l.length) (w : World) (hl : PlS w lA l) :
    Calls Try.prog 3 #[.slice lA l.length lC, .int .i64 id] w fun e_ w' => e_ = .returned (.bool true) ∧ Below w.heap.size w w' := by
  have CF := Lib.hid (few12_is lA lC l true (by simp; omega))
  have CV := Lib.hid (fun W (h2 : PlS W lA l) => qval_is lA lC l (by omega) true (by simp [hok]) W h2)
  have CN := Lib.hid (fun k (hk : k < l.length) W (h2 : PlS W lA l) => tfin_is lA lC l (gdP l k).id (hfit k hk) k 0 (.inr (.inr ⟨hok, by rw [ixP_at hok.dst hk]; exact hk, by rw [ixP_at hok.dst hk], rfl⟩)) W h2)
  have CI := Lib.hid (fun W (h2 : PlS W lA l) => tfin_is lA lC l id iid 0 4 (.inr (.inl ⟨hok, hi, rfl, rfl⟩)) W h2)
  have CX := Lib.hid (fun W (h2 : PlS W lA l) => qix_is lA lC l id (by omega) (-1) (.inr ⟨hi, rfl⟩) W h2)
  have HI := Lib.hid hi
  clear hok hfit hi
  have HL := Lib.hid hl
  clear hl
  have HB := Lib.hid (Below.refl w.heap.size w)
  go_enter Try.func3, Try.ntmps3
  go_wp2_with fail
  with_reducible refine (head12_any _).mono ?_
  rintro e_ w1 ⟨rfl, hb⟩
  replace HB := Lib.hid (on_below HB.out hb)
  replace HL := Lib.hid (HL.out.below hb)
  clear hb
  go_wp2_with fail
  with_reducible refine (CF.out _).mono ?_
  rintro e_ w2 ⟨rfl, hb⟩
  replace HB := Lib.hid (on_below HB.out hb)
  replace HL := Lib.hid (HL.out.below hb)
  clear hb
  go_wp2_with fail
  with_reducible refine (CV.out _ HL.out).mono ?_
  rintro e_ w3 ⟨rfl, hb⟩
  replace HB := Lib.hid (on_below HB.out hb)
  replace HL := Lib.hid (HL.out.below hb)
  clear hb
  go_wp2_with fail
  go_loopw [5, 24] (fun u i wr => u = .bool true ∧ ∃ k : Nat, k ≤ l.length ∧ i = .int .i64 k ∧ Hid (Below w3.heap.size w3 wr)) (fun _ i _ => l.length - (intOf i).toNat)
  case atStart => exact ⟨rfl, 0, Nat.zero_le _, rfl, Below.refl _ _⟩
  case round =>
    obtain ⟨rfl, k, hk, rfl, HW⟩ := hrel
    by_cases hlt : k < l.length
    rotate_left
    · replace HB := Lib.hid (on_below HB.out HW.out)
      replace HL := Lib.hid (HL.out.below HW.out)
      go_wp2_with fail
      clear hk hlt
      with_reducible refine (CI.out _ HL.out).mono ?_
      rintro e_ w31 ⟨rfl, hb⟩
      replace HB := Lib.hid (on_below HB.out hb)
      replace HL := Lib.hid (HL.out.below hb)
      clear hb
      go_wp2_with fail
      with_reducible refine (CX.out _ HL.out).mono ?_
      rintro e_ w32 ⟨rfl, hb⟩
      replace HB := Lib.hid (on_below HB.out hb)
      replace HL := Lib.hid (HL.out.below hb)
      clear hb
      go_wp2_with fail
      go_ret
      exact ⟨rfl, HB.out⟩
    have w1_ := wr_up (k := k) (by omega)
    have w2_ := wr_up' (k := k) (by omega)
    have HS := Lib.hid (HL.out.below HW.out)
    have HCN := Lib.hid (fun W (h2 : PlS W lA l) => CN.out k hlt W h2)
    obtain ⟨b0, o0, rfl, e0, e1, e2, e3, e4, e5, e6⟩ := HS.out k hlt
    have HU := Lib.hid (show ∃ u, gdP l k = u from ⟨_, rfl⟩)
    obtain ⟨u, hu⟩ := HU.out
    clear HU
    rw [hu] at e0 e1 e2 e3 e4 e5 e6 HCN
    clear hu
    obtain ⟨pi, pa, pb, px, py, pz, pk⟩ := u
    dsimp only at e0 e1 e2 e3 e4 e5 e6 HCN
    go_wp2_with fail
    have hb := below_new wr (.cells #[.int .i64 pi, .int .i64 pa, .int .i64 pb, .int .i64 px, .int .i64 py, .int .i64 pz, .int .i64 pk] 28)
    generalize wr.alloc (.cells #[.int .i64 pi, .int .i64 pa, .int .i64 pb, .int .i64 px, .int .i64 py, .int .i64 pz, .int .i64 pk] 28) = w40 at *
    with_reducible refine (HCN.out _ (HS.out.below hb)).mono ?_
    rintro e_ w41 ⟨rfl, hb2⟩
    have HW2 := Lib.hid (on_below HW.out (on_below hb hb2))
    clear hb hb2 HS HCN e0 e1 e2 e3 e4 e5 e6
    go_wp2_with fail
    go_roundw
    case rel => exact ⟨rfl, k + 1, hlt, int_of (by first | rfl | exact w1_ | exact w2_), HW2.out⟩
    case measure => simp [intOf, w1_, w2_]; clear w1_ w2_; omega
set_option maxRecDepth 100000 in
set_option maxHeartbeats 4000000 in
theorem fin_3 (lA : Option Addr) (lC : Nat) (l : List Pl) (id : Int) (iid : I64 id) (h : l.length ≤ 40) (hok : PlOk3 l) (hfit : ∀ k, k < l.length → I64 (gdP l k).id) (hi : ixP l id < l.length) (w : World) (hl : PlS w lA l) :
    Calls Try.prog 3 #[.slice lA l.length lC, .int .i64 id] w fun e_ w' => e_ = .returned (.bool true) ∧ Below w.heap.size w w' := by
  have CF := Lib.hid (few12_is lA lC l true (by simp; omega))
  have CV := Lib.hid (fun W (h2 : PlS W lA l) => qval_is lA lC l (by omega) true (by simp [hok]) W h2)
  have CN := Lib.hid (fun k (hk : k < l.length) W (h2 : PlS W lA l) => tfin_is lA lC l (gdP l k).id (hfit k hk) k 0 (.inr (.inr ⟨hok, by rw [ixP_at hok.dst hk]; exact hk, by rw [ixP_at hok.dst hk], rfl⟩)) W h2)
  have CI := Lib.hid (fun W (h2 : PlS W lA l) => tfin_is lA lC l id iid (ixP l id) 0 (.inr (.inr ⟨hok, hi, rfl, rfl⟩)) W h2)
  have HI := Lib.hid hi
  clear hok hfit hi
  have HL := Lib.hid hl
  clear hl
  have HB := Lib.hid (Below.refl w.heap.size w)
  go_enter Try.func3, Try.ntmps3
  go_wp2_with fail
  with_reducible refine (head12_any _).mono ?_
  rintro e_ w1 ⟨rfl, hb⟩
  replace HB := Lib.hid (on_below HB.out hb)
  replace HL := Lib.hid (HL.out.below hb)
  clear hb
  go_wp2_with fail
  with_reducible refine (CF.out _).mono ?_
  rintro e_ w2 ⟨rfl, hb⟩
  replace HB := Lib.hid (on_below HB.out hb)
  replace HL := Lib.hid (HL.out.below hb)
  clear hb
  go_wp2_with fail
  with_reducible refine (CV.out _ HL.out).mono ?_
  rintro e_ w3 ⟨rfl, hb⟩
  replace HB := Lib.hid (on_below HB.out hb)
  replace HL := Lib.hid (HL.out.below hb)
  clear hb
  go_wp2_with fail
  go_loopw [5, 24] (fun u i wr => u = .bool true ∧ ∃ k : Nat, k ≤ l.length ∧ i = .int .i64 k ∧ Hid (Below w3.heap.size w3 wr)) (fun _ i _ => l.length - (intOf i).toNat)
  case atStart => exact ⟨rfl, 0, Nat.zero_le _, rfl, Below.refl _ _⟩
  case round =>
    obtain ⟨rfl, k, hk, rfl, HW⟩ := hrel
    by_cases hlt : k < l.length
    rotate_left
    · replace HB := Lib.hid (on_below HB.out HW.out)
      replace HL := Lib.hid (HL.out.below HW.out)
      go_wp2_with fail
      clear hk hlt
      with_reducible refine (CI.out _ HL.out).mono ?_
      rintro e_ w31 ⟨rfl, hb⟩
      replace HB := Lib.hid (on_below HB.out hb)
      replace HL := Lib.hid (HL.out.below hb)
      clear hb
      obtain ⟨b0, o0, rfl, e0, _⟩ := HL.out _ HI.out
      rw [ixP_id HI.out] at e0
      have hix := HI.out
      generalize ixP l id = m at *
      have z1 : (m : Int) < l.length := by omega
      have z2 : (0 : Int) ≤ m := by omega
      go_wp2_with fail
      go_ret
      exact ⟨rfl, HB.out⟩
    have w1_ := wr_up (k := k) (by omega)
    have w2_ := wr_up' (k := k) (by omega)
    have HS := Lib.hid (HL.out.below HW.out)
    have HCN := Lib.hid (fun W (h2 : PlS W lA l) => CN.out k hlt W h2)
    obtain ⟨b0, o0, rfl, e0, e1, e2, e3, e4, e5, e6⟩ := HS.out k hlt
    have HU := Lib.hid (show ∃ u, gdP l k = u from ⟨_, rfl⟩)
    obtain ⟨u, hu⟩ := HU.out
    clear HU
    rw [hu] at e0 e1 e2 e3 e4 e5 e6 HCN
    clear hu
    obtain ⟨pi, pa, pb, px, py, pz, pk⟩ := u
    dsimp only at e0 e1 e2 e3 e4 e5 e6 HCN
    go_wp2_with fail
    have hb := below_new wr (.cells #[.int .i64 pi, .int .i64 pa, .int .i64 pb, .int .i64 px, .int .i64 py, .int .i64 pz, .int .i64 pk] 28)
    generalize wr.alloc (.cells #[.int .i64 pi, .int .i64 pa, .int .i64 pb, .int .i64 px, .int .i64 py, .int .i64 pz, .int .i64 pk] 28) = w40 at *
    with_reducible refine (HCN.out _ (HS.out.below hb)).mono ?_
    rintro e_ w41 ⟨rfl, hb2⟩
    have HW2 := Lib.hid (on_below HW.out (on_below hb hb2))
    clear hb hb2 HS HCN e0 e1 e2 e3 e4 e5 e6
    go_wp2_with fail
    go_roundw
    case rel => exact ⟨rfl, k + 1, hlt, int_of (by first | rfl | exact w1_ | exact w2_), HW2.out⟩
    case measure => simp [intOf, w1_, w2_]; clear w1_ w2_; omega
theorem law_any (lA : Option Addr) (lC : Nat) (l : List Pl) (id : Int) (iid : I64 id) (w : World) (hl : LP w lA lC l) :
    Calls Try.prog 3 #[.slice lA l.length lC, .int .i64 id] w fun e_ w' => e_ = .returned (.bool true) ∧ Below w.heap.size w w' := by
  by_cases h : l.length ≤ 40
  · by_cases hok : PlOk3 l
    · by_cases hi : ixP l id < l.length
      · exact fin_3 lA lC l id iid h hok (fun k hk => (hl.fit k hk).1) hi w hl.sl
      · exact fin_2 lA lC l id iid h hok (fun k hk => (hl.fit k hk).1) (by have := ixP_le l id; omega) w hl.sl
    · exact fin_1 lA lC l id iid h hok w hl.sl
  · exact fin_0 lA lC l id iid h w hl.sl
/-! ### The row -/
open Go.ChangeShapes Go.WideShapes Go.ChangeAt Go.Joins
theorem own : ownKnob Try.prog.godebug = none := by kernel_rfl
noncomputable def laidWorld (os : Os) : World := World.holding Try.prog os ⟨#[], #[], []⟩
theorem laidWorld_met (os : Os) (args : Array Value) : laidMet Try.prog [] ((laidWorld os).forCall (fun _ _ => 0) ⟨#[], args, []⟩).memory :=
  laidMet_of_run' 8 (by kernel_rfl) (by kernel_rfl)

set_option maxRecDepth 100000 in
theorem contract (H : Type) (enc : TypeId × Value → H) (W : World) (base : Nat) (args : Array Value) (ds gs : List (DataW H)) (before : List MemPlace)
    (hval : ∀ (j : Nat) t v, Try.f3.params[j]? = some t → args[j]? = some v → Value.okWide Try.prog W .any base t v)
    (hW : DataW.Whole enc Try.prog Try.f3.params.toList Rows.tiersFindSpec.vars false W args.toList ds gs before) :
    Calls Try.prog 3 args W fun e W' => ∃ v, e = .returned v ∧ Rows.tiersFindSpec.post enc Try.prog Try.f3 false true false false W args v W' := by
  have hW' := hW
  have hold : ∀ q ∈ before, decide (q.block < W.heap.size) = true := fun q hq => by simpa using hW.lt q hq
  obtain ⟨p, q, hA0, hV, rfl, hfz, hnd⟩ := hW
  have hA : DataW.TrodAll enc Try.prog W 0 (fun _ => true) true Try.f3.params.toList args.toList ds p := hA0
  rw [Try.params3] at hA hval
  obtain ⟨v0, vs0, d0, ds0, p0, q0, hargs, rfl, rfl, h0, r0⟩ := trodAll_cons hA
  obtain ⟨v1, vs1, d1, ds1, p1, q1, rfl, rfl, rfl, h1, r1⟩ := trodAll_cons r0
  obtain ⟨rfl, rfl, rfl⟩ := trodAll_nil r1
  obtain rfl : args = #[v0, v1] := Array.toList_inj.1 hargs
  obtain ⟨rfl, rfl⟩ := trodVars_none hV
  obtain ⟨lA, lC, l, rfl, ll, shutl⟩ := open_plan (hval 0 22 v0 rfl rfl) h0
  obtain ⟨id, rfl, rfl, rfl, iid⟩ := open_int Try.underlying3 (hval 1 3 v1 rfl rfl) h1
  clear hA0
  refine (law_any lA lC l id (wf_i iid) W ll).mono fun e W' ⟨he, bel⟩ => ?_
  subst he
  exact ⟨_, rfl, _, _, _, [], _, [], hW', trodAll_mk1 (shut_bool Try.underlying4 _), (trodAll_cons_mk (shutl W' (fun b => decide (b < W.heap.size)) bel (fun q hq => hold q (by simp [hq]))) (trodAll_cons_mk (shut_int Try.underlying3 iid) trodAll_mk0)), rfl, bel.frame _, fun h => by cases h⟩

theorem reads (os : Os) {H : Type} (enc : TypeId × Value → H) : ∃ places, DataW.whole enc Try.prog ((laidWorld os).forCall (fun _ _ => 0) ⟨#[], #[.slice none 0 0, .int .i64 0], []⟩).memory Try.f3.params.toList Rows.tiersFindSpec.vars false (#[.slice none 0 0, .int .i64 0] : Array Value).toList 8 = some ([.nil, .lit (.int .i64 0)], [], places) :=
  ⟨[], by kernel_rfl⟩

set_option maxRecDepth 100000 in
theorem lifted (os : Os) (started : os.Started) (H : Type) (enc : TypeId × Value → H) (F : Stop.Interp) :
    ReturnsInHanded {} Try.checked os 3 .any ((OpenSpec.ofChange Rows.tiersFindSpec).preRow enc Try.prog Try.f3 Rows.tiersFindRow.domain false Rows.tiersFindRow.laid) (((OpenSpec.ofChange Rows.tiersFindSpec).at F).post enc Try.prog Try.f3 false true false false) := by
  obtain ⟨places, hx⟩ := reads os enc
  refine returnsInHanded_of_row (C := Try.checked) (s := OpenSpec.ofChange Rows.tiersFindSpec) own started (by kernel_rfl) Try.func3
    (witness_row_atRef (enc := enc) (C := Try.checked) false (laidWorld os) #[.slice none 0 0, .int .i64 0] rfl (by kernel_rfl) (by kernel_rfl) (by kernel_rfl)
      (OpenSpec.preRow_of_cond 8 hx (by kernel_rfl) (fun k hk => by cases hk) (by kernel_rfl) (laidWorld_met os _))) ?_
  intro W base args ds gs before hval hW _ hcond _ hL hsh _
  exact contract H enc W base args ds gs before hval hW

/-- The statement. -/
theorem said : Rows.TiersFindSaid :=
  OpenClaim.holds_of_cond 3 Try.f3 rfl rfl rfl rfl rfl rfl rfl ⟨rfl, rfl, rfl, rfl, rfl⟩ rfl rfl rfl rfl rfl (by kernel_rfl) Try.func3 (by kernel_rfl)
    (of_decide_eq_true (by kernel_rfl)) (by unfold Func.isWrapper; first | (rw [if_pos (by decide +kernel)]; kernel_rfl) | (rw [if_neg (by decide +kernel)]; exact ⟨rfl, rfl⟩))
    (fun os started H enc _ F => by rw [OpenClaim.pre_eq_preRow]; exact lifted os started H enc F)
end Go.Proofs.Ytgikpcoaennkgaa.LawFind
