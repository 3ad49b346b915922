/-
  ShapeMoved.
-/
import Derived.Test.YtagokcjbeaddiaaShpMve
import Derived.Test.YtagokcjbeaddiaaRows
import Derived.ProofKit
import Derived.OpenShut
import Derived.Deep.DeepHandedRow
import Derived.Deep.DeepWitnessRowRef
import Derived.MakeChecks
import Derived.Deep.DeepCutAuto
namespace Go.Proofs.Ytagokcjbeaddiaa.LawMoved
open Go.RowKit Go.Sort
open Go.RowKit (Below)
set_option linter.unusedVariables false
set_option linter.unusedSimpArgs false

theorem in_mv {L : List (Int × Int)} {lo hi x y z u v s : Int} : InB (mv L x y) (lo + z) (hi + z) (u + x) (v + y) (s + z) ↔ InB L lo hi u v s := by
  unfold InB
  rw [mv_ins]
  constructor <;> (rintro ⟨h1, h2, h3⟩; exact ⟨h1, by omega, by omega⟩)
theorem law_any (bA : Option Addr) (bC : Nat) (b : List (Int × Int)) (bl bh fx fy fz tx ty tz yx yy yz : Int) (w : World) (lb : Lp w bA bC b) :
    Calls Try.prog 7 #[.agg #[.slice bA b.length bC, .int .i64 bl, .int .i64 bh], .agg #[.int .i64 fx, .int .i64 fy, .int .i64 fz], .agg #[.int .i64 tx, .int .i64 ty, .int .i64 tz], .agg #[.int .i64 yx, .int .i64 yy, .int .i64 yz]] w fun e_ w' => e_ = .returned (.bool true) ∧ Below w.heap.size w w' := by
  have hm : SlS w bA (b.take 20) := (lb.take 20).sl
  have hly : (b.take 20).length ≤ 9223372036854775806 := by rw [List.length_take]; omega
  have hlm : (mv (b.take 20) yx yy).length ≤ 9223372036854775806 := by rw [mv_len]; exact hly
  cases h1 : vv fx fy fz
  · exact mvd_1 bA bC b (b.take 20) bl bh fx fy fz tx ty tz yx yy yz rfl hly h1 w lb hm
  cases h2 : vv tx ty tz
  · exact mvd_2 bA bC b (b.take 20) bl bh fx fy fz tx ty tz yx yy yz rfl hly h1 h2 w lb hm
  cases h3 : vv yx yy yz
  · exact mvd_3 bA bC b (b.take 20) bl bh fx fy fz tx ty tz yx yy yz rfl hly h1 h2 h3 w lb hm
  by_cases hb : Bok (b.take 20) bl bh
  · by_cases hm1 : Bok (mv (b.take 20) yx yy) (bl + yz) (bh + yz)
    · cases h4 : vv (fx + yx) (fy + yy) (fz + yz)
      · exact mvd_6 bA bC b (b.take 20) bl bh fx fy fz tx ty tz yx yy yz rfl hly h1 h2 h3 (mv (b.take 20) yx yy) (bl + yz) (bh + yz) hb hm1 rfl rfl rfl hlm (mv_mv _ _ _) (by omega) (by omega) h4 w lb hm
      cases h5 : vv (tx + yx) (ty + yy) (tz + yz)
      · exact mvd_7 bA bC b (b.take 20) bl bh fx fy fz tx ty tz yx yy yz rfl hly h1 h2 h3 (mv (b.take 20) yx yy) (bl + yz) (bh + yz) hb hm1 rfl rfl rfl hlm (mv_mv _ _ _) (by omega) (by omega) h4 h5 w lb hm
      obtain ⟨r, hr⟩ := bool_of (InB (b.take 20) bl bh fx fy fz)
      by_cases he : fx = tx ∧ fy = ty ∧ fz = tz
      · have he2 : fx + yx = tx + yx ∧ fy + yy = ty + yy ∧ fz + yz = tz + yz := ⟨by omega, by omega, by omega⟩
        exact mvd_9 bA bC b (b.take 20) bl bh fx fy fz tx ty tz yx yy yz rfl hly h1 h2 h3 (mv (b.take 20) yx yy) (bl + yz) (bh + yz) hb hm1 rfl rfl rfl hlm (mv_mv _ _ _) (by omega) (by omega) h4 h5 r false 0 0 0 0 ⟨hb, vv_iff.1 h1, rfl, hr⟩ ⟨hm1, vv_iff.1 h4, rfl, hr.trans in_mv.symm⟩ (Or.inl ⟨fun k => k.2.2.2 he, rfl, rfl⟩) (Or.inl ⟨fun k => k.2.2.2 he2, rfl, rfl⟩) w lb hm
      · have he2 : ¬ (fx + yx = tx + yx ∧ fy + yy = ty + yy ∧ fz + yz = tz + yz) := fun k => he ⟨by omega, by omega, by omega⟩
        obtain ⟨⟨ra, rb, rc, rd, rh⟩, hR⟩ : ∃ R, clres (clp r0 (cnd (b.take 20) bl bh fx fy fz tx ty tz)) = R := ⟨_, rfl⟩
        exact mvd_8 bA bC b (b.take 20) bl bh fx fy fz tx ty tz yx yy yz rfl hly h1 h2 h3 (mv (b.take 20) yx yy) (bl + yz) (bh + yz) hb hm1 rfl rfl rfl hlm (mv_mv _ _ _) (by omega) (by omega) h4 h5 r rh ra rb rc rd ⟨hb, vv_iff.1 h1, rfl, hr⟩ ⟨hm1, vv_iff.1 h4, rfl, hr.trans in_mv.symm⟩ (Or.inr ⟨hb, vv_iff.1 h1, vv_iff.1 h2, he, rfl, hR⟩) (Or.inr ⟨hm1, vv_iff.1 h4, vv_iff.1 h5, he2, rfl, by rw [cnd_mv]; exact hR⟩) w lb hm
    · exact mvd_5 bA bC b (b.take 20) bl bh fx fy fz tx ty tz yx yy yz rfl hly h1 h2 h3 (Or.inr ⟨hb, vv_iff.1 h3, Or.inr ⟨hm1, rfl⟩⟩) (iff_of_true rfl hb) w lb hm
  · exact mvd_4 bA bC b (b.take 20) bl bh fx fy fz tx ty tz yx yy yz rfl hly h1 h2 h3 (Or.inl ⟨fun k => hb k.1, rfl⟩) (iff_of_false (by decide) hb) w lb hm
/-! ### The row -/
open Go.ChangeShapes Go.WideShapes Go.ChangeAt Go.Joins
theorem u8_in {x : Int} (h : (Lit.int .u8 x).wf = true) : 0 ≤ x ∧ x ≤ 255 := by
  have e1 : IntKind.u8.min = 0 := rfl
  have e2 : IntKind.u8.max = 255 := rfl
  simp [Lit.wf, e1, e2] at h
  exact h
theorem own : ownKnob Try.prog.godebug = none := by kernel_rfl
noncomputable def laidWorld (os : Os) : World := World.holding Try.prog os ⟨#[], #[], []⟩
theorem laidWorld_met (os : Os) (args : Array Value) : laidMet Try.prog [] ((laidWorld os).forCall (fun _ _ => 0) ⟨#[], args, []⟩).memory :=
  laidMet_of_run' 8 (by kernel_rfl) (by kernel_rfl)

set_option maxRecDepth 100000 in
theorem contract (H : Type) (enc : TypeId × Value → H) (W : World) (base : Nat) (args : Array Value) (ds gs : List (DataW H)) (before : List MemPlace)
    (hval : ∀ (j : Nat) t v, Try.f7.params[j]? = some t → args[j]? = some v → Value.okWide Try.prog W .any base t v)
    (hW : DataW.Whole enc Try.prog Try.f7.params.toList Rows.shapeMovedSpec.vars false W args.toList ds gs before) :
    Calls Try.prog 7 args W fun e W' => ∃ v, e = .returned v ∧ Rows.shapeMovedSpec.post enc Try.prog Try.f7 false true false false W args v W' := by
  have hW' := hW
  have hold : ∀ q ∈ before, decide (q.block < W.heap.size) = true := fun q hq => by simpa using hW.lt q hq
  obtain ⟨p, q, hA0, hV, rfl, hfz, hnd⟩ := hW
  have hA : DataW.TrodAll enc Try.prog W 0 (fun _ => true) true Try.f7.params.toList args.toList ds p := hA0
  rw [Try.params7] at hA hval
  obtain ⟨v0, vs0, d0, ds0, p0, q0, hargs, rfl, rfl, h0, r0⟩ := trodAll_cons hA
  obtain ⟨v1, vs1, d1, ds1, p1, q1, rfl, rfl, rfl, h1, r1⟩ := trodAll_cons r0
  obtain ⟨v2, vs2, d2, ds2, p2, q2, rfl, rfl, rfl, h2, r2⟩ := trodAll_cons r1
  obtain ⟨v3, vs3, d3, ds3, p3, q3, rfl, rfl, rfl, h3, r3⟩ := trodAll_cons r2
  obtain ⟨rfl, rfl, rfl⟩ := trodAll_nil r3
  obtain rfl : args = #[v0, v1, v2, v3] := Array.toList_inj.1 hargs
  obtain ⟨rfl, rfl⟩ := trodVars_none hV
  obtain ⟨bA, bC, b, bl, bh, rfl, lb, jb, ibl, ibh, shutb⟩ := open_body (hval 0 24 v0 rfl rfl) h0
  obtain ⟨fx, fy, fz, rfl, rfl, rfl, ifx, ify, ifz⟩ := open_vec (hval 1 26 v1 rfl rfl) h1
  obtain ⟨tx, ty, tz, rfl, rfl, rfl, itx, ity, itz⟩ := open_vec (hval 2 26 v2 rfl rfl) h2
  obtain ⟨yx, yy, yz, rfl, rfl, rfl, iyx, iyy, iyz⟩ := open_vec (hval 3 26 v3 rfl rfl) h3
  clear hA0
  refine (law_any bA bC b bl bh fx fy fz tx ty tz yx yy yz W lb).mono fun e W' ⟨he, bel⟩ => ?_
  subst he
  exact ⟨_, rfl, _, _, _, [], _, [], hW', trodAll_mk1 (shut_bool Try.underlying4 _), (trodAll_cons_mk (shutb W' (fun b => decide (b < W.heap.size)) bel (fun q hq => hold q (by simp [hq]))) (trodAll_cons_mk (shut_vec ifx ify ifz) (trodAll_cons_mk (shut_vec itx ity itz) (trodAll_cons_mk (shut_vec iyx iyy iyz) trodAll_mk0)))), rfl, bel.frame _, fun h => by cases h⟩

theorem reads (os : Os) {H : Type} (enc : TypeId × Value → H) : ∃ places, DataW.whole enc Try.prog ((laidWorld os).forCall (fun _ _ => 0) ⟨#[], #[.agg #[.slice none 0 0, .int .i64 0, .int .i64 0], .agg #[.int .i64 0, .int .i64 0, .int .i64 0], .agg #[.int .i64 0, .int .i64 0, .int .i64 0], .agg #[.int .i64 0, .int .i64 0, .int .i64 0]], []⟩).memory Try.f7.params.toList Rows.shapeMovedSpec.vars false (#[.agg #[.slice none 0 0, .int .i64 0, .int .i64 0], .agg #[.int .i64 0, .int .i64 0, .int .i64 0], .agg #[.int .i64 0, .int .i64 0, .int .i64 0], .agg #[.int .i64 0, .int .i64 0, .int .i64 0]] : Array Value).toList 8 = some ([.agg [.nil, .lit (.int .i64 0), .lit (.int .i64 0)], .agg [.lit (.int .i64 0), .lit (.int .i64 0), .lit (.int .i64 0)], .agg [.lit (.int .i64 0), .lit (.int .i64 0), .lit (.int .i64 0)], .agg [.lit (.int .i64 0), .lit (.int .i64 0), .lit (.int .i64 0)]], [], places) :=
  ⟨[], by kernel_rfl⟩

set_option maxRecDepth 100000 in
theorem lifted (os : Os) (started : os.Started) (H : Type) (enc : TypeId × Value → H) (F : Stop.Interp) :
    ReturnsInHanded {} Try.checked os 7 .any ((OpenSpec.ofChange Rows.shapeMovedSpec).preRow enc Try.prog Try.f7 Rows.shapeMovedRow.domain false Rows.shapeMovedRow.laid) (((OpenSpec.ofChange Rows.shapeMovedSpec).at F).post enc Try.prog Try.f7 false true false false) := by
  obtain ⟨places, hx⟩ := reads os enc
  refine returnsInHanded_of_row (C := Try.checked) (s := OpenSpec.ofChange Rows.shapeMovedSpec) own started (by kernel_rfl) Try.func7
    (witness_row_atRef (enc := enc) (C := Try.checked) false (laidWorld os) #[.agg #[.slice none 0 0, .int .i64 0, .int .i64 0], .agg #[.int .i64 0, .int .i64 0, .int .i64 0], .agg #[.int .i64 0, .int .i64 0, .int .i64 0], .agg #[.int .i64 0, .int .i64 0, .int .i64 0]] rfl (by kernel_rfl) (by kernel_rfl) (by kernel_rfl)
      (OpenSpec.preRow_of_cond 8 hx (by kernel_rfl) (fun k hk => by cases hk) (by kernel_rfl) (laidWorld_met os _))) ?_
  intro W base args ds gs before hval hW _ hcond _ hL hsh _
  exact contract H enc W base args ds gs before hval hW

/-- The statement. -/
theorem said : Rows.ShapeMovedSaid :=
  OpenClaim.holds_of_cond 7 Try.f7 rfl rfl rfl rfl rfl rfl rfl ⟨rfl, rfl, rfl, rfl, rfl⟩ rfl rfl rfl rfl rfl (by kernel_rfl) Try.func7 (by kernel_rfl)
    (of_decide_eq_true (by kernel_rfl)) (by unfold Func.isWrapper; first | (rw [if_pos (by decide +kernel)]; kernel_rfl) | (rw [if_neg (by decide +kernel)]; exact ⟨rfl, rfl⟩))
    (fun os started H enc _ F => by rw [OpenClaim.pre_eq_preRow]; exact lifted os started H enc F)
end Go.Proofs.Ytagokcjbeaddiaa.LawMoved
