/-
  ShapePoints.
-/
import Derived.Test.YtagokcjbeaddiaaShpPts
import Derived.Test.YtagokcjbeaddiaaRows
import Derived.ProofKit
import Derived.OpenShut
import Derived.Deep.DeepHandedRow
import Derived.Deep.DeepWitnessRowRef
import Derived.MakeChecks
import Derived.Deep.DeepCutAuto
namespace Go.Proofs.Ytagokcjbeaddiaa.LawPoints
open Go.RowKit Go.Sort
open Go.RowKit (Below)
set_option linter.unusedVariables false
set_option linter.unusedSimpArgs false

theorem law_any (bA : Option Addr) (bC : Nat) (b : List (Int × Int)) (bl bh fx fy fz sx sy sz n : Int) (hn : 0 ≤ n ∧ n ≤ 255) (w : World) (hb : Lp w bA bC b) :
    Calls Try.prog 5 #[.agg #[.slice bA b.length bC, .int .i64 bl, .int .i64 bh], .agg #[.int .i64 fx, .int .i64 fy, .int .i64 fz], .agg #[.int .i64 sx, .int .i64 sy, .int .i64 sz], .int .u8 n] w fun e_ w' => e_ = .returned (.bool true) ∧ Below w.heap.size w w' := by
  have hm : SlS w bA (b.take 20) := (hb.take 20).sl
  have hly : (b.take 20).length ≤ 9223372036854775806 := by rw [List.length_take]; omega
  by_cases h1 : Bok (b.take 20) bl bh
  · cases h2 : vv fx fy fz
    · exact pts_2 bA bC b (b.take 20) bl bh fx fy fz sx sy sz n hn rfl hly (iff_of_true rfl h1) h2 w hb hm
    · cases h3 : vv sx sy sz
      · exact pts_3 bA bC b (b.take 20) bl bh fx fy fz sx sy sz n hn rfl hly (iff_of_true rfl h1) h2 h3 w hb hm
      · by_cases hz : sx = 0 ∧ sy = 0 ∧ sz = 0
        · exact pts_4 bA bC b (b.take 20) bl bh fx fy fz sx sy sz n hn rfl hly (iff_of_true rfl h1) h2 h3 hz w hb hm
        · cases h4 : vv (fx + (2 + n % 31) * sx) (fy + (2 + n % 31) * sy) (fz + (2 + n % 31) * sz)
          · exact pts_5 bA bC b (b.take 20) bl bh fx fy fz sx sy sz n hn rfl hly (iff_of_true rfl h1) h2 h3 hz h4 w hb hm
          · have hne : ¬ (fx = fx + (2 + n % 31) * sx ∧ fy = fy + (2 + n % 31) * sy ∧ fz = fz + (2 + n % 31) * sz) := by
              have zer : ∀ x : Int, (2 + n % 31) * x = 0 → x = 0 := fun x h => (Int.mul_eq_zero.1 h).resolve_left (by omega)
              rintro ⟨e1, e2, e3⟩
              exact hz ⟨zer _ (by omega), zer _ (by omega), zer _ (by omega)⟩
            obtain ⟨⟨ra, rb, rc, rd, rh⟩, hR⟩ : ∃ R, clres (clp r0 (cnd (b.take 20) bl bh fx fy fz (fx + (2 + n % 31) * sx) (fy + (2 + n % 31) * sy) (fz + (2 + n % 31) * sz))) = R := ⟨_, rfl⟩
            have hC : ClR (b.take 20) bl bh fx fy fz (fx + (2 + n % 31) * sx) (fy + (2 + n % 31) * sy) (fz + (2 + n % 31) * sz) ⟨ra, rb, rc, rd, rh⟩ 0 := Or.inr ⟨h1, vv_iff.1 h2, vv_iff.1 h4, hne, rfl, hR⟩
            rcases Int.lt_or_le ra 0 with g1 | g1 <;> rcases Int.lt_or_le rc 0 with g2 | g2
            · exact pts_6 bA bC b (b.take 20) bl bh fx fy fz sx sy sz n hn rfl hly (iff_of_true rfl h1) h2 h3 hz h4 ra rb rc rd rh hC g1 g2 h1 w hb hm
            · exact pts_7 bA bC b (b.take 20) bl bh fx fy fz sx sy sz n hn rfl hly (iff_of_true rfl h1) h2 h3 hz h4 ra rb rc rd rh hC g1 g2 h1 w hb hm
            · exact pts_8 bA bC b (b.take 20) bl bh fx fy fz sx sy sz n hn rfl hly (iff_of_true rfl h1) h2 h3 hz h4 ra rb rc rd rh hC g1 g2 h1 w hb hm
            · exact pts_9 bA bC b (b.take 20) bl bh fx fy fz sx sy sz n hn rfl hly (iff_of_true rfl h1) h2 h3 hz h4 ra rb rc rd rh hC g1 g2 h1 w hb hm
  · exact pts_1 bA bC b (b.take 20) bl bh fx fy fz sx sy sz n hn rfl hly (iff_of_false (by decide) h1) w hb hm
/-! ### The row -/
open Go.ChangeShapes Go.WideShapes Go.ChangeAt Go.Joins
theorem u8_in {x : Int} (h : (Lit.int .u8 x).wf = true) : 0 ≤ x ∧ x ≤ 255 := by
  have e1 : IntKind.u8.min = 0 := rfl
  have e2 : IntKind.u8.max = 255 := rfl
  simp [Lit.wf, e1, e2] at h
  exact h
theorem own : ownKnob Try.prog.godebug = none := by kernel_rfl
noncomputable def laidWorld (os : Os) : World := World.holding Try.prog os ⟨#[], #[], []⟩
theorem laidWorld_met (os : Os) (args : Array Value) : laidMet Try.prog [] ((laidWorld os).forCall (fun _ _ => 0) ⟨#[], args, []⟩).memory :=
  laidMet_of_run' 8 (by kernel_rfl) (by kernel_rfl)

set_option maxRecDepth 100000 in
theorem contract (H : Type) (enc : TypeId × Value → H) (W : World) (base : Nat) (args : Array Value) (ds gs : List (DataW H)) (before : List MemPlace)
    (hval : ∀ (j : Nat) t v, Try.f5.params[j]? = some t → args[j]? = some v → Value.okWide Try.prog W .any base t v)
    (hW : DataW.Whole enc Try.prog Try.f5.params.toList Rows.shapePointsSpec.vars false W args.toList ds gs before) :
    Calls Try.prog 5 args W fun e W' => ∃ v, e = .returned v ∧ Rows.shapePointsSpec.post enc Try.prog Try.f5 false true false false W args v W' := by
  have hW' := hW
  have hold : ∀ q ∈ before, decide (q.block < W.heap.size) = true := fun q hq => by simpa using hW.lt q hq
  obtain ⟨p, q, hA0, hV, rfl, hfz, hnd⟩ := hW
  have hA : DataW.TrodAll enc Try.prog W 0 (fun _ => true) true Try.f5.params.toList args.toList ds p := hA0
  rw [Try.params5] at hA hval
  obtain ⟨v0, vs0, d0, ds0, p0, q0, hargs, rfl, rfl, h0, r0⟩ := trodAll_cons hA
  obtain ⟨v1, vs1, d1, ds1, p1, q1, rfl, rfl, rfl, h1, r1⟩ := trodAll_cons r0
  obtain ⟨v2, vs2, d2, ds2, p2, q2, rfl, rfl, rfl, h2, r2⟩ := trodAll_cons r1
  obtain ⟨v3, vs3, d3, ds3, p3, q3, rfl, rfl, rfl, h3, r3⟩ := trodAll_cons r2
  obtain ⟨rfl, rfl, rfl⟩ := trodAll_nil r3
  obtain rfl : args = #[v0, v1, v2, v3] := Array.toList_inj.1 hargs
  obtain ⟨rfl, rfl⟩ := trodVars_none hV
  obtain ⟨bA, bC, b, bl, bh, rfl, lb, jb, ibl, ibh, shutb⟩ := open_body (hval 0 24 v0 rfl rfl) h0
  obtain ⟨fx, fy, fz, rfl, rfl, rfl, ifx, ify, ifz⟩ := open_vec (hval 1 26 v1 rfl rfl) h1
  obtain ⟨sx, sy, sz, rfl, rfl, rfl, isx, isy, isz⟩ := open_vec (hval 2 26 v2 rfl rfl) h2
  obtain ⟨n, rfl, rfl, rfl, wun⟩ := open_int Try.underlying5 (hval 3 5 v3 rfl rfl) h3
  clear hA0
  refine (law_any bA bC b bl bh fx fy fz sx sy sz n (u8_in wun) W lb).mono fun e W' ⟨he, bel⟩ => ?_
  subst he
  exact ⟨_, rfl, _, _, _, [], _, [], hW', trodAll_mk1 (shut_bool Try.underlying4 _), (trodAll_cons_mk (shutb W' (fun b => decide (b < W.heap.size)) bel (fun q hq => hold q (by simp [hq]))) (trodAll_cons_mk (shut_vec ifx ify ifz) (trodAll_cons_mk (shut_vec isx isy isz) (trodAll_cons_mk (shut_int Try.underlying5 wun) trodAll_mk0)))), rfl, bel.frame _, fun h => by cases h⟩

theorem reads (os : Os) {H : Type} (enc : TypeId × Value → H) : ∃ places, DataW.whole enc Try.prog ((laidWorld os).forCall (fun _ _ => 0) ⟨#[], #[.agg #[.slice none 0 0, .int .i64 0, .int .i64 0], .agg #[.int .i64 0, .int .i64 0, .int .i64 0], .agg #[.int .i64 0, .int .i64 0, .int .i64 0], .int .u8 0], []⟩).memory Try.f5.params.toList Rows.shapePointsSpec.vars false (#[.agg #[.slice none 0 0, .int .i64 0, .int .i64 0], .agg #[.int .i64 0, .int .i64 0, .int .i64 0], .agg #[.int .i64 0, .int .i64 0, .int .i64 0], .int .u8 0] : Array Value).toList 8 = some ([.agg [.nil, .lit (.int .i64 0), .lit (.int .i64 0)], .agg [.lit (.int .i64 0), .lit (.int .i64 0), .lit (.int .i64 0)], .agg [.lit (.int .i64 0), .lit (.int .i64 0), .lit (.int .i64 0)], .lit (.int .u8 0)], [], places) :=
  ⟨[], by kernel_rfl⟩

set_option maxRecDepth 100000 in
theorem lifted (os : Os) (started : os.Started) (H : Type) (enc : TypeId × Value → H) (F : Stop.Interp) :
    ReturnsInHanded {} Try.checked os 5 .any ((OpenSpec.ofChange Rows.shapePointsSpec).preRow enc Try.prog Try.f5 Rows.shapePointsRow.domain false Rows.shapePointsRow.laid) (((OpenSpec.ofChange Rows.shapePointsSpec).at F).post enc Try.prog Try.f5 false true false false) := by
  obtain ⟨places, hx⟩ := reads os enc
  refine returnsInHanded_of_row (C := Try.checked) (s := OpenSpec.ofChange Rows.shapePointsSpec) own started (by kernel_rfl) Try.func5
    (witness_row_atRef (enc := enc) (C := Try.checked) false (laidWorld os) #[.agg #[.slice none 0 0, .int .i64 0, .int .i64 0], .agg #[.int .i64 0, .int .i64 0, .int .i64 0], .agg #[.int .i64 0, .int .i64 0, .int .i64 0], .int .u8 0] rfl (by kernel_rfl) (by kernel_rfl) (by kernel_rfl)
      (OpenSpec.preRow_of_cond 8 hx (by kernel_rfl) (fun k hk => by cases hk) (by kernel_rfl) (laidWorld_met os _))) ?_
  intro W base args ds gs before hval hW _ hcond _ hL hsh _
  exact contract H enc W base args ds gs before hval hW

/-- The statement. -/
theorem said : Rows.ShapePointsSaid :=
  OpenClaim.holds_of_cond 5 Try.f5 rfl rfl rfl rfl rfl rfl rfl ⟨rfl, rfl, rfl, rfl, rfl⟩ rfl rfl rfl rfl rfl (by kernel_rfl) Try.func5 (by kernel_rfl)
    (of_decide_eq_true (by kernel_rfl)) (by unfold Func.isWrapper; first | (rw [if_pos (by decide +kernel)]; kernel_rfl) | (rw [if_neg (by decide +kernel)]; exact ⟨rfl, rfl⟩))
    (fun os started H enc _ F => by rw [OpenClaim.pre_eq_preRow]; exact lifted os started H enc F)
end Go.Proofs.Ytagokcjbeaddiaa.LawPoints
