/-
  ShapeApart.
-/
import Derived.Test.YtagokcjbeaddiaaShpAp0
import Derived.Test.YtagokcjbeaddiaaShpAp1
import Derived.Test.YtagokcjbeaddiaaShpAp2
import Derived.Test.YtagokcjbeaddiaaShpAp3
import Derived.Test.YtagokcjbeaddiaaShpAp4
import Derived.Test.YtagokcjbeaddiaaRows
import Derived.ProofKit
import Derived.OpenShut
import Derived.Deep.DeepHandedRow
import Derived.Deep.DeepWitnessRowRef
import Derived.MakeChecks
import Derived.Deep.DeepCutAuto
namespace Go.Proofs.Ytagokcjbeaddiaa.LawApart
open Go.RowKit Go.Sort
open Go.RowKit (Below)
set_option linter.unusedVariables false
set_option linter.unusedSimpArgs false

theorem law_any (aA : Option Addr) (aC : Nat) (a : List (Int × Int)) (al ah : Int) (bA : Option Addr) (bC : Nat) (b : List (Int × Int)) (bl bh vx vy vz yx yy yz : Int) (w : World) (la : Lp w aA aC a) (lb : Lp w bA bC b) :
    Calls Try.prog 8 #[.agg #[.slice aA a.length aC, .int .i64 al, .int .i64 ah], .agg #[.slice bA b.length bC, .int .i64 bl, .int .i64 bh], .agg #[.int .i64 vx, .int .i64 vy, .int .i64 vz], .agg #[.int .i64 yx, .int .i64 yy, .int .i64 yz]] w fun e_ w' => e_ = .returned (.bool true) ∧ Below w.heap.size w w' := by
  have hm : SlS w aA (a.take 20) := (la.take 20).sl
  have hm2 : SlS w bA (b.take 20) := (lb.take 20).sl
  have hly : (a.take 20).length ≤ 9223372036854775806 := by rw [List.length_take]; omega
  have hlz : (b.take 20).length ≤ 9223372036854775806 := by rw [List.length_take]; omega
  by_cases h : Bok (a.take 20) al ah ∧ Bok (b.take 20) bl bh
  · obtain ⟨h1, h2⟩ := h
    obtain ⟨r, hr⟩ := bool_of (Apa (a.take 20) al ah (b.take 20) bl bh)
    have a1 : (Bok (a.take 20) al ah ∧ Bok (b.take 20) bl bh ∧ (0 : Int) = 0 ∧ (r = true ↔ Apa (a.take 20) al ah (b.take 20) bl bh)) ∨ (¬ (Bok (a.take 20) al ah ∧ Bok (b.take 20) bl bh) ∧ (0 : Int) = 1 ∧ r = false) := Or.inl ⟨h1, h2, rfl, hr⟩
    have a2 : (Bok (b.take 20) bl bh ∧ Bok (a.take 20) al ah ∧ (0 : Int) = 0 ∧ (r = true ↔ Apa (b.take 20) bl bh (a.take 20) al ah)) ∨ (¬ (Bok (b.take 20) bl bh ∧ Bok (a.take 20) al ah) ∧ (0 : Int) = 1 ∧ r = false) := Or.inl ⟨h2, h1, rfl, hr.trans apa_comm⟩
    have a3 : (Bok (a.take 20) al ah ∧ Bok (a.take 20) al ah ∧ (0 : Int) = 0 ∧ (false = true ↔ Apa (a.take 20) al ah (a.take 20) al ah)) ∨ (¬ (Bok (a.take 20) al ah ∧ Bok (a.take 20) al ah) ∧ (0 : Int) = 1 ∧ false = false) := Or.inl ⟨h1, h1, rfl, iff_of_false (by decide) (apa_self h1)⟩
    have a8 : Bok (mv (a.take 20) yx yy) (al + yz) (ah + yz) → Bok (mv (b.take 20) yx yy) (bl + yz) (bh + yz) → (Bok (mv (a.take 20) yx yy) (al + yz) (ah + yz) ∧ Bok (mv (b.take 20) yx yy) (bl + yz) (bh + yz) ∧ (0 : Int) = 0 ∧ (r = true ↔ Apa (mv (a.take 20) yx yy) (al + yz) (ah + yz) (mv (b.take 20) yx yy) (bl + yz) (bh + yz))) ∨ (¬ (Bok (mv (a.take 20) yx yy) (al + yz) (ah + yz) ∧ Bok (mv (b.take 20) yx yy) (bl + yz) (bh + yz)) ∧ (0 : Int) = 1 ∧ r = false) := fun k1 k2 => Or.inl ⟨k1, k2, rfl, hr.trans apa_mv.symm⟩
    have l1 : (mv (a.take 20) yx yy).length ≤ 9223372036854775806 := by rw [mv_len]; exact hly
    have l2 : (mv (b.take 20) yx yy).length ≤ 9223372036854775806 := by rw [mv_len]; exact hlz
    by_cases hv : V3 yx yy yz
    · by_cases m1 : Bok (mv (a.take 20) yx yy) (al + yz) (ah + yz) <;> by_cases m2 : Bok (mv (b.take 20) yx yy) (bl + yz) (bh + yz)
      · by_cases hp : V3 vx vy vz
        · by_cases i1 : InB (a.take 20) al ah vx vy vz
          · by_cases i2 : InB (b.take 20) bl bh vx vy vz
            · have hrf : r = false := by
                cases r with
                | false => rfl
                | true => exact absurd (hr.1 rfl) (apa_in h1 h2 i1 i2)
              subst hrf
              exact apt_3_00 aA bA aC bC a (a.take 20) b (b.take 20) al ah bl bh vx vy vz yx yy yz rfl hly rfl hlz a1 a2 a3 (Or.inl ⟨h1, hp, rfl, iff_of_true rfl i1⟩) (Or.inl ⟨h2, hp, rfl, iff_of_true rfl i2⟩) hv (mv (a.take 20) yx yy) (al + yz) (ah + yz) h1 m1 rfl rfl rfl l1 (mv (b.take 20) yx yy) (bl + yz) (bh + yz) h2 m2 rfl rfl rfl l2 (a8 m1 m2) w la lb hm hm2
            · exact apt_2_00 aA bA aC bC a (a.take 20) b (b.take 20) al ah bl bh vx vy vz yx yy yz rfl hly rfl hlz r a1 a2 a3 (Or.inl ⟨h1, hp, rfl, iff_of_true rfl i1⟩) (Or.inl ⟨h2, hp, rfl, iff_of_false (by decide) i2⟩) hv (mv (a.take 20) yx yy) (al + yz) (ah + yz) h1 m1 rfl rfl rfl l1 (mv (b.take 20) yx yy) (bl + yz) (bh + yz) h2 m2 rfl rfl rfl l2 (a8 m1 m2) w la lb hm hm2
          · obtain ⟨s, hs⟩ := bool_of (InB (b.take 20) bl bh vx vy vz)
            exact apt_1_00 aA bA aC bC a (a.take 20) b (b.take 20) al ah bl bh vx vy vz yx yy yz rfl hly rfl hlz r s a1 a2 a3 (Or.inl ⟨h1, hp, rfl, iff_of_false (by decide) i1⟩) (Or.inl ⟨h2, hp, rfl, hs⟩) hv (mv (a.take 20) yx yy) (al + yz) (ah + yz) h1 m1 rfl rfl rfl l1 (mv (b.take 20) yx yy) (bl + yz) (bh + yz) h2 m2 rfl rfl rfl l2 (a8 m1 m2) w la lb hm hm2
        · exact apt_0_00 aA bA aC bC a (a.take 20) b (b.take 20) al ah bl bh vx vy vz yx yy yz rfl hly rfl hlz r a1 a2 a3 (Or.inr ⟨fun k => hp k.2, rfl, rfl⟩) (Or.inr ⟨fun k => hp k.2, rfl, rfl⟩) hv (mv (a.take 20) yx yy) (al + yz) (ah + yz) h1 m1 rfl rfl rfl l1 (mv (b.take 20) yx yy) (bl + yz) (bh + yz) h2 m2 rfl rfl rfl l2 (a8 m1 m2) w la lb hm hm2
      · by_cases hp : V3 vx vy vz
        · by_cases i1 : InB (a.take 20) al ah vx vy vz
          · by_cases i2 : InB (b.take 20) bl bh vx vy vz
            · have hrf : r = false := by
                cases r with
                | false => rfl
                | true => exact absurd (hr.1 rfl) (apa_in h1 h2 i1 i2)
              subst hrf
              exact apt_3_03 aA bA aC bC a (a.take 20) b (b.take 20) al ah bl bh vx vy vz yx yy yz rfl hly rfl hlz a1 a2 a3 (Or.inl ⟨h1, hp, rfl, iff_of_true rfl i1⟩) (Or.inl ⟨h2, hp, rfl, iff_of_true rfl i2⟩) hv (mv (a.take 20) yx yy) (al + yz) (ah + yz) h1 m1 rfl rfl rfl l1 (Or.inr ⟨h2, hv, Or.inr ⟨m2, rfl⟩⟩) w la lb hm hm2
            · exact apt_2_03 aA bA aC bC a (a.take 20) b (b.take 20) al ah bl bh vx vy vz yx yy yz rfl hly rfl hlz r a1 a2 a3 (Or.inl ⟨h1, hp, rfl, iff_of_true rfl i1⟩) (Or.inl ⟨h2, hp, rfl, iff_of_false (by decide) i2⟩) hv (mv (a.take 20) yx yy) (al + yz) (ah + yz) h1 m1 rfl rfl rfl l1 (Or.inr ⟨h2, hv, Or.inr ⟨m2, rfl⟩⟩) w la lb hm hm2
          · obtain ⟨s, hs⟩ := bool_of (InB (b.take 20) bl bh vx vy vz)
            exact apt_1_03 aA bA aC bC a (a.take 20) b (b.take 20) al ah bl bh vx vy vz yx yy yz rfl hly rfl hlz r s a1 a2 a3 (Or.inl ⟨h1, hp, rfl, iff_of_false (by decide) i1⟩) (Or.inl ⟨h2, hp, rfl, hs⟩) hv (mv (a.take 20) yx yy) (al + yz) (ah + yz) h1 m1 rfl rfl rfl l1 (Or.inr ⟨h2, hv, Or.inr ⟨m2, rfl⟩⟩) w la lb hm hm2
        · exact apt_0_03 aA bA aC bC a (a.take 20) b (b.take 20) al ah bl bh vx vy vz yx yy yz rfl hly rfl hlz r a1 a2 a3 (Or.inr ⟨fun k => hp k.2, rfl, rfl⟩) (Or.inr ⟨fun k => hp k.2, rfl, rfl⟩) hv (mv (a.take 20) yx yy) (al + yz) (ah + yz) h1 m1 rfl rfl rfl l1 (Or.inr ⟨h2, hv, Or.inr ⟨m2, rfl⟩⟩) w la lb hm hm2
      · by_cases hp : V3 vx vy vz
        · by_cases i1 : InB (a.take 20) al ah vx vy vz
          · by_cases i2 : InB (b.take 20) bl bh vx vy vz
            · have hrf : r = false := by
                cases r with
                | false => rfl
                | true => exact absurd (hr.1 rfl) (apa_in h1 h2 i1 i2)
              subst hrf
              exact apt_3_30 aA bA aC bC a (a.take 20) b (b.take 20) al ah bl bh vx vy vz yx yy yz rfl hly rfl hlz a1 a2 a3 (Or.inl ⟨h1, hp, rfl, iff_of_true rfl i1⟩) (Or.inl ⟨h2, hp, rfl, iff_of_true rfl i2⟩) hv (Or.inr ⟨h1, hv, Or.inr ⟨m1, rfl⟩⟩) (mv (b.take 20) yx yy) (bl + yz) (bh + yz) h2 m2 rfl rfl rfl l2 w la lb hm hm2
            · exact apt_2_30 aA bA aC bC a (a.take 20) b (b.take 20) al ah bl bh vx vy vz yx yy yz rfl hly rfl hlz r a1 a2 a3 (Or.inl ⟨h1, hp, rfl, iff_of_true rfl i1⟩) (Or.inl ⟨h2, hp, rfl, iff_of_false (by decide) i2⟩) hv (Or.inr ⟨h1, hv, Or.inr ⟨m1, rfl⟩⟩) (mv (b.take 20) yx yy) (bl + yz) (bh + yz) h2 m2 rfl rfl rfl l2 w la lb hm hm2
          · obtain ⟨s, hs⟩ := bool_of (InB (b.take 20) bl bh vx vy vz)
            exact apt_1_30 aA bA aC bC a (a.take 20) b (b.take 20) al ah bl bh vx vy vz yx yy yz rfl hly rfl hlz r s a1 a2 a3 (Or.inl ⟨h1, hp, rfl, iff_of_false (by decide) i1⟩) (Or.inl ⟨h2, hp, rfl, hs⟩) hv (Or.inr ⟨h1, hv, Or.inr ⟨m1, rfl⟩⟩) (mv (b.take 20) yx yy) (bl + yz) (bh + yz) h2 m2 rfl rfl rfl l2 w la lb hm hm2
        · exact apt_0_30 aA bA aC bC a (a.take 20) b (b.take 20) al ah bl bh vx vy vz yx yy yz rfl hly rfl hlz r a1 a2 a3 (Or.inr ⟨fun k => hp k.2, rfl, rfl⟩) (Or.inr ⟨fun k => hp k.2, rfl, rfl⟩) hv (Or.inr ⟨h1, hv, Or.inr ⟨m1, rfl⟩⟩) (mv (b.take 20) yx yy) (bl + yz) (bh + yz) h2 m2 rfl rfl rfl l2 w la lb hm hm2
      · by_cases hp : V3 vx vy vz
        · by_cases i1 : InB (a.take 20) al ah vx vy vz
          · by_cases i2 : InB (b.take 20) bl bh vx vy vz
            · have hrf : r = false := by
                cases r with
                | false => rfl
                | true => exact absurd (hr.1 rfl) (apa_in h1 h2 i1 i2)
              subst hrf
              exact apt_3_33 aA bA aC bC a (a.take 20) b (b.take 20) al ah bl bh vx vy vz yx yy yz rfl hly rfl hlz a1 a2 a3 (Or.inl ⟨h1, hp, rfl, iff_of_true rfl i1⟩) (Or.inl ⟨h2, hp, rfl, iff_of_true rfl i2⟩) (Or.inr ⟨h1, hv, Or.inr ⟨m1, rfl⟩⟩) (Or.inr ⟨h2, hv, Or.inr ⟨m2, rfl⟩⟩) w la lb hm hm2
            · exact apt_2_33 aA bA aC bC a (a.take 20) b (b.take 20) al ah bl bh vx vy vz yx yy yz rfl hly rfl hlz r a1 a2 a3 (Or.inl ⟨h1, hp, rfl, iff_of_true rfl i1⟩) (Or.inl ⟨h2, hp, rfl, iff_of_false (by decide) i2⟩) (Or.inr ⟨h1, hv, Or.inr ⟨m1, rfl⟩⟩) (Or.inr ⟨h2, hv, Or.inr ⟨m2, rfl⟩⟩) w la lb hm hm2
          · obtain ⟨s, hs⟩ := bool_of (InB (b.take 20) bl bh vx vy vz)
            exact apt_1_33 aA bA aC bC a (a.take 20) b (b.take 20) al ah bl bh vx vy vz yx yy yz rfl hly rfl hlz r s a1 a2 a3 (Or.inl ⟨h1, hp, rfl, iff_of_false (by decide) i1⟩) (Or.inl ⟨h2, hp, rfl, hs⟩) (Or.inr ⟨h1, hv, Or.inr ⟨m1, rfl⟩⟩) (Or.inr ⟨h2, hv, Or.inr ⟨m2, rfl⟩⟩) w la lb hm hm2
        · exact apt_0_33 aA bA aC bC a (a.take 20) b (b.take 20) al ah bl bh vx vy vz yx yy yz rfl hly rfl hlz r a1 a2 a3 (Or.inr ⟨fun k => hp k.2, rfl, rfl⟩) (Or.inr ⟨fun k => hp k.2, rfl, rfl⟩) (Or.inr ⟨h1, hv, Or.inr ⟨m1, rfl⟩⟩) (Or.inr ⟨h2, hv, Or.inr ⟨m2, rfl⟩⟩) w la lb hm hm2
    · by_cases hp : V3 vx vy vz
      · by_cases i1 : InB (a.take 20) al ah vx vy vz
        · by_cases i2 : InB (b.take 20) bl bh vx vy vz
          · have hrf : r = false := by
              cases r with
              | false => rfl
              | true => exact absurd (hr.1 rfl) (apa_in h1 h2 i1 i2)
            subst hrf
            exact apt_3_11 aA bA aC bC a (a.take 20) b (b.take 20) al ah bl bh vx vy vz yx yy yz rfl hly rfl hlz a1 a2 a3 (Or.inl ⟨h1, hp, rfl, iff_of_true rfl i1⟩) (Or.inl ⟨h2, hp, rfl, iff_of_true rfl i2⟩) (Or.inl ⟨fun k => hv k.2, rfl⟩) (Or.inl ⟨fun k => hv k.2, rfl⟩) w la lb hm hm2
          · exact apt_2_11 aA bA aC bC a (a.take 20) b (b.take 20) al ah bl bh vx vy vz yx yy yz rfl hly rfl hlz r a1 a2 a3 (Or.inl ⟨h1, hp, rfl, iff_of_true rfl i1⟩) (Or.inl ⟨h2, hp, rfl, iff_of_false (by decide) i2⟩) (Or.inl ⟨fun k => hv k.2, rfl⟩) (Or.inl ⟨fun k => hv k.2, rfl⟩) w la lb hm hm2
        · obtain ⟨s, hs⟩ := bool_of (InB (b.take 20) bl bh vx vy vz)
          exact apt_1_11 aA bA aC bC a (a.take 20) b (b.take 20) al ah bl bh vx vy vz yx yy yz rfl hly rfl hlz r s a1 a2 a3 (Or.inl ⟨h1, hp, rfl, iff_of_false (by decide) i1⟩) (Or.inl ⟨h2, hp, rfl, hs⟩) (Or.inl ⟨fun k => hv k.2, rfl⟩) (Or.inl ⟨fun k => hv k.2, rfl⟩) w la lb hm hm2
      · exact apt_0_11 aA bA aC bC a (a.take 20) b (b.take 20) al ah bl bh vx vy vz yx yy yz rfl hly rfl hlz r a1 a2 a3 (Or.inr ⟨fun k => hp k.2, rfl, rfl⟩) (Or.inr ⟨fun k => hp k.2, rfl, rfl⟩) (Or.inl ⟨fun k => hv k.2, rfl⟩) (Or.inl ⟨fun k => hv k.2, rfl⟩) w la lb hm hm2
  · have h' : ¬ (Bok (b.take 20) bl bh ∧ Bok (a.take 20) al ah) := fun k => h ⟨k.2, k.1⟩
    by_cases ha : Bok (a.take 20) al ah
    · exact apt_1 aA bA aC bC a (a.take 20) b (b.take 20) al ah bl bh vx vy vz yx yy yz rfl hly rfl hlz (Or.inr ⟨h, rfl, rfl⟩) (Or.inr ⟨h', rfl, rfl⟩) (Or.inl ⟨ha, ha, rfl, iff_of_false (by decide) (apa_self ha)⟩) w la lb hm hm2
    · exact apt_2 aA bA aC bC a (a.take 20) b (b.take 20) al ah bl bh vx vy vz yx yy yz rfl hly rfl hlz (Or.inr ⟨h, rfl, rfl⟩) (Or.inr ⟨h', rfl, rfl⟩) (Or.inr ⟨fun k => ha k.1, rfl, rfl⟩) w la lb hm hm2
/-! ### The row -/
open Go.ChangeShapes Go.WideShapes Go.ChangeAt Go.Joins
theorem u8_in {x : Int} (h : (Lit.int .u8 x).wf = true) : 0 ≤ x ∧ x ≤ 255 := by
  have e1 : IntKind.u8.min = 0 := rfl
  have e2 : IntKind.u8.max = 255 := rfl
  simp [Lit.wf, e1, e2] at h
  exact h
theorem own : ownKnob Try.prog.godebug = none := by kernel_rfl
noncomputable def laidWorld (os : Os) : World := World.holding Try.prog os ⟨#[], #[], []⟩
theorem laidWorld_met (os : Os) (args : Array Value) : laidMet Try.prog [] ((laidWorld os).forCall (fun _ _ => 0) ⟨#[], args, []⟩).memory :=
  laidMet_of_run' 8 (by kernel_rfl) (by kernel_rfl)

set_option maxRecDepth 100000 in
theorem contract (H : Type) (enc : TypeId × Value → H) (W : World) (base : Nat) (args : Array Value) (ds gs : List (DataW H)) (before : List MemPlace)
    (hval : ∀ (j : Nat) t v, Try.f8.params[j]? = some t → args[j]? = some v → Value.okWide Try.prog W .any base t v)
    (hW : DataW.Whole enc Try.prog Try.f8.params.toList Rows.shapeApartSpec.vars false W args.toList ds gs before) :
    Calls Try.prog 8 args W fun e W' => ∃ v, e = .returned v ∧ Rows.shapeApartSpec.post enc Try.prog Try.f8 false true false false W args v W' := by
  have hW' := hW
  have hold : ∀ q ∈ before, decide (q.block < W.heap.size) = true := fun q hq => by simpa using hW.lt q hq
  obtain ⟨p, q, hA0, hV, rfl, hfz, hnd⟩ := hW
  have hA : DataW.TrodAll enc Try.prog W 0 (fun _ => true) true Try.f8.params.toList args.toList ds p := hA0
  rw [Try.params8] at hA hval
  obtain ⟨v0, vs0, d0, ds0, p0, q0, hargs, rfl, rfl, h0, r0⟩ := trodAll_cons hA
  obtain ⟨v1, vs1, d1, ds1, p1, q1, rfl, rfl, rfl, h1, r1⟩ := trodAll_cons r0
  obtain ⟨v2, vs2, d2, ds2, p2, q2, rfl, rfl, rfl, h2, r2⟩ := trodAll_cons r1
  obtain ⟨v3, vs3, d3, ds3, p3, q3, rfl, rfl, rfl, h3, r3⟩ := trodAll_cons r2
  obtain ⟨rfl, rfl, rfl⟩ := trodAll_nil r3
  obtain rfl : args = #[v0, v1, v2, v3] := Array.toList_inj.1 hargs
  obtain ⟨rfl, rfl⟩ := trodVars_none hV
  obtain ⟨aA, aC, a, al, ah, rfl, la, ja, ial, iah, shuta⟩ := open_body (hval 0 24 v0 rfl rfl) h0
  obtain ⟨bA, bC, b, bl, bh, rfl, lb, jb, ibl, ibh, shutb⟩ := open_body (hval 1 24 v1 rfl rfl) h1
  obtain ⟨vx, vy, vz, rfl, rfl, rfl, ivx, ivy, ivz⟩ := open_vec (hval 2 26 v2 rfl rfl) h2
  obtain ⟨yx, yy, yz, rfl, rfl, rfl, iyx, iyy, iyz⟩ := open_vec (hval 3 26 v3 rfl rfl) h3
  clear hA0
  refine (law_any aA aC a al ah bA bC b bl bh vx vy vz yx yy yz W la lb).mono fun e W' ⟨he, bel⟩ => ?_
  subst he
  exact ⟨_, rfl, _, _, _, [], _, [], hW', trodAll_mk1 (shut_bool Try.underlying4 _), (trodAll_cons_mk (shuta W' (fun b => decide (b < W.heap.size)) bel (fun q hq => hold q (by simp [hq]))) (trodAll_cons_mk (shutb W' (fun b => decide (b < W.heap.size)) bel (fun q hq => hold q (by simp [hq]))) (trodAll_cons_mk (shut_vec ivx ivy ivz) (trodAll_cons_mk (shut_vec iyx iyy iyz) trodAll_mk0)))), rfl, bel.frame _, fun h => by cases h⟩

theorem reads (os : Os) {H : Type} (enc : TypeId × Value → H) : ∃ places, DataW.whole enc Try.prog ((laidWorld os).forCall (fun _ _ => 0) ⟨#[], #[.agg #[.slice none 0 0, .int .i64 0, .int .i64 0], .agg #[.slice none 0 0, .int .i64 0, .int .i64 0], .agg #[.int .i64 0, .int .i64 0, .int .i64 0], .agg #[.int .i64 0, .int .i64 0, .int .i64 0]], []⟩).memory Try.f8.params.toList Rows.shapeApartSpec.vars false (#[.agg #[.slice none 0 0, .int .i64 0, .int .i64 0], .agg #[.slice none 0 0, .int .i64 0, .int .i64 0], .agg #[.int .i64 0, .int .i64 0, .int .i64 0], .agg #[.int .i64 0, .int .i64 0, .int .i64 0]] : Array Value).toList 8 = some ([.agg [.nil, .lit (.int .i64 0), .lit (.int .i64 0)], .agg [.nil, .lit (.int .i64 0), .lit (.int .i64 0)], .agg [.lit (.int .i64 0), .lit (.int .i64 0), .lit (.int .i64 0)], .agg [.lit (.int .i64 0), .lit (.int .i64 0), .lit (.int .i64 0)]], [], places) :=
  ⟨[], by kernel_rfl⟩

set_option maxRecDepth 100000 in
theorem lifted (os : Os) (started : os.Started) (H : Type) (enc : TypeId × Value → H) (F : Stop.Interp) :
    ReturnsInHanded {} Try.checked os 8 .any ((OpenSpec.ofChange Rows.shapeApartSpec).preRow enc Try.prog Try.f8 Rows.shapeApartRow.domain false Rows.shapeApartRow.laid) (((OpenSpec.ofChange Rows.shapeApartSpec).at F).post enc Try.prog Try.f8 false true false false) := by
  obtain ⟨places, hx⟩ := reads os enc
  refine returnsInHanded_of_row (C := Try.checked) (s := OpenSpec.ofChange Rows.shapeApartSpec) own started (by kernel_rfl) Try.func8
    (witness_row_atRef (enc := enc) (C := Try.checked) false (laidWorld os) #[.agg #[.slice none 0 0, .int .i64 0, .int .i64 0], .agg #[.slice none 0 0, .int .i64 0, .int .i64 0], .agg #[.int .i64 0, .int .i64 0, .int .i64 0], .agg #[.int .i64 0, .int .i64 0, .int .i64 0]] rfl (by kernel_rfl) (by kernel_rfl) (by kernel_rfl)
      (OpenSpec.preRow_of_cond 8 hx (by kernel_rfl) (fun k hk => by cases hk) (by kernel_rfl) (laidWorld_met os _))) ?_
  intro W base args ds gs before hval hW _ hcond _ hL hsh _
  exact contract H enc W base args ds gs before hval hW

/-- The statement. -/
theorem said : Rows.ShapeApartSaid :=
  OpenClaim.holds_of_cond 8 Try.f8 rfl rfl rfl rfl rfl rfl rfl ⟨rfl, rfl, rfl, rfl, rfl⟩ rfl rfl rfl rfl rfl (by kernel_rfl) Try.func8 (by kernel_rfl)
    (of_decide_eq_true (by kernel_rfl)) (by unfold Func.isWrapper; first | (rw [if_pos (by decide +kernel)]; kernel_rfl) | (rw [if_neg (by decide +kernel)]; exact ⟨rfl, rfl⟩))
    (fun os started H enc _ F => by rw [OpenClaim.pre_eq_preRow]; exact lifted os started H enc F)
end Go.Proofs.Ytagokcjbeaddiaa.LawApart
