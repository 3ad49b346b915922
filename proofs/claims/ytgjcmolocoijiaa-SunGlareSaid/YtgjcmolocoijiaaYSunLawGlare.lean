/-
  SunGlare.
-/
import Derived.Test.YtgjcmolocoijiaaYSunGlA
import Derived.Test.YtgjcmolocoijiaaYSunGlN
import Derived.Test.YtgjcmolocoijiaaYSunGlS
import Derived.Test.YtgjcmolocoijiaaYSunGlD
import Derived.Test.YtgjcmolocoijiaaRows
import Derived.ProofKit
import Derived.OpenShut
import Derived.Deep.DeepHandedRow
import Derived.Deep.DeepWitnessRowRef
import Derived.MakeChecks
import Derived.Deep.DeepCutAuto
namespace Go.Proofs.Ytgjcmolocoijiaa.LawGlare
open Go.RowKit Go.Sort
open Go.RowKit (Below)
set_option linter.unusedVariables false
set_option linter.unusedSimpArgs false
attribute [local go_sem] Oper.semAt_some

theorem law_any (tA : Option Addr) (tC : Nat) (t : List Q4) (m : Int) (im : I64 m) (ex ey ez tx ty tz rn rd : Int) (irn : I64 rn) (ird : I64 rd) (sn sd : Int) (isn : I64 sn) (isd : I64 sd) (bA : Option Addr) (bC : Nat) (b : List Bv) (nA : Option Addr) (nC : Nat) (n : List (Int × Int)) (nl nh : Int) (w : World) (lt : L4 w tA tC t) (lb : LB w bA bC b) (ln : Lp w nA nC n) :
    Calls Try.prog 11 #[.slice tA t.length tC, .int .i64 m, .agg #[.int .i64 ex, .int .i64 ey, .int .i64 ez], .agg #[.int .i64 tx, .int .i64 ty, .int .i64 tz], .agg #[.int .i64 rn, .int .i64 rd], .agg #[.int .i64 sn, .int .i64 sd], .slice bA b.length bC, .agg #[.slice nA n.length nC, .int .i64 nl, .int .i64 nh]] w fun e_ w' => e_ = .returned (.bool true) ∧ Below w.heap.size w w' := by
  have h4 : t.length ≤ 9223372036854775807 := Nat.le_trans lt.cap.1 lt.cap.2
  have h5 : b.length ≤ 9223372036854775807 := Nat.le_trans lb.cap.1 lb.cap.2
  have h6 := lb.len
  have h7 : n.length ≤ 9223372036854775807 := Nat.le_trans ln.cap.1 ln.cap.2
  by_cases hf : FewS t.length b
  · by_cases hg : FewS 0 [⟨nA, nC, n, nl, nh⟩]
    · obtain ⟨u, E, h1⟩ := glr_ex t m ex ey ez tx ty tz rn rd b
      obtain ⟨v, G, h2⟩ := glr_ex t m ex ey ez tx ty tz sn sd b
      by_cases hE : E = 0
      · subst hE
        by_cases hG : G = 0
        · subst hG
          obtain ⟨vq, hq⟩ : ∃ vq : Bool, vq = true ↔ Bok n nl nh := by
            classical
            exact ⟨decide (Bok n nl nh), decide_eq_true_iff⟩
          by_cases hle : sn * rd < rn * sd
          · have k1 : 0 ≤ rn ∧ rn ≤ 10000 ∧ 0 < rd ∧ rd ≤ 10000 := by
              rcases h1 with ⟨_, _, h⟩ | ⟨_, _, _, h⟩ | ⟨_, h, _⟩
              · cases h
              · cases h
              · exact shr_bd h.2.2.2.1
            have k2 : 0 ≤ sn ∧ sn ≤ 10000 ∧ 0 < sd ∧ sd ≤ 10000 := by
              rcases h2 with ⟨_, _, h⟩ | ⟨_, _, _, h⟩ | ⟨_, h, _⟩
              · cases h
              · cases h
              · exact shr_bd h.2.2.2.1
            exact gl_4 tA tC t m ex ey ez tx ty tz rn rd sn sd bA bC b nA nC n nl nh h4 h5 h6 h7 irn ird isn isd hf hg u v h1 h2 k1 k2 hle w lt.sl lb.sl ln.sl
          · obtain ⟨x, y, z, ⟨c, rfl, rfl, g, more⟩ | ⟨c, o, dk, g, hs, hkk, hko, more⟩⟩ := gl_cases h1 h2 hle
            · have hd := (dir_v3 g.ok.1.1 g.dir).1
              by_cases hz : z ≤ 0
              · exact gl_N tA tC t m ex ey ez tx ty tz rn rd sn sd bA bC b nA nC n nl nh h4 h5 h6 h7 irn ird isn isd hf hg vq x y z _ _ h1 h2 g.one (Or.inl ⟨g.ok.1, rfl, g.dir, (decide_eq_false (by omega)).symm⟩) g.r1 g.s1 hle hd g.ok.2.1 g.ok.2.2.1 rfl rfl hq (fun a l => ⟨false, more ⟨nA, nC, n, nl, nh⟩ l (hq.1 a), rfl⟩) w lt.sl lb.sl ln.sl
              · have hsm := c.resolve_left hz
                have h0 : ¬ 0 < dt x y z (tx - ex) (ty - ey) (tz - ez) := by
                  obtain ⟨e1, e2, e3⟩ := hsm
                  rw [show tx - ex = 0 by omega, show ty - ey = 0 by omega, show tz - ez = 0 by omega]
                  simp [dt]
                exact gl_S tA tC t m ex ey ez tx ty tz rn rd sn sd bA bC b nA nC n nl nh h4 h5 h6 h7 irn ird isn isd hf hg vq x y z _ _ h1 h2 (by rw [show (decide (x * (ty - ey) = y * (tx - ex) ∧ y * (tz - ez) = z * (ty - ey) ∧ z * (tx - ex) = x * (tz - ez)) && decide (0 < dt x y z (tx - ex) (ty - ey) (tz - ez))) = false by rw [decide_eq_false h0, Bool.and_false]]; exact g.one) (Or.inl ⟨g.ok.1, rfl, g.dir, (decide_eq_true (by omega)).symm⟩) g.r1 g.s1 hle hd g.ok.2.1 g.ok.2.2.1 rfl rfl hsm hq (fun a l => ⟨false, more ⟨nA, nC, n, nl, nh⟩ l (hq.1 a), rfl⟩) w lt.sl lb.sl ln.sl
            · have hd := (dir_v3 g.ok.1.1 g.dir).1
              exact gl_D tA tC t m ex ey ez tx ty tz rn rd sn sd bA bC b nA nC n nl nh h4 h5 h6 h7 irn ird isn isd hf hg u v vq dk x y z _ _ h1 h2 (hko ▸ g.one) (Or.inl ⟨g.ok.1, rfl, g.dir, (decide_eq_true c.1).symm⟩) g.r1 g.s1 hle hd g.ok.2.1 g.ok.2.2.1 rfl rfl hs c.2 hkk hq (fun a l => more ⟨nA, nC, n, nl, nh⟩ l (hq.1 a)) w lt.sl lb.sl ln.sl
        · exact gl_3 tA tC t m ex ey ez tx ty tz rn rd sn sd bA bC b nA nC n nl nh h4 h5 h6 h7 irn ird isn isd hf hg u v G h1 h2 hG w lt.sl lb.sl ln.sl
      · exact gl_2 tA tC t m ex ey ez tx ty tz rn rd sn sd bA bC b nA nC n nl nh h4 h5 h6 h7 irn ird isn isd hf hg u v E G h1 h2 hE w lt.sl lb.sl ln.sl
    · exact gl_1 tA tC t m ex ey ez tx ty tz rn rd sn sd bA bC b nA nC n nl nh h4 h5 h6 h7 irn ird isn isd hf hg w lt.sl lb.sl ln.sl
  · exact gl_0 tA tC t m ex ey ez tx ty tz rn rd sn sd bA bC b nA nC n nl nh h4 h5 h6 h7 irn ird isn isd hf w lt.sl lb.sl ln.sl
section
open Go.ChangeShapes Go.WideShapes Go.ChangeAt Go.Joins
theorem cellsRat : Try.prog.cellsOf 36 = 2 := by kernel_rfl

section
variable {H : Type} {enc : TypeId × Value → H}
/-- A pair as data. -/
abbrev datRat (a b : Int) : DataW H := .agg [.lit (.int .i64 a), .lit (.int .i64 b)]

set_option maxRecDepth 100000 in
theorem open_rat {W : World} {base : Nat} {sp : Nat → Bool} {held : Bool} {v : Value} {d : DataW H} {p : List MemPlace} (hv : Value.okWide Try.prog W .any base 36 v) (h : DataW.Trod enc Try.prog W 0 sp held 36 v d p) :
    ∃ a b : Int, v = .agg #[.int .i64 a, .int .i64 b] ∧ d = datRat a b ∧ p = [] ∧ (Lit.int .i64 a).wf = true ∧ (Lit.int .i64 b).wf = true := by
  obtain ⟨c0, c1, y0, y1, m, rfl, rfl, rfl, hy0, hy1⟩ := open_agg2 Try.underlying36 (by kernel_rfl) cellsRat hv h
  obtain ⟨a, e0, rfl, wa⟩ := DataW.trod_int Try.underlying3 hy0
  obtain ⟨b, e1, rfl, wb⟩ := DataW.trod_int Try.underlying3 hy1
  simp at e0 e1
  subst e0 e1
  exact ⟨a, b, rfl, rfl, rfl, wa, wb⟩

set_option maxRecDepth 100000 in
theorem shut_rat {W : World} {sp : Nat → Bool} {held : Bool} {a b : Int} (wa : (Lit.int .i64 a).wf = true) (wb : (Lit.int .i64 b).wf = true) :
    DataW.Trod enc Try.prog W 0 sp held 36 (.agg #[.int .i64 a, .int .i64 b]) (datRat a b) [] :=
  shut_agg2 (y0 := (.lit (.int .i64 a), [])) (y1 := (.lit (.int .i64 b), [])) Try.underlying36 (by kernel_rfl) cellsRat ⟨1, by simp [DataW.trod, Try.underlying3, wa]⟩ ⟨1, by simp [DataW.trod, Try.underlying3, wb]⟩
end
end
/-! ### The row -/
open Go.ChangeShapes Go.WideShapes Go.ChangeAt Go.Joins
theorem own : ownKnob Try.prog.godebug = none := by kernel_rfl
noncomputable def laidWorld (os : Os) : World := World.holding Try.prog os ⟨#[], #[], []⟩
theorem laidWorld_met (os : Os) (args : Array Value) : laidMet Try.prog [] ((laidWorld os).forCall (fun _ _ => 0) ⟨#[], args, []⟩).memory :=
  laidMet_of_run' 8 (by kernel_rfl) (by kernel_rfl)

set_option maxRecDepth 100000 in
theorem contract (H : Type) (enc : TypeId × Value → H) (W : World) (base : Nat) (args : Array Value) (ds gs : List (DataW H)) (before : List MemPlace)
    (hval : ∀ (j : Nat) t v, Try.f11.params[j]? = some t → args[j]? = some v → Value.okWide Try.prog W .any base t v)
    (hW : DataW.Whole enc Try.prog Try.f11.params.toList Rows.sunGlareSpec.vars false W args.toList ds gs before) :
    Calls Try.prog 11 args W fun e W' => ∃ v, e = .returned v ∧ Rows.sunGlareSpec.post enc Try.prog Try.f11 false true false false W args v W' := by
  have hW' := hW
  have hold : ∀ q ∈ before, decide (q.block < W.heap.size) = true := fun q hq => by simpa using hW.lt q hq
  obtain ⟨p, q, hA0, hV, rfl, hfz, hnd⟩ := hW
  have hA : DataW.TrodAll enc Try.prog W 0 (fun _ => true) true Try.f11.params.toList args.toList ds p := hA0
  rw [Try.params11] at hA hval
  obtain ⟨v0, vs0, d0, ds0, p0, q0, hargs, rfl, rfl, h0, r0⟩ := trodAll_cons hA
  obtain ⟨v1, vs1, d1, ds1, p1, q1, rfl, rfl, rfl, h1, r1⟩ := trodAll_cons r0
  obtain ⟨v2, vs2, d2, ds2, p2, q2, rfl, rfl, rfl, h2, r2⟩ := trodAll_cons r1
  obtain ⟨v3, vs3, d3, ds3, p3, q3, rfl, rfl, rfl, h3, r3⟩ := trodAll_cons r2
  obtain ⟨v4, vs4, d4, ds4, p4, q4, rfl, rfl, rfl, h4, r4⟩ := trodAll_cons r3
  obtain ⟨v5, vs5, d5, ds5, p5, q5, rfl, rfl, rfl, h5, r5⟩ := trodAll_cons r4
  obtain ⟨v6, vs6, d6, ds6, p6, q6, rfl, rfl, rfl, h6, r6⟩ := trodAll_cons r5
  obtain ⟨v7, vs7, d7, ds7, p7, q7, rfl, rfl, rfl, h7, r7⟩ := trodAll_cons r6
  obtain ⟨rfl, rfl, rfl⟩ := trodAll_nil r7
  obtain rfl : args = #[v0, v1, v2, v3, v4, v5, v6, v7] := Array.toList_inj.1 hargs
  obtain ⟨rfl, rfl⟩ := trodVars_none hV
  obtain ⟨tA, tC, t, rfl, lt, shutt⟩ := open_suns (hval 0 78 v0 rfl rfl) h0
  obtain ⟨m, rfl, rfl, rfl, im⟩ := open_int Try.underlying3 (hval 1 3 v1 rfl rfl) h1
  obtain ⟨ex, ey, ez, rfl, rfl, rfl, iex, iey, iez⟩ := open_vec (hval 2 27 v2 rfl rfl) h2
  obtain ⟨gx, gy, gz, rfl, rfl, rfl, igx, igy, igz⟩ := open_vec (hval 3 27 v3 rfl rfl) h3
  obtain ⟨rn, rd, rfl, rfl, rfl, irn, ird⟩ := open_rat (hval 4 36 v4 rfl rfl) h4
  obtain ⟨sn, sd, rfl, rfl, rfl, isn, isd⟩ := open_rat (hval 5 36 v5 rfl rfl) h5
  obtain ⟨bA, bC, b, rfl, lb, shutb⟩ := open_bodies (hval 6 22 v6 rfl rfl) h6
  obtain ⟨nA, nC, n, nl, nh, rfl, ln, jn, inl, inh, shutn⟩ := open_body (hval 7 59 v7 rfl rfl) h7
  clear hA0
  refine (law_any tA tC t m (wf_i im) ex ey ez gx gy gz rn rd (wf_i irn) (wf_i ird) sn sd (wf_i isn) (wf_i isd) bA bC b nA nC n nl nh W lt lb ln).mono fun e W' ⟨he, bel⟩ => ?_
  subst he
  exact ⟨_, rfl, _, _, _, [], _, [], hW', trodAll_mk1 (shut_bool Try.underlying4 _), (trodAll_cons_mk (shutt W' (fun b => decide (b < W.heap.size)) bel (fun q hq => hold q (by simp [hq]))) (trodAll_cons_mk (shut_int Try.underlying3 im) (trodAll_cons_mk (shut_vec iex iey iez) (trodAll_cons_mk (shut_vec igx igy igz) (trodAll_cons_mk (shut_rat irn ird) (trodAll_cons_mk (shut_rat isn isd) (trodAll_cons_mk (shutb W' (fun b => decide (b < W.heap.size)) bel (fun q hq => hold q (by simp [hq]))) (trodAll_cons_mk (shutn W' (fun b => decide (b < W.heap.size)) bel (fun q hq => hold q (by simp [hq]))) trodAll_mk0)))))))), rfl, bel.frame _, fun h => by cases h⟩

theorem reads (os : Os) {H : Type} (enc : TypeId × Value → H) : ∃ places, DataW.whole enc Try.prog ((laidWorld os).forCall (fun _ _ => 0) ⟨#[], #[.slice none 0 0, .int .i64 0, .agg #[.int .i64 0, .int .i64 0, .int .i64 0], .agg #[.int .i64 0, .int .i64 0, .int .i64 0], .agg #[.int .i64 0, .int .i64 0], .agg #[.int .i64 0, .int .i64 0], .slice none 0 0, .agg #[.slice none 0 0, .int .i64 0, .int .i64 0]], []⟩).memory Try.f11.params.toList Rows.sunGlareSpec.vars false (#[.slice none 0 0, .int .i64 0, .agg #[.int .i64 0, .int .i64 0, .int .i64 0], .agg #[.int .i64 0, .int .i64 0, .int .i64 0], .agg #[.int .i64 0, .int .i64 0], .agg #[.int .i64 0, .int .i64 0], .slice none 0 0, .agg #[.slice none 0 0, .int .i64 0, .int .i64 0]] : Array Value).toList 8 = some ([.nil, .lit (.int .i64 0), .agg [.lit (.int .i64 0), .lit (.int .i64 0), .lit (.int .i64 0)], .agg [.lit (.int .i64 0), .lit (.int .i64 0), .lit (.int .i64 0)], .agg [.lit (.int .i64 0), .lit (.int .i64 0)], .agg [.lit (.int .i64 0), .lit (.int .i64 0)], .nil, .agg [.nil, .lit (.int .i64 0), .lit (.int .i64 0)]], [], places) :=
  ⟨[], by kernel_rfl⟩

set_option maxRecDepth 100000 in
theorem lifted (os : Os) (started : os.Started) (H : Type) (enc : TypeId × Value → H) (F : Stop.Interp) :
    ReturnsInHanded {} Try.checked os 11 .any ((OpenSpec.ofChange Rows.sunGlareSpec).preRow enc Try.prog Try.f11 Rows.sunGlareRow.domain false Rows.sunGlareRow.laid) (((OpenSpec.ofChange Rows.sunGlareSpec).at F).post enc Try.prog Try.f11 false true false false) := by
  obtain ⟨places, hx⟩ := reads os enc
  refine returnsInHanded_of_row (C := Try.checked) (s := OpenSpec.ofChange Rows.sunGlareSpec) own started (by kernel_rfl) Try.func11
    (witness_row_atRef (enc := enc) (C := Try.checked) false (laidWorld os) #[.slice none 0 0, .int .i64 0, .agg #[.int .i64 0, .int .i64 0, .int .i64 0], .agg #[.int .i64 0, .int .i64 0, .int .i64 0], .agg #[.int .i64 0, .int .i64 0], .agg #[.int .i64 0, .int .i64 0], .slice none 0 0, .agg #[.slice none 0 0, .int .i64 0, .int .i64 0]] rfl (by kernel_rfl) (by kernel_rfl) (by kernel_rfl)
      (OpenSpec.preRow_of_cond 8 hx (by kernel_rfl) (fun k hk => by cases hk) (by kernel_rfl) (laidWorld_met os _))) ?_
  intro W base args ds gs before hval hW _ hcond _ hL hsh _
  exact contract H enc W base args ds gs before hval hW

/-- The statement. -/
theorem said : Rows.SunGlareSaid :=
  OpenClaim.holds_of_cond 11 Try.f11 rfl rfl rfl rfl rfl rfl rfl ⟨rfl, rfl, rfl, rfl, rfl⟩ rfl rfl rfl rfl rfl (by kernel_rfl) Try.func11 (by kernel_rfl)
    (of_decide_eq_true (by kernel_rfl)) (by unfold Func.isWrapper; first | (rw [if_pos (by decide +kernel)]; kernel_rfl) | (rw [if_neg (by decide +kernel)]; exact ⟨rfl, rfl⟩))
    (fun os started H enc _ F => by rw [OpenClaim.pre_eq_preRow]; exact lifted os started H enc F)
end Go.Proofs.Ytgjcmolocoijiaa.LawGlare
