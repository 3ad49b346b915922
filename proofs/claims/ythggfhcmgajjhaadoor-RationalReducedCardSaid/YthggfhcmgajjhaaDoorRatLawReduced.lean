/-
  RationalReduced: what Make returns is a number with the value n divided by d, and Make returns the same for n and d that are both multiplied by k: for every n, d and k.
  Conditions: the package variables of the library that the row lists hold what the program's text lays.
-/
import Derived.Test.YthggfhcmgajjhaaDoorRatW
import Derived.Test.YthggfhcmgajjhaaDoorCards
import Derived.Test.YthggfhcmgajjhaaDoorTie
import Derived.Test.YthggfhcmgajjhaaDoorRatQ
import Derived.Deep.DeepCutAuto
namespace Go.Proofs.YthggfhcmgajjhaaDoor.rationalReduced
open Go.RowKit Go.Sort
open Go.RowKit (Below)

set_option maxHeartbeats 400000 in
theorem within_b (m n : Int) (hm : 0 ≤ m) (hm2 : m ≤ 9223372036854775807) (b : Bool) (h : (decide (-m ≤ n) && decide (n ≤ m)) = b) (w : World) :
    Calls Tryd.prog 32 #[.int .i64 m, .int .i64 n] w fun e w' => e = .returned (.bool b) ∧ w = w' := by
  subst h
  by_cases h1 : -m ≤ n
  · go_enter Tryd.func32, Tryd.ntmps32
    go_wp2
    go_ret
    exact ⟨by simp [h1], rfl⟩
  · go_enter Tryd.func32, Tryd.ntmps32
    go_wp2
    go_ret
    exact ⟨by simp; omega, rfl⟩

theorem mul_le {a b : Int} {A B : Nat} (ha : a.natAbs ≤ A) (hb : b.natAbs ≤ B) : -((A * B : Nat) : Int) ≤ a * b ∧ a * b ≤ ((A * B : Nat) : Int) := by
  have h : (a * b).natAbs ≤ A * B := by rw [Int.natAbs_mul]; exact Nat.mul_le_mul ha hb
  generalize a * b = z at h
  generalize A * B = y at h
  omega

def W1 (m n : Int) : Bool := decide (-m ≤ n) && decide (n ≤ m)
theorem W1_abs {m n : Int} (h : W1 m n = true) : n.natAbs ≤ m.toNat := by simp [W1] at h; omega

/-- What the walk needs of Make's two results. -/
structure Res (n d k N D E : Int) : Prop where
  m1 : ∀ W, Calls Tryd.prog 14 #[.int .i64 n, .int .i64 d] W fun e w' => e = .returned (.tuple #[.agg #[.int .i64 N, .int .i64 D], .int .i64 E]) ∧ Below W.heap.size W w'
  z7 : E = 7 ↔ d = 0
  cs : E = 7 ∨ E = 3 ∨ E = 0
  er : E ≠ 0 → N = 0 ∧ D = 0
  vl : E = 0 → vld N D = true
  eq : E = 0 → n * D = N * d
  iN : I64 N
  iD : I64 D
  m2 : k ≠ 0 → I64 (k * n) → I64 (k * d) → ∀ W, Calls Tryd.prog 14 #[.int .i64 (k * n), .int .i64 (k * d)] W fun e w' => e = .returned (.tuple #[.agg #[.int .i64 N, .int .i64 D], .int .i64 E]) ∧ Below W.heap.size W w'

theorem mk_i64 (n d : Int) : I64 (mkN n d) ∧ I64 (mkD n d) := by
  by_cases h : mkE n d = 0
  · have := vld_bd (mk_vld h); exact ⟨this.1.i64, this.2.i64⟩
  · have := mk_err h; rw [this.1, this.2]; exact ⟨by constructor <;> omega, by constructor <;> omega⟩

theorem res (n d k : Int) (hn : I64 n) (hd : I64 d) : Res n d k (mkN n d) (mkD n d) (mkE n d) where
  m1 W := make_any n d W hn hd
  z7 := mkE_zero n d
  cs := mkE_cases n d
  er := mk_err
  vl := mk_vld
  eq := mk_val
  iN := (mk_i64 n d).1
  iD := (mk_i64 n d).2
  m2 hk h1 h2 W := by
    have h := make_any (k * n) (k * d) W h1 h2
    rwa [mkN_mul n d hk, mkD_mul n d hk, mkE_mul n d hk] at h

set_option maxRecDepth 100000 in
set_option maxHeartbeats 1000000 in
theorem walk0 (n d k N D E : Int) (r : Res n d k N D E) (w : World) (hs : St w) :
    Calls Tryd.prog 4 #[.int .i64 n, .int .i64 d, .int .i64 k] w fun e w' => e = .returned (.bool true) ∧ Below w.heap.size w w' := by
  have HS := Lib.hid hs; clear hs
  have HR := Lib.hid r; clear r
  go_enter Tryd.func4, Tryd.ntmps4
  go_wp2_with fail
  refine (head_any _ HS.out).mono ?_
  rintro e w1 ⟨rfl, b1⟩
  go_wp2_with fail
  refine (HR.out.m1 _).mono ?_
  rintro e w2 ⟨rfl, hb2⟩
  obtain ⟨b2, z2⟩ := on_same b1 hb2
  clear hb2 b1 z2
  go_upto_region 3 with fail
  have b3 : Below w.heap.size w (w2.alloc (.cells #[.int .i64 N, .int .i64 D] 23)) := b2.alloc b2.size _
  obtain ⟨g, hg⟩ : ∃ g, g = w2.heap.size := ⟨_, rfl⟩
  have c0 : (w2.alloc (.cells #[.int .i64 N, .int .i64 D] 23)).cell? ⟨w2.heap.size, 0, none⟩ = some (.int .i64 N) := by simp [go_sem]
  have c1 : (w2.alloc (.cells #[.int .i64 N, .int .i64 D] 23)).cell? ⟨w2.heap.size, 1, none⟩ = some (.int .i64 D) := by simp [go_sem]
  generalize w2.alloc (.cells #[.int .i64 N, .int .i64 D] 23) = w3 at *
  rw [← hg] at c0 c1 ⊢
  clear hg b2 w2
  go_cut [32] (fun s wx => s = .bool false ∧ wx = w3)
  case first =>
    rcases HR.out.cs with h | h | h
    · have e1 : (d == 0) = true := by simpa using HR.out.z7.1 h
      obtain ⟨n0, d0⟩ := HR.out.er (by omega)
      subst h
      subst n0
      subst d0
      go_wp2_with fail
      go_meet
      exact ⟨rfl, rfl⟩
    · have e1 : (d == 0) = false := by
        have : ¬ d = 0 := fun e => by have := HR.out.z7.2 e; omega
        simpa using this
      obtain ⟨n0, d0⟩ := HR.out.er (by omega)
      subst h
      subst n0
      subst d0
      go_wp2_with fail
      go_meet
      exact ⟨rfl, rfl⟩
    · have e1 : (d == 0) = false := by
        have : ¬ d = 0 := fun e => by have := HR.out.z7.2 e; omega
        simpa using this
      subst h
      go_wp2_with fail
      go_meet
      exact ⟨rfl, rfl⟩
  case rest =>
    obtain ⟨rfl, rfl⟩ := hcut
    go_upto_region 5 with fail
    go_cut [58] (fun s wx => s = .bool false ∧ wx.cell? ⟨g, 0, none⟩ = some (.int .i64 N) ∧ wx.cell? ⟨g, 1, none⟩ = some (.int .i64 D) ∧ Below w.heap.size w wx)
    case first =>
      rcases HR.out.cs with h | h | h
      · subst h
        go_wp2_with fail
        go_meet
        exact ⟨rfl, c0, c1, b3⟩
      · subst h
        go_wp2_with fail
        go_meet
        exact ⟨rfl, c0, c1, b3⟩
      · subst h
        have HV := Lib.hid (HR.out.vl rfl)
        have HE := Lib.hid (HR.out.eq rfl)
        have HN := Lib.hid HR.out.iN
        have HD := Lib.hid HR.out.iD
        cases q1 : W1 2147483648 n with
        | false =>
          have Hq1 := Lib.hid q1; clear q1
          go_wp2_with fail
          refine (valid_b N D true HV.out _ HN.out HD.out).mono ?_
          rintro e wv ⟨rfl, hbv⟩
          have k0 : wv.cell? ⟨g, 0, none⟩ = some (.int .i64 N) := by rw [hbv.cell (block_lt c0)]; exact c0
          have k1 : wv.cell? ⟨g, 1, none⟩ = some (.int .i64 D) := by rw [hbv.cell (block_lt c1)]; exact c1
          have b4 := b3.trans (hbv.mono b3.size)
          go_wp2_with (go_at_call 32; refine (within_b 2147483648 n (by omega) (by omega) false Hq1.out _).mono ?_; rintro e w' ⟨rfl, rfl⟩)
          go_meet
          exact ⟨rfl, k0, k1, b4⟩
        | true =>
          cases q2 : W1 2147483648 d with
          | false =>
            have Hq1 := Lib.hid q1; clear q1
            have Hq2 := Lib.hid q2; clear q2
            go_wp2_with fail
            refine (valid_b N D true HV.out _ HN.out HD.out).mono ?_
            rintro e wv ⟨rfl, hbv⟩
            have k0 : wv.cell? ⟨g, 0, none⟩ = some (.int .i64 N) := by rw [hbv.cell (block_lt c0)]; exact c0
            have k1 : wv.cell? ⟨g, 1, none⟩ = some (.int .i64 D) := by rw [hbv.cell (block_lt c1)]; exact c1
            have b4 := b3.trans (hbv.mono b3.size)
            go_wp2_with fail
            refine (within_b 2147483648 n (by omega) (by omega) true Hq1.out _).mono ?_
            rintro e w' ⟨rfl, rfl⟩
            go_wp2_with fail
            refine (within_b 2147483648 d (by omega) (by omega) false Hq2.out _).mono ?_
            rintro e w' ⟨rfl, rfl⟩
            go_wp2_with fail
            go_meet
            exact ⟨rfl, k0, k1, b4⟩
          | true =>
            have m1 : wrap64 (n * D) = wrap64 (N * d) := by rw [HE.out]
            have Hq1 := Lib.hid q1; clear q1
            have Hq2 := Lib.hid q2; clear q2
            go_wp2_with fail
            refine (valid_b N D true HV.out _ HN.out HD.out).mono ?_
            rintro e wv ⟨rfl, hbv⟩
            have k0 : wv.cell? ⟨g, 0, none⟩ = some (.int .i64 N) := by rw [hbv.cell (block_lt c0)]; exact c0
            have k1 : wv.cell? ⟨g, 1, none⟩ = some (.int .i64 D) := by rw [hbv.cell (block_lt c1)]; exact c1
            have b4 := b3.trans (hbv.mono b3.size)
            go_wp2_with fail
            refine (within_b 2147483648 n (by omega) (by omega) true Hq1.out _).mono ?_
            rintro e w' ⟨rfl, rfl⟩
            go_wp2_with fail
            refine (within_b 2147483648 d (by omega) (by omega) true Hq2.out _).mono ?_
            rintro e w' ⟨rfl, rfl⟩
            go_wp2_with fail
            go_meet
            exact ⟨rfl, k0, k1, b4⟩
    case rest =>
      obtain ⟨rfl, k0, k1, b4⟩ := hcut
      clear c0 c1 b3
      by_cases hk0 : k = 0
      · have e0 : (k == 0) = true := by simpa using hk0
        clear hk0
        go_wp2_with fail
        go_ret
        exact ⟨rfl, b4⟩
      · have e0 : (k == 0) = false := by simpa using hk0
        have Hk := Lib.hid hk0; clear hk0
        cases q1 : W1 1000 k with
        | false =>
          have Hq1 := Lib.hid q1; clear q1
          go_wp2_with fail
          refine (within_b 1000 k (by omega) (by omega) false Hq1.out _).mono ?_
          rintro e w' ⟨rfl, rfl⟩
          go_wp2_with fail
          go_ret
          exact ⟨rfl, b4⟩
        | true =>
          cases q2 : W1 1099511627776 n with
          | false =>
            have Hq1 := Lib.hid q1; clear q1
            have Hq2 := Lib.hid q2; clear q2
            go_wp2_with fail
            refine (within_b 1000 k (by omega) (by omega) true Hq1.out _).mono ?_
            rintro e w' ⟨rfl, rfl⟩
            go_wp2_with fail
            refine (within_b 1099511627776 n (by omega) (by omega) false Hq2.out _).mono ?_
            rintro e w' ⟨rfl, rfl⟩
            go_wp2_with fail
            go_ret
            exact ⟨rfl, b4⟩
          | true =>
            cases q3 : W1 1099511627776 d with
            | false =>
              have Hq1 := Lib.hid q1; clear q1
              have Hq2 := Lib.hid q2; clear q2
              have Hq3 := Lib.hid q3; clear q3
              go_wp2_with fail
              refine (within_b 1000 k (by omega) (by omega) true Hq1.out _).mono ?_
              rintro e w' ⟨rfl, rfl⟩
              go_wp2_with fail
              refine (within_b 1099511627776 n (by omega) (by omega) true Hq2.out _).mono ?_
              rintro e w' ⟨rfl, rfl⟩
              go_wp2_with fail
              refine (within_b 1099511627776 d (by omega) (by omega) false Hq3.out _).mono ?_
              rintro e w' ⟨rfl, rfl⟩
              go_wp2_with fail
              go_ret
              exact ⟨rfl, b4⟩
            | true =>
              have p1 := mul_le (A := 1000) (B := 1099511627776) (W1_abs q1) (W1_abs q2)
              have p2 := mul_le (A := 1000) (B := 1099511627776) (W1_abs q1) (W1_abs q3)
              have i1 : I64 (k * n) := ⟨by omega, by omega⟩
              have i2 : I64 (k * d) := ⟨by omega, by omega⟩
              have r1 : wrap64 (k * n) = k * n := IntWalk.wrap64_in _ ⟨i1.1, i1.2⟩
              have r2 : wrap64 (k * d) = k * d := IntWalk.wrap64_in _ ⟨i2.1, i2.2⟩
              have Hq1 := Lib.hid q1; clear q1
              have Hq2 := Lib.hid q2; clear q2
              have Hq3 := Lib.hid q3; clear q3
              have HM := Lib.hid (HR.out.m2 Hk.out i1 i2)
              clear p1 p2 i1 i2
              go_wp2_with fail
              refine (within_b 1000 k (by omega) (by omega) true Hq1.out _).mono ?_
              rintro e w' ⟨rfl, rfl⟩
              go_wp2_with fail
              refine (within_b 1099511627776 n (by omega) (by omega) true Hq2.out _).mono ?_
              rintro e w' ⟨rfl, rfl⟩
              go_wp2_with fail
              refine (within_b 1099511627776 d (by omega) (by omega) true Hq3.out _).mono ?_
              rintro e w' ⟨rfl, rfl⟩
              go_wp2_with fail
              refine (HM.out _).mono ?_
              rintro e w5 ⟨rfl, hb5⟩
              obtain ⟨b5, z5⟩ := on_same b4 hb5
              have j0 : w5.cell? ⟨g, 0, none⟩ = some (.int .i64 N) := by rw [hb5.cell (block_lt k0)]; exact k0
              have j1 : w5.cell? ⟨g, 1, none⟩ = some (.int .i64 D) := by rw [hb5.cell (block_lt k1)]; exact k1
              have l0 := block_lt j0
              clear hb5 k0 k1 b4
              go_wp2_with fail
              go_ret
              exact ⟨rfl, b5.alloc b5.size _⟩

theorem walk (n d k : Int) (hn : I64 n) (hd : I64 d) (w : World) (hs : St w) :
    Calls Tryd.prog 4 #[.int .i64 n, .int .i64 d, .int .i64 k] w fun e w' => e = .returned (.bool true) ∧ Below w.heap.size w w' :=
  walk0 n d k _ _ _ (res n d k hn hd) w hs

/-! ### The row and the card -/
open Go.ChangeShapes Go.WideShapes Go.ChangeAt

theorem wf_i {x : Int} (h : (Lit.int .i64 x).wf = true) : I64 x := by
  have e1 : IntKind.i64.min = -9223372036854775808 := rfl
  have e2 : IntKind.i64.max = 9223372036854775807 := rfl
  simp [Lit.wf, e1, e2] at h
  exact h

set_option maxRecDepth 100000 in
theorem contract (H : Type) (enc : TypeId × Value → H) (W : World) (base : Nat) (args : Array Value) (ds gs : List (DataW H)) (before : List MemPlace)
    (hval : ∀ (j : Nat) t v, Tryd.f4.params[j]? = some t → args[j]? = some v → Value.okWide Tryd.prog W .any base t v)
    (hW : DataW.Whole enc Tryd.prog Tryd.f4.params.toList Rows.rationalReducedSpec.vars false W args.toList ds gs before) (hL : laidMetH Tryd.prog laid5 W) (hsh : W.ShapedOpen Tryd.prog) :
    Calls Tryd.prog 4 args W fun e W' => ∃ v, e = .returned v ∧ Rows.rationalReducedSpec.post enc Tryd.prog Tryd.f4 false true false false W args v W' := by
  have hW' := hW
  obtain ⟨p, q, hA0, hV, rfl, hfz, hnd⟩ := hW
  have hA : DataW.TrodAll enc Tryd.prog W 0 (fun _ => true) true Tryd.f4.params.toList args.toList ds p := hA0
  rw [Tryd.params4] at hA hval
  obtain ⟨v0, vs0, d0, ds0, p0, q0, hargs, rfl, rfl, h0, r0⟩ := trodAll_cons hA
  obtain ⟨v1, vs1, d1, ds1, p1, q1, rfl, rfl, rfl, h1, r1⟩ := trodAll_cons r0
  obtain ⟨v2, vs2, d2, ds2, p2, q2, rfl, rfl, rfl, h2, r2⟩ := trodAll_cons r1
  obtain ⟨rfl, rfl, rfl⟩ := trodAll_nil r2
  obtain rfl : args = #[v0, v1, v2] := Array.toList_inj.1 hargs
  obtain ⟨rfl, rfl⟩ := trodVars_none hV
  obtain ⟨a0, rfl, rfl, rfl, w0⟩ := open_int Tryd.underlying3 (hval 0 3 v0 rfl rfl) h0
  obtain ⟨a1, rfl, rfl, rfl, w1⟩ := open_int Tryd.underlying3 (hval 1 3 v1 rfl rfl) h1
  obtain ⟨a2, rfl, rfl, rfl, w2⟩ := open_int Tryd.underlying3 (hval 2 3 v2 rfl rfl) h2
  clear hA0
  refine (walk a0 a1 a2 (wf_i w0) (wf_i w1) W (st_of hL hsh)).mono fun e W' ⟨he, bel⟩ => ?_
  subst he
  exact ⟨_, rfl, _, _, _, [], [], [], hW', trodAll_mk1 (shut_bool Tryd.underlying4 _), (trodAll_cons_mk (shut_int Tryd.underlying3 w0) (trodAll_cons_mk (shut_int Tryd.underlying3 w1) (trodAll_cons_mk (shut_int Tryd.underlying3 w2) trodAll_mk0))), rfl, bel.frame _, fun h => by cases h⟩

theorem reads (os : Os) {H : Type} (enc : TypeId × Value → H) : ∃ places, DataW.whole enc Tryd.prog ((laidWorld os).forCall (fun _ _ => 0) ⟨#[], #[.int .i64 0, .int .i64 0, .int .i64 0], []⟩).memory Tryd.f4.params.toList Rows.rationalReducedSpec.vars false #[Value.int .i64 0, .int .i64 0, .int .i64 0].toList 8 = some ([.lit (.int .i64 0), .lit (.int .i64 0), .lit (.int .i64 0)], [], places) :=
  ⟨[], by kernel_rfl⟩

set_option maxRecDepth 100000 in
theorem lifted (os : Os) (started : os.Started) (H : Type) (enc : TypeId × Value → H) (F : Stop.Interp) :
    ReturnsInHanded {} Tryd.checked os 4 .any ((OpenSpec.ofChange Rows.rationalReducedSpec).preRow enc Tryd.prog Tryd.f4 Rows.rationalReducedRow.domain false Rows.rationalReducedRow.laid) (((OpenSpec.ofChange Rows.rationalReducedSpec).at F).post enc Tryd.prog Tryd.f4 false true false false) := by
  obtain ⟨places, hx⟩ := reads os enc
  refine returnsInHanded_of_row (C := Tryd.checked) (s := OpenSpec.ofChange Rows.rationalReducedSpec) own started (by kernel_rfl) Tryd.func4
    (witness_row_atRef (enc := enc) (C := Tryd.checked) false (laidWorld os) #[.int .i64 0, .int .i64 0, .int .i64 0] rfl (by kernel_rfl) (by kernel_rfl) (by kernel_rfl)
      (OpenSpec.preRow_of_cond 8 hx (by kernel_rfl) (fun k hk => by cases hk) (by kernel_rfl) (laidWorld_met os _))) ?_
  intro W base args ds gs before hval hW _ _ _ hL hsh _
  exact contract H enc W base args ds gs before hval hW hL hsh

theorem said : Rows.RationalReducedSaid :=
  OpenClaim.holds_of_cond 4 Tryd.f4 rfl rfl rfl rfl rfl rfl rfl ⟨rfl, rfl, rfl, rfl, rfl⟩ rfl rfl rfl rfl rfl (by kernel_rfl) Tryd.func4 (by kernel_rfl)
    (of_decide_eq_true (by kernel_rfl)) (by unfold Func.isWrapper; first | (rw [if_pos (by decide +kernel)]; kernel_rfl) | (rw [if_neg (by decide +kernel)]; exact ⟨rfl, rfl⟩))
    (fun os started H enc _ F => by rw [OpenClaim.pre_eq_preRow]; exact lifted os started H enc F)

theorem plain (f : FuncId) (fn : Func) (hf : Tryd.pinned.checked.prog.funcNamed "barcarole/barcarolelaw01.RationalReduced" = some f) (hfn : Tryd.pinned.checked.prog.funcs[f]? = some fn) :
    true = Tryd.pinned.checked.prog.looks [] ∧ ∀ (j : Nat) t, fn.params[j]? = some t → Tryd.pinned.checked.prog.wantsStandIn t = false := by
  obtain rfl : f = 4 := Option.some.inj ((show Tryd.prog.funcNamed "barcarole/barcarolelaw01.RationalReduced" = some 4 by kernel_rfl).symm.trans hf) |>.symm
  obtain rfl : fn = Tryd.f4 := (Option.some.inj (Tryd.func4.symm.trans hfn)).symm
  refine ⟨by kernel_rfl, fun j t ht => ?_⟩
  rw [Tryd.params4] at ht
  obtain rfl : t = 3 := by simpa using Array.mem_of_getElem? ht
  exact (show Tryd.prog.wantsStandIn 3 = false by kernel_rfl)

/-- The statement. -/
theorem card : Rows.RationalReducedCardSaid :=
  Claim7.holds_tied_plain_at .later [] _ _ _ _ said (fun _ h => by cases h) (by kernel_rfl) (fun _ h => by cases h) rationalReduced_row_tie rfl ⟨rfl, rfl⟩ (by kernel_rfl) rfl plain (by kernel_rfl)
end Go.Proofs.YthggfhcmgajjhaaDoor.rationalReduced
