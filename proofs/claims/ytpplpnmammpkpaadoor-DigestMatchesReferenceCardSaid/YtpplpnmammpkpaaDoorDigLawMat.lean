/-
  P5.1: all functions return what the reference returns.
-/
import Derived.Test.YtpplpnmammpkpaaDoorDigRE
import Derived.Test.YtpplpnmammpkpaaDoorDigX
import Derived.Test.YtpplpnmammpkpaaDoorCards
import Derived.Test.YtpplpnmammpkpaaDoorTie
import Derived.Deep.DeepCutAuto
namespace Go.Proofs.YtpplpnmammpkpaaDoor.digestMatches
open Go.RowKit Go.Sort
open Go.RowKit (Below)
set_option linter.unusedVariables false
set_option linter.unusedSimpArgs false

theorem rsum_is (A : Option Addr) (C : Nat) (xs : List Int) (v : Int) (hv : dig xs = v) (w : World) (hl : xs.length ≤ 9223372036854775807) (hs : Sk .u8 w A xs) :
    Calls Tryd.prog 12 #[.slice A xs.length C] w fun e w' => e = .returned (.int .u64 v) ∧ w = w' := by subst hv; exact rsum_any A C xs w hl hs
theorem rints_is (A : Option Addr) (C : Nat) (xs : List Int) (v : Int) (hv : dig (txs xs) = v) (w : World) (hl : xs.length ≤ 1000) (hi : ∀ x ∈ xs, I64 x) (h : Sk .i64 w A xs) :
    Calls Tryd.prog 14 #[.slice A xs.length C] w fun e w' => e = .returned (.int .u64 v) ∧ Below w.heap.size w w' := by subst hv; exact rints_any A C xs w hl hi h
theorem rroot_is (A : Option Addr) (C : Nat) (xs : List Int) (v E : Int) (hv : rtV xs = v) (hE : lvE xs.length = E) (w : World) (hl : xs.length ≤ 9223372036854775807) (hu : ∀ x ∈ xs, U64 x) (h : Sk .u64 w A xs) :
    Calls Tryd.prog 16 #[.slice A xs.length C] w fun e w' => e = .returned (.tuple #[.int .u64 v, .int .i64 E]) ∧ Below w.heap.size w w' := by subst hv hE; exact rroot_any A C xs w hl hu h
theorem rpath_is (A : Option Addr) (C : Nat) (xs : List Int) (i : Int) (zs : List Int) (E : Int) (hz : ptV xs i = zs) (hE : ptE xs.length i = E) (w : World) (hl : xs.length ≤ 9223372036854775807) (hu : ∀ x ∈ xs, U64 x) (h : Sk .u64 w A xs) :
    Calls Tryd.prog 18 #[.slice A xs.length C, .int .i64 i] w (Gk .u64 w zs E) := by subst hz hE; exact rpath_any A C xs i w hl hu h
theorem ptV_ok (xs : List Int) (i : Int) : (ptV xs i).length ≤ 10 ∧ ∀ x ∈ ptV xs i, U64 x := by
  unfold ptV
  split
  · rename_i h
    obtain ⟨h1, h2, h3, h4⟩ := ptE_ok.1 h
    exact ⟨pathL_len 10 _ _ (by simp; omega), pathL_u (xs.map leafN).length _ _ (Nat.le_refl _) (leaves_u xs)⟩
  · exact ⟨by simp, by simp⟩
set_option maxRecDepth 100000 in
set_option maxHeartbeats 4000000 in
theorem law_any (bA : Option Addr) (bC : Nat) (b : List Int) (jb : ∀ x ∈ b, U8 x) (kb : b.length ≤ bC ∧ bC ≤ 9223372036854775807) (lA : Option Addr) (lC : Nat) (l : List Int) (jl : ∀ x ∈ l, I64 x) (kl : l.length ≤ lC ∧ lC ≤ 9223372036854775807) (qA : Option Addr) (qC : Nat) (q : List Int) (jq : ∀ x ∈ q, U64 x) (kq : q.length ≤ qC ∧ qC ≤ 9223372036854775807) (x : Int) (ix : I64 x) (m : Int) (im : I64 m) (r : Int) (ir : U64 r) (v : Int) (iv : U64 v) (pA : Option Addr) (pC : Nat) (p : List Int) (jp : ∀ x ∈ p, U64 x) (kp : p.length ≤ pC ∧ pC ≤ 9223372036854775807) (w : World) (hs : St w) (sb : Sk .u8 w bA b) (sl : Sk .i64 w lA l) (sq : Sk .u64 w qA q) (sp : Sk .u64 w pA p) :
    Calls Tryd.prog 3 #[.slice bA b.length bC, .slice lA l.length lC, .slice qA q.length qC, .int .i64 x, .int .i64 m, .int .u64 r, .int .u64 v, .slice pA p.length pC] w fun e w' => e = .returned (.bool true) ∧ Below w.heap.size w w' := by
  have HS := Lib.hid hs
  clear hs
  have Hb := Lib.hid sb
  clear sb
  have Jb := Lib.hid jb
  clear jb
  have Kb := Lib.hid kb
  clear kb
  have Hl := Lib.hid sl
  clear sl
  have Jl := Lib.hid jl
  clear jl
  have Kl := Lib.hid kl
  clear kl
  have Hq := Lib.hid sq
  clear sq
  have Jq := Lib.hid jq
  clear jq
  have Kq := Lib.hid kq
  clear kq
  have Ix := Lib.hid ix
  clear ix
  have Im := Lib.hid im
  clear im
  have Ir := Lib.hid ir
  clear ir
  have Iv := Lib.hid iv
  clear iv
  have Hp := Lib.hid sp
  clear sp
  have Jp := Lib.hid jp
  clear jp
  have Kp := Lib.hid kp
  clear kp
  by_cases eb : 300 < b.length
  · have db : decide (300 < (b.length : Int)) = true := by rw [decide_eq_true_eq]; omega
    have HB := Lib.hid (Below.refl w.heap.size w)
    go_enter Tryd.func3, Tryd.ntmps3
    go_wp2_with fail
    refine (head_any _ HS.out).mono ?_
    rintro e w' ⟨rfl, hb⟩
    replace HB := Lib.hid (on_below HB.out hb)
    replace HS := Lib.hid (HS.out.on hb)
    replace Hb := Lib.hid (Hb.out.below hb)
    replace Hl := Lib.hid (Hl.out.below hb)
    replace Hq := Lib.hid (Hq.out.below hb)
    replace Hp := Lib.hid (Hp.out.below hb)
    clear hb
    go_wp2_with fail
    go_ret
    exact ⟨rfl, HB.out⟩
  have db : decide (300 < (b.length : Int)) = false := by rw [decide_eq_false_iff_not]; omega
  have fb : b.length ≤ 300 := by omega
  clear eb
  by_cases el : 300 < l.length
  · have dl : decide (300 < (l.length : Int)) = true := by rw [decide_eq_true_eq]; omega
    have HB := Lib.hid (Below.refl w.heap.size w)
    go_enter Tryd.func3, Tryd.ntmps3
    go_wp2_with fail
    refine (head_any _ HS.out).mono ?_
    rintro e w' ⟨rfl, hb⟩
    replace HB := Lib.hid (on_below HB.out hb)
    replace HS := Lib.hid (HS.out.on hb)
    replace Hb := Lib.hid (Hb.out.below hb)
    replace Hl := Lib.hid (Hl.out.below hb)
    replace Hq := Lib.hid (Hq.out.below hb)
    replace Hp := Lib.hid (Hp.out.below hb)
    clear hb
    go_wp2_with fail
    go_ret
    exact ⟨rfl, HB.out⟩
  have dl : decide (300 < (l.length : Int)) = false := by rw [decide_eq_false_iff_not]; omega
  have fl : l.length ≤ 300 := by omega
  clear el
  by_cases eq : 1100 < q.length
  · have dq : decide (1100 < (q.length : Int)) = true := by rw [decide_eq_true_eq]; omega
    have HB := Lib.hid (Below.refl w.heap.size w)
    go_enter Tryd.func3, Tryd.ntmps3
    go_wp2_with fail
    refine (head_any _ HS.out).mono ?_
    rintro e w' ⟨rfl, hb⟩
    replace HB := Lib.hid (on_below HB.out hb)
    replace HS := Lib.hid (HS.out.on hb)
    replace Hb := Lib.hid (Hb.out.below hb)
    replace Hl := Lib.hid (Hl.out.below hb)
    replace Hq := Lib.hid (Hq.out.below hb)
    replace Hp := Lib.hid (Hp.out.below hb)
    clear hb
    go_wp2_with fail
    go_ret
    exact ⟨rfl, HB.out⟩
  have dq : decide (1100 < (q.length : Int)) = false := by rw [decide_eq_false_iff_not]; omega
  have fq : q.length ≤ 1100 := by omega
  clear eq
  by_cases ep : 20 < p.length
  · have dp : decide (20 < (p.length : Int)) = true := by rw [decide_eq_true_eq]; omega
    have HB := Lib.hid (Below.refl w.heap.size w)
    go_enter Tryd.func3, Tryd.ntmps3
    go_wp2_with fail
    refine (head_any _ HS.out).mono ?_
    rintro e w' ⟨rfl, hb⟩
    replace HB := Lib.hid (on_below HB.out hb)
    replace HS := Lib.hid (HS.out.on hb)
    replace Hb := Lib.hid (Hb.out.below hb)
    replace Hl := Lib.hid (Hl.out.below hb)
    replace Hq := Lib.hid (Hq.out.below hb)
    replace Hp := Lib.hid (Hp.out.below hb)
    clear hb
    go_wp2_with fail
    go_ret
    exact ⟨rfl, HB.out⟩
  have dp : decide (20 < (p.length : Int)) = false := by rw [decide_eq_false_iff_not]; omega
  have fp : p.length ≤ 20 := by omega
  clear ep
  obtain ⟨D, hD⟩ : ∃ D, dig b = D := ⟨_, rfl⟩
  obtain ⟨T, hT⟩ : ∃ T, dig (txs l) = T := ⟨_, rfl⟩
  obtain ⟨RV, hRV⟩ : ∃ RV, rtV q = RV := ⟨_, rfl⟩
  obtain ⟨RE, hRE⟩ : ∃ RE, lvE q.length = RE := ⟨_, rfl⟩
  obtain ⟨hz1, hz2⟩ := ptV_ok q x
  obtain ⟨zs, hzs⟩ : ∃ zs, ptV q x = zs := ⟨_, rfl⟩
  rw [hzs] at hz1 hz2
  obtain ⟨PE, hPE⟩ : ∃ PE, ptE q.length x = PE := ⟨_, rfl⟩
  obtain ⟨c1, hc1⟩ : ∃ c1, chkB r v x m p = c1 := ⟨_, rfl⟩
  obtain ⟨c2, hc2⟩ : ∃ c2, chkB RV v x q.length zs = c2 := ⟨_, rfl⟩
  have HD := Lib.hid hD
  clear hD
  have HT := Lib.hid hT
  clear hT
  have HRV := Lib.hid hRV
  clear hRV
  have HRE := Lib.hid hRE
  clear hRE
  have HZS := Lib.hid hzs
  clear hzs
  have HPE := Lib.hid hPE
  clear hPE
  have HC1 := Lib.hid hc1
  clear hc1
  have HC2 := Lib.hid hc2
  clear hc2
  have HZU := Lib.hid hz2
  clear hz2
  have L1 := Lib.hid (le_max Kb.out)
  have L2 := Lib.hid (le_max Kl.out)
  have L3 := Lib.hid (le_max Kq.out)
  have L4 := Lib.hid (le_max Kp.out)
  have M2 := Lib.hid (show l.length ≤ 1000 by omega)
  have M4 := Lib.hid (show p.length ≤ 100000 by omega)
  have M5 := Lib.hid (show zs.length ≤ 100000 by omega)
  have L5 := Lib.hid (show zs.length ≤ 9223372036854775807 by omega)
  have HB := Lib.hid (Below.refl w.heap.size w)
  go_enter Tryd.func3, Tryd.ntmps3
  go_wp2_with fail
  refine (head_any _ HS.out).mono ?_
  rintro e w' ⟨rfl, hb⟩
  replace HB := Lib.hid (on_below HB.out hb)
  replace HS := Lib.hid (HS.out.on hb)
  replace Hb := Lib.hid (Hb.out.below hb)
  replace Hl := Lib.hid (Hl.out.below hb)
  replace Hq := Lib.hid (Hq.out.below hb)
  replace Hp := Lib.hid (Hp.out.below hb)
  clear hb
  go_wp2_with fail
  refine (sum_is bA bC b D HD.out _ L1.out Hb.out).mono ?_
  rintro e w' ⟨rfl, rfl⟩
  go_wp2_with fail
  refine (rsum_is bA bC b D HD.out _ L1.out Hb.out).mono ?_
  rintro e w' ⟨rfl, rfl⟩
  go_wp2_with fail
  refine (ints_is lA lC l T HT.out _ HS.out L2.out Jl.out Hl.out).mono ?_
  rintro e w' ⟨rfl, hb⟩
  replace HB := Lib.hid (on_below HB.out hb)
  replace HS := Lib.hid (HS.out.on hb)
  replace Hb := Lib.hid (Hb.out.below hb)
  replace Hl := Lib.hid (Hl.out.below hb)
  replace Hq := Lib.hid (Hq.out.below hb)
  replace Hp := Lib.hid (Hp.out.below hb)
  clear hb
  go_wp2_with fail
  refine (rints_is lA lC l T HT.out _ M2.out Jl.out Hl.out).mono ?_
  rintro e w' ⟨rfl, hb⟩
  replace HB := Lib.hid (on_below HB.out hb)
  replace HS := Lib.hid (HS.out.on hb)
  replace Hb := Lib.hid (Hb.out.below hb)
  replace Hl := Lib.hid (Hl.out.below hb)
  replace Hq := Lib.hid (Hq.out.below hb)
  replace Hp := Lib.hid (Hp.out.below hb)
  clear hb
  go_wp2_with fail
  refine (root_is qA qC q RV RE HRV.out HRE.out _ L3.out Jq.out Hq.out).mono ?_
  rintro e w' ⟨rfl, hb⟩
  replace HB := Lib.hid (on_below HB.out hb)
  replace HS := Lib.hid (HS.out.on hb)
  replace Hb := Lib.hid (Hb.out.below hb)
  replace Hl := Lib.hid (Hl.out.below hb)
  replace Hq := Lib.hid (Hq.out.below hb)
  replace Hp := Lib.hid (Hp.out.below hb)
  clear hb
  go_wp2_with fail
  refine (rroot_is qA qC q RV RE HRV.out HRE.out _ L3.out Jq.out Hq.out).mono ?_
  rintro e w' ⟨rfl, hb⟩
  replace HB := Lib.hid (on_below HB.out hb)
  replace HS := Lib.hid (HS.out.on hb)
  replace Hb := Lib.hid (Hb.out.below hb)
  replace Hl := Lib.hid (Hl.out.below hb)
  replace Hq := Lib.hid (Hq.out.below hb)
  replace Hp := Lib.hid (Hp.out.below hb)
  clear hb
  go_wp2_with fail
  refine (path_is qA qC q x zs PE HZS.out HPE.out _ L3.out Jq.out Hq.out).mono ?_
  rintro e w' ⟨Ay, Cy, rfl, qa, qb, ⟨hl, _⟩, hb⟩
  replace HB := Lib.hid (on_below HB.out hb)
  replace HS := Lib.hid (HS.out.on hb)
  replace Hb := Lib.hid (Hb.out.below hb)
  replace Hl := Lib.hid (Hl.out.below hb)
  replace Hq := Lib.hid (Hq.out.below hb)
  replace Hp := Lib.hid (Hp.out.below hb)
  have Hy := Lib.hid hl
  have Qy := Lib.hid (And.intro qa qb)
  clear hb hl qa qb
  go_wp2_with fail
  refine (rpath_is qA qC q x zs PE HZS.out HPE.out _ L3.out Jq.out Hq.out).mono ?_
  rintro e w' ⟨Az, Cz, rfl, qa, qb, ⟨hl, _⟩, hb⟩
  replace HB := Lib.hid (on_below HB.out hb)
  replace HS := Lib.hid (HS.out.on hb)
  replace Hb := Lib.hid (Hb.out.below hb)
  replace Hl := Lib.hid (Hl.out.below hb)
  replace Hq := Lib.hid (Hq.out.below hb)
  replace Hp := Lib.hid (Hp.out.below hb)
  replace Hy := Lib.hid (Hy.out.below hb)
  have Hz := Lib.hid hl
  have Qz := Lib.hid (And.intro qa qb)
  clear hb hl qa qb
  go_wp2_with fail
  refine (same_any Ay Az Cy Cz zs zs _ true (by simp) L5.out L5.out Hy.out Hz.out).mono ?_
  rintro e w' ⟨rfl, hb⟩
  replace HB := Lib.hid (on_below HB.out hb)
  replace HS := Lib.hid (HS.out.on hb)
  replace Hb := Lib.hid (Hb.out.below hb)
  replace Hl := Lib.hid (Hl.out.below hb)
  replace Hq := Lib.hid (Hq.out.below hb)
  replace Hp := Lib.hid (Hp.out.below hb)
  replace Hy := Lib.hid (Hy.out.below hb)
  replace Hz := Lib.hid (Hz.out.below hb)
  clear hb
  go_wp2_with fail
  refine (check_any r v x m pA pC p _ c1 HC1.out Iv.out L4.out Kp.out.1 Jp.out Hp.out).mono ?_
  rintro e w' ⟨rfl, hb⟩
  replace HB := Lib.hid (on_below HB.out hb)
  replace HS := Lib.hid (HS.out.on hb)
  replace Hb := Lib.hid (Hb.out.below hb)
  replace Hl := Lib.hid (Hl.out.below hb)
  replace Hq := Lib.hid (Hq.out.below hb)
  replace Hp := Lib.hid (Hp.out.below hb)
  replace Hy := Lib.hid (Hy.out.below hb)
  replace Hz := Lib.hid (Hz.out.below hb)
  clear hb
  go_wp2_with fail
  refine (rcheck_any r v x m pA pC p _ c1 HC1.out Iv.out M4.out Jp.out Hp.out).mono ?_
  rintro e w' ⟨rfl, hb⟩
  replace HB := Lib.hid (on_below HB.out hb)
  replace HS := Lib.hid (HS.out.on hb)
  replace Hb := Lib.hid (Hb.out.below hb)
  replace Hl := Lib.hid (Hl.out.below hb)
  replace Hq := Lib.hid (Hq.out.below hb)
  replace Hp := Lib.hid (Hp.out.below hb)
  replace Hy := Lib.hid (Hy.out.below hb)
  replace Hz := Lib.hid (Hz.out.below hb)
  clear hb
  go_wp2_with fail
  refine (check_any RV v x q.length Az Cz zs _ c2 HC2.out Iv.out L5.out Qz.out.1 HZU.out Hz.out).mono ?_
  rintro e w' ⟨rfl, hb⟩
  replace HB := Lib.hid (on_below HB.out hb)
  replace HS := Lib.hid (HS.out.on hb)
  replace Hb := Lib.hid (Hb.out.below hb)
  replace Hl := Lib.hid (Hl.out.below hb)
  replace Hq := Lib.hid (Hq.out.below hb)
  replace Hp := Lib.hid (Hp.out.below hb)
  replace Hy := Lib.hid (Hy.out.below hb)
  replace Hz := Lib.hid (Hz.out.below hb)
  clear hb
  go_wp2_with fail
  refine (rcheck_any RV v x q.length Az Cz zs _ c2 HC2.out Iv.out M5.out HZU.out Hz.out).mono ?_
  rintro e w' ⟨rfl, hb⟩
  replace HB := Lib.hid (on_below HB.out hb)
  replace HS := Lib.hid (HS.out.on hb)
  replace Hb := Lib.hid (Hb.out.below hb)
  replace Hl := Lib.hid (Hl.out.below hb)
  replace Hq := Lib.hid (Hq.out.below hb)
  replace Hp := Lib.hid (Hp.out.below hb)
  replace Hy := Lib.hid (Hy.out.below hb)
  replace Hz := Lib.hid (Hz.out.below hb)
  clear hb
  go_wp2_with fail
  go_ret
  exact ⟨rfl, HB.out⟩
/-! ### The row and the card -/
open Go.ChangeShapes Go.WideShapes Go.ChangeAt Go.Joins

set_option maxRecDepth 100000 in
theorem contract (H : Type) (enc : TypeId × Value → H) (W : World) (base : Nat) (args : Array Value) (ds gs : List (DataW H)) (before : List MemPlace)
    (hval : ∀ (j : Nat) t v, Tryd.f3.params[j]? = some t → args[j]? = some v → Value.okWide Tryd.prog W .any base t v)
    (hW : DataW.Whole enc Tryd.prog Tryd.f3.params.toList Rows.digestMatchesReferenceSpec.vars false W args.toList ds gs before) (hL : laidMetH Tryd.prog laid3 W) :
    Calls Tryd.prog 3 args W fun e W' => ∃ v, e = .returned v ∧ Rows.digestMatchesReferenceSpec.post enc Tryd.prog Tryd.f3 false true false false W args v W' := by
  have hW' := hW
  have hold : ∀ q ∈ before, decide (q.block < W.heap.size) = true := fun q hq => by simpa using hW.lt q hq
  obtain ⟨p, q, hA0, hV, rfl, hfz, hnd⟩ := hW
  have hA : DataW.TrodAll enc Tryd.prog W 0 (fun _ => true) true Tryd.f3.params.toList args.toList ds p := hA0
  rw [Tryd.params3] at hA hval
  obtain ⟨v0, vs0, d0, ds0, p0, q0, hargs, rfl, rfl, h0, r0⟩ := trodAll_cons hA
  obtain ⟨v1, vs1, d1, ds1, p1, q1, rfl, rfl, rfl, h1, r1⟩ := trodAll_cons r0
  obtain ⟨v2, vs2, d2, ds2, p2, q2, rfl, rfl, rfl, h2, r2⟩ := trodAll_cons r1
  obtain ⟨v3, vs3, d3, ds3, p3, q3, rfl, rfl, rfl, h3, r3⟩ := trodAll_cons r2
  obtain ⟨v4, vs4, d4, ds4, p4, q4, rfl, rfl, rfl, h4, r4⟩ := trodAll_cons r3
  obtain ⟨v5, vs5, d5, ds5, p5, q5, rfl, rfl, rfl, h5, r5⟩ := trodAll_cons r4
  obtain ⟨v6, vs6, d6, ds6, p6, q6, rfl, rfl, rfl, h6, r6⟩ := trodAll_cons r5
  obtain ⟨v7, vs7, d7, ds7, p7, q7, rfl, rfl, rfl, h7, r7⟩ := trodAll_cons r6
  obtain ⟨rfl, rfl, rfl⟩ := trodAll_nil r7
  obtain rfl : args = #[v0, v1, v2, v3, v4, v5, v6, v7] := Array.toList_inj.1 hargs
  obtain ⟨rfl, rfl⟩ := trodVars_none hV
  obtain ⟨bA, bC, b, rfl, sb, wb, kb, shutb⟩ := open_nums Tryd.underlying22 Tryd.underlying5 cellsU8 (hval 0 22 v0 rfl rfl) h0
  obtain ⟨lA, lC, l, rfl, sl, wl, kl, shutl⟩ := open_nums Tryd.underlying23 Tryd.underlying3 cellsInt (hval 1 23 v1 rfl rfl) h1
  obtain ⟨qA, qC, q, rfl, sq, wq, kq, shutq⟩ := open_nums Tryd.underlying24 Tryd.underlying25 cellsU64 (hval 2 24 v2 rfl rfl) h2
  obtain ⟨x, rfl, rfl, rfl, wx⟩ := open_int Tryd.underlying3 (hval 3 3 v3 rfl rfl) h3
  obtain ⟨m, rfl, rfl, rfl, wm⟩ := open_int Tryd.underlying3 (hval 4 3 v4 rfl rfl) h4
  obtain ⟨r, rfl, rfl, rfl, wr⟩ := open_int Tryd.underlying25 (hval 5 25 v5 rfl rfl) h5
  obtain ⟨v, rfl, rfl, rfl, wv⟩ := open_int Tryd.underlying25 (hval 6 25 v6 rfl rfl) h6
  obtain ⟨pA, pC, p, rfl, sp, wp, kp, shutp⟩ := open_nums Tryd.underlying24 Tryd.underlying25 cellsU64 (hval 7 24 v7 rfl rfl) h7
  clear hA0
  refine (law_any bA bC b (fun x hx => wf_u8 (wb x hx)) kb lA lC l (fun x hx => wf_i (wl x hx)) kl qA qC q (fun x hx => wf_u64 (wq x hx)) kq x (wf_i wx) m (wf_i wm) r (wf_u64 wr) v (wf_u64 wv) pA pC p (fun x hx => wf_u64 (wp x hx)) kp W (st_of hL) sb sl sq sp).mono fun e W' ⟨he, bel⟩ => ?_
  subst he
  exact ⟨_, rfl, _, _, _, [], _, [], hW', trodAll_mk1 (shut_bool Tryd.underlying4 _), (trodAll_cons_mk (shutb W' (fun b => decide (b < W.heap.size)) bel (fun q hq => hold q (by simp [hq]))) (trodAll_cons_mk (shutl W' (fun b => decide (b < W.heap.size)) bel (fun q hq => hold q (by simp [hq]))) (trodAll_cons_mk (shutq W' (fun b => decide (b < W.heap.size)) bel (fun q hq => hold q (by simp [hq]))) (trodAll_cons_mk (shut_int Tryd.underlying3 wx) (trodAll_cons_mk (shut_int Tryd.underlying3 wm) (trodAll_cons_mk (shut_int Tryd.underlying25 wr) (trodAll_cons_mk (shut_int Tryd.underlying25 wv) (trodAll_cons_mk (shutp W' (fun b => decide (b < W.heap.size)) bel (fun q hq => hold q (by simp [hq]))) trodAll_mk0)))))))), rfl, bel.frame _, fun h => by cases h⟩

theorem reads (os : Os) {H : Type} (enc : TypeId × Value → H) : ∃ places, DataW.whole enc Tryd.prog ((laidWorld os).forCall (fun _ _ => 0) ⟨#[], #[.slice none 0 0, .slice none 0 0, .slice none 0 0, .int .i64 0, .int .i64 0, .int .u64 0, .int .u64 0, .slice none 0 0], []⟩).memory Tryd.f3.params.toList Rows.digestMatchesReferenceSpec.vars false (#[.slice none 0 0, .slice none 0 0, .slice none 0 0, .int .i64 0, .int .i64 0, .int .u64 0, .int .u64 0, .slice none 0 0] : Array Value).toList 8 = some ([.nil, .nil, .nil, .lit (.int .i64 0), .lit (.int .i64 0), .lit (.int .u64 0), .lit (.int .u64 0), .nil], [], places) :=
  ⟨[], by kernel_rfl⟩

set_option maxRecDepth 100000 in
theorem lifted (os : Os) (started : os.Started) (H : Type) (enc : TypeId × Value → H) (F : Stop.Interp) :
    ReturnsInHanded {} Tryd.checked os 3 .any ((OpenSpec.ofChange Rows.digestMatchesReferenceSpec).preRow enc Tryd.prog Tryd.f3 Rows.digestMatchesReferenceRow.domain false Rows.digestMatchesReferenceRow.laid) (((OpenSpec.ofChange Rows.digestMatchesReferenceSpec).at F).post enc Tryd.prog Tryd.f3 false true false false) := by
  obtain ⟨places, hx⟩ := reads os enc
  refine returnsInHanded_of_row (C := Tryd.checked) (s := OpenSpec.ofChange Rows.digestMatchesReferenceSpec) own started (by kernel_rfl) Tryd.func3
    (witness_row_atRef (enc := enc) (C := Tryd.checked) false (laidWorld os) #[.slice none 0 0, .slice none 0 0, .slice none 0 0, .int .i64 0, .int .i64 0, .int .u64 0, .int .u64 0, .slice none 0 0] rfl (by kernel_rfl) (by kernel_rfl) (by kernel_rfl)
      (OpenSpec.preRow_of_cond 8 hx (by kernel_rfl) (fun k hk => by cases hk) (by kernel_rfl) (laidWorld_met3 os _))) ?_
  intro W base args ds gs before hval hW _ hcond _ hL hsh _
  exact contract H enc W base args ds gs before hval hW hL

theorem said : Rows.DigestMatchesReferenceSaid :=
  OpenClaim.holds_of_cond 3 Tryd.f3 rfl rfl rfl rfl rfl rfl rfl ⟨rfl, rfl, rfl, rfl, rfl⟩ rfl rfl rfl rfl rfl (by kernel_rfl) Tryd.func3 (by kernel_rfl)
    (of_decide_eq_true (by kernel_rfl)) (by unfold Func.isWrapper; first | (rw [if_pos (by decide +kernel)]; kernel_rfl) | (rw [if_neg (by decide +kernel)]; exact ⟨rfl, rfl⟩))
    (fun os started H enc _ F => by rw [OpenClaim.pre_eq_preRow]; exact lifted os started H enc F)

theorem plain (f : FuncId) (fn : Func) (hf : Tryd.pinned.checked.prog.funcNamed "barcarole/barcarolelaw05.DigestMatchesReference" = some f) (hfn : Tryd.pinned.checked.prog.funcs[f]? = some fn) :
    false = Tryd.pinned.checked.prog.looks [] ∧ ∀ (j : Nat) t, fn.params[j]? = some t → Tryd.pinned.checked.prog.wantsStandIn t = false := by
  obtain rfl : f = 3 := Option.some.inj ((show Tryd.prog.funcNamed "barcarole/barcarolelaw05.DigestMatchesReference" = some 3 by kernel_rfl).symm.trans hf) |>.symm
  obtain rfl : fn = Tryd.f3 := (Option.some.inj (Tryd.func3.symm.trans hfn)).symm
  refine ⟨by kernel_rfl, fun j t ht => ?_⟩
  rw [Tryd.params3] at ht
  have ht' : t = 23 ∨ t = 24 ∨ t = 22 ∨ t = 3 ∨ t = 25 := by
    have := Array.mem_of_getElem? ht
    simp at this
    first | omega | (rcases this with h | h | h | h | h | h | h | h <;> simp [h]) | (rcases this with h | h | h | h | h | h | h <;> simp [h]) | (rcases this with h | h | h | h | h | h <;> simp [h]) | (rcases this with h | h | h | h | h <;> simp [h]) | (rcases this with h | h | h | h <;> simp [h]) | (rcases this with h | h | h <;> simp [h]) | (rcases this with h | h <;> simp [h])
  rcases ht' with rfl | rfl | rfl | rfl | rfl
  · exact (show Tryd.prog.wantsStandIn 23 = false by kernel_rfl)
  · exact (show Tryd.prog.wantsStandIn 24 = false by kernel_rfl)
  · exact (show Tryd.prog.wantsStandIn 22 = false by kernel_rfl)
  · exact (show Tryd.prog.wantsStandIn 3 = false by kernel_rfl)
  · exact (show Tryd.prog.wantsStandIn 25 = false by kernel_rfl)

/-- The statement. -/
theorem card : Rows.DigestMatchesReferenceCardSaid :=
  Claim7.holds_tied_plain_at .later [] _ _ _ _ said (fun _ h => by cases h) (by kernel_rfl) (fun _ h => by cases h) digestMatchesReference_row_tie rfl ⟨rfl, rfl⟩ (by kernel_rfl) rfl plain (by kernel_rfl)
end Go.Proofs.YtpplpnmammpkpaaDoor.digestMatches
