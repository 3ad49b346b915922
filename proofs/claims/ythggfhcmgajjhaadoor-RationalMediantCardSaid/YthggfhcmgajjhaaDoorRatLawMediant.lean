/-
  RationalMediant: the mediant of two numbers lies strictly between them, and a number strictly between two neighbours has a denominator of at least the sum of theirs: for any three pairs of ints.
  Conditions: the package variables of the library that the row lists hold what the program's text lays.
-/
import Derived.Test.YthggfhcmgajjhaaDoorRatY
import Derived.Test.YthggfhcmgajjhaaDoorCards
import Derived.Test.YthggfhcmgajjhaaDoorTie
import Derived.Deep.DeepCutAuto
import Derived.Test.YthggfhcmgajjhaaDoorRatZ
namespace Go.Proofs.YthggfhcmgajjhaaDoor.rationalMediant
open Go.RowKit Go.Sort
open Go.RowKit (Below)
set_option linter.unusedVariables false

/-- What the walk needs of the results. -/
structure Res (aN aD bN bD cN cD x mN mD mE y z : Int) : Prop where
  c1 : ∀ W, Calls Tryd.prog 24 #[.agg #[.int .i64 aN, .int .i64 aD], .agg #[.int .i64 bN, .int .i64 bD]] W fun e w' => e = .returned (.tuple #[.int .i64 x, .int .i64 0]) ∧ Below W.heap.size W w'
  m : ∀ W, Calls Tryd.prog 14 #[.int .i64 (aN + bN), .int .i64 (aD + bD)] W fun e w' => e = .returned (.tuple #[.agg #[.int .i64 mN, .int .i64 mD], .int .i64 mE]) ∧ Below W.heap.size W w'
  m2 : mE = 0 ∨ mE = 3
  ca : x = -1 → mE = 0 → ∀ W, Calls Tryd.prog 24 #[.agg #[.int .i64 aN, .int .i64 aD], .agg #[.int .i64 mN, .int .i64 mD]] W fun e w' => e = .returned (.tuple #[.int .i64 (-1), .int .i64 0]) ∧ Below W.heap.size W w'
  cb : x = -1 → mE = 0 → ∀ W, Calls Tryd.prog 24 #[.agg #[.int .i64 mN, .int .i64 mD], .agg #[.int .i64 bN, .int .i64 bD]] W fun e w' => e = .returned (.tuple #[.int .i64 (-1), .int .i64 0]) ∧ Below W.heap.size W w'
  cy : ∀ W, Calls Tryd.prog 24 #[.agg #[.int .i64 aN, .int .i64 aD], .agg #[.int .i64 cN, .int .i64 cD]] W fun e w' => e = .returned (.tuple #[.int .i64 y, .int .i64 0]) ∧ Below W.heap.size W w'
  cz : ∀ W, Calls Tryd.prog 24 #[.agg #[.int .i64 cN, .int .i64 cD], .agg #[.int .i64 bN, .int .i64 bD]] W fun e w' => e = .returned (.tuple #[.int .i64 z, .int .i64 0]) ∧ Below W.heap.size W w'
  nb : bN * aD - aN * bD = 1 → y = -1 → z = -1 → aD + bD ≤ cD

theorem res (aN aD bN bD cN cD : Int) (va : vld aN aD = true) (vb : vld bN bD = true) (vc : vld cN cD = true) :
    Res aN aD bN bD cN cD (sgn (aN * bD) (bN * aD)) (mkN (aN + bN) (aD + bD)) (mkD (aN + bN) (aD + bD)) (mkE (aN + bN) (aD + bD)) (sgn (aN * cD) (cN * aD)) (sgn (cN * bD) (bN * cD)) := by
  have ha := den_pos va
  have hb := den_pos vb
  have hc := den_pos vc
  obtain ⟨⟨a1, a2⟩, ⟨a3, a4⟩⟩ := vld_bd va
  obtain ⟨⟨b1, b2⟩, ⟨b3, b4⟩⟩ := vld_bd vb
  refine ⟨cmp_v va vb, fun W => make_any _ _ W ⟨by omega, by omega⟩ ⟨by omega, by omega⟩, mk_two _ (by omega), fun hx h W => ?_, fun hx h W => ?_, cmp_v va vc, cmp_v vc vb, fun h1 h2 h3 => ?_⟩
  · have v := mk_vld h
    have e := mk_val h
    have p := den_pos v
    have k := cmp_v va v W
    have hs : sgn (aN * mkD (aN + bN) (aD + bD)) (mkN (aN + bN) (aD + bD) * aD) = -1 := by
      rw [← hx]
      refine sgn_scale (P := aD + bD) (Q := mkD (aN + bN) (aD + bD)) (by omega) p ?_
      generalize mkN (aN + bN) (aD + bD) = mN at *
      generalize mkD (aN + bN) (aD + bD) = mD at *
      have i1 : (aN * mD - mN * aD) * (aD + bD) = aN * mD * (aD + bD) - mN * (aD + bD) * aD := by grind
      rw [i1, ← e]
      grind
    rwa [hs] at k
  · have v := mk_vld h
    have e := mk_val h
    have p := den_pos v
    have k := cmp_v v vb W
    have hs : sgn (mkN (aN + bN) (aD + bD) * bD) (bN * mkD (aN + bN) (aD + bD)) = -1 := by
      rw [← hx]
      refine sgn_scale (P := aD + bD) (Q := mkD (aN + bN) (aD + bD)) (by omega) p ?_
      generalize mkN (aN + bN) (aD + bD) = mN at *
      generalize mkD (aN + bN) (aD + bD) = mD at *
      have i1 : (mN * bD - bN * mD) * (aD + bD) = mN * (aD + bD) * bD - bN * mD * (aD + bD) := by grind
      rw [i1, ← e]
      grind
    rwa [hs] at k
  · have k1 : 1 ≤ cN * aD - aN * cD := by have := sgn_lt.1 h2; omega
    have k2 : 1 ≤ bN * cD - cN * bD := by have := sgn_lt.1 h3; omega
    have m1 : bD * 1 ≤ bD * (cN * aD - aN * cD) := Int.mul_le_mul_of_nonneg_left k1 (by omega)
    have m2 : aD * 1 ≤ aD * (bN * cD - cN * bD) := Int.mul_le_mul_of_nonneg_left k2 (by omega)
    have i1 : bD * (cN * aD - aN * cD) + aD * (bN * cD - cN * bD) = cD * (bN * aD - aN * bD) := by grind
    rw [h1] at i1
    omega

set_option maxRecDepth 100000 in
set_option maxHeartbeats 1000000 in
theorem inv1 (aN aD bN bD cN cD : Int) (iaN : I64 aN) (iaD : I64 aD) (ibN : I64 bN) (ibD : I64 bD) (icN : I64 cN) (icD : I64 cD) (w : World) (hs : St w)  (va : vld aN aD = false) :
    Calls Tryd.prog 10 #[.agg #[.int .i64 aN, .int .i64 aD], .agg #[.int .i64 bN, .int .i64 bD], .agg #[.int .i64 cN, .int .i64 cD]] w fun e w' => e = .returned (.bool true) ∧ Below w.heap.size w w' := by
  have HVa := Lib.hid va; clear va
  have HS0 := Lib.hid hs; clear hs
  obtain ⟨B0, pa, pb, pc⟩ := box3 w aN aD bN bD cN cD 23
  have HS := Lib.hid (HS0.out.below B0 HS0.out.sz)
  clear HS0
  go_enter Tryd.func10, Tryd.ntmps10
  go_wp2_with fail
  generalize (((w.alloc (.cells #[.int .i64 aN, .int .i64 aD] 23)).alloc (.cells #[.int .i64 bN, .int .i64 bD] 23)).alloc (.cells #[.int .i64 cN, .int .i64 cD] 23)) = w0 at *
  refine (head_any _ HS.out).mono ?_
  rintro e w1 ⟨rfl, hb⟩
  obtain ⟨B1, z1⟩ := on_same (Below.refl w0.heap.size w0) hb
  replace pa := pa.on hb
  replace pb := pb.on hb
  replace pc := pc.on hb
  clear hb z1
  have ⟨pa0, pa1⟩ := pa
  have pal := pa.lt
  have ⟨pb0, pb1⟩ := pb
  have pbl := pb.lt
  have ⟨pc0, pc1⟩ := pc
  have pcl := pc.lt
  go_wp2_with fail
  clear pa0 pa1 pal
  clear pb0 pb1 pbl
  clear pc0 pc1 pcl
  refine (valid_b aN aD false HVa.out _ iaN iaD).mono ?_
  rintro e w2 ⟨rfl, hb⟩
  obtain ⟨B2, z2⟩ := on_same B1 hb
  replace pa := pa.on hb
  replace pb := pb.on hb
  replace pc := pc.on hb
  clear hb z2
  have ⟨pa0, pa1⟩ := pa
  have pal := pa.lt
  have ⟨pb0, pb1⟩ := pb
  have pbl := pb.lt
  have ⟨pc0, pc1⟩ := pc
  have pcl := pc.lt
  go_wp2_with fail
  clear pa0 pa1 pal
  clear pb0 pb1 pbl
  clear pc0 pc1 pcl
  go_ret
  exact ⟨rfl, B0.trans (B2.mono B0.size)⟩

set_option maxRecDepth 100000 in
set_option maxHeartbeats 1000000 in
theorem inv2 (aN aD bN bD cN cD : Int) (iaN : I64 aN) (iaD : I64 aD) (ibN : I64 bN) (ibD : I64 bD) (icN : I64 cN) (icD : I64 cD) (w : World) (hs : St w) (va : vld aN aD = true) (vb : vld bN bD = false) :
    Calls Tryd.prog 10 #[.agg #[.int .i64 aN, .int .i64 aD], .agg #[.int .i64 bN, .int .i64 bD], .agg #[.int .i64 cN, .int .i64 cD]] w fun e w' => e = .returned (.bool true) ∧ Below w.heap.size w w' := by
  have HVa := Lib.hid va; clear va
  have HVb := Lib.hid vb; clear vb
  have HS0 := Lib.hid hs; clear hs
  obtain ⟨B0, pa, pb, pc⟩ := box3 w aN aD bN bD cN cD 23
  have HS := Lib.hid (HS0.out.below B0 HS0.out.sz)
  clear HS0
  go_enter Tryd.func10, Tryd.ntmps10
  go_wp2_with fail
  generalize (((w.alloc (.cells #[.int .i64 aN, .int .i64 aD] 23)).alloc (.cells #[.int .i64 bN, .int .i64 bD] 23)).alloc (.cells #[.int .i64 cN, .int .i64 cD] 23)) = w0 at *
  refine (head_any _ HS.out).mono ?_
  rintro e w1 ⟨rfl, hb⟩
  obtain ⟨B1, z1⟩ := on_same (Below.refl w0.heap.size w0) hb
  replace pa := pa.on hb
  replace pb := pb.on hb
  replace pc := pc.on hb
  clear hb z1
  have ⟨pa0, pa1⟩ := pa
  have pal := pa.lt
  have ⟨pb0, pb1⟩ := pb
  have pbl := pb.lt
  have ⟨pc0, pc1⟩ := pc
  have pcl := pc.lt
  go_wp2_with fail
  clear pa0 pa1 pal
  clear pb0 pb1 pbl
  clear pc0 pc1 pcl
  refine (valid_b aN aD true HVa.out _ iaN iaD).mono ?_
  rintro e w2 ⟨rfl, hb⟩
  obtain ⟨B2, z2⟩ := on_same B1 hb
  replace pa := pa.on hb
  replace pb := pb.on hb
  replace pc := pc.on hb
  clear hb z2
  have ⟨pa0, pa1⟩ := pa
  have pal := pa.lt
  have ⟨pb0, pb1⟩ := pb
  have pbl := pb.lt
  have ⟨pc0, pc1⟩ := pc
  have pcl := pc.lt
  go_wp2_with fail
  clear pa0 pa1 pal
  clear pb0 pb1 pbl
  clear pc0 pc1 pcl
  refine (valid_b bN bD false HVb.out _ ibN ibD).mono ?_
  rintro e w3 ⟨rfl, hb⟩
  obtain ⟨B3, z3⟩ := on_same B2 hb
  replace pa := pa.on hb
  replace pb := pb.on hb
  replace pc := pc.on hb
  clear hb z3
  have ⟨pa0, pa1⟩ := pa
  have pal := pa.lt
  have ⟨pb0, pb1⟩ := pb
  have pbl := pb.lt
  have ⟨pc0, pc1⟩ := pc
  have pcl := pc.lt
  go_wp2_with fail
  clear pa0 pa1 pal
  clear pb0 pb1 pbl
  clear pc0 pc1 pcl
  go_ret
  exact ⟨rfl, B0.trans (B3.mono B0.size)⟩

set_option maxRecDepth 100000 in
set_option maxHeartbeats 1000000 in
theorem inv3 (aN aD bN bD cN cD : Int) (iaN : I64 aN) (iaD : I64 aD) (ibN : I64 bN) (ibD : I64 bD) (icN : I64 cN) (icD : I64 cD) (w : World) (hs : St w) (va : vld aN aD = true) (vb : vld bN bD = true) (vc : vld cN cD = false) :
    Calls Tryd.prog 10 #[.agg #[.int .i64 aN, .int .i64 aD], .agg #[.int .i64 bN, .int .i64 bD], .agg #[.int .i64 cN, .int .i64 cD]] w fun e w' => e = .returned (.bool true) ∧ Below w.heap.size w w' := by
  have HVa := Lib.hid va; clear va
  have HVb := Lib.hid vb; clear vb
  have HVc := Lib.hid vc; clear vc
  have HS0 := Lib.hid hs; clear hs
  obtain ⟨B0, pa, pb, pc⟩ := box3 w aN aD bN bD cN cD 23
  have HS := Lib.hid (HS0.out.below B0 HS0.out.sz)
  clear HS0
  go_enter Tryd.func10, Tryd.ntmps10
  go_wp2_with fail
  generalize (((w.alloc (.cells #[.int .i64 aN, .int .i64 aD] 23)).alloc (.cells #[.int .i64 bN, .int .i64 bD] 23)).alloc (.cells #[.int .i64 cN, .int .i64 cD] 23)) = w0 at *
  refine (head_any _ HS.out).mono ?_
  rintro e w1 ⟨rfl, hb⟩
  obtain ⟨B1, z1⟩ := on_same (Below.refl w0.heap.size w0) hb
  replace pa := pa.on hb
  replace pb := pb.on hb
  replace pc := pc.on hb
  clear hb z1
  have ⟨pa0, pa1⟩ := pa
  have pal := pa.lt
  have ⟨pb0, pb1⟩ := pb
  have pbl := pb.lt
  have ⟨pc0, pc1⟩ := pc
  have pcl := pc.lt
  go_wp2_with fail
  clear pa0 pa1 pal
  clear pb0 pb1 pbl
  clear pc0 pc1 pcl
  refine (valid_b aN aD true HVa.out _ iaN iaD).mono ?_
  rintro e w2 ⟨rfl, hb⟩
  obtain ⟨B2, z2⟩ := on_same B1 hb
  replace pa := pa.on hb
  replace pb := pb.on hb
  replace pc := pc.on hb
  clear hb z2
  have ⟨pa0, pa1⟩ := pa
  have pal := pa.lt
  have ⟨pb0, pb1⟩ := pb
  have pbl := pb.lt
  have ⟨pc0, pc1⟩ := pc
  have pcl := pc.lt
  go_wp2_with fail
  clear pa0 pa1 pal
  clear pb0 pb1 pbl
  clear pc0 pc1 pcl
  refine (valid_b bN bD true HVb.out _ ibN ibD).mono ?_
  rintro e w3 ⟨rfl, hb⟩
  obtain ⟨B3, z3⟩ := on_same B2 hb
  replace pa := pa.on hb
  replace pb := pb.on hb
  replace pc := pc.on hb
  clear hb z3
  have ⟨pa0, pa1⟩ := pa
  have pal := pa.lt
  have ⟨pb0, pb1⟩ := pb
  have pbl := pb.lt
  have ⟨pc0, pc1⟩ := pc
  have pcl := pc.lt
  go_wp2_with fail
  clear pa0 pa1 pal
  clear pb0 pb1 pbl
  clear pc0 pc1 pcl
  refine (valid_b cN cD false HVc.out _ icN icD).mono ?_
  rintro e w4 ⟨rfl, hb⟩
  obtain ⟨B4, z4⟩ := on_same B3 hb
  replace pa := pa.on hb
  replace pb := pb.on hb
  replace pc := pc.on hb
  clear hb z4
  have ⟨pa0, pa1⟩ := pa
  have pal := pa.lt
  have ⟨pb0, pb1⟩ := pb
  have pbl := pb.lt
  have ⟨pc0, pc1⟩ := pc
  have pcl := pc.lt
  go_wp2_with fail
  clear pa0 pa1 pal
  clear pb0 pb1 pbl
  clear pc0 pc1 pcl
  go_ret
  exact ⟨rfl, B0.trans (B4.mono B0.size)⟩

set_option maxRecDepth 100000 in
set_option maxHeartbeats 1000000 in
theorem ok_eq (aN aD bN bD cN cD : Int) (iaN : I64 aN) (iaD : I64 aD) (ibN : I64 bN) (ibD : I64 bD) (icN : I64 cN) (icD : I64 cD) (w : World) (hs : St w) (va : vld aN aD = true) (vb : vld bN bD = true) (vc : vld cN cD = true) (mN mD mE y z : Int) (r : Res aN aD bN bD cN cD (0) mN mD mE y z) :
    Calls Tryd.prog 10 #[.agg #[.int .i64 aN, .int .i64 aD], .agg #[.int .i64 bN, .int .i64 bD], .agg #[.int .i64 cN, .int .i64 cD]] w fun e w' => e = .returned (.bool true) ∧ Below w.heap.size w w' := by
  have HVa := Lib.hid va; clear va
  have HVb := Lib.hid vb; clear vb
  have HVc := Lib.hid vc; clear vc
  have HR := Lib.hid r; clear r
  have HS0 := Lib.hid hs; clear hs
  obtain ⟨B0, pa, pb, pc⟩ := box3 w aN aD bN bD cN cD 23
  have HS := Lib.hid (HS0.out.below B0 HS0.out.sz)
  clear HS0
  go_enter Tryd.func10, Tryd.ntmps10
  go_wp2_with fail
  generalize (((w.alloc (.cells #[.int .i64 aN, .int .i64 aD] 23)).alloc (.cells #[.int .i64 bN, .int .i64 bD] 23)).alloc (.cells #[.int .i64 cN, .int .i64 cD] 23)) = w0 at *
  refine (head_any _ HS.out).mono ?_
  rintro e w1 ⟨rfl, hb⟩
  obtain ⟨B1, z1⟩ := on_same (Below.refl w0.heap.size w0) hb
  replace pa := pa.on hb
  replace pb := pb.on hb
  replace pc := pc.on hb
  clear hb z1
  have ⟨pa0, pa1⟩ := pa
  have pal := pa.lt
  have ⟨pb0, pb1⟩ := pb
  have pbl := pb.lt
  have ⟨pc0, pc1⟩ := pc
  have pcl := pc.lt
  go_wp2_with fail
  clear pa0 pa1 pal
  clear pb0 pb1 pbl
  clear pc0 pc1 pcl
  refine (valid_b aN aD true HVa.out _ iaN iaD).mono ?_
  rintro e w2 ⟨rfl, hb⟩
  obtain ⟨B2, z2⟩ := on_same B1 hb
  replace pa := pa.on hb
  replace pb := pb.on hb
  replace pc := pc.on hb
  clear hb z2
  have ⟨pa0, pa1⟩ := pa
  have pal := pa.lt
  have ⟨pb0, pb1⟩ := pb
  have pbl := pb.lt
  have ⟨pc0, pc1⟩ := pc
  have pcl := pc.lt
  go_wp2_with fail
  clear pa0 pa1 pal
  clear pb0 pb1 pbl
  clear pc0 pc1 pcl
  refine (valid_b bN bD true HVb.out _ ibN ibD).mono ?_
  rintro e w3 ⟨rfl, hb⟩
  obtain ⟨B3, z3⟩ := on_same B2 hb
  replace pa := pa.on hb
  replace pb := pb.on hb
  replace pc := pc.on hb
  clear hb z3
  have ⟨pa0, pa1⟩ := pa
  have pal := pa.lt
  have ⟨pb0, pb1⟩ := pb
  have pbl := pb.lt
  have ⟨pc0, pc1⟩ := pc
  have pcl := pc.lt
  go_wp2_with fail
  clear pa0 pa1 pal
  clear pb0 pb1 pbl
  clear pc0 pc1 pcl
  refine (valid_b cN cD true HVc.out _ icN icD).mono ?_
  rintro e w4 ⟨rfl, hb⟩
  obtain ⟨B4, z4⟩ := on_same B3 hb
  replace pa := pa.on hb
  replace pb := pb.on hb
  replace pc := pc.on hb
  clear hb z4
  have ⟨pa0, pa1⟩ := pa
  have pal := pa.lt
  have ⟨pb0, pb1⟩ := pb
  have pbl := pb.lt
  have ⟨pc0, pc1⟩ := pc
  have pcl := pc.lt
  go_wp2_with fail
  clear pa0 pa1 pal
  clear pb0 pb1 pbl
  clear pc0 pc1 pcl
  refine (HR.out.c1 _).mono ?_
  rintro e w5 ⟨rfl, hb⟩
  obtain ⟨B5, z5⟩ := on_same B4 hb
  replace pa := pa.on hb
  replace pb := pb.on hb
  replace pc := pc.on hb
  clear hb z5
  have ⟨pa0, pa1⟩ := pa
  have pal := pa.lt
  have ⟨pb0, pb1⟩ := pb
  have pbl := pb.lt
  have ⟨pc0, pc1⟩ := pc
  have pcl := pc.lt
  go_wp2_with fail
  clear pa0 pa1 pal
  clear pb0 pb1 pbl
  clear pc0 pc1 pcl
  go_ret
  exact ⟨rfl, B0.trans (B5.mono B0.size)⟩

set_option maxRecDepth 100000 in
set_option maxHeartbeats 1000000 in
theorem ok_gt (aN aD bN bD cN cD : Int) (iaN : I64 aN) (iaD : I64 aD) (ibN : I64 bN) (ibD : I64 bD) (icN : I64 cN) (icD : I64 cD) (w : World) (hs : St w) (va : vld aN aD = true) (vb : vld bN bD = true) (vc : vld cN cD = true) (mN mD mE y z : Int) (r : Res aN aD bN bD cN cD (1) mN mD mE y z) :
    Calls Tryd.prog 10 #[.agg #[.int .i64 aN, .int .i64 aD], .agg #[.int .i64 bN, .int .i64 bD], .agg #[.int .i64 cN, .int .i64 cD]] w fun e w' => e = .returned (.bool true) ∧ Below w.heap.size w w' := by
  have HVa := Lib.hid va; clear va
  have HVb := Lib.hid vb; clear vb
  have HVc := Lib.hid vc; clear vc
  have HR := Lib.hid r; clear r
  have HS0 := Lib.hid hs; clear hs
  obtain ⟨B0, pa, pb, pc⟩ := box3 w aN aD bN bD cN cD 23
  have HS := Lib.hid (HS0.out.below B0 HS0.out.sz)
  clear HS0
  go_enter Tryd.func10, Tryd.ntmps10
  go_wp2_with fail
  generalize (((w.alloc (.cells #[.int .i64 aN, .int .i64 aD] 23)).alloc (.cells #[.int .i64 bN, .int .i64 bD] 23)).alloc (.cells #[.int .i64 cN, .int .i64 cD] 23)) = w0 at *
  refine (head_any _ HS.out).mono ?_
  rintro e w1 ⟨rfl, hb⟩
  obtain ⟨B1, z1⟩ := on_same (Below.refl w0.heap.size w0) hb
  replace pa := pa.on hb
  replace pb := pb.on hb
  replace pc := pc.on hb
  clear hb z1
  have ⟨pa0, pa1⟩ := pa
  have pal := pa.lt
  have ⟨pb0, pb1⟩ := pb
  have pbl := pb.lt
  have ⟨pc0, pc1⟩ := pc
  have pcl := pc.lt
  go_wp2_with fail
  clear pa0 pa1 pal
  clear pb0 pb1 pbl
  clear pc0 pc1 pcl
  refine (valid_b aN aD true HVa.out _ iaN iaD).mono ?_
  rintro e w2 ⟨rfl, hb⟩
  obtain ⟨B2, z2⟩ := on_same B1 hb
  replace pa := pa.on hb
  replace pb := pb.on hb
  replace pc := pc.on hb
  clear hb z2
  have ⟨pa0, pa1⟩ := pa
  have pal := pa.lt
  have ⟨pb0, pb1⟩ := pb
  have pbl := pb.lt
  have ⟨pc0, pc1⟩ := pc
  have pcl := pc.lt
  go_wp2_with fail
  clear pa0 pa1 pal
  clear pb0 pb1 pbl
  clear pc0 pc1 pcl
  refine (valid_b bN bD true HVb.out _ ibN ibD).mono ?_
  rintro e w3 ⟨rfl, hb⟩
  obtain ⟨B3, z3⟩ := on_same B2 hb
  replace pa := pa.on hb
  replace pb := pb.on hb
  replace pc := pc.on hb
  clear hb z3
  have ⟨pa0, pa1⟩ := pa
  have pal := pa.lt
  have ⟨pb0, pb1⟩ := pb
  have pbl := pb.lt
  have ⟨pc0, pc1⟩ := pc
  have pcl := pc.lt
  go_wp2_with fail
  clear pa0 pa1 pal
  clear pb0 pb1 pbl
  clear pc0 pc1 pcl
  refine (valid_b cN cD true HVc.out _ icN icD).mono ?_
  rintro e w4 ⟨rfl, hb⟩
  obtain ⟨B4, z4⟩ := on_same B3 hb
  replace pa := pa.on hb
  replace pb := pb.on hb
  replace pc := pc.on hb
  clear hb z4
  have ⟨pa0, pa1⟩ := pa
  have pal := pa.lt
  have ⟨pb0, pb1⟩ := pb
  have pbl := pb.lt
  have ⟨pc0, pc1⟩ := pc
  have pcl := pc.lt
  go_wp2_with fail
  clear pa0 pa1 pal
  clear pb0 pb1 pbl
  clear pc0 pc1 pcl
  refine (HR.out.c1 _).mono ?_
  rintro e w5 ⟨rfl, hb⟩
  obtain ⟨B5, z5⟩ := on_same B4 hb
  replace pa := pa.on hb
  replace pb := pb.on hb
  replace pc := pc.on hb
  clear hb z5
  have ⟨pa0, pa1⟩ := pa
  have pal := pa.lt
  have ⟨pb0, pb1⟩ := pb
  have pbl := pb.lt
  have ⟨pc0, pc1⟩ := pc
  have pcl := pc.lt
  go_wp2_with fail
  clear pa0 pa1 pal
  clear pb0 pb1 pbl
  clear pc0 pc1 pcl
  go_ret
  exact ⟨rfl, B0.trans (B5.mono B0.size)⟩

theorem sub_wrap' {x y z u : Int} (hx : Bd x) (hy : Bd y) (hz : Bd z) (hu : Bd u) : wrap64 (x * y - z * u) = x * y - z * u := by
  have h := mul_bd hx hy
  have h' := mul_bd hz hu
  exact IntWalk.wrap64_in _ ⟨by omega, by omega⟩

set_option maxRecDepth 100000 in
set_option maxHeartbeats 3000000 in
theorem ok_lt (aN aD bN bD cN cD : Int) (iaN : I64 aN) (iaD : I64 aD) (ibN : I64 bN) (ibD : I64 bD) (icN : I64 cN) (icD : I64 cD) (w : World) (hs : St w) (va : vld aN aD = true) (vb : vld bN bD = true) (vc : vld cN cD = true) (mN mD mE y z : Int) (r : Res aN aD bN bD cN cD (-1) mN mD mE y z) :
    Calls Tryd.prog 10 #[.agg #[.int .i64 aN, .int .i64 aD], .agg #[.int .i64 bN, .int .i64 bD], .agg #[.int .i64 cN, .int .i64 cD]] w fun e w' => e = .returned (.bool true) ∧ Below w.heap.size w w' := by
  obtain ⟨u1, u2, u3, u4⟩ := vld2 (op2 va vb)
  have q1 := u1.1
  have q2 := u1.2
  have q3 := u2.1
  have q4 := u2.2
  have q5 := u3.1
  have q6 := u3.2
  have q7 := u4.1
  have q8 := u4.2
  have e1 := mul_wrap u3 u2
  have e2 := mul_wrap u1 u4
  have e3 := sub_wrap' u3 u2 u1 u4
  have HVa := Lib.hid va; clear va
  have HVb := Lib.hid vb; clear vb
  have HVc := Lib.hid vc; clear vc
  have HR := Lib.hid r; clear r
  have HS0 := Lib.hid hs; clear hs
  obtain ⟨B0, pa, pb, pc⟩ := box3 w aN aD bN bD cN cD 23
  have HS := Lib.hid (HS0.out.below B0 HS0.out.sz)
  clear HS0
  go_enter Tryd.func10, Tryd.ntmps10
  go_wp2_with fail
  generalize (((w.alloc (.cells #[.int .i64 aN, .int .i64 aD] 23)).alloc (.cells #[.int .i64 bN, .int .i64 bD] 23)).alloc (.cells #[.int .i64 cN, .int .i64 cD] 23)) = w0 at *
  refine (head_any _ HS.out).mono ?_
  rintro e w1 ⟨rfl, hb⟩
  obtain ⟨B1, z1⟩ := on_same (Below.refl w0.heap.size w0) hb
  replace pa := pa.on hb
  replace pb := pb.on hb
  replace pc := pc.on hb
  clear hb z1
  have ⟨pa0, pa1⟩ := pa
  have pal := pa.lt
  have ⟨pb0, pb1⟩ := pb
  have pbl := pb.lt
  have ⟨pc0, pc1⟩ := pc
  have pcl := pc.lt
  go_wp2_with fail
  clear pa0 pa1 pal
  clear pb0 pb1 pbl
  clear pc0 pc1 pcl
  refine (valid_b aN aD true HVa.out _ iaN iaD).mono ?_
  rintro e w2 ⟨rfl, hb⟩
  obtain ⟨B2, z2⟩ := on_same B1 hb
  replace pa := pa.on hb
  replace pb := pb.on hb
  replace pc := pc.on hb
  clear hb z2
  have ⟨pa0, pa1⟩ := pa
  have pal := pa.lt
  have ⟨pb0, pb1⟩ := pb
  have pbl := pb.lt
  have ⟨pc0, pc1⟩ := pc
  have pcl := pc.lt
  go_wp2_with fail
  clear pa0 pa1 pal
  clear pb0 pb1 pbl
  clear pc0 pc1 pcl
  refine (valid_b bN bD true HVb.out _ ibN ibD).mono ?_
  rintro e w3 ⟨rfl, hb⟩
  obtain ⟨B3, z3⟩ := on_same B2 hb
  replace pa := pa.on hb
  replace pb := pb.on hb
  replace pc := pc.on hb
  clear hb z3
  have ⟨pa0, pa1⟩ := pa
  have pal := pa.lt
  have ⟨pb0, pb1⟩ := pb
  have pbl := pb.lt
  have ⟨pc0, pc1⟩ := pc
  have pcl := pc.lt
  go_wp2_with fail
  clear pa0 pa1 pal
  clear pb0 pb1 pbl
  clear pc0 pc1 pcl
  refine (valid_b cN cD true HVc.out _ icN icD).mono ?_
  rintro e w4 ⟨rfl, hb⟩
  obtain ⟨B4, z4⟩ := on_same B3 hb
  replace pa := pa.on hb
  replace pb := pb.on hb
  replace pc := pc.on hb
  clear hb z4
  have ⟨pa0, pa1⟩ := pa
  have pal := pa.lt
  have ⟨pb0, pb1⟩ := pb
  have pbl := pb.lt
  have ⟨pc0, pc1⟩ := pc
  have pcl := pc.lt
  go_wp2_with fail
  clear pa0 pa1 pal
  clear pb0 pb1 pbl
  clear pc0 pc1 pcl
  refine (HR.out.c1 _).mono ?_
  rintro e w5 ⟨rfl, hb⟩
  obtain ⟨B5, z5⟩ := on_same B4 hb
  replace pa := pa.on hb
  replace pb := pb.on hb
  replace pc := pc.on hb
  clear hb z5
  have ⟨pa0, pa1⟩ := pa
  have pal := pa.lt
  have ⟨pb0, pb1⟩ := pb
  have pbl := pb.lt
  have ⟨pc0, pc1⟩ := pc
  have pcl := pc.lt
  go_wp2_with fail
  clear pa0 pa1 pal
  clear pb0 pb1 pbl
  clear pc0 pc1 pcl
  refine (HR.out.m _).mono ?_
  rintro e w6 ⟨rfl, hb⟩
  obtain ⟨B6, z6⟩ := on_same B5 hb
  replace pa := pa.on hb
  replace pb := pb.on hb
  replace pc := pc.on hb
  clear hb z6
  rcases HR.out.m2 with h | h
  rotate_left
  · subst h
    by_cases hn : bN * aD - aN * bD = 1
    rotate_left
    · skip
      have e4 : (bN * aD - aN * bD != 1) = true := by simpa using hn
      clear hn
      have ⟨pa0, pa1⟩ := pa
      have pal := pa.lt
      have ⟨pb0, pb1⟩ := pb
      have pbl := pb.lt
      have ⟨pc0, pc1⟩ := pc
      have pcl := pc.lt
      go_wp2_with fail
      clear pa0 pa1 pal
      clear pb0 pb1 pbl
      clear pc0 pc1 pcl
      go_ret
      exact ⟨rfl, B0.trans ((B6.alloc B6.size _).mono B0.size)⟩
    have e4 : (bN * aD - aN * bD != 1) = false := by simp [hn]
    have HN := Lib.hid (HR.out.nb hn)
    clear hn
    have ⟨pa0, pa1⟩ := pa
    have pal := pa.lt
    have ⟨pb0, pb1⟩ := pb
    have pbl := pb.lt
    have ⟨pc0, pc1⟩ := pc
    have pcl := pc.lt
    go_wp2_with fail
    clear pa0 pa1 pal
    clear pb0 pb1 pbl
    clear pc0 pc1 pcl
    refine (HR.out.cy _).mono ?_
    rintro e w7 ⟨rfl, hb⟩
    obtain ⟨B7, z7⟩ := on_new B6 hb
    replace pa := pa.next hb
    replace pb := pb.next hb
    replace pc := pc.next hb
    clear hb z7
    have ⟨pa0, pa1⟩ := pa
    have pal := pa.lt
    have ⟨pb0, pb1⟩ := pb
    have pbl := pb.lt
    have ⟨pc0, pc1⟩ := pc
    have pcl := pc.lt
    go_wp2_with fail
    clear pa0 pa1 pal
    clear pb0 pb1 pbl
    clear pc0 pc1 pcl
    refine (HR.out.cz _).mono ?_
    rintro e w8 ⟨rfl, hb⟩
    obtain ⟨B8, z8⟩ := on_same B7 hb
    replace pa := pa.on hb
    replace pb := pb.on hb
    replace pc := pc.on hb
    clear hb z8
    by_cases hy : y = -1
    rotate_left
    · have k1 : (y != -1) = true := by simpa using hy
      clear hy
      have ⟨pa0, pa1⟩ := pa
      have pal := pa.lt
      have ⟨pb0, pb1⟩ := pb
      have pbl := pb.lt
      have ⟨pc0, pc1⟩ := pc
      have pcl := pc.lt
      go_wp2_with fail
      clear pa0 pa1 pal
      clear pb0 pb1 pbl
      clear pc0 pc1 pcl
      go_ret
      exact ⟨rfl, B0.trans (B8.mono B0.size)⟩
    by_cases hz : z = -1
    rotate_left
    · have k2 : (z != -1) = true := by simpa using hz
      subst hy
      clear hz
      have ⟨pa0, pa1⟩ := pa
      have pal := pa.lt
      have ⟨pb0, pb1⟩ := pb
      have pbl := pb.lt
      have ⟨pc0, pc1⟩ := pc
      have pcl := pc.lt
      go_wp2_with fail
      clear pa0 pa1 pal
      clear pb0 pb1 pbl
      clear pc0 pc1 pcl
      go_ret
      exact ⟨rfl, B0.trans (B8.mono B0.size)⟩
    have hle := HN.out hy hz
    subst hy
    subst hz
    have ⟨pa0, pa1⟩ := pa
    have pal := pa.lt
    have ⟨pb0, pb1⟩ := pb
    have pbl := pb.lt
    have ⟨pc0, pc1⟩ := pc
    have pcl := pc.lt
    go_wp2_with fail
    clear pa0 pa1 pal
    clear pb0 pb1 pbl
    clear pc0 pc1 pcl
    go_ret
    exact ⟨rfl, B0.trans (B8.mono B0.size)⟩
  have HCa := Lib.hid (HR.out.ca rfl h)
  have HCb := Lib.hid (HR.out.cb rfl h)
  subst h
  have ⟨pa0, pa1⟩ := pa
  have pal := pa.lt
  have ⟨pb0, pb1⟩ := pb
  have pbl := pb.lt
  have ⟨pc0, pc1⟩ := pc
  have pcl := pc.lt
  go_wp2_with fail
  clear pa0 pa1 pal
  clear pb0 pb1 pbl
  clear pc0 pc1 pcl
  refine (HCa.out _).mono ?_
  rintro e w7 ⟨rfl, hb⟩
  obtain ⟨B7, z7⟩ := on_new B6 hb
  replace pa := pa.next hb
  replace pb := pb.next hb
  replace pc := pc.next hb
  have pm := Pr.new hb
  clear hb z7
  have ⟨pa0, pa1⟩ := pa
  have pal := pa.lt
  have ⟨pb0, pb1⟩ := pb
  have pbl := pb.lt
  have ⟨pc0, pc1⟩ := pc
  have pcl := pc.lt
  have ⟨pm0, pm1⟩ := pm
  have pml := pm.lt
  go_wp2_with fail
  clear pa0 pa1 pal
  clear pb0 pb1 pbl
  clear pc0 pc1 pcl
  clear pm0 pm1 pml
  refine (HCb.out _).mono ?_
  rintro e w8 ⟨rfl, hb⟩
  obtain ⟨B8, z8⟩ := on_same B7 hb
  replace pa := pa.on hb
  replace pb := pb.on hb
  replace pc := pc.on hb
  replace pm := pm.on hb
  clear hb z8
  by_cases hn : bN * aD - aN * bD = 1
  rotate_left
  · skip
    have e4 : (bN * aD - aN * bD != 1) = true := by simpa using hn
    clear hn
    have ⟨pa0, pa1⟩ := pa
    have pal := pa.lt
    have ⟨pb0, pb1⟩ := pb
    have pbl := pb.lt
    have ⟨pc0, pc1⟩ := pc
    have pcl := pc.lt
    have ⟨pm0, pm1⟩ := pm
    have pml := pm.lt
    go_wp2_with fail
    clear pa0 pa1 pal
    clear pb0 pb1 pbl
    clear pc0 pc1 pcl
    clear pm0 pm1 pml
    go_ret
    exact ⟨rfl, B0.trans (B8.mono B0.size)⟩
  have e4 : (bN * aD - aN * bD != 1) = false := by simp [hn]
  have HN := Lib.hid (HR.out.nb hn)
  clear hn
  have ⟨pa0, pa1⟩ := pa
  have pal := pa.lt
  have ⟨pb0, pb1⟩ := pb
  have pbl := pb.lt
  have ⟨pc0, pc1⟩ := pc
  have pcl := pc.lt
  have ⟨pm0, pm1⟩ := pm
  have pml := pm.lt
  go_wp2_with fail
  clear pa0 pa1 pal
  clear pb0 pb1 pbl
  clear pc0 pc1 pcl
  clear pm0 pm1 pml
  refine (HR.out.cy _).mono ?_
  rintro e w9 ⟨rfl, hb⟩
  obtain ⟨B9, z9⟩ := on_same B8 hb
  replace pa := pa.on hb
  replace pb := pb.on hb
  replace pc := pc.on hb
  replace pm := pm.on hb
  clear hb z9
  have ⟨pa0, pa1⟩ := pa
  have pal := pa.lt
  have ⟨pb0, pb1⟩ := pb
  have pbl := pb.lt
  have ⟨pc0, pc1⟩ := pc
  have pcl := pc.lt
  have ⟨pm0, pm1⟩ := pm
  have pml := pm.lt
  go_wp2_with fail
  clear pa0 pa1 pal
  clear pb0 pb1 pbl
  clear pc0 pc1 pcl
  clear pm0 pm1 pml
  refine (HR.out.cz _).mono ?_
  rintro e w10 ⟨rfl, hb⟩
  obtain ⟨B10, z10⟩ := on_same B9 hb
  replace pa := pa.on hb
  replace pb := pb.on hb
  replace pc := pc.on hb
  replace pm := pm.on hb
  clear hb z10
  by_cases hy : y = -1
  rotate_left
  · have k1 : (y != -1) = true := by simpa using hy
    clear hy
    have ⟨pa0, pa1⟩ := pa
    have pal := pa.lt
    have ⟨pb0, pb1⟩ := pb
    have pbl := pb.lt
    have ⟨pc0, pc1⟩ := pc
    have pcl := pc.lt
    have ⟨pm0, pm1⟩ := pm
    have pml := pm.lt
    go_wp2_with fail
    clear pa0 pa1 pal
    clear pb0 pb1 pbl
    clear pc0 pc1 pcl
    clear pm0 pm1 pml
    go_ret
    exact ⟨rfl, B0.trans (B10.mono B0.size)⟩
  by_cases hz : z = -1
  rotate_left
  · have k2 : (z != -1) = true := by simpa using hz
    subst hy
    clear hz
    have ⟨pa0, pa1⟩ := pa
    have pal := pa.lt
    have ⟨pb0, pb1⟩ := pb
    have pbl := pb.lt
    have ⟨pc0, pc1⟩ := pc
    have pcl := pc.lt
    have ⟨pm0, pm1⟩ := pm
    have pml := pm.lt
    go_wp2_with fail
    clear pa0 pa1 pal
    clear pb0 pb1 pbl
    clear pc0 pc1 pcl
    clear pm0 pm1 pml
    go_ret
    exact ⟨rfl, B0.trans (B10.mono B0.size)⟩
  have hle := HN.out hy hz
  subst hy
  subst hz
  have ⟨pa0, pa1⟩ := pa
  have pal := pa.lt
  have ⟨pb0, pb1⟩ := pb
  have pbl := pb.lt
  have ⟨pc0, pc1⟩ := pc
  have pcl := pc.lt
  have ⟨pm0, pm1⟩ := pm
  have pml := pm.lt
  go_wp2_with fail
  clear pa0 pa1 pal
  clear pb0 pb1 pbl
  clear pc0 pc1 pcl
  clear pm0 pm1 pml
  go_ret
  exact ⟨rfl, B0.trans (B10.mono B0.size)⟩

theorem ok (aN aD bN bD cN cD : Int) (iaN : I64 aN) (iaD : I64 aD) (ibN : I64 bN) (ibD : I64 bD) (icN : I64 cN) (icD : I64 cD) (w : World) (hs : St w) (va : vld aN aD = true) (vb : vld bN bD = true) (vc : vld cN cD = true) :
    Calls Tryd.prog 10 #[.agg #[.int .i64 aN, .int .i64 aD], .agg #[.int .i64 bN, .int .i64 bD], .agg #[.int .i64 cN, .int .i64 cD]] w fun e w' => e = .returned (.bool true) ∧ Below w.heap.size w w' := by
  have r := res aN aD bN bD cN cD va vb vc
  have hx := sgn_cases (aN * bD) (bN * aD)
  generalize sgn (aN * bD) (bN * aD) = x at r hx
  rcases hx with ⟨rfl, _⟩ | ⟨rfl, _⟩ | ⟨rfl, _⟩
  · exact ok_lt aN aD bN bD cN cD iaN iaD ibN ibD icN icD w hs va vb vc _ _ _ _ _ r
  · exact ok_eq aN aD bN bD cN cD iaN iaD ibN ibD icN icD w hs va vb vc _ _ _ _ _ r
  · exact ok_gt aN aD bN bD cN cD iaN iaD ibN ibD icN icD w hs va vb vc _ _ _ _ _ r

theorem walk (aN aD bN bD cN cD : Int) (iaN : I64 aN) (iaD : I64 aD) (ibN : I64 bN) (ibD : I64 bD) (icN : I64 cN) (icD : I64 cD) (w : World) (hs : St w) :
    Calls Tryd.prog 10 #[.agg #[.int .i64 aN, .int .i64 aD], .agg #[.int .i64 bN, .int .i64 bD], .agg #[.int .i64 cN, .int .i64 cD]] w fun e w' => e = .returned (.bool true) ∧ Below w.heap.size w w' := by
  cases va : vld aN aD with
  | false => exact inv1 aN aD bN bD cN cD iaN iaD ibN ibD icN icD w hs va
  | true =>
    cases vb : vld bN bD with
    | false => exact inv2 aN aD bN bD cN cD iaN iaD ibN ibD icN icD w hs va vb
    | true =>
      cases vc : vld cN cD with
      | false => exact inv3 aN aD bN bD cN cD iaN iaD ibN ibD icN icD w hs va vb vc
      | true =>
        exact ok aN aD bN bD cN cD iaN iaD ibN ibD icN icD w hs va vb vc

/-! ### The row and the card -/
open Go.ChangeShapes Go.WideShapes Go.ChangeAt

set_option maxRecDepth 100000 in
theorem contract (H : Type) (enc : TypeId × Value → H) (W : World) (base : Nat) (args : Array Value) (ds gs : List (DataW H)) (before : List MemPlace)
    (hval : ∀ (j : Nat) t v, Tryd.f10.params[j]? = some t → args[j]? = some v → Value.okWide Tryd.prog W .any base t v)
    (hW : DataW.Whole enc Tryd.prog Tryd.f10.params.toList Rows.rationalMediantSpec.vars false W args.toList ds gs before) (hL : laidMetH Tryd.prog laid5 W) (hsh : W.ShapedOpen Tryd.prog) :
    Calls Tryd.prog 10 args W fun e W' => ∃ v, e = .returned v ∧ Rows.rationalMediantSpec.post enc Tryd.prog Tryd.f10 false true false false W args v W' := by
  have hW' := hW
  obtain ⟨p, q, hA0, hV, rfl, hfz, hnd⟩ := hW
  have hA : DataW.TrodAll enc Tryd.prog W 0 (fun _ => true) true Tryd.f10.params.toList args.toList ds p := hA0
  rw [Tryd.params10] at hA hval
  obtain ⟨v0, vs0, d0, ds0, p0, q0, hargs, rfl, rfl, h0, r0⟩ := trodAll_cons hA
  obtain ⟨v1, vs1, d1, ds1, p1, q1, rfl, rfl, rfl, h1, r1⟩ := trodAll_cons r0
  obtain ⟨v2, vs2, d2, ds2, p2, q2, rfl, rfl, rfl, h2, r2⟩ := trodAll_cons r1
  obtain ⟨rfl, rfl, rfl⟩ := trodAll_nil r2
  obtain rfl : args = #[v0, v1, v2] := Array.toList_inj.1 hargs
  obtain ⟨rfl, rfl⟩ := trodVars_none hV
  obtain ⟨aN, aD, rfl, rfl, rfl, waN, waD⟩ := open_rat (hval 0 23 v0 rfl rfl) h0
  obtain ⟨bN, bD, rfl, rfl, rfl, wbN, wbD⟩ := open_rat (hval 1 23 v1 rfl rfl) h1
  obtain ⟨cN, cD, rfl, rfl, rfl, wcN, wcD⟩ := open_rat (hval 2 23 v2 rfl rfl) h2
  clear hA0
  refine (walk aN aD bN bD cN cD (wf_i waN) (wf_i waD) (wf_i wbN) (wf_i wbD) (wf_i wcN) (wf_i wcD) W (st_of hL hsh)).mono fun e W' ⟨he, bel⟩ => ?_
  subst he
  exact ⟨_, rfl, _, _, _, [], [], [], hW', trodAll_mk1 (shut_bool Tryd.underlying4 _), (trodAll_cons_mk (shut_rat waN waD) (trodAll_cons_mk (shut_rat wbN wbD) (trodAll_cons_mk (shut_rat wcN wcD) trodAll_mk0))), rfl, bel.frame _, fun h => by cases h⟩

theorem reads (os : Os) {H : Type} (enc : TypeId × Value → H) : ∃ places, DataW.whole enc Tryd.prog ((laidWorld os).forCall (fun _ _ => 0) ⟨#[], #[.agg #[.int .i64 0, .int .i64 0], .agg #[.int .i64 0, .int .i64 0], .agg #[.int .i64 0, .int .i64 0]], []⟩).memory Tryd.f10.params.toList Rows.rationalMediantSpec.vars false (#[.agg #[.int .i64 0, .int .i64 0], .agg #[.int .i64 0, .int .i64 0], .agg #[.int .i64 0, .int .i64 0]] : Array Value).toList 8 = some ([.agg [.lit (.int .i64 0), .lit (.int .i64 0)], .agg [.lit (.int .i64 0), .lit (.int .i64 0)], .agg [.lit (.int .i64 0), .lit (.int .i64 0)]], [], places) :=
  ⟨[], by kernel_rfl⟩

set_option maxRecDepth 100000 in
theorem lifted (os : Os) (started : os.Started) (H : Type) (enc : TypeId × Value → H) (F : Stop.Interp) :
    ReturnsInHanded {} Tryd.checked os 10 .any ((OpenSpec.ofChange Rows.rationalMediantSpec).preRow enc Tryd.prog Tryd.f10 Rows.rationalMediantRow.domain false Rows.rationalMediantRow.laid) (((OpenSpec.ofChange Rows.rationalMediantSpec).at F).post enc Tryd.prog Tryd.f10 false true false false) := by
  obtain ⟨places, hx⟩ := reads os enc
  refine returnsInHanded_of_row (C := Tryd.checked) (s := OpenSpec.ofChange Rows.rationalMediantSpec) own started (by kernel_rfl) Tryd.func10
    (witness_row_atRef (enc := enc) (C := Tryd.checked) false (laidWorld os) #[.agg #[.int .i64 0, .int .i64 0], .agg #[.int .i64 0, .int .i64 0], .agg #[.int .i64 0, .int .i64 0]] rfl (by kernel_rfl) (by kernel_rfl) (by kernel_rfl)
      (OpenSpec.preRow_of_cond 8 hx (by kernel_rfl) (fun k hk => by cases hk) (by kernel_rfl) (laidWorld_met os _))) ?_
  intro W base args ds gs before hval hW _ _ _ hL hsh _
  exact contract H enc W base args ds gs before hval hW hL hsh

theorem said : Rows.RationalMediantSaid :=
  OpenClaim.holds_of_cond 10 Tryd.f10 rfl rfl rfl rfl rfl rfl rfl ⟨rfl, rfl, rfl, rfl, rfl⟩ rfl rfl rfl rfl rfl (by kernel_rfl) Tryd.func10 (by kernel_rfl)
    (of_decide_eq_true (by kernel_rfl)) (by unfold Func.isWrapper; first | (rw [if_pos (by decide +kernel)]; kernel_rfl) | (rw [if_neg (by decide +kernel)]; exact ⟨rfl, rfl⟩))
    (fun os started H enc _ F => by rw [OpenClaim.pre_eq_preRow]; exact lifted os started H enc F)

theorem plain (f : FuncId) (fn : Func) (hf : Tryd.pinned.checked.prog.funcNamed "barcarole/barcarolelaw01.RationalMediant" = some f) (hfn : Tryd.pinned.checked.prog.funcs[f]? = some fn) :
    true = Tryd.pinned.checked.prog.looks [] ∧ ∀ (j : Nat) t, fn.params[j]? = some t → Tryd.pinned.checked.prog.wantsStandIn t = false := by
  obtain rfl : f = 10 := Option.some.inj ((show Tryd.prog.funcNamed "barcarole/barcarolelaw01.RationalMediant" = some 10 by kernel_rfl).symm.trans hf) |>.symm
  obtain rfl : fn = Tryd.f10 := (Option.some.inj (Tryd.func10.symm.trans hfn)).symm
  refine ⟨by kernel_rfl, fun j t ht => ?_⟩
  rw [Tryd.params10] at ht
  obtain rfl : t = 23 := by simpa using Array.mem_of_getElem? ht
  exact (show Tryd.prog.wantsStandIn 23 = false by kernel_rfl)

/-- The statement. -/
theorem card : Rows.RationalMediantCardSaid :=
  Claim7.holds_tied_plain_at .later [] _ _ _ _ said (fun _ h => by cases h) (by kernel_rfl) (fun _ h => by cases h) rationalMediant_row_tie rfl ⟨rfl, rfl⟩ (by kernel_rfl) rfl plain (by kernel_rfl)
end Go.Proofs.YthggfhcmgajjhaaDoor.rationalMediant
