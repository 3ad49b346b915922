/-
  RationalSums: Add is commutative, associative where all four sums are numbers, and Sub undoes Add: for any three pairs of ints.
  Conditions: the package variables of the library that the row lists hold what the program's text lays.
-/
import Derived.Test.YthggfhcmgajjhaaDoorRatY
import Derived.Test.YthggfhcmgajjhaaDoorCards
import Derived.Test.YthggfhcmgajjhaaDoorTie
import Derived.Deep.DeepCutAuto
import Derived.Test.YthggfhcmgajjhaaDoorRatZ
namespace Go.Proofs.YthggfhcmgajjhaaDoor.rationalSums
open Go.RowKit Go.Sort
open Go.RowKit (Below)
set_option linter.unusedVariables false

/-- What the walk needs of the results. -/
structure Res (aN aD bN bD cN cD pN pD pE rN rD rE uN uD uE vN vD vE : Int) : Prop where
  p : ∀ W, Calls Tryd.prog 16 #[.agg #[.int .i64 aN, .int .i64 aD], .agg #[.int .i64 bN, .int .i64 bD]] W fun e w' => e = .returned (.tuple #[.agg #[.int .i64 pN, .int .i64 pD], .int .i64 pE]) ∧ Below W.heap.size W w'
  q : ∀ W, Calls Tryd.prog 16 #[.agg #[.int .i64 bN, .int .i64 bD], .agg #[.int .i64 aN, .int .i64 aD]] W fun e w' => e = .returned (.tuple #[.agg #[.int .i64 pN, .int .i64 pD], .int .i64 pE]) ∧ Below W.heap.size W w'
  bk : pE = 0 → ∀ W, Calls Tryd.prog 18 #[.agg #[.int .i64 pN, .int .i64 pD], .agg #[.int .i64 bN, .int .i64 bD]] W fun e w' => e = .returned (.tuple #[.agg #[.int .i64 aN, .int .i64 aD], .int .i64 0]) ∧ Below W.heap.size W w'
  r : ∀ W, Calls Tryd.prog 16 #[.agg #[.int .i64 bN, .int .i64 bD], .agg #[.int .i64 cN, .int .i64 cD]] W fun e w' => e = .returned (.tuple #[.agg #[.int .i64 rN, .int .i64 rD], .int .i64 rE]) ∧ Below W.heap.size W w'
  u : pE = 0 → ∀ W, Calls Tryd.prog 16 #[.agg #[.int .i64 pN, .int .i64 pD], .agg #[.int .i64 cN, .int .i64 cD]] W fun e w' => e = .returned (.tuple #[.agg #[.int .i64 uN, .int .i64 uD], .int .i64 uE]) ∧ Below W.heap.size W w'
  v : ∀ W, Calls Tryd.prog 16 #[.agg #[.int .i64 aN, .int .i64 aD], .agg #[.int .i64 rN, .int .i64 rD]] W fun e w' => e = .returned (.tuple #[.agg #[.int .i64 vN, .int .i64 vD], .int .i64 vE]) ∧ Below W.heap.size W w'
  p2 : pE = 0 ∨ pE = 3
  r2 : rE = 0 ∨ rE = 3
  u2 : pE = 0 → uE = 0 ∨ uE = 3
  eq : pE = 0 → rE = 0 → uE = 0 → vE = 0 → uN = vN ∧ uD = vD

theorem assoc {aN aD bN bD cN cD pN pD rN rD uN uD vN vD : Int} (ha : 0 < aD) (hb : 0 < bD) (hc : 0 < cD) (hp : 0 < pD) (hr : 0 < rD)
    (ep : (aN * bD + bN * aD) * pD = pN * (aD * bD)) (er : (bN * cD + cN * bD) * rD = rN * (bD * cD))
    (eu : (pN * cD + cN * pD) * uD = uN * (pD * cD)) (ev : (aN * rD + rN * aD) * vD = vN * (aD * rD)) : uN * vD = vN * uD := by
  have k1 : uN * (aD * bD * cD) = (aN * bD * cD + bN * aD * cD + cN * aD * bD) * uD := by
    refine Int.eq_of_mul_eq_mul_right (a := pD) (by omega) ?_
    have i1 : uN * (aD * bD * cD) * pD = uN * (pD * cD) * (aD * bD) := by grind
    have i2 : (pN * cD + cN * pD) * uD * (aD * bD) = (pN * (aD * bD)) * cD * uD + cN * pD * uD * (aD * bD) := by grind
    rw [i1, ← eu, i2, ← ep]
    grind
  have k2 : vN * (aD * bD * cD) = (aN * bD * cD + bN * aD * cD + cN * aD * bD) * vD := by
    refine Int.eq_of_mul_eq_mul_right (a := rD) (by omega) ?_
    have i1 : vN * (aD * bD * cD) * rD = vN * (aD * rD) * (bD * cD) := by grind
    have i2 : (aN * rD + rN * aD) * vD * (bD * cD) = aN * rD * vD * (bD * cD) + (rN * (bD * cD)) * aD * vD := by grind
    rw [i1, ← ev, i2, ← er]
    grind
  have habc := Int.mul_pos (Int.mul_pos ha hb) hc
  refine Int.eq_of_mul_eq_mul_right (a := aD * bD * cD) (by omega) ?_
  have j1 : uN * vD * (aD * bD * cD) = uN * (aD * bD * cD) * vD := by grind
  have j2 : vN * uD * (aD * bD * cD) = vN * (aD * bD * cD) * uD := by grind
  rw [j1, j2, k1, k2]
  grind

theorem i64_mk (n d : Int) : I64 (mkN n d) ∧ I64 (mkD n d) := by
  by_cases h : mkE n d = 0
  · have := vld_bd (mk_vld h); exact ⟨this.1.i64, this.2.i64⟩
  · have := mk_err h; rw [this.1, this.2]; exact ⟨by constructor <;> omega, by constructor <;> omega⟩

theorem res (aN aD bN bD cN cD : Int) (va : vld aN aD = true) (vb : vld bN bD = true) (vc : vld cN cD = true) :
    ∃ pN pD pE rN rD rE uN uD uE vN vD vE, Res aN aD bN bD cN cD pN pD pE rN rD rE uN uD uE vN vD vE := by
  have ha := den_pos va
  have hb := den_pos vb
  have hc := den_pos vc
  have hab := Int.mul_pos ha hb
  have hbc := Int.mul_pos hb hc
  obtain ⟨ba, bad⟩ := vld_bd va
  have hp := fun W => add_v va vb W
  have hq := fun W => add_v vb va W
  have hr := fun W => add_v vb vc W
  have hvl := @mk_vld (aN * bD + bN * aD) (aD * bD)
  have hve := @mk_val (aN * bD + bN * aD) (aD * bD)
  have hp2 := mk_two (aN * bD + bN * aD) (d := aD * bD) (by omega)
  have hrl := @mk_vld (bN * cD + cN * bD) (bD * cD)
  have hre := @mk_val (bN * cD + cN * bD) (bD * cD)
  have hr2 := mk_two (bN * cD + cN * bD) (d := bD * cD) (by omega)
  have hri := i64_mk (bN * cD + cN * bD) (bD * cD)
  rw [Int.add_comm (bN * aD), Int.mul_comm bD aD] at hq
  generalize mkN (aN * bD + bN * aD) (aD * bD) = pN at *
  generalize mkD (aN * bD + bN * aD) (aD * bD) = pD at *
  generalize mkE (aN * bD + bN * aD) (aD * bD) = pE at *
  generalize mkN (bN * cD + cN * bD) (bD * cD) = rN at *
  generalize mkD (bN * cD + cN * bD) (bD * cD) = rD at *
  generalize mkE (bN * cD + cN * bD) (bD * cD) = rE at *
  have hv := fun W => add_any aN aD rN rD W ba.i64 bad.i64 hri.1 hri.2
  refine ⟨pN, pD, pE, rN, rD, rE, mkN (pN * cD + cN * pD) (pD * cD), mkD (pN * cD + cN * pD) (pD * cD), mkE (pN * cD + cN * pD) (pD * cD), _, _, _, hp, hq, fun h W => ?_, hr, fun h W => add_v (hvl h) vc W, hv, hp2, hr2, fun h => ?_, fun h1 h2 h3 h4 => ?_⟩
  · have v1 := hvl h
    have p1 := den_pos v1
    have e1 := hve h
    have k := sub_v v1 vb W
    obtain ⟨x1, x2, x3⟩ := mk_complete (n := pN * bD - bN * pD) (d := pD * bD) (N := aN) (D := aD) (by have := Int.mul_pos p1 hb; omega) va (by
      have i1 : (pN * bD - bN * pD) * aD = pN * (aD * bD) - bN * pD * aD := by grind
      rw [i1, ← e1]
      grind)
    rwa [x1, x2, x3] at k
  · exact mk_two _ (by have := Int.mul_pos (den_pos (hvl h)) hc; omega)
  · have v1 := hvl h1
    have v2 := hrl h2
    have v3 := mk_vld h3
    have hav : (vld aN aD && vld rN rD) = true := op2 va v2
    rw [hav] at h4 ⊢
    have h4' : mkE (aN * rD + rN * aD) (aD * rD) = 0 := h4
    have v4 := mk_vld h4'
    exact low_eq v3 v4 (assoc ha hb hc (den_pos v1) (den_pos v2) (hve h1) (hre h2) (mk_val h3) (mk_val h4'))

set_option maxRecDepth 100000 in
set_option maxHeartbeats 1000000 in
theorem inv1 (aN aD bN bD cN cD : Int) (iaN : I64 aN) (iaD : I64 aD) (ibN : I64 bN) (ibD : I64 bD) (icN : I64 cN) (icD : I64 cD) (w : World) (hs : St w)  (va : vld aN aD = false) :
    Calls Tryd.prog 5 #[.agg #[.int .i64 aN, .int .i64 aD], .agg #[.int .i64 bN, .int .i64 bD], .agg #[.int .i64 cN, .int .i64 cD]] w fun e w' => e = .returned (.bool true) ∧ Below w.heap.size w w' := by
  have HVa := Lib.hid va; clear va
  have HS0 := Lib.hid hs; clear hs
  obtain ⟨B0, pa, pb, pc⟩ := box3 w aN aD bN bD cN cD 23
  have HS := Lib.hid (HS0.out.below B0 HS0.out.sz)
  clear HS0
  go_enter Tryd.func5, Tryd.ntmps5
  go_wp2_with fail
  generalize (((w.alloc (.cells #[.int .i64 aN, .int .i64 aD] 23)).alloc (.cells #[.int .i64 bN, .int .i64 bD] 23)).alloc (.cells #[.int .i64 cN, .int .i64 cD] 23)) = w0 at *
  refine (head_any _ HS.out).mono ?_
  rintro e w1 ⟨rfl, hb⟩
  obtain ⟨B1, z1⟩ := on_same (Below.refl w0.heap.size w0) hb
  replace pa := pa.on hb
  replace pb := pb.on hb
  replace pc := pc.on hb
  clear hb z1
  have ⟨pa0, pa1⟩ := pa
  have pal := pa.lt
  have ⟨pb0, pb1⟩ := pb
  have pbl := pb.lt
  have ⟨pc0, pc1⟩ := pc
  have pcl := pc.lt
  go_wp2_with fail
  clear pa0 pa1 pal
  clear pb0 pb1 pbl
  clear pc0 pc1 pcl
  refine (valid_b aN aD false HVa.out _ iaN iaD).mono ?_
  rintro e w2 ⟨rfl, hb⟩
  obtain ⟨B2, z2⟩ := on_same B1 hb
  replace pa := pa.on hb
  replace pb := pb.on hb
  replace pc := pc.on hb
  clear hb z2
  have ⟨pa0, pa1⟩ := pa
  have pal := pa.lt
  have ⟨pb0, pb1⟩ := pb
  have pbl := pb.lt
  have ⟨pc0, pc1⟩ := pc
  have pcl := pc.lt
  go_wp2_with fail
  clear pa0 pa1 pal
  clear pb0 pb1 pbl
  clear pc0 pc1 pcl
  go_ret
  exact ⟨rfl, B0.trans (B2.mono B0.size)⟩

set_option maxRecDepth 100000 in
set_option maxHeartbeats 1000000 in
theorem inv2 (aN aD bN bD cN cD : Int) (iaN : I64 aN) (iaD : I64 aD) (ibN : I64 bN) (ibD : I64 bD) (icN : I64 cN) (icD : I64 cD) (w : World) (hs : St w) (va : vld aN aD = true) (vb : vld bN bD = false) :
    Calls Tryd.prog 5 #[.agg #[.int .i64 aN, .int .i64 aD], .agg #[.int .i64 bN, .int .i64 bD], .agg #[.int .i64 cN, .int .i64 cD]] w fun e w' => e = .returned (.bool true) ∧ Below w.heap.size w w' := by
  have HVa := Lib.hid va; clear va
  have HVb := Lib.hid vb; clear vb
  have HS0 := Lib.hid hs; clear hs
  obtain ⟨B0, pa, pb, pc⟩ := box3 w aN aD bN bD cN cD 23
  have HS := Lib.hid (HS0.out.below B0 HS0.out.sz)
  clear HS0
  go_enter Tryd.func5, Tryd.ntmps5
  go_wp2_with fail
  generalize (((w.alloc (.cells #[.int .i64 aN, .int .i64 aD] 23)).alloc (.cells #[.int .i64 bN, .int .i64 bD] 23)).alloc (.cells #[.int .i64 cN, .int .i64 cD] 23)) = w0 at *
  refine (head_any _ HS.out).mono ?_
  rintro e w1 ⟨rfl, hb⟩
  obtain ⟨B1, z1⟩ := on_same (Below.refl w0.heap.size w0) hb
  replace pa := pa.on hb
  replace pb := pb.on hb
  replace pc := pc.on hb
  clear hb z1
  have ⟨pa0, pa1⟩ := pa
  have pal := pa.lt
  have ⟨pb0, pb1⟩ := pb
  have pbl := pb.lt
  have ⟨pc0, pc1⟩ := pc
  have pcl := pc.lt
  go_wp2_with fail
  clear pa0 pa1 pal
  clear pb0 pb1 pbl
  clear pc0 pc1 pcl
  refine (valid_b aN aD true HVa.out _ iaN iaD).mono ?_
  rintro e w2 ⟨rfl, hb⟩
  obtain ⟨B2, z2⟩ := on_same B1 hb
  replace pa := pa.on hb
  replace pb := pb.on hb
  replace pc := pc.on hb
  clear hb z2
  have ⟨pa0, pa1⟩ := pa
  have pal := pa.lt
  have ⟨pb0, pb1⟩ := pb
  have pbl := pb.lt
  have ⟨pc0, pc1⟩ := pc
  have pcl := pc.lt
  go_wp2_with fail
  clear pa0 pa1 pal
  clear pb0 pb1 pbl
  clear pc0 pc1 pcl
  refine (valid_b bN bD false HVb.out _ ibN ibD).mono ?_
  rintro e w3 ⟨rfl, hb⟩
  obtain ⟨B3, z3⟩ := on_same B2 hb
  replace pa := pa.on hb
  replace pb := pb.on hb
  replace pc := pc.on hb
  clear hb z3
  have ⟨pa0, pa1⟩ := pa
  have pal := pa.lt
  have ⟨pb0, pb1⟩ := pb
  have pbl := pb.lt
  have ⟨pc0, pc1⟩ := pc
  have pcl := pc.lt
  go_wp2_with fail
  clear pa0 pa1 pal
  clear pb0 pb1 pbl
  clear pc0 pc1 pcl
  go_ret
  exact ⟨rfl, B0.trans (B3.mono B0.size)⟩

set_option maxRecDepth 100000 in
set_option maxHeartbeats 1000000 in
theorem inv3 (aN aD bN bD cN cD : Int) (iaN : I64 aN) (iaD : I64 aD) (ibN : I64 bN) (ibD : I64 bD) (icN : I64 cN) (icD : I64 cD) (w : World) (hs : St w) (va : vld aN aD = true) (vb : vld bN bD = true) (vc : vld cN cD = false) :
    Calls Tryd.prog 5 #[.agg #[.int .i64 aN, .int .i64 aD], .agg #[.int .i64 bN, .int .i64 bD], .agg #[.int .i64 cN, .int .i64 cD]] w fun e w' => e = .returned (.bool true) ∧ Below w.heap.size w w' := by
  have HVa := Lib.hid va; clear va
  have HVb := Lib.hid vb; clear vb
  have HVc := Lib.hid vc; clear vc
  have HS0 := Lib.hid hs; clear hs
  obtain ⟨B0, pa, pb, pc⟩ := box3 w aN aD bN bD cN cD 23
  have HS := Lib.hid (HS0.out.below B0 HS0.out.sz)
  clear HS0
  go_enter Tryd.func5, Tryd.ntmps5
  go_wp2_with fail
  generalize (((w.alloc (.cells #[.int .i64 aN, .int .i64 aD] 23)).alloc (.cells #[.int .i64 bN, .int .i64 bD] 23)).alloc (.cells #[.int .i64 cN, .int .i64 cD] 23)) = w0 at *
  refine (head_any _ HS.out).mono ?_
  rintro e w1 ⟨rfl, hb⟩
  obtain ⟨B1, z1⟩ := on_same (Below.refl w0.heap.size w0) hb
  replace pa := pa.on hb
  replace pb := pb.on hb
  replace pc := pc.on hb
  clear hb z1
  have ⟨pa0, pa1⟩ := pa
  have pal := pa.lt
  have ⟨pb0, pb1⟩ := pb
  have pbl := pb.lt
  have ⟨pc0, pc1⟩ := pc
  have pcl := pc.lt
  go_wp2_with fail
  clear pa0 pa1 pal
  clear pb0 pb1 pbl
  clear pc0 pc1 pcl
  refine (valid_b aN aD true HVa.out _ iaN iaD).mono ?_
  rintro e w2 ⟨rfl, hb⟩
  obtain ⟨B2, z2⟩ := on_same B1 hb
  replace pa := pa.on hb
  replace pb := pb.on hb
  replace pc := pc.on hb
  clear hb z2
  have ⟨pa0, pa1⟩ := pa
  have pal := pa.lt
  have ⟨pb0, pb1⟩ := pb
  have pbl := pb.lt
  have ⟨pc0, pc1⟩ := pc
  have pcl := pc.lt
  go_wp2_with fail
  clear pa0 pa1 pal
  clear pb0 pb1 pbl
  clear pc0 pc1 pcl
  refine (valid_b bN bD true HVb.out _ ibN ibD).mono ?_
  rintro e w3 ⟨rfl, hb⟩
  obtain ⟨B3, z3⟩ := on_same B2 hb
  replace pa := pa.on hb
  replace pb := pb.on hb
  replace pc := pc.on hb
  clear hb z3
  have ⟨pa0, pa1⟩ := pa
  have pal := pa.lt
  have ⟨pb0, pb1⟩ := pb
  have pbl := pb.lt
  have ⟨pc0, pc1⟩ := pc
  have pcl := pc.lt
  go_wp2_with fail
  clear pa0 pa1 pal
  clear pb0 pb1 pbl
  clear pc0 pc1 pcl
  refine (valid_b cN cD false HVc.out _ icN icD).mono ?_
  rintro e w4 ⟨rfl, hb⟩
  obtain ⟨B4, z4⟩ := on_same B3 hb
  replace pa := pa.on hb
  replace pb := pb.on hb
  replace pc := pc.on hb
  clear hb z4
  have ⟨pa0, pa1⟩ := pa
  have pal := pa.lt
  have ⟨pb0, pb1⟩ := pb
  have pbl := pb.lt
  have ⟨pc0, pc1⟩ := pc
  have pcl := pc.lt
  go_wp2_with fail
  clear pa0 pa1 pal
  clear pb0 pb1 pbl
  clear pc0 pc1 pcl
  go_ret
  exact ⟨rfl, B0.trans (B4.mono B0.size)⟩

set_option maxRecDepth 100000 in
set_option maxHeartbeats 2000000 in
theorem ok0 (aN aD bN bD cN cD : Int) (iaN : I64 aN) (iaD : I64 aD) (ibN : I64 bN) (ibD : I64 bD) (icN : I64 cN) (icD : I64 cD) (w : World) (hs : St w) (va : vld aN aD = true) (vb : vld bN bD = true) (vc : vld cN cD = true) (pN pD pE rN rD rE uN uD uE vN vD vE : Int) (r : Res aN aD bN bD cN cD pN pD pE rN rD rE uN uD uE vN vD vE) :
    Calls Tryd.prog 5 #[.agg #[.int .i64 aN, .int .i64 aD], .agg #[.int .i64 bN, .int .i64 bD], .agg #[.int .i64 cN, .int .i64 cD]] w fun e w' => e = .returned (.bool true) ∧ Below w.heap.size w w' := by
  have HVa := Lib.hid va; clear va
  have HVb := Lib.hid vb; clear vb
  have HVc := Lib.hid vc; clear vc
  have HR := Lib.hid r; clear r
  have HS0 := Lib.hid hs; clear hs
  obtain ⟨B0, pa, pb, pc⟩ := box3 w aN aD bN bD cN cD 23
  have HS := Lib.hid (HS0.out.below B0 HS0.out.sz)
  clear HS0
  go_enter Tryd.func5, Tryd.ntmps5
  go_wp2_with fail
  generalize (((w.alloc (.cells #[.int .i64 aN, .int .i64 aD] 23)).alloc (.cells #[.int .i64 bN, .int .i64 bD] 23)).alloc (.cells #[.int .i64 cN, .int .i64 cD] 23)) = w0 at *
  refine (head_any _ HS.out).mono ?_
  rintro e w1 ⟨rfl, hb⟩
  obtain ⟨B1, z1⟩ := on_same (Below.refl w0.heap.size w0) hb
  replace pa := pa.on hb
  replace pb := pb.on hb
  replace pc := pc.on hb
  clear hb z1
  have ⟨pa0, pa1⟩ := pa
  have pal := pa.lt
  have ⟨pb0, pb1⟩ := pb
  have pbl := pb.lt
  have ⟨pc0, pc1⟩ := pc
  have pcl := pc.lt
  go_wp2_with fail
  clear pa0 pa1 pal
  clear pb0 pb1 pbl
  clear pc0 pc1 pcl
  refine (valid_b aN aD true HVa.out _ iaN iaD).mono ?_
  rintro e w2 ⟨rfl, hb⟩
  obtain ⟨B2, z2⟩ := on_same B1 hb
  replace pa := pa.on hb
  replace pb := pb.on hb
  replace pc := pc.on hb
  clear hb z2
  have ⟨pa0, pa1⟩ := pa
  have pal := pa.lt
  have ⟨pb0, pb1⟩ := pb
  have pbl := pb.lt
  have ⟨pc0, pc1⟩ := pc
  have pcl := pc.lt
  go_wp2_with fail
  clear pa0 pa1 pal
  clear pb0 pb1 pbl
  clear pc0 pc1 pcl
  refine (valid_b bN bD true HVb.out _ ibN ibD).mono ?_
  rintro e w3 ⟨rfl, hb⟩
  obtain ⟨B3, z3⟩ := on_same B2 hb
  replace pa := pa.on hb
  replace pb := pb.on hb
  replace pc := pc.on hb
  clear hb z3
  have ⟨pa0, pa1⟩ := pa
  have pal := pa.lt
  have ⟨pb0, pb1⟩ := pb
  have pbl := pb.lt
  have ⟨pc0, pc1⟩ := pc
  have pcl := pc.lt
  go_wp2_with fail
  clear pa0 pa1 pal
  clear pb0 pb1 pbl
  clear pc0 pc1 pcl
  refine (valid_b cN cD true HVc.out _ icN icD).mono ?_
  rintro e w4 ⟨rfl, hb⟩
  obtain ⟨B4, z4⟩ := on_same B3 hb
  replace pa := pa.on hb
  replace pb := pb.on hb
  replace pc := pc.on hb
  clear hb z4
  have ⟨pa0, pa1⟩ := pa
  have pal := pa.lt
  have ⟨pb0, pb1⟩ := pb
  have pbl := pb.lt
  have ⟨pc0, pc1⟩ := pc
  have pcl := pc.lt
  go_wp2_with fail
  clear pa0 pa1 pal
  clear pb0 pb1 pbl
  clear pc0 pc1 pcl
  refine (HR.out.p _).mono ?_
  rintro e w5 ⟨rfl, hb⟩
  obtain ⟨B5, z5⟩ := on_same B4 hb
  replace pa := pa.on hb
  replace pb := pb.on hb
  replace pc := pc.on hb
  clear hb z5
  have ⟨pa0, pa1⟩ := pa
  have pal := pa.lt
  have ⟨pb0, pb1⟩ := pb
  have pbl := pb.lt
  have ⟨pc0, pc1⟩ := pc
  have pcl := pc.lt
  go_wp2_with fail
  clear pa0 pa1 pal
  clear pb0 pb1 pbl
  clear pc0 pc1 pcl
  refine (HR.out.q _).mono ?_
  rintro e w6 ⟨rfl, hb⟩
  obtain ⟨B6, z6⟩ := on_new B5 hb
  replace pa := pa.next hb
  replace pb := pb.next hb
  replace pc := pc.next hb
  have pp := Pr.new hb
  clear hb z6
  rcases HR.out.p2 with h | h
  rotate_left
  · subst h
    have ⟨pa0, pa1⟩ := pa
    have pal := pa.lt
    have ⟨pb0, pb1⟩ := pb
    have pbl := pb.lt
    have ⟨pc0, pc1⟩ := pc
    have pcl := pc.lt
    have ⟨pp0, pp1⟩ := pp
    have ppl := pp.lt
    go_wp2_with fail
    clear pa0 pa1 pal
    clear pb0 pb1 pbl
    clear pc0 pc1 pcl
    clear pp0 pp1 ppl
    go_ret
    exact ⟨rfl, B0.trans ((B6.alloc B6.size _).mono B0.size)⟩
  have HU := Lib.hid (HR.out.u h)
  have HB := Lib.hid (HR.out.bk h)
  have H2 := Lib.hid (HR.out.u2 h)
  have HE := Lib.hid (HR.out.eq h)
  subst h
  have ⟨pa0, pa1⟩ := pa
  have pal := pa.lt
  have ⟨pb0, pb1⟩ := pb
  have pbl := pb.lt
  have ⟨pc0, pc1⟩ := pc
  have pcl := pc.lt
  have ⟨pp0, pp1⟩ := pp
  have ppl := pp.lt
  go_wp2_with fail
  clear pa0 pa1 pal
  clear pb0 pb1 pbl
  clear pc0 pc1 pcl
  clear pp0 pp1 ppl
  refine (HB.out _).mono ?_
  rintro e w7 ⟨rfl, hb⟩
  obtain ⟨B7, z7⟩ := on_new B6 hb
  replace pa := pa.next hb
  replace pb := pb.next hb
  replace pc := pc.next hb
  replace pp := pp.next hb
  clear hb z7
  have ⟨pa0, pa1⟩ := pa
  have pal := pa.lt
  have ⟨pb0, pb1⟩ := pb
  have pbl := pb.lt
  have ⟨pc0, pc1⟩ := pc
  have pcl := pc.lt
  have ⟨pp0, pp1⟩ := pp
  have ppl := pp.lt
  go_wp2_with fail
  clear pa0 pa1 pal
  clear pb0 pb1 pbl
  clear pc0 pc1 pcl
  clear pp0 pp1 ppl
  refine (HR.out.r _).mono ?_
  rintro e w8 ⟨rfl, hb⟩
  obtain ⟨B8, z8⟩ := on_new B7 hb
  replace pa := pa.next hb
  replace pb := pb.next hb
  replace pc := pc.next hb
  replace pp := pp.next hb
  have pk := Pr.new hb
  clear hb z8
  have ⟨pa0, pa1⟩ := pa
  have pal := pa.lt
  have ⟨pb0, pb1⟩ := pb
  have pbl := pb.lt
  have ⟨pc0, pc1⟩ := pc
  have pcl := pc.lt
  have ⟨pp0, pp1⟩ := pp
  have ppl := pp.lt
  have ⟨pk0, pk1⟩ := pk
  have pkl := pk.lt
  go_wp2_with fail
  clear pa0 pa1 pal
  clear pb0 pb1 pbl
  clear pc0 pc1 pcl
  clear pp0 pp1 ppl
  clear pk0 pk1 pkl
  refine (HU.out _).mono ?_
  rintro e w9 ⟨rfl, hb⟩
  obtain ⟨B9, z9⟩ := on_new B8 hb
  replace pa := pa.next hb
  replace pb := pb.next hb
  replace pc := pc.next hb
  replace pp := pp.next hb
  replace pk := pk.next hb
  have pr := Pr.new hb
  clear hb z9
  have ⟨pa0, pa1⟩ := pa
  have pal := pa.lt
  have ⟨pb0, pb1⟩ := pb
  have pbl := pb.lt
  have ⟨pc0, pc1⟩ := pc
  have pcl := pc.lt
  have ⟨pp0, pp1⟩ := pp
  have ppl := pp.lt
  have ⟨pk0, pk1⟩ := pk
  have pkl := pk.lt
  have ⟨pr0, pr1⟩ := pr
  have prl := pr.lt
  go_wp2_with fail
  clear pa0 pa1 pal
  clear pb0 pb1 pbl
  clear pc0 pc1 pcl
  clear pp0 pp1 ppl
  clear pk0 pk1 pkl
  clear pr0 pr1 prl
  refine (HR.out.v _).mono ?_
  rintro e w10 ⟨rfl, hb⟩
  obtain ⟨B10, z10⟩ := on_new B9 hb
  replace pa := pa.next hb
  replace pb := pb.next hb
  replace pc := pc.next hb
  replace pp := pp.next hb
  replace pk := pk.next hb
  replace pr := pr.next hb
  have pu := Pr.new hb
  clear hb z10
  rcases HR.out.r2 with h | h
  rotate_left
  · subst h
    have ⟨pa0, pa1⟩ := pa
    have pal := pa.lt
    have ⟨pb0, pb1⟩ := pb
    have pbl := pb.lt
    have ⟨pc0, pc1⟩ := pc
    have pcl := pc.lt
    have ⟨pp0, pp1⟩ := pp
    have ppl := pp.lt
    have ⟨pk0, pk1⟩ := pk
    have pkl := pk.lt
    have ⟨pr0, pr1⟩ := pr
    have prl := pr.lt
    have ⟨pu0, pu1⟩ := pu
    have pul := pu.lt
    go_wp2_with fail
    clear pa0 pa1 pal
    clear pb0 pb1 pbl
    clear pc0 pc1 pcl
    clear pp0 pp1 ppl
    clear pk0 pk1 pkl
    clear pr0 pr1 prl
    clear pu0 pu1 pul
    go_ret
    exact ⟨rfl, B0.trans ((B10.alloc B10.size _).mono B0.size)⟩
  rcases H2.out with h2 | h2
  rotate_left
  · subst h
    subst h2
    have ⟨pa0, pa1⟩ := pa
    have pal := pa.lt
    have ⟨pb0, pb1⟩ := pb
    have pbl := pb.lt
    have ⟨pc0, pc1⟩ := pc
    have pcl := pc.lt
    have ⟨pp0, pp1⟩ := pp
    have ppl := pp.lt
    have ⟨pk0, pk1⟩ := pk
    have pkl := pk.lt
    have ⟨pr0, pr1⟩ := pr
    have prl := pr.lt
    have ⟨pu0, pu1⟩ := pu
    have pul := pu.lt
    go_wp2_with fail
    clear pa0 pa1 pal
    clear pb0 pb1 pbl
    clear pc0 pc1 pcl
    clear pp0 pp1 ppl
    clear pk0 pk1 pkl
    clear pr0 pr1 prl
    clear pu0 pu1 pul
    go_ret
    exact ⟨rfl, B0.trans ((B10.alloc B10.size _).mono B0.size)⟩
  by_cases h4 : vE = 0
  · obtain ⟨e1, e2⟩ := HE.out h h2 h4
    clear HE
    subst h
    subst h2
    subst h4
    have qe := fun W => rat_yes (a := uN) (b := uD) (c := vN) (d := vD) ⟨e1, e2⟩ W
    clear e1 e2
    have ⟨pa0, pa1⟩ := pa
    have pal := pa.lt
    have ⟨pb0, pb1⟩ := pb
    have pbl := pb.lt
    have ⟨pc0, pc1⟩ := pc
    have pcl := pc.lt
    have ⟨pp0, pp1⟩ := pp
    have ppl := pp.lt
    have ⟨pk0, pk1⟩ := pk
    have pkl := pk.lt
    have ⟨pr0, pr1⟩ := pr
    have prl := pr.lt
    have ⟨pu0, pu1⟩ := pu
    have pul := pu.lt
    go_wp2_with fail
    clear pa0 pa1 pal
    clear pb0 pb1 pbl
    clear pc0 pc1 pcl
    clear pp0 pp1 ppl
    clear pk0 pk1 pkl
    clear pr0 pr1 prl
    clear pu0 pu1 pul
    go_ret
    exact ⟨rfl, B0.trans ((B10.alloc B10.size _).mono B0.size)⟩
  · have h5 : (vE != 0) = true := by simpa using h4
    subst h
    subst h2
    clear h4
    have ⟨pa0, pa1⟩ := pa
    have pal := pa.lt
    have ⟨pb0, pb1⟩ := pb
    have pbl := pb.lt
    have ⟨pc0, pc1⟩ := pc
    have pcl := pc.lt
    have ⟨pp0, pp1⟩ := pp
    have ppl := pp.lt
    have ⟨pk0, pk1⟩ := pk
    have pkl := pk.lt
    have ⟨pr0, pr1⟩ := pr
    have prl := pr.lt
    have ⟨pu0, pu1⟩ := pu
    have pul := pu.lt
    go_wp2_with fail
    clear pa0 pa1 pal
    clear pb0 pb1 pbl
    clear pc0 pc1 pcl
    clear pp0 pp1 ppl
    clear pk0 pk1 pkl
    clear pr0 pr1 prl
    clear pu0 pu1 pul
    go_ret
    exact ⟨rfl, B0.trans ((B10.alloc B10.size _).mono B0.size)⟩

theorem ok (aN aD bN bD cN cD : Int) (iaN : I64 aN) (iaD : I64 aD) (ibN : I64 bN) (ibD : I64 bD) (icN : I64 cN) (icD : I64 cD) (w : World) (hs : St w) (va : vld aN aD = true) (vb : vld bN bD = true) (vc : vld cN cD = true) :
    Calls Tryd.prog 5 #[.agg #[.int .i64 aN, .int .i64 aD], .agg #[.int .i64 bN, .int .i64 bD], .agg #[.int .i64 cN, .int .i64 cD]] w fun e w' => e = .returned (.bool true) ∧ Below w.heap.size w w' := by
  obtain ⟨_, _, _, _, _, _, _, _, _, _, _, _, r⟩ := res aN aD bN bD cN cD va vb vc
  exact ok0 aN aD bN bD cN cD iaN iaD ibN ibD icN icD w hs va vb vc _ _ _ _ _ _ _ _ _ _ _ _ r

theorem walk (aN aD bN bD cN cD : Int) (iaN : I64 aN) (iaD : I64 aD) (ibN : I64 bN) (ibD : I64 bD) (icN : I64 cN) (icD : I64 cD) (w : World) (hs : St w) :
    Calls Tryd.prog 5 #[.agg #[.int .i64 aN, .int .i64 aD], .agg #[.int .i64 bN, .int .i64 bD], .agg #[.int .i64 cN, .int .i64 cD]] w fun e w' => e = .returned (.bool true) ∧ Below w.heap.size w w' := by
  cases va : vld aN aD with
  | false => exact inv1 aN aD bN bD cN cD iaN iaD ibN ibD icN icD w hs va
  | true =>
    cases vb : vld bN bD with
    | false => exact inv2 aN aD bN bD cN cD iaN iaD ibN ibD icN icD w hs va vb
    | true =>
      cases vc : vld cN cD with
      | false => exact inv3 aN aD bN bD cN cD iaN iaD ibN ibD icN icD w hs va vb vc
      | true =>
        exact ok aN aD bN bD cN cD iaN iaD ibN ibD icN icD w hs va vb vc

/-! ### The row and the card -/
open Go.ChangeShapes Go.WideShapes Go.ChangeAt

set_option maxRecDepth 100000 in
theorem contract (H : Type) (enc : TypeId × Value → H) (W : World) (base : Nat) (args : Array Value) (ds gs : List (DataW H)) (before : List MemPlace)
    (hval : ∀ (j : Nat) t v, Tryd.f5.params[j]? = some t → args[j]? = some v → Value.okWide Tryd.prog W .any base t v)
    (hW : DataW.Whole enc Tryd.prog Tryd.f5.params.toList Rows.rationalSumsSpec.vars false W args.toList ds gs before) (hL : laidMetH Tryd.prog laid5 W) (hsh : W.ShapedOpen Tryd.prog) :
    Calls Tryd.prog 5 args W fun e W' => ∃ v, e = .returned v ∧ Rows.rationalSumsSpec.post enc Tryd.prog Tryd.f5 false true false false W args v W' := by
  have hW' := hW
  obtain ⟨p, q, hA0, hV, rfl, hfz, hnd⟩ := hW
  have hA : DataW.TrodAll enc Tryd.prog W 0 (fun _ => true) true Tryd.f5.params.toList args.toList ds p := hA0
  rw [Tryd.params5] at hA hval
  obtain ⟨v0, vs0, d0, ds0, p0, q0, hargs, rfl, rfl, h0, r0⟩ := trodAll_cons hA
  obtain ⟨v1, vs1, d1, ds1, p1, q1, rfl, rfl, rfl, h1, r1⟩ := trodAll_cons r0
  obtain ⟨v2, vs2, d2, ds2, p2, q2, rfl, rfl, rfl, h2, r2⟩ := trodAll_cons r1
  obtain ⟨rfl, rfl, rfl⟩ := trodAll_nil r2
  obtain rfl : args = #[v0, v1, v2] := Array.toList_inj.1 hargs
  obtain ⟨rfl, rfl⟩ := trodVars_none hV
  obtain ⟨aN, aD, rfl, rfl, rfl, waN, waD⟩ := open_rat (hval 0 23 v0 rfl rfl) h0
  obtain ⟨bN, bD, rfl, rfl, rfl, wbN, wbD⟩ := open_rat (hval 1 23 v1 rfl rfl) h1
  obtain ⟨cN, cD, rfl, rfl, rfl, wcN, wcD⟩ := open_rat (hval 2 23 v2 rfl rfl) h2
  clear hA0
  refine (walk aN aD bN bD cN cD (wf_i waN) (wf_i waD) (wf_i wbN) (wf_i wbD) (wf_i wcN) (wf_i wcD) W (st_of hL hsh)).mono fun e W' ⟨he, bel⟩ => ?_
  subst he
  exact ⟨_, rfl, _, _, _, [], [], [], hW', trodAll_mk1 (shut_bool Tryd.underlying4 _), (trodAll_cons_mk (shut_rat waN waD) (trodAll_cons_mk (shut_rat wbN wbD) (trodAll_cons_mk (shut_rat wcN wcD) trodAll_mk0))), rfl, bel.frame _, fun h => by cases h⟩

theorem reads (os : Os) {H : Type} (enc : TypeId × Value → H) : ∃ places, DataW.whole enc Tryd.prog ((laidWorld os).forCall (fun _ _ => 0) ⟨#[], #[.agg #[.int .i64 0, .int .i64 0], .agg #[.int .i64 0, .int .i64 0], .agg #[.int .i64 0, .int .i64 0]], []⟩).memory Tryd.f5.params.toList Rows.rationalSumsSpec.vars false (#[.agg #[.int .i64 0, .int .i64 0], .agg #[.int .i64 0, .int .i64 0], .agg #[.int .i64 0, .int .i64 0]] : Array Value).toList 8 = some ([.agg [.lit (.int .i64 0), .lit (.int .i64 0)], .agg [.lit (.int .i64 0), .lit (.int .i64 0)], .agg [.lit (.int .i64 0), .lit (.int .i64 0)]], [], places) :=
  ⟨[], by kernel_rfl⟩

set_option maxRecDepth 100000 in
theorem lifted (os : Os) (started : os.Started) (H : Type) (enc : TypeId × Value → H) (F : Stop.Interp) :
    ReturnsInHanded {} Tryd.checked os 5 .any ((OpenSpec.ofChange Rows.rationalSumsSpec).preRow enc Tryd.prog Tryd.f5 Rows.rationalSumsRow.domain false Rows.rationalSumsRow.laid) (((OpenSpec.ofChange Rows.rationalSumsSpec).at F).post enc Tryd.prog Tryd.f5 false true false false) := by
  obtain ⟨places, hx⟩ := reads os enc
  refine returnsInHanded_of_row (C := Tryd.checked) (s := OpenSpec.ofChange Rows.rationalSumsSpec) own started (by kernel_rfl) Tryd.func5
    (witness_row_atRef (enc := enc) (C := Tryd.checked) false (laidWorld os) #[.agg #[.int .i64 0, .int .i64 0], .agg #[.int .i64 0, .int .i64 0], .agg #[.int .i64 0, .int .i64 0]] rfl (by kernel_rfl) (by kernel_rfl) (by kernel_rfl)
      (OpenSpec.preRow_of_cond 8 hx (by kernel_rfl) (fun k hk => by cases hk) (by kernel_rfl) (laidWorld_met os _))) ?_
  intro W base args ds gs before hval hW _ _ _ hL hsh _
  exact contract H enc W base args ds gs before hval hW hL hsh

theorem said : Rows.RationalSumsSaid :=
  OpenClaim.holds_of_cond 5 Tryd.f5 rfl rfl rfl rfl rfl rfl rfl ⟨rfl, rfl, rfl, rfl, rfl⟩ rfl rfl rfl rfl rfl (by kernel_rfl) Tryd.func5 (by kernel_rfl)
    (of_decide_eq_true (by kernel_rfl)) (by unfold Func.isWrapper; first | (rw [if_pos (by decide +kernel)]; kernel_rfl) | (rw [if_neg (by decide +kernel)]; exact ⟨rfl, rfl⟩))
    (fun os started H enc _ F => by rw [OpenClaim.pre_eq_preRow]; exact lifted os started H enc F)

theorem plain (f : FuncId) (fn : Func) (hf : Tryd.pinned.checked.prog.funcNamed "barcarole/barcarolelaw01.RationalSums" = some f) (hfn : Tryd.pinned.checked.prog.funcs[f]? = some fn) :
    true = Tryd.pinned.checked.prog.looks [] ∧ ∀ (j : Nat) t, fn.params[j]? = some t → Tryd.pinned.checked.prog.wantsStandIn t = false := by
  obtain rfl : f = 5 := Option.some.inj ((show Tryd.prog.funcNamed "barcarole/barcarolelaw01.RationalSums" = some 5 by kernel_rfl).symm.trans hf) |>.symm
  obtain rfl : fn = Tryd.f5 := (Option.some.inj (Tryd.func5.symm.trans hfn)).symm
  refine ⟨by kernel_rfl, fun j t ht => ?_⟩
  rw [Tryd.params5] at ht
  obtain rfl : t = 23 := by simpa using Array.mem_of_getElem? ht
  exact (show Tryd.prog.wantsStandIn 23 = false by kernel_rfl)

/-- The statement. -/
theorem card : Rows.RationalSumsCardSaid :=
  Claim7.holds_tied_plain_at .later [] _ _ _ _ said (fun _ h => by cases h) (by kernel_rfl) (fun _ h => by cases h) rationalSums_row_tie rfl ⟨rfl, rfl⟩ (by kernel_rfl) rfl plain (by kernel_rfl)
end Go.Proofs.YthggfhcmgajjhaaDoor.rationalSums
