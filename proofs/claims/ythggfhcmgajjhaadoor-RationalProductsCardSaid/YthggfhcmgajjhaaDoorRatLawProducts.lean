/-
  RationalProducts: Mul is commutative, associative where all four products are numbers, distributes over Add where all results are numbers, and Div undoes Mul: for any three pairs of ints.
  Conditions: the package variables of the library that the row lists hold what the program's text lays.
-/
import Derived.Test.YthggfhcmgajjhaaDoorRatY
import Derived.Test.YthggfhcmgajjhaaDoorCards
import Derived.Test.YthggfhcmgajjhaaDoorTie
import Derived.Deep.DeepCutAuto
import Derived.Test.YthggfhcmgajjhaaDoorRatYY
namespace Go.Proofs.YthggfhcmgajjhaaDoor.rationalProducts
open Go.RowKit Go.Sort
open Go.RowKit (Below)
set_option linter.unusedVariables false

/-- What the walk needs of the results. -/
structure Res (aN aD bN bD cN cD pN pD pE gN gD gE rN rD rE uN uD uE vN vD vE xN xD xE yN yD yE sN sD sE zN zD zE : Int) : Prop where
  p : ∀ W, Calls Tryd.prog 20 #[.agg #[.int .i64 aN, .int .i64 aD], .agg #[.int .i64 bN, .int .i64 bD]] W fun e w' => e = .returned (.tuple #[.agg #[.int .i64 pN, .int .i64 pD], .int .i64 pE]) ∧ Below W.heap.size W w'
  q : ∀ W, Calls Tryd.prog 20 #[.agg #[.int .i64 bN, .int .i64 bD], .agg #[.int .i64 aN, .int .i64 aD]] W fun e w' => e = .returned (.tuple #[.agg #[.int .i64 pN, .int .i64 pD], .int .i64 pE]) ∧ Below W.heap.size W w'
  p2 : pE = 0 ∨ pE = 3
  dv : ∀ W, Calls Tryd.prog 22 #[.agg #[.int .i64 pN, .int .i64 pD], .agg #[.int .i64 bN, .int .i64 bD]] W fun e w' => e = .returned (.tuple #[.agg #[.int .i64 gN, .int .i64 gD], .int .i64 gE]) ∧ Below W.heap.size W w'
  d0 : pE = 0 → bN = 0 → gE = 7
  d1 : pE = 0 → bN ≠ 0 → gE = 0 ∧ gN = aN ∧ gD = aD
  r : ∀ W, Calls Tryd.prog 20 #[.agg #[.int .i64 bN, .int .i64 bD], .agg #[.int .i64 cN, .int .i64 cD]] W fun e w' => e = .returned (.tuple #[.agg #[.int .i64 rN, .int .i64 rD], .int .i64 rE]) ∧ Below W.heap.size W w'
  r2 : rE = 0 ∨ rE = 3
  u : ∀ W, Calls Tryd.prog 20 #[.agg #[.int .i64 pN, .int .i64 pD], .agg #[.int .i64 cN, .int .i64 cD]] W fun e w' => e = .returned (.tuple #[.agg #[.int .i64 uN, .int .i64 uD], .int .i64 uE]) ∧ Below W.heap.size W w'
  u2 : pE = 0 → uE = 0 ∨ uE = 3
  v : ∀ W, Calls Tryd.prog 20 #[.agg #[.int .i64 aN, .int .i64 aD], .agg #[.int .i64 rN, .int .i64 rD]] W fun e w' => e = .returned (.tuple #[.agg #[.int .i64 vN, .int .i64 vD], .int .i64 vE]) ∧ Below W.heap.size W w'
  asc : pE = 0 → rE = 0 → uE = 0 → vE = 0 → uN = vN ∧ uD = vD
  x : ∀ W, Calls Tryd.prog 16 #[.agg #[.int .i64 bN, .int .i64 bD], .agg #[.int .i64 cN, .int .i64 cD]] W fun e w' => e = .returned (.tuple #[.agg #[.int .i64 xN, .int .i64 xD], .int .i64 xE]) ∧ Below W.heap.size W w'
  x2 : xE = 0 ∨ xE = 3
  y : ∀ W, Calls Tryd.prog 20 #[.agg #[.int .i64 aN, .int .i64 aD], .agg #[.int .i64 xN, .int .i64 xD]] W fun e w' => e = .returned (.tuple #[.agg #[.int .i64 yN, .int .i64 yD], .int .i64 yE]) ∧ Below W.heap.size W w'
  s : ∀ W, Calls Tryd.prog 20 #[.agg #[.int .i64 aN, .int .i64 aD], .agg #[.int .i64 cN, .int .i64 cD]] W fun e w' => e = .returned (.tuple #[.agg #[.int .i64 sN, .int .i64 sD], .int .i64 sE]) ∧ Below W.heap.size W w'
  s2 : sE = 0 ∨ sE = 3
  z : ∀ W, Calls Tryd.prog 16 #[.agg #[.int .i64 pN, .int .i64 pD], .agg #[.int .i64 sN, .int .i64 sD]] W fun e w' => e = .returned (.tuple #[.agg #[.int .i64 zN, .int .i64 zD], .int .i64 zE]) ∧ Below W.heap.size W w'
  ds : pE = 0 → xE = 0 → yE = 0 → sE = 0 → zE = 0 → yN = zN ∧ yD = zD

theorem assoc {aN aD bN bD cN cD pN pD rN rD uN uD vN vD : Int} (ha : 0 < aD) (hb : 0 < bD) (hc : 0 < cD) (hp : 0 < pD) (hr : 0 < rD)
    (ep : (aN * bN) * pD = pN * (aD * bD)) (er : (bN * cN) * rD = rN * (bD * cD))
    (eu : (pN * cN) * uD = uN * (pD * cD)) (ev : (aN * rN) * vD = vN * (aD * rD)) : uN * vD = vN * uD := by
  have k1 : uN * (aD * bD * cD) = (aN * bN * cN) * uD := by
    refine Int.eq_of_mul_eq_mul_right (a := pD) (by omega) ?_
    have i1 : uN * (aD * bD * cD) * pD = uN * (pD * cD) * (aD * bD) := by grind
    have i2 : (pN * cN) * uD * (aD * bD) = (pN * (aD * bD)) * cN * uD := by grind
    rw [i1, ← eu, i2, ← ep]
    grind
  have k2 : vN * (aD * bD * cD) = (aN * bN * cN) * vD := by
    refine Int.eq_of_mul_eq_mul_right (a := rD) (by omega) ?_
    have i1 : vN * (aD * bD * cD) * rD = vN * (aD * rD) * (bD * cD) := by grind
    have i2 : (aN * rN) * vD * (bD * cD) = aN * (rN * (bD * cD)) * vD := by grind
    rw [i1, ← ev, i2, ← er]
    grind
  have habc := Int.mul_pos (Int.mul_pos ha hb) hc
  refine Int.eq_of_mul_eq_mul_right (a := aD * bD * cD) (by omega) ?_
  have j1 : uN * vD * (aD * bD * cD) = uN * (aD * bD * cD) * vD := by grind
  have j2 : vN * uD * (aD * bD * cD) = vN * (aD * bD * cD) * uD := by grind
  rw [j1, j2, k1, k2]
  grind

theorem distr {aN aD bN bD cN cD pN pD xN xD yN yD sN sD zN zD : Int} (ha : 0 < aD) (hb : 0 < bD) (hc : 0 < cD) (hp : 0 < pD) (hx : 0 < xD) (hs : 0 < sD)
    (ep : (aN * bN) * pD = pN * (aD * bD)) (ex : (bN * cD + cN * bD) * xD = xN * (bD * cD))
    (ey : (aN * xN) * yD = yN * (aD * xD)) (es : (aN * cN) * sD = sN * (aD * cD)) (ez : (pN * sD + sN * pD) * zD = zN * (pD * sD)) : yN * zD = zN * yD := by
  have k1 : yN * (aD * bD * cD) = aN * (bN * cD + cN * bD) * yD := by
    refine Int.eq_of_mul_eq_mul_right (a := xD) (by omega) ?_
    have i1 : yN * (aD * bD * cD) * xD = yN * (aD * xD) * (bD * cD) := by grind
    have i2 : (aN * xN) * yD * (bD * cD) = aN * (xN * (bD * cD)) * yD := by grind
    rw [i1, ← ey, i2, ← ex]
    grind
  have k2 : zN * (aD * bD * cD) = aN * (bN * cD + cN * bD) * zD := by
    refine Int.eq_of_mul_eq_mul_right (a := aD) (by omega) ?_
    refine Int.eq_of_mul_eq_mul_right (a := pD * sD) (by have := Int.mul_pos hp hs; omega) ?_
    have i1 : zN * (aD * bD * cD) * aD * (pD * sD) = zN * (pD * sD) * (aD * bD * (aD * cD)) := by grind
    have i2 : (pN * sD + sN * pD) * zD * (aD * bD * (aD * cD)) = (pN * (aD * bD)) * sD * (aD * cD) * zD + (sN * (aD * cD)) * pD * (aD * bD) * zD := by grind
    rw [i1, ← ez, i2, ← ep, ← es]
    grind
  have habc := Int.mul_pos (Int.mul_pos ha hb) hc
  refine Int.eq_of_mul_eq_mul_right (a := aD * bD * cD) (by omega) ?_
  have j1 : yN * zD * (aD * bD * cD) = yN * (aD * bD * cD) * zD := by grind
  have j2 : zN * yD * (aD * bD * cD) = zN * (aD * bD * cD) * yD := by grind
  rw [j1, j2, k1, k2]
  grind

theorem i64_mk (n d : Int) : I64 (mkN n d) ∧ I64 (mkD n d) := by
  by_cases h : mkE n d = 0
  · have := vld_bd (mk_vld h); exact ⟨this.1.i64, this.2.i64⟩
  · have := mk_err h; rw [this.1, this.2]; exact ⟨by constructor <;> omega, by constructor <;> omega⟩

theorem res (aN aD bN bD cN cD : Int) (va : vld aN aD = true) (vb : vld bN bD = true) (vc : vld cN cD = true) : ∃ pN pD pE gN gD gE rN rD rE uN uD uE vN vD vE xN xD xE yN yD yE sN sD sE zN zD zE, Res aN aD bN bD cN cD pN pD pE gN gD gE rN rD rE uN uD uE vN vD vE xN xD xE yN yD yE sN sD sE zN zD zE := by
  have ha := den_pos va
  have hb := den_pos vb
  have hc := den_pos vc
  have hab := Int.mul_pos ha hb
  have hbc := Int.mul_pos hb hc
  have hac := Int.mul_pos ha hc
  obtain ⟨ba, bad⟩ := vld_bd va
  obtain ⟨bb, bbd⟩ := vld_bd vb
  obtain ⟨bc, bcd⟩ := vld_bd vc
  have hp := fun W => mul_v va vb W
  have hq := fun W => mul_v vb va W
  have hr := fun W => mul_v vb vc W
  have hx := fun W => add_v vb vc W
  have hs := fun W => mul_v va vc W
  have hpl := @mk_vld (aN * bN) (aD * bD)
  have hpe := @mk_val (aN * bN) (aD * bD)
  have hp2 := mk_two (aN * bN) (d := aD * bD) (by omega)
  have hpi := i64_mk (aN * bN) (aD * bD)
  have hrl := @mk_vld (bN * cN) (bD * cD)
  have hre := @mk_val (bN * cN) (bD * cD)
  have hr2 := mk_two (bN * cN) (d := bD * cD) (by omega)
  have hri := i64_mk (bN * cN) (bD * cD)
  have hxl := @mk_vld (bN * cD + cN * bD) (bD * cD)
  have hxe := @mk_val (bN * cD + cN * bD) (bD * cD)
  have hx2 := mk_two (bN * cD + cN * bD) (d := bD * cD) (by omega)
  have hxi := i64_mk (bN * cD + cN * bD) (bD * cD)
  have hsl := @mk_vld (aN * cN) (aD * cD)
  have hse := @mk_val (aN * cN) (aD * cD)
  have hs2 := mk_two (aN * cN) (d := aD * cD) (by omega)
  have hsi := i64_mk (aN * cN) (aD * cD)
  rw [Int.mul_comm bN aN, Int.mul_comm bD aD] at hq
  generalize mkN (aN * bN) (aD * bD) = pN at *
  generalize mkD (aN * bN) (aD * bD) = pD at *
  generalize mkE (aN * bN) (aD * bD) = pE at *
  generalize mkN (bN * cN) (bD * cD) = rN at *
  generalize mkD (bN * cN) (bD * cD) = rD at *
  generalize mkE (bN * cN) (bD * cD) = rE at *
  generalize mkN (bN * cD + cN * bD) (bD * cD) = xN at *
  generalize mkD (bN * cD + cN * bD) (bD * cD) = xD at *
  generalize mkE (bN * cD + cN * bD) (bD * cD) = xE at *
  generalize mkN (aN * cN) (aD * cD) = sN at *
  generalize mkD (aN * cN) (aD * cD) = sD at *
  generalize mkE (aN * cN) (aD * cD) = sE at *
  refine ⟨pN, pD, pE, _, _, _, rN, rD, rE, _, _, _, _, _, _, xN, xD, xE, _, _, _, sN, sD, sE, _, _, _, hp, hq, hp2,
    fun W => div_any pN pD bN bD W hpi.1 hpi.2 bb.i64 bbd.i64, fun h h0 => ?_, fun h h0 => ?_, hr, hr2,
    fun W => mul_any pN pD cN cD W hpi.1 hpi.2 bc.i64 bcd.i64, fun h => ?_,
    fun W => mul_any aN aD rN rD W ba.i64 bad.i64 hri.1 hri.2, fun h1 h2 h3 h4 => ?_, hx, hx2,
    fun W => mul_any aN aD xN xD W ba.i64 bad.i64 hxi.1 hxi.2, hs, hs2,
    fun W => add_any pN pD sN sD W hpi.1 hpi.2 hsi.1 hsi.2, fun h1 h2 h3 h4 h5 => ?_⟩
  · rw [op2 (hpl h) vb]
    show mkE (pN * bD) (pD * bN) = 7
    rw [mkE_zero, h0, Int.mul_zero]
  · rw [op2 (hpl h) vb]
    show mkE (pN * bD) (pD * bN) = 0 ∧ mkN (pN * bD) (pD * bN) = aN ∧ mkD (pN * bD) (pD * bN) = aD
    have e1 := hpe h
    have p1 := den_pos (hpl h)
    refine mk_complete (Int.mul_ne_zero (by omega) h0) va ?_
    have i1 : pN * bD * aD = pN * (aD * bD) := by grind
    rw [i1, ← e1]
    grind
  · rw [op2 (hpl h) vc]
    exact mk_two _ (by have := Int.mul_pos (den_pos (hpl h)) hc; omega)
  · have v1 := hpl h1
    have v2 := hrl h2
    rw [op2 v1 vc] at h3 ⊢
    rw [op2 va v2] at h4 ⊢
    have h3' : mkE (pN * cN) (pD * cD) = 0 := h3
    have h4' : mkE (aN * rN) (aD * rD) = 0 := h4
    exact low_eq (mk_vld h3') (mk_vld h4') (assoc ha hb hc (den_pos v1) (den_pos v2) (hpe h1) (hre h2) (mk_val h3') (mk_val h4'))
  · have v1 := hpl h1
    have v2 := hxl h2
    have v3 := hsl h4
    rw [op2 va v2] at h3 ⊢
    rw [op2 v1 v3] at h5 ⊢
    have h3' : mkE (aN * xN) (aD * xD) = 0 := h3
    have h5' : mkE (pN * sD + sN * pD) (pD * sD) = 0 := h5
    exact low_eq (mk_vld h3') (mk_vld h5') (distr ha hb hc (den_pos v1) (den_pos v2) (den_pos v3) (hpe h1) (hxe h2) (mk_val h3') (hse h4) (mk_val h5'))

set_option maxRecDepth 100000 in
set_option maxHeartbeats 1000000 in
theorem inv1 (aN aD bN bD cN cD : Int) (iaN : I64 aN) (iaD : I64 aD) (ibN : I64 bN) (ibD : I64 bD) (icN : I64 cN) (icD : I64 cD) (w : World) (hs : St w)  (va : vld aN aD = false) :
    Calls Tryd.prog 6 #[.agg #[.int .i64 aN, .int .i64 aD], .agg #[.int .i64 bN, .int .i64 bD], .agg #[.int .i64 cN, .int .i64 cD]] w fun e w' => e = .returned (.bool true) ∧ Below w.heap.size w w' := by
  have HVa := Lib.hid va; clear va
  have HS0 := Lib.hid hs; clear hs
  obtain ⟨B0, pa, pb, pc⟩ := box3 w aN aD bN bD cN cD 23
  have HS := Lib.hid (HS0.out.below B0 HS0.out.sz)
  clear HS0
  go_enter Tryd.func6, Tryd.ntmps6
  go_wp2_with fail
  generalize (((w.alloc (.cells #[.int .i64 aN, .int .i64 aD] 23)).alloc (.cells #[.int .i64 bN, .int .i64 bD] 23)).alloc (.cells #[.int .i64 cN, .int .i64 cD] 23)) = w0 at *
  refine (head_any _ HS.out).mono ?_
  rintro e w1 ⟨rfl, hb⟩
  obtain ⟨B1, z1⟩ := on_same (Below.refl w0.heap.size w0) hb
  replace pa := pa.on hb
  replace pb := pb.on hb
  replace pc := pc.on hb
  clear hb z1
  have ⟨pa0, pa1⟩ := pa
  have pal := pa.lt
  have ⟨pb0, pb1⟩ := pb
  have pbl := pb.lt
  have ⟨pc0, pc1⟩ := pc
  have pcl := pc.lt
  go_wp2_with fail
  clear pa0 pa1 pal
  clear pb0 pb1 pbl
  clear pc0 pc1 pcl
  refine (valid_b aN aD false HVa.out _ iaN iaD).mono ?_
  rintro e w2 ⟨rfl, hb⟩
  obtain ⟨B2, z2⟩ := on_same B1 hb
  replace pa := pa.on hb
  replace pb := pb.on hb
  replace pc := pc.on hb
  clear hb z2
  have ⟨pa0, pa1⟩ := pa
  have pal := pa.lt
  have ⟨pb0, pb1⟩ := pb
  have pbl := pb.lt
  have ⟨pc0, pc1⟩ := pc
  have pcl := pc.lt
  go_wp2_with fail
  clear pa0 pa1 pal
  clear pb0 pb1 pbl
  clear pc0 pc1 pcl
  go_ret
  exact ⟨rfl, B0.trans (B2.mono B0.size)⟩

set_option maxRecDepth 100000 in
set_option maxHeartbeats 1000000 in
theorem inv2 (aN aD bN bD cN cD : Int) (iaN : I64 aN) (iaD : I64 aD) (ibN : I64 bN) (ibD : I64 bD) (icN : I64 cN) (icD : I64 cD) (w : World) (hs : St w) (va : vld aN aD = true) (vb : vld bN bD = false) :
    Calls Tryd.prog 6 #[.agg #[.int .i64 aN, .int .i64 aD], .agg #[.int .i64 bN, .int .i64 bD], .agg #[.int .i64 cN, .int .i64 cD]] w fun e w' => e = .returned (.bool true) ∧ Below w.heap.size w w' := by
  have HVa := Lib.hid va; clear va
  have HVb := Lib.hid vb; clear vb
  have HS0 := Lib.hid hs; clear hs
  obtain ⟨B0, pa, pb, pc⟩ := box3 w aN aD bN bD cN cD 23
  have HS := Lib.hid (HS0.out.below B0 HS0.out.sz)
  clear HS0
  go_enter Tryd.func6, Tryd.ntmps6
  go_wp2_with fail
  generalize (((w.alloc (.cells #[.int .i64 aN, .int .i64 aD] 23)).alloc (.cells #[.int .i64 bN, .int .i64 bD] 23)).alloc (.cells #[.int .i64 cN, .int .i64 cD] 23)) = w0 at *
  refine (head_any _ HS.out).mono ?_
  rintro e w1 ⟨rfl, hb⟩
  obtain ⟨B1, z1⟩ := on_same (Below.refl w0.heap.size w0) hb
  replace pa := pa.on hb
  replace pb := pb.on hb
  replace pc := pc.on hb
  clear hb z1
  have ⟨pa0, pa1⟩ := pa
  have pal := pa.lt
  have ⟨pb0, pb1⟩ := pb
  have pbl := pb.lt
  have ⟨pc0, pc1⟩ := pc
  have pcl := pc.lt
  go_wp2_with fail
  clear pa0 pa1 pal
  clear pb0 pb1 pbl
  clear pc0 pc1 pcl
  refine (valid_b aN aD true HVa.out _ iaN iaD).mono ?_
  rintro e w2 ⟨rfl, hb⟩
  obtain ⟨B2, z2⟩ := on_same B1 hb
  replace pa := pa.on hb
  replace pb := pb.on hb
  replace pc := pc.on hb
  clear hb z2
  have ⟨pa0, pa1⟩ := pa
  have pal := pa.lt
  have ⟨pb0, pb1⟩ := pb
  have pbl := pb.lt
  have ⟨pc0, pc1⟩ := pc
  have pcl := pc.lt
  go_wp2_with fail
  clear pa0 pa1 pal
  clear pb0 pb1 pbl
  clear pc0 pc1 pcl
  refine (valid_b bN bD false HVb.out _ ibN ibD).mono ?_
  rintro e w3 ⟨rfl, hb⟩
  obtain ⟨B3, z3⟩ := on_same B2 hb
  replace pa := pa.on hb
  replace pb := pb.on hb
  replace pc := pc.on hb
  clear hb z3
  have ⟨pa0, pa1⟩ := pa
  have pal := pa.lt
  have ⟨pb0, pb1⟩ := pb
  have pbl := pb.lt
  have ⟨pc0, pc1⟩ := pc
  have pcl := pc.lt
  go_wp2_with fail
  clear pa0 pa1 pal
  clear pb0 pb1 pbl
  clear pc0 pc1 pcl
  go_ret
  exact ⟨rfl, B0.trans (B3.mono B0.size)⟩

set_option maxRecDepth 100000 in
set_option maxHeartbeats 1000000 in
theorem inv3 (aN aD bN bD cN cD : Int) (iaN : I64 aN) (iaD : I64 aD) (ibN : I64 bN) (ibD : I64 bD) (icN : I64 cN) (icD : I64 cD) (w : World) (hs : St w) (va : vld aN aD = true) (vb : vld bN bD = true) (vc : vld cN cD = false) :
    Calls Tryd.prog 6 #[.agg #[.int .i64 aN, .int .i64 aD], .agg #[.int .i64 bN, .int .i64 bD], .agg #[.int .i64 cN, .int .i64 cD]] w fun e w' => e = .returned (.bool true) ∧ Below w.heap.size w w' := by
  have HVa := Lib.hid va; clear va
  have HVb := Lib.hid vb; clear vb
  have HVc := Lib.hid vc; clear vc
  have HS0 := Lib.hid hs; clear hs
  obtain ⟨B0, pa, pb, pc⟩ := box3 w aN aD bN bD cN cD 23
  have HS := Lib.hid (HS0.out.below B0 HS0.out.sz)
  clear HS0
  go_enter Tryd.func6, Tryd.ntmps6
  go_wp2_with fail
  generalize (((w.alloc (.cells #[.int .i64 aN, .int .i64 aD] 23)).alloc (.cells #[.int .i64 bN, .int .i64 bD] 23)).alloc (.cells #[.int .i64 cN, .int .i64 cD] 23)) = w0 at *
  refine (head_any _ HS.out).mono ?_
  rintro e w1 ⟨rfl, hb⟩
  obtain ⟨B1, z1⟩ := on_same (Below.refl w0.heap.size w0) hb
  replace pa := pa.on hb
  replace pb := pb.on hb
  replace pc := pc.on hb
  clear hb z1
  have ⟨pa0, pa1⟩ := pa
  have pal := pa.lt
  have ⟨pb0, pb1⟩ := pb
  have pbl := pb.lt
  have ⟨pc0, pc1⟩ := pc
  have pcl := pc.lt
  go_wp2_with fail
  clear pa0 pa1 pal
  clear pb0 pb1 pbl
  clear pc0 pc1 pcl
  refine (valid_b aN aD true HVa.out _ iaN iaD).mono ?_
  rintro e w2 ⟨rfl, hb⟩
  obtain ⟨B2, z2⟩ := on_same B1 hb
  replace pa := pa.on hb
  replace pb := pb.on hb
  replace pc := pc.on hb
  clear hb z2
  have ⟨pa0, pa1⟩ := pa
  have pal := pa.lt
  have ⟨pb0, pb1⟩ := pb
  have pbl := pb.lt
  have ⟨pc0, pc1⟩ := pc
  have pcl := pc.lt
  go_wp2_with fail
  clear pa0 pa1 pal
  clear pb0 pb1 pbl
  clear pc0 pc1 pcl
  refine (valid_b bN bD true HVb.out _ ibN ibD).mono ?_
  rintro e w3 ⟨rfl, hb⟩
  obtain ⟨B3, z3⟩ := on_same B2 hb
  replace pa := pa.on hb
  replace pb := pb.on hb
  replace pc := pc.on hb
  clear hb z3
  have ⟨pa0, pa1⟩ := pa
  have pal := pa.lt
  have ⟨pb0, pb1⟩ := pb
  have pbl := pb.lt
  have ⟨pc0, pc1⟩ := pc
  have pcl := pc.lt
  go_wp2_with fail
  clear pa0 pa1 pal
  clear pb0 pb1 pbl
  clear pc0 pc1 pcl
  refine (valid_b cN cD false HVc.out _ icN icD).mono ?_
  rintro e w4 ⟨rfl, hb⟩
  obtain ⟨B4, z4⟩ := on_same B3 hb
  replace pa := pa.on hb
  replace pb := pb.on hb
  replace pc := pc.on hb
  clear hb z4
  have ⟨pa0, pa1⟩ := pa
  have pal := pa.lt
  have ⟨pb0, pb1⟩ := pb
  have pbl := pb.lt
  have ⟨pc0, pc1⟩ := pc
  have pcl := pc.lt
  go_wp2_with fail
  clear pa0 pa1 pal
  clear pb0 pb1 pbl
  clear pc0 pc1 pcl
  go_ret
  exact ⟨rfl, B0.trans (B4.mono B0.size)⟩

set_option maxRecDepth 100000 in
set_option maxHeartbeats 4000000 in
theorem ok0 (aN aD bN bD cN cD : Int) (iaN : I64 aN) (iaD : I64 aD) (ibN : I64 bN) (ibD : I64 bD) (icN : I64 cN) (icD : I64 cD) (w : World) (hs : St w) (va : vld aN aD = true) (vb : vld bN bD = true) (vc : vld cN cD = true) (pN pD pE gN gD gE rN rD rE uN uD uE vN vD vE xN xD xE yN yD yE sN sD sE zN zD zE : Int) (r : Res aN aD bN bD cN cD pN pD pE gN gD gE rN rD rE uN uD uE vN vD vE xN xD xE yN yD yE sN sD sE zN zD zE) :
    Calls Tryd.prog 6 #[.agg #[.int .i64 aN, .int .i64 aD], .agg #[.int .i64 bN, .int .i64 bD], .agg #[.int .i64 cN, .int .i64 cD]] w fun e w' => e = .returned (.bool true) ∧ Below w.heap.size w w' := by
  have HVa := Lib.hid va; clear va
  have HVb := Lib.hid vb; clear vb
  have HVc := Lib.hid vc; clear vc
  have HR := Lib.hid r; clear r
  have HS0 := Lib.hid hs; clear hs
  obtain ⟨B0, pa, pb, pc⟩ := box3 w aN aD bN bD cN cD 23
  have HS := Lib.hid (HS0.out.below B0 HS0.out.sz)
  clear HS0
  go_enter Tryd.func6, Tryd.ntmps6
  go_wp2_with fail
  generalize (((w.alloc (.cells #[.int .i64 aN, .int .i64 aD] 23)).alloc (.cells #[.int .i64 bN, .int .i64 bD] 23)).alloc (.cells #[.int .i64 cN, .int .i64 cD] 23)) = w0 at *
  refine (head_any _ HS.out).mono ?_
  rintro e w1 ⟨rfl, hb⟩
  obtain ⟨B1, z1⟩ := on_same (Below.refl w0.heap.size w0) hb
  replace pa := pa.on hb
  replace pb := pb.on hb
  replace pc := pc.on hb
  clear hb z1
  have ⟨pa0, pa1⟩ := pa
  have pal := pa.lt
  have ⟨pb0, pb1⟩ := pb
  have pbl := pb.lt
  have ⟨pc0, pc1⟩ := pc
  have pcl := pc.lt
  go_wp2_with fail
  clear pa0 pa1 pal
  clear pb0 pb1 pbl
  clear pc0 pc1 pcl
  refine (valid_b aN aD true HVa.out _ iaN iaD).mono ?_
  rintro e w2 ⟨rfl, hb⟩
  obtain ⟨B2, z2⟩ := on_same B1 hb
  replace pa := pa.on hb
  replace pb := pb.on hb
  replace pc := pc.on hb
  clear hb z2
  have ⟨pa0, pa1⟩ := pa
  have pal := pa.lt
  have ⟨pb0, pb1⟩ := pb
  have pbl := pb.lt
  have ⟨pc0, pc1⟩ := pc
  have pcl := pc.lt
  go_wp2_with fail
  clear pa0 pa1 pal
  clear pb0 pb1 pbl
  clear pc0 pc1 pcl
  refine (valid_b bN bD true HVb.out _ ibN ibD).mono ?_
  rintro e w3 ⟨rfl, hb⟩
  obtain ⟨B3, z3⟩ := on_same B2 hb
  replace pa := pa.on hb
  replace pb := pb.on hb
  replace pc := pc.on hb
  clear hb z3
  have ⟨pa0, pa1⟩ := pa
  have pal := pa.lt
  have ⟨pb0, pb1⟩ := pb
  have pbl := pb.lt
  have ⟨pc0, pc1⟩ := pc
  have pcl := pc.lt
  go_wp2_with fail
  clear pa0 pa1 pal
  clear pb0 pb1 pbl
  clear pc0 pc1 pcl
  refine (valid_b cN cD true HVc.out _ icN icD).mono ?_
  rintro e w4 ⟨rfl, hb⟩
  obtain ⟨B4, z4⟩ := on_same B3 hb
  replace pa := pa.on hb
  replace pb := pb.on hb
  replace pc := pc.on hb
  clear hb z4
  have ⟨pa0, pa1⟩ := pa
  have pal := pa.lt
  have ⟨pb0, pb1⟩ := pb
  have pbl := pb.lt
  have ⟨pc0, pc1⟩ := pc
  have pcl := pc.lt
  go_wp2_with fail
  clear pa0 pa1 pal
  clear pb0 pb1 pbl
  clear pc0 pc1 pcl
  refine (HR.out.p _).mono ?_
  rintro e w5 ⟨rfl, hb⟩
  obtain ⟨B5, z5⟩ := on_same B4 hb
  replace pa := pa.on hb
  replace pb := pb.on hb
  replace pc := pc.on hb
  clear hb z5
  have ⟨pa0, pa1⟩ := pa
  have pal := pa.lt
  have ⟨pb0, pb1⟩ := pb
  have pbl := pb.lt
  have ⟨pc0, pc1⟩ := pc
  have pcl := pc.lt
  go_wp2_with fail
  clear pa0 pa1 pal
  clear pb0 pb1 pbl
  clear pc0 pc1 pcl
  refine (HR.out.q _).mono ?_
  rintro e w6 ⟨rfl, hb⟩
  obtain ⟨B6, z6⟩ := on_new B5 hb
  replace pa := pa.next hb
  replace pb := pb.next hb
  replace pc := pc.next hb
  have pp := Pr.new hb
  clear hb z6
  rcases HR.out.p2 with h | h
  rotate_left
  · subst h
    have ⟨pa0, pa1⟩ := pa
    have pal := pa.lt
    have ⟨pb0, pb1⟩ := pb
    have pbl := pb.lt
    have ⟨pc0, pc1⟩ := pc
    have pcl := pc.lt
    have ⟨pp0, pp1⟩ := pp
    have ppl := pp.lt
    go_wp2_with fail
    clear pa0 pa1 pal
    clear pb0 pb1 pbl
    clear pc0 pc1 pcl
    clear pp0 pp1 ppl
    go_ret
    exact ⟨rfl, B0.trans ((B6.alloc B6.size _).mono B0.size)⟩
  have H0 := Lib.hid (HR.out.d0 h)
  have H1 := Lib.hid (HR.out.d1 h)
  have HU2 := Lib.hid (HR.out.u2 h)
  have HA := Lib.hid (HR.out.asc h)
  have HD := Lib.hid (HR.out.ds h)
  subst h
  have ⟨pa0, pa1⟩ := pa
  have pal := pa.lt
  have ⟨pb0, pb1⟩ := pb
  have pbl := pb.lt
  have ⟨pc0, pc1⟩ := pc
  have pcl := pc.lt
  have ⟨pp0, pp1⟩ := pp
  have ppl := pp.lt
  go_wp2_with fail
  clear pa0 pa1 pal
  clear pb0 pb1 pbl
  clear pc0 pc1 pcl
  clear pp0 pp1 ppl
  refine (HR.out.dv _).mono ?_
  rintro e w7 ⟨rfl, hb⟩
  obtain ⟨B7, z7⟩ := on_new B6 hb
  replace pa := pa.next hb
  replace pb := pb.next hb
  replace pc := pc.next hb
  replace pp := pp.next hb
  clear hb z7
  have ⟨pa0, pa1⟩ := pa
  have pal := pa.lt
  have ⟨pb0, pb1⟩ := pb
  have pbl := pb.lt
  have ⟨pc0, pc1⟩ := pc
  have pcl := pc.lt
  have ⟨pp0, pp1⟩ := pp
  have ppl := pp.lt
  go_upto_region 11 with fail
  have pg : Pr (w7.alloc (.cells #[.int .i64 gN, .int .i64 gD] 23)) w7.heap.size gN gD := Pr.here _ _ _ _
  have ⟨pg0, pg1⟩ := pg
  go_cut [94] (fun s wx => s = .bool false ∧ wx = w7.alloc (.cells #[.int .i64 gN, .int .i64 gD] 23))
  case first =>
    by_cases hb : bN = 0
    · have k1 := H0.out hb
      have k2 : (bN == 0) = true := by simpa using hb
      have k3 : (bN != 0) = false := by simpa using hb
      subst k1
      clear hb
      go_wp2_with fail
      go_meet
      exact ⟨rfl, rfl⟩
    · have k2 : (bN == 0) = false := by simpa using hb
      have k3 : (bN != 0) = true := by simpa using hb
      obtain ⟨k4, k5, k6⟩ := H1.out hb
      subst k4
      have qe := fun W => rat_ne_no (a := gN) (b := gD) (c := aN) (d := aD) ⟨k5, k6⟩ W
      clear hb k5 k6
      go_wp2_with fail
      go_meet
      exact ⟨rfl, rfl⟩
  case rest =>
  obtain ⟨rfl, rfl⟩ := hcut
  clear pg pg0 pg1
  clear pa0 pa1 pal
  clear pb0 pb1 pbl
  clear pc0 pc1 pcl
  clear pp0 pp1 ppl
  have ⟨pa0, pa1⟩ := pa
  have pal := pa.lt
  have ⟨pb0, pb1⟩ := pb
  have pbl := pb.lt
  have ⟨pc0, pc1⟩ := pc
  have pcl := pc.lt
  have ⟨pp0, pp1⟩ := pp
  have ppl := pp.lt
  go_wp2_with fail
  clear pa0 pa1 pal
  clear pb0 pb1 pbl
  clear pc0 pc1 pcl
  clear pp0 pp1 ppl
  refine (HR.out.r _).mono ?_
  rintro e w8 ⟨rfl, hb⟩
  obtain ⟨B8, z8⟩ := on_new B7 hb
  replace pa := pa.next hb
  replace pb := pb.next hb
  replace pc := pc.next hb
  replace pp := pp.next hb
  clear hb z8
  have ⟨pa0, pa1⟩ := pa
  have pal := pa.lt
  have ⟨pb0, pb1⟩ := pb
  have pbl := pb.lt
  have ⟨pc0, pc1⟩ := pc
  have pcl := pc.lt
  have ⟨pp0, pp1⟩ := pp
  have ppl := pp.lt
  go_wp2_with fail
  clear pa0 pa1 pal
  clear pb0 pb1 pbl
  clear pc0 pc1 pcl
  clear pp0 pp1 ppl
  refine (HR.out.u _).mono ?_
  rintro e w9 ⟨rfl, hb⟩
  obtain ⟨B9, z9⟩ := on_new B8 hb
  have papr : w.heap.size ≠ w8.heap.size := Nat.ne_of_lt pa.lt
  have pbpr : (w.heap.size + 1) ≠ w8.heap.size := Nat.ne_of_lt pb.lt
  have pcpr : (w.heap.size + 1 + 1) ≠ w8.heap.size := Nat.ne_of_lt pc.lt
  have pppr : w5.heap.size ≠ w8.heap.size := Nat.ne_of_lt pp.lt
  have prh : w0.heap.size ≤ w8.heap.size := B8.size
  replace pa := pa.next hb
  replace pb := pb.next hb
  replace pc := pc.next hb
  replace pp := pp.next hb
  have pr := Lc.new hb
  clear hb z9
  have ⟨pa0, pa1⟩ := pa
  have pal := pa.lt
  have ⟨pb0, pb1⟩ := pb
  have pbl := pb.lt
  have ⟨pc0, pc1⟩ := pc
  have pcl := pc.lt
  have ⟨pp0, pp1⟩ := pp
  have ppl := pp.lt
  have ⟨⟨pr0, pr1⟩, prf0, prf1⟩ := pr
  have prl := pr.lt
  go_wp2_with fail
  clear pa0 pa1 pal
  clear pb0 pb1 pbl
  clear pc0 pc1 pcl
  clear pp0 pp1 ppl
  clear pr0 pr1 prl
  clear prf0 prf1
  refine (HR.out.v _).mono ?_
  rintro e w10 ⟨rfl, hb⟩
  obtain ⟨B10, z10⟩ := on_new B9 hb
  have papu : w.heap.size ≠ w9.heap.size := Nat.ne_of_lt pa.lt
  have pbpu : (w.heap.size + 1) ≠ w9.heap.size := Nat.ne_of_lt pb.lt
  have pcpu : (w.heap.size + 1 + 1) ≠ w9.heap.size := Nat.ne_of_lt pc.lt
  have pppu : w5.heap.size ≠ w9.heap.size := Nat.ne_of_lt pp.lt
  have prpu : w8.heap.size ≠ w9.heap.size := Nat.ne_of_lt pr.lt
  have puh : w0.heap.size ≤ w9.heap.size := B9.size
  replace pa := pa.next hb
  replace pb := pb.next hb
  replace pc := pc.next hb
  replace pp := pp.next hb
  replace pr := pr.next hb
  have pu := Lc.new hb
  clear hb z10
  have ⟨pa0, pa1⟩ := pa
  have pal := pa.lt
  have ⟨pb0, pb1⟩ := pb
  have pbl := pb.lt
  have ⟨pc0, pc1⟩ := pc
  have pcl := pc.lt
  have ⟨pp0, pp1⟩ := pp
  have ppl := pp.lt
  have ⟨⟨pr0, pr1⟩, prf0, prf1⟩ := pr
  have prl := pr.lt
  have ⟨⟨pu0, pu1⟩, puf0, puf1⟩ := pu
  have pul := pu.lt
  go_upto_region 16 with fail
  have pv : Lc (w10.alloc (.cells #[.int .i64 vN, .int .i64 vD] 23)) w10.heap.size vN vD := Lc.here _ _ _ _
  have ⟨⟨pv0, pv1⟩, pvf0, pvf1⟩ := pv
  go_cut [127] (fun s wx => s = .bool false ∧ wx = w10.alloc (.cells #[.int .i64 vN, .int .i64 vD] 23))
  case first =>
    rcases HR.out.r2 with h | h
    · rcases HU2.out with h2 | h2
      · by_cases h4 : vE = 0
        · have qe := fun W => rat_ne_no (a := uN) (b := uD) (c := vN) (d := vD) (HA.out h h2 h4) W
          subst h
          subst h2
          subst h4
          go_wp2_with fail
          go_meet
          exact ⟨rfl, rfl⟩
        · have h5 : (vE == 0) = false := by simpa using h4
          subst h
          subst h2
          clear h4
          go_wp2_with fail
          go_meet
          exact ⟨rfl, rfl⟩
      · subst h
        subst h2
        go_wp2_with fail
        go_meet
        exact ⟨rfl, rfl⟩
    · subst h
      go_wp2_with fail
      go_meet
      exact ⟨rfl, rfl⟩
  case rest =>
  obtain ⟨rfl, rfl⟩ := hcut
  clear pv pv0 pv1 pvf0 pvf1
  clear pa0 pa1 pal
  clear pb0 pb1 pbl
  clear pc0 pc1 pcl
  clear pp0 pp1 ppl
  clear pr0 pr1 prl
  clear prf0 prf1
  clear pu0 pu1 pul
  clear puf0 puf1
  have ⟨pa0, pa1⟩ := pa
  have pal := pa.lt
  have ⟨pb0, pb1⟩ := pb
  have pbl := pb.lt
  have ⟨pc0, pc1⟩ := pc
  have pcl := pc.lt
  have ⟨pp0, pp1⟩ := pp
  have ppl := pp.lt
  have ⟨⟨pr0, pr1⟩, prf0, prf1⟩ := pr
  have prl := pr.lt
  have ⟨⟨pu0, pu1⟩, puf0, puf1⟩ := pu
  have pul := pu.lt
  go_wp2_with fail
  clear pa0 pa1 pal
  clear pb0 pb1 pbl
  clear pc0 pc1 pcl
  clear pp0 pp1 ppl
  clear pr0 pr1 prl
  clear prf0 prf1
  clear pu0 pu1 pul
  clear puf0 puf1
  refine (HR.out.x _).mono ?_
  rintro e w11 ⟨rfl, hb⟩
  obtain ⟨B11, z11⟩ := on_new B10 hb
  have papv : w.heap.size ≠ w10.heap.size := Nat.ne_of_lt pa.lt
  have pbpv : (w.heap.size + 1) ≠ w10.heap.size := Nat.ne_of_lt pb.lt
  have pcpv : (w.heap.size + 1 + 1) ≠ w10.heap.size := Nat.ne_of_lt pc.lt
  have pppv : w5.heap.size ≠ w10.heap.size := Nat.ne_of_lt pp.lt
  have prpv : w8.heap.size ≠ w10.heap.size := Nat.ne_of_lt pr.lt
  have pupv : w9.heap.size ≠ w10.heap.size := Nat.ne_of_lt pu.lt
  have pvh : w0.heap.size ≤ w10.heap.size := B10.size
  replace pa := pa.next hb
  replace pb := pb.next hb
  replace pc := pc.next hb
  replace pp := pp.next hb
  replace pr := pr.next hb
  replace pu := pu.next hb
  have pv := Lc.new hb
  clear hb z11
  have ⟨pa0, pa1⟩ := pa
  have pal := pa.lt
  have ⟨pb0, pb1⟩ := pb
  have pbl := pb.lt
  have ⟨pc0, pc1⟩ := pc
  have pcl := pc.lt
  have ⟨pp0, pp1⟩ := pp
  have ppl := pp.lt
  have ⟨⟨pr0, pr1⟩, prf0, prf1⟩ := pr
  have prl := pr.lt
  have ⟨⟨pu0, pu1⟩, puf0, puf1⟩ := pu
  have pul := pu.lt
  have ⟨⟨pv0, pv1⟩, pvf0, pvf1⟩ := pv
  have pvl := pv.lt
  go_wp2_with fail
  clear pa0 pa1 pal
  clear pb0 pb1 pbl
  clear pc0 pc1 pcl
  clear pp0 pp1 ppl
  clear pr0 pr1 prl
  clear prf0 prf1
  clear pu0 pu1 pul
  clear puf0 puf1
  clear pv0 pv1 pvl
  clear pvf0 pvf1
  refine (HR.out.y _).mono ?_
  rintro e w12 ⟨rfl, hb⟩
  obtain ⟨B12, z12⟩ := on_set B11 prh hb
  replace pa := (pa.set papr).on hb
  replace pb := (pb.set pbpr).on hb
  replace pc := (pc.set pcpr).on hb
  replace pp := (pp.set pppr).on hb
  replace pr := pr.put.on hb
  replace pu := (pu.set (Ne.symm prpu)).on hb
  replace pv := (pv.set (Ne.symm prpv)).on hb
  clear hb z12
  have ⟨pa0, pa1⟩ := pa
  have pal := pa.lt
  have ⟨pb0, pb1⟩ := pb
  have pbl := pb.lt
  have ⟨pc0, pc1⟩ := pc
  have pcl := pc.lt
  have ⟨pp0, pp1⟩ := pp
  have ppl := pp.lt
  have ⟨⟨pr0, pr1⟩, prf0, prf1⟩ := pr
  have prl := pr.lt
  have ⟨⟨pu0, pu1⟩, puf0, puf1⟩ := pu
  have pul := pu.lt
  have ⟨⟨pv0, pv1⟩, pvf0, pvf1⟩ := pv
  have pvl := pv.lt
  go_wp2_with fail
  clear pa0 pa1 pal
  clear pb0 pb1 pbl
  clear pc0 pc1 pcl
  clear pp0 pp1 ppl
  clear pr0 pr1 prl
  clear prf0 prf1
  clear pu0 pu1 pul
  clear puf0 puf1
  clear pv0 pv1 pvl
  clear pvf0 pvf1
  refine (HR.out.s _).mono ?_
  rintro e w13 ⟨rfl, hb⟩
  obtain ⟨B13, z13⟩ := on_set B12 puh hb
  replace pa := (pa.set papu).on hb
  replace pb := (pb.set pbpu).on hb
  replace pc := (pc.set pcpu).on hb
  replace pp := (pp.set pppu).on hb
  replace pr := (pr.set prpu).on hb
  replace pu := pu.put.on hb
  replace pv := (pv.set (Ne.symm pupv)).on hb
  clear hb z13
  have ⟨pa0, pa1⟩ := pa
  have pal := pa.lt
  have ⟨pb0, pb1⟩ := pb
  have pbl := pb.lt
  have ⟨pc0, pc1⟩ := pc
  have pcl := pc.lt
  have ⟨pp0, pp1⟩ := pp
  have ppl := pp.lt
  have ⟨⟨pr0, pr1⟩, prf0, prf1⟩ := pr
  have prl := pr.lt
  have ⟨⟨pu0, pu1⟩, puf0, puf1⟩ := pu
  have pul := pu.lt
  have ⟨⟨pv0, pv1⟩, pvf0, pvf1⟩ := pv
  have pvl := pv.lt
  go_wp2_with fail
  clear pa0 pa1 pal
  clear pb0 pb1 pbl
  clear pc0 pc1 pcl
  clear pp0 pp1 ppl
  clear pr0 pr1 prl
  clear prf0 prf1
  clear pu0 pu1 pul
  clear puf0 puf1
  clear pv0 pv1 pvl
  clear pvf0 pvf1
  refine (HR.out.z _).mono ?_
  rintro e w14 ⟨rfl, hb⟩
  obtain ⟨B14, z14⟩ := on_new B13 hb
  have paps : w.heap.size ≠ w13.heap.size := Nat.ne_of_lt pa.lt
  have pbps : (w.heap.size + 1) ≠ w13.heap.size := Nat.ne_of_lt pb.lt
  have pcps : (w.heap.size + 1 + 1) ≠ w13.heap.size := Nat.ne_of_lt pc.lt
  have ppps : w5.heap.size ≠ w13.heap.size := Nat.ne_of_lt pp.lt
  have prps : w8.heap.size ≠ w13.heap.size := Nat.ne_of_lt pr.lt
  have pups : w9.heap.size ≠ w13.heap.size := Nat.ne_of_lt pu.lt
  have pvps : w10.heap.size ≠ w13.heap.size := Nat.ne_of_lt pv.lt
  have psh : w0.heap.size ≤ w13.heap.size := B13.size
  replace pa := pa.next hb
  replace pb := pb.next hb
  replace pc := pc.next hb
  replace pp := pp.next hb
  replace pr := pr.next hb
  replace pu := pu.next hb
  replace pv := pv.next hb
  have ps := Lc.new hb
  clear hb z14
  rcases HR.out.x2 with h1 | h1
  rotate_left
  · skip
    subst h1
    have ⟨⟨pu0, pu1⟩, puf0, puf1⟩ := pu
    have pul := pu.lt
    have ⟨⟨pv0, pv1⟩, pvf0, pvf1⟩ := pv
    have pvl := pv.lt
    go_wp2_with fail
    go_ret
    exact ⟨rfl, B0.trans (((B14.setCell pvh _).setCell pvh _).mono B0.size)⟩
  by_cases h2 : yE = 0
  rotate_left
  · have k2 : (yE != 0) = true := by simpa using h2
    clear h2
    subst h1
    have ⟨⟨pu0, pu1⟩, puf0, puf1⟩ := pu
    have pul := pu.lt
    have ⟨⟨pv0, pv1⟩, pvf0, pvf1⟩ := pv
    have pvl := pv.lt
    go_wp2_with fail
    go_ret
    exact ⟨rfl, B0.trans (((B14.setCell pvh _).setCell pvh _).mono B0.size)⟩
  rcases HR.out.s2 with h3 | h3
  rotate_left
  · skip
    subst h1
    subst h2
    subst h3
    have ⟨⟨pu0, pu1⟩, puf0, puf1⟩ := pu
    have pul := pu.lt
    have ⟨⟨pv0, pv1⟩, pvf0, pvf1⟩ := pv
    have pvl := pv.lt
    go_wp2_with fail
    go_ret
    exact ⟨rfl, B0.trans (((B14.setCell pvh _).setCell pvh _).mono B0.size)⟩
  by_cases h4 : zE = 0
  rotate_left
  · have k4 : (zE != 0) = true := by simpa using h4
    clear h4
    subst h1
    subst h2
    subst h3
    have ⟨⟨pu0, pu1⟩, puf0, puf1⟩ := pu
    have pul := pu.lt
    have ⟨⟨pv0, pv1⟩, pvf0, pvf1⟩ := pv
    have pvl := pv.lt
    go_wp2_with fail
    go_ret
    exact ⟨rfl, B0.trans (((B14.setCell pvh _).setCell pvh _).mono B0.size)⟩
  have qe := fun W => rat_yes (a := yN) (b := yD) (c := zN) (d := zD) (HD.out h1 h2 h3 h4) W
  subst h1
  subst h2
  subst h3
  subst h4
  have ⟨⟨pu0, pu1⟩, puf0, puf1⟩ := pu
  have pul := pu.lt
  have ⟨⟨pv0, pv1⟩, pvf0, pvf1⟩ := pv
  have pvl := pv.lt
  go_wp2_with fail
  go_ret
  exact ⟨rfl, B0.trans (((B14.setCell pvh _).setCell pvh _).mono B0.size)⟩

theorem ok (aN aD bN bD cN cD : Int) (iaN : I64 aN) (iaD : I64 aD) (ibN : I64 bN) (ibD : I64 bD) (icN : I64 cN) (icD : I64 cD) (w : World) (hs : St w) (va : vld aN aD = true) (vb : vld bN bD = true) (vc : vld cN cD = true) :
    Calls Tryd.prog 6 #[.agg #[.int .i64 aN, .int .i64 aD], .agg #[.int .i64 bN, .int .i64 bD], .agg #[.int .i64 cN, .int .i64 cD]] w fun e w' => e = .returned (.bool true) ∧ Below w.heap.size w w' := by
  obtain ⟨_, _, _, _, _, _, _, _, _, _, _, _, _, _, _, _, _, _, _, _, _, _, _, _, _, _, _, r⟩ := res aN aD bN bD cN cD va vb vc
  exact ok0 aN aD bN bD cN cD iaN iaD ibN ibD icN icD w hs va vb vc _ _ _ _ _ _ _ _ _ _ _ _ _ _ _ _ _ _ _ _ _ _ _ _ _ _ _ r

theorem walk (aN aD bN bD cN cD : Int) (iaN : I64 aN) (iaD : I64 aD) (ibN : I64 bN) (ibD : I64 bD) (icN : I64 cN) (icD : I64 cD) (w : World) (hs : St w) :
    Calls Tryd.prog 6 #[.agg #[.int .i64 aN, .int .i64 aD], .agg #[.int .i64 bN, .int .i64 bD], .agg #[.int .i64 cN, .int .i64 cD]] w fun e w' => e = .returned (.bool true) ∧ Below w.heap.size w w' := by
  cases va : vld aN aD with
  | false => exact inv1 aN aD bN bD cN cD iaN iaD ibN ibD icN icD w hs va
  | true =>
    cases vb : vld bN bD with
    | false => exact inv2 aN aD bN bD cN cD iaN iaD ibN ibD icN icD w hs va vb
    | true =>
      cases vc : vld cN cD with
      | false => exact inv3 aN aD bN bD cN cD iaN iaD ibN ibD icN icD w hs va vb vc
      | true =>
        exact ok aN aD bN bD cN cD iaN iaD ibN ibD icN icD w hs va vb vc

/-! ### The row and the card -/
open Go.ChangeShapes Go.WideShapes Go.ChangeAt

set_option maxRecDepth 100000 in
theorem contract (H : Type) (enc : TypeId × Value → H) (W : World) (base : Nat) (args : Array Value) (ds gs : List (DataW H)) (before : List MemPlace)
    (hval : ∀ (j : Nat) t v, Tryd.f6.params[j]? = some t → args[j]? = some v → Value.okWide Tryd.prog W .any base t v)
    (hW : DataW.Whole enc Tryd.prog Tryd.f6.params.toList Rows.rationalProductsSpec.vars false W args.toList ds gs before) (hL : laidMetH Tryd.prog laid5 W) (hsh : W.ShapedOpen Tryd.prog) :
    Calls Tryd.prog 6 args W fun e W' => ∃ v, e = .returned v ∧ Rows.rationalProductsSpec.post enc Tryd.prog Tryd.f6 false true false false W args v W' := by
  have hW' := hW
  obtain ⟨p, q, hA0, hV, rfl, hfz, hnd⟩ := hW
  have hA : DataW.TrodAll enc Tryd.prog W 0 (fun _ => true) true Tryd.f6.params.toList args.toList ds p := hA0
  rw [Tryd.params6] at hA hval
  obtain ⟨v0, vs0, d0, ds0, p0, q0, hargs, rfl, rfl, h0, r0⟩ := trodAll_cons hA
  obtain ⟨v1, vs1, d1, ds1, p1, q1, rfl, rfl, rfl, h1, r1⟩ := trodAll_cons r0
  obtain ⟨v2, vs2, d2, ds2, p2, q2, rfl, rfl, rfl, h2, r2⟩ := trodAll_cons r1
  obtain ⟨rfl, rfl, rfl⟩ := trodAll_nil r2
  obtain rfl : args = #[v0, v1, v2] := Array.toList_inj.1 hargs
  obtain ⟨rfl, rfl⟩ := trodVars_none hV
  obtain ⟨aN, aD, rfl, rfl, rfl, waN, waD⟩ := open_rat (hval 0 23 v0 rfl rfl) h0
  obtain ⟨bN, bD, rfl, rfl, rfl, wbN, wbD⟩ := open_rat (hval 1 23 v1 rfl rfl) h1
  obtain ⟨cN, cD, rfl, rfl, rfl, wcN, wcD⟩ := open_rat (hval 2 23 v2 rfl rfl) h2
  clear hA0
  refine (walk aN aD bN bD cN cD (wf_i waN) (wf_i waD) (wf_i wbN) (wf_i wbD) (wf_i wcN) (wf_i wcD) W (st_of hL hsh)).mono fun e W' ⟨he, bel⟩ => ?_
  subst he
  exact ⟨_, rfl, _, _, _, [], [], [], hW', trodAll_mk1 (shut_bool Tryd.underlying4 _), (trodAll_cons_mk (shut_rat waN waD) (trodAll_cons_mk (shut_rat wbN wbD) (trodAll_cons_mk (shut_rat wcN wcD) trodAll_mk0))), rfl, bel.frame _, fun h => by cases h⟩

theorem reads (os : Os) {H : Type} (enc : TypeId × Value → H) : ∃ places, DataW.whole enc Tryd.prog ((laidWorld os).forCall (fun _ _ => 0) ⟨#[], #[.agg #[.int .i64 0, .int .i64 0], .agg #[.int .i64 0, .int .i64 0], .agg #[.int .i64 0, .int .i64 0]], []⟩).memory Tryd.f6.params.toList Rows.rationalProductsSpec.vars false (#[.agg #[.int .i64 0, .int .i64 0], .agg #[.int .i64 0, .int .i64 0], .agg #[.int .i64 0, .int .i64 0]] : Array Value).toList 8 = some ([.agg [.lit (.int .i64 0), .lit (.int .i64 0)], .agg [.lit (.int .i64 0), .lit (.int .i64 0)], .agg [.lit (.int .i64 0), .lit (.int .i64 0)]], [], places) :=
  ⟨[], by kernel_rfl⟩

set_option maxRecDepth 100000 in
theorem lifted (os : Os) (started : os.Started) (H : Type) (enc : TypeId × Value → H) (F : Stop.Interp) :
    ReturnsInHanded {} Tryd.checked os 6 .any ((OpenSpec.ofChange Rows.rationalProductsSpec).preRow enc Tryd.prog Tryd.f6 Rows.rationalProductsRow.domain false Rows.rationalProductsRow.laid) (((OpenSpec.ofChange Rows.rationalProductsSpec).at F).post enc Tryd.prog Tryd.f6 false true false false) := by
  obtain ⟨places, hx⟩ := reads os enc
  refine returnsInHanded_of_row (C := Tryd.checked) (s := OpenSpec.ofChange Rows.rationalProductsSpec) own started (by kernel_rfl) Tryd.func6
    (witness_row_atRef (enc := enc) (C := Tryd.checked) false (laidWorld os) #[.agg #[.int .i64 0, .int .i64 0], .agg #[.int .i64 0, .int .i64 0], .agg #[.int .i64 0, .int .i64 0]] rfl (by kernel_rfl) (by kernel_rfl) (by kernel_rfl)
      (OpenSpec.preRow_of_cond 8 hx (by kernel_rfl) (fun k hk => by cases hk) (by kernel_rfl) (laidWorld_met os _))) ?_
  intro W base args ds gs before hval hW _ _ _ hL hsh _
  exact contract H enc W base args ds gs before hval hW hL hsh

theorem said : Rows.RationalProductsSaid :=
  OpenClaim.holds_of_cond 6 Tryd.f6 rfl rfl rfl rfl rfl rfl rfl ⟨rfl, rfl, rfl, rfl, rfl⟩ rfl rfl rfl rfl rfl (by kernel_rfl) Tryd.func6 (by kernel_rfl)
    (of_decide_eq_true (by kernel_rfl)) (by unfold Func.isWrapper; first | (rw [if_pos (by decide +kernel)]; kernel_rfl) | (rw [if_neg (by decide +kernel)]; exact ⟨rfl, rfl⟩))
    (fun os started H enc _ F => by rw [OpenClaim.pre_eq_preRow]; exact lifted os started H enc F)

theorem plain (f : FuncId) (fn : Func) (hf : Tryd.pinned.checked.prog.funcNamed "barcarole/barcarolelaw01.RationalProducts" = some f) (hfn : Tryd.pinned.checked.prog.funcs[f]? = some fn) :
    true = Tryd.pinned.checked.prog.looks [] ∧ ∀ (j : Nat) t, fn.params[j]? = some t → Tryd.pinned.checked.prog.wantsStandIn t = false := by
  obtain rfl : f = 6 := Option.some.inj ((show Tryd.prog.funcNamed "barcarole/barcarolelaw01.RationalProducts" = some 6 by kernel_rfl).symm.trans hf) |>.symm
  obtain rfl : fn = Tryd.f6 := (Option.some.inj (Tryd.func6.symm.trans hfn)).symm
  refine ⟨by kernel_rfl, fun j t ht => ?_⟩
  rw [Tryd.params6] at ht
  obtain rfl : t = 23 := by simpa using Array.mem_of_getElem? ht
  exact (show Tryd.prog.wantsStandIn 23 = false by kernel_rfl)

/-- The statement. -/
theorem card : Rows.RationalProductsCardSaid :=
  Claim7.holds_tied_plain_at .later [] _ _ _ _ said (fun _ h => by cases h) (by kernel_rfl) (fun _ h => by cases h) rationalProducts_row_tie rfl ⟨rfl, rfl⟩ (by kernel_rfl) rfl plain (by kernel_rfl)
end Go.Proofs.YthggfhcmgajjhaaDoor.rationalProducts
