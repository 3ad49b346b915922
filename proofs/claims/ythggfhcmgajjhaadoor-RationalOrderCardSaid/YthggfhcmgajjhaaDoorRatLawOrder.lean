/-
  RationalOrder: Cmp is a total order on numbers, the sign of the difference, and kept when a third number is added: for any three pairs of ints.
  Conditions: the package variables of the library that the row lists hold what the program's text lays.
-/
import Derived.Test.YthggfhcmgajjhaaDoorRatY
import Derived.Test.YthggfhcmgajjhaaDoorCards
import Derived.Test.YthggfhcmgajjhaaDoorTie
import Derived.Deep.DeepCutAuto
import Derived.Test.YthggfhcmgajjhaaDoorRatZ
namespace Go.Proofs.YthggfhcmgajjhaaDoor.rationalOrder
open Go.RowKit Go.Sort
open Go.RowKit (Below)
set_option linter.unusedVariables false

/-- What the walk needs of the results. -/
structure Res (aN aD bN bD cN cD x y z sN sD sE pN pD pE qN qD qE : Int) : Prop where
  c1 : ∀ W, Calls Tryd.prog 24 #[.agg #[.int .i64 aN, .int .i64 aD], .agg #[.int .i64 bN, .int .i64 bD]] W fun e w' => e = .returned (.tuple #[.int .i64 x, .int .i64 0]) ∧ Below W.heap.size W w'
  c2 : ∀ W, Calls Tryd.prog 24 #[.agg #[.int .i64 bN, .int .i64 bD], .agg #[.int .i64 cN, .int .i64 cD]] W fun e w' => e = .returned (.tuple #[.int .i64 y, .int .i64 0]) ∧ Below W.heap.size W w'
  c3 : ∀ W, Calls Tryd.prog 24 #[.agg #[.int .i64 aN, .int .i64 aD], .agg #[.int .i64 cN, .int .i64 cD]] W fun e w' => e = .returned (.tuple #[.int .i64 z, .int .i64 0]) ∧ Below W.heap.size W w'
  c4 : ∀ W, Calls Tryd.prog 24 #[.agg #[.int .i64 bN, .int .i64 bD], .agg #[.int .i64 aN, .int .i64 aD]] W fun e w' => e = .returned (.tuple #[.int .i64 (-x), .int .i64 0]) ∧ Below W.heap.size W w'
  s : ∀ W, Calls Tryd.prog 18 #[.agg #[.int .i64 aN, .int .i64 aD], .agg #[.int .i64 bN, .int .i64 bD]] W fun e w' => e = .returned (.tuple #[.agg #[.int .i64 sN, .int .i64 sD], .int .i64 sE]) ∧ Below W.heap.size W w'
  p : ∀ W, Calls Tryd.prog 16 #[.agg #[.int .i64 aN, .int .i64 aD], .agg #[.int .i64 cN, .int .i64 cD]] W fun e w' => e = .returned (.tuple #[.agg #[.int .i64 pN, .int .i64 pD], .int .i64 pE]) ∧ Below W.heap.size W w'
  q : ∀ W, Calls Tryd.prog 16 #[.agg #[.int .i64 bN, .int .i64 bD], .agg #[.int .i64 cN, .int .i64 cD]] W fun e w' => e = .returned (.tuple #[.agg #[.int .i64 qN, .int .i64 qD], .int .i64 qE]) ∧ Below W.heap.size W w'
  v : pE = 0 → qE = 0 → ∀ W, Calls Tryd.prog 24 #[.agg #[.int .i64 pN, .int .i64 pD], .agg #[.int .i64 qN, .int .i64 qD]] W fun e w' => e = .returned (.tuple #[.int .i64 x, .int .i64 0]) ∧ Below W.heap.size W w'
  y3 : y = -1 ∨ y = 0 ∨ y = 1
  eq : x = 0 ↔ (aN = bN ∧ aD = bD)
  t1 : x ≤ 0 → y ≤ 0 → z ≤ 0
  t2 : x < 0 → y ≤ 0 → z < 0
  s2 : sE = 0 ∨ sE = 3
  p2 : pE = 0 ∨ pE = 3
  q2 : qE = 0 ∨ qE = 3
  sg : sE = 0 → (x < 0 → sN < 0) ∧ (x = 0 → sN = 0) ∧ (0 < x → 0 < sN)

theorem trans_le {a b c d e f : Int} (hb : 0 < b) (hd : 0 < d) (hf : 0 < f) (h1 : a * d ≤ c * b) (h2 : c * f ≤ e * d) : a * f ≤ e * b := by
  have k1 : a * d * f ≤ c * b * f := Int.mul_le_mul_of_nonneg_right h1 (by omega)
  have k2 : c * f * b ≤ e * d * b := Int.mul_le_mul_of_nonneg_right h2 (by omega)
  have e1 : a * f * d = a * d * f := by grind
  have e2 : c * b * f = c * f * b := by grind
  have e3 : e * d * b = e * b * d := by grind
  exact Int.le_of_mul_le_mul_right (a := d) (by omega) hd
theorem trans_lt {a b c d e f : Int} (hb : 0 < b) (hd : 0 < d) (hf : 0 < f) (h1 : a * d < c * b) (h2 : c * f ≤ e * d) : a * f < e * b := by
  have k1 : a * d * f < c * b * f := Int.mul_lt_mul_of_pos_right h1 hf
  have k2 : c * f * b ≤ e * d * b := Int.mul_le_mul_of_nonneg_right h2 (by omega)
  have e1 : a * f * d = a * d * f := by grind
  have e2 : c * b * f = c * f * b := by grind
  have e3 : e * d * b = e * b * d := by grind
  exact Int.lt_of_mul_lt_mul_right (a := d) (by omega) (by omega)

theorem res (aN aD bN bD cN cD : Int) (va : vld aN aD = true) (vb : vld bN bD = true) (vc : vld cN cD = true) :
    Res aN aD bN bD cN cD (sgn (aN * bD) (bN * aD)) (sgn (bN * cD) (cN * bD)) (sgn (aN * cD) (cN * aD))
      (mkN (aN * bD - bN * aD) (aD * bD)) (mkD (aN * bD - bN * aD) (aD * bD)) (mkE (aN * bD - bN * aD) (aD * bD))
      (mkN (aN * cD + cN * aD) (aD * cD)) (mkD (aN * cD + cN * aD) (aD * cD)) (mkE (aN * cD + cN * aD) (aD * cD))
      (mkN (bN * cD + cN * bD) (bD * cD)) (mkD (bN * cD + cN * bD) (bD * cD)) (mkE (bN * cD + cN * bD) (bD * cD)) := by
  have ha := den_pos va
  have hb := den_pos vb
  have hc := den_pos vc
  have hab := Int.mul_pos ha hb
  have hac := Int.mul_pos ha hc
  have hbc := Int.mul_pos hb hc
  refine ⟨cmp_v va vb, cmp_v vb vc, cmp_v va vc, fun W => ?_, sub_v va vb, add_v va vc, add_v vb vc, fun h1 h2 W => ?_, ?_, ?_, ?_, ?_, mk_two _ (by omega), mk_two _ (by omega), mk_two _ (by omega), ?_⟩
  · have h := cmp_v vb va W
    rwa [sgn_neg (aN * bD) (bN * aD)] at h
  · have v1 := mk_vld h1
    have v2 := mk_vld h2
    have h := cmp_v v1 v2 W
    have e1 := mk_val h1
    have e2 := mk_val h2
    have p1 := den_pos v1
    have p2 := den_pos v2
    have hs : sgn (mkN (aN * cD + cN * aD) (aD * cD) * mkD (bN * cD + cN * bD) (bD * cD)) (mkN (bN * cD + cN * bD) (bD * cD) * mkD (aN * cD + cN * aD) (aD * cD)) = sgn (aN * bD) (bN * aD) := by
      generalize mkN (aN * cD + cN * aD) (aD * cD) = pN at *
      generalize mkD (aN * cD + cN * aD) (aD * cD) = pD at *
      generalize mkN (bN * cD + cN * bD) (bD * cD) = qN at *
      generalize mkD (bN * cD + cN * bD) (bD * cD) = qD at *
      refine sgn_scale (P := (aD * cD) * (bD * cD)) (Q := (pD * qD) * (cD * cD)) (Int.mul_pos hac hbc) (Int.mul_pos (Int.mul_pos p1 p2) (Int.mul_pos hc hc)) ?_
      have i1 : pN * qD * (aD * cD * (bD * cD)) = (pN * (aD * cD)) * qD * (bD * cD) := by grind
      have i2 : qN * pD * (aD * cD * (bD * cD)) = (qN * (bD * cD)) * pD * (aD * cD) := by grind
      rw [Int.sub_mul, i1, i2, ← e1, ← e2]
      grind
    rwa [hs] at h
  · rcases sgn_cases (bN * cD) (cN * bD) with h | h | h
    · exact .inl h.1
    · exact .inr (.inl h.1)
    · exact .inr (.inr h.1)
  · rw [sgn_eq]
    constructor
    · intro h; exact low_eq va vb h
    · rintro ⟨rfl, rfl⟩; rfl
  · rw [sgn_le, sgn_le, sgn_le]; exact trans_le ha hb hc
  · intro h1 h2
    have h1' : aN * bD < bN * aD := by rcases sgn_cases (aN * bD) (bN * aD) with h | h | h <;> omega
    have := sgn_lt.2 (trans_lt ha hb hc h1' (sgn_le.1 h2))
    omega
  · intro h
    have e := mk_val h
    have p := den_pos (mk_vld h)
    generalize mkN (aN * bD - bN * aD) (aD * bD) = sN at *
    generalize mkD (aN * bD - bN * aD) (aD * bD) = sD at *
    have hs : sgn sN 0 = sgn (aN * bD) (bN * aD) := by
      refine sgn_scale (P := aD * bD) (Q := sD) hab p ?_
      rw [Int.sub_zero]; exact e.symm
    rw [← hs]
    rcases sgn_cases sN 0 with h | h | h <;> exact ⟨by omega, by omega, by omega⟩

set_option maxRecDepth 100000 in
set_option maxHeartbeats 1000000 in
theorem inv1 (aN aD bN bD cN cD : Int) (iaN : I64 aN) (iaD : I64 aD) (ibN : I64 bN) (ibD : I64 bD) (icN : I64 cN) (icD : I64 cD) (w : World) (hs : St w)  (va : vld aN aD = false) :
    Calls Tryd.prog 7 #[.agg #[.int .i64 aN, .int .i64 aD], .agg #[.int .i64 bN, .int .i64 bD], .agg #[.int .i64 cN, .int .i64 cD]] w fun e w' => e = .returned (.bool true) ∧ Below w.heap.size w w' := by
  have HVa := Lib.hid va; clear va
  have HS0 := Lib.hid hs; clear hs
  obtain ⟨B0, pa, pb, pc⟩ := box3 w aN aD bN bD cN cD 23
  have HS := Lib.hid (HS0.out.below B0 HS0.out.sz)
  clear HS0
  go_enter Tryd.func7, Tryd.ntmps7
  go_wp2_with fail
  generalize (((w.alloc (.cells #[.int .i64 aN, .int .i64 aD] 23)).alloc (.cells #[.int .i64 bN, .int .i64 bD] 23)).alloc (.cells #[.int .i64 cN, .int .i64 cD] 23)) = w0 at *
  refine (head_any _ HS.out).mono ?_
  rintro e w1 ⟨rfl, hb⟩
  obtain ⟨B1, z1⟩ := on_same (Below.refl w0.heap.size w0) hb
  replace pa := pa.on hb
  replace pb := pb.on hb
  replace pc := pc.on hb
  clear hb z1
  have ⟨pa0, pa1⟩ := pa
  have pal := pa.lt
  have ⟨pb0, pb1⟩ := pb
  have pbl := pb.lt
  have ⟨pc0, pc1⟩ := pc
  have pcl := pc.lt
  go_wp2_with fail
  clear pa0 pa1 pal
  clear pb0 pb1 pbl
  clear pc0 pc1 pcl
  refine (valid_b aN aD false HVa.out _ iaN iaD).mono ?_
  rintro e w2 ⟨rfl, hb⟩
  obtain ⟨B2, z2⟩ := on_same B1 hb
  replace pa := pa.on hb
  replace pb := pb.on hb
  replace pc := pc.on hb
  clear hb z2
  have ⟨pa0, pa1⟩ := pa
  have pal := pa.lt
  have ⟨pb0, pb1⟩ := pb
  have pbl := pb.lt
  have ⟨pc0, pc1⟩ := pc
  have pcl := pc.lt
  go_wp2_with fail
  clear pa0 pa1 pal
  clear pb0 pb1 pbl
  clear pc0 pc1 pcl
  go_ret
  exact ⟨rfl, B0.trans (B2.mono B0.size)⟩

set_option maxRecDepth 100000 in
set_option maxHeartbeats 1000000 in
theorem inv2 (aN aD bN bD cN cD : Int) (iaN : I64 aN) (iaD : I64 aD) (ibN : I64 bN) (ibD : I64 bD) (icN : I64 cN) (icD : I64 cD) (w : World) (hs : St w) (va : vld aN aD = true) (vb : vld bN bD = false) :
    Calls Tryd.prog 7 #[.agg #[.int .i64 aN, .int .i64 aD], .agg #[.int .i64 bN, .int .i64 bD], .agg #[.int .i64 cN, .int .i64 cD]] w fun e w' => e = .returned (.bool true) ∧ Below w.heap.size w w' := by
  have HVa := Lib.hid va; clear va
  have HVb := Lib.hid vb; clear vb
  have HS0 := Lib.hid hs; clear hs
  obtain ⟨B0, pa, pb, pc⟩ := box3 w aN aD bN bD cN cD 23
  have HS := Lib.hid (HS0.out.below B0 HS0.out.sz)
  clear HS0
  go_enter Tryd.func7, Tryd.ntmps7
  go_wp2_with fail
  generalize (((w.alloc (.cells #[.int .i64 aN, .int .i64 aD] 23)).alloc (.cells #[.int .i64 bN, .int .i64 bD] 23)).alloc (.cells #[.int .i64 cN, .int .i64 cD] 23)) = w0 at *
  refine (head_any _ HS.out).mono ?_
  rintro e w1 ⟨rfl, hb⟩
  obtain ⟨B1, z1⟩ := on_same (Below.refl w0.heap.size w0) hb
  replace pa := pa.on hb
  replace pb := pb.on hb
  replace pc := pc.on hb
  clear hb z1
  have ⟨pa0, pa1⟩ := pa
  have pal := pa.lt
  have ⟨pb0, pb1⟩ := pb
  have pbl := pb.lt
  have ⟨pc0, pc1⟩ := pc
  have pcl := pc.lt
  go_wp2_with fail
  clear pa0 pa1 pal
  clear pb0 pb1 pbl
  clear pc0 pc1 pcl
  refine (valid_b aN aD true HVa.out _ iaN iaD).mono ?_
  rintro e w2 ⟨rfl, hb⟩
  obtain ⟨B2, z2⟩ := on_same B1 hb
  replace pa := pa.on hb
  replace pb := pb.on hb
  replace pc := pc.on hb
  clear hb z2
  have ⟨pa0, pa1⟩ := pa
  have pal := pa.lt
  have ⟨pb0, pb1⟩ := pb
  have pbl := pb.lt
  have ⟨pc0, pc1⟩ := pc
  have pcl := pc.lt
  go_wp2_with fail
  clear pa0 pa1 pal
  clear pb0 pb1 pbl
  clear pc0 pc1 pcl
  refine (valid_b bN bD false HVb.out _ ibN ibD).mono ?_
  rintro e w3 ⟨rfl, hb⟩
  obtain ⟨B3, z3⟩ := on_same B2 hb
  replace pa := pa.on hb
  replace pb := pb.on hb
  replace pc := pc.on hb
  clear hb z3
  have ⟨pa0, pa1⟩ := pa
  have pal := pa.lt
  have ⟨pb0, pb1⟩ := pb
  have pbl := pb.lt
  have ⟨pc0, pc1⟩ := pc
  have pcl := pc.lt
  go_wp2_with fail
  clear pa0 pa1 pal
  clear pb0 pb1 pbl
  clear pc0 pc1 pcl
  go_ret
  exact ⟨rfl, B0.trans (B3.mono B0.size)⟩

set_option maxRecDepth 100000 in
set_option maxHeartbeats 1000000 in
theorem inv3 (aN aD bN bD cN cD : Int) (iaN : I64 aN) (iaD : I64 aD) (ibN : I64 bN) (ibD : I64 bD) (icN : I64 cN) (icD : I64 cD) (w : World) (hs : St w) (va : vld aN aD = true) (vb : vld bN bD = true) (vc : vld cN cD = false) :
    Calls Tryd.prog 7 #[.agg #[.int .i64 aN, .int .i64 aD], .agg #[.int .i64 bN, .int .i64 bD], .agg #[.int .i64 cN, .int .i64 cD]] w fun e w' => e = .returned (.bool true) ∧ Below w.heap.size w w' := by
  have HVa := Lib.hid va; clear va
  have HVb := Lib.hid vb; clear vb
  have HVc := Lib.hid vc; clear vc
  have HS0 := Lib.hid hs; clear hs
  obtain ⟨B0, pa, pb, pc⟩ := box3 w aN aD bN bD cN cD 23
  have HS := Lib.hid (HS0.out.below B0 HS0.out.sz)
  clear HS0
  go_enter Tryd.func7, Tryd.ntmps7
  go_wp2_with fail
  generalize (((w.alloc (.cells #[.int .i64 aN, .int .i64 aD] 23)).alloc (.cells #[.int .i64 bN, .int .i64 bD] 23)).alloc (.cells #[.int .i64 cN, .int .i64 cD] 23)) = w0 at *
  refine (head_any _ HS.out).mono ?_
  rintro e w1 ⟨rfl, hb⟩
  obtain ⟨B1, z1⟩ := on_same (Below.refl w0.heap.size w0) hb
  replace pa := pa.on hb
  replace pb := pb.on hb
  replace pc := pc.on hb
  clear hb z1
  have ⟨pa0, pa1⟩ := pa
  have pal := pa.lt
  have ⟨pb0, pb1⟩ := pb
  have pbl := pb.lt
  have ⟨pc0, pc1⟩ := pc
  have pcl := pc.lt
  go_wp2_with fail
  clear pa0 pa1 pal
  clear pb0 pb1 pbl
  clear pc0 pc1 pcl
  refine (valid_b aN aD true HVa.out _ iaN iaD).mono ?_
  rintro e w2 ⟨rfl, hb⟩
  obtain ⟨B2, z2⟩ := on_same B1 hb
  replace pa := pa.on hb
  replace pb := pb.on hb
  replace pc := pc.on hb
  clear hb z2
  have ⟨pa0, pa1⟩ := pa
  have pal := pa.lt
  have ⟨pb0, pb1⟩ := pb
  have pbl := pb.lt
  have ⟨pc0, pc1⟩ := pc
  have pcl := pc.lt
  go_wp2_with fail
  clear pa0 pa1 pal
  clear pb0 pb1 pbl
  clear pc0 pc1 pcl
  refine (valid_b bN bD true HVb.out _ ibN ibD).mono ?_
  rintro e w3 ⟨rfl, hb⟩
  obtain ⟨B3, z3⟩ := on_same B2 hb
  replace pa := pa.on hb
  replace pb := pb.on hb
  replace pc := pc.on hb
  clear hb z3
  have ⟨pa0, pa1⟩ := pa
  have pal := pa.lt
  have ⟨pb0, pb1⟩ := pb
  have pbl := pb.lt
  have ⟨pc0, pc1⟩ := pc
  have pcl := pc.lt
  go_wp2_with fail
  clear pa0 pa1 pal
  clear pb0 pb1 pbl
  clear pc0 pc1 pcl
  refine (valid_b cN cD false HVc.out _ icN icD).mono ?_
  rintro e w4 ⟨rfl, hb⟩
  obtain ⟨B4, z4⟩ := on_same B3 hb
  replace pa := pa.on hb
  replace pb := pb.on hb
  replace pc := pc.on hb
  clear hb z4
  have ⟨pa0, pa1⟩ := pa
  have pal := pa.lt
  have ⟨pb0, pb1⟩ := pb
  have pbl := pb.lt
  have ⟨pc0, pc1⟩ := pc
  have pcl := pc.lt
  go_wp2_with fail
  clear pa0 pa1 pal
  clear pb0 pb1 pbl
  clear pc0 pc1 pcl
  go_ret
  exact ⟨rfl, B0.trans (B4.mono B0.size)⟩

set_option maxRecDepth 100000 in
set_option maxHeartbeats 2000000 in
theorem ok_lt (aN aD bN bD cN cD : Int) (iaN : I64 aN) (iaD : I64 aD) (ibN : I64 bN) (ibD : I64 bD) (icN : I64 cN) (icD : I64 cD) (w : World) (hs : St w) (va : vld aN aD = true) (vb : vld bN bD = true) (vc : vld cN cD = true) (y z sN sD sE pN pD pE qN qD qE : Int) (r : Res aN aD bN bD cN cD (-1) y z sN sD sE pN pD pE qN qD qE) :
    Calls Tryd.prog 7 #[.agg #[.int .i64 aN, .int .i64 aD], .agg #[.int .i64 bN, .int .i64 bD], .agg #[.int .i64 cN, .int .i64 cD]] w fun e w' => e = .returned (.bool true) ∧ Below w.heap.size w w' := by
  have HVa := Lib.hid va; clear va
  have HVb := Lib.hid vb; clear vb
  have HVc := Lib.hid vc; clear vc
  have qe := fun W => rat_no (a := aN) (b := aD) (c := bN) (d := bD) (fun e => by have := r.eq.2 e; omega) W
  have HR := Lib.hid r; clear r
  have HS0 := Lib.hid hs; clear hs
  obtain ⟨B0, pa, pb, pc⟩ := box3 w aN aD bN bD cN cD 23
  have HS := Lib.hid (HS0.out.below B0 HS0.out.sz)
  clear HS0
  go_enter Tryd.func7, Tryd.ntmps7
  go_wp2_with fail
  generalize (((w.alloc (.cells #[.int .i64 aN, .int .i64 aD] 23)).alloc (.cells #[.int .i64 bN, .int .i64 bD] 23)).alloc (.cells #[.int .i64 cN, .int .i64 cD] 23)) = w0 at *
  refine (head_any _ HS.out).mono ?_
  rintro e w1 ⟨rfl, hb⟩
  obtain ⟨B1, z1⟩ := on_same (Below.refl w0.heap.size w0) hb
  replace pa := pa.on hb
  replace pb := pb.on hb
  replace pc := pc.on hb
  clear hb z1
  have ⟨pa0, pa1⟩ := pa
  have pal := pa.lt
  have ⟨pb0, pb1⟩ := pb
  have pbl := pb.lt
  have ⟨pc0, pc1⟩ := pc
  have pcl := pc.lt
  go_wp2_with fail
  clear pa0 pa1 pal
  clear pb0 pb1 pbl
  clear pc0 pc1 pcl
  refine (valid_b aN aD true HVa.out _ iaN iaD).mono ?_
  rintro e w2 ⟨rfl, hb⟩
  obtain ⟨B2, z2⟩ := on_same B1 hb
  replace pa := pa.on hb
  replace pb := pb.on hb
  replace pc := pc.on hb
  clear hb z2
  have ⟨pa0, pa1⟩ := pa
  have pal := pa.lt
  have ⟨pb0, pb1⟩ := pb
  have pbl := pb.lt
  have ⟨pc0, pc1⟩ := pc
  have pcl := pc.lt
  go_wp2_with fail
  clear pa0 pa1 pal
  clear pb0 pb1 pbl
  clear pc0 pc1 pcl
  refine (valid_b bN bD true HVb.out _ ibN ibD).mono ?_
  rintro e w3 ⟨rfl, hb⟩
  obtain ⟨B3, z3⟩ := on_same B2 hb
  replace pa := pa.on hb
  replace pb := pb.on hb
  replace pc := pc.on hb
  clear hb z3
  have ⟨pa0, pa1⟩ := pa
  have pal := pa.lt
  have ⟨pb0, pb1⟩ := pb
  have pbl := pb.lt
  have ⟨pc0, pc1⟩ := pc
  have pcl := pc.lt
  go_wp2_with fail
  clear pa0 pa1 pal
  clear pb0 pb1 pbl
  clear pc0 pc1 pcl
  refine (valid_b cN cD true HVc.out _ icN icD).mono ?_
  rintro e w4 ⟨rfl, hb⟩
  obtain ⟨B4, z4⟩ := on_same B3 hb
  replace pa := pa.on hb
  replace pb := pb.on hb
  replace pc := pc.on hb
  clear hb z4
  have ⟨pa0, pa1⟩ := pa
  have pal := pa.lt
  have ⟨pb0, pb1⟩ := pb
  have pbl := pb.lt
  have ⟨pc0, pc1⟩ := pc
  have pcl := pc.lt
  go_wp2_with fail
  clear pa0 pa1 pal
  clear pb0 pb1 pbl
  clear pc0 pc1 pcl
  refine (HR.out.c1 _).mono ?_
  rintro e w5 ⟨rfl, hb⟩
  obtain ⟨B5, z5⟩ := on_same B4 hb
  replace pa := pa.on hb
  replace pb := pb.on hb
  replace pc := pc.on hb
  clear hb z5
  have ⟨pa0, pa1⟩ := pa
  have pal := pa.lt
  have ⟨pb0, pb1⟩ := pb
  have pbl := pb.lt
  have ⟨pc0, pc1⟩ := pc
  have pcl := pc.lt
  go_wp2_with fail
  clear pa0 pa1 pal
  clear pb0 pb1 pbl
  clear pc0 pc1 pcl
  refine (HR.out.c2 _).mono ?_
  rintro e w6 ⟨rfl, hb⟩
  obtain ⟨B6, z6⟩ := on_same B5 hb
  replace pa := pa.on hb
  replace pb := pb.on hb
  replace pc := pc.on hb
  clear hb z6
  have ⟨pa0, pa1⟩ := pa
  have pal := pa.lt
  have ⟨pb0, pb1⟩ := pb
  have pbl := pb.lt
  have ⟨pc0, pc1⟩ := pc
  have pcl := pc.lt
  go_wp2_with fail
  clear pa0 pa1 pal
  clear pb0 pb1 pbl
  clear pc0 pc1 pcl
  refine (HR.out.c3 _).mono ?_
  rintro e w7 ⟨rfl, hb⟩
  obtain ⟨B7, z7⟩ := on_same B6 hb
  replace pa := pa.on hb
  replace pb := pb.on hb
  replace pc := pc.on hb
  clear hb z7
  have ⟨pa0, pa1⟩ := pa
  have pal := pa.lt
  have ⟨pb0, pb1⟩ := pb
  have pbl := pb.lt
  have ⟨pc0, pc1⟩ := pc
  have pcl := pc.lt
  go_wp2_with fail
  clear pa0 pa1 pal
  clear pb0 pb1 pbl
  clear pc0 pc1 pcl
  refine (HR.out.c4 _).mono ?_
  rintro e w8 ⟨rfl, hb⟩
  obtain ⟨B8, z8⟩ := on_same B7 hb
  replace pa := pa.on hb
  replace pb := pb.on hb
  replace pc := pc.on hb
  clear hb z8
  have ⟨pa0, pa1⟩ := pa
  have pal := pa.lt
  have ⟨pb0, pb1⟩ := pb
  have pbl := pb.lt
  have ⟨pc0, pc1⟩ := pc
  have pcl := pc.lt
  go_upto_region 10 with fail
  clear qe
  go_cut [120] (fun s wx => s = .bool false ∧ wx = w8)
  case first =>
    by_cases hy : y ≤ 0
    · have zz := HR.out.t2 (by omega) hy
      have z0 : (z == 0) = false := by simp; omega
      go_wp2_with fail
      go_meet
      exact ⟨by first | rfl | (simp; omega), rfl⟩
    · go_wp2_with fail
      go_meet
      exact ⟨by first | rfl | (simp; omega), rfl⟩
  case rest =>
  obtain ⟨rfl, rfl⟩ := hcut
  clear pa0 pa1 pal
  clear pb0 pb1 pbl
  clear pc0 pc1 pcl
  have ⟨pa0, pa1⟩ := pa
  have pal := pa.lt
  have ⟨pb0, pb1⟩ := pb
  have pbl := pb.lt
  have ⟨pc0, pc1⟩ := pc
  have pcl := pc.lt
  go_wp2_with fail
  clear pa0 pa1 pal
  clear pb0 pb1 pbl
  clear pc0 pc1 pcl
  refine (HR.out.s _).mono ?_
  rintro e w9 ⟨rfl, hb⟩
  obtain ⟨B9, z9⟩ := on_same B8 hb
  replace pa := pa.on hb
  replace pb := pb.on hb
  replace pc := pc.on hb
  clear hb z9
  go_upto_region 13 with fail
  have ps : Pr (w9.alloc (.cells #[.int .i64 sN, .int .i64 sD] 23)) w9.heap.size sN sD := Pr.here _ _ _ _
  have ⟨ps0, ps1⟩ := ps
  go_cut [144] (fun s wx => s = .bool false ∧ wx = w9.alloc (.cells #[.int .i64 sN, .int .i64 sD] 23))
  case first =>
    rcases HR.out.s2 with h | h
    · have k := HR.out.sg h |>.1 (by omega)
      subst h
      go_wp2_with fail
      go_meet
      exact ⟨by first | rfl | (simp; omega), rfl⟩
    · subst h
      go_wp2_with fail
      go_meet
      exact ⟨by first | rfl | (simp; omega), rfl⟩
  case rest =>
  obtain ⟨rfl, rfl⟩ := hcut
  clear ps ps0 ps1
  have ⟨pa0, pa1⟩ := pa
  have pal := pa.lt
  have ⟨pb0, pb1⟩ := pb
  have pbl := pb.lt
  have ⟨pc0, pc1⟩ := pc
  have pcl := pc.lt
  go_wp2_with fail
  clear pa0 pa1 pal
  clear pb0 pb1 pbl
  clear pc0 pc1 pcl
  refine (HR.out.p _).mono ?_
  rintro e w10 ⟨rfl, hb⟩
  obtain ⟨B10, z10⟩ := on_new B9 hb
  replace pa := pa.next hb
  replace pb := pb.next hb
  replace pc := pc.next hb
  clear hb z10
  have ⟨pa0, pa1⟩ := pa
  have pal := pa.lt
  have ⟨pb0, pb1⟩ := pb
  have pbl := pb.lt
  have ⟨pc0, pc1⟩ := pc
  have pcl := pc.lt
  go_wp2_with fail
  clear pa0 pa1 pal
  clear pb0 pb1 pbl
  clear pc0 pc1 pcl
  refine (HR.out.q _).mono ?_
  rintro e w11 ⟨rfl, hb⟩
  obtain ⟨B11, z11⟩ := on_new B10 hb
  have pp := Pr.new hb
  clear hb z11 pa pb pc
  have ⟨pp0, pp1⟩ := pp
  have ppl := pp.lt
  rcases HR.out.p2 with h | h
  · rcases HR.out.q2 with h' | h'
    · have HV := Lib.hid (HR.out.v h h')
      subst h
      subst h'
      go_wp2_with fail
      refine (HV.out _).mono ?_
      rintro e we ⟨rfl, hb⟩
      obtain ⟨Be, ze⟩ := on_new B11 hb
      clear hb
      go_wp2_with fail
      go_ret
      exact ⟨rfl, B0.trans (Be.mono B0.size)⟩
    · subst h
      subst h'
      go_wp2_with fail
      go_ret
      exact ⟨rfl, B0.trans (((B11.alloc B11.size _)).mono B0.size)⟩
  · subst h
    go_wp2_with fail
    go_ret
    exact ⟨rfl, B0.trans (((B11.alloc B11.size _)).mono B0.size)⟩

set_option maxRecDepth 100000 in
set_option maxHeartbeats 2000000 in
theorem ok_eq (aN aD bN bD cN cD : Int) (iaN : I64 aN) (iaD : I64 aD) (ibN : I64 bN) (ibD : I64 bD) (icN : I64 cN) (icD : I64 cD) (w : World) (hs : St w) (va : vld aN aD = true) (vb : vld bN bD = true) (vc : vld cN cD = true) (y z sN sD sE pN pD pE qN qD qE : Int) (r : Res aN aD bN bD cN cD (0) y z sN sD sE pN pD pE qN qD qE) :
    Calls Tryd.prog 7 #[.agg #[.int .i64 aN, .int .i64 aD], .agg #[.int .i64 bN, .int .i64 bD], .agg #[.int .i64 cN, .int .i64 cD]] w fun e w' => e = .returned (.bool true) ∧ Below w.heap.size w w' := by
  have HVa := Lib.hid va; clear va
  have HVb := Lib.hid vb; clear vb
  have HVc := Lib.hid vc; clear vc
  have qe := fun W => rat_yes (r.eq.1 rfl) W
  have HR := Lib.hid r; clear r
  have HS0 := Lib.hid hs; clear hs
  obtain ⟨B0, pa, pb, pc⟩ := box3 w aN aD bN bD cN cD 23
  have HS := Lib.hid (HS0.out.below B0 HS0.out.sz)
  clear HS0
  go_enter Tryd.func7, Tryd.ntmps7
  go_wp2_with fail
  generalize (((w.alloc (.cells #[.int .i64 aN, .int .i64 aD] 23)).alloc (.cells #[.int .i64 bN, .int .i64 bD] 23)).alloc (.cells #[.int .i64 cN, .int .i64 cD] 23)) = w0 at *
  refine (head_any _ HS.out).mono ?_
  rintro e w1 ⟨rfl, hb⟩
  obtain ⟨B1, z1⟩ := on_same (Below.refl w0.heap.size w0) hb
  replace pa := pa.on hb
  replace pb := pb.on hb
  replace pc := pc.on hb
  clear hb z1
  have ⟨pa0, pa1⟩ := pa
  have pal := pa.lt
  have ⟨pb0, pb1⟩ := pb
  have pbl := pb.lt
  have ⟨pc0, pc1⟩ := pc
  have pcl := pc.lt
  go_wp2_with fail
  clear pa0 pa1 pal
  clear pb0 pb1 pbl
  clear pc0 pc1 pcl
  refine (valid_b aN aD true HVa.out _ iaN iaD).mono ?_
  rintro e w2 ⟨rfl, hb⟩
  obtain ⟨B2, z2⟩ := on_same B1 hb
  replace pa := pa.on hb
  replace pb := pb.on hb
  replace pc := pc.on hb
  clear hb z2
  have ⟨pa0, pa1⟩ := pa
  have pal := pa.lt
  have ⟨pb0, pb1⟩ := pb
  have pbl := pb.lt
  have ⟨pc0, pc1⟩ := pc
  have pcl := pc.lt
  go_wp2_with fail
  clear pa0 pa1 pal
  clear pb0 pb1 pbl
  clear pc0 pc1 pcl
  refine (valid_b bN bD true HVb.out _ ibN ibD).mono ?_
  rintro e w3 ⟨rfl, hb⟩
  obtain ⟨B3, z3⟩ := on_same B2 hb
  replace pa := pa.on hb
  replace pb := pb.on hb
  replace pc := pc.on hb
  clear hb z3
  have ⟨pa0, pa1⟩ := pa
  have pal := pa.lt
  have ⟨pb0, pb1⟩ := pb
  have pbl := pb.lt
  have ⟨pc0, pc1⟩ := pc
  have pcl := pc.lt
  go_wp2_with fail
  clear pa0 pa1 pal
  clear pb0 pb1 pbl
  clear pc0 pc1 pcl
  refine (valid_b cN cD true HVc.out _ icN icD).mono ?_
  rintro e w4 ⟨rfl, hb⟩
  obtain ⟨B4, z4⟩ := on_same B3 hb
  replace pa := pa.on hb
  replace pb := pb.on hb
  replace pc := pc.on hb
  clear hb z4
  have ⟨pa0, pa1⟩ := pa
  have pal := pa.lt
  have ⟨pb0, pb1⟩ := pb
  have pbl := pb.lt
  have ⟨pc0, pc1⟩ := pc
  have pcl := pc.lt
  go_wp2_with fail
  clear pa0 pa1 pal
  clear pb0 pb1 pbl
  clear pc0 pc1 pcl
  refine (HR.out.c1 _).mono ?_
  rintro e w5 ⟨rfl, hb⟩
  obtain ⟨B5, z5⟩ := on_same B4 hb
  replace pa := pa.on hb
  replace pb := pb.on hb
  replace pc := pc.on hb
  clear hb z5
  have ⟨pa0, pa1⟩ := pa
  have pal := pa.lt
  have ⟨pb0, pb1⟩ := pb
  have pbl := pb.lt
  have ⟨pc0, pc1⟩ := pc
  have pcl := pc.lt
  go_wp2_with fail
  clear pa0 pa1 pal
  clear pb0 pb1 pbl
  clear pc0 pc1 pcl
  refine (HR.out.c2 _).mono ?_
  rintro e w6 ⟨rfl, hb⟩
  obtain ⟨B6, z6⟩ := on_same B5 hb
  replace pa := pa.on hb
  replace pb := pb.on hb
  replace pc := pc.on hb
  clear hb z6
  have ⟨pa0, pa1⟩ := pa
  have pal := pa.lt
  have ⟨pb0, pb1⟩ := pb
  have pbl := pb.lt
  have ⟨pc0, pc1⟩ := pc
  have pcl := pc.lt
  go_wp2_with fail
  clear pa0 pa1 pal
  clear pb0 pb1 pbl
  clear pc0 pc1 pcl
  refine (HR.out.c3 _).mono ?_
  rintro e w7 ⟨rfl, hb⟩
  obtain ⟨B7, z7⟩ := on_same B6 hb
  replace pa := pa.on hb
  replace pb := pb.on hb
  replace pc := pc.on hb
  clear hb z7
  have ⟨pa0, pa1⟩ := pa
  have pal := pa.lt
  have ⟨pb0, pb1⟩ := pb
  have pbl := pb.lt
  have ⟨pc0, pc1⟩ := pc
  have pcl := pc.lt
  go_wp2_with fail
  clear pa0 pa1 pal
  clear pb0 pb1 pbl
  clear pc0 pc1 pcl
  refine (HR.out.c4 _).mono ?_
  rintro e w8 ⟨rfl, hb⟩
  obtain ⟨B8, z8⟩ := on_same B7 hb
  replace pa := pa.on hb
  replace pb := pb.on hb
  replace pc := pc.on hb
  clear hb z8
  have ⟨pa0, pa1⟩ := pa
  have pal := pa.lt
  have ⟨pb0, pb1⟩ := pb
  have pbl := pb.lt
  have ⟨pc0, pc1⟩ := pc
  have pcl := pc.lt
  go_upto_region 10 with fail
  clear qe
  go_cut [120] (fun s wx => s = .bool false ∧ wx = w8)
  case first =>
    by_cases hy : y ≤ 0
    · have zz := HR.out.t1 (by omega) hy
      go_wp2_with fail
      go_meet
      exact ⟨by first | rfl | (simp; omega), rfl⟩
    · go_wp2_with fail
      go_meet
      exact ⟨by first | rfl | (simp; omega), rfl⟩
  case rest =>
  obtain ⟨rfl, rfl⟩ := hcut
  clear pa0 pa1 pal
  clear pb0 pb1 pbl
  clear pc0 pc1 pcl
  have ⟨pa0, pa1⟩ := pa
  have pal := pa.lt
  have ⟨pb0, pb1⟩ := pb
  have pbl := pb.lt
  have ⟨pc0, pc1⟩ := pc
  have pcl := pc.lt
  go_wp2_with fail
  clear pa0 pa1 pal
  clear pb0 pb1 pbl
  clear pc0 pc1 pcl
  refine (HR.out.s _).mono ?_
  rintro e w9 ⟨rfl, hb⟩
  obtain ⟨B9, z9⟩ := on_same B8 hb
  replace pa := pa.on hb
  replace pb := pb.on hb
  replace pc := pc.on hb
  clear hb z9
  go_upto_region 13 with fail
  have ps : Pr (w9.alloc (.cells #[.int .i64 sN, .int .i64 sD] 23)) w9.heap.size sN sD := Pr.here _ _ _ _
  have ⟨ps0, ps1⟩ := ps
  go_cut [144] (fun s wx => s = .bool false ∧ wx = w9.alloc (.cells #[.int .i64 sN, .int .i64 sD] 23))
  case first =>
    rcases HR.out.s2 with h | h
    · have k := HR.out.sg h |>.2.1 rfl
      subst h
      subst k
      go_wp2_with fail
      go_meet
      exact ⟨by first | rfl | (simp; omega), rfl⟩
    · subst h
      go_wp2_with fail
      go_meet
      exact ⟨by first | rfl | (simp; omega), rfl⟩
  case rest =>
  obtain ⟨rfl, rfl⟩ := hcut
  clear ps ps0 ps1
  have ⟨pa0, pa1⟩ := pa
  have pal := pa.lt
  have ⟨pb0, pb1⟩ := pb
  have pbl := pb.lt
  have ⟨pc0, pc1⟩ := pc
  have pcl := pc.lt
  go_wp2_with fail
  clear pa0 pa1 pal
  clear pb0 pb1 pbl
  clear pc0 pc1 pcl
  refine (HR.out.p _).mono ?_
  rintro e w10 ⟨rfl, hb⟩
  obtain ⟨B10, z10⟩ := on_new B9 hb
  replace pa := pa.next hb
  replace pb := pb.next hb
  replace pc := pc.next hb
  clear hb z10
  have ⟨pa0, pa1⟩ := pa
  have pal := pa.lt
  have ⟨pb0, pb1⟩ := pb
  have pbl := pb.lt
  have ⟨pc0, pc1⟩ := pc
  have pcl := pc.lt
  go_wp2_with fail
  clear pa0 pa1 pal
  clear pb0 pb1 pbl
  clear pc0 pc1 pcl
  refine (HR.out.q _).mono ?_
  rintro e w11 ⟨rfl, hb⟩
  obtain ⟨B11, z11⟩ := on_new B10 hb
  have pp := Pr.new hb
  clear hb z11 pa pb pc
  have ⟨pp0, pp1⟩ := pp
  have ppl := pp.lt
  rcases HR.out.p2 with h | h
  · rcases HR.out.q2 with h' | h'
    · have HV := Lib.hid (HR.out.v h h')
      subst h
      subst h'
      go_wp2_with fail
      refine (HV.out _).mono ?_
      rintro e we ⟨rfl, hb⟩
      obtain ⟨Be, ze⟩ := on_new B11 hb
      clear hb
      go_wp2_with fail
      go_ret
      exact ⟨rfl, B0.trans (Be.mono B0.size)⟩
    · subst h
      subst h'
      go_wp2_with fail
      go_ret
      exact ⟨rfl, B0.trans (((B11.alloc B11.size _)).mono B0.size)⟩
  · subst h
    go_wp2_with fail
    go_ret
    exact ⟨rfl, B0.trans (((B11.alloc B11.size _)).mono B0.size)⟩

set_option maxRecDepth 100000 in
set_option maxHeartbeats 2000000 in
theorem ok_gt (aN aD bN bD cN cD : Int) (iaN : I64 aN) (iaD : I64 aD) (ibN : I64 bN) (ibD : I64 bD) (icN : I64 cN) (icD : I64 cD) (w : World) (hs : St w) (va : vld aN aD = true) (vb : vld bN bD = true) (vc : vld cN cD = true) (y z sN sD sE pN pD pE qN qD qE : Int) (r : Res aN aD bN bD cN cD (1) y z sN sD sE pN pD pE qN qD qE) :
    Calls Tryd.prog 7 #[.agg #[.int .i64 aN, .int .i64 aD], .agg #[.int .i64 bN, .int .i64 bD], .agg #[.int .i64 cN, .int .i64 cD]] w fun e w' => e = .returned (.bool true) ∧ Below w.heap.size w w' := by
  have HVa := Lib.hid va; clear va
  have HVb := Lib.hid vb; clear vb
  have HVc := Lib.hid vc; clear vc
  have qe := fun W => rat_no (a := aN) (b := aD) (c := bN) (d := bD) (fun e => by have := r.eq.2 e; omega) W
  have HR := Lib.hid r; clear r
  have HS0 := Lib.hid hs; clear hs
  obtain ⟨B0, pa, pb, pc⟩ := box3 w aN aD bN bD cN cD 23
  have HS := Lib.hid (HS0.out.below B0 HS0.out.sz)
  clear HS0
  go_enter Tryd.func7, Tryd.ntmps7
  go_wp2_with fail
  generalize (((w.alloc (.cells #[.int .i64 aN, .int .i64 aD] 23)).alloc (.cells #[.int .i64 bN, .int .i64 bD] 23)).alloc (.cells #[.int .i64 cN, .int .i64 cD] 23)) = w0 at *
  refine (head_any _ HS.out).mono ?_
  rintro e w1 ⟨rfl, hb⟩
  obtain ⟨B1, z1⟩ := on_same (Below.refl w0.heap.size w0) hb
  replace pa := pa.on hb
  replace pb := pb.on hb
  replace pc := pc.on hb
  clear hb z1
  have ⟨pa0, pa1⟩ := pa
  have pal := pa.lt
  have ⟨pb0, pb1⟩ := pb
  have pbl := pb.lt
  have ⟨pc0, pc1⟩ := pc
  have pcl := pc.lt
  go_wp2_with fail
  clear pa0 pa1 pal
  clear pb0 pb1 pbl
  clear pc0 pc1 pcl
  refine (valid_b aN aD true HVa.out _ iaN iaD).mono ?_
  rintro e w2 ⟨rfl, hb⟩
  obtain ⟨B2, z2⟩ := on_same B1 hb
  replace pa := pa.on hb
  replace pb := pb.on hb
  replace pc := pc.on hb
  clear hb z2
  have ⟨pa0, pa1⟩ := pa
  have pal := pa.lt
  have ⟨pb0, pb1⟩ := pb
  have pbl := pb.lt
  have ⟨pc0, pc1⟩ := pc
  have pcl := pc.lt
  go_wp2_with fail
  clear pa0 pa1 pal
  clear pb0 pb1 pbl
  clear pc0 pc1 pcl
  refine (valid_b bN bD true HVb.out _ ibN ibD).mono ?_
  rintro e w3 ⟨rfl, hb⟩
  obtain ⟨B3, z3⟩ := on_same B2 hb
  replace pa := pa.on hb
  replace pb := pb.on hb
  replace pc := pc.on hb
  clear hb z3
  have ⟨pa0, pa1⟩ := pa
  have pal := pa.lt
  have ⟨pb0, pb1⟩ := pb
  have pbl := pb.lt
  have ⟨pc0, pc1⟩ := pc
  have pcl := pc.lt
  go_wp2_with fail
  clear pa0 pa1 pal
  clear pb0 pb1 pbl
  clear pc0 pc1 pcl
  refine (valid_b cN cD true HVc.out _ icN icD).mono ?_
  rintro e w4 ⟨rfl, hb⟩
  obtain ⟨B4, z4⟩ := on_same B3 hb
  replace pa := pa.on hb
  replace pb := pb.on hb
  replace pc := pc.on hb
  clear hb z4
  have ⟨pa0, pa1⟩ := pa
  have pal := pa.lt
  have ⟨pb0, pb1⟩ := pb
  have pbl := pb.lt
  have ⟨pc0, pc1⟩ := pc
  have pcl := pc.lt
  go_wp2_with fail
  clear pa0 pa1 pal
  clear pb0 pb1 pbl
  clear pc0 pc1 pcl
  refine (HR.out.c1 _).mono ?_
  rintro e w5 ⟨rfl, hb⟩
  obtain ⟨B5, z5⟩ := on_same B4 hb
  replace pa := pa.on hb
  replace pb := pb.on hb
  replace pc := pc.on hb
  clear hb z5
  have ⟨pa0, pa1⟩ := pa
  have pal := pa.lt
  have ⟨pb0, pb1⟩ := pb
  have pbl := pb.lt
  have ⟨pc0, pc1⟩ := pc
  have pcl := pc.lt
  go_wp2_with fail
  clear pa0 pa1 pal
  clear pb0 pb1 pbl
  clear pc0 pc1 pcl
  refine (HR.out.c2 _).mono ?_
  rintro e w6 ⟨rfl, hb⟩
  obtain ⟨B6, z6⟩ := on_same B5 hb
  replace pa := pa.on hb
  replace pb := pb.on hb
  replace pc := pc.on hb
  clear hb z6
  have ⟨pa0, pa1⟩ := pa
  have pal := pa.lt
  have ⟨pb0, pb1⟩ := pb
  have pbl := pb.lt
  have ⟨pc0, pc1⟩ := pc
  have pcl := pc.lt
  go_wp2_with fail
  clear pa0 pa1 pal
  clear pb0 pb1 pbl
  clear pc0 pc1 pcl
  refine (HR.out.c3 _).mono ?_
  rintro e w7 ⟨rfl, hb⟩
  obtain ⟨B7, z7⟩ := on_same B6 hb
  replace pa := pa.on hb
  replace pb := pb.on hb
  replace pc := pc.on hb
  clear hb z7
  have ⟨pa0, pa1⟩ := pa
  have pal := pa.lt
  have ⟨pb0, pb1⟩ := pb
  have pbl := pb.lt
  have ⟨pc0, pc1⟩ := pc
  have pcl := pc.lt
  go_wp2_with fail
  clear pa0 pa1 pal
  clear pb0 pb1 pbl
  clear pc0 pc1 pcl
  refine (HR.out.c4 _).mono ?_
  rintro e w8 ⟨rfl, hb⟩
  obtain ⟨B8, z8⟩ := on_same B7 hb
  replace pa := pa.on hb
  replace pb := pb.on hb
  replace pc := pc.on hb
  clear hb z8
  have ⟨pa0, pa1⟩ := pa
  have pal := pa.lt
  have ⟨pb0, pb1⟩ := pb
  have pbl := pb.lt
  have ⟨pc0, pc1⟩ := pc
  have pcl := pc.lt
  go_upto_region 10 with fail
  clear qe
  go_cut [120] (fun s wx => s = .bool false ∧ wx = w8)
  case first =>
    go_wp2_with fail
    go_meet
    exact ⟨by first | rfl | (simp; omega), rfl⟩
  case rest =>
  obtain ⟨rfl, rfl⟩ := hcut
  clear pa0 pa1 pal
  clear pb0 pb1 pbl
  clear pc0 pc1 pcl
  have ⟨pa0, pa1⟩ := pa
  have pal := pa.lt
  have ⟨pb0, pb1⟩ := pb
  have pbl := pb.lt
  have ⟨pc0, pc1⟩ := pc
  have pcl := pc.lt
  go_wp2_with fail
  clear pa0 pa1 pal
  clear pb0 pb1 pbl
  clear pc0 pc1 pcl
  refine (HR.out.s _).mono ?_
  rintro e w9 ⟨rfl, hb⟩
  obtain ⟨B9, z9⟩ := on_same B8 hb
  replace pa := pa.on hb
  replace pb := pb.on hb
  replace pc := pc.on hb
  clear hb z9
  go_upto_region 13 with fail
  have ps : Pr (w9.alloc (.cells #[.int .i64 sN, .int .i64 sD] 23)) w9.heap.size sN sD := Pr.here _ _ _ _
  have ⟨ps0, ps1⟩ := ps
  go_cut [144] (fun s wx => s = .bool false ∧ wx = w9.alloc (.cells #[.int .i64 sN, .int .i64 sD] 23))
  case first =>
    rcases HR.out.s2 with h | h
    · have k := HR.out.sg h |>.2.2 (by omega)
      subst h
      go_wp2_with fail
      go_meet
      exact ⟨by first | rfl | (simp; omega), rfl⟩
    · subst h
      go_wp2_with fail
      go_meet
      exact ⟨by first | rfl | (simp; omega), rfl⟩
  case rest =>
  obtain ⟨rfl, rfl⟩ := hcut
  clear ps ps0 ps1
  have ⟨pa0, pa1⟩ := pa
  have pal := pa.lt
  have ⟨pb0, pb1⟩ := pb
  have pbl := pb.lt
  have ⟨pc0, pc1⟩ := pc
  have pcl := pc.lt
  go_wp2_with fail
  clear pa0 pa1 pal
  clear pb0 pb1 pbl
  clear pc0 pc1 pcl
  refine (HR.out.p _).mono ?_
  rintro e w10 ⟨rfl, hb⟩
  obtain ⟨B10, z10⟩ := on_new B9 hb
  replace pa := pa.next hb
  replace pb := pb.next hb
  replace pc := pc.next hb
  clear hb z10
  have ⟨pa0, pa1⟩ := pa
  have pal := pa.lt
  have ⟨pb0, pb1⟩ := pb
  have pbl := pb.lt
  have ⟨pc0, pc1⟩ := pc
  have pcl := pc.lt
  go_wp2_with fail
  clear pa0 pa1 pal
  clear pb0 pb1 pbl
  clear pc0 pc1 pcl
  refine (HR.out.q _).mono ?_
  rintro e w11 ⟨rfl, hb⟩
  obtain ⟨B11, z11⟩ := on_new B10 hb
  have pp := Pr.new hb
  clear hb z11 pa pb pc
  have ⟨pp0, pp1⟩ := pp
  have ppl := pp.lt
  rcases HR.out.p2 with h | h
  · rcases HR.out.q2 with h' | h'
    · have HV := Lib.hid (HR.out.v h h')
      subst h
      subst h'
      go_wp2_with fail
      refine (HV.out _).mono ?_
      rintro e we ⟨rfl, hb⟩
      obtain ⟨Be, ze⟩ := on_new B11 hb
      clear hb
      go_wp2_with fail
      go_ret
      exact ⟨rfl, B0.trans (Be.mono B0.size)⟩
    · subst h
      subst h'
      go_wp2_with fail
      go_ret
      exact ⟨rfl, B0.trans (((B11.alloc B11.size _)).mono B0.size)⟩
  · subst h
    go_wp2_with fail
    go_ret
    exact ⟨rfl, B0.trans (((B11.alloc B11.size _)).mono B0.size)⟩

theorem ok (aN aD bN bD cN cD : Int) (iaN : I64 aN) (iaD : I64 aD) (ibN : I64 bN) (ibD : I64 bD) (icN : I64 cN) (icD : I64 cD) (w : World) (hs : St w) (va : vld aN aD = true) (vb : vld bN bD = true) (vc : vld cN cD = true) :
    Calls Tryd.prog 7 #[.agg #[.int .i64 aN, .int .i64 aD], .agg #[.int .i64 bN, .int .i64 bD], .agg #[.int .i64 cN, .int .i64 cD]] w fun e w' => e = .returned (.bool true) ∧ Below w.heap.size w w' := by
  have r := res aN aD bN bD cN cD va vb vc
  have hx := sgn_cases (aN * bD) (bN * aD)
  generalize sgn (aN * bD) (bN * aD) = x at r hx
  rcases hx with ⟨rfl, _⟩ | ⟨rfl, _⟩ | ⟨rfl, _⟩
  · exact ok_lt aN aD bN bD cN cD iaN iaD ibN ibD icN icD w hs va vb vc _ _ _ _ _ _ _ _ _ _ _ r
  · exact ok_eq aN aD bN bD cN cD iaN iaD ibN ibD icN icD w hs va vb vc _ _ _ _ _ _ _ _ _ _ _ r
  · exact ok_gt aN aD bN bD cN cD iaN iaD ibN ibD icN icD w hs va vb vc _ _ _ _ _ _ _ _ _ _ _ r

theorem walk (aN aD bN bD cN cD : Int) (iaN : I64 aN) (iaD : I64 aD) (ibN : I64 bN) (ibD : I64 bD) (icN : I64 cN) (icD : I64 cD) (w : World) (hs : St w) :
    Calls Tryd.prog 7 #[.agg #[.int .i64 aN, .int .i64 aD], .agg #[.int .i64 bN, .int .i64 bD], .agg #[.int .i64 cN, .int .i64 cD]] w fun e w' => e = .returned (.bool true) ∧ Below w.heap.size w w' := by
  cases va : vld aN aD with
  | false => exact inv1 aN aD bN bD cN cD iaN iaD ibN ibD icN icD w hs va
  | true =>
    cases vb : vld bN bD with
    | false => exact inv2 aN aD bN bD cN cD iaN iaD ibN ibD icN icD w hs va vb
    | true =>
      cases vc : vld cN cD with
      | false => exact inv3 aN aD bN bD cN cD iaN iaD ibN ibD icN icD w hs va vb vc
      | true =>
        exact ok aN aD bN bD cN cD iaN iaD ibN ibD icN icD w hs va vb vc

/-! ### The row and the card -/
open Go.ChangeShapes Go.WideShapes Go.ChangeAt

set_option maxRecDepth 100000 in
theorem contract (H : Type) (enc : TypeId × Value → H) (W : World) (base : Nat) (args : Array Value) (ds gs : List (DataW H)) (before : List MemPlace)
    (hval : ∀ (j : Nat) t v, Tryd.f7.params[j]? = some t → args[j]? = some v → Value.okWide Tryd.prog W .any base t v)
    (hW : DataW.Whole enc Tryd.prog Tryd.f7.params.toList Rows.rationalOrderSpec.vars false W args.toList ds gs before) (hL : laidMetH Tryd.prog laid5 W) (hsh : W.ShapedOpen Tryd.prog) :
    Calls Tryd.prog 7 args W fun e W' => ∃ v, e = .returned v ∧ Rows.rationalOrderSpec.post enc Tryd.prog Tryd.f7 false true false false W args v W' := by
  have hW' := hW
  obtain ⟨p, q, hA0, hV, rfl, hfz, hnd⟩ := hW
  have hA : DataW.TrodAll enc Tryd.prog W 0 (fun _ => true) true Tryd.f7.params.toList args.toList ds p := hA0
  rw [Tryd.params7] at hA hval
  obtain ⟨v0, vs0, d0, ds0, p0, q0, hargs, rfl, rfl, h0, r0⟩ := trodAll_cons hA
  obtain ⟨v1, vs1, d1, ds1, p1, q1, rfl, rfl, rfl, h1, r1⟩ := trodAll_cons r0
  obtain ⟨v2, vs2, d2, ds2, p2, q2, rfl, rfl, rfl, h2, r2⟩ := trodAll_cons r1
  obtain ⟨rfl, rfl, rfl⟩ := trodAll_nil r2
  obtain rfl : args = #[v0, v1, v2] := Array.toList_inj.1 hargs
  obtain ⟨rfl, rfl⟩ := trodVars_none hV
  obtain ⟨aN, aD, rfl, rfl, rfl, waN, waD⟩ := open_rat (hval 0 23 v0 rfl rfl) h0
  obtain ⟨bN, bD, rfl, rfl, rfl, wbN, wbD⟩ := open_rat (hval 1 23 v1 rfl rfl) h1
  obtain ⟨cN, cD, rfl, rfl, rfl, wcN, wcD⟩ := open_rat (hval 2 23 v2 rfl rfl) h2
  clear hA0
  refine (walk aN aD bN bD cN cD (wf_i waN) (wf_i waD) (wf_i wbN) (wf_i wbD) (wf_i wcN) (wf_i wcD) W (st_of hL hsh)).mono fun e W' ⟨he, bel⟩ => ?_
  subst he
  exact ⟨_, rfl, _, _, _, [], [], [], hW', trodAll_mk1 (shut_bool Tryd.underlying4 _), (trodAll_cons_mk (shut_rat waN waD) (trodAll_cons_mk (shut_rat wbN wbD) (trodAll_cons_mk (shut_rat wcN wcD) trodAll_mk0))), rfl, bel.frame _, fun h => by cases h⟩

theorem reads (os : Os) {H : Type} (enc : TypeId × Value → H) : ∃ places, DataW.whole enc Tryd.prog ((laidWorld os).forCall (fun _ _ => 0) ⟨#[], #[.agg #[.int .i64 0, .int .i64 0], .agg #[.int .i64 0, .int .i64 0], .agg #[.int .i64 0, .int .i64 0]], []⟩).memory Tryd.f7.params.toList Rows.rationalOrderSpec.vars false (#[.agg #[.int .i64 0, .int .i64 0], .agg #[.int .i64 0, .int .i64 0], .agg #[.int .i64 0, .int .i64 0]] : Array Value).toList 8 = some ([.agg [.lit (.int .i64 0), .lit (.int .i64 0)], .agg [.lit (.int .i64 0), .lit (.int .i64 0)], .agg [.lit (.int .i64 0), .lit (.int .i64 0)]], [], places) :=
  ⟨[], by kernel_rfl⟩

set_option maxRecDepth 100000 in
theorem lifted (os : Os) (started : os.Started) (H : Type) (enc : TypeId × Value → H) (F : Stop.Interp) :
    ReturnsInHanded {} Tryd.checked os 7 .any ((OpenSpec.ofChange Rows.rationalOrderSpec).preRow enc Tryd.prog Tryd.f7 Rows.rationalOrderRow.domain false Rows.rationalOrderRow.laid) (((OpenSpec.ofChange Rows.rationalOrderSpec).at F).post enc Tryd.prog Tryd.f7 false true false false) := by
  obtain ⟨places, hx⟩ := reads os enc
  refine returnsInHanded_of_row (C := Tryd.checked) (s := OpenSpec.ofChange Rows.rationalOrderSpec) own started (by kernel_rfl) Tryd.func7
    (witness_row_atRef (enc := enc) (C := Tryd.checked) false (laidWorld os) #[.agg #[.int .i64 0, .int .i64 0], .agg #[.int .i64 0, .int .i64 0], .agg #[.int .i64 0, .int .i64 0]] rfl (by kernel_rfl) (by kernel_rfl) (by kernel_rfl)
      (OpenSpec.preRow_of_cond 8 hx (by kernel_rfl) (fun k hk => by cases hk) (by kernel_rfl) (laidWorld_met os _))) ?_
  intro W base args ds gs before hval hW _ _ _ hL hsh _
  exact contract H enc W base args ds gs before hval hW hL hsh

theorem said : Rows.RationalOrderSaid :=
  OpenClaim.holds_of_cond 7 Tryd.f7 rfl rfl rfl rfl rfl rfl rfl ⟨rfl, rfl, rfl, rfl, rfl⟩ rfl rfl rfl rfl rfl (by kernel_rfl) Tryd.func7 (by kernel_rfl)
    (of_decide_eq_true (by kernel_rfl)) (by unfold Func.isWrapper; first | (rw [if_pos (by decide +kernel)]; kernel_rfl) | (rw [if_neg (by decide +kernel)]; exact ⟨rfl, rfl⟩))
    (fun os started H enc _ F => by rw [OpenClaim.pre_eq_preRow]; exact lifted os started H enc F)

theorem plain (f : FuncId) (fn : Func) (hf : Tryd.pinned.checked.prog.funcNamed "barcarole/barcarolelaw01.RationalOrder" = some f) (hfn : Tryd.pinned.checked.prog.funcs[f]? = some fn) :
    true = Tryd.pinned.checked.prog.looks [] ∧ ∀ (j : Nat) t, fn.params[j]? = some t → Tryd.pinned.checked.prog.wantsStandIn t = false := by
  obtain rfl : f = 7 := Option.some.inj ((show Tryd.prog.funcNamed "barcarole/barcarolelaw01.RationalOrder" = some 7 by kernel_rfl).symm.trans hf) |>.symm
  obtain rfl : fn = Tryd.f7 := (Option.some.inj (Tryd.func7.symm.trans hfn)).symm
  refine ⟨by kernel_rfl, fun j t ht => ?_⟩
  rw [Tryd.params7] at ht
  obtain rfl : t = 23 := by simpa using Array.mem_of_getElem? ht
  exact (show Tryd.prog.wantsStandIn 23 = false by kernel_rfl)

/-- The statement. -/
theorem card : Rows.RationalOrderCardSaid :=
  Claim7.holds_tied_plain_at .later [] _ _ _ _ said (fun _ h => by cases h) (by kernel_rfl) (fun _ h => by cases h) rationalOrder_row_tie rfl ⟨rfl, rfl⟩ (by kernel_rfl) rfl plain (by kernel_rfl)
end Go.Proofs.YthggfhcmgajjhaaDoor.rationalOrder
