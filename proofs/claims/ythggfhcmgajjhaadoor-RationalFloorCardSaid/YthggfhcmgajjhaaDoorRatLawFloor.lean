/-
  RationalFloor: a number less its floor is at least 0 and below 1, and the floor of the greater one of two numbers is not less: for any two pairs of ints.
  Conditions: the package variables of the library that the row lists hold what the program's text lays.
-/
import Derived.Test.YthggfhcmgajjhaaDoorRatY
import Derived.Test.YthggfhcmgajjhaaDoorCards
import Derived.Test.YthggfhcmgajjhaaDoorTie
import Derived.Deep.DeepCutAuto
namespace Go.Proofs.YthggfhcmgajjhaaDoor.rationalFloor
open Go.RowKit Go.Sort
open Go.RowKit (Below)
set_option linter.unusedVariables false

/-- What the walk needs of the results. -/
structure Res (aN aD bN bD n m sN sD x : Int) : Prop where
  f1 : ∀ W, Calls Tryd.prog 26 #[.agg #[.int .i64 aN, .int .i64 aD]] W fun e w' => e = .returned (.tuple #[.int .i64 n, .int .i64 0]) ∧ Below W.heap.size W w'
  f2 : ∀ W, Calls Tryd.prog 26 #[.agg #[.int .i64 bN, .int .i64 bD]] W fun e w' => e = .returned (.tuple #[.int .i64 m, .int .i64 0]) ∧ Below W.heap.size W w'
  s : ∀ W, Calls Tryd.prog 18 #[.agg #[.int .i64 aN, .int .i64 aD], .agg #[.int .i64 n, .int .i64 1]] W fun e w' => e = .returned (.tuple #[.agg #[.int .i64 sN, .int .i64 sD], .int .i64 0]) ∧ Below W.heap.size W w'
  c : ∀ W, Calls Tryd.prog 24 #[.agg #[.int .i64 aN, .int .i64 aD], .agg #[.int .i64 bN, .int .i64 bD]] W fun e w' => e = .returned (.tuple #[.int .i64 x, .int .i64 0]) ∧ Below W.heap.size W w'
  p1 : 0 ≤ sN
  p2 : sN < sD
  x3 : x = -1 ∨ x = 0 ∨ x = 1
  le : x ≤ 0 → n ≤ m
  ge : 0 ≤ x → m ≤ n

theorem sgn_cases (x y : Int) : (sgn x y = -1 ∧ x < y) ∨ (sgn x y = 0 ∧ x = y) ∨ (sgn x y = 1 ∧ y < x) := by
  unfold sgn; split
  · exact .inl ⟨rfl, by assumption⟩
  · split
    · exact .inr (.inr ⟨rfl, by assumption⟩)
    · exact .inr (.inl ⟨rfl, by omega⟩)

theorem floor_mono {a b c d : Int} (hb : 0 < b) (hd : 0 < d) (h : a * d ≤ c * b) : a / b ≤ c / d := by
  rw [Int.le_ediv_iff_mul_le hd]
  have h1 : a / b * b ≤ a := Int.ediv_mul_le a (by omega)
  have h2 : a / b * d * b ≤ c * b := by
    rw [Int.mul_assoc, Int.mul_comm d b, ← Int.mul_assoc]
    exact Int.le_trans (Int.mul_le_mul_of_nonneg_right h1 (by omega)) h
  exact Int.le_of_mul_le_mul_right h2 hb

theorem floor_bd {a b : Int} (ha : Bd a) (hb : 0 < b) : Bd (a / b) := by
  obtain ⟨h1, h2⟩ := ha
  constructor
  · rw [Int.le_ediv_iff_mul_le hb]
    have : (1000000000 : Int) * 1 ≤ 1000000000 * b := Int.mul_le_mul_of_nonneg_left (by omega) (by omega)
    omega
  · have h3 : a / b < 1000000001 := by
      rw [Int.ediv_lt_iff_lt_mul hb]
      have : (1000000001 : Int) * 1 ≤ 1000000001 * b := Int.mul_le_mul_of_nonneg_left (by omega) (by omega)
      omega
    omega

theorem vld_one {n : Int} (h : Bd n) : vld n 1 = true := by
  rw [vld_iff]
  exact ⟨by omega, by omega, h.1, h.2, by simp⟩

theorem gcd_mod (n d : Int) (h : n.natAbs.gcd d.natAbs = 1) : (n % d).natAbs.gcd d.natAbs = 1 := by
  have h1 : ((Int.gcd (n % d) d : Nat) : Int) ∣ n % d := Int.gcd_dvd_left ..
  have h2 : ((Int.gcd (n % d) d : Nat) : Int) ∣ d := Int.gcd_dvd_right ..
  have h3 : ((Int.gcd (n % d) d : Nat) : Int) ∣ n % d + d * (n / d) := Int.dvd_add h1 (Int.dvd_trans h2 (Int.dvd_mul_right _ _))
  rw [Int.emod_add_mul_ediv n d] at h3
  have h4 := Int.dvd_coe_gcd h3 h2
  have h5 : Int.gcd n d = 1 := h
  rw [h5] at h4
  have h6 := Int.natAbs_dvd_natAbs.2 h4
  simp at h6
  exact h6

theorem vld_mod {n d : Int} (h : vld n d = true) : vld (n % d) d = true := by
  obtain ⟨h1, h2, h3, h4, h5⟩ := (vld_iff n d).1 h
  have m1 := Int.emod_nonneg n (b := d) (by omega)
  have m2 := Int.emod_lt_of_pos n (b := d) (by omega)
  rw [vld_iff]
  refine ⟨h1, h2, by omega, by omega, ?_⟩
  exact gcd_mod n d h5

theorem res (aN aD bN bD : Int) (va : vld aN aD = true) (vb : vld bN bD = true) : Res aN aD bN bD (aN / aD) (bN / bD) (aN % aD) aD (sgn (aN * bD) (bN * aD)) := by
  obtain ⟨ba, bad⟩ := vld_bd va
  obtain ⟨bb, bbd⟩ := vld_bd vb
  have hd : 0 < aD := by have := ((vld_iff aN aD).1 va).1; omega
  have hd' : 0 < bD := by have := ((vld_iff bN bD).1 vb).1; omega
  have bf := floor_bd ba hd
  have v1 := vld_one bf
  have vm := vld_mod va
  have hab : (vld aN aD && vld bN bD) = true := by rw [va, vb]; rfl
  refine ⟨fun W => ?_, fun W => ?_, fun W => ?_, fun W => ?_, Int.emod_nonneg _ (by omega), Int.emod_lt_of_pos _ hd, ?_, fun h => ?_, fun h => ?_⟩
  · have h := floor_any aN aD W ba.i64 bad.i64
    rwa [show floorR (vld aN aD) aN aD = aN / aD by simp [floorR, va], show cmpE (vld aN aD) = 0 by simp [cmpE, va]] at h
  · have h := floor_any bN bD W bb.i64 bbd.i64
    rwa [show floorR (vld bN bD) bN bD = bN / bD by simp [floorR, vb], show cmpE (vld bN bD) = 0 by simp [cmpE, vb]] at h
  · have h := sub_any aN aD (aN / aD) 1 W ba.i64 bad.i64 bf.i64 ⟨by omega, by omega⟩
    have hab' : (vld aN aD && vld (aN / aD) 1) = true := by rw [va, v1]; rfl
    have hm : (aN * 1 - aN / aD * aD) * aD = aN % aD * (aD * 1) := by
      rw [Int.mul_one, Int.mul_one]
      congr 1
      have := Int.emod_add_ediv_mul aN aD
      omega
    obtain ⟨e1, e2, e3⟩ := mk_complete (n := aN * 1 - aN / aD * aD) (d := aD * 1) (by omega) vm hm
    rwa [hab', show opN true (aN * 1 - aN / aD * aD) (aD * 1) = aN % aD by simp only [opN, if_true]; exact e2, show opD true (aN * 1 - aN / aD * aD) (aD * 1) = aD by simp only [opD, if_true]; exact e3, show opE true (aN * 1 - aN / aD * aD) (aD * 1) = 0 by simp only [opE, if_true]; exact e1] at h
  · have h := cmp_any aN aD bN bD W ba.i64 bad.i64 bb.i64 bbd.i64
    rwa [hab, show cmpR true aN aD bN bD = sgn (aN * bD) (bN * aD) from rfl, show cmpE true = 0 from rfl] at h
  · rcases sgn_cases (aN * bD) (bN * aD) with h | h | h
    · exact .inl h.1
    · exact .inr (.inl h.1)
    · exact .inr (.inr h.1)
  · refine floor_mono hd hd' ?_
    rcases sgn_cases (aN * bD) (bN * aD) with h' | h' | h' <;> omega
  · refine floor_mono hd' hd ?_
    rcases sgn_cases (aN * bD) (bN * aD) with h' | h' | h' <;> omega

set_option maxRecDepth 100000 in
set_option maxHeartbeats 1000000 in
theorem inv1 (aN aD bN bD : Int) (iaN : I64 aN) (iaD : I64 aD) (ibN : I64 bN) (ibD : I64 bD) (w : World) (hs : St w)  (va : vld aN aD = false) :
    Calls Tryd.prog 8 #[.agg #[.int .i64 aN, .int .i64 aD], .agg #[.int .i64 bN, .int .i64 bD]] w fun e w' => e = .returned (.bool true) ∧ Below w.heap.size w w' := by
  have HVa := Lib.hid va; clear va
  have HS0 := Lib.hid hs; clear hs
  obtain ⟨B0, pa, pb⟩ := box2 w aN aD bN bD 23
  have HS := Lib.hid (HS0.out.below B0 HS0.out.sz)
  clear HS0
  go_enter Tryd.func8, Tryd.ntmps8
  go_wp2_with fail
  generalize ((w.alloc (.cells #[.int .i64 aN, .int .i64 aD] 23)).alloc (.cells #[.int .i64 bN, .int .i64 bD] 23)) = w0 at *
  refine (head_any _ HS.out).mono ?_
  rintro e w1 ⟨rfl, hb⟩
  obtain ⟨B1, z1⟩ := on_same (Below.refl w0.heap.size w0) hb
  replace pa := pa.on hb
  replace pb := pb.on hb
  clear hb z1
  have ⟨pa0, pa1⟩ := pa
  have pal := pa.lt
  have ⟨pb0, pb1⟩ := pb
  have pbl := pb.lt
  go_wp2_with fail
  clear pa0 pa1 pal
  clear pb0 pb1 pbl
  refine (valid_b aN aD false HVa.out _ iaN iaD).mono ?_
  rintro e w2 ⟨rfl, hb⟩
  obtain ⟨B2, z2⟩ := on_same B1 hb
  replace pa := pa.on hb
  replace pb := pb.on hb
  clear hb z2
  have ⟨pa0, pa1⟩ := pa
  have pal := pa.lt
  have ⟨pb0, pb1⟩ := pb
  have pbl := pb.lt
  go_wp2_with fail
  clear pa0 pa1 pal
  clear pb0 pb1 pbl
  go_ret
  exact ⟨rfl, B0.trans (B2.mono B0.size)⟩

set_option maxRecDepth 100000 in
set_option maxHeartbeats 1000000 in
theorem inv2 (aN aD bN bD : Int) (iaN : I64 aN) (iaD : I64 aD) (ibN : I64 bN) (ibD : I64 bD) (w : World) (hs : St w) (va : vld aN aD = true) (vb : vld bN bD = false) :
    Calls Tryd.prog 8 #[.agg #[.int .i64 aN, .int .i64 aD], .agg #[.int .i64 bN, .int .i64 bD]] w fun e w' => e = .returned (.bool true) ∧ Below w.heap.size w w' := by
  have HVa := Lib.hid va; clear va
  have HVb := Lib.hid vb; clear vb
  have HS0 := Lib.hid hs; clear hs
  obtain ⟨B0, pa, pb⟩ := box2 w aN aD bN bD 23
  have HS := Lib.hid (HS0.out.below B0 HS0.out.sz)
  clear HS0
  go_enter Tryd.func8, Tryd.ntmps8
  go_wp2_with fail
  generalize ((w.alloc (.cells #[.int .i64 aN, .int .i64 aD] 23)).alloc (.cells #[.int .i64 bN, .int .i64 bD] 23)) = w0 at *
  refine (head_any _ HS.out).mono ?_
  rintro e w1 ⟨rfl, hb⟩
  obtain ⟨B1, z1⟩ := on_same (Below.refl w0.heap.size w0) hb
  replace pa := pa.on hb
  replace pb := pb.on hb
  clear hb z1
  have ⟨pa0, pa1⟩ := pa
  have pal := pa.lt
  have ⟨pb0, pb1⟩ := pb
  have pbl := pb.lt
  go_wp2_with fail
  clear pa0 pa1 pal
  clear pb0 pb1 pbl
  refine (valid_b aN aD true HVa.out _ iaN iaD).mono ?_
  rintro e w2 ⟨rfl, hb⟩
  obtain ⟨B2, z2⟩ := on_same B1 hb
  replace pa := pa.on hb
  replace pb := pb.on hb
  clear hb z2
  have ⟨pa0, pa1⟩ := pa
  have pal := pa.lt
  have ⟨pb0, pb1⟩ := pb
  have pbl := pb.lt
  go_wp2_with fail
  clear pa0 pa1 pal
  clear pb0 pb1 pbl
  refine (valid_b bN bD false HVb.out _ ibN ibD).mono ?_
  rintro e w3 ⟨rfl, hb⟩
  obtain ⟨B3, z3⟩ := on_same B2 hb
  replace pa := pa.on hb
  replace pb := pb.on hb
  clear hb z3
  have ⟨pa0, pa1⟩ := pa
  have pal := pa.lt
  have ⟨pb0, pb1⟩ := pb
  have pbl := pb.lt
  go_wp2_with fail
  clear pa0 pa1 pal
  clear pb0 pb1 pbl
  go_ret
  exact ⟨rfl, B0.trans (B3.mono B0.size)⟩

set_option maxRecDepth 100000 in
set_option maxHeartbeats 1000000 in
theorem ok_lt (aN aD bN bD : Int) (iaN : I64 aN) (iaD : I64 aD) (ibN : I64 bN) (ibD : I64 bD) (w : World) (hs : St w) (va : vld aN aD = true) (vb : vld bN bD = true) (n m sN sD : Int) (r : Res aN aD bN bD n m sN sD (-1)) :
    Calls Tryd.prog 8 #[.agg #[.int .i64 aN, .int .i64 aD], .agg #[.int .i64 bN, .int .i64 bD]] w fun e w' => e = .returned (.bool true) ∧ Below w.heap.size w w' := by
  have HVa := Lib.hid va; clear va
  have HVb := Lib.hid vb; clear vb
  have q1 := r.p1
  have q2 := r.p2
  have q3 := r.le (by omega)
  have HR := Lib.hid r; clear r
  have HS0 := Lib.hid hs; clear hs
  obtain ⟨B0, pa, pb⟩ := box2 w aN aD bN bD 23
  have HS := Lib.hid (HS0.out.below B0 HS0.out.sz)
  clear HS0
  go_enter Tryd.func8, Tryd.ntmps8
  go_wp2_with fail
  generalize ((w.alloc (.cells #[.int .i64 aN, .int .i64 aD] 23)).alloc (.cells #[.int .i64 bN, .int .i64 bD] 23)) = w0 at *
  refine (head_any _ HS.out).mono ?_
  rintro e w1 ⟨rfl, hb⟩
  obtain ⟨B1, z1⟩ := on_same (Below.refl w0.heap.size w0) hb
  replace pa := pa.on hb
  replace pb := pb.on hb
  clear hb z1
  have ⟨pa0, pa1⟩ := pa
  have pal := pa.lt
  have ⟨pb0, pb1⟩ := pb
  have pbl := pb.lt
  go_wp2_with fail
  clear pa0 pa1 pal
  clear pb0 pb1 pbl
  refine (valid_b aN aD true HVa.out _ iaN iaD).mono ?_
  rintro e w2 ⟨rfl, hb⟩
  obtain ⟨B2, z2⟩ := on_same B1 hb
  replace pa := pa.on hb
  replace pb := pb.on hb
  clear hb z2
  have ⟨pa0, pa1⟩ := pa
  have pal := pa.lt
  have ⟨pb0, pb1⟩ := pb
  have pbl := pb.lt
  go_wp2_with fail
  clear pa0 pa1 pal
  clear pb0 pb1 pbl
  refine (valid_b bN bD true HVb.out _ ibN ibD).mono ?_
  rintro e w3 ⟨rfl, hb⟩
  obtain ⟨B3, z3⟩ := on_same B2 hb
  replace pa := pa.on hb
  replace pb := pb.on hb
  clear hb z3
  have ⟨pa0, pa1⟩ := pa
  have pal := pa.lt
  have ⟨pb0, pb1⟩ := pb
  have pbl := pb.lt
  go_wp2_with fail
  clear pa0 pa1 pal
  clear pb0 pb1 pbl
  refine (HR.out.f1 _).mono ?_
  rintro e w4 ⟨rfl, hb⟩
  obtain ⟨B4, z4⟩ := on_same B3 hb
  replace pa := pa.on hb
  replace pb := pb.on hb
  clear hb z4
  have ⟨pa0, pa1⟩ := pa
  have pal := pa.lt
  have ⟨pb0, pb1⟩ := pb
  have pbl := pb.lt
  go_wp2_with fail
  clear pa0 pa1 pal
  clear pb0 pb1 pbl
  refine (HR.out.f2 _).mono ?_
  rintro e w5 ⟨rfl, hb⟩
  obtain ⟨B5, z5⟩ := on_same B4 hb
  replace pa := pa.on hb
  replace pb := pb.on hb
  clear hb z5
  have ⟨pa0, pa1⟩ := pa
  have pal := pa.lt
  have ⟨pb0, pb1⟩ := pb
  have pbl := pb.lt
  go_wp2_with fail
  clear pa0 pa1 pal
  clear pb0 pb1 pbl
  refine (HR.out.s _).mono ?_
  rintro e w6 ⟨rfl, hb⟩
  obtain ⟨B6, z6⟩ := on_same B5 hb
  replace pa := pa.on hb
  replace pb := pb.on hb
  clear hb z6
  have ⟨pa0, pa1⟩ := pa
  have pal := pa.lt
  have ⟨pb0, pb1⟩ := pb
  have pbl := pb.lt
  go_wp2_with fail
  clear pa0 pa1 pal
  clear pb0 pb1 pbl
  refine (HR.out.c _).mono ?_
  rintro e w7 ⟨rfl, hb⟩
  obtain ⟨B7, z7⟩ := on_new B6 hb
  replace pa := pa.next hb
  replace pb := pb.next hb
  have ps := Pr.new hb
  clear hb z7
  have ⟨pa0, pa1⟩ := pa
  have pal := pa.lt
  have ⟨pb0, pb1⟩ := pb
  have pbl := pb.lt
  have ⟨ps0, ps1⟩ := ps
  have psl := ps.lt
  go_wp2_with fail
  clear pa0 pa1 pal
  clear pb0 pb1 pbl
  clear ps0 ps1 psl
  go_ret
  exact ⟨rfl, B0.trans (B7.mono B0.size)⟩

set_option maxRecDepth 100000 in
set_option maxHeartbeats 1000000 in
theorem ok_eq (aN aD bN bD : Int) (iaN : I64 aN) (iaD : I64 aD) (ibN : I64 bN) (ibD : I64 bD) (w : World) (hs : St w) (va : vld aN aD = true) (vb : vld bN bD = true) (n m sN sD : Int) (r : Res aN aD bN bD n m sN sD (0)) :
    Calls Tryd.prog 8 #[.agg #[.int .i64 aN, .int .i64 aD], .agg #[.int .i64 bN, .int .i64 bD]] w fun e w' => e = .returned (.bool true) ∧ Below w.heap.size w w' := by
  have HVa := Lib.hid va; clear va
  have HVb := Lib.hid vb; clear vb
  have q1 := r.p1
  have q2 := r.p2
  have q3 := r.le (by omega)
  have q4 := r.ge (by omega)
  have HR := Lib.hid r; clear r
  have HS0 := Lib.hid hs; clear hs
  obtain ⟨B0, pa, pb⟩ := box2 w aN aD bN bD 23
  have HS := Lib.hid (HS0.out.below B0 HS0.out.sz)
  clear HS0
  go_enter Tryd.func8, Tryd.ntmps8
  go_wp2_with fail
  generalize ((w.alloc (.cells #[.int .i64 aN, .int .i64 aD] 23)).alloc (.cells #[.int .i64 bN, .int .i64 bD] 23)) = w0 at *
  refine (head_any _ HS.out).mono ?_
  rintro e w1 ⟨rfl, hb⟩
  obtain ⟨B1, z1⟩ := on_same (Below.refl w0.heap.size w0) hb
  replace pa := pa.on hb
  replace pb := pb.on hb
  clear hb z1
  have ⟨pa0, pa1⟩ := pa
  have pal := pa.lt
  have ⟨pb0, pb1⟩ := pb
  have pbl := pb.lt
  go_wp2_with fail
  clear pa0 pa1 pal
  clear pb0 pb1 pbl
  refine (valid_b aN aD true HVa.out _ iaN iaD).mono ?_
  rintro e w2 ⟨rfl, hb⟩
  obtain ⟨B2, z2⟩ := on_same B1 hb
  replace pa := pa.on hb
  replace pb := pb.on hb
  clear hb z2
  have ⟨pa0, pa1⟩ := pa
  have pal := pa.lt
  have ⟨pb0, pb1⟩ := pb
  have pbl := pb.lt
  go_wp2_with fail
  clear pa0 pa1 pal
  clear pb0 pb1 pbl
  refine (valid_b bN bD true HVb.out _ ibN ibD).mono ?_
  rintro e w3 ⟨rfl, hb⟩
  obtain ⟨B3, z3⟩ := on_same B2 hb
  replace pa := pa.on hb
  replace pb := pb.on hb
  clear hb z3
  have ⟨pa0, pa1⟩ := pa
  have pal := pa.lt
  have ⟨pb0, pb1⟩ := pb
  have pbl := pb.lt
  go_wp2_with fail
  clear pa0 pa1 pal
  clear pb0 pb1 pbl
  refine (HR.out.f1 _).mono ?_
  rintro e w4 ⟨rfl, hb⟩
  obtain ⟨B4, z4⟩ := on_same B3 hb
  replace pa := pa.on hb
  replace pb := pb.on hb
  clear hb z4
  have ⟨pa0, pa1⟩ := pa
  have pal := pa.lt
  have ⟨pb0, pb1⟩ := pb
  have pbl := pb.lt
  go_wp2_with fail
  clear pa0 pa1 pal
  clear pb0 pb1 pbl
  refine (HR.out.f2 _).mono ?_
  rintro e w5 ⟨rfl, hb⟩
  obtain ⟨B5, z5⟩ := on_same B4 hb
  replace pa := pa.on hb
  replace pb := pb.on hb
  clear hb z5
  have ⟨pa0, pa1⟩ := pa
  have pal := pa.lt
  have ⟨pb0, pb1⟩ := pb
  have pbl := pb.lt
  go_wp2_with fail
  clear pa0 pa1 pal
  clear pb0 pb1 pbl
  refine (HR.out.s _).mono ?_
  rintro e w6 ⟨rfl, hb⟩
  obtain ⟨B6, z6⟩ := on_same B5 hb
  replace pa := pa.on hb
  replace pb := pb.on hb
  clear hb z6
  have ⟨pa0, pa1⟩ := pa
  have pal := pa.lt
  have ⟨pb0, pb1⟩ := pb
  have pbl := pb.lt
  go_wp2_with fail
  clear pa0 pa1 pal
  clear pb0 pb1 pbl
  refine (HR.out.c _).mono ?_
  rintro e w7 ⟨rfl, hb⟩
  obtain ⟨B7, z7⟩ := on_new B6 hb
  replace pa := pa.next hb
  replace pb := pb.next hb
  have ps := Pr.new hb
  clear hb z7
  have ⟨pa0, pa1⟩ := pa
  have pal := pa.lt
  have ⟨pb0, pb1⟩ := pb
  have pbl := pb.lt
  have ⟨ps0, ps1⟩ := ps
  have psl := ps.lt
  go_wp2_with fail
  clear pa0 pa1 pal
  clear pb0 pb1 pbl
  clear ps0 ps1 psl
  go_ret
  exact ⟨rfl, B0.trans (B7.mono B0.size)⟩

set_option maxRecDepth 100000 in
set_option maxHeartbeats 1000000 in
theorem ok_gt (aN aD bN bD : Int) (iaN : I64 aN) (iaD : I64 aD) (ibN : I64 bN) (ibD : I64 bD) (w : World) (hs : St w) (va : vld aN aD = true) (vb : vld bN bD = true) (n m sN sD : Int) (r : Res aN aD bN bD n m sN sD (1)) :
    Calls Tryd.prog 8 #[.agg #[.int .i64 aN, .int .i64 aD], .agg #[.int .i64 bN, .int .i64 bD]] w fun e w' => e = .returned (.bool true) ∧ Below w.heap.size w w' := by
  have HVa := Lib.hid va; clear va
  have HVb := Lib.hid vb; clear vb
  have q1 := r.p1
  have q2 := r.p2
  have q4 := r.ge (by omega)
  have HR := Lib.hid r; clear r
  have HS0 := Lib.hid hs; clear hs
  obtain ⟨B0, pa, pb⟩ := box2 w aN aD bN bD 23
  have HS := Lib.hid (HS0.out.below B0 HS0.out.sz)
  clear HS0
  go_enter Tryd.func8, Tryd.ntmps8
  go_wp2_with fail
  generalize ((w.alloc (.cells #[.int .i64 aN, .int .i64 aD] 23)).alloc (.cells #[.int .i64 bN, .int .i64 bD] 23)) = w0 at *
  refine (head_any _ HS.out).mono ?_
  rintro e w1 ⟨rfl, hb⟩
  obtain ⟨B1, z1⟩ := on_same (Below.refl w0.heap.size w0) hb
  replace pa := pa.on hb
  replace pb := pb.on hb
  clear hb z1
  have ⟨pa0, pa1⟩ := pa
  have pal := pa.lt
  have ⟨pb0, pb1⟩ := pb
  have pbl := pb.lt
  go_wp2_with fail
  clear pa0 pa1 pal
  clear pb0 pb1 pbl
  refine (valid_b aN aD true HVa.out _ iaN iaD).mono ?_
  rintro e w2 ⟨rfl, hb⟩
  obtain ⟨B2, z2⟩ := on_same B1 hb
  replace pa := pa.on hb
  replace pb := pb.on hb
  clear hb z2
  have ⟨pa0, pa1⟩ := pa
  have pal := pa.lt
  have ⟨pb0, pb1⟩ := pb
  have pbl := pb.lt
  go_wp2_with fail
  clear pa0 pa1 pal
  clear pb0 pb1 pbl
  refine (valid_b bN bD true HVb.out _ ibN ibD).mono ?_
  rintro e w3 ⟨rfl, hb⟩
  obtain ⟨B3, z3⟩ := on_same B2 hb
  replace pa := pa.on hb
  replace pb := pb.on hb
  clear hb z3
  have ⟨pa0, pa1⟩ := pa
  have pal := pa.lt
  have ⟨pb0, pb1⟩ := pb
  have pbl := pb.lt
  go_wp2_with fail
  clear pa0 pa1 pal
  clear pb0 pb1 pbl
  refine (HR.out.f1 _).mono ?_
  rintro e w4 ⟨rfl, hb⟩
  obtain ⟨B4, z4⟩ := on_same B3 hb
  replace pa := pa.on hb
  replace pb := pb.on hb
  clear hb z4
  have ⟨pa0, pa1⟩ := pa
  have pal := pa.lt
  have ⟨pb0, pb1⟩ := pb
  have pbl := pb.lt
  go_wp2_with fail
  clear pa0 pa1 pal
  clear pb0 pb1 pbl
  refine (HR.out.f2 _).mono ?_
  rintro e w5 ⟨rfl, hb⟩
  obtain ⟨B5, z5⟩ := on_same B4 hb
  replace pa := pa.on hb
  replace pb := pb.on hb
  clear hb z5
  have ⟨pa0, pa1⟩ := pa
  have pal := pa.lt
  have ⟨pb0, pb1⟩ := pb
  have pbl := pb.lt
  go_wp2_with fail
  clear pa0 pa1 pal
  clear pb0 pb1 pbl
  refine (HR.out.s _).mono ?_
  rintro e w6 ⟨rfl, hb⟩
  obtain ⟨B6, z6⟩ := on_same B5 hb
  replace pa := pa.on hb
  replace pb := pb.on hb
  clear hb z6
  have ⟨pa0, pa1⟩ := pa
  have pal := pa.lt
  have ⟨pb0, pb1⟩ := pb
  have pbl := pb.lt
  go_wp2_with fail
  clear pa0 pa1 pal
  clear pb0 pb1 pbl
  refine (HR.out.c _).mono ?_
  rintro e w7 ⟨rfl, hb⟩
  obtain ⟨B7, z7⟩ := on_new B6 hb
  replace pa := pa.next hb
  replace pb := pb.next hb
  have ps := Pr.new hb
  clear hb z7
  have ⟨pa0, pa1⟩ := pa
  have pal := pa.lt
  have ⟨pb0, pb1⟩ := pb
  have pbl := pb.lt
  have ⟨ps0, ps1⟩ := ps
  have psl := ps.lt
  go_wp2_with fail
  clear pa0 pa1 pal
  clear pb0 pb1 pbl
  clear ps0 ps1 psl
  go_ret
  exact ⟨rfl, B0.trans (B7.mono B0.size)⟩

theorem ok (aN aD bN bD : Int) (iaN : I64 aN) (iaD : I64 aD) (ibN : I64 bN) (ibD : I64 bD) (w : World) (hs : St w) (va : vld aN aD = true) (vb : vld bN bD = true) :
    Calls Tryd.prog 8 #[.agg #[.int .i64 aN, .int .i64 aD], .agg #[.int .i64 bN, .int .i64 bD]] w fun e w' => e = .returned (.bool true) ∧ Below w.heap.size w w' := by
  have r := res aN aD bN bD va vb
  have hx := r.x3
  generalize sgn (aN * bD) (bN * aD) = x at r hx
  rcases hx with rfl | rfl | rfl
  · exact ok_lt aN aD bN bD iaN iaD ibN ibD w hs va vb _ _ _ _ r
  · exact ok_eq aN aD bN bD iaN iaD ibN ibD w hs va vb _ _ _ _ r
  · exact ok_gt aN aD bN bD iaN iaD ibN ibD w hs va vb _ _ _ _ r

theorem walk (aN aD bN bD : Int) (iaN : I64 aN) (iaD : I64 aD) (ibN : I64 bN) (ibD : I64 bD) (w : World) (hs : St w) :
    Calls Tryd.prog 8 #[.agg #[.int .i64 aN, .int .i64 aD], .agg #[.int .i64 bN, .int .i64 bD]] w fun e w' => e = .returned (.bool true) ∧ Below w.heap.size w w' := by
  cases va : vld aN aD with
  | false => exact inv1 aN aD bN bD iaN iaD ibN ibD w hs va
  | true =>
    cases vb : vld bN bD with
    | false => exact inv2 aN aD bN bD iaN iaD ibN ibD w hs va vb
    | true =>
      exact ok aN aD bN bD iaN iaD ibN ibD w hs va vb

/-! ### The row and the card -/
open Go.ChangeShapes Go.WideShapes Go.ChangeAt

set_option maxRecDepth 100000 in
theorem contract (H : Type) (enc : TypeId × Value → H) (W : World) (base : Nat) (args : Array Value) (ds gs : List (DataW H)) (before : List MemPlace)
    (hval : ∀ (j : Nat) t v, Tryd.f8.params[j]? = some t → args[j]? = some v → Value.okWide Tryd.prog W .any base t v)
    (hW : DataW.Whole enc Tryd.prog Tryd.f8.params.toList Rows.rationalFloorSpec.vars false W args.toList ds gs before) (hL : laidMetH Tryd.prog laid5 W) (hsh : W.ShapedOpen Tryd.prog) :
    Calls Tryd.prog 8 args W fun e W' => ∃ v, e = .returned v ∧ Rows.rationalFloorSpec.post enc Tryd.prog Tryd.f8 false true false false W args v W' := by
  have hW' := hW
  obtain ⟨p, q, hA0, hV, rfl, hfz, hnd⟩ := hW
  have hA : DataW.TrodAll enc Tryd.prog W 0 (fun _ => true) true Tryd.f8.params.toList args.toList ds p := hA0
  rw [Tryd.params8] at hA hval
  obtain ⟨v0, vs0, d0, ds0, p0, q0, hargs, rfl, rfl, h0, r0⟩ := trodAll_cons hA
  obtain ⟨v1, vs1, d1, ds1, p1, q1, rfl, rfl, rfl, h1, r1⟩ := trodAll_cons r0
  obtain ⟨rfl, rfl, rfl⟩ := trodAll_nil r1
  obtain rfl : args = #[v0, v1] := Array.toList_inj.1 hargs
  obtain ⟨rfl, rfl⟩ := trodVars_none hV
  obtain ⟨aN, aD, rfl, rfl, rfl, waN, waD⟩ := open_rat (hval 0 23 v0 rfl rfl) h0
  obtain ⟨bN, bD, rfl, rfl, rfl, wbN, wbD⟩ := open_rat (hval 1 23 v1 rfl rfl) h1
  clear hA0
  refine (walk aN aD bN bD (wf_i waN) (wf_i waD) (wf_i wbN) (wf_i wbD) W (st_of hL hsh)).mono fun e W' ⟨he, bel⟩ => ?_
  subst he
  exact ⟨_, rfl, _, _, _, [], [], [], hW', trodAll_mk1 (shut_bool Tryd.underlying4 _), (trodAll_cons_mk (shut_rat waN waD) (trodAll_cons_mk (shut_rat wbN wbD) trodAll_mk0)), rfl, bel.frame _, fun h => by cases h⟩

theorem reads (os : Os) {H : Type} (enc : TypeId × Value → H) : ∃ places, DataW.whole enc Tryd.prog ((laidWorld os).forCall (fun _ _ => 0) ⟨#[], #[.agg #[.int .i64 0, .int .i64 0], .agg #[.int .i64 0, .int .i64 0]], []⟩).memory Tryd.f8.params.toList Rows.rationalFloorSpec.vars false (#[.agg #[.int .i64 0, .int .i64 0], .agg #[.int .i64 0, .int .i64 0]] : Array Value).toList 8 = some ([.agg [.lit (.int .i64 0), .lit (.int .i64 0)], .agg [.lit (.int .i64 0), .lit (.int .i64 0)]], [], places) :=
  ⟨[], by kernel_rfl⟩

set_option maxRecDepth 100000 in
theorem lifted (os : Os) (started : os.Started) (H : Type) (enc : TypeId × Value → H) (F : Stop.Interp) :
    ReturnsInHanded {} Tryd.checked os 8 .any ((OpenSpec.ofChange Rows.rationalFloorSpec).preRow enc Tryd.prog Tryd.f8 Rows.rationalFloorRow.domain false Rows.rationalFloorRow.laid) (((OpenSpec.ofChange Rows.rationalFloorSpec).at F).post enc Tryd.prog Tryd.f8 false true false false) := by
  obtain ⟨places, hx⟩ := reads os enc
  refine returnsInHanded_of_row (C := Tryd.checked) (s := OpenSpec.ofChange Rows.rationalFloorSpec) own started (by kernel_rfl) Tryd.func8
    (witness_row_atRef (enc := enc) (C := Tryd.checked) false (laidWorld os) #[.agg #[.int .i64 0, .int .i64 0], .agg #[.int .i64 0, .int .i64 0]] rfl (by kernel_rfl) (by kernel_rfl) (by kernel_rfl)
      (OpenSpec.preRow_of_cond 8 hx (by kernel_rfl) (fun k hk => by cases hk) (by kernel_rfl) (laidWorld_met os _))) ?_
  intro W base args ds gs before hval hW _ _ _ hL hsh _
  exact contract H enc W base args ds gs before hval hW hL hsh

theorem said : Rows.RationalFloorSaid :=
  OpenClaim.holds_of_cond 8 Tryd.f8 rfl rfl rfl rfl rfl rfl rfl ⟨rfl, rfl, rfl, rfl, rfl⟩ rfl rfl rfl rfl rfl (by kernel_rfl) Tryd.func8 (by kernel_rfl)
    (of_decide_eq_true (by kernel_rfl)) (by unfold Func.isWrapper; first | (rw [if_pos (by decide +kernel)]; kernel_rfl) | (rw [if_neg (by decide +kernel)]; exact ⟨rfl, rfl⟩))
    (fun os started H enc _ F => by rw [OpenClaim.pre_eq_preRow]; exact lifted os started H enc F)

theorem plain (f : FuncId) (fn : Func) (hf : Tryd.pinned.checked.prog.funcNamed "barcarole/barcarolelaw01.RationalFloor" = some f) (hfn : Tryd.pinned.checked.prog.funcs[f]? = some fn) :
    true = Tryd.pinned.checked.prog.looks [] ∧ ∀ (j : Nat) t, fn.params[j]? = some t → Tryd.pinned.checked.prog.wantsStandIn t = false := by
  obtain rfl : f = 8 := Option.some.inj ((show Tryd.prog.funcNamed "barcarole/barcarolelaw01.RationalFloor" = some 8 by kernel_rfl).symm.trans hf) |>.symm
  obtain rfl : fn = Tryd.f8 := (Option.some.inj (Tryd.func8.symm.trans hfn)).symm
  refine ⟨by kernel_rfl, fun j t ht => ?_⟩
  rw [Tryd.params8] at ht
  obtain rfl : t = 23 := by simpa using Array.mem_of_getElem? ht
  exact (show Tryd.prog.wantsStandIn 23 = false by kernel_rfl)

/-- The statement. -/
theorem card : Rows.RationalFloorCardSaid :=
  Claim7.holds_tied_plain_at .later [] _ _ _ _ said (fun _ h => by cases h) (by kernel_rfl) (fun _ h => by cases h) rationalFloor_row_tie rfl ⟨rfl, rfl⟩ (by kernel_rfl) rfl plain (by kernel_rfl)
end Go.Proofs.YthggfhcmgajjhaaDoor.rationalFloor
