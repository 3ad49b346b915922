/-
  VectorNear, the walk: way 0.
-/
import Derived.Test.YtdkofonneebciaaVecJ
import Derived.Test.YtdkofonneebciaaVecI
import Derived.Deep.DeepCutAuto
namespace Go.Proofs.Ytdkofonneebciaa.vectorNear
open Go.RowKit Go.Sort
open Go.RowKit (Below)
set_option linter.unusedVariables false
set_option linter.unusedSimpArgs false

set_option maxRecDepth 100000 in
set_option maxHeartbeats 8000000 in
theorem law_80 (kx ky kz mx my mz rn rd sn sd e f : Int) (irn : I64 rn) (ird : I64 rd) (isn : I64 sn) (isd : I64 sd) (h0 : vv kx ky kz = true) (h1 : vv mx my mz = true) (h2 : zv kx ky kz = false) (h3 : zv mx my mz = false) (h4 : shr rn rd = true) (h5 : shr sn sd = true) (hle : sn * rd ≤ rn * sd) (n : Int) (T b1 b2 b3 fl c1 c2 : Bool)
    (a1 : (∀ W, Calls Try.prog 20 #[.agg #[.int .i64 kx, .int .i64 ky, .int .i64 kz], .agg #[.int .i64 mx, .int .i64 my, .int .i64 mz], .agg #[.int .i64 rn, .int .i64 rd]] W fun e_ w' => e_ = .returned (.tuple #[.bool false, .int .i64 0]) ∧ Below W.heap.size W w')) (a2 : (∀ W, Calls Try.prog 20 #[.agg #[.int .i64 mx, .int .i64 my, .int .i64 mz], .agg #[.int .i64 kx, .int .i64 ky, .int .i64 kz], .agg #[.int .i64 rn, .int .i64 rd]] W fun e_ w' => e_ = .returned (.tuple #[.bool false, .int .i64 0]) ∧ Below W.heap.size W w')) (a3 : (∀ W, Calls Try.prog 20 #[.agg #[.int .i64 kx, .int .i64 ky, .int .i64 kz], .agg #[.int .i64 mx, .int .i64 my, .int .i64 mz], .agg #[.int .i64 sn, .int .i64 sd]] W fun e_ w' => e_ = .returned (.tuple #[.bool T, .int .i64 0]) ∧ Below W.heap.size W w')) (a4 : (∀ W, Calls Try.prog 20 #[.agg #[.int .i64 kx, .int .i64 ky, .int .i64 kz], .agg #[.int .i64 mx, .int .i64 my, .int .i64 mz], .agg #[.int .i64 0, .int .i64 1]] W fun e_ w' => e_ = .returned (.tuple #[.bool false, .int .i64 0]) ∧ Below W.heap.size W w')) (a5 : (∀ W, Calls Try.prog 20 #[.agg #[.int .i64 kx, .int .i64 ky, .int .i64 kz], .agg #[.int .i64 mx, .int .i64 my, .int .i64 mz], .agg #[.int .i64 1, .int .i64 1]] W fun e_ w' => e_ = .returned (.tuple #[.bool false, .int .i64 0]) ∧ Below W.heap.size W w'))
    (a6 : ∀ W, Calls Try.prog 16 #[.agg #[.int .i64 kx, .int .i64 ky, .int .i64 kz], .agg #[.int .i64 mx, .int .i64 my, .int .i64 mz]] W fun e_ w' => e_ = .returned (.tuple #[.int .i64 n, .int .i64 0]) ∧ Below W.heap.size W w')
    (e1 : (kx * my == ky * mx) = b1) (e2 : (ky * mz == kz * my) = b2) (e3 : (kz * mx == kx * mz) = b3) (ef : (b1 && b2 && b3) = fl) (hn : ¬ 0 < n)
    (x1 : 1 ≤ e → e ≤ 10 → vv (e * kx) (e * ky) (e * kz) = c1) (x2 : 1 ≤ f → f ≤ 10 → vv (f * mx) (f * my) (f * mz) = c2)
    (a7 : 1 ≤ e → 1 ≤ f → c1 = true → c2 = true → (∀ W, Calls Try.prog 20 #[.agg #[.int .i64 (e * kx), .int .i64 (e * ky), .int .i64 (e * kz)], .agg #[.int .i64 (f * mx), .int .i64 (f * my), .int .i64 (f * mz)], .agg #[.int .i64 rn, .int .i64 rd]] W fun e_ w' => e_ = .returned (.tuple #[.bool false, .int .i64 0]) ∧ Below W.heap.size W w')) (w : World) :
    Calls Try.prog 8 #[.agg #[.int .i64 kx, .int .i64 ky, .int .i64 kz], .agg #[.int .i64 mx, .int .i64 my, .int .i64 mz], .agg #[.int .i64 rn, .int .i64 rd], .agg #[.int .i64 sn, .int .i64 sd], .int .i64 e, .int .i64 f] w fun e_ w' => e_ = .returned (.bool true) ∧ Below w.heap.size w w' := by
  have pb : (0 ≤ sn * rd ∧ sn * rd ≤ 100000000) ∧ 0 ≤ rn * sd ∧ rn * sd ≤ 100000000 := by
    obtain ⟨_, _, _, _⟩ := shr_iff.1 h4; obtain ⟨_, _, _, _⟩ := shr_iff.1 h5; have a1 := mul_co (m := 10000) (k := 10000) (a := sn) (b := rd) ⟨by omega, by omega⟩ ⟨by omega, by omega⟩; have a2 := mul_co (m := 10000) (k := 10000) (a := rn) (b := sd) ⟨by omega, by omega⟩ ⟨by omega, by omega⟩; have a3 : 0 ≤ sn * rd := Int.mul_nonneg (by omega) (by omega); have a4 : 0 ≤ rn * sd := Int.mul_nonneg (by omega) (by omega); omega
  have pw0 : IntKind.i64.wrap (sn * rd) = sn * rd := IntWalk.i64_in _ ⟨by omega, by omega⟩
  have pq0 : wrap64 (sn * rd) = sn * rd := IntWalk.wrap64_in _ ⟨by omega, by omega⟩
  have pw1 : IntKind.i64.wrap (rn * sd) = rn * sd := IntWalk.i64_in _ ⟨by omega, by omega⟩
  have pq1 : wrap64 (rn * sd) = rn * sd := IntWalk.wrap64_in _ ⟨by omega, by omega⟩
  clear pb
  have m1 := vv_iff.1 h0
  have m2 := vv_iff.1 h1
  have c0_ := co_mul m1.x m2.y
  have f0_ : IntKind.i64.wrap (kx * my) = kx * my := IntWalk.i64_in _ ⟨by omega, by omega⟩
  have g0_ : wrap64 (kx * my) = kx * my := IntWalk.wrap64_in _ ⟨by omega, by omega⟩
  clear c0_
  have c1_ := co_mul m1.y m2.x
  have f1_ : IntKind.i64.wrap (ky * mx) = ky * mx := IntWalk.i64_in _ ⟨by omega, by omega⟩
  have g1_ : wrap64 (ky * mx) = ky * mx := IntWalk.wrap64_in _ ⟨by omega, by omega⟩
  clear c1_
  have c2_ := co_mul m1.y m2.z
  have f2_ : IntKind.i64.wrap (ky * mz) = ky * mz := IntWalk.i64_in _ ⟨by omega, by omega⟩
  have g2_ : wrap64 (ky * mz) = ky * mz := IntWalk.wrap64_in _ ⟨by omega, by omega⟩
  clear c2_
  have c3_ := co_mul m1.z m2.y
  have f3_ : IntKind.i64.wrap (kz * my) = kz * my := IntWalk.i64_in _ ⟨by omega, by omega⟩
  have g3_ : wrap64 (kz * my) = kz * my := IntWalk.wrap64_in _ ⟨by omega, by omega⟩
  clear c3_
  have c4_ := co_mul m1.z m2.x
  have f4_ : IntKind.i64.wrap (kz * mx) = kz * mx := IntWalk.i64_in _ ⟨by omega, by omega⟩
  have g4_ : wrap64 (kz * mx) = kz * mx := IntWalk.wrap64_in _ ⟨by omega, by omega⟩
  clear c4_
  have c5_ := co_mul m1.x m2.z
  have f5_ : IntKind.i64.wrap (kx * mz) = kx * mz := IntWalk.i64_in _ ⟨by omega, by omega⟩
  have g5_ : wrap64 (kx * mz) = kx * mz := IntWalk.wrap64_in _ ⟨by omega, by omega⟩
  clear c5_
  have u0 : 1 ≤ e → e ≤ 10 → IntKind.i64.wrap (e * kx) = e * kx ∧ wrap64 (e * kx) = e * kx := fun p q => by have := mul_co (m := 10) (k := 2000) (a := e) (b := kx) ⟨by omega, by omega⟩ m1.x; exact ⟨IntWalk.i64_in _ ⟨by omega, by omega⟩, IntWalk.wrap64_in _ ⟨by omega, by omega⟩⟩
  have u1 : 1 ≤ e → e ≤ 10 → IntKind.i64.wrap (e * ky) = e * ky ∧ wrap64 (e * ky) = e * ky := fun p q => by have := mul_co (m := 10) (k := 2000) (a := e) (b := ky) ⟨by omega, by omega⟩ m1.y; exact ⟨IntWalk.i64_in _ ⟨by omega, by omega⟩, IntWalk.wrap64_in _ ⟨by omega, by omega⟩⟩
  have u2 : 1 ≤ e → e ≤ 10 → IntKind.i64.wrap (e * kz) = e * kz ∧ wrap64 (e * kz) = e * kz := fun p q => by have := mul_co (m := 10) (k := 2000) (a := e) (b := kz) ⟨by omega, by omega⟩ m1.z; exact ⟨IntWalk.i64_in _ ⟨by omega, by omega⟩, IntWalk.wrap64_in _ ⟨by omega, by omega⟩⟩
  have u3 : 1 ≤ f → f ≤ 10 → IntKind.i64.wrap (f * mx) = f * mx ∧ wrap64 (f * mx) = f * mx := fun p q => by have := mul_co (m := 10) (k := 2000) (a := f) (b := mx) ⟨by omega, by omega⟩ m2.x; exact ⟨IntWalk.i64_in _ ⟨by omega, by omega⟩, IntWalk.wrap64_in _ ⟨by omega, by omega⟩⟩
  have u4 : 1 ≤ f → f ≤ 10 → IntKind.i64.wrap (f * my) = f * my ∧ wrap64 (f * my) = f * my := fun p q => by have := mul_co (m := 10) (k := 2000) (a := f) (b := my) ⟨by omega, by omega⟩ m2.y; exact ⟨IntWalk.i64_in _ ⟨by omega, by omega⟩, IntWalk.wrap64_in _ ⟨by omega, by omega⟩⟩
  have u5 : 1 ≤ f → f ≤ 10 → IntKind.i64.wrap (f * mz) = f * mz ∧ wrap64 (f * mz) = f * mz := fun p q => by have := mul_co (m := 10) (k := 2000) (a := f) (b := mz) ⟨by omega, by omega⟩ m2.z; exact ⟨IntWalk.i64_in _ ⟨by omega, by omega⟩, IntWalk.wrap64_in _ ⟨by omega, by omega⟩⟩
  clear m1 m2
  have ff := And.intro f0_ (And.intro f1_ (And.intro f2_ (And.intro f3_ (And.intro f4_ f5_))))
  have gg := And.intro g0_ (And.intro g1_ (And.intro g2_ (And.intro g3_ (And.intro g4_ g5_))))
  clear f0_ g0_ f1_ g1_ f2_ g2_ f3_ g3_ f4_ g4_ f5_ g5_
  have FF := Lib.hid ff
  clear ff
  have GG := Lib.hid gg
  clear gg
  have U0 := Lib.hid u0
  clear u0
  have U1 := Lib.hid u1
  clear u1
  have U2 := Lib.hid u2
  clear u2
  have U3 := Lib.hid u3
  clear u3
  have U4 := Lib.hid u4
  clear u4
  have U5 := Lib.hid u5
  clear u5
  have A1 := Lib.hid a1
  clear a1
  have A2 := Lib.hid a2
  clear a2
  have A3 := Lib.hid a3
  clear a3
  have A4 := Lib.hid a4
  clear a4
  have A5 := Lib.hid a5
  clear a5
  have A6 := Lib.hid a6
  clear a6
  have A7 := Lib.hid a7
  clear a7
  have E1 := Lib.hid e1
  clear e1
  have E2 := Lib.hid e2
  clear e2
  have E3 := Lib.hid e3
  clear e3
  have EF := Lib.hid ef
  clear ef
  have X1 := Lib.hid x1
  clear x1
  have X2 := Lib.hid x2
  clear x2
  have JN := Lib.hid irn
  clear irn
  have JD := Lib.hid ird
  clear ird
  have LN := Lib.hid isn
  clear isn
  have LD := Lib.hid isd
  clear isd
  have H0 := Lib.hid h0
  clear h0
  have H1 := Lib.hid h1
  clear h1
  have z2_ := fun W => vec_eq (a := kx) (b := ky) (c := kz) (x := 0) (y := 0) (z := 0) (r := false) h2 W
  clear h2
  have z3_ := fun W => vec_eq (a := mx) (b := my) (c := mz) (x := 0) (y := 0) (z := 0) (r := false) h3 W
  clear h3
  have H4 := Lib.hid h4
  clear h4
  have H5 := Lib.hid h5
  clear h5
  have k0 : World.cell? ((((w.alloc (.cells #[.int .i64 kx, .int .i64 ky, .int .i64 kz] 23)).alloc (.cells #[.int .i64 mx, .int .i64 my, .int .i64 mz] 23)).alloc (.cells #[.int .i64 rn, .int .i64 rd] 27)).alloc (.cells #[.int .i64 sn, .int .i64 sd] 27)) ⟨w.heap.size, 0, none⟩ = some (.int .i64 kx) := by simp [go_sem]
  have k1 : World.cell? ((((w.alloc (.cells #[.int .i64 kx, .int .i64 ky, .int .i64 kz] 23)).alloc (.cells #[.int .i64 mx, .int .i64 my, .int .i64 mz] 23)).alloc (.cells #[.int .i64 rn, .int .i64 rd] 27)).alloc (.cells #[.int .i64 sn, .int .i64 sd] 27)) ⟨w.heap.size, 1, none⟩ = some (.int .i64 ky) := by simp [go_sem]
  have k2 : World.cell? ((((w.alloc (.cells #[.int .i64 kx, .int .i64 ky, .int .i64 kz] 23)).alloc (.cells #[.int .i64 mx, .int .i64 my, .int .i64 mz] 23)).alloc (.cells #[.int .i64 rn, .int .i64 rd] 27)).alloc (.cells #[.int .i64 sn, .int .i64 sd] 27)) ⟨w.heap.size, 2, none⟩ = some (.int .i64 kz) := by simp [go_sem]
  have lk : w.heap.size < ((((w.alloc (.cells #[.int .i64 kx, .int .i64 ky, .int .i64 kz] 23)).alloc (.cells #[.int .i64 mx, .int .i64 my, .int .i64 mz] 23)).alloc (.cells #[.int .i64 rn, .int .i64 rd] 27)).alloc (.cells #[.int .i64 sn, .int .i64 sd] 27)).heap.size := by simp <;> omega
  have m0 : World.cell? ((((w.alloc (.cells #[.int .i64 kx, .int .i64 ky, .int .i64 kz] 23)).alloc (.cells #[.int .i64 mx, .int .i64 my, .int .i64 mz] 23)).alloc (.cells #[.int .i64 rn, .int .i64 rd] 27)).alloc (.cells #[.int .i64 sn, .int .i64 sd] 27)) ⟨w.heap.size + 1, 0, none⟩ = some (.int .i64 mx) := by simp [go_sem]
  have m1 : World.cell? ((((w.alloc (.cells #[.int .i64 kx, .int .i64 ky, .int .i64 kz] 23)).alloc (.cells #[.int .i64 mx, .int .i64 my, .int .i64 mz] 23)).alloc (.cells #[.int .i64 rn, .int .i64 rd] 27)).alloc (.cells #[.int .i64 sn, .int .i64 sd] 27)) ⟨w.heap.size + 1, 1, none⟩ = some (.int .i64 my) := by simp [go_sem]
  have m2 : World.cell? ((((w.alloc (.cells #[.int .i64 kx, .int .i64 ky, .int .i64 kz] 23)).alloc (.cells #[.int .i64 mx, .int .i64 my, .int .i64 mz] 23)).alloc (.cells #[.int .i64 rn, .int .i64 rd] 27)).alloc (.cells #[.int .i64 sn, .int .i64 sd] 27)) ⟨w.heap.size + 1, 2, none⟩ = some (.int .i64 mz) := by simp [go_sem]
  have lm : w.heap.size + 1 < ((((w.alloc (.cells #[.int .i64 kx, .int .i64 ky, .int .i64 kz] 23)).alloc (.cells #[.int .i64 mx, .int .i64 my, .int .i64 mz] 23)).alloc (.cells #[.int .i64 rn, .int .i64 rd] 27)).alloc (.cells #[.int .i64 sn, .int .i64 sd] 27)).heap.size := by simp <;> omega
  have r0 : World.cell? ((((w.alloc (.cells #[.int .i64 kx, .int .i64 ky, .int .i64 kz] 23)).alloc (.cells #[.int .i64 mx, .int .i64 my, .int .i64 mz] 23)).alloc (.cells #[.int .i64 rn, .int .i64 rd] 27)).alloc (.cells #[.int .i64 sn, .int .i64 sd] 27)) ⟨w.heap.size + 1 + 1, 0, none⟩ = some (.int .i64 rn) := by simp [go_sem]
  have r1 : World.cell? ((((w.alloc (.cells #[.int .i64 kx, .int .i64 ky, .int .i64 kz] 23)).alloc (.cells #[.int .i64 mx, .int .i64 my, .int .i64 mz] 23)).alloc (.cells #[.int .i64 rn, .int .i64 rd] 27)).alloc (.cells #[.int .i64 sn, .int .i64 sd] 27)) ⟨w.heap.size + 1 + 1, 1, none⟩ = some (.int .i64 rd) := by simp [go_sem]
  have lr : w.heap.size + 1 + 1 < ((((w.alloc (.cells #[.int .i64 kx, .int .i64 ky, .int .i64 kz] 23)).alloc (.cells #[.int .i64 mx, .int .i64 my, .int .i64 mz] 23)).alloc (.cells #[.int .i64 rn, .int .i64 rd] 27)).alloc (.cells #[.int .i64 sn, .int .i64 sd] 27)).heap.size := by simp <;> omega
  have s0 : World.cell? ((((w.alloc (.cells #[.int .i64 kx, .int .i64 ky, .int .i64 kz] 23)).alloc (.cells #[.int .i64 mx, .int .i64 my, .int .i64 mz] 23)).alloc (.cells #[.int .i64 rn, .int .i64 rd] 27)).alloc (.cells #[.int .i64 sn, .int .i64 sd] 27)) ⟨w.heap.size + 1 + 1 + 1, 0, none⟩ = some (.int .i64 sn) := by simp [go_sem]
  have s1 : World.cell? ((((w.alloc (.cells #[.int .i64 kx, .int .i64 ky, .int .i64 kz] 23)).alloc (.cells #[.int .i64 mx, .int .i64 my, .int .i64 mz] 23)).alloc (.cells #[.int .i64 rn, .int .i64 rd] 27)).alloc (.cells #[.int .i64 sn, .int .i64 sd] 27)) ⟨w.heap.size + 1 + 1 + 1, 1, none⟩ = some (.int .i64 sd) := by simp [go_sem]
  have ls : w.heap.size + 1 + 1 + 1 < ((((w.alloc (.cells #[.int .i64 kx, .int .i64 ky, .int .i64 kz] 23)).alloc (.cells #[.int .i64 mx, .int .i64 my, .int .i64 mz] 23)).alloc (.cells #[.int .i64 rn, .int .i64 rd] 27)).alloc (.cells #[.int .i64 sn, .int .i64 sd] 27)).heap.size := by simp <;> omega
  have HB := Lib.hid (show Below w.heap.size w ((((w.alloc (.cells #[.int .i64 kx, .int .i64 ky, .int .i64 kz] 23)).alloc (.cells #[.int .i64 mx, .int .i64 my, .int .i64 mz] 23)).alloc (.cells #[.int .i64 rn, .int .i64 rd] 27)).alloc (.cells #[.int .i64 sn, .int .i64 sd] 27)) from (((((Below.refl _ _).alloc (by simp <;> omega) _).alloc (by simp <;> omega) _).alloc (by simp <;> omega) _).alloc (by simp <;> omega) _))
  go_enter Try.func8, Try.ntmps8
  go_wp2_with fail
  generalize (((w.alloc (.cells #[.int .i64 kx, .int .i64 ky, .int .i64 kz] 23)).alloc (.cells #[.int .i64 mx, .int .i64 my, .int .i64 mz] 23)).alloc (.cells #[.int .i64 rn, .int .i64 rd] 27)).alloc (.cells #[.int .i64 sn, .int .i64 sd] 27) = w1 at *
  with_reducible refine (head_any _).mono ?_
  rintro e_ w2 ⟨rfl, hb⟩
  replace HB := Lib.hid (on_below HB.out hb)
  replace k0 := keepc hb k0
  replace k1 := keepc hb k1
  replace k2 := keepc hb k2
  replace m0 := keepc hb m0
  replace m1 := keepc hb m1
  replace m2 := keepc hb m2
  replace r0 := keepc hb r0
  replace r1 := keepc hb r1
  replace s0 := keepc hb s0
  replace s1 := keepc hb s1
  replace lk := Nat.lt_of_lt_of_le lk hb.size
  replace lm := Nat.lt_of_lt_of_le lm hb.size
  replace lr := Nat.lt_of_lt_of_le lr hb.size
  replace ls := Nat.lt_of_lt_of_le ls hb.size
  clear hb
  go_wp2_with fail
  with_reducible refine (valid_is kx ky kz true H0.out _).mono ?_
  rintro e_ w3 ⟨rfl, hb⟩
  replace HB := Lib.hid (on_below HB.out hb)
  replace k0 := keepc hb k0
  replace k1 := keepc hb k1
  replace k2 := keepc hb k2
  replace m0 := keepc hb m0
  replace m1 := keepc hb m1
  replace m2 := keepc hb m2
  replace r0 := keepc hb r0
  replace r1 := keepc hb r1
  replace s0 := keepc hb s0
  replace s1 := keepc hb s1
  replace lk := Nat.lt_of_lt_of_le lk hb.size
  replace lm := Nat.lt_of_lt_of_le lm hb.size
  replace lr := Nat.lt_of_lt_of_le lr hb.size
  replace ls := Nat.lt_of_lt_of_le ls hb.size
  clear hb
  go_wp2_with fail
  with_reducible refine (valid_is mx my mz true H1.out _).mono ?_
  rintro e_ w4 ⟨rfl, hb⟩
  replace HB := Lib.hid (on_below HB.out hb)
  replace k0 := keepc hb k0
  replace k1 := keepc hb k1
  replace k2 := keepc hb k2
  replace m0 := keepc hb m0
  replace m1 := keepc hb m1
  replace m2 := keepc hb m2
  replace r0 := keepc hb r0
  replace r1 := keepc hb r1
  replace s0 := keepc hb s0
  replace s1 := keepc hb s1
  replace lk := Nat.lt_of_lt_of_le lk hb.size
  replace lm := Nat.lt_of_lt_of_le lm hb.size
  replace lr := Nat.lt_of_lt_of_le lr hb.size
  replace ls := Nat.lt_of_lt_of_le ls hb.size
  clear hb
  go_wp2_with fail
  with_reducible refine (part_is rn rd true JN.out JD.out H4.out _).mono ?_
  rintro e_ w5 ⟨rfl, hb⟩
  replace HB := Lib.hid (on_below HB.out hb)
  replace k0 := keepc hb k0
  replace k1 := keepc hb k1
  replace k2 := keepc hb k2
  replace m0 := keepc hb m0
  replace m1 := keepc hb m1
  replace m2 := keepc hb m2
  replace r0 := keepc hb r0
  replace r1 := keepc hb r1
  replace s0 := keepc hb s0
  replace s1 := keepc hb s1
  replace lk := Nat.lt_of_lt_of_le lk hb.size
  replace lm := Nat.lt_of_lt_of_le lm hb.size
  replace lr := Nat.lt_of_lt_of_le lr hb.size
  replace ls := Nat.lt_of_lt_of_le ls hb.size
  clear hb
  go_wp2_with fail
  with_reducible refine (part_is sn sd true LN.out LD.out H5.out _).mono ?_
  rintro e_ w6 ⟨rfl, hb⟩
  replace HB := Lib.hid (on_below HB.out hb)
  replace k0 := keepc hb k0
  replace k1 := keepc hb k1
  replace k2 := keepc hb k2
  replace m0 := keepc hb m0
  replace m1 := keepc hb m1
  replace m2 := keepc hb m2
  replace r0 := keepc hb r0
  replace r1 := keepc hb r1
  replace s0 := keepc hb s0
  replace s1 := keepc hb s1
  replace lk := Nat.lt_of_lt_of_le lk hb.size
  replace lm := Nat.lt_of_lt_of_le lm hb.size
  replace lr := Nat.lt_of_lt_of_le lr hb.size
  replace ls := Nat.lt_of_lt_of_le ls hb.size
  clear hb
  go_wp2_with fail
  clear H0 H1 H4 H5 JN JD LN LD z2_ z3_ pw0 pw1 pq0 pq1 hle
  with_reducible refine (A1.out _).mono ?_
  rintro e_ w7 ⟨rfl, hb⟩
  replace HB := Lib.hid (on_below HB.out hb)
  replace k0 := keepc hb k0
  replace k1 := keepc hb k1
  replace k2 := keepc hb k2
  replace m0 := keepc hb m0
  replace m1 := keepc hb m1
  replace m2 := keepc hb m2
  replace r0 := keepc hb r0
  replace r1 := keepc hb r1
  replace s0 := keepc hb s0
  replace s1 := keepc hb s1
  replace lk := Nat.lt_of_lt_of_le lk hb.size
  replace lm := Nat.lt_of_lt_of_le lm hb.size
  replace lr := Nat.lt_of_lt_of_le lr hb.size
  replace ls := Nat.lt_of_lt_of_le ls hb.size
  clear hb
  go_wp2_with fail
  with_reducible refine (A2.out _).mono ?_
  rintro e_ w8 ⟨rfl, hb⟩
  replace HB := Lib.hid (on_below HB.out hb)
  replace k0 := keepc hb k0
  replace k1 := keepc hb k1
  replace k2 := keepc hb k2
  replace m0 := keepc hb m0
  replace m1 := keepc hb m1
  replace m2 := keepc hb m2
  replace r0 := keepc hb r0
  replace r1 := keepc hb r1
  replace s0 := keepc hb s0
  replace s1 := keepc hb s1
  replace lk := Nat.lt_of_lt_of_le lk hb.size
  replace lm := Nat.lt_of_lt_of_le lm hb.size
  replace lr := Nat.lt_of_lt_of_le lr hb.size
  replace ls := Nat.lt_of_lt_of_le ls hb.size
  clear hb
  go_wp2_with fail
  with_reducible refine (A3.out _).mono ?_
  rintro e_ w9 ⟨rfl, hb⟩
  replace HB := Lib.hid (on_below HB.out hb)
  replace k0 := keepc hb k0
  replace k1 := keepc hb k1
  replace k2 := keepc hb k2
  replace m0 := keepc hb m0
  replace m1 := keepc hb m1
  replace m2 := keepc hb m2
  replace r0 := keepc hb r0
  replace r1 := keepc hb r1
  replace s0 := keepc hb s0
  replace s1 := keepc hb s1
  replace lk := Nat.lt_of_lt_of_le lk hb.size
  replace lm := Nat.lt_of_lt_of_le lm hb.size
  replace lr := Nat.lt_of_lt_of_le lr hb.size
  replace ls := Nat.lt_of_lt_of_le ls hb.size
  clear hb
  go_wp2_with fail
  with_reducible refine (A4.out _).mono ?_
  rintro e_ w10 ⟨rfl, hb⟩
  replace HB := Lib.hid (on_below HB.out hb)
  replace k0 := keepc hb k0
  replace k1 := keepc hb k1
  replace k2 := keepc hb k2
  replace m0 := keepc hb m0
  replace m1 := keepc hb m1
  replace m2 := keepc hb m2
  replace r0 := keepc hb r0
  replace r1 := keepc hb r1
  replace s0 := keepc hb s0
  replace s1 := keepc hb s1
  replace lk := Nat.lt_of_lt_of_le lk hb.size
  replace lm := Nat.lt_of_lt_of_le lm hb.size
  replace lr := Nat.lt_of_lt_of_le lr hb.size
  replace ls := Nat.lt_of_lt_of_le ls hb.size
  clear hb
  go_wp2_with fail
  with_reducible refine (A5.out _).mono ?_
  rintro e_ w11 ⟨rfl, hb⟩
  replace HB := Lib.hid (on_below HB.out hb)
  replace k0 := keepc hb k0
  replace k1 := keepc hb k1
  replace k2 := keepc hb k2
  replace m0 := keepc hb m0
  replace m1 := keepc hb m1
  replace m2 := keepc hb m2
  replace r0 := keepc hb r0
  replace r1 := keepc hb r1
  replace s0 := keepc hb s0
  replace s1 := keepc hb s1
  replace lk := Nat.lt_of_lt_of_le lk hb.size
  replace lm := Nat.lt_of_lt_of_le lm hb.size
  replace lr := Nat.lt_of_lt_of_le lr hb.size
  replace ls := Nat.lt_of_lt_of_le ls hb.size
  clear hb
  go_wp2_with fail
  with_reducible refine (A6.out _).mono ?_
  rintro e_ w12 ⟨rfl, hb⟩
  replace HB := Lib.hid (on_below HB.out hb)
  replace k0 := keepc hb k0
  replace k1 := keepc hb k1
  replace k2 := keepc hb k2
  replace m0 := keepc hb m0
  replace m1 := keepc hb m1
  replace m2 := keepc hb m2
  replace r0 := keepc hb r0
  replace r1 := keepc hb r1
  replace s0 := keepc hb s0
  replace s1 := keepc hb s1
  replace lk := Nat.lt_of_lt_of_le lk hb.size
  replace lm := Nat.lt_of_lt_of_le lm hb.size
  replace lr := Nat.lt_of_lt_of_le lr hb.size
  replace ls := Nat.lt_of_lt_of_le ls hb.size
  clear hb
  clear A1 A2 A3 A4 A5 A6
  go_upto_region 12 with fail
  go_cut [26] (fun s_ wx => s_ = .bool fl ∧ wx = w12)
  case first =>
    clear U0 U1 U2 U3 U4 U5 A7 X1 X2 hn
    obtain ⟨f0_, f1_, f2_, f3_, f4_, f5_⟩ := FF.out
    obtain ⟨g0_, g1_, g2_, g3_, g4_, g5_⟩ := GG.out
    cases b1
    · have e1 := E1.out
      have ef := EF.out
      go_wp2_with fail
      go_meet
      exact ⟨by rw [← ef]; rfl, rfl⟩
    · cases b2
      · have e1 := E1.out
        have e2 := E2.out
        have ef := EF.out
        go_wp2_with fail
        go_meet
        exact ⟨by rw [← ef]; rfl, rfl⟩
      · have e1 := E1.out
        have e2 := E2.out
        have e3 := E3.out
        have ef := EF.out
        go_wp2_with fail
        go_meet
        exact ⟨by rw [← ef]; cases b3 <;> simp [e3], rfl⟩
  case rest =>
    obtain ⟨rfl, rfl⟩ := hcut
    clear E1 E2 E3 EF FF GG
    go_upto_region 13 with fail
    go_cut [197] (fun s_ wx => s_ = .bool false ∧ wx = wc)
    case first =>
      clear U0 U1 U2 U3 U4 U5 A7 X1 X2 HB k0 k1 k2 m0 m1 m2 r0 r1 s0 s1 lk lm lr ls
      cases fl <;> (go_wp2_with fail; go_meet; exact ⟨by first | (simp [hn]; done) | rfl, rfl⟩)
    case rest =>
      obtain ⟨rfl, rfl⟩ := hcut
      clear hn
      by_cases q1 : e < 1
      · skip
        go_wp2_with fail
        go_ret
        exact ⟨rfl, HB.out⟩
      by_cases q2 : 10 < e
      · skip
        go_wp2_with fail
        go_ret
        exact ⟨rfl, HB.out⟩
      by_cases q3 : f < 1
      · skip
        go_wp2_with fail
        go_ret
        exact ⟨rfl, HB.out⟩
      by_cases q4 : 10 < f
      · skip
        go_wp2_with fail
        go_ret
        exact ⟨rfl, HB.out⟩
      have u0 := (U0.out (by omega) (by omega)).1
      have y0_ := (U0.out (by omega) (by omega)).2
      have u1 := (U1.out (by omega) (by omega)).1
      have y1_ := (U1.out (by omega) (by omega)).2
      have u2 := (U2.out (by omega) (by omega)).1
      have y2_ := (U2.out (by omega) (by omega)).2
      have u3 := (U3.out (by omega) (by omega)).1
      have y3_ := (U3.out (by omega) (by omega)).2
      have u4 := (U4.out (by omega) (by omega)).1
      have y4_ := (U4.out (by omega) (by omega)).2
      have u5 := (U5.out (by omega) (by omega)).1
      have y5_ := (U5.out (by omega) (by omega)).2
      have X1_ := Lib.hid (X1.out (by omega) (by omega))
      have X2_ := Lib.hid (X2.out (by omega) (by omega))
      have A7_ := Lib.hid (A7.out (by omega) (by omega))
      go_wp2_with fail
      have x0 : World.cell? (wc.alloc (.cells #[.int .i64 (e * kx), .int .i64 (e * ky), .int .i64 (e * kz)] 23)) ⟨wc.heap.size, 0, none⟩ = some (.int .i64 (e * kx)) := by simp [go_sem]
      have x1 : World.cell? (wc.alloc (.cells #[.int .i64 (e * kx), .int .i64 (e * ky), .int .i64 (e * kz)] 23)) ⟨wc.heap.size, 1, none⟩ = some (.int .i64 (e * ky)) := by simp [go_sem]
      have x2 : World.cell? (wc.alloc (.cells #[.int .i64 (e * kx), .int .i64 (e * ky), .int .i64 (e * kz)] 23)) ⟨wc.heap.size, 2, none⟩ = some (.int .i64 (e * kz)) := by simp [go_sem]
      have lx : wc.heap.size < (wc.alloc (.cells #[.int .i64 (e * kx), .int .i64 (e * ky), .int .i64 (e * kz)] 23)).heap.size := by simp
      have zx : (wc.alloc (.cells #[.int .i64 (e * kx), .int .i64 (e * ky), .int .i64 (e * kz)] 23)).heap.size = wc.heap.size + 1 := by simp
      have hb : Below wc.heap.size wc (wc.alloc (.cells #[.int .i64 (e * kx), .int .i64 (e * ky), .int .i64 (e * kz)] 23)) := below_new _ _
      generalize wc.alloc (.cells #[.int .i64 (e * kx), .int .i64 (e * ky), .int .i64 (e * kz)] 23) = w13 at *
      replace HB := Lib.hid (on_below HB.out hb)
      replace k0 := keepc hb k0
      replace k1 := keepc hb k1
      replace k2 := keepc hb k2
      replace m0 := keepc hb m0
      replace m1 := keepc hb m1
      replace m2 := keepc hb m2
      replace r0 := keepc hb r0
      replace r1 := keepc hb r1
      replace s0 := keepc hb s0
      replace s1 := keepc hb s1
      replace lk := Nat.lt_of_lt_of_le lk hb.size
      replace lm := Nat.lt_of_lt_of_le lm hb.size
      replace lr := Nat.lt_of_lt_of_le lr hb.size
      replace ls := Nat.lt_of_lt_of_le ls hb.size
      clear hb
      generalize wc.heap.size = gx at *
      have y0 : World.cell? (w13.alloc (.cells #[.int .i64 (f * mx), .int .i64 (f * my), .int .i64 (f * mz)] 23)) ⟨gx + 1, 0, none⟩ = some (.int .i64 (f * mx)) := by rw [← zx]; simp [go_sem]
      have y1 : World.cell? (w13.alloc (.cells #[.int .i64 (f * mx), .int .i64 (f * my), .int .i64 (f * mz)] 23)) ⟨gx + 1, 1, none⟩ = some (.int .i64 (f * my)) := by rw [← zx]; simp [go_sem]
      have y2 : World.cell? (w13.alloc (.cells #[.int .i64 (f * mx), .int .i64 (f * my), .int .i64 (f * mz)] 23)) ⟨gx + 1, 2, none⟩ = some (.int .i64 (f * mz)) := by rw [← zx]; simp [go_sem]
      have ly : gx + 1 < (w13.alloc (.cells #[.int .i64 (f * mx), .int .i64 (f * my), .int .i64 (f * mz)] 23)).heap.size := by rw [← zx]; simp
      have hb : Below w13.heap.size w13 (w13.alloc (.cells #[.int .i64 (f * mx), .int .i64 (f * my), .int .i64 (f * mz)] 23)) := below_new _ _
      generalize w13.alloc (.cells #[.int .i64 (f * mx), .int .i64 (f * my), .int .i64 (f * mz)] 23) = w14 at *
      replace HB := Lib.hid (on_below HB.out hb)
      replace k0 := keepc hb k0
      replace k1 := keepc hb k1
      replace k2 := keepc hb k2
      replace m0 := keepc hb m0
      replace m1 := keepc hb m1
      replace m2 := keepc hb m2
      replace r0 := keepc hb r0
      replace r1 := keepc hb r1
      replace s0 := keepc hb s0
      replace s1 := keepc hb s1
      replace x0 := keepc hb x0
      replace x1 := keepc hb x1
      replace x2 := keepc hb x2
      replace lk := Nat.lt_of_lt_of_le lk hb.size
      replace lm := Nat.lt_of_lt_of_le lm hb.size
      replace lr := Nat.lt_of_lt_of_le lr hb.size
      replace ls := Nat.lt_of_lt_of_le ls hb.size
      replace lx := Nat.lt_of_lt_of_le lx hb.size
      clear hb
      clear zx
      have ny : gx < gx + 1 := Nat.lt_succ_self _
      generalize gx + 1 = gy at *
      clear q1 q2 q3 q4 u0 y0_ u1 y1_ u2 y2_ u3 y3_ u4 y4_ u5 y5_
      with_reducible refine (valid_is (e * kx) (e * ky) (e * kz) c1 X1_.out _).mono ?_
      rintro e_ w15 ⟨rfl, hb⟩
      replace HB := Lib.hid (on_below HB.out hb)
      replace k0 := keepc hb k0
      replace k1 := keepc hb k1
      replace k2 := keepc hb k2
      replace m0 := keepc hb m0
      replace m1 := keepc hb m1
      replace m2 := keepc hb m2
      replace r0 := keepc hb r0
      replace r1 := keepc hb r1
      replace s0 := keepc hb s0
      replace s1 := keepc hb s1
      replace x0 := keepc hb x0
      replace x1 := keepc hb x1
      replace x2 := keepc hb x2
      replace y0 := keepc hb y0
      replace y1 := keepc hb y1
      replace y2 := keepc hb y2
      replace lk := Nat.lt_of_lt_of_le lk hb.size
      replace lm := Nat.lt_of_lt_of_le lm hb.size
      replace lr := Nat.lt_of_lt_of_le lr hb.size
      replace ls := Nat.lt_of_lt_of_le ls hb.size
      replace lx := Nat.lt_of_lt_of_le lx hb.size
      replace ly := Nat.lt_of_lt_of_le ly hb.size
      clear hb
      cases c1
      · skip
        go_wp2_with fail
        go_ret
        exact ⟨rfl, HB.out⟩
      · skip
        go_wp2_with fail
        with_reducible refine (valid_is (f * mx) (f * my) (f * mz) c2 X2_.out _).mono ?_
        rintro e_ w16 ⟨rfl, hb⟩
        replace HB := Lib.hid (on_below HB.out hb)
        replace k0 := keepc hb k0
        replace k1 := keepc hb k1
        replace k2 := keepc hb k2
        replace m0 := keepc hb m0
        replace m1 := keepc hb m1
        replace m2 := keepc hb m2
        replace r0 := keepc hb r0
        replace r1 := keepc hb r1
        replace s0 := keepc hb s0
        replace s1 := keepc hb s1
        replace x0 := keepc hb x0
        replace x1 := keepc hb x1
        replace x2 := keepc hb x2
        replace y0 := keepc hb y0
        replace y1 := keepc hb y1
        replace y2 := keepc hb y2
        replace lk := Nat.lt_of_lt_of_le lk hb.size
        replace lm := Nat.lt_of_lt_of_le lm hb.size
        replace lr := Nat.lt_of_lt_of_le lr hb.size
        replace ls := Nat.lt_of_lt_of_le ls hb.size
        replace lx := Nat.lt_of_lt_of_le lx hb.size
        replace ly := Nat.lt_of_lt_of_le ly hb.size
        clear hb
        cases c2
        · skip
          go_wp2_with fail
          go_ret
          exact ⟨rfl, HB.out⟩
        · skip
          have A8_ := Lib.hid (A7_.out (by first | rfl | trivial) (by first | rfl | trivial))
          go_wp2_with fail
          with_reducible refine (A8_.out _).mono ?_
          rintro e_ w17 ⟨rfl, hb⟩
          replace HB := Lib.hid (on_below HB.out hb)
          replace k0 := keepc hb k0
          replace k1 := keepc hb k1
          replace k2 := keepc hb k2
          replace m0 := keepc hb m0
          replace m1 := keepc hb m1
          replace m2 := keepc hb m2
          replace r0 := keepc hb r0
          replace r1 := keepc hb r1
          replace s0 := keepc hb s0
          replace s1 := keepc hb s1
          replace x0 := keepc hb x0
          replace x1 := keepc hb x1
          replace x2 := keepc hb x2
          replace y0 := keepc hb y0
          replace y1 := keepc hb y1
          replace y2 := keepc hb y2
          replace lk := Nat.lt_of_lt_of_le lk hb.size
          replace lm := Nat.lt_of_lt_of_le lm hb.size
          replace lr := Nat.lt_of_lt_of_le lr hb.size
          replace ls := Nat.lt_of_lt_of_le ls hb.size
          replace lx := Nat.lt_of_lt_of_le lx hb.size
          replace ly := Nat.lt_of_lt_of_le ly hb.size
          clear hb
          go_wp2_with fail
          go_ret
          exact ⟨rfl, HB.out⟩
end Go.Proofs.Ytdkofonneebciaa.vectorNear
