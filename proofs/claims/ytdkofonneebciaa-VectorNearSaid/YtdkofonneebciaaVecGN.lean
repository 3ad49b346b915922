/-
  Package vector: Near.
-/
import Derived.Test.YtdkofonneebciaaVecG
namespace Go.Proofs.Ytdkofonneebciaa
open Go.RowKit Go.Sort
open Go.RowKit (Below)
set_option linter.unusedVariables false
set_option linter.unusedSimpArgs false

set_option maxRecDepth 100000 in
set_option maxHeartbeats 2000000 in
theorem near_1 (a b c x y z N D : Int) (iN : I64 N) (iD : I64 D) (h0 : dr a b c = false) (w : World) :
    Calls Try.prog 20 #[.agg #[.int .i64 a, .int .i64 b, .int .i64 c], .agg #[.int .i64 x, .int .i64 y, .int .i64 z], .agg #[.int .i64 N, .int .i64 D]] w fun e_ w' => e_ = .returned (.tuple #[.bool false, .int .i64 1]) ∧ Below w.heap.size w w' := by
  have HN := Lib.hid iN
  clear iN
  have HD := Lib.hid iD
  clear iD
  have H0 := Lib.hid h0
  clear h0
  have p0 : World.cell? (((w.alloc (.cells #[.int .i64 a, .int .i64 b, .int .i64 c] 23)).alloc (.cells #[.int .i64 x, .int .i64 y, .int .i64 z] 23)).alloc (.cells #[.int .i64 N, .int .i64 D] 27)) ⟨w.heap.size, 0, none⟩ = some (.int .i64 a) := by simp [go_sem]
  have p1 : World.cell? (((w.alloc (.cells #[.int .i64 a, .int .i64 b, .int .i64 c] 23)).alloc (.cells #[.int .i64 x, .int .i64 y, .int .i64 z] 23)).alloc (.cells #[.int .i64 N, .int .i64 D] 27)) ⟨w.heap.size, 1, none⟩ = some (.int .i64 b) := by simp [go_sem]
  have p2 : World.cell? (((w.alloc (.cells #[.int .i64 a, .int .i64 b, .int .i64 c] 23)).alloc (.cells #[.int .i64 x, .int .i64 y, .int .i64 z] 23)).alloc (.cells #[.int .i64 N, .int .i64 D] 27)) ⟨w.heap.size, 2, none⟩ = some (.int .i64 c) := by simp [go_sem]
  have lp : w.heap.size < (((w.alloc (.cells #[.int .i64 a, .int .i64 b, .int .i64 c] 23)).alloc (.cells #[.int .i64 x, .int .i64 y, .int .i64 z] 23)).alloc (.cells #[.int .i64 N, .int .i64 D] 27)).heap.size := by simp <;> omega
  have q0 : World.cell? (((w.alloc (.cells #[.int .i64 a, .int .i64 b, .int .i64 c] 23)).alloc (.cells #[.int .i64 x, .int .i64 y, .int .i64 z] 23)).alloc (.cells #[.int .i64 N, .int .i64 D] 27)) ⟨w.heap.size + 1, 0, none⟩ = some (.int .i64 x) := by simp [go_sem]
  have q1 : World.cell? (((w.alloc (.cells #[.int .i64 a, .int .i64 b, .int .i64 c] 23)).alloc (.cells #[.int .i64 x, .int .i64 y, .int .i64 z] 23)).alloc (.cells #[.int .i64 N, .int .i64 D] 27)) ⟨w.heap.size + 1, 1, none⟩ = some (.int .i64 y) := by simp [go_sem]
  have q2 : World.cell? (((w.alloc (.cells #[.int .i64 a, .int .i64 b, .int .i64 c] 23)).alloc (.cells #[.int .i64 x, .int .i64 y, .int .i64 z] 23)).alloc (.cells #[.int .i64 N, .int .i64 D] 27)) ⟨w.heap.size + 1, 2, none⟩ = some (.int .i64 z) := by simp [go_sem]
  have lq : w.heap.size + 1 < (((w.alloc (.cells #[.int .i64 a, .int .i64 b, .int .i64 c] 23)).alloc (.cells #[.int .i64 x, .int .i64 y, .int .i64 z] 23)).alloc (.cells #[.int .i64 N, .int .i64 D] 27)).heap.size := by simp <;> omega
  have o0 : World.cell? (((w.alloc (.cells #[.int .i64 a, .int .i64 b, .int .i64 c] 23)).alloc (.cells #[.int .i64 x, .int .i64 y, .int .i64 z] 23)).alloc (.cells #[.int .i64 N, .int .i64 D] 27)) ⟨w.heap.size + 1 + 1, 0, none⟩ = some (.int .i64 N) := by simp [go_sem]
  have o1 : World.cell? (((w.alloc (.cells #[.int .i64 a, .int .i64 b, .int .i64 c] 23)).alloc (.cells #[.int .i64 x, .int .i64 y, .int .i64 z] 23)).alloc (.cells #[.int .i64 N, .int .i64 D] 27)) ⟨w.heap.size + 1 + 1, 1, none⟩ = some (.int .i64 D) := by simp [go_sem]
  have lo : w.heap.size + 1 + 1 < (((w.alloc (.cells #[.int .i64 a, .int .i64 b, .int .i64 c] 23)).alloc (.cells #[.int .i64 x, .int .i64 y, .int .i64 z] 23)).alloc (.cells #[.int .i64 N, .int .i64 D] 27)).heap.size := by simp <;> omega
  have HB := Lib.hid (show Below w.heap.size w (((w.alloc (.cells #[.int .i64 a, .int .i64 b, .int .i64 c] 23)).alloc (.cells #[.int .i64 x, .int .i64 y, .int .i64 z] 23)).alloc (.cells #[.int .i64 N, .int .i64 D] 27)) from ((((Below.refl _ _).alloc (by simp <;> omega) _).alloc (by simp <;> omega) _).alloc (by simp <;> omega) _))
  go_enter Try.func20, Try.ntmps20
  go_wp2_with fail
  generalize ((w.alloc (.cells #[.int .i64 a, .int .i64 b, .int .i64 c] 23)).alloc (.cells #[.int .i64 x, .int .i64 y, .int .i64 z] 23)).alloc (.cells #[.int .i64 N, .int .i64 D] 27) = w1 at *
  refine (direction_is a b c false H0.out _).mono ?_
  rintro e_ w2 ⟨rfl, hb⟩
  replace HB := Lib.hid (on_below HB.out hb)
  replace p0 := keepc hb p0
  replace p1 := keepc hb p1
  replace p2 := keepc hb p2
  replace q0 := keepc hb q0
  replace q1 := keepc hb q1
  replace q2 := keepc hb q2
  replace o0 := keepc hb o0
  replace o1 := keepc hb o1
  replace lp := Nat.lt_of_lt_of_le lp hb.size
  replace lq := Nat.lt_of_lt_of_le lq hb.size
  replace lo := Nat.lt_of_lt_of_le lo hb.size
  clear hb
  go_wp2_with fail
  go_ret2
  exact ⟨rfl, HB.out⟩
set_option maxRecDepth 100000 in
set_option maxHeartbeats 2000000 in
theorem near_2 (a b c x y z N D : Int) (iN : I64 N) (iD : I64 D) (h0 : dr a b c = true) (h1 : dr x y z = false) (w : World) :
    Calls Try.prog 20 #[.agg #[.int .i64 a, .int .i64 b, .int .i64 c], .agg #[.int .i64 x, .int .i64 y, .int .i64 z], .agg #[.int .i64 N, .int .i64 D]] w fun e_ w' => e_ = .returned (.tuple #[.bool false, .int .i64 1]) ∧ Below w.heap.size w w' := by
  have HN := Lib.hid iN
  clear iN
  have HD := Lib.hid iD
  clear iD
  have H0 := Lib.hid h0
  clear h0
  have H1 := Lib.hid h1
  clear h1
  have p0 : World.cell? (((w.alloc (.cells #[.int .i64 a, .int .i64 b, .int .i64 c] 23)).alloc (.cells #[.int .i64 x, .int .i64 y, .int .i64 z] 23)).alloc (.cells #[.int .i64 N, .int .i64 D] 27)) ⟨w.heap.size, 0, none⟩ = some (.int .i64 a) := by simp [go_sem]
  have p1 : World.cell? (((w.alloc (.cells #[.int .i64 a, .int .i64 b, .int .i64 c] 23)).alloc (.cells #[.int .i64 x, .int .i64 y, .int .i64 z] 23)).alloc (.cells #[.int .i64 N, .int .i64 D] 27)) ⟨w.heap.size, 1, none⟩ = some (.int .i64 b) := by simp [go_sem]
  have p2 : World.cell? (((w.alloc (.cells #[.int .i64 a, .int .i64 b, .int .i64 c] 23)).alloc (.cells #[.int .i64 x, .int .i64 y, .int .i64 z] 23)).alloc (.cells #[.int .i64 N, .int .i64 D] 27)) ⟨w.heap.size, 2, none⟩ = some (.int .i64 c) := by simp [go_sem]
  have lp : w.heap.size < (((w.alloc (.cells #[.int .i64 a, .int .i64 b, .int .i64 c] 23)).alloc (.cells #[.int .i64 x, .int .i64 y, .int .i64 z] 23)).alloc (.cells #[.int .i64 N, .int .i64 D] 27)).heap.size := by simp <;> omega
  have q0 : World.cell? (((w.alloc (.cells #[.int .i64 a, .int .i64 b, .int .i64 c] 23)).alloc (.cells #[.int .i64 x, .int .i64 y, .int .i64 z] 23)).alloc (.cells #[.int .i64 N, .int .i64 D] 27)) ⟨w.heap.size + 1, 0, none⟩ = some (.int .i64 x) := by simp [go_sem]
  have q1 : World.cell? (((w.alloc (.cells #[.int .i64 a, .int .i64 b, .int .i64 c] 23)).alloc (.cells #[.int .i64 x, .int .i64 y, .int .i64 z] 23)).alloc (.cells #[.int .i64 N, .int .i64 D] 27)) ⟨w.heap.size + 1, 1, none⟩ = some (.int .i64 y) := by simp [go_sem]
  have q2 : World.cell? (((w.alloc (.cells #[.int .i64 a, .int .i64 b, .int .i64 c] 23)).alloc (.cells #[.int .i64 x, .int .i64 y, .int .i64 z] 23)).alloc (.cells #[.int .i64 N, .int .i64 D] 27)) ⟨w.heap.size + 1, 2, none⟩ = some (.int .i64 z) := by simp [go_sem]
  have lq : w.heap.size + 1 < (((w.alloc (.cells #[.int .i64 a, .int .i64 b, .int .i64 c] 23)).alloc (.cells #[.int .i64 x, .int .i64 y, .int .i64 z] 23)).alloc (.cells #[.int .i64 N, .int .i64 D] 27)).heap.size := by simp <;> omega
  have o0 : World.cell? (((w.alloc (.cells #[.int .i64 a, .int .i64 b, .int .i64 c] 23)).alloc (.cells #[.int .i64 x, .int .i64 y, .int .i64 z] 23)).alloc (.cells #[.int .i64 N, .int .i64 D] 27)) ⟨w.heap.size + 1 + 1, 0, none⟩ = some (.int .i64 N) := by simp [go_sem]
  have o1 : World.cell? (((w.alloc (.cells #[.int .i64 a, .int .i64 b, .int .i64 c] 23)).alloc (.cells #[.int .i64 x, .int .i64 y, .int .i64 z] 23)).alloc (.cells #[.int .i64 N, .int .i64 D] 27)) ⟨w.heap.size + 1 + 1, 1, none⟩ = some (.int .i64 D) := by simp [go_sem]
  have lo : w.heap.size + 1 + 1 < (((w.alloc (.cells #[.int .i64 a, .int .i64 b, .int .i64 c] 23)).alloc (.cells #[.int .i64 x, .int .i64 y, .int .i64 z] 23)).alloc (.cells #[.int .i64 N, .int .i64 D] 27)).heap.size := by simp <;> omega
  have HB := Lib.hid (show Below w.heap.size w (((w.alloc (.cells #[.int .i64 a, .int .i64 b, .int .i64 c] 23)).alloc (.cells #[.int .i64 x, .int .i64 y, .int .i64 z] 23)).alloc (.cells #[.int .i64 N, .int .i64 D] 27)) from ((((Below.refl _ _).alloc (by simp <;> omega) _).alloc (by simp <;> omega) _).alloc (by simp <;> omega) _))
  go_enter Try.func20, Try.ntmps20
  go_wp2_with fail
  generalize ((w.alloc (.cells #[.int .i64 a, .int .i64 b, .int .i64 c] 23)).alloc (.cells #[.int .i64 x, .int .i64 y, .int .i64 z] 23)).alloc (.cells #[.int .i64 N, .int .i64 D] 27) = w1 at *
  refine (direction_is a b c true H0.out _).mono ?_
  rintro e_ w2 ⟨rfl, hb⟩
  replace HB := Lib.hid (on_below HB.out hb)
  replace p0 := keepc hb p0
  replace p1 := keepc hb p1
  replace p2 := keepc hb p2
  replace q0 := keepc hb q0
  replace q1 := keepc hb q1
  replace q2 := keepc hb q2
  replace o0 := keepc hb o0
  replace o1 := keepc hb o1
  replace lp := Nat.lt_of_lt_of_le lp hb.size
  replace lq := Nat.lt_of_lt_of_le lq hb.size
  replace lo := Nat.lt_of_lt_of_le lo hb.size
  clear hb
  go_wp2_with fail
  refine (direction_is x y z false H1.out _).mono ?_
  rintro e_ w3 ⟨rfl, hb⟩
  replace HB := Lib.hid (on_below HB.out hb)
  replace p0 := keepc hb p0
  replace p1 := keepc hb p1
  replace p2 := keepc hb p2
  replace q0 := keepc hb q0
  replace q1 := keepc hb q1
  replace q2 := keepc hb q2
  replace o0 := keepc hb o0
  replace o1 := keepc hb o1
  replace lp := Nat.lt_of_lt_of_le lp hb.size
  replace lq := Nat.lt_of_lt_of_le lq hb.size
  replace lo := Nat.lt_of_lt_of_le lo hb.size
  clear hb
  go_wp2_with fail
  go_ret2
  exact ⟨rfl, HB.out⟩
set_option maxRecDepth 100000 in
set_option maxHeartbeats 2000000 in
theorem near_3 (a b c x y z N D : Int) (iN : I64 N) (iD : I64 D) (h0 : dr a b c = true) (h1 : dr x y z = true) (h2 : shr N D = false) (w : World) :
    Calls Try.prog 20 #[.agg #[.int .i64 a, .int .i64 b, .int .i64 c], .agg #[.int .i64 x, .int .i64 y, .int .i64 z], .agg #[.int .i64 N, .int .i64 D]] w fun e_ w' => e_ = .returned (.tuple #[.bool false, .int .i64 1]) ∧ Below w.heap.size w w' := by
  have HN := Lib.hid iN
  clear iN
  have HD := Lib.hid iD
  clear iD
  have H0 := Lib.hid h0
  clear h0
  have H1 := Lib.hid h1
  clear h1
  have H2 := Lib.hid h2
  clear h2
  have p0 : World.cell? (((w.alloc (.cells #[.int .i64 a, .int .i64 b, .int .i64 c] 23)).alloc (.cells #[.int .i64 x, .int .i64 y, .int .i64 z] 23)).alloc (.cells #[.int .i64 N, .int .i64 D] 27)) ⟨w.heap.size, 0, none⟩ = some (.int .i64 a) := by simp [go_sem]
  have p1 : World.cell? (((w.alloc (.cells #[.int .i64 a, .int .i64 b, .int .i64 c] 23)).alloc (.cells #[.int .i64 x, .int .i64 y, .int .i64 z] 23)).alloc (.cells #[.int .i64 N, .int .i64 D] 27)) ⟨w.heap.size, 1, none⟩ = some (.int .i64 b) := by simp [go_sem]
  have p2 : World.cell? (((w.alloc (.cells #[.int .i64 a, .int .i64 b, .int .i64 c] 23)).alloc (.cells #[.int .i64 x, .int .i64 y, .int .i64 z] 23)).alloc (.cells #[.int .i64 N, .int .i64 D] 27)) ⟨w.heap.size, 2, none⟩ = some (.int .i64 c) := by simp [go_sem]
  have lp : w.heap.size < (((w.alloc (.cells #[.int .i64 a, .int .i64 b, .int .i64 c] 23)).alloc (.cells #[.int .i64 x, .int .i64 y, .int .i64 z] 23)).alloc (.cells #[.int .i64 N, .int .i64 D] 27)).heap.size := by simp <;> omega
  have q0 : World.cell? (((w.alloc (.cells #[.int .i64 a, .int .i64 b, .int .i64 c] 23)).alloc (.cells #[.int .i64 x, .int .i64 y, .int .i64 z] 23)).alloc (.cells #[.int .i64 N, .int .i64 D] 27)) ⟨w.heap.size + 1, 0, none⟩ = some (.int .i64 x) := by simp [go_sem]
  have q1 : World.cell? (((w.alloc (.cells #[.int .i64 a, .int .i64 b, .int .i64 c] 23)).alloc (.cells #[.int .i64 x, .int .i64 y, .int .i64 z] 23)).alloc (.cells #[.int .i64 N, .int .i64 D] 27)) ⟨w.heap.size + 1, 1, none⟩ = some (.int .i64 y) := by simp [go_sem]
  have q2 : World.cell? (((w.alloc (.cells #[.int .i64 a, .int .i64 b, .int .i64 c] 23)).alloc (.cells #[.int .i64 x, .int .i64 y, .int .i64 z] 23)).alloc (.cells #[.int .i64 N, .int .i64 D] 27)) ⟨w.heap.size + 1, 2, none⟩ = some (.int .i64 z) := by simp [go_sem]
  have lq : w.heap.size + 1 < (((w.alloc (.cells #[.int .i64 a, .int .i64 b, .int .i64 c] 23)).alloc (.cells #[.int .i64 x, .int .i64 y, .int .i64 z] 23)).alloc (.cells #[.int .i64 N, .int .i64 D] 27)).heap.size := by simp <;> omega
  have o0 : World.cell? (((w.alloc (.cells #[.int .i64 a, .int .i64 b, .int .i64 c] 23)).alloc (.cells #[.int .i64 x, .int .i64 y, .int .i64 z] 23)).alloc (.cells #[.int .i64 N, .int .i64 D] 27)) ⟨w.heap.size + 1 + 1, 0, none⟩ = some (.int .i64 N) := by simp [go_sem]
  have o1 : World.cell? (((w.alloc (.cells #[.int .i64 a, .int .i64 b, .int .i64 c] 23)).alloc (.cells #[.int .i64 x, .int .i64 y, .int .i64 z] 23)).alloc (.cells #[.int .i64 N, .int .i64 D] 27)) ⟨w.heap.size + 1 + 1, 1, none⟩ = some (.int .i64 D) := by simp [go_sem]
  have lo : w.heap.size + 1 + 1 < (((w.alloc (.cells #[.int .i64 a, .int .i64 b, .int .i64 c] 23)).alloc (.cells #[.int .i64 x, .int .i64 y, .int .i64 z] 23)).alloc (.cells #[.int .i64 N, .int .i64 D] 27)).heap.size := by simp <;> omega
  have HB := Lib.hid (show Below w.heap.size w (((w.alloc (.cells #[.int .i64 a, .int .i64 b, .int .i64 c] 23)).alloc (.cells #[.int .i64 x, .int .i64 y, .int .i64 z] 23)).alloc (.cells #[.int .i64 N, .int .i64 D] 27)) from ((((Below.refl _ _).alloc (by simp <;> omega) _).alloc (by simp <;> omega) _).alloc (by simp <;> omega) _))
  go_enter Try.func20, Try.ntmps20
  go_wp2_with fail
  generalize ((w.alloc (.cells #[.int .i64 a, .int .i64 b, .int .i64 c] 23)).alloc (.cells #[.int .i64 x, .int .i64 y, .int .i64 z] 23)).alloc (.cells #[.int .i64 N, .int .i64 D] 27) = w1 at *
  refine (direction_is a b c true H0.out _).mono ?_
  rintro e_ w2 ⟨rfl, hb⟩
  replace HB := Lib.hid (on_below HB.out hb)
  replace p0 := keepc hb p0
  replace p1 := keepc hb p1
  replace p2 := keepc hb p2
  replace q0 := keepc hb q0
  replace q1 := keepc hb q1
  replace q2 := keepc hb q2
  replace o0 := keepc hb o0
  replace o1 := keepc hb o1
  replace lp := Nat.lt_of_lt_of_le lp hb.size
  replace lq := Nat.lt_of_lt_of_le lq hb.size
  replace lo := Nat.lt_of_lt_of_le lo hb.size
  clear hb
  go_wp2_with fail
  refine (direction_is x y z true H1.out _).mono ?_
  rintro e_ w3 ⟨rfl, hb⟩
  replace HB := Lib.hid (on_below HB.out hb)
  replace p0 := keepc hb p0
  replace p1 := keepc hb p1
  replace p2 := keepc hb p2
  replace q0 := keepc hb q0
  replace q1 := keepc hb q1
  replace q2 := keepc hb q2
  replace o0 := keepc hb o0
  replace o1 := keepc hb o1
  replace lp := Nat.lt_of_lt_of_le lp hb.size
  replace lq := Nat.lt_of_lt_of_le lq hb.size
  replace lo := Nat.lt_of_lt_of_le lo hb.size
  clear hb
  go_wp2_with fail
  refine (share_is N D false HN.out HD.out H2.out _).mono ?_
  rintro e_ w4 ⟨rfl, hb⟩
  replace HB := Lib.hid (on_below HB.out hb)
  replace p0 := keepc hb p0
  replace p1 := keepc hb p1
  replace p2 := keepc hb p2
  replace q0 := keepc hb q0
  replace q1 := keepc hb q1
  replace q2 := keepc hb q2
  replace o0 := keepc hb o0
  replace o1 := keepc hb o1
  replace lp := Nat.lt_of_lt_of_le lp hb.size
  replace lq := Nat.lt_of_lt_of_le lq hb.size
  replace lo := Nat.lt_of_lt_of_le lo hb.size
  clear hb
  go_wp2_with fail
  go_ret2
  exact ⟨rfl, HB.out⟩
set_option maxRecDepth 100000 in
set_option maxHeartbeats 2000000 in
theorem near_pos (a b c x y z N D : Int) (iN : I64 N) (iD : I64 D) (va : V3 a b c) (vx : V3 x y z) (A B s : Int) (eA : dt a b c a b c = A) (eB : dt x y z x y z = B) (eS : dt a b c x y z = s) (h0 : dr a b c = true) (h1 : dr x y z = true) (h2 : shr N D = true) (hs : 0 < s) (r : Bool) (hr : decide (N * A * B ≤ s * s * D) = r) (hN : 0 ≤ N ∧ N ≤ 10000) (hD : 0 ≤ D ∧ D ≤ 10000) (w : World) :
    Calls Try.prog 20 #[.agg #[.int .i64 a, .int .i64 b, .int .i64 c], .agg #[.int .i64 x, .int .i64 y, .int .i64 z], .agg #[.int .i64 N, .int .i64 D]] w fun e_ w' => e_ = .returned (.tuple #[.bool r, .int .i64 0]) ∧ Below w.heap.size w w' := by
  have hsb := eS ▸ dt_bd va vx
  have hAb := eA ▸ dt_bd va va
  have hBb := eB ▸ dt_bd vx vx
  have hA0 := eA ▸ dt_nn a b c
  have hB0 := eB ▸ dt_nn x y z
  obtain ⟨k1, k2, k3, k4, k5⟩ := nr_bd hsb ⟨hA0, hAb.2⟩ ⟨hB0, hBb.2⟩ hN hD
  have f1 : IntKind.i64.wrap (s * s) = s * s := IntWalk.i64_in _ ⟨by omega, by omega⟩
  have f2 : IntKind.i64.wrap (s * s * D) = s * s * D := IntWalk.i64_in _ ⟨by omega, by omega⟩
  have f3 : IntKind.i64.wrap (N * A) = N * A := IntWalk.i64_in _ ⟨by omega, by omega⟩
  have f4 : IntKind.i64.wrap (N * A * B) = N * A * B := IntWalk.i64_in _ ⟨by omega, by omega⟩
  have g1 : wrap64 (s * s) = s * s := IntWalk.wrap64_in _ ⟨by omega, by omega⟩
  have g2 : wrap64 (s * s * D) = s * s * D := IntWalk.wrap64_in _ ⟨by omega, by omega⟩
  have g3 : wrap64 (N * A) = N * A := IntWalk.wrap64_in _ ⟨by omega, by omega⟩
  have g4 : wrap64 (N * A * B) = N * A * B := IntWalk.wrap64_in _ ⟨by omega, by omega⟩
  clear hsb hAb hBb hA0 hB0 k1 k2 k3 k4 k5 hN hD
  have HA := Lib.hid (fun W => product_is a b c a b c A va va eA W)
  have HC := Lib.hid (fun W => product_is x y z x y z B vx vx eB W)
  have HM := Lib.hid (fun W => product_is a b c x y z s va vx eS W)
  have HG := Lib.hid (fun W => sgn_is s (1) (sgz_one.2 hs) W)
  clear va vx eA eB eS
  have HN := Lib.hid iN
  clear iN
  have HD := Lib.hid iD
  clear iD
  have H0 := Lib.hid h0
  clear h0
  have H1 := Lib.hid h1
  clear h1
  have H2 := Lib.hid h2
  clear h2
  have HR := Lib.hid hr
  clear hr
  have hd : decide (0 < s) = true := decide_eq_true hs
  have p0 : World.cell? (((w.alloc (.cells #[.int .i64 a, .int .i64 b, .int .i64 c] 23)).alloc (.cells #[.int .i64 x, .int .i64 y, .int .i64 z] 23)).alloc (.cells #[.int .i64 N, .int .i64 D] 27)) ⟨w.heap.size, 0, none⟩ = some (.int .i64 a) := by simp [go_sem]
  have p1 : World.cell? (((w.alloc (.cells #[.int .i64 a, .int .i64 b, .int .i64 c] 23)).alloc (.cells #[.int .i64 x, .int .i64 y, .int .i64 z] 23)).alloc (.cells #[.int .i64 N, .int .i64 D] 27)) ⟨w.heap.size, 1, none⟩ = some (.int .i64 b) := by simp [go_sem]
  have p2 : World.cell? (((w.alloc (.cells #[.int .i64 a, .int .i64 b, .int .i64 c] 23)).alloc (.cells #[.int .i64 x, .int .i64 y, .int .i64 z] 23)).alloc (.cells #[.int .i64 N, .int .i64 D] 27)) ⟨w.heap.size, 2, none⟩ = some (.int .i64 c) := by simp [go_sem]
  have lp : w.heap.size < (((w.alloc (.cells #[.int .i64 a, .int .i64 b, .int .i64 c] 23)).alloc (.cells #[.int .i64 x, .int .i64 y, .int .i64 z] 23)).alloc (.cells #[.int .i64 N, .int .i64 D] 27)).heap.size := by simp <;> omega
  have q0 : World.cell? (((w.alloc (.cells #[.int .i64 a, .int .i64 b, .int .i64 c] 23)).alloc (.cells #[.int .i64 x, .int .i64 y, .int .i64 z] 23)).alloc (.cells #[.int .i64 N, .int .i64 D] 27)) ⟨w.heap.size + 1, 0, none⟩ = some (.int .i64 x) := by simp [go_sem]
  have q1 : World.cell? (((w.alloc (.cells #[.int .i64 a, .int .i64 b, .int .i64 c] 23)).alloc (.cells #[.int .i64 x, .int .i64 y, .int .i64 z] 23)).alloc (.cells #[.int .i64 N, .int .i64 D] 27)) ⟨w.heap.size + 1, 1, none⟩ = some (.int .i64 y) := by simp [go_sem]
  have q2 : World.cell? (((w.alloc (.cells #[.int .i64 a, .int .i64 b, .int .i64 c] 23)).alloc (.cells #[.int .i64 x, .int .i64 y, .int .i64 z] 23)).alloc (.cells #[.int .i64 N, .int .i64 D] 27)) ⟨w.heap.size + 1, 2, none⟩ = some (.int .i64 z) := by simp [go_sem]
  have lq : w.heap.size + 1 < (((w.alloc (.cells #[.int .i64 a, .int .i64 b, .int .i64 c] 23)).alloc (.cells #[.int .i64 x, .int .i64 y, .int .i64 z] 23)).alloc (.cells #[.int .i64 N, .int .i64 D] 27)).heap.size := by simp <;> omega
  have o0 : World.cell? (((w.alloc (.cells #[.int .i64 a, .int .i64 b, .int .i64 c] 23)).alloc (.cells #[.int .i64 x, .int .i64 y, .int .i64 z] 23)).alloc (.cells #[.int .i64 N, .int .i64 D] 27)) ⟨w.heap.size + 1 + 1, 0, none⟩ = some (.int .i64 N) := by simp [go_sem]
  have o1 : World.cell? (((w.alloc (.cells #[.int .i64 a, .int .i64 b, .int .i64 c] 23)).alloc (.cells #[.int .i64 x, .int .i64 y, .int .i64 z] 23)).alloc (.cells #[.int .i64 N, .int .i64 D] 27)) ⟨w.heap.size + 1 + 1, 1, none⟩ = some (.int .i64 D) := by simp [go_sem]
  have lo : w.heap.size + 1 + 1 < (((w.alloc (.cells #[.int .i64 a, .int .i64 b, .int .i64 c] 23)).alloc (.cells #[.int .i64 x, .int .i64 y, .int .i64 z] 23)).alloc (.cells #[.int .i64 N, .int .i64 D] 27)).heap.size := by simp <;> omega
  have HB := Lib.hid (show Below w.heap.size w (((w.alloc (.cells #[.int .i64 a, .int .i64 b, .int .i64 c] 23)).alloc (.cells #[.int .i64 x, .int .i64 y, .int .i64 z] 23)).alloc (.cells #[.int .i64 N, .int .i64 D] 27)) from ((((Below.refl _ _).alloc (by simp <;> omega) _).alloc (by simp <;> omega) _).alloc (by simp <;> omega) _))
  go_enter Try.func20, Try.ntmps20
  go_wp2_with fail
  generalize ((w.alloc (.cells #[.int .i64 a, .int .i64 b, .int .i64 c] 23)).alloc (.cells #[.int .i64 x, .int .i64 y, .int .i64 z] 23)).alloc (.cells #[.int .i64 N, .int .i64 D] 27) = w1 at *
  refine (direction_is a b c true H0.out _).mono ?_
  rintro e_ w2 ⟨rfl, hb⟩
  replace HB := Lib.hid (on_below HB.out hb)
  replace p0 := keepc hb p0
  replace p1 := keepc hb p1
  replace p2 := keepc hb p2
  replace q0 := keepc hb q0
  replace q1 := keepc hb q1
  replace q2 := keepc hb q2
  replace o0 := keepc hb o0
  replace o1 := keepc hb o1
  replace lp := Nat.lt_of_lt_of_le lp hb.size
  replace lq := Nat.lt_of_lt_of_le lq hb.size
  replace lo := Nat.lt_of_lt_of_le lo hb.size
  clear hb
  go_wp2_with fail
  refine (direction_is x y z true H1.out _).mono ?_
  rintro e_ w3 ⟨rfl, hb⟩
  replace HB := Lib.hid (on_below HB.out hb)
  replace p0 := keepc hb p0
  replace p1 := keepc hb p1
  replace p2 := keepc hb p2
  replace q0 := keepc hb q0
  replace q1 := keepc hb q1
  replace q2 := keepc hb q2
  replace o0 := keepc hb o0
  replace o1 := keepc hb o1
  replace lp := Nat.lt_of_lt_of_le lp hb.size
  replace lq := Nat.lt_of_lt_of_le lq hb.size
  replace lo := Nat.lt_of_lt_of_le lo hb.size
  clear hb
  go_wp2_with fail
  refine (share_is N D true HN.out HD.out H2.out _).mono ?_
  rintro e_ w4 ⟨rfl, hb⟩
  replace HB := Lib.hid (on_below HB.out hb)
  replace p0 := keepc hb p0
  replace p1 := keepc hb p1
  replace p2 := keepc hb p2
  replace q0 := keepc hb q0
  replace q1 := keepc hb q1
  replace q2 := keepc hb q2
  replace o0 := keepc hb o0
  replace o1 := keepc hb o1
  replace lp := Nat.lt_of_lt_of_le lp hb.size
  replace lq := Nat.lt_of_lt_of_le lq hb.size
  replace lo := Nat.lt_of_lt_of_le lo hb.size
  clear hb
  go_wp2_with fail
  refine (HM.out _).mono ?_
  rintro e_ w5 ⟨rfl, hb⟩
  replace HB := Lib.hid (on_below HB.out hb)
  replace p0 := keepc hb p0
  replace p1 := keepc hb p1
  replace p2 := keepc hb p2
  replace q0 := keepc hb q0
  replace q1 := keepc hb q1
  replace q2 := keepc hb q2
  replace o0 := keepc hb o0
  replace o1 := keepc hb o1
  replace lp := Nat.lt_of_lt_of_le lp hb.size
  replace lq := Nat.lt_of_lt_of_le lq hb.size
  replace lo := Nat.lt_of_lt_of_le lo hb.size
  clear hb
  go_upto_region 4 with fail
  have keep9 : ∀ {W : World}, Below w5.heap.size w5 W → W.cell? ⟨w.heap.size, 0, none⟩ = some (.int .i64 a) ∧ W.cell? ⟨w.heap.size, 1, none⟩ = some (.int .i64 b) ∧ W.cell? ⟨w.heap.size, 2, none⟩ = some (.int .i64 c) ∧ W.cell? ⟨w.heap.size + 1, 0, none⟩ = some (.int .i64 x) ∧ W.cell? ⟨w.heap.size + 1, 1, none⟩ = some (.int .i64 y) ∧ W.cell? ⟨w.heap.size + 1, 2, none⟩ = some (.int .i64 z) ∧ W.cell? ⟨w.heap.size + 1 + 1, 0, none⟩ = some (.int .i64 N) ∧ W.cell? ⟨w.heap.size + 1 + 1, 1, none⟩ = some (.int .i64 D) ∧ Below w5.heap.size w5 W := fun h => ⟨keepc h p0, keepc h p1, keepc h p2, keepc h q0, keepc h q1, keepc h q2, keepc h o0, keepc h o1, h⟩
  go_region_held3 (fun W => W.cell? ⟨w.heap.size, 0, none⟩ = some (.int .i64 a) ∧ W.cell? ⟨w.heap.size, 1, none⟩ = some (.int .i64 b) ∧ W.cell? ⟨w.heap.size, 2, none⟩ = some (.int .i64 c) ∧ W.cell? ⟨w.heap.size + 1, 0, none⟩ = some (.int .i64 x) ∧ W.cell? ⟨w.heap.size + 1, 1, none⟩ = some (.int .i64 y) ∧ W.cell? ⟨w.heap.size + 1, 2, none⟩ = some (.int .i64 z) ∧ W.cell? ⟨w.heap.size + 1 + 1, 0, none⟩ = some (.int .i64 N) ∧ W.cell? ⟨w.heap.size + 1 + 1, 1, none⟩ = some (.int .i64 D) ∧ Below w5.heap.size w5 W)
      (first | assumption | exact keep9 (Below.refl _ _).drew | (go_split_ands; refine keep9 ?_; (first | (refine on_below ?_ hb; assumption) | assumption)))
      (first | (go_at_call 33; (with_reducible refine (HG.out _).mono ?_); rintro e' wq ⟨rfl, hw⟩; subst hw) | (go_at_call 30; (with_reducible refine (HA.out _).mono ?_); rintro e' w2 ⟨rfl, hb⟩) | (go_at_call 30; (with_reducible refine (HC.out _).mono ?_); rintro e' w2 ⟨rfl, hb⟩))
  all_goals go_split_ands
  all_goals go_wp2_with fail
  all_goals go_ret2
  all_goals exact ⟨congrArg (fun b => Ending.returned (.tuple #[.bool b, .int .i64 0])) HR.out, on_below HB.out (by assumption)⟩
set_option maxRecDepth 100000 in
set_option maxHeartbeats 2000000 in
theorem near_neg (a b c x y z N D : Int) (iN : I64 N) (iD : I64 D) (va : V3 a b c) (vx : V3 x y z) (A B s : Int) (eA : dt a b c a b c = A) (eB : dt x y z x y z = B) (eS : dt a b c x y z = s) (h0 : dr a b c = true) (h1 : dr x y z = true) (h2 : shr N D = true) (hs : ¬ 0 < s) (hg : sgz s = -1) (w : World) :
    Calls Try.prog 20 #[.agg #[.int .i64 a, .int .i64 b, .int .i64 c], .agg #[.int .i64 x, .int .i64 y, .int .i64 z], .agg #[.int .i64 N, .int .i64 D]] w fun e_ w' => e_ = .returned (.tuple #[.bool false, .int .i64 0]) ∧ Below w.heap.size w w' := by
  have HA := Lib.hid (fun W => product_is a b c a b c A va va eA W)
  have HC := Lib.hid (fun W => product_is x y z x y z B vx vx eB W)
  have HM := Lib.hid (fun W => product_is a b c x y z s va vx eS W)
  have HG := Lib.hid (fun W => sgn_is s (-1) hg W)
  clear hg
  clear va vx eA eB eS
  have HN := Lib.hid iN
  clear iN
  have HD := Lib.hid iD
  clear iD
  have H0 := Lib.hid h0
  clear h0
  have H1 := Lib.hid h1
  clear h1
  have H2 := Lib.hid h2
  clear h2
  have hd : decide (0 < s) = false := decide_eq_false hs
  have p0 : World.cell? (((w.alloc (.cells #[.int .i64 a, .int .i64 b, .int .i64 c] 23)).alloc (.cells #[.int .i64 x, .int .i64 y, .int .i64 z] 23)).alloc (.cells #[.int .i64 N, .int .i64 D] 27)) ⟨w.heap.size, 0, none⟩ = some (.int .i64 a) := by simp [go_sem]
  have p1 : World.cell? (((w.alloc (.cells #[.int .i64 a, .int .i64 b, .int .i64 c] 23)).alloc (.cells #[.int .i64 x, .int .i64 y, .int .i64 z] 23)).alloc (.cells #[.int .i64 N, .int .i64 D] 27)) ⟨w.heap.size, 1, none⟩ = some (.int .i64 b) := by simp [go_sem]
  have p2 : World.cell? (((w.alloc (.cells #[.int .i64 a, .int .i64 b, .int .i64 c] 23)).alloc (.cells #[.int .i64 x, .int .i64 y, .int .i64 z] 23)).alloc (.cells #[.int .i64 N, .int .i64 D] 27)) ⟨w.heap.size, 2, none⟩ = some (.int .i64 c) := by simp [go_sem]
  have lp : w.heap.size < (((w.alloc (.cells #[.int .i64 a, .int .i64 b, .int .i64 c] 23)).alloc (.cells #[.int .i64 x, .int .i64 y, .int .i64 z] 23)).alloc (.cells #[.int .i64 N, .int .i64 D] 27)).heap.size := by simp <;> omega
  have q0 : World.cell? (((w.alloc (.cells #[.int .i64 a, .int .i64 b, .int .i64 c] 23)).alloc (.cells #[.int .i64 x, .int .i64 y, .int .i64 z] 23)).alloc (.cells #[.int .i64 N, .int .i64 D] 27)) ⟨w.heap.size + 1, 0, none⟩ = some (.int .i64 x) := by simp [go_sem]
  have q1 : World.cell? (((w.alloc (.cells #[.int .i64 a, .int .i64 b, .int .i64 c] 23)).alloc (.cells #[.int .i64 x, .int .i64 y, .int .i64 z] 23)).alloc (.cells #[.int .i64 N, .int .i64 D] 27)) ⟨w.heap.size + 1, 1, none⟩ = some (.int .i64 y) := by simp [go_sem]
  have q2 : World.cell? (((w.alloc (.cells #[.int .i64 a, .int .i64 b, .int .i64 c] 23)).alloc (.cells #[.int .i64 x, .int .i64 y, .int .i64 z] 23)).alloc (.cells #[.int .i64 N, .int .i64 D] 27)) ⟨w.heap.size + 1, 2, none⟩ = some (.int .i64 z) := by simp [go_sem]
  have lq : w.heap.size + 1 < (((w.alloc (.cells #[.int .i64 a, .int .i64 b, .int .i64 c] 23)).alloc (.cells #[.int .i64 x, .int .i64 y, .int .i64 z] 23)).alloc (.cells #[.int .i64 N, .int .i64 D] 27)).heap.size := by simp <;> omega
  have o0 : World.cell? (((w.alloc (.cells #[.int .i64 a, .int .i64 b, .int .i64 c] 23)).alloc (.cells #[.int .i64 x, .int .i64 y, .int .i64 z] 23)).alloc (.cells #[.int .i64 N, .int .i64 D] 27)) ⟨w.heap.size + 1 + 1, 0, none⟩ = some (.int .i64 N) := by simp [go_sem]
  have o1 : World.cell? (((w.alloc (.cells #[.int .i64 a, .int .i64 b, .int .i64 c] 23)).alloc (.cells #[.int .i64 x, .int .i64 y, .int .i64 z] 23)).alloc (.cells #[.int .i64 N, .int .i64 D] 27)) ⟨w.heap.size + 1 + 1, 1, none⟩ = some (.int .i64 D) := by simp [go_sem]
  have lo : w.heap.size + 1 + 1 < (((w.alloc (.cells #[.int .i64 a, .int .i64 b, .int .i64 c] 23)).alloc (.cells #[.int .i64 x, .int .i64 y, .int .i64 z] 23)).alloc (.cells #[.int .i64 N, .int .i64 D] 27)).heap.size := by simp <;> omega
  have HB := Lib.hid (show Below w.heap.size w (((w.alloc (.cells #[.int .i64 a, .int .i64 b, .int .i64 c] 23)).alloc (.cells #[.int .i64 x, .int .i64 y, .int .i64 z] 23)).alloc (.cells #[.int .i64 N, .int .i64 D] 27)) from ((((Below.refl _ _).alloc (by simp <;> omega) _).alloc (by simp <;> omega) _).alloc (by simp <;> omega) _))
  go_enter Try.func20, Try.ntmps20
  go_wp2_with fail
  generalize ((w.alloc (.cells #[.int .i64 a, .int .i64 b, .int .i64 c] 23)).alloc (.cells #[.int .i64 x, .int .i64 y, .int .i64 z] 23)).alloc (.cells #[.int .i64 N, .int .i64 D] 27) = w1 at *
  refine (direction_is a b c true H0.out _).mono ?_
  rintro e_ w2 ⟨rfl, hb⟩
  replace HB := Lib.hid (on_below HB.out hb)
  replace p0 := keepc hb p0
  replace p1 := keepc hb p1
  replace p2 := keepc hb p2
  replace q0 := keepc hb q0
  replace q1 := keepc hb q1
  replace q2 := keepc hb q2
  replace o0 := keepc hb o0
  replace o1 := keepc hb o1
  replace lp := Nat.lt_of_lt_of_le lp hb.size
  replace lq := Nat.lt_of_lt_of_le lq hb.size
  replace lo := Nat.lt_of_lt_of_le lo hb.size
  clear hb
  go_wp2_with fail
  refine (direction_is x y z true H1.out _).mono ?_
  rintro e_ w3 ⟨rfl, hb⟩
  replace HB := Lib.hid (on_below HB.out hb)
  replace p0 := keepc hb p0
  replace p1 := keepc hb p1
  replace p2 := keepc hb p2
  replace q0 := keepc hb q0
  replace q1 := keepc hb q1
  replace q2 := keepc hb q2
  replace o0 := keepc hb o0
  replace o1 := keepc hb o1
  replace lp := Nat.lt_of_lt_of_le lp hb.size
  replace lq := Nat.lt_of_lt_of_le lq hb.size
  replace lo := Nat.lt_of_lt_of_le lo hb.size
  clear hb
  go_wp2_with fail
  refine (share_is N D true HN.out HD.out H2.out _).mono ?_
  rintro e_ w4 ⟨rfl, hb⟩
  replace HB := Lib.hid (on_below HB.out hb)
  replace p0 := keepc hb p0
  replace p1 := keepc hb p1
  replace p2 := keepc hb p2
  replace q0 := keepc hb q0
  replace q1 := keepc hb q1
  replace q2 := keepc hb q2
  replace o0 := keepc hb o0
  replace o1 := keepc hb o1
  replace lp := Nat.lt_of_lt_of_le lp hb.size
  replace lq := Nat.lt_of_lt_of_le lq hb.size
  replace lo := Nat.lt_of_lt_of_le lo hb.size
  clear hb
  go_wp2_with fail
  refine (HM.out _).mono ?_
  rintro e_ w5 ⟨rfl, hb⟩
  replace HB := Lib.hid (on_below HB.out hb)
  replace p0 := keepc hb p0
  replace p1 := keepc hb p1
  replace p2 := keepc hb p2
  replace q0 := keepc hb q0
  replace q1 := keepc hb q1
  replace q2 := keepc hb q2
  replace o0 := keepc hb o0
  replace o1 := keepc hb o1
  replace lp := Nat.lt_of_lt_of_le lp hb.size
  replace lq := Nat.lt_of_lt_of_le lq hb.size
  replace lo := Nat.lt_of_lt_of_le lo hb.size
  clear hb
  go_upto_region 4 with fail
  go_quiet ((go_at_call 33; exact quiet_left (HG.out _)))
  go_wp2_with fail
  go_ret2
  exact ⟨rfl, below_drewN' HB.out _⟩
set_option maxRecDepth 100000 in
set_option maxHeartbeats 2000000 in
theorem near_zro (a b c x y z N D : Int) (iN : I64 N) (iD : I64 D) (va : V3 a b c) (vx : V3 x y z) (A B s : Int) (eA : dt a b c a b c = A) (eB : dt x y z x y z = B) (eS : dt a b c x y z = s) (h0 : dr a b c = true) (h1 : dr x y z = true) (h2 : shr N D = true) (hs : ¬ 0 < s) (hg : sgz s = 0) (w : World) :
    Calls Try.prog 20 #[.agg #[.int .i64 a, .int .i64 b, .int .i64 c], .agg #[.int .i64 x, .int .i64 y, .int .i64 z], .agg #[.int .i64 N, .int .i64 D]] w fun e_ w' => e_ = .returned (.tuple #[.bool false, .int .i64 0]) ∧ Below w.heap.size w w' := by
  have HA := Lib.hid (fun W => product_is a b c a b c A va va eA W)
  have HC := Lib.hid (fun W => product_is x y z x y z B vx vx eB W)
  have HM := Lib.hid (fun W => product_is a b c x y z s va vx eS W)
  have HG := Lib.hid (fun W => sgn_is s (0) hg W)
  clear hg
  clear va vx eA eB eS
  have HN := Lib.hid iN
  clear iN
  have HD := Lib.hid iD
  clear iD
  have H0 := Lib.hid h0
  clear h0
  have H1 := Lib.hid h1
  clear h1
  have H2 := Lib.hid h2
  clear h2
  have hd : decide (0 < s) = false := decide_eq_false hs
  have p0 : World.cell? (((w.alloc (.cells #[.int .i64 a, .int .i64 b, .int .i64 c] 23)).alloc (.cells #[.int .i64 x, .int .i64 y, .int .i64 z] 23)).alloc (.cells #[.int .i64 N, .int .i64 D] 27)) ⟨w.heap.size, 0, none⟩ = some (.int .i64 a) := by simp [go_sem]
  have p1 : World.cell? (((w.alloc (.cells #[.int .i64 a, .int .i64 b, .int .i64 c] 23)).alloc (.cells #[.int .i64 x, .int .i64 y, .int .i64 z] 23)).alloc (.cells #[.int .i64 N, .int .i64 D] 27)) ⟨w.heap.size, 1, none⟩ = some (.int .i64 b) := by simp [go_sem]
  have p2 : World.cell? (((w.alloc (.cells #[.int .i64 a, .int .i64 b, .int .i64 c] 23)).alloc (.cells #[.int .i64 x, .int .i64 y, .int .i64 z] 23)).alloc (.cells #[.int .i64 N, .int .i64 D] 27)) ⟨w.heap.size, 2, none⟩ = some (.int .i64 c) := by simp [go_sem]
  have lp : w.heap.size < (((w.alloc (.cells #[.int .i64 a, .int .i64 b, .int .i64 c] 23)).alloc (.cells #[.int .i64 x, .int .i64 y, .int .i64 z] 23)).alloc (.cells #[.int .i64 N, .int .i64 D] 27)).heap.size := by simp <;> omega
  have q0 : World.cell? (((w.alloc (.cells #[.int .i64 a, .int .i64 b, .int .i64 c] 23)).alloc (.cells #[.int .i64 x, .int .i64 y, .int .i64 z] 23)).alloc (.cells #[.int .i64 N, .int .i64 D] 27)) ⟨w.heap.size + 1, 0, none⟩ = some (.int .i64 x) := by simp [go_sem]
  have q1 : World.cell? (((w.alloc (.cells #[.int .i64 a, .int .i64 b, .int .i64 c] 23)).alloc (.cells #[.int .i64 x, .int .i64 y, .int .i64 z] 23)).alloc (.cells #[.int .i64 N, .int .i64 D] 27)) ⟨w.heap.size + 1, 1, none⟩ = some (.int .i64 y) := by simp [go_sem]
  have q2 : World.cell? (((w.alloc (.cells #[.int .i64 a, .int .i64 b, .int .i64 c] 23)).alloc (.cells #[.int .i64 x, .int .i64 y, .int .i64 z] 23)).alloc (.cells #[.int .i64 N, .int .i64 D] 27)) ⟨w.heap.size + 1, 2, none⟩ = some (.int .i64 z) := by simp [go_sem]
  have lq : w.heap.size + 1 < (((w.alloc (.cells #[.int .i64 a, .int .i64 b, .int .i64 c] 23)).alloc (.cells #[.int .i64 x, .int .i64 y, .int .i64 z] 23)).alloc (.cells #[.int .i64 N, .int .i64 D] 27)).heap.size := by simp <;> omega
  have o0 : World.cell? (((w.alloc (.cells #[.int .i64 a, .int .i64 b, .int .i64 c] 23)).alloc (.cells #[.int .i64 x, .int .i64 y, .int .i64 z] 23)).alloc (.cells #[.int .i64 N, .int .i64 D] 27)) ⟨w.heap.size + 1 + 1, 0, none⟩ = some (.int .i64 N) := by simp [go_sem]
  have o1 : World.cell? (((w.alloc (.cells #[.int .i64 a, .int .i64 b, .int .i64 c] 23)).alloc (.cells #[.int .i64 x, .int .i64 y, .int .i64 z] 23)).alloc (.cells #[.int .i64 N, .int .i64 D] 27)) ⟨w.heap.size + 1 + 1, 1, none⟩ = some (.int .i64 D) := by simp [go_sem]
  have lo : w.heap.size + 1 + 1 < (((w.alloc (.cells #[.int .i64 a, .int .i64 b, .int .i64 c] 23)).alloc (.cells #[.int .i64 x, .int .i64 y, .int .i64 z] 23)).alloc (.cells #[.int .i64 N, .int .i64 D] 27)).heap.size := by simp <;> omega
  have HB := Lib.hid (show Below w.heap.size w (((w.alloc (.cells #[.int .i64 a, .int .i64 b, .int .i64 c] 23)).alloc (.cells #[.int .i64 x, .int .i64 y, .int .i64 z] 23)).alloc (.cells #[.int .i64 N, .int .i64 D] 27)) from ((((Below.refl _ _).alloc (by simp <;> omega) _).alloc (by simp <;> omega) _).alloc (by simp <;> omega) _))
  go_enter Try.func20, Try.ntmps20
  go_wp2_with fail
  generalize ((w.alloc (.cells #[.int .i64 a, .int .i64 b, .int .i64 c] 23)).alloc (.cells #[.int .i64 x, .int .i64 y, .int .i64 z] 23)).alloc (.cells #[.int .i64 N, .int .i64 D] 27) = w1 at *
  refine (direction_is a b c true H0.out _).mono ?_
  rintro e_ w2 ⟨rfl, hb⟩
  replace HB := Lib.hid (on_below HB.out hb)
  replace p0 := keepc hb p0
  replace p1 := keepc hb p1
  replace p2 := keepc hb p2
  replace q0 := keepc hb q0
  replace q1 := keepc hb q1
  replace q2 := keepc hb q2
  replace o0 := keepc hb o0
  replace o1 := keepc hb o1
  replace lp := Nat.lt_of_lt_of_le lp hb.size
  replace lq := Nat.lt_of_lt_of_le lq hb.size
  replace lo := Nat.lt_of_lt_of_le lo hb.size
  clear hb
  go_wp2_with fail
  refine (direction_is x y z true H1.out _).mono ?_
  rintro e_ w3 ⟨rfl, hb⟩
  replace HB := Lib.hid (on_below HB.out hb)
  replace p0 := keepc hb p0
  replace p1 := keepc hb p1
  replace p2 := keepc hb p2
  replace q0 := keepc hb q0
  replace q1 := keepc hb q1
  replace q2 := keepc hb q2
  replace o0 := keepc hb o0
  replace o1 := keepc hb o1
  replace lp := Nat.lt_of_lt_of_le lp hb.size
  replace lq := Nat.lt_of_lt_of_le lq hb.size
  replace lo := Nat.lt_of_lt_of_le lo hb.size
  clear hb
  go_wp2_with fail
  refine (share_is N D true HN.out HD.out H2.out _).mono ?_
  rintro e_ w4 ⟨rfl, hb⟩
  replace HB := Lib.hid (on_below HB.out hb)
  replace p0 := keepc hb p0
  replace p1 := keepc hb p1
  replace p2 := keepc hb p2
  replace q0 := keepc hb q0
  replace q1 := keepc hb q1
  replace q2 := keepc hb q2
  replace o0 := keepc hb o0
  replace o1 := keepc hb o1
  replace lp := Nat.lt_of_lt_of_le lp hb.size
  replace lq := Nat.lt_of_lt_of_le lq hb.size
  replace lo := Nat.lt_of_lt_of_le lo hb.size
  clear hb
  go_wp2_with fail
  refine (HM.out _).mono ?_
  rintro e_ w5 ⟨rfl, hb⟩
  replace HB := Lib.hid (on_below HB.out hb)
  replace p0 := keepc hb p0
  replace p1 := keepc hb p1
  replace p2 := keepc hb p2
  replace q0 := keepc hb q0
  replace q1 := keepc hb q1
  replace q2 := keepc hb q2
  replace o0 := keepc hb o0
  replace o1 := keepc hb o1
  replace lp := Nat.lt_of_lt_of_le lp hb.size
  replace lq := Nat.lt_of_lt_of_le lq hb.size
  replace lo := Nat.lt_of_lt_of_le lo hb.size
  clear hb
  go_upto_region 4 with fail
  go_quiet ((go_at_call 33; exact quiet_left (HG.out _)))
  go_wp2_with fail
  go_ret2
  exact ⟨rfl, below_drewN' HB.out _⟩
theorem near_is (a b c x y z N D E : Int) (r : Bool) (iN : I64 N) (iD : I64 D) (hE : aE (dr a b c && dr x y z && shr N D) = E) (hr : (decide (E = 0) && nr (dt a b c x y z) (dt a b c a b c) (dt x y z x y z) N D) = r) (w : World) :
    Calls Try.prog 20 #[.agg #[.int .i64 a, .int .i64 b, .int .i64 c], .agg #[.int .i64 x, .int .i64 y, .int .i64 z], .agg #[.int .i64 N, .int .i64 D]] w fun e_ w' => e_ = .returned (.tuple #[.bool r, .int .i64 E]) ∧ Below w.heap.size w w' := by
  subst hr hE
  rcases (Bool.eq_false_or_eq_true (dr a b c)).symm with h0 | h0
  · have e1 : (dr a b c && dr x y z && shr N D) = false := by simp [h0]
    rw [e1]; exact near_1 a b c x y z N D iN iD h0 w
  rcases (Bool.eq_false_or_eq_true (dr x y z)).symm with h1 | h1
  · have e1 : (dr a b c && dr x y z && shr N D) = false := by simp [h0, h1]
    rw [e1]; exact near_2 a b c x y z N D iN iD h0 h1 w
  rcases (Bool.eq_false_or_eq_true (shr N D)).symm with h2 | h2
  · have e1 : (dr a b c && dr x y z && shr N D) = false := by simp [h0, h1, h2]
    rw [e1]; exact near_3 a b c x y z N D iN iD h0 h1 h2 w
  have e1 : (dr a b c && dr x y z && shr N D) = true := by simp [h0, h1, h2]
  have va := (dr_iff.1 h0).1
  have vx := (dr_iff.1 h1).1
  have hsh := shr_iff.1 h2
  rw [e1]
  by_cases hs : 0 < dt a b c x y z
  · have e2 : (decide (aE true = 0) && nr (dt a b c x y z) (dt a b c a b c) (dt x y z x y z) N D) = decide (N * dt a b c a b c * dt x y z x y z ≤ dt a b c x y z * dt a b c x y z * D) := by unfold nr; simp [hs, aE]
    rw [e2]; exact near_pos a b c x y z N D iN iD va vx _ _ _ rfl rfl rfl h0 h1 h2 hs _ rfl ⟨by omega, by omega⟩ ⟨by omega, by omega⟩ w
  · have e2 : (decide (aE true = 0) && nr (dt a b c x y z) (dt a b c a b c) (dt x y z x y z) N D) = false := by unfold nr; simp [hs]
    rw [e2]
    rcases Int.lt_or_eq_of_le (Int.not_lt.1 hs) with hm | hm
    · exact near_neg a b c x y z N D iN iD va vx _ _ _ rfl rfl rfl h0 h1 h2 hs (sgz_neg1.2 hm) w
    · exact near_zro a b c x y z N D iN iD va vx _ _ _ rfl rfl rfl h0 h1 h2 hs (by rw [hm]; rfl) w
end Go.Proofs.Ytdkofonneebciaa
