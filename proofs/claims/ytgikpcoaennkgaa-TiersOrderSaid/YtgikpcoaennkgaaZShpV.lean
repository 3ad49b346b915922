/-
  Out of the texts of layer 7: package vector's Valid, isPoint and Turn.
-/
import Derived.Test.YtgikpcoaennkgaaZShpF
import Derived.LoopN
namespace Go.Proofs.Ytgikpcoaennkgaa
open Go.RowKit Go.Sort
open Go.RowKit (Below)
set_option linter.unusedVariables false
set_option linter.unusedSimpArgs false

theorem undrew_b {B : Nat} {w w' : World} (h : Below B w.drew w') : Below B w w' := (show Below B w w.drew from ⟨rfl, rfl, rfl, Nat.le_refl _, fun _ _ => rfl⟩).trans h
theorem ix0 (x y z : Value) (W : World) : (Instr.index 86 (.agg #[x, y, z]) (.int .i64 0)).run Try.prog W = .ok x W := by kernel_rfl
theorem ix1 (x y z : Value) (W : World) : (Instr.index 86 (.agg #[x, y, z]) (.int .i64 1)).run Try.prog W = .ok y W := by kernel_rfl
theorem ix2 (x y z : Value) (W : World) : (Instr.index 86 (.agg #[x, y, z]) (.int .i64 2)).run Try.prog W = .ok z W := by kernel_rfl
theorem coords_any (a b c : Int) (w : World) :
    Calls Try.prog 43 #[.agg #[.int .i64 a, .int .i64 b, .int .i64 c]] w fun e w' => e = .returned (.agg #[.int .i64 a, .int .i64 b, .int .i64 c]) ∧ Below w.heap.size w w' := by
  go_enter Try.func43, Try.ntmps43
  go_wp2
  refine bodyPost_ret (v := .agg #[.int .i64 a, .int .i64 b, .int .i64 c]) (by simp [results, Try.results43, go_sem]) rfl ⟨rfl, ?_⟩
  repeat (refine Below.setCell ?_ (by simp <;> omega) _)
  exact ((Below.refl _ _).alloc (by simp) _).alloc (by simp) _
theorem sgn_any (x : Int) (w : World) :
    Calls Try.prog 80 #[.int .i64 x] w fun e w' => e = .returned (.int .i64 (sgz x)) ∧ w = w' := by
  rcases Int.lt_trichotomy x 0 with h | h | h
  · have e : sgz x = -1 := by unfold sgz; split <;> (try split) <;> omega
    rw [e]
    go_enter Try.func80, Try.ntmps80
    go_wp2
    all_goals (go_ret; exact ⟨rfl, rfl⟩)
  · subst h
    go_enter Try.func80, Try.ntmps80
    go_wp2
    all_goals (go_ret; exact ⟨rfl, rfl⟩)
  · have e : sgz x = 1 := by unfold sgz; split <;> (try split) <;> omega
    rw [e]
    go_enter Try.func80, Try.ntmps80
    go_wp2
    all_goals (go_ret; exact ⟨rfl, rfl⟩)

set_option maxRecDepth 100000 in
theorem vvalid_any (a b c : Int) (w : World) :
    Calls Try.prog 32 #[.agg #[.int .i64 a, .int .i64 b, .int .i64 c]] w fun e w' => e = .returned (.bool (vv a b c)) ∧ Below w.heap.size w w' := by
  have hs : ∀ n : Int, n < -2000 ∨ 2000 < n ∨ (-2000 ≤ n ∧ n ≤ 2000) := by omega
  have HC := Lib.hid (fun W => coords_any a b c W)
  have i0 := ix0 (.int .i64 a) (.int .i64 b) (.int .i64 c)
  have i1 := ix1 (.int .i64 a) (.int .i64 b) (.int .i64 c)
  have i2 := ix2 (.int .i64 a) (.int .i64 b) (.int .i64 c)
  have hB := below_new w (.cells #[.int .i64 a, .int .i64 b, .int .i64 c] 26)
  have HB := Lib.hid hB
  clear hB
  go_enter Try.func32, Try.ntmps32
  go_wp2_with fail
  refine (HC.out _).mono ?_
  rintro e w1 ⟨rfl, hb⟩
  replace HB := Lib.hid (on_below HB.out hb)
  clear hb HC
  go_wp2_with fail
  refine wp_loop_rounds 4 ?_
  rw [rounds_succ]
  rcases hs a with h | h | h
  · go_wp2
    all_goals (go_ret; exact ⟨ret_bool (by unfold vv inr; simp; omega), HB.out⟩)
  · go_wp2
    all_goals (go_ret; exact ⟨ret_bool (by unfold vv inr; simp; omega), HB.out⟩)
  go_wp2
  rw [rounds_succ]
  rcases hs b with h' | h' | h'
  · go_wp2
    all_goals (go_ret; exact ⟨ret_bool (by unfold vv inr; simp; omega), HB.out⟩)
  · go_wp2
    all_goals (go_ret; exact ⟨ret_bool (by unfold vv inr; simp; omega), HB.out⟩)
  go_wp2
  rw [rounds_succ]
  rcases hs c with h'' | h'' | h''
  · go_wp2
    all_goals (go_ret; exact ⟨ret_bool (by unfold vv inr; simp; omega), HB.out⟩)
  · go_wp2
    all_goals (go_ret; exact ⟨ret_bool (by unfold vv inr; simp; omega), HB.out⟩)
  go_wp2
  rw [rounds_succ]
  go_wp2
  all_goals (go_ret; exact ⟨ret_bool (by unfold vv inr; simp; omega), HB.out⟩)
theorem vvalid_is (a b c : Int) (r : Bool) (h : vv a b c = r) (w : World) :
    Calls Try.prog 32 #[.agg #[.int .i64 a, .int .i64 b, .int .i64 c]] w fun e w' => e = .returned (.bool r) ∧ Below w.heap.size w w' := by subst h; exact vvalid_any a b c w
set_option maxRecDepth 100000 in
set_option maxHeartbeats 2000000 in
theorem point_is (a b : Int) (r : Bool) (h : pp a b = r) (w : World) :
    Calls Try.prog 79 #[.agg #[.int .i64 a, .int .i64 b]] w fun e_ w' => e_ = .returned (.bool r) ∧ Below w.heap.size w w' := by
  rw [← vv_zero] at h
  have H := Lib.hid h
  clear h
  have p0 : World.cell? (w.alloc (.cells #[.int .i64 a, .int .i64 b] 55)) ⟨w.heap.size, 0, none⟩ = some (.int .i64 a) := by simp [go_sem]
  have p1 : World.cell? (w.alloc (.cells #[.int .i64 a, .int .i64 b] 55)) ⟨w.heap.size, 1, none⟩ = some (.int .i64 b) := by simp [go_sem]
  have lp : w.heap.size < (w.alloc (.cells #[.int .i64 a, .int .i64 b] 55)).heap.size := by simp <;> omega
  have HB := Lib.hid (show Below w.heap.size w (w.alloc (.cells #[.int .i64 a, .int .i64 b] 55)) from ((Below.refl _ _).alloc (by simp <;> omega) _))
  go_enter Try.func79, Try.ntmps79
  go_wp2_with fail
  generalize w.alloc (.cells #[.int .i64 a, .int .i64 b] 55) = w1 at *
  refine (vvalid_is a b 0 r H.out _).mono ?_
  rintro e_ w2 ⟨rfl, hb⟩
  replace HB := Lib.hid (on_below HB.out hb)
  replace p0 := keepc hb p0
  replace p1 := keepc hb p1
  replace lp := Nat.lt_of_lt_of_le lp hb.size
  clear hb
  go_wp2_with fail
  go_ret
  exact ⟨rfl, HB.out⟩
set_option maxRecDepth 100000 in
set_option maxHeartbeats 2000000 in
theorem turn_1 (a b c d e f : Int) (h0 : pp a b = false) (w : World) :
    Calls Try.prog 71 #[.agg #[.int .i64 a, .int .i64 b], .agg #[.int .i64 c, .int .i64 d], .agg #[.int .i64 e, .int .i64 f]] w fun e_ w' => e_ = .returned (.tuple #[.int .i64 0, .int .i64 1]) ∧ Below w.heap.size w w' := by
  have H0 := Lib.hid h0
  clear h0
  have p0 : World.cell? (((w.alloc (.cells #[.int .i64 a, .int .i64 b] 55)).alloc (.cells #[.int .i64 c, .int .i64 d] 55)).alloc (.cells #[.int .i64 e, .int .i64 f] 55)) ⟨w.heap.size, 0, none⟩ = some (.int .i64 a) := by simp [go_sem]
  have p1 : World.cell? (((w.alloc (.cells #[.int .i64 a, .int .i64 b] 55)).alloc (.cells #[.int .i64 c, .int .i64 d] 55)).alloc (.cells #[.int .i64 e, .int .i64 f] 55)) ⟨w.heap.size, 1, none⟩ = some (.int .i64 b) := by simp [go_sem]
  have lp : w.heap.size < (((w.alloc (.cells #[.int .i64 a, .int .i64 b] 55)).alloc (.cells #[.int .i64 c, .int .i64 d] 55)).alloc (.cells #[.int .i64 e, .int .i64 f] 55)).heap.size := by simp <;> omega
  have q0 : World.cell? (((w.alloc (.cells #[.int .i64 a, .int .i64 b] 55)).alloc (.cells #[.int .i64 c, .int .i64 d] 55)).alloc (.cells #[.int .i64 e, .int .i64 f] 55)) ⟨w.heap.size + 1, 0, none⟩ = some (.int .i64 c) := by simp [go_sem]
  have q1 : World.cell? (((w.alloc (.cells #[.int .i64 a, .int .i64 b] 55)).alloc (.cells #[.int .i64 c, .int .i64 d] 55)).alloc (.cells #[.int .i64 e, .int .i64 f] 55)) ⟨w.heap.size + 1, 1, none⟩ = some (.int .i64 d) := by simp [go_sem]
  have lq : w.heap.size + 1 < (((w.alloc (.cells #[.int .i64 a, .int .i64 b] 55)).alloc (.cells #[.int .i64 c, .int .i64 d] 55)).alloc (.cells #[.int .i64 e, .int .i64 f] 55)).heap.size := by simp <;> omega
  have s0 : World.cell? (((w.alloc (.cells #[.int .i64 a, .int .i64 b] 55)).alloc (.cells #[.int .i64 c, .int .i64 d] 55)).alloc (.cells #[.int .i64 e, .int .i64 f] 55)) ⟨w.heap.size + 1 + 1, 0, none⟩ = some (.int .i64 e) := by simp [go_sem]
  have s1 : World.cell? (((w.alloc (.cells #[.int .i64 a, .int .i64 b] 55)).alloc (.cells #[.int .i64 c, .int .i64 d] 55)).alloc (.cells #[.int .i64 e, .int .i64 f] 55)) ⟨w.heap.size + 1 + 1, 1, none⟩ = some (.int .i64 f) := by simp [go_sem]
  have ls : w.heap.size + 1 + 1 < (((w.alloc (.cells #[.int .i64 a, .int .i64 b] 55)).alloc (.cells #[.int .i64 c, .int .i64 d] 55)).alloc (.cells #[.int .i64 e, .int .i64 f] 55)).heap.size := by simp <;> omega
  have HB := Lib.hid (show Below w.heap.size w (((w.alloc (.cells #[.int .i64 a, .int .i64 b] 55)).alloc (.cells #[.int .i64 c, .int .i64 d] 55)).alloc (.cells #[.int .i64 e, .int .i64 f] 55)) from ((((Below.refl _ _).alloc (by simp <;> omega) _).alloc (by simp <;> omega) _).alloc (by simp <;> omega) _))
  go_enter Try.func71, Try.ntmps71
  go_wp2_with fail
  generalize ((w.alloc (.cells #[.int .i64 a, .int .i64 b] 55)).alloc (.cells #[.int .i64 c, .int .i64 d] 55)).alloc (.cells #[.int .i64 e, .int .i64 f] 55) = w1 at *
  refine (point_is a b false H0.out _).mono ?_
  rintro e_ w2 ⟨rfl, hb⟩
  replace HB := Lib.hid (on_below HB.out hb)
  replace p0 := keepc hb p0
  replace p1 := keepc hb p1
  replace q0 := keepc hb q0
  replace q1 := keepc hb q1
  replace s0 := keepc hb s0
  replace s1 := keepc hb s1
  replace lp := Nat.lt_of_lt_of_le lp hb.size
  replace lq := Nat.lt_of_lt_of_le lq hb.size
  replace ls := Nat.lt_of_lt_of_le ls hb.size
  clear hb
  go_wp2_with fail
  go_ret2
  exact ⟨rfl, HB.out⟩
set_option maxRecDepth 100000 in
set_option maxHeartbeats 2000000 in
theorem turn_2 (a b c d e f : Int) (h0 : pp a b = true) (h1 : pp c d = false) (w : World) :
    Calls Try.prog 71 #[.agg #[.int .i64 a, .int .i64 b], .agg #[.int .i64 c, .int .i64 d], .agg #[.int .i64 e, .int .i64 f]] w fun e_ w' => e_ = .returned (.tuple #[.int .i64 0, .int .i64 1]) ∧ Below w.heap.size w w' := by
  have H0 := Lib.hid h0
  clear h0
  have H1 := Lib.hid h1
  clear h1
  have p0 : World.cell? (((w.alloc (.cells #[.int .i64 a, .int .i64 b] 55)).alloc (.cells #[.int .i64 c, .int .i64 d] 55)).alloc (.cells #[.int .i64 e, .int .i64 f] 55)) ⟨w.heap.size, 0, none⟩ = some (.int .i64 a) := by simp [go_sem]
  have p1 : World.cell? (((w.alloc (.cells #[.int .i64 a, .int .i64 b] 55)).alloc (.cells #[.int .i64 c, .int .i64 d] 55)).alloc (.cells #[.int .i64 e, .int .i64 f] 55)) ⟨w.heap.size, 1, none⟩ = some (.int .i64 b) := by simp [go_sem]
  have lp : w.heap.size < (((w.alloc (.cells #[.int .i64 a, .int .i64 b] 55)).alloc (.cells #[.int .i64 c, .int .i64 d] 55)).alloc (.cells #[.int .i64 e, .int .i64 f] 55)).heap.size := by simp <;> omega
  have q0 : World.cell? (((w.alloc (.cells #[.int .i64 a, .int .i64 b] 55)).alloc (.cells #[.int .i64 c, .int .i64 d] 55)).alloc (.cells #[.int .i64 e, .int .i64 f] 55)) ⟨w.heap.size + 1, 0, none⟩ = some (.int .i64 c) := by simp [go_sem]
  have q1 : World.cell? (((w.alloc (.cells #[.int .i64 a, .int .i64 b] 55)).alloc (.cells #[.int .i64 c, .int .i64 d] 55)).alloc (.cells #[.int .i64 e, .int .i64 f] 55)) ⟨w.heap.size + 1, 1, none⟩ = some (.int .i64 d) := by simp [go_sem]
  have lq : w.heap.size + 1 < (((w.alloc (.cells #[.int .i64 a, .int .i64 b] 55)).alloc (.cells #[.int .i64 c, .int .i64 d] 55)).alloc (.cells #[.int .i64 e, .int .i64 f] 55)).heap.size := by simp <;> omega
  have s0 : World.cell? (((w.alloc (.cells #[.int .i64 a, .int .i64 b] 55)).alloc (.cells #[.int .i64 c, .int .i64 d] 55)).alloc (.cells #[.int .i64 e, .int .i64 f] 55)) ⟨w.heap.size + 1 + 1, 0, none⟩ = some (.int .i64 e) := by simp [go_sem]
  have s1 : World.cell? (((w.alloc (.cells #[.int .i64 a, .int .i64 b] 55)).alloc (.cells #[.int .i64 c, .int .i64 d] 55)).alloc (.cells #[.int .i64 e, .int .i64 f] 55)) ⟨w.heap.size + 1 + 1, 1, none⟩ = some (.int .i64 f) := by simp [go_sem]
  have ls : w.heap.size + 1 + 1 < (((w.alloc (.cells #[.int .i64 a, .int .i64 b] 55)).alloc (.cells #[.int .i64 c, .int .i64 d] 55)).alloc (.cells #[.int .i64 e, .int .i64 f] 55)).heap.size := by simp <;> omega
  have HB := Lib.hid (show Below w.heap.size w (((w.alloc (.cells #[.int .i64 a, .int .i64 b] 55)).alloc (.cells #[.int .i64 c, .int .i64 d] 55)).alloc (.cells #[.int .i64 e, .int .i64 f] 55)) from ((((Below.refl _ _).alloc (by simp <;> omega) _).alloc (by simp <;> omega) _).alloc (by simp <;> omega) _))
  go_enter Try.func71, Try.ntmps71
  go_wp2_with fail
  generalize ((w.alloc (.cells #[.int .i64 a, .int .i64 b] 55)).alloc (.cells #[.int .i64 c, .int .i64 d] 55)).alloc (.cells #[.int .i64 e, .int .i64 f] 55) = w1 at *
  refine (point_is a b true H0.out _).mono ?_
  rintro e_ w2 ⟨rfl, hb⟩
  replace HB := Lib.hid (on_below HB.out hb)
  replace p0 := keepc hb p0
  replace p1 := keepc hb p1
  replace q0 := keepc hb q0
  replace q1 := keepc hb q1
  replace s0 := keepc hb s0
  replace s1 := keepc hb s1
  replace lp := Nat.lt_of_lt_of_le lp hb.size
  replace lq := Nat.lt_of_lt_of_le lq hb.size
  replace ls := Nat.lt_of_lt_of_le ls hb.size
  clear hb
  go_wp2_with fail
  refine (point_is c d false H1.out _).mono ?_
  rintro e_ w3 ⟨rfl, hb⟩
  replace HB := Lib.hid (on_below HB.out hb)
  replace p0 := keepc hb p0
  replace p1 := keepc hb p1
  replace q0 := keepc hb q0
  replace q1 := keepc hb q1
  replace s0 := keepc hb s0
  replace s1 := keepc hb s1
  replace lp := Nat.lt_of_lt_of_le lp hb.size
  replace lq := Nat.lt_of_lt_of_le lq hb.size
  replace ls := Nat.lt_of_lt_of_le ls hb.size
  clear hb
  go_wp2_with fail
  go_ret2
  exact ⟨rfl, HB.out⟩
set_option maxRecDepth 100000 in
set_option maxHeartbeats 2000000 in
theorem turn_3 (a b c d e f : Int) (h0 : pp a b = true) (h1 : pp c d = true) (h2 : pp e f = false) (w : World) :
    Calls Try.prog 71 #[.agg #[.int .i64 a, .int .i64 b], .agg #[.int .i64 c, .int .i64 d], .agg #[.int .i64 e, .int .i64 f]] w fun e_ w' => e_ = .returned (.tuple #[.int .i64 0, .int .i64 1]) ∧ Below w.heap.size w w' := by
  have H0 := Lib.hid h0
  clear h0
  have H1 := Lib.hid h1
  clear h1
  have H2 := Lib.hid h2
  clear h2
  have p0 : World.cell? (((w.alloc (.cells #[.int .i64 a, .int .i64 b] 55)).alloc (.cells #[.int .i64 c, .int .i64 d] 55)).alloc (.cells #[.int .i64 e, .int .i64 f] 55)) ⟨w.heap.size, 0, none⟩ = some (.int .i64 a) := by simp [go_sem]
  have p1 : World.cell? (((w.alloc (.cells #[.int .i64 a, .int .i64 b] 55)).alloc (.cells #[.int .i64 c, .int .i64 d] 55)).alloc (.cells #[.int .i64 e, .int .i64 f] 55)) ⟨w.heap.size, 1, none⟩ = some (.int .i64 b) := by simp [go_sem]
  have lp : w.heap.size < (((w.alloc (.cells #[.int .i64 a, .int .i64 b] 55)).alloc (.cells #[.int .i64 c, .int .i64 d] 55)).alloc (.cells #[.int .i64 e, .int .i64 f] 55)).heap.size := by simp <;> omega
  have q0 : World.cell? (((w.alloc (.cells #[.int .i64 a, .int .i64 b] 55)).alloc (.cells #[.int .i64 c, .int .i64 d] 55)).alloc (.cells #[.int .i64 e, .int .i64 f] 55)) ⟨w.heap.size + 1, 0, none⟩ = some (.int .i64 c) := by simp [go_sem]
  have q1 : World.cell? (((w.alloc (.cells #[.int .i64 a, .int .i64 b] 55)).alloc (.cells #[.int .i64 c, .int .i64 d] 55)).alloc (.cells #[.int .i64 e, .int .i64 f] 55)) ⟨w.heap.size + 1, 1, none⟩ = some (.int .i64 d) := by simp [go_sem]
  have lq : w.heap.size + 1 < (((w.alloc (.cells #[.int .i64 a, .int .i64 b] 55)).alloc (.cells #[.int .i64 c, .int .i64 d] 55)).alloc (.cells #[.int .i64 e, .int .i64 f] 55)).heap.size := by simp <;> omega
  have s0 : World.cell? (((w.alloc (.cells #[.int .i64 a, .int .i64 b] 55)).alloc (.cells #[.int .i64 c, .int .i64 d] 55)).alloc (.cells #[.int .i64 e, .int .i64 f] 55)) ⟨w.heap.size + 1 + 1, 0, none⟩ = some (.int .i64 e) := by simp [go_sem]
  have s1 : World.cell? (((w.alloc (.cells #[.int .i64 a, .int .i64 b] 55)).alloc (.cells #[.int .i64 c, .int .i64 d] 55)).alloc (.cells #[.int .i64 e, .int .i64 f] 55)) ⟨w.heap.size + 1 + 1, 1, none⟩ = some (.int .i64 f) := by simp [go_sem]
  have ls : w.heap.size + 1 + 1 < (((w.alloc (.cells #[.int .i64 a, .int .i64 b] 55)).alloc (.cells #[.int .i64 c, .int .i64 d] 55)).alloc (.cells #[.int .i64 e, .int .i64 f] 55)).heap.size := by simp <;> omega
  have HB := Lib.hid (show Below w.heap.size w (((w.alloc (.cells #[.int .i64 a, .int .i64 b] 55)).alloc (.cells #[.int .i64 c, .int .i64 d] 55)).alloc (.cells #[.int .i64 e, .int .i64 f] 55)) from ((((Below.refl _ _).alloc (by simp <;> omega) _).alloc (by simp <;> omega) _).alloc (by simp <;> omega) _))
  go_enter Try.func71, Try.ntmps71
  go_wp2_with fail
  generalize ((w.alloc (.cells #[.int .i64 a, .int .i64 b] 55)).alloc (.cells #[.int .i64 c, .int .i64 d] 55)).alloc (.cells #[.int .i64 e, .int .i64 f] 55) = w1 at *
  refine (point_is a b true H0.out _).mono ?_
  rintro e_ w2 ⟨rfl, hb⟩
  replace HB := Lib.hid (on_below HB.out hb)
  replace p0 := keepc hb p0
  replace p1 := keepc hb p1
  replace q0 := keepc hb q0
  replace q1 := keepc hb q1
  replace s0 := keepc hb s0
  replace s1 := keepc hb s1
  replace lp := Nat.lt_of_lt_of_le lp hb.size
  replace lq := Nat.lt_of_lt_of_le lq hb.size
  replace ls := Nat.lt_of_lt_of_le ls hb.size
  clear hb
  go_wp2_with fail
  refine (point_is c d true H1.out _).mono ?_
  rintro e_ w3 ⟨rfl, hb⟩
  replace HB := Lib.hid (on_below HB.out hb)
  replace p0 := keepc hb p0
  replace p1 := keepc hb p1
  replace q0 := keepc hb q0
  replace q1 := keepc hb q1
  replace s0 := keepc hb s0
  replace s1 := keepc hb s1
  replace lp := Nat.lt_of_lt_of_le lp hb.size
  replace lq := Nat.lt_of_lt_of_le lq hb.size
  replace ls := Nat.lt_of_lt_of_le ls hb.size
  clear hb
  go_wp2_with fail
  refine (point_is e f false H2.out _).mono ?_
  rintro e_ w4 ⟨rfl, hb⟩
  replace HB := Lib.hid (on_below HB.out hb)
  replace p0 := keepc hb p0
  replace p1 := keepc hb p1
  replace q0 := keepc hb q0
  replace q1 := keepc hb q1
  replace s0 := keepc hb s0
  replace s1 := keepc hb s1
  replace lp := Nat.lt_of_lt_of_le lp hb.size
  replace lq := Nat.lt_of_lt_of_le lq hb.size
  replace ls := Nat.lt_of_lt_of_le ls hb.size
  clear hb
  go_wp2_with fail
  go_ret2
  exact ⟨rfl, HB.out⟩
set_option maxRecDepth 100000 in
set_option maxHeartbeats 2000000 in
theorem turn_4 (a b c d e f : Int) (h0 : pp a b = true) (h1 : pp c d = true) (h2 : pp e f = true) (w : World) :
    Calls Try.prog 71 #[.agg #[.int .i64 a, .int .i64 b], .agg #[.int .i64 c, .int .i64 d], .agg #[.int .i64 e, .int .i64 f]] w fun e_ w' => e_ = .returned (.tuple #[.int .i64 (sgz (crs a b c d e f)), .int .i64 0]) ∧ Below w.heap.size w w' := by
  have hb := crs_bd (pp_iff.1 h0).1 (pp_iff.1 h0).2 (pp_iff.1 h1).1 (pp_iff.1 h1).2 (pp_iff.1 h2).1 (pp_iff.1 h2).2
  obtain ⟨⟨_, _⟩, ⟨_, _⟩⟩ := pp_iff.1 h0
  obtain ⟨⟨_, _⟩, ⟨_, _⟩⟩ := pp_iff.1 h1
  obtain ⟨⟨_, _⟩, ⟨_, _⟩⟩ := pp_iff.1 h2
  obtain ⟨⟨b1, b2⟩, ⟨b3, b4⟩⟩ := hb
  have hs : sgz (crs a b c d e f) = sgz ((c - a) * (f - b) - (d - b) * (e - a)) := rfl
  have f1 : IntKind.i64.wrap ((c - a) * (f - b)) = (c - a) * (f - b) := IntWalk.i64_in _ ⟨by omega, by omega⟩
  have f2 : wrap64 ((c - a) * (f - b)) = (c - a) * (f - b) := IntWalk.wrap64_in _ ⟨by omega, by omega⟩
  have f3 : IntKind.i64.wrap ((d - b) * (e - a)) = (d - b) * (e - a) := IntWalk.i64_in _ ⟨by omega, by omega⟩
  have f4 : wrap64 ((d - b) * (e - a)) = (d - b) * (e - a) := IntWalk.wrap64_in _ ⟨by omega, by omega⟩
  have f5 : IntKind.i64.wrap ((c - a) * (f - b) - (d - b) * (e - a)) = (c - a) * (f - b) - (d - b) * (e - a) := IntWalk.i64_in _ ⟨by omega, by omega⟩
  have f6 : wrap64 ((c - a) * (f - b) - (d - b) * (e - a)) = (c - a) * (f - b) - (d - b) * (e - a) := IntWalk.wrap64_in _ ⟨by omega, by omega⟩
  have HI := Lib.hid (show I64 ((c - a) * (f - b) - (d - b) * (e - a)) from ⟨by omega, by omega⟩)
  rw [hs]
  clear hs b1 b2 b3 b4
  have H0 := Lib.hid h0
  clear h0
  have H1 := Lib.hid h1
  clear h1
  have H2 := Lib.hid h2
  clear h2
  have p0 : World.cell? (((w.alloc (.cells #[.int .i64 a, .int .i64 b] 55)).alloc (.cells #[.int .i64 c, .int .i64 d] 55)).alloc (.cells #[.int .i64 e, .int .i64 f] 55)) ⟨w.heap.size, 0, none⟩ = some (.int .i64 a) := by simp [go_sem]
  have p1 : World.cell? (((w.alloc (.cells #[.int .i64 a, .int .i64 b] 55)).alloc (.cells #[.int .i64 c, .int .i64 d] 55)).alloc (.cells #[.int .i64 e, .int .i64 f] 55)) ⟨w.heap.size, 1, none⟩ = some (.int .i64 b) := by simp [go_sem]
  have lp : w.heap.size < (((w.alloc (.cells #[.int .i64 a, .int .i64 b] 55)).alloc (.cells #[.int .i64 c, .int .i64 d] 55)).alloc (.cells #[.int .i64 e, .int .i64 f] 55)).heap.size := by simp <;> omega
  have q0 : World.cell? (((w.alloc (.cells #[.int .i64 a, .int .i64 b] 55)).alloc (.cells #[.int .i64 c, .int .i64 d] 55)).alloc (.cells #[.int .i64 e, .int .i64 f] 55)) ⟨w.heap.size + 1, 0, none⟩ = some (.int .i64 c) := by simp [go_sem]
  have q1 : World.cell? (((w.alloc (.cells #[.int .i64 a, .int .i64 b] 55)).alloc (.cells #[.int .i64 c, .int .i64 d] 55)).alloc (.cells #[.int .i64 e, .int .i64 f] 55)) ⟨w.heap.size + 1, 1, none⟩ = some (.int .i64 d) := by simp [go_sem]
  have lq : w.heap.size + 1 < (((w.alloc (.cells #[.int .i64 a, .int .i64 b] 55)).alloc (.cells #[.int .i64 c, .int .i64 d] 55)).alloc (.cells #[.int .i64 e, .int .i64 f] 55)).heap.size := by simp <;> omega
  have s0 : World.cell? (((w.alloc (.cells #[.int .i64 a, .int .i64 b] 55)).alloc (.cells #[.int .i64 c, .int .i64 d] 55)).alloc (.cells #[.int .i64 e, .int .i64 f] 55)) ⟨w.heap.size + 1 + 1, 0, none⟩ = some (.int .i64 e) := by simp [go_sem]
  have s1 : World.cell? (((w.alloc (.cells #[.int .i64 a, .int .i64 b] 55)).alloc (.cells #[.int .i64 c, .int .i64 d] 55)).alloc (.cells #[.int .i64 e, .int .i64 f] 55)) ⟨w.heap.size + 1 + 1, 1, none⟩ = some (.int .i64 f) := by simp [go_sem]
  have ls : w.heap.size + 1 + 1 < (((w.alloc (.cells #[.int .i64 a, .int .i64 b] 55)).alloc (.cells #[.int .i64 c, .int .i64 d] 55)).alloc (.cells #[.int .i64 e, .int .i64 f] 55)).heap.size := by simp <;> omega
  have HB := Lib.hid (show Below w.heap.size w (((w.alloc (.cells #[.int .i64 a, .int .i64 b] 55)).alloc (.cells #[.int .i64 c, .int .i64 d] 55)).alloc (.cells #[.int .i64 e, .int .i64 f] 55)) from ((((Below.refl _ _).alloc (by simp <;> omega) _).alloc (by simp <;> omega) _).alloc (by simp <;> omega) _))
  go_enter Try.func71, Try.ntmps71
  go_wp2_with fail
  generalize ((w.alloc (.cells #[.int .i64 a, .int .i64 b] 55)).alloc (.cells #[.int .i64 c, .int .i64 d] 55)).alloc (.cells #[.int .i64 e, .int .i64 f] 55) = w1 at *
  refine (point_is a b true H0.out _).mono ?_
  rintro e_ w2 ⟨rfl, hb⟩
  replace HB := Lib.hid (on_below HB.out hb)
  replace p0 := keepc hb p0
  replace p1 := keepc hb p1
  replace q0 := keepc hb q0
  replace q1 := keepc hb q1
  replace s0 := keepc hb s0
  replace s1 := keepc hb s1
  replace lp := Nat.lt_of_lt_of_le lp hb.size
  replace lq := Nat.lt_of_lt_of_le lq hb.size
  replace ls := Nat.lt_of_lt_of_le ls hb.size
  clear hb
  go_wp2_with fail
  refine (point_is c d true H1.out _).mono ?_
  rintro e_ w3 ⟨rfl, hb⟩
  replace HB := Lib.hid (on_below HB.out hb)
  replace p0 := keepc hb p0
  replace p1 := keepc hb p1
  replace q0 := keepc hb q0
  replace q1 := keepc hb q1
  replace s0 := keepc hb s0
  replace s1 := keepc hb s1
  replace lp := Nat.lt_of_lt_of_le lp hb.size
  replace lq := Nat.lt_of_lt_of_le lq hb.size
  replace ls := Nat.lt_of_lt_of_le ls hb.size
  clear hb
  go_wp2_with fail
  refine (point_is e f true H2.out _).mono ?_
  rintro e_ w4 ⟨rfl, hb⟩
  replace HB := Lib.hid (on_below HB.out hb)
  replace p0 := keepc hb p0
  replace p1 := keepc hb p1
  replace q0 := keepc hb q0
  replace q1 := keepc hb q1
  replace s0 := keepc hb s0
  replace s1 := keepc hb s1
  replace lp := Nat.lt_of_lt_of_le lp hb.size
  replace lq := Nat.lt_of_lt_of_le lq hb.size
  replace ls := Nat.lt_of_lt_of_le ls hb.size
  clear hb
  go_wp2_with fail
  refine (sgn_any _ _).mono ?_
  rintro e_ wq ⟨rfl, hw⟩
  subst hw
  go_wp2_with fail
  go_ret2
  exact ⟨rfl, HB.out⟩
theorem turn_is (a b c d e f s E : Int) (hE : aE (pp a b && pp c d && pp e f) = E) (hs : kp E (sgz (crs a b c d e f)) = s) (w : World) :
    Calls Try.prog 71 #[.agg #[.int .i64 a, .int .i64 b], .agg #[.int .i64 c, .int .i64 d], .agg #[.int .i64 e, .int .i64 f]] w fun e_ w' => e_ = .returned (.tuple #[.int .i64 s, .int .i64 E]) ∧ Below w.heap.size w w' := by
  subst hs hE
  cases h0 : pp a b
  · exact turn_1 a b c d e f h0 w
  · cases h1 : pp c d
    · exact turn_2 a b c d e f h0 h1 w
    · cases h2 : pp e f
      · exact turn_3 a b c d e f h0 h1 h2 w
      · exact turn_4 a b c d e f h0 h1 h2 w


end Go.Proofs.Ytgikpcoaennkgaa
