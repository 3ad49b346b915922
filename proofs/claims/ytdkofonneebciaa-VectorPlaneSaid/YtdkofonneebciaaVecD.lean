/-
  Package vector: coordinatesOf, Valid, sign, the closures; the reference's In, Valid, Flat, Product.
-/
import Derived.Test.YtdkofonneebciaaVecB
import Derived.Test.YtdkofonneebciaaVecC
import Derived.LoopN
namespace Go.Proofs.Ytdkofonneebciaa
open Go.RowKit Go.Sort
open Go.RowKit (Below)
set_option linter.unusedVariables false
set_option linter.unusedSimpArgs false

theorem undrew_b {B : Nat} {w w' : World} (h : Below B w.drew w') : Below B w w' := (show Below B w w.drew from ⟨rfl, rfl, rfl, Nat.le_refl _, fun _ _ => rfl⟩).trans h
theorem below_new (w : World) (o : Obj) : Below w.heap.size w (w.alloc o) := (Below.refl _ _).alloc (Nat.le_refl _) _
theorem keepc {w w' : World} {g k : Nat} {v : Value} (hb : Below w.heap.size w w') (h : w.cell? ⟨g, k, none⟩ = some v) : w'.cell? ⟨g, k, none⟩ = some v := by rw [hb.cell (block_lt h)]; exact h

theorem ix0 (x y z : Value) (W : World) : (Instr.index 47 (.agg #[x, y, z]) (.int .i64 0)).run Try.prog W = .ok x W := by kernel_rfl
theorem ix1 (x y z : Value) (W : World) : (Instr.index 47 (.agg #[x, y, z]) (.int .i64 1)).run Try.prog W = .ok y W := by kernel_rfl
theorem ix2 (x y z : Value) (W : World) : (Instr.index 47 (.agg #[x, y, z]) (.int .i64 2)).run Try.prog W = .ok z W := by kernel_rfl

theorem coords_any (a b c : Int) (w : World) :
    Calls Try.prog 25 #[.agg #[.int .i64 a, .int .i64 b, .int .i64 c]] w fun e w' => e = .returned (.agg #[.int .i64 a, .int .i64 b, .int .i64 c]) ∧ Below w.heap.size w w' := by
  go_enter Try.func25, Try.ntmps25
  go_wp2
  refine bodyPost_ret (v := .agg #[.int .i64 a, .int .i64 b, .int .i64 c]) (by simp [results, Try.results25, go_sem]) rfl ⟨rfl, ?_⟩
  repeat (refine Below.setCell ?_ (by simp <;> omega) _)
  exact ((Below.refl _ _).alloc (by simp) _).alloc (by simp) _

theorem sgn_any (x : Int) (w : World) :
    Calls Try.prog 33 #[.int .i64 x] w fun e w' => e = .returned (.int .i64 (sgz x)) ∧ w = w' := by
  rcases Int.lt_trichotomy x 0 with h | h | h
  · have e : sgz x = -1 := by unfold sgz; split <;> (try split) <;> omega
    rw [e]
    go_enter Try.func33, Try.ntmps33
    go_wp2
    all_goals (go_ret; exact ⟨rfl, rfl⟩)
  · subst h
    go_enter Try.func33, Try.ntmps33
    go_wp2
    all_goals (go_ret; exact ⟨rfl, rfl⟩)
  · have e : sgz x = 1 := by unfold sgz; split <;> (try split) <;> omega
    rw [e]
    go_enter Try.func33, Try.ntmps33
    go_wp2
    all_goals (go_ret; exact ⟨rfl, rfl⟩)
theorem sgn_is (x s : Int) (h : sgz x = s) (w : World) :
    Calls Try.prog 33 #[.int .i64 x] w fun e w' => e = .returned (.int .i64 s) ∧ w = w' := by subst h; exact sgn_any x w

theorem plus_any (x y : Int) (h : I64 (x + y)) (w : World) :
    Calls Try.prog 28 #[.int .i64 x, .int .i64 y] w fun e w' => e = .returned (.int .i64 (x + y)) ∧ w = w' := by
  have f1 : IntKind.i64.wrap (x + y) = x + y := IntWalk.i64_in _ h
  have f2 : wrap64 (x + y) = x + y := IntWalk.wrap64_in _ h
  go_enter Try.func28, Try.ntmps28
  go_wp2
  all_goals (go_ret; exact ⟨rfl, rfl⟩)
theorem plus_enter (W : World) (args : Array Value) : (callFunc 28 args).run Try.prog W = .ok (.enter 28 args) W := by simp [go_sem]
theorem minus_any (x y : Int) (h : I64 (x - y)) (w : World) :
    Calls Try.prog 29 #[.int .i64 x, .int .i64 y] w fun e w' => e = .returned (.int .i64 (x - y)) ∧ w = w' := by
  have f1 : IntKind.i64.wrap (x - y) = x - y := IntWalk.i64_in _ h
  have f2 : wrap64 (x - y) = x - y := IntWalk.wrap64_in _ h
  go_enter Try.func29, Try.ntmps29
  go_wp2
  all_goals (go_ret; exact ⟨rfl, rfl⟩)
theorem minus_enter (W : World) (args : Array Value) : (callFunc 29 args).run Try.prog W = .ok (.enter 29 args) W := by simp [go_sem]
theorem mult_any (x y : Int) (h : I64 (x * y)) (w : World) :
    Calls Try.prog 39 #[.int .i64 x, .int .i64 y] w fun e w' => e = .returned (.int .i64 (x * y)) ∧ w = w' := by
  have f1 : IntKind.i64.wrap (x * y) = x * y := IntWalk.i64_in _ h
  have f2 : wrap64 (x * y) = x * y := IntWalk.wrap64_in _ h
  go_enter Try.func39, Try.ntmps39
  go_wp2
  all_goals (go_ret; exact ⟨rfl, rfl⟩)
theorem mult_enter (W : World) (args : Array Value) : (callFunc 39 args).run Try.prog W = .ok (.enter 39 args) W := by simp [go_sem]

set_option maxRecDepth 100000 in
theorem valid_any (a b c : Int) (w : World) :
    Calls Try.prog 10 #[.agg #[.int .i64 a, .int .i64 b, .int .i64 c]] w fun e w' => e = .returned (.bool (vv a b c)) ∧ Below w.heap.size w w' := by
  have hs : ∀ n : Int, n < -2000 ∨ 2000 < n ∨ (-2000 ≤ n ∧ n ≤ 2000) := by omega
  have HC := Lib.hid (fun W => coords_any a b c W)
  have i0 := ix0 (.int .i64 a) (.int .i64 b) (.int .i64 c)
  have i1 := ix1 (.int .i64 a) (.int .i64 b) (.int .i64 c)
  have i2 := ix2 (.int .i64 a) (.int .i64 b) (.int .i64 c)
  have hB := below_new w (.cells #[.int .i64 a, .int .i64 b, .int .i64 c] 23)
  have HB := Lib.hid hB
  clear hB
  go_enter Try.func10, Try.ntmps10
  go_wp2_with fail
  refine (HC.out _).mono ?_
  rintro e w1 ⟨rfl, hb⟩
  replace HB := Lib.hid (on_below HB.out hb)
  clear hb HC
  go_wp2_with fail
  refine wp_loop_rounds 4 ?_
  rw [rounds_succ]
  rcases hs a with h | h | h
  · go_wp2
    all_goals (go_ret; exact ⟨ret_bool (by unfold vv inr; simp; omega), HB.out⟩)
  · go_wp2
    all_goals (go_ret; exact ⟨ret_bool (by unfold vv inr; simp; omega), HB.out⟩)
  go_wp2
  rw [rounds_succ]
  rcases hs b with h' | h' | h'
  · go_wp2
    all_goals (go_ret; exact ⟨ret_bool (by unfold vv inr; simp; omega), HB.out⟩)
  · go_wp2
    all_goals (go_ret; exact ⟨ret_bool (by unfold vv inr; simp; omega), HB.out⟩)
  go_wp2
  rw [rounds_succ]
  rcases hs c with h'' | h'' | h''
  · go_wp2
    all_goals (go_ret; exact ⟨ret_bool (by unfold vv inr; simp; omega), HB.out⟩)
  · go_wp2
    all_goals (go_ret; exact ⟨ret_bool (by unfold vv inr; simp; omega), HB.out⟩)
  go_wp2
  rw [rounds_succ]
  go_wp2
  all_goals (go_ret; exact ⟨ret_bool (by unfold vv inr; simp; omega), HB.out⟩)
theorem valid_is (a b c : Int) (r : Bool) (h : vv a b c = r) (w : World) :
    Calls Try.prog 10 #[.agg #[.int .i64 a, .int .i64 b, .int .i64 c]] w fun e w' => e = .returned (.bool r) ∧ Below w.heap.size w w' := by subst h; exact valid_any a b c w

theorem in_any (n : Int) (w : World) :
    Calls Try.prog 26 #[.int .i64 n] w fun e w' => e = .returned (.bool (inr n)) ∧ w = w' := by
  go_enter Try.func26, Try.ntmps26
  go_wp2
  all_goals (go_ret; exact ⟨ret_bool (by rw [Bool.eq_iff_iff]; simp [inr]; try omega), rfl⟩)
theorem in_is (n : Int) (r : Bool) (h : inr n = r) (w : World) :
    Calls Try.prog 26 #[.int .i64 n] w fun e w' => e = .returned (.bool r) ∧ w = w' := by subst h; exact in_any n w
end Go.Proofs.Ytdkofonneebciaa
