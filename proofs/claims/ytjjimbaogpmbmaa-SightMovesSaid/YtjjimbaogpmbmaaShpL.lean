/-
  The laws' few.
-/
import Derived.Test.YtjjimbaogpmbmaaShpE
import Derived.Test.YtjjimbaogpmbmaaShpW
namespace Go.Proofs.Ytjjimbaogpmbmaa
open Go.RowKit Go.Sort
open Go.RowKit (Below)
set_option linter.unusedVariables false
set_option linter.unusedSimpArgs false

set_option maxRecDepth 100000 in
set_option maxHeartbeats 2000000 in
theorem few_le (A : Option Addr) (C : Nat) (xs : List (Int × Int)) (lo hi : Int) (hc : xs.length ≤ C ∧ C ≤ 9223372036854775807) (hnil : A = none → C = 0) (h20 : xs.length ≤ 20) (w : World) :
    Calls Try.prog 24 #[.agg #[.slice A xs.length C, .int .i64 lo, .int .i64 hi]] w fun e_ w' => e_ = .returned (.agg #[.slice A xs.length C, .int .i64 lo, .int .i64 hi]) ∧ Below w.heap.size w w' := by
  have p0 : World.cell? ((w.alloc (.cells #[.slice A xs.length C, .int .i64 lo, .int .i64 hi] 42)).alloc (.cells #[.slice none 0 0, .int .i64 0, .int .i64 0] 42)) ⟨w.heap.size, 0, none⟩ = some (.slice A xs.length C) := by simp [go_sem]
  have fp0 : World.frozen? ((w.alloc (.cells #[.slice A xs.length C, .int .i64 lo, .int .i64 hi] 42)).alloc (.cells #[.slice none 0 0, .int .i64 0, .int .i64 0] 42)) ⟨w.heap.size, 0, none⟩ = false := by simp [go_sem]
  have p1 : World.cell? ((w.alloc (.cells #[.slice A xs.length C, .int .i64 lo, .int .i64 hi] 42)).alloc (.cells #[.slice none 0 0, .int .i64 0, .int .i64 0] 42)) ⟨w.heap.size, 1, none⟩ = some (.int .i64 lo) := by simp [go_sem]
  have fp1 : World.frozen? ((w.alloc (.cells #[.slice A xs.length C, .int .i64 lo, .int .i64 hi] 42)).alloc (.cells #[.slice none 0 0, .int .i64 0, .int .i64 0] 42)) ⟨w.heap.size, 1, none⟩ = false := by simp [go_sem]
  have p2 : World.cell? ((w.alloc (.cells #[.slice A xs.length C, .int .i64 lo, .int .i64 hi] 42)).alloc (.cells #[.slice none 0 0, .int .i64 0, .int .i64 0] 42)) ⟨w.heap.size, 2, none⟩ = some (.int .i64 hi) := by simp [go_sem]
  have fp2 : World.frozen? ((w.alloc (.cells #[.slice A xs.length C, .int .i64 lo, .int .i64 hi] 42)).alloc (.cells #[.slice none 0 0, .int .i64 0, .int .i64 0] 42)) ⟨w.heap.size, 2, none⟩ = false := by simp [go_sem]
  have lp : w.heap.size < ((w.alloc (.cells #[.slice A xs.length C, .int .i64 lo, .int .i64 hi] 42)).alloc (.cells #[.slice none 0 0, .int .i64 0, .int .i64 0] 42)).heap.size := by simp <;> omega
  have u0 : World.cell? ((w.alloc (.cells #[.slice A xs.length C, .int .i64 lo, .int .i64 hi] 42)).alloc (.cells #[.slice none 0 0, .int .i64 0, .int .i64 0] 42)) ⟨w.heap.size + 1, 0, none⟩ = some (.slice none 0 0) := by simp [go_sem]
  have fu0 : World.frozen? ((w.alloc (.cells #[.slice A xs.length C, .int .i64 lo, .int .i64 hi] 42)).alloc (.cells #[.slice none 0 0, .int .i64 0, .int .i64 0] 42)) ⟨w.heap.size + 1, 0, none⟩ = false := by simp [go_sem]
  have u1 : World.cell? ((w.alloc (.cells #[.slice A xs.length C, .int .i64 lo, .int .i64 hi] 42)).alloc (.cells #[.slice none 0 0, .int .i64 0, .int .i64 0] 42)) ⟨w.heap.size + 1, 1, none⟩ = some (.int .i64 0) := by simp [go_sem]
  have fu1 : World.frozen? ((w.alloc (.cells #[.slice A xs.length C, .int .i64 lo, .int .i64 hi] 42)).alloc (.cells #[.slice none 0 0, .int .i64 0, .int .i64 0] 42)) ⟨w.heap.size + 1, 1, none⟩ = false := by simp [go_sem]
  have u2 : World.cell? ((w.alloc (.cells #[.slice A xs.length C, .int .i64 lo, .int .i64 hi] 42)).alloc (.cells #[.slice none 0 0, .int .i64 0, .int .i64 0] 42)) ⟨w.heap.size + 1, 2, none⟩ = some (.int .i64 0) := by simp [go_sem]
  have fu2 : World.frozen? ((w.alloc (.cells #[.slice A xs.length C, .int .i64 lo, .int .i64 hi] 42)).alloc (.cells #[.slice none 0 0, .int .i64 0, .int .i64 0] 42)) ⟨w.heap.size + 1, 2, none⟩ = false := by simp [go_sem]
  have lu : w.heap.size + 1 < ((w.alloc (.cells #[.slice A xs.length C, .int .i64 lo, .int .i64 hi] 42)).alloc (.cells #[.slice none 0 0, .int .i64 0, .int .i64 0] 42)).heap.size := by simp <;> omega
  have HB := Lib.hid (show Below w.heap.size w ((w.alloc (.cells #[.slice A xs.length C, .int .i64 lo, .int .i64 hi] 42)).alloc (.cells #[.slice none 0 0, .int .i64 0, .int .i64 0] 42)) from (((Below.refl _ _).alloc (by simp <;> omega) _).alloc (by simp <;> omega) _))
  go_enter Try.func24, Try.ntmps24
  go_upto_region 1 with fail
  generalize (w.alloc (.cells #[.slice A xs.length C, .int .i64 lo, .int .i64 hi] 42)).alloc (.cells #[.slice none 0 0, .int .i64 0, .int .i64 0] 42) = w1 at *
  cases A with
  | none =>
    have hC := hnil rfl
    subst hC
    obtain rfl : xs = [] := List.eq_nil_of_length_eq_zero (by have := hc.1; omega)
    simp only [List.length_nil] at *
    obtain ⟨hc1, hc2⟩ := hc
    go_wp2_with fail
    refine bodyPost_ret (v := .agg #[.slice none 0 0, .int .i64 lo, .int .i64 hi]) (by simp [results, Try.results24, go_sem, u0, u1, u2, p0, p1, p2]) rfl ⟨rfl, ?_⟩
    repeat (refine Below.setCell ?_ (by first | exact Nat.le_refl _ | (simp; done) | (simp; omega) | omega) _)
    exact HB.out
  | some a0 =>
    clear hnil
    obtain ⟨hc1, hc2⟩ := hc
    go_wp2_with fail
    refine bodyPost_ret (v := .agg #[.slice (some a0) xs.length C, .int .i64 lo, .int .i64 hi]) (by simp [results, Try.results24, go_sem, u0, u1, u2, p0, p1, p2]) rfl ⟨rfl, ?_⟩
    repeat (refine Below.setCell ?_ (by first | exact Nat.le_refl _ | (simp; done) | (simp; omega) | omega) _)
    exact HB.out
set_option maxRecDepth 100000 in
set_option maxHeartbeats 2000000 in
theorem few_gt (A : Option Addr) (C : Nat) (xs : List (Int × Int)) (lo hi : Int) (hc : xs.length ≤ C ∧ C ≤ 9223372036854775807) (hnil : A = none → C = 0) (h20 : 20 < xs.length) (w : World) :
    Calls Try.prog 24 #[.agg #[.slice A xs.length C, .int .i64 lo, .int .i64 hi]] w fun e_ w' => e_ = .returned (.agg #[.slice A 20 C, .int .i64 lo, .int .i64 hi]) ∧ Below w.heap.size w w' := by
  have p0 : World.cell? ((w.alloc (.cells #[.slice A xs.length C, .int .i64 lo, .int .i64 hi] 42)).alloc (.cells #[.slice none 0 0, .int .i64 0, .int .i64 0] 42)) ⟨w.heap.size, 0, none⟩ = some (.slice A xs.length C) := by simp [go_sem]
  have fp0 : World.frozen? ((w.alloc (.cells #[.slice A xs.length C, .int .i64 lo, .int .i64 hi] 42)).alloc (.cells #[.slice none 0 0, .int .i64 0, .int .i64 0] 42)) ⟨w.heap.size, 0, none⟩ = false := by simp [go_sem]
  have p1 : World.cell? ((w.alloc (.cells #[.slice A xs.length C, .int .i64 lo, .int .i64 hi] 42)).alloc (.cells #[.slice none 0 0, .int .i64 0, .int .i64 0] 42)) ⟨w.heap.size, 1, none⟩ = some (.int .i64 lo) := by simp [go_sem]
  have fp1 : World.frozen? ((w.alloc (.cells #[.slice A xs.length C, .int .i64 lo, .int .i64 hi] 42)).alloc (.cells #[.slice none 0 0, .int .i64 0, .int .i64 0] 42)) ⟨w.heap.size, 1, none⟩ = false := by simp [go_sem]
  have p2 : World.cell? ((w.alloc (.cells #[.slice A xs.length C, .int .i64 lo, .int .i64 hi] 42)).alloc (.cells #[.slice none 0 0, .int .i64 0, .int .i64 0] 42)) ⟨w.heap.size, 2, none⟩ = some (.int .i64 hi) := by simp [go_sem]
  have fp2 : World.frozen? ((w.alloc (.cells #[.slice A xs.length C, .int .i64 lo, .int .i64 hi] 42)).alloc (.cells #[.slice none 0 0, .int .i64 0, .int .i64 0] 42)) ⟨w.heap.size, 2, none⟩ = false := by simp [go_sem]
  have lp : w.heap.size < ((w.alloc (.cells #[.slice A xs.length C, .int .i64 lo, .int .i64 hi] 42)).alloc (.cells #[.slice none 0 0, .int .i64 0, .int .i64 0] 42)).heap.size := by simp <;> omega
  have u0 : World.cell? ((w.alloc (.cells #[.slice A xs.length C, .int .i64 lo, .int .i64 hi] 42)).alloc (.cells #[.slice none 0 0, .int .i64 0, .int .i64 0] 42)) ⟨w.heap.size + 1, 0, none⟩ = some (.slice none 0 0) := by simp [go_sem]
  have fu0 : World.frozen? ((w.alloc (.cells #[.slice A xs.length C, .int .i64 lo, .int .i64 hi] 42)).alloc (.cells #[.slice none 0 0, .int .i64 0, .int .i64 0] 42)) ⟨w.heap.size + 1, 0, none⟩ = false := by simp [go_sem]
  have u1 : World.cell? ((w.alloc (.cells #[.slice A xs.length C, .int .i64 lo, .int .i64 hi] 42)).alloc (.cells #[.slice none 0 0, .int .i64 0, .int .i64 0] 42)) ⟨w.heap.size + 1, 1, none⟩ = some (.int .i64 0) := by simp [go_sem]
  have fu1 : World.frozen? ((w.alloc (.cells #[.slice A xs.length C, .int .i64 lo, .int .i64 hi] 42)).alloc (.cells #[.slice none 0 0, .int .i64 0, .int .i64 0] 42)) ⟨w.heap.size + 1, 1, none⟩ = false := by simp [go_sem]
  have u2 : World.cell? ((w.alloc (.cells #[.slice A xs.length C, .int .i64 lo, .int .i64 hi] 42)).alloc (.cells #[.slice none 0 0, .int .i64 0, .int .i64 0] 42)) ⟨w.heap.size + 1, 2, none⟩ = some (.int .i64 0) := by simp [go_sem]
  have fu2 : World.frozen? ((w.alloc (.cells #[.slice A xs.length C, .int .i64 lo, .int .i64 hi] 42)).alloc (.cells #[.slice none 0 0, .int .i64 0, .int .i64 0] 42)) ⟨w.heap.size + 1, 2, none⟩ = false := by simp [go_sem]
  have lu : w.heap.size + 1 < ((w.alloc (.cells #[.slice A xs.length C, .int .i64 lo, .int .i64 hi] 42)).alloc (.cells #[.slice none 0 0, .int .i64 0, .int .i64 0] 42)).heap.size := by simp <;> omega
  have HB := Lib.hid (show Below w.heap.size w ((w.alloc (.cells #[.slice A xs.length C, .int .i64 lo, .int .i64 hi] 42)).alloc (.cells #[.slice none 0 0, .int .i64 0, .int .i64 0] 42)) from (((Below.refl _ _).alloc (by simp <;> omega) _).alloc (by simp <;> omega) _))
  go_enter Try.func24, Try.ntmps24
  go_upto_region 1 with fail
  generalize (w.alloc (.cells #[.slice A xs.length C, .int .i64 lo, .int .i64 hi] 42)).alloc (.cells #[.slice none 0 0, .int .i64 0, .int .i64 0] 42) = w1 at *
  cases A with
  | none =>
    have hC := hnil rfl
    subst hC
    exact absurd hc.1 (by omega)
  | some a0 =>
    clear hnil
    obtain ⟨hc1, hc2⟩ := hc
    go_wp2_with fail
    refine bodyPost_ret (v := .agg #[.slice (some a0) 20 C, .int .i64 lo, .int .i64 hi]) (by simp [results, Try.results24, go_sem, u0, u1, u2, p0, p1, p2]) rfl ⟨rfl, ?_⟩
    repeat (refine Below.setCell ?_ (by first | exact Nat.le_refl _ | (simp; done) | (simp; omega) | omega) _)
    exact HB.out
theorem few_is (A : Option Addr) (C : Nat) (xs : List (Int × Int)) (lo hi : Int) (w : World) (hl : Lp w A C xs) :
    Calls Try.prog 24 #[.agg #[.slice A xs.length C, .int .i64 lo, .int .i64 hi]] w fun e_ w' => e_ = .returned (.agg #[.slice A (xs.take 20).length C, .int .i64 lo, .int .i64 hi]) ∧ Below w.heap.size w w' := by
  rw [List.length_take]
  by_cases h : xs.length ≤ 20
  · rw [show min 20 xs.length = xs.length by omega]
    exact few_le A C xs lo hi hl.cap hl.nil h w
  · rw [show min 20 xs.length = 20 by omega]
    exact few_gt A C xs lo hi hl.cap hl.nil (by omega) w
end Go.Proofs.Ytjjimbaogpmbmaa
