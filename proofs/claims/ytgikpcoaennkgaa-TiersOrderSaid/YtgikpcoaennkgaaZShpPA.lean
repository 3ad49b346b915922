/-
  Package shape: the depths behind the sides of a body; crossing; comparisons.
-/
import Derived.Test.YtgikpcoaennkgaaZShpS
import Derived.Test.YtgikpcoaennkgaaZShpV
namespace Go.Proofs.Ytgikpcoaennkgaa
open Go.RowKit Go.Sort
open Go.RowKit (Below)
set_option linter.unusedVariables false
set_option linter.unusedSimpArgs false

set_option maxRecDepth 100000 in
set_option maxHeartbeats 2000000 in
theorem dep_edge (g h : Nat) (ax ay bx b_y a b c s : Int) (h1 : co ax) (h2 : co ay) (h3 : co bx) (h4 : co b_y) (h5 : co a) (h6 : co b) (hs : crs ax ay bx b_y a b = s) (w : World) (g0 : w.cell? ⟨g, 0, none⟩ = some (.int .i64 bx)) (g1 : w.cell? ⟨g, 1, none⟩ = some (.int .i64 b_y)) (k0 : w.cell? ⟨h, 0, none⟩ = some (.int .i64 ax)) (k1 : w.cell? ⟨h, 1, none⟩ = some (.int .i64 ay)) :
    Calls Try.prog 50 #[.agg #[.int .i64 a, .int .i64 b, .int .i64 c], .pointer (some ⟨g, 0, none⟩), .pointer (some ⟨h, 0, none⟩)] w fun e_ w' => e_ = .returned (.int .i64 s) ∧ Below w.heap.size w w' := by
  subst hs
  have hb := crs_bd h1 h2 h3 h4 h5 h6
  obtain ⟨_, _⟩ := h1
  obtain ⟨_, _⟩ := h2
  obtain ⟨_, _⟩ := h3
  obtain ⟨_, _⟩ := h4
  obtain ⟨_, _⟩ := h5
  obtain ⟨_, _⟩ := h6
  obtain ⟨⟨b1, b2⟩, ⟨b3, b4⟩⟩ := hb
  have hs : crs ax ay bx b_y a b = (bx - ax) * (b - ay) - (b_y - ay) * (a - ax) := rfl
  have f0 : IntKind.i64.wrap ((bx - ax) * (b - ay)) = (bx - ax) * (b - ay) := IntWalk.i64_in _ ⟨by omega, by omega⟩
  have g0_ : wrap64 ((bx - ax) * (b - ay)) = (bx - ax) * (b - ay) := IntWalk.wrap64_in _ ⟨by omega, by omega⟩
  have f1 : IntKind.i64.wrap ((b_y - ay) * (a - ax)) = (b_y - ay) * (a - ax) := IntWalk.i64_in _ ⟨by omega, by omega⟩
  have g1_ : wrap64 ((b_y - ay) * (a - ax)) = (b_y - ay) * (a - ax) := IntWalk.wrap64_in _ ⟨by omega, by omega⟩
  have f2 : IntKind.i64.wrap ((bx - ax) * (b - ay) - (b_y - ay) * (a - ax)) = (bx - ax) * (b - ay) - (b_y - ay) * (a - ax) := IntWalk.i64_in _ ⟨by omega, by omega⟩
  have g2_ : wrap64 ((bx - ax) * (b - ay) - (b_y - ay) * (a - ax)) = (bx - ax) * (b - ay) - (b_y - ay) * (a - ax) := IntWalk.wrap64_in _ ⟨by omega, by omega⟩
  rw [hs]
  clear hs b1 b2 b3 b4
  have p0 : World.cell? (w.alloc (.cells #[.int .i64 a, .int .i64 b, .int .i64 c] 26)) ⟨w.heap.size, 0, none⟩ = some (.int .i64 a) := by simp [go_sem]
  have p1 : World.cell? (w.alloc (.cells #[.int .i64 a, .int .i64 b, .int .i64 c] 26)) ⟨w.heap.size, 1, none⟩ = some (.int .i64 b) := by simp [go_sem]
  have p2 : World.cell? (w.alloc (.cells #[.int .i64 a, .int .i64 b, .int .i64 c] 26)) ⟨w.heap.size, 2, none⟩ = some (.int .i64 c) := by simp [go_sem]
  have lp : w.heap.size < (w.alloc (.cells #[.int .i64 a, .int .i64 b, .int .i64 c] 26)).heap.size := by simp <;> omega
  have HB := Lib.hid (show Below w.heap.size w (w.alloc (.cells #[.int .i64 a, .int .i64 b, .int .i64 c] 26)) from ((Below.refl _ _).alloc (by simp <;> omega) _))
  go_enter Try.func50, Try.ntmps50
  go_upto_region 1 with fail
  generalize w.alloc (.cells #[.int .i64 a, .int .i64 b, .int .i64 c] 26) = w1 at *
  replace g0 := keepc HB.out g0
  replace g1 := keepc HB.out g1
  replace k0 := keepc HB.out k0
  replace k1 := keepc HB.out k1
  go_wp2_with fail
  go_ret
  exact ⟨rfl, HB.out⟩
set_option maxRecDepth 100000 in
set_option maxHeartbeats 2000000 in
theorem dep_low (g : Nat) (lo a b c s : Int) (h1 : co lo) (h2 : co c) (hs : c - lo = s) (w : World) (g0 : w.cell? ⟨g, 1, none⟩ = some (.int .i64 lo)) :
    Calls Try.prog 51 #[.agg #[.int .i64 a, .int .i64 b, .int .i64 c], .pointer (some ⟨g, 0, none⟩)] w fun e_ w' => e_ = .returned (.int .i64 s) ∧ Below w.heap.size w w' := by
  subst hs
  obtain ⟨_, _⟩ := h1
  obtain ⟨_, _⟩ := h2
  have p0 : World.cell? (w.alloc (.cells #[.int .i64 a, .int .i64 b, .int .i64 c] 26)) ⟨w.heap.size, 0, none⟩ = some (.int .i64 a) := by simp [go_sem]
  have p1 : World.cell? (w.alloc (.cells #[.int .i64 a, .int .i64 b, .int .i64 c] 26)) ⟨w.heap.size, 1, none⟩ = some (.int .i64 b) := by simp [go_sem]
  have p2 : World.cell? (w.alloc (.cells #[.int .i64 a, .int .i64 b, .int .i64 c] 26)) ⟨w.heap.size, 2, none⟩ = some (.int .i64 c) := by simp [go_sem]
  have lp : w.heap.size < (w.alloc (.cells #[.int .i64 a, .int .i64 b, .int .i64 c] 26)).heap.size := by simp <;> omega
  have HB := Lib.hid (show Below w.heap.size w (w.alloc (.cells #[.int .i64 a, .int .i64 b, .int .i64 c] 26)) from ((Below.refl _ _).alloc (by simp <;> omega) _))
  go_enter Try.func51, Try.ntmps51
  go_upto_region 1 with fail
  generalize w.alloc (.cells #[.int .i64 a, .int .i64 b, .int .i64 c] 26) = w1 at *
  replace g0 := keepc HB.out g0
  go_wp2_with fail
  go_ret
  exact ⟨rfl, HB.out⟩
set_option maxRecDepth 100000 in
set_option maxHeartbeats 2000000 in
theorem dep_high (g : Nat) (hi a b c s : Int) (h1 : co hi) (h2 : co c) (hs : hi - c = s) (w : World) (g0 : w.cell? ⟨g, 2, none⟩ = some (.int .i64 hi)) :
    Calls Try.prog 52 #[.agg #[.int .i64 a, .int .i64 b, .int .i64 c], .pointer (some ⟨g, 0, none⟩)] w fun e_ w' => e_ = .returned (.int .i64 s) ∧ Below w.heap.size w w' := by
  subst hs
  obtain ⟨_, _⟩ := h1
  obtain ⟨_, _⟩ := h2
  have p0 : World.cell? (w.alloc (.cells #[.int .i64 a, .int .i64 b, .int .i64 c] 26)) ⟨w.heap.size, 0, none⟩ = some (.int .i64 a) := by simp [go_sem]
  have p1 : World.cell? (w.alloc (.cells #[.int .i64 a, .int .i64 b, .int .i64 c] 26)) ⟨w.heap.size, 1, none⟩ = some (.int .i64 b) := by simp [go_sem]
  have p2 : World.cell? (w.alloc (.cells #[.int .i64 a, .int .i64 b, .int .i64 c] 26)) ⟨w.heap.size, 2, none⟩ = some (.int .i64 c) := by simp [go_sem]
  have lp : w.heap.size < (w.alloc (.cells #[.int .i64 a, .int .i64 b, .int .i64 c] 26)).heap.size := by simp <;> omega
  have HB := Lib.hid (show Below w.heap.size w (w.alloc (.cells #[.int .i64 a, .int .i64 b, .int .i64 c] 26)) from ((Below.refl _ _).alloc (by simp <;> omega) _))
  go_enter Try.func52, Try.ntmps52
  go_upto_region 1 with fail
  generalize w.alloc (.cells #[.int .i64 a, .int .i64 b, .int .i64 c] 26) = w1 at *
  replace g0 := keepc HB.out g0
  go_wp2_with fail
  go_ret
  exact ⟨rfl, HB.out⟩
theorem edges_any (A : Option Addr) (n C : Nat) (w : World) :
    Calls Try.prog 49 #[.slice A n C] w fun e w' => e = .returned (.func (.func 70) #[] #[.pointer (some ⟨w.heap.size, 0, none⟩)]) ∧ w' = w.alloc (.cells #[.slice A n C] 45) := by
  go_enter Try.func49, Try.ntmps49
  go_wp2
  go_ret
  exact ⟨rfl, rfl⟩
theorem sides_any (A : Option Addr) (n C : Nat) (lo hi : Int) (w : World) :
    Calls Try.prog 34 #[.agg #[.slice A n C, .int .i64 lo, .int .i64 hi]] w fun e w' => e = .returned (.func (.func 48) #[] #[.pointer (some ⟨w.heap.size, 0, none⟩)]) ∧ w' = w.alloc (.cells #[.slice A n C, .int .i64 lo, .int .i64 hi] 47) := by
  go_enter Try.func34, Try.ntmps34
  go_wp2
  go_ret
  exact ⟨rfl, rfl⟩

end Go.Proofs.Ytgikpcoaennkgaa
