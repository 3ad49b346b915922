/-
  Out of the texts of layer 7: package vector's Add, the reference's Valid.
-/
import Derived.Test.YtgikpcoaennkgaaZSgtZC
import Derived.LoopN
import Derived.Deep.RegionWith
import Derived.Deep.RegionHeld3
import Derived.Deep.DeepCutAuto
namespace Go.Proofs.Ytgikpcoaennkgaa
open Go.RowKit Go.Sort
open Go.RowKit (Below)
set_option linter.unusedVariables false
set_option linter.unusedSimpArgs false

theorem v7in_any (n : Int) (w : World) :
    Calls Try.prog 56 #[.int .i64 n] w fun e w' => e = .returned (.bool (inr n)) ∧ w = w' := by
  go_enter Try.func56, Try.ntmps56
  go_wp2
  all_goals (go_ret; exact ⟨ret_bool (by rw [Bool.eq_iff_iff]; simp [inr]; try omega), rfl⟩)
theorem v7in_is (n : Int) (r : Bool) (h : inr n = r) (w : World) :
    Calls Try.prog 56 #[.int .i64 n] w fun e w' => e = .returned (.bool r) ∧ w = w' := by subst h; exact v7in_any n w

/-- The two arrays, made anew. -/
structure Two (V W : World) (g h : Nat) (a b c x y z : Int) : Prop where
  bel : Below V.heap.size V W
  ne : g ≠ h
  hg : V.heap.size ≤ g
  hh : V.heap.size ≤ h
  g0 : W.cell? ⟨g, 0, none⟩ = some (.int .i64 a)
  g1 : W.cell? ⟨g, 1, none⟩ = some (.int .i64 b)
  g2 : W.cell? ⟨g, 2, none⟩ = some (.int .i64 c)
  f0 : W.frozen? ⟨g, 0, none⟩ = false
  f1 : W.frozen? ⟨g, 1, none⟩ = false
  f2 : W.frozen? ⟨g, 2, none⟩ = false
  h0 : W.cell? ⟨h, 0, none⟩ = some (.int .i64 x)
  h1 : W.cell? ⟨h, 1, none⟩ = some (.int .i64 y)
  h2 : W.cell? ⟨h, 2, none⟩ = some (.int .i64 z)
set_option maxRecDepth 100000 in
set_option maxHeartbeats 2000000 in
theorem v7_1 (a b c : Int) (h0 : inr a = false) (w : World) :
    Calls Try.prog 38 #[.agg #[.int .i64 a, .int .i64 b, .int .i64 c]] w fun e_ w' => e_ = .returned (.bool false) ∧ Below w.heap.size w w' := by
  have H0 := Lib.hid h0
  clear h0
  have p0 : World.cell? (w.alloc (.cells #[.int .i64 a, .int .i64 b, .int .i64 c] 26)) ⟨w.heap.size, 0, none⟩ = some (.int .i64 a) := by simp [go_sem]
  have p1 : World.cell? (w.alloc (.cells #[.int .i64 a, .int .i64 b, .int .i64 c] 26)) ⟨w.heap.size, 1, none⟩ = some (.int .i64 b) := by simp [go_sem]
  have p2 : World.cell? (w.alloc (.cells #[.int .i64 a, .int .i64 b, .int .i64 c] 26)) ⟨w.heap.size, 2, none⟩ = some (.int .i64 c) := by simp [go_sem]
  have lp : w.heap.size < (w.alloc (.cells #[.int .i64 a, .int .i64 b, .int .i64 c] 26)).heap.size := by simp <;> omega
  have HB := Lib.hid (show Below w.heap.size w (w.alloc (.cells #[.int .i64 a, .int .i64 b, .int .i64 c] 26)) from ((Below.refl _ _).alloc (by simp <;> omega) _))
  go_enter Try.func38, Try.ntmps38
  go_wp2_with fail
  generalize w.alloc (.cells #[.int .i64 a, .int .i64 b, .int .i64 c] 26) = w1 at *
  refine (v7in_is a false H0.out _).mono ?_
  rintro e_ wq ⟨rfl, hw⟩
  subst hw
  go_wp2_with fail
  go_ret
  exact ⟨rfl, HB.out⟩
set_option maxRecDepth 100000 in
set_option maxHeartbeats 2000000 in
theorem v7_2 (a b c : Int) (h0 : inr a = true) (h1 : inr b = false) (w : World) :
    Calls Try.prog 38 #[.agg #[.int .i64 a, .int .i64 b, .int .i64 c]] w fun e_ w' => e_ = .returned (.bool false) ∧ Below w.heap.size w w' := by
  have H0 := Lib.hid h0
  clear h0
  have H1 := Lib.hid h1
  clear h1
  have p0 : World.cell? (w.alloc (.cells #[.int .i64 a, .int .i64 b, .int .i64 c] 26)) ⟨w.heap.size, 0, none⟩ = some (.int .i64 a) := by simp [go_sem]
  have p1 : World.cell? (w.alloc (.cells #[.int .i64 a, .int .i64 b, .int .i64 c] 26)) ⟨w.heap.size, 1, none⟩ = some (.int .i64 b) := by simp [go_sem]
  have p2 : World.cell? (w.alloc (.cells #[.int .i64 a, .int .i64 b, .int .i64 c] 26)) ⟨w.heap.size, 2, none⟩ = some (.int .i64 c) := by simp [go_sem]
  have lp : w.heap.size < (w.alloc (.cells #[.int .i64 a, .int .i64 b, .int .i64 c] 26)).heap.size := by simp <;> omega
  have HB := Lib.hid (show Below w.heap.size w (w.alloc (.cells #[.int .i64 a, .int .i64 b, .int .i64 c] 26)) from ((Below.refl _ _).alloc (by simp <;> omega) _))
  go_enter Try.func38, Try.ntmps38
  go_wp2_with fail
  generalize w.alloc (.cells #[.int .i64 a, .int .i64 b, .int .i64 c] 26) = w1 at *
  refine (v7in_is a true H0.out _).mono ?_
  rintro e_ wq ⟨rfl, hw⟩
  subst hw
  go_wp2_with fail
  refine (v7in_is b false H1.out _).mono ?_
  rintro e_ wq ⟨rfl, hw⟩
  subst hw
  go_wp2_with fail
  go_ret
  exact ⟨rfl, HB.out⟩
set_option maxRecDepth 100000 in
set_option maxHeartbeats 2000000 in
theorem v7_3 (a b c : Int) (h0 : inr a = true) (h1 : inr b = true) (h2 : inr c = false) (w : World) :
    Calls Try.prog 38 #[.agg #[.int .i64 a, .int .i64 b, .int .i64 c]] w fun e_ w' => e_ = .returned (.bool false) ∧ Below w.heap.size w w' := by
  have H0 := Lib.hid h0
  clear h0
  have H1 := Lib.hid h1
  clear h1
  have H2 := Lib.hid h2
  clear h2
  have p0 : World.cell? (w.alloc (.cells #[.int .i64 a, .int .i64 b, .int .i64 c] 26)) ⟨w.heap.size, 0, none⟩ = some (.int .i64 a) := by simp [go_sem]
  have p1 : World.cell? (w.alloc (.cells #[.int .i64 a, .int .i64 b, .int .i64 c] 26)) ⟨w.heap.size, 1, none⟩ = some (.int .i64 b) := by simp [go_sem]
  have p2 : World.cell? (w.alloc (.cells #[.int .i64 a, .int .i64 b, .int .i64 c] 26)) ⟨w.heap.size, 2, none⟩ = some (.int .i64 c) := by simp [go_sem]
  have lp : w.heap.size < (w.alloc (.cells #[.int .i64 a, .int .i64 b, .int .i64 c] 26)).heap.size := by simp <;> omega
  have HB := Lib.hid (show Below w.heap.size w (w.alloc (.cells #[.int .i64 a, .int .i64 b, .int .i64 c] 26)) from ((Below.refl _ _).alloc (by simp <;> omega) _))
  go_enter Try.func38, Try.ntmps38
  go_wp2_with fail
  generalize w.alloc (.cells #[.int .i64 a, .int .i64 b, .int .i64 c] 26) = w1 at *
  refine (v7in_is a true H0.out _).mono ?_
  rintro e_ wq ⟨rfl, hw⟩
  subst hw
  go_wp2_with fail
  refine (v7in_is b true H1.out _).mono ?_
  rintro e_ wq ⟨rfl, hw⟩
  subst hw
  go_wp2_with fail
  refine (v7in_is c false H2.out _).mono ?_
  rintro e_ wq ⟨rfl, hw⟩
  subst hw
  go_wp2_with fail
  go_ret
  exact ⟨rfl, HB.out⟩
set_option maxRecDepth 100000 in
set_option maxHeartbeats 2000000 in
theorem v7_4 (a b c : Int) (h0 : inr a = true) (h1 : inr b = true) (h2 : inr c = true) (w : World) :
    Calls Try.prog 38 #[.agg #[.int .i64 a, .int .i64 b, .int .i64 c]] w fun e_ w' => e_ = .returned (.bool true) ∧ Below w.heap.size w w' := by
  have H0 := Lib.hid h0
  clear h0
  have H1 := Lib.hid h1
  clear h1
  have H2 := Lib.hid h2
  clear h2
  have p0 : World.cell? (w.alloc (.cells #[.int .i64 a, .int .i64 b, .int .i64 c] 26)) ⟨w.heap.size, 0, none⟩ = some (.int .i64 a) := by simp [go_sem]
  have p1 : World.cell? (w.alloc (.cells #[.int .i64 a, .int .i64 b, .int .i64 c] 26)) ⟨w.heap.size, 1, none⟩ = some (.int .i64 b) := by simp [go_sem]
  have p2 : World.cell? (w.alloc (.cells #[.int .i64 a, .int .i64 b, .int .i64 c] 26)) ⟨w.heap.size, 2, none⟩ = some (.int .i64 c) := by simp [go_sem]
  have lp : w.heap.size < (w.alloc (.cells #[.int .i64 a, .int .i64 b, .int .i64 c] 26)).heap.size := by simp <;> omega
  have HB := Lib.hid (show Below w.heap.size w (w.alloc (.cells #[.int .i64 a, .int .i64 b, .int .i64 c] 26)) from ((Below.refl _ _).alloc (by simp <;> omega) _))
  go_enter Try.func38, Try.ntmps38
  go_wp2_with fail
  generalize w.alloc (.cells #[.int .i64 a, .int .i64 b, .int .i64 c] 26) = w1 at *
  refine (v7in_is a true H0.out _).mono ?_
  rintro e_ wq ⟨rfl, hw⟩
  subst hw
  go_wp2_with fail
  refine (v7in_is b true H1.out _).mono ?_
  rintro e_ wq ⟨rfl, hw⟩
  subst hw
  go_wp2_with fail
  refine (v7in_is c true H2.out _).mono ?_
  rintro e_ wq ⟨rfl, hw⟩
  subst hw
  go_wp2_with fail
  go_ret
  exact ⟨rfl, HB.out⟩
theorem v7valid_is (a b c : Int) (r : Bool) (h : vv a b c = r) (w : World) :
    Calls Try.prog 38 #[.agg #[.int .i64 a, .int .i64 b, .int .i64 c]] w fun e_ w' => e_ = .returned (.bool r) ∧ Below w.heap.size w w' := by
  subst h
  unfold vv
  cases h0 : inr a
  · exact v7_1 a b c h0 w
  · cases h1 : inr b
    · exact v7_2 a b c h0 h1 w
    · cases h2 : inr c
      · exact v7_3 a b c h0 h1 h2 w
      · exact v7_4 a b c h0 h1 h2 w
end Go.Proofs.Ytgikpcoaennkgaa
