/-
  Package shape: the greater and the lesser one of two numbers (slices.MaxFunc, MinFunc).
-/
import Derived.Test.YtiffgcipdamngaaZShpPA
import Derived.LoopN
namespace Go.Proofs.Ytiffgcipdamngaa
open Go.RowKit Go.Sort
open Go.RowKit (Below)
set_option linter.unusedVariables false
set_option linter.unusedSimpArgs false

theorem sgn_pos {x y : Int} : decide (0 < sgn x y) = decide (y < x) := by
  unfold sgn
  by_cases h1 : x < y
  · rw [if_pos h1]; have : ¬ y < x := by omega
    simp [this]
  · rw [if_neg h1]
    by_cases h2 : y < x
    · simp [h2]
    · simp [h2]
theorem sgn_neg {x y : Int} : decide (sgn x y < 0) = decide (x < y) := by
  unfold sgn
  by_cases h1 : x < y
  · simp [h1]
  · rw [if_neg h1]
    by_cases h2 : y < x <;> simp [h1, h2]
set_option maxRecDepth 100000 in
set_option maxHeartbeats 2000000 in
theorem maxr_y (g : Nat) (a b c d : Int) (va : vld a b = true) (vc : vld c d = true) (hc : a * d < c * b) (w : World) (k0 : w.cell? ⟨g, 0, none⟩ = some (.int .i64 a)) (k1 : w.cell? ⟨g, 1, none⟩ = some (.int .i64 b)) (k2 : w.cell? ⟨g, 2, none⟩ = some (.int .i64 c)) (k3 : w.cell? ⟨g, 3, none⟩ = some (.int .i64 d)) :
    Calls Try.prog 88 #[.slice (some ⟨g, 0, none⟩) 2 2, .func (.func 90) #[] #[]] w fun e_ w' => e_ = .returned (.agg #[.int .i64 c, .int .i64 d]) ∧ Below w.heap.size w w' := by
  have HC := Lib.hid (fun W => cparts_is c d a b _ vc va rfl W)
  have hq := sgn_pos (x := c * b) (y := a * d)
  rw [decide_eq_true hc] at hq
  generalize sgn (c * b) (a * d) = s at *
  clear hc va vc
  have hg0 : g < w.heap.size := block_lt k0
  have HB := Lib.hid (show Below w.heap.size w (w.alloc (.cells #[.int .i64 0, .int .i64 0] 32)) from below_new _ _)
  have y0 : World.cell? (w.alloc (.cells #[.int .i64 0, .int .i64 0] 32)) ⟨w.heap.size, 0, none⟩ = some (.int .i64 0) := by simp [go_sem]
  have y1 : World.cell? (w.alloc (.cells #[.int .i64 0, .int .i64 0] 32)) ⟨w.heap.size, 1, none⟩ = some (.int .i64 0) := by simp [go_sem]
  have n0 : World.frozen? (w.alloc (.cells #[.int .i64 0, .int .i64 0] 32)) ⟨w.heap.size, 0, none⟩ = false := by simp [go_sem]
  have n1 : World.frozen? (w.alloc (.cells #[.int .i64 0, .int .i64 0] 32)) ⟨w.heap.size, 1, none⟩ = false := by simp [go_sem]
  go_enter Try.func88, Try.ntmps88
  go_upto_region 1 with fail
  replace k0 := keepc HB.out k0
  replace k1 := keepc HB.out k1
  replace k2 := keepc HB.out k2
  replace k3 := keepc HB.out k3
  generalize w.alloc (.cells #[.int .i64 0, .int .i64 0] 32) = w1 at *
  have hg : w.heap.size < w1.heap.size := block_lt y0
  have hg1 : g < w1.heap.size := block_lt k0
  go_wp2_with fail
  have HB2 := Lib.hid (below_new w1 (.cells #[.int .i64 a, .int .i64 b] 32))
  obtain ⟨⟨m0, m1⟩, mf0, mf1⟩ := Lc.here w1 a b 32
  replace k0 := keepc HB2.out k0
  replace k1 := keepc HB2.out k1
  replace k2 := keepc HB2.out k2
  replace k3 := keepc HB2.out k3
  replace y0 := keepc HB2.out y0
  replace y1 := keepc HB2.out y1
  replace n0 := keepf HB2.out hg n0
  replace n1 := keepf HB2.out hg n1
  replace HB := Lib.hid (HB.out.trans (HB2.out.mono (Nat.le_of_lt hg)))
  generalize w1.alloc (.cells #[.int .i64 a, .int .i64 b] 32) = w2 at *
  have hgm : w.heap.size < w1.heap.size := hg
  clear HB2
  generalize w1.heap.size = gm at *
  clear w1
  replace hg : w.heap.size < w2.heap.size := block_lt y0
  have lgm : gm < w2.heap.size := block_lt m0
  refine wp_loop_rounds 2 ?_
  rw [rounds_succ]
  go_upto_region 7 with fail
  have kp : ∀ {W : World}, Below w2.heap.size w2 W → W.cell? ⟨gm, 0, none⟩ = some (.int .i64 a) ∧ W.cell? ⟨gm, 1, none⟩ = some (.int .i64 b) ∧ W.cell? ⟨g, 2, none⟩ = some (.int .i64 c) ∧ W.cell? ⟨g, 3, none⟩ = some (.int .i64 d) ∧ Below w2.heap.size w2 W := fun h => ⟨keepc h m0, keepc h m1, keepc h k2, keepc h k3, h⟩
  go_region_held3 (fun W => W.cell? ⟨gm, 0, none⟩ = some (.int .i64 a) ∧ W.cell? ⟨gm, 1, none⟩ = some (.int .i64 b) ∧ W.cell? ⟨g, 2, none⟩ = some (.int .i64 c) ∧ W.cell? ⟨g, 3, none⟩ = some (.int .i64 d) ∧ Below w2.heap.size w2 W)
    (first | assumption | exact kp (Below.refl _ _).drew | (go_split_ands; refine kp ?_; (first | (refine on_below ?_ hb; assumption) | assumption)))
    (first | (go_at_call 90; (with_reducible refine (HC.out _).mono ?_); rintro e' w9 ⟨rfl, hb⟩))
  go_split_ands
  have hB : Below w2.heap.size w2 w9 := by assumption
  replace HB := Lib.hid (on_below HB.out hB)
  replace k0 := keepc hB k0
  replace k1 := keepc hB k1
  replace k2 := keepc hB k2
  replace k3 := keepc hB k3
  replace y0 := keepc hB y0
  replace y1 := keepc hB y1
  replace m0 := keepc hB m0
  replace m1 := keepc hB m1
  replace n0 := keepf hB hg n0
  replace n1 := keepf hB hg n1
  replace mf0 := keepf hB lgm mf0
  replace mf1 := keepf hB lgm mf1
  clear hb kp HC hB
  go_wp2_with fail
  rw [rounds_succ]
  go_wp2_with fail
  refine bodyPost_ret (v := .agg #[.int .i64 c, .int .i64 d]) (by simp [results, Try.results88, go_sem, y0, y1, m0, m1]) rfl ⟨rfl, ?_⟩
  repeat (refine Below.setCell ?_ (by simp <;> omega) _)
  exact HB.out
set_option maxRecDepth 100000 in
set_option maxHeartbeats 2000000 in
theorem maxr_n (g : Nat) (a b c d : Int) (va : vld a b = true) (vc : vld c d = true) (hc : ¬ a * d < c * b) (w : World) (k0 : w.cell? ⟨g, 0, none⟩ = some (.int .i64 a)) (k1 : w.cell? ⟨g, 1, none⟩ = some (.int .i64 b)) (k2 : w.cell? ⟨g, 2, none⟩ = some (.int .i64 c)) (k3 : w.cell? ⟨g, 3, none⟩ = some (.int .i64 d)) :
    Calls Try.prog 88 #[.slice (some ⟨g, 0, none⟩) 2 2, .func (.func 90) #[] #[]] w fun e_ w' => e_ = .returned (.agg #[.int .i64 a, .int .i64 b]) ∧ Below w.heap.size w w' := by
  have HC := Lib.hid (fun W => cparts_is c d a b _ vc va rfl W)
  have hq := sgn_pos (x := c * b) (y := a * d)
  rw [decide_eq_false hc] at hq
  generalize sgn (c * b) (a * d) = s at *
  clear hc va vc
  have hg0 : g < w.heap.size := block_lt k0
  have HB := Lib.hid (show Below w.heap.size w (w.alloc (.cells #[.int .i64 0, .int .i64 0] 32)) from below_new _ _)
  have y0 : World.cell? (w.alloc (.cells #[.int .i64 0, .int .i64 0] 32)) ⟨w.heap.size, 0, none⟩ = some (.int .i64 0) := by simp [go_sem]
  have y1 : World.cell? (w.alloc (.cells #[.int .i64 0, .int .i64 0] 32)) ⟨w.heap.size, 1, none⟩ = some (.int .i64 0) := by simp [go_sem]
  have n0 : World.frozen? (w.alloc (.cells #[.int .i64 0, .int .i64 0] 32)) ⟨w.heap.size, 0, none⟩ = false := by simp [go_sem]
  have n1 : World.frozen? (w.alloc (.cells #[.int .i64 0, .int .i64 0] 32)) ⟨w.heap.size, 1, none⟩ = false := by simp [go_sem]
  go_enter Try.func88, Try.ntmps88
  go_upto_region 1 with fail
  replace k0 := keepc HB.out k0
  replace k1 := keepc HB.out k1
  replace k2 := keepc HB.out k2
  replace k3 := keepc HB.out k3
  generalize w.alloc (.cells #[.int .i64 0, .int .i64 0] 32) = w1 at *
  have hg : w.heap.size < w1.heap.size := block_lt y0
  have hg1 : g < w1.heap.size := block_lt k0
  go_wp2_with fail
  have HB2 := Lib.hid (below_new w1 (.cells #[.int .i64 a, .int .i64 b] 32))
  obtain ⟨⟨m0, m1⟩, mf0, mf1⟩ := Lc.here w1 a b 32
  replace k0 := keepc HB2.out k0
  replace k1 := keepc HB2.out k1
  replace k2 := keepc HB2.out k2
  replace k3 := keepc HB2.out k3
  replace y0 := keepc HB2.out y0
  replace y1 := keepc HB2.out y1
  replace n0 := keepf HB2.out hg n0
  replace n1 := keepf HB2.out hg n1
  replace HB := Lib.hid (HB.out.trans (HB2.out.mono (Nat.le_of_lt hg)))
  generalize w1.alloc (.cells #[.int .i64 a, .int .i64 b] 32) = w2 at *
  have hgm : w.heap.size < w1.heap.size := hg
  clear HB2
  generalize w1.heap.size = gm at *
  clear w1
  replace hg : w.heap.size < w2.heap.size := block_lt y0
  have lgm : gm < w2.heap.size := block_lt m0
  refine wp_loop_rounds 2 ?_
  rw [rounds_succ]
  go_upto_region 7 with fail
  have kp : ∀ {W : World}, Below w2.heap.size w2 W → W.cell? ⟨gm, 0, none⟩ = some (.int .i64 a) ∧ W.cell? ⟨gm, 1, none⟩ = some (.int .i64 b) ∧ W.cell? ⟨g, 2, none⟩ = some (.int .i64 c) ∧ W.cell? ⟨g, 3, none⟩ = some (.int .i64 d) ∧ Below w2.heap.size w2 W := fun h => ⟨keepc h m0, keepc h m1, keepc h k2, keepc h k3, h⟩
  go_region_held3 (fun W => W.cell? ⟨gm, 0, none⟩ = some (.int .i64 a) ∧ W.cell? ⟨gm, 1, none⟩ = some (.int .i64 b) ∧ W.cell? ⟨g, 2, none⟩ = some (.int .i64 c) ∧ W.cell? ⟨g, 3, none⟩ = some (.int .i64 d) ∧ Below w2.heap.size w2 W)
    (first | assumption | exact kp (Below.refl _ _).drew | (go_split_ands; refine kp ?_; (first | (refine on_below ?_ hb; assumption) | assumption)))
    (first | (go_at_call 90; (with_reducible refine (HC.out _).mono ?_); rintro e' w9 ⟨rfl, hb⟩))
  go_split_ands
  have hB : Below w2.heap.size w2 w9 := by assumption
  replace HB := Lib.hid (on_below HB.out hB)
  replace k0 := keepc hB k0
  replace k1 := keepc hB k1
  replace k2 := keepc hB k2
  replace k3 := keepc hB k3
  replace y0 := keepc hB y0
  replace y1 := keepc hB y1
  replace m0 := keepc hB m0
  replace m1 := keepc hB m1
  replace n0 := keepf hB hg n0
  replace n1 := keepf hB hg n1
  replace mf0 := keepf hB lgm mf0
  replace mf1 := keepf hB lgm mf1
  clear hb kp HC hB
  go_wp2_with fail
  rw [rounds_succ]
  go_wp2_with fail
  refine bodyPost_ret (v := .agg #[.int .i64 a, .int .i64 b]) (by simp [results, Try.results88, go_sem, y0, y1, m0, m1]) rfl ⟨rfl, ?_⟩
  repeat (refine Below.setCell ?_ (by simp <;> omega) _)
  exact HB.out
theorem maxr_is (g : Nat) (a b c d x y : Int) (va : vld a b = true) (vc : vld c d = true) (h : (if a * d < c * b then (c, d) else (a, b)) = (x, y)) (w : World) (k0 : w.cell? ⟨g, 0, none⟩ = some (.int .i64 a)) (k1 : w.cell? ⟨g, 1, none⟩ = some (.int .i64 b)) (k2 : w.cell? ⟨g, 2, none⟩ = some (.int .i64 c)) (k3 : w.cell? ⟨g, 3, none⟩ = some (.int .i64 d)) :
    Calls Try.prog 88 #[.slice (some ⟨g, 0, none⟩) 2 2, .func (.func 90) #[] #[]] w fun e_ w' => e_ = .returned (.agg #[.int .i64 x, .int .i64 y]) ∧ Below w.heap.size w w' := by
  by_cases hc : a * d < c * b
  · rw [if_pos hc] at h
    injection h with h1 h2
    subst h1 h2
    exact maxr_y g a b c d va vc hc w k0 k1 k2 k3
  · rw [if_neg hc] at h
    injection h with h1 h2
    subst h1 h2
    exact maxr_n g a b c d va vc hc w k0 k1 k2 k3
set_option maxRecDepth 100000 in
set_option maxHeartbeats 2000000 in
theorem minr_y (g : Nat) (a b c d : Int) (va : vld a b = true) (vc : vld c d = true) (hc : c * b < a * d) (w : World) (k0 : w.cell? ⟨g, 0, none⟩ = some (.int .i64 a)) (k1 : w.cell? ⟨g, 1, none⟩ = some (.int .i64 b)) (k2 : w.cell? ⟨g, 2, none⟩ = some (.int .i64 c)) (k3 : w.cell? ⟨g, 3, none⟩ = some (.int .i64 d)) :
    Calls Try.prog 91 #[.slice (some ⟨g, 0, none⟩) 2 2, .func (.func 90) #[] #[]] w fun e_ w' => e_ = .returned (.agg #[.int .i64 c, .int .i64 d]) ∧ Below w.heap.size w w' := by
  have HC := Lib.hid (fun W => cparts_is c d a b _ vc va rfl W)
  have hq := sgn_neg (x := c * b) (y := a * d)
  rw [decide_eq_true hc] at hq
  generalize sgn (c * b) (a * d) = s at *
  clear hc va vc
  have hg0 : g < w.heap.size := block_lt k0
  have HB := Lib.hid (show Below w.heap.size w (w.alloc (.cells #[.int .i64 0, .int .i64 0] 32)) from below_new _ _)
  have y0 : World.cell? (w.alloc (.cells #[.int .i64 0, .int .i64 0] 32)) ⟨w.heap.size, 0, none⟩ = some (.int .i64 0) := by simp [go_sem]
  have y1 : World.cell? (w.alloc (.cells #[.int .i64 0, .int .i64 0] 32)) ⟨w.heap.size, 1, none⟩ = some (.int .i64 0) := by simp [go_sem]
  have n0 : World.frozen? (w.alloc (.cells #[.int .i64 0, .int .i64 0] 32)) ⟨w.heap.size, 0, none⟩ = false := by simp [go_sem]
  have n1 : World.frozen? (w.alloc (.cells #[.int .i64 0, .int .i64 0] 32)) ⟨w.heap.size, 1, none⟩ = false := by simp [go_sem]
  go_enter Try.func91, Try.ntmps91
  go_upto_region 1 with fail
  replace k0 := keepc HB.out k0
  replace k1 := keepc HB.out k1
  replace k2 := keepc HB.out k2
  replace k3 := keepc HB.out k3
  generalize w.alloc (.cells #[.int .i64 0, .int .i64 0] 32) = w1 at *
  have hg : w.heap.size < w1.heap.size := block_lt y0
  have hg1 : g < w1.heap.size := block_lt k0
  go_wp2_with fail
  have HB2 := Lib.hid (below_new w1 (.cells #[.int .i64 a, .int .i64 b] 32))
  obtain ⟨⟨m0, m1⟩, mf0, mf1⟩ := Lc.here w1 a b 32
  replace k0 := keepc HB2.out k0
  replace k1 := keepc HB2.out k1
  replace k2 := keepc HB2.out k2
  replace k3 := keepc HB2.out k3
  replace y0 := keepc HB2.out y0
  replace y1 := keepc HB2.out y1
  replace n0 := keepf HB2.out hg n0
  replace n1 := keepf HB2.out hg n1
  replace HB := Lib.hid (HB.out.trans (HB2.out.mono (Nat.le_of_lt hg)))
  generalize w1.alloc (.cells #[.int .i64 a, .int .i64 b] 32) = w2 at *
  have hgm : w.heap.size < w1.heap.size := hg
  clear HB2
  generalize w1.heap.size = gm at *
  clear w1
  replace hg : w.heap.size < w2.heap.size := block_lt y0
  have lgm : gm < w2.heap.size := block_lt m0
  refine wp_loop_rounds 2 ?_
  rw [rounds_succ]
  go_upto_region 7 with fail
  have kp : ∀ {W : World}, Below w2.heap.size w2 W → W.cell? ⟨gm, 0, none⟩ = some (.int .i64 a) ∧ W.cell? ⟨gm, 1, none⟩ = some (.int .i64 b) ∧ W.cell? ⟨g, 2, none⟩ = some (.int .i64 c) ∧ W.cell? ⟨g, 3, none⟩ = some (.int .i64 d) ∧ Below w2.heap.size w2 W := fun h => ⟨keepc h m0, keepc h m1, keepc h k2, keepc h k3, h⟩
  go_region_held3 (fun W => W.cell? ⟨gm, 0, none⟩ = some (.int .i64 a) ∧ W.cell? ⟨gm, 1, none⟩ = some (.int .i64 b) ∧ W.cell? ⟨g, 2, none⟩ = some (.int .i64 c) ∧ W.cell? ⟨g, 3, none⟩ = some (.int .i64 d) ∧ Below w2.heap.size w2 W)
    (first | assumption | exact kp (Below.refl _ _).drew | (go_split_ands; refine kp ?_; (first | (refine on_below ?_ hb; assumption) | assumption)))
    (first | (go_at_call 90; (with_reducible refine (HC.out _).mono ?_); rintro e' w9 ⟨rfl, hb⟩))
  go_split_ands
  have hB : Below w2.heap.size w2 w9 := by assumption
  replace HB := Lib.hid (on_below HB.out hB)
  replace k0 := keepc hB k0
  replace k1 := keepc hB k1
  replace k2 := keepc hB k2
  replace k3 := keepc hB k3
  replace y0 := keepc hB y0
  replace y1 := keepc hB y1
  replace m0 := keepc hB m0
  replace m1 := keepc hB m1
  replace n0 := keepf hB hg n0
  replace n1 := keepf hB hg n1
  replace mf0 := keepf hB lgm mf0
  replace mf1 := keepf hB lgm mf1
  clear hb kp HC hB
  go_wp2_with fail
  rw [rounds_succ]
  go_wp2_with fail
  refine bodyPost_ret (v := .agg #[.int .i64 c, .int .i64 d]) (by simp [results, Try.results91, go_sem, y0, y1, m0, m1]) rfl ⟨rfl, ?_⟩
  repeat (refine Below.setCell ?_ (by simp <;> omega) _)
  exact HB.out
set_option maxRecDepth 100000 in
set_option maxHeartbeats 2000000 in
theorem minr_n (g : Nat) (a b c d : Int) (va : vld a b = true) (vc : vld c d = true) (hc : ¬ c * b < a * d) (w : World) (k0 : w.cell? ⟨g, 0, none⟩ = some (.int .i64 a)) (k1 : w.cell? ⟨g, 1, none⟩ = some (.int .i64 b)) (k2 : w.cell? ⟨g, 2, none⟩ = some (.int .i64 c)) (k3 : w.cell? ⟨g, 3, none⟩ = some (.int .i64 d)) :
    Calls Try.prog 91 #[.slice (some ⟨g, 0, none⟩) 2 2, .func (.func 90) #[] #[]] w fun e_ w' => e_ = .returned (.agg #[.int .i64 a, .int .i64 b]) ∧ Below w.heap.size w w' := by
  have HC := Lib.hid (fun W => cparts_is c d a b _ vc va rfl W)
  have hq := sgn_neg (x := c * b) (y := a * d)
  rw [decide_eq_false hc] at hq
  generalize sgn (c * b) (a * d) = s at *
  clear hc va vc
  have hg0 : g < w.heap.size := block_lt k0
  have HB := Lib.hid (show Below w.heap.size w (w.alloc (.cells #[.int .i64 0, .int .i64 0] 32)) from below_new _ _)
  have y0 : World.cell? (w.alloc (.cells #[.int .i64 0, .int .i64 0] 32)) ⟨w.heap.size, 0, none⟩ = some (.int .i64 0) := by simp [go_sem]
  have y1 : World.cell? (w.alloc (.cells #[.int .i64 0, .int .i64 0] 32)) ⟨w.heap.size, 1, none⟩ = some (.int .i64 0) := by simp [go_sem]
  have n0 : World.frozen? (w.alloc (.cells #[.int .i64 0, .int .i64 0] 32)) ⟨w.heap.size, 0, none⟩ = false := by simp [go_sem]
  have n1 : World.frozen? (w.alloc (.cells #[.int .i64 0, .int .i64 0] 32)) ⟨w.heap.size, 1, none⟩ = false := by simp [go_sem]
  go_enter Try.func91, Try.ntmps91
  go_upto_region 1 with fail
  replace k0 := keepc HB.out k0
  replace k1 := keepc HB.out k1
  replace k2 := keepc HB.out k2
  replace k3 := keepc HB.out k3
  generalize w.alloc (.cells #[.int .i64 0, .int .i64 0] 32) = w1 at *
  have hg : w.heap.size < w1.heap.size := block_lt y0
  have hg1 : g < w1.heap.size := block_lt k0
  go_wp2_with fail
  have HB2 := Lib.hid (below_new w1 (.cells #[.int .i64 a, .int .i64 b] 32))
  obtain ⟨⟨m0, m1⟩, mf0, mf1⟩ := Lc.here w1 a b 32
  replace k0 := keepc HB2.out k0
  replace k1 := keepc HB2.out k1
  replace k2 := keepc HB2.out k2
  replace k3 := keepc HB2.out k3
  replace y0 := keepc HB2.out y0
  replace y1 := keepc HB2.out y1
  replace n0 := keepf HB2.out hg n0
  replace n1 := keepf HB2.out hg n1
  replace HB := Lib.hid (HB.out.trans (HB2.out.mono (Nat.le_of_lt hg)))
  generalize w1.alloc (.cells #[.int .i64 a, .int .i64 b] 32) = w2 at *
  have hgm : w.heap.size < w1.heap.size := hg
  clear HB2
  generalize w1.heap.size = gm at *
  clear w1
  replace hg : w.heap.size < w2.heap.size := block_lt y0
  have lgm : gm < w2.heap.size := block_lt m0
  refine wp_loop_rounds 2 ?_
  rw [rounds_succ]
  go_upto_region 7 with fail
  have kp : ∀ {W : World}, Below w2.heap.size w2 W → W.cell? ⟨gm, 0, none⟩ = some (.int .i64 a) ∧ W.cell? ⟨gm, 1, none⟩ = some (.int .i64 b) ∧ W.cell? ⟨g, 2, none⟩ = some (.int .i64 c) ∧ W.cell? ⟨g, 3, none⟩ = some (.int .i64 d) ∧ Below w2.heap.size w2 W := fun h => ⟨keepc h m0, keepc h m1, keepc h k2, keepc h k3, h⟩
  go_region_held3 (fun W => W.cell? ⟨gm, 0, none⟩ = some (.int .i64 a) ∧ W.cell? ⟨gm, 1, none⟩ = some (.int .i64 b) ∧ W.cell? ⟨g, 2, none⟩ = some (.int .i64 c) ∧ W.cell? ⟨g, 3, none⟩ = some (.int .i64 d) ∧ Below w2.heap.size w2 W)
    (first | assumption | exact kp (Below.refl _ _).drew | (go_split_ands; refine kp ?_; (first | (refine on_below ?_ hb; assumption) | assumption)))
    (first | (go_at_call 90; (with_reducible refine (HC.out _).mono ?_); rintro e' w9 ⟨rfl, hb⟩))
  go_split_ands
  have hB : Below w2.heap.size w2 w9 := by assumption
  replace HB := Lib.hid (on_below HB.out hB)
  replace k0 := keepc hB k0
  replace k1 := keepc hB k1
  replace k2 := keepc hB k2
  replace k3 := keepc hB k3
  replace y0 := keepc hB y0
  replace y1 := keepc hB y1
  replace m0 := keepc hB m0
  replace m1 := keepc hB m1
  replace n0 := keepf hB hg n0
  replace n1 := keepf hB hg n1
  replace mf0 := keepf hB lgm mf0
  replace mf1 := keepf hB lgm mf1
  clear hb kp HC hB
  go_wp2_with fail
  rw [rounds_succ]
  go_wp2_with fail
  refine bodyPost_ret (v := .agg #[.int .i64 a, .int .i64 b]) (by simp [results, Try.results91, go_sem, y0, y1, m0, m1]) rfl ⟨rfl, ?_⟩
  repeat (refine Below.setCell ?_ (by simp <;> omega) _)
  exact HB.out
theorem minr_is (g : Nat) (a b c d x y : Int) (va : vld a b = true) (vc : vld c d = true) (h : (if c * b < a * d then (c, d) else (a, b)) = (x, y)) (w : World) (k0 : w.cell? ⟨g, 0, none⟩ = some (.int .i64 a)) (k1 : w.cell? ⟨g, 1, none⟩ = some (.int .i64 b)) (k2 : w.cell? ⟨g, 2, none⟩ = some (.int .i64 c)) (k3 : w.cell? ⟨g, 3, none⟩ = some (.int .i64 d)) :
    Calls Try.prog 91 #[.slice (some ⟨g, 0, none⟩) 2 2, .func (.func 90) #[] #[]] w fun e_ w' => e_ = .returned (.agg #[.int .i64 x, .int .i64 y]) ∧ Below w.heap.size w w' := by
  by_cases hc : c * b < a * d
  · rw [if_pos hc] at h
    injection h with h1 h2
    subst h1 h2
    exact minr_y g a b c d va vc hc w k0 k1 k2 k3
  · rw [if_neg hc] at h
    injection h with h1 h2
    subst h1 h2
    exact minr_n g a b c d va vc hc w k0 k1 k2 k3
end Go.Proofs.Ytiffgcipdamngaa
