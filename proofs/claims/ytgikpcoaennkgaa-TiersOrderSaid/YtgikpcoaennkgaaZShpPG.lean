/-
  Package shape: Valid.
-/
import Derived.Test.YtgikpcoaennkgaaZShpPX
import Derived.Test.YtgikpcoaennkgaaZShpPE
import Derived.Test.YtgikpcoaennkgaaZShpPF
import Derived.Test.YtgikpcoaennkgaaZShpG
namespace Go.Proofs.Ytgikpcoaennkgaa
open Go.RowKit Go.Sort
open Go.RowKit (Below)
set_option linter.unusedVariables false
set_option linter.unusedSimpArgs false

theorem pt_eq {a b x y : Int} {r : Bool} (h : decide (a = x ∧ b = y) = r) (w : World) : (binOp .eql 55 (.agg #[.int .i64 a, .int .i64 b]) (.agg #[.int .i64 x, .int .i64 y])).run Try.prog w = .ok (.bool r) w := by
  subst h
  by_cases h1 : a = x
  · by_cases h2 : b = y
    · subst h1 h2; simp [go_sem]
    · simp [go_sem, h1, h2]
  · simp [go_sem, h1]
theorem cvx_first {n : Nat} {X Y : Nat → Int} (h : Cvx n X Y) (h3 : 3 ≤ n) {i : Nat} (h0 : 0 < i) (hi : i < n) : ¬ (X 0 = X i ∧ Y 0 = Y i) := by
  rintro ⟨e1, e2⟩
  by_cases c : i + 1 < n
  · have := cvx_lt h h0 (Nat.lt_succ_self i) c
    unfold tr at this
    rw [← e1, ← e2] at this
    unfold crs at this
    grind
  · have := cvx_lt h (i := 0) (j := 1) (k := i) (by omega) (by omega) hi
    unfold tr at this
    rw [← e1, ← e2] at this
    unfold crs at this
    grind
/-- The first corner is the least one. -/
theorem first_iff {xs : List (Int × Int)} (h3 : 3 ≤ xs.length) (hc : Cvx xs.length (px xs) (py xs)) :
    ((gdS xs 0).1 = (gdS xs (lea xs xs.length)).1 ∧ (gdS xs 0).2 = (gdS xs (lea xs xs.length)).2) ↔ ∀ i, 0 < i → i < xs.length → px xs 0 < px xs i ∨ (px xs 0 = px xs i ∧ py xs 0 < py xs i) := by
  constructor
  · rintro ⟨e1, e2⟩ i h0 hi
    have h := lea_least xs xs.length i hi
    rw [← e1, ← e2] at h
    have h2 := cvx_first hc h3 h0 hi
    have h4 : ¬ ((gdS xs i).1 < (gdS xs 0).1 ∨ ((gdS xs i).1 = (gdS xs 0).1 ∧ (gdS xs i).2 < (gdS xs 0).2)) := fun k => by rw [lxl_iff.2 k] at h; cases h
    show (gdS xs 0).1 < (gdS xs i).1 ∨ ((gdS xs 0).1 = (gdS xs i).1 ∧ (gdS xs 0).2 < (gdS xs i).2)
    have h5 : ¬ ((gdS xs 0).1 = (gdS xs i).1 ∧ (gdS xs 0).2 = (gdS xs i).2) := h2
    omega
  · intro h
    by_cases e : lea xs xs.length = 0
    · rw [e]; exact ⟨rfl, rfl⟩
    · have hl := lea_lt xs (show 0 < xs.length by omega)
      have h1 := lea_least xs xs.length 0 (by omega)
      have h2 := h _ (by omega) hl
      have h3 : lxl (gdS xs 0).1 (gdS xs 0).2 (gdS xs (lea xs xs.length)).1 (gdS xs (lea xs xs.length)).2 = true := lxl_iff.2 h2
      rw [h1] at h3; cases h3
set_option maxRecDepth 100000 in
set_option maxHeartbeats 2000000 in
theorem pv_1 (A : Option Addr) (C : Nat) (xs : List (Int × Int)) (lo hi : Int) (hlen : xs.length ≤ 9223372036854775806) (hn : xs.length < 3) (w : World) (hl : SlS w A xs) :
    Calls Try.prog 33 #[.agg #[.slice A xs.length C, .int .i64 lo, .int .i64 hi]] w fun e_ w' => e_ = .returned (.bool false) ∧ Below w.heap.size w w' := by
  have p0 : World.cell? (w.alloc (.cells #[.slice A xs.length C, .int .i64 lo, .int .i64 hi] 47)) ⟨w.heap.size, 0, none⟩ = some (.slice A xs.length C) := by simp [go_sem]
  have p1 : World.cell? (w.alloc (.cells #[.slice A xs.length C, .int .i64 lo, .int .i64 hi] 47)) ⟨w.heap.size, 1, none⟩ = some (.int .i64 lo) := by simp [go_sem]
  have p2 : World.cell? (w.alloc (.cells #[.slice A xs.length C, .int .i64 lo, .int .i64 hi] 47)) ⟨w.heap.size, 2, none⟩ = some (.int .i64 hi) := by simp [go_sem]
  have lp : w.heap.size < (w.alloc (.cells #[.slice A xs.length C, .int .i64 lo, .int .i64 hi] 47)).heap.size := by simp <;> omega
  have HB := Lib.hid (show Below w.heap.size w (w.alloc (.cells #[.slice A xs.length C, .int .i64 lo, .int .i64 hi] 47)) from ((Below.refl _ _).alloc (by simp <;> omega) _))
  go_enter Try.func33, Try.ntmps33
  go_upto_region 1 with fail
  generalize w.alloc (.cells #[.slice A xs.length C, .int .i64 lo, .int .i64 hi] 47) = w1 at *
  go_wp2_with fail
  go_ret
  exact ⟨rfl, HB.out⟩
set_option maxRecDepth 100000 in
set_option maxHeartbeats 2000000 in
theorem pv_2 (A : Option Addr) (C : Nat) (xs : List (Int × Int)) (lo hi : Int) (hlen : xs.length ≤ 9223372036854775806) (hn : 8 < xs.length) (w : World) (hl : SlS w A xs) :
    Calls Try.prog 33 #[.agg #[.slice A xs.length C, .int .i64 lo, .int .i64 hi]] w fun e_ w' => e_ = .returned (.bool false) ∧ Below w.heap.size w w' := by
  have p0 : World.cell? (w.alloc (.cells #[.slice A xs.length C, .int .i64 lo, .int .i64 hi] 47)) ⟨w.heap.size, 0, none⟩ = some (.slice A xs.length C) := by simp [go_sem]
  have p1 : World.cell? (w.alloc (.cells #[.slice A xs.length C, .int .i64 lo, .int .i64 hi] 47)) ⟨w.heap.size, 1, none⟩ = some (.int .i64 lo) := by simp [go_sem]
  have p2 : World.cell? (w.alloc (.cells #[.slice A xs.length C, .int .i64 lo, .int .i64 hi] 47)) ⟨w.heap.size, 2, none⟩ = some (.int .i64 hi) := by simp [go_sem]
  have lp : w.heap.size < (w.alloc (.cells #[.slice A xs.length C, .int .i64 lo, .int .i64 hi] 47)).heap.size := by simp <;> omega
  have HB := Lib.hid (show Below w.heap.size w (w.alloc (.cells #[.slice A xs.length C, .int .i64 lo, .int .i64 hi] 47)) from ((Below.refl _ _).alloc (by simp <;> omega) _))
  go_enter Try.func33, Try.ntmps33
  go_upto_region 1 with fail
  generalize w.alloc (.cells #[.slice A xs.length C, .int .i64 lo, .int .i64 hi] 47) = w1 at *
  go_wp2_with fail
  go_ret
  exact ⟨rfl, HB.out⟩
set_option maxRecDepth 100000 in
set_option maxHeartbeats 2000000 in
theorem pv_3 (A : Option Addr) (C : Nat) (xs : List (Int × Int)) (lo hi : Int) (hn : 3 ≤ xs.length) (hn8 : xs.length ≤ 8) (hz : hi ≤ lo) (w : World) (hl : SlS w A xs) :
    Calls Try.prog 33 #[.agg #[.slice A xs.length C, .int .i64 lo, .int .i64 hi]] w fun e_ w' => e_ = .returned (.bool false) ∧ Below w.heap.size w w' := by
  have p0 : World.cell? (w.alloc (.cells #[.slice A xs.length C, .int .i64 lo, .int .i64 hi] 47)) ⟨w.heap.size, 0, none⟩ = some (.slice A xs.length C) := by simp [go_sem]
  have p1 : World.cell? (w.alloc (.cells #[.slice A xs.length C, .int .i64 lo, .int .i64 hi] 47)) ⟨w.heap.size, 1, none⟩ = some (.int .i64 lo) := by simp [go_sem]
  have p2 : World.cell? (w.alloc (.cells #[.slice A xs.length C, .int .i64 lo, .int .i64 hi] 47)) ⟨w.heap.size, 2, none⟩ = some (.int .i64 hi) := by simp [go_sem]
  have lp : w.heap.size < (w.alloc (.cells #[.slice A xs.length C, .int .i64 lo, .int .i64 hi] 47)).heap.size := by simp <;> omega
  have HB := Lib.hid (show Below w.heap.size w (w.alloc (.cells #[.slice A xs.length C, .int .i64 lo, .int .i64 hi] 47)) from ((Below.refl _ _).alloc (by simp <;> omega) _))
  go_enter Try.func33, Try.ntmps33
  go_upto_region 1 with fail
  generalize w.alloc (.cells #[.slice A xs.length C, .int .i64 lo, .int .i64 hi] 47) = w1 at *
  go_wp2_with fail
  go_ret
  exact ⟨rfl, HB.out⟩
set_option maxRecDepth 100000 in
set_option maxHeartbeats 4000000 in
theorem pv_4 (A : Option Addr) (C : Nat) (xs : List (Int × Int)) (lo hi : Int) (hn : 3 ≤ xs.length) (hn8 : xs.length ≤ 8) (hz : lo < hi) (hr : false = true ↔ (∀ j, j < xs.length → vv (gdS xs j).1 (gdS xs j).2 lo = true ∧ vv (gdS xs j).1 (gdS xs j).2 hi = true)) (w : World) (hl : SlS w A xs) :
    Calls Try.prog 33 #[.agg #[.slice A xs.length C, .int .i64 lo, .int .i64 hi]] w fun e_ w' => e_ = .returned (.bool false) ∧ Below w.heap.size w w' := by
  obtain ⟨b0, o0, rfl, z0, z1⟩ := hl 0 (by omega)
  rw [Nat.zero_mul, Nat.add_zero] at z0 z1
  have HX := Lib.hid hl
  clear hl
  have H1 := Lib.hid (fun W h => inrange_is (some ⟨b0, o0, none⟩) C xs lo hi (by omega) false hr W h)
  clear hr
  generalize (gdS xs 0).1 = x0 at *
  generalize (gdS xs 0).2 = y0 at *
  have p0 : World.cell? (w.alloc (.cells #[.slice (some ⟨b0, o0, none⟩) xs.length C, .int .i64 lo, .int .i64 hi] 47)) ⟨w.heap.size, 0, none⟩ = some (.slice (some ⟨b0, o0, none⟩) xs.length C) := by simp [go_sem]
  have p1 : World.cell? (w.alloc (.cells #[.slice (some ⟨b0, o0, none⟩) xs.length C, .int .i64 lo, .int .i64 hi] 47)) ⟨w.heap.size, 1, none⟩ = some (.int .i64 lo) := by simp [go_sem]
  have p2 : World.cell? (w.alloc (.cells #[.slice (some ⟨b0, o0, none⟩) xs.length C, .int .i64 lo, .int .i64 hi] 47)) ⟨w.heap.size, 2, none⟩ = some (.int .i64 hi) := by simp [go_sem]
  have lp : w.heap.size < (w.alloc (.cells #[.slice (some ⟨b0, o0, none⟩) xs.length C, .int .i64 lo, .int .i64 hi] 47)).heap.size := by simp <;> omega
  have HB := Lib.hid (show Below w.heap.size w (w.alloc (.cells #[.slice (some ⟨b0, o0, none⟩) xs.length C, .int .i64 lo, .int .i64 hi] 47)) from ((Below.refl _ _).alloc (by simp <;> omega) _))
  go_enter Try.func33, Try.ntmps33
  go_upto_region 1 with fail
  generalize w.alloc (.cells #[.slice (some ⟨b0, o0, none⟩) xs.length C, .int .i64 lo, .int .i64 hi] 47) = w1 at *
  replace z0 := keepc HB.out z0
  replace z1 := keepc HB.out z1
  replace HX := Lib.hid (HX.out.below HB.out)
  have HS_ := Lib.hid (show w1.cell? ⟨w.heap.size, 0, none⟩ = some (.slice (some ⟨b0, o0, none⟩) xs.length C) ∧ w1.cell? ⟨w.heap.size, 1, none⟩ = some (.int .i64 lo) ∧ w1.cell? ⟨w.heap.size, 2, none⟩ = some (.int .i64 hi) ∧ w1.cell? ⟨b0, o0, none⟩ = some (.int .i64 x0) ∧ w1.cell? ⟨b0, o0 + 1, none⟩ = some (.int .i64 y0) from ⟨p0, p1, p2, z0, z1⟩)
  have keep3 : ∀ {U V : World}, Below U.heap.size U V → (U.cell? ⟨w.heap.size, 0, none⟩ = some (.slice (some ⟨b0, o0, none⟩) xs.length C) ∧ U.cell? ⟨w.heap.size, 1, none⟩ = some (.int .i64 lo) ∧ U.cell? ⟨w.heap.size, 2, none⟩ = some (.int .i64 hi) ∧ U.cell? ⟨b0, o0, none⟩ = some (.int .i64 x0) ∧ U.cell? ⟨b0, o0 + 1, none⟩ = some (.int .i64 y0)) → (V.cell? ⟨w.heap.size, 0, none⟩ = some (.slice (some ⟨b0, o0, none⟩) xs.length C) ∧ V.cell? ⟨w.heap.size, 1, none⟩ = some (.int .i64 lo) ∧ V.cell? ⟨w.heap.size, 2, none⟩ = some (.int .i64 hi) ∧ V.cell? ⟨b0, o0, none⟩ = some (.int .i64 x0) ∧ V.cell? ⟨b0, o0 + 1, none⟩ = some (.int .i64 y0)) := fun h k => ⟨keepc h k.1, keepc h k.2.1, keepc h k.2.2.1, keepc h k.2.2.2.1, keepc h k.2.2.2.2⟩
  clear lp
  have z3 : ¬ xs = [] := by intro e; rw [e] at hn; exact absurd hn (by decide)
  go_upto_region 3 with fail
  clear p0 p1 p2 z0 z1
  refine wp_region_held_drew (S := fun V => V.cell? ⟨w.heap.size, 0, none⟩ = some (.slice (some ⟨b0, o0, none⟩) xs.length C) ∧ V.cell? ⟨w.heap.size, 1, none⟩ = some (.int .i64 lo) ∧ V.cell? ⟨w.heap.size, 2, none⟩ = some (.int .i64 hi) ∧ V.cell? ⟨b0, o0, none⟩ = some (.int .i64 x0) ∧ V.cell? ⟨b0, o0 + 1, none⟩ = some (.int .i64 y0)) (by kernel_rfl) HS_.out fun HL_ => ?_
  replace HX := Lib.hid (show SlS w1.drew (some ⟨b0, o0, none⟩) xs from HX.out)
  replace HS_ := Lib.hid (show w1.drew.cell? ⟨w.heap.size, 0, none⟩ = some (.slice (some ⟨b0, o0, none⟩) xs.length C) ∧ w1.drew.cell? ⟨w.heap.size, 1, none⟩ = some (.int .i64 lo) ∧ w1.drew.cell? ⟨w.heap.size, 2, none⟩ = some (.int .i64 hi) ∧ w1.drew.cell? ⟨b0, o0, none⟩ = some (.int .i64 x0) ∧ w1.drew.cell? ⟨b0, o0 + 1, none⟩ = some (.int .i64 y0) from HS_.out)
  refine wpAnyH_take (i := 0) (v := .agg #[.slice (some ⟨b0, o0, none⟩) xs.length C, .int .i64 lo, .int .i64 hi]) rfl (by kernel_rfl) (by kernel_rfl) (by kernel_rfl) (fun _ _ _ h => h) (Or.inl ⟨by kernel_rfl, ?_⟩) HL_ ?_
  · rintro Wl ⟨s0, s1, s2, s3, s4⟩
    go_simp
  simp only [Act.put, List.getElem_toArray, List.getElem_cons_succ, List.getElem_cons_zero, List.setIfInBounds_toArray, List.set_cons_zero, List.set_cons_succ]
  refine wpAnyH_ready (rs := [1]) (by kernel_rfl) (by simp) ?_
  refine AllReadyH.cons (o := _) rfl (fun K hK => ?_) AllReadyH.nil
  go_simp
  with_reducible refine (H1.out _ HX.out).mono ?_
  rintro e_ w2 ⟨rfl, hb⟩
  replace HB := Lib.hid (on_below HB.out (undrew_b hb))
  replace HS_ := Lib.hid (keep3 hb HS_.out)
  replace HX := Lib.hid (HX.out.below hb)
  clear hb
  refine hK.out _ _ HS_.out fun HL_ => ?_
  clear hK K
  refine wpAnyH_take (i := 2) (v := .bool false) rfl (by kernel_rfl) (by kernel_rfl) (by kernel_rfl) (fun _ _ _ h => h) (Or.inl ⟨by kernel_rfl, ?_⟩) HL_ ?_
  · rintro Wl ⟨s0, s1, s2, s3, s4⟩
    go_simp
  simp only [Act.put, List.getElem_toArray, List.getElem_cons_succ, List.getElem_cons_zero, List.setIfInBounds_toArray, List.set_cons_zero, List.set_cons_succ]
  refine wpAnyH_take (i := 3) (v := undef) rfl (by kernel_rfl) (by kernel_rfl) (by kernel_rfl) (fun _ _ _ h => h) (Or.inr ⟨by kernel_rfl, rfl⟩) HL_ ?_
  simp only [Act.put, List.getElem_toArray, List.getElem_cons_succ, List.getElem_cons_zero, List.setIfInBounds_toArray, List.set_cons_zero, List.set_cons_succ]
  refine wpAnyH_take (i := 4) (v := undef) rfl (by kernel_rfl) (by kernel_rfl) (by kernel_rfl) (fun _ _ _ h => h) (Or.inr ⟨by kernel_rfl, rfl⟩) HL_ ?_
  simp only [Act.put, List.getElem_toArray, List.getElem_cons_succ, List.getElem_cons_zero, List.setIfInBounds_toArray, List.set_cons_zero, List.set_cons_succ]
  refine wpAnyH_take (i := 5) (v := undef) rfl (by kernel_rfl) (by kernel_rfl) (by kernel_rfl) (fun _ _ _ h => h) (Or.inr ⟨by kernel_rfl, rfl⟩) HL_ ?_
  simp only [Act.put, List.getElem_toArray, List.getElem_cons_succ, List.getElem_cons_zero, List.setIfInBounds_toArray, List.set_cons_zero, List.set_cons_succ]
  refine wpAnyH_take (i := 6) (v := .bool false) rfl (by kernel_rfl) (by kernel_rfl) (by kernel_rfl) (fun _ _ _ h => h) (Or.inl ⟨by kernel_rfl, ?_⟩) HL_ ?_
  · rintro Wl ⟨s0, s1, s2, s3, s4⟩
    go_simp
  simp only [Act.put, List.getElem_toArray, List.getElem_cons_succ, List.getElem_cons_zero, List.setIfInBounds_toArray, List.set_cons_zero, List.set_cons_succ]
  refine wpAnyH_take (i := 7) (v := .bool false) rfl (by kernel_rfl) (by kernel_rfl) (by kernel_rfl) (fun _ _ _ h => h) (Or.inl ⟨by kernel_rfl, ?_⟩) HL_ ?_
  · rintro Wl ⟨s0, s1, s2, s3, s4⟩
    go_simp
  simp only [Act.put, List.getElem_toArray, List.getElem_cons_succ, List.getElem_cons_zero, List.setIfInBounds_toArray, List.set_cons_zero, List.set_cons_succ]
  refine wpAnyH_take (i := 8) (v := undef) rfl (by kernel_rfl) (by kernel_rfl) (by kernel_rfl) (fun _ _ _ h => h) (Or.inr ⟨by kernel_rfl, rfl⟩) HL_ ?_
  simp only [Act.put, List.getElem_toArray, List.getElem_cons_succ, List.getElem_cons_zero, List.setIfInBounds_toArray, List.set_cons_zero, List.set_cons_succ]
  refine wpAnyH_take (i := 9) (v := undef) rfl (by kernel_rfl) (by kernel_rfl) (by kernel_rfl) (fun _ _ _ h => h) (Or.inr ⟨by kernel_rfl, rfl⟩) HL_ ?_
  simp only [Act.put, List.getElem_toArray, List.getElem_cons_succ, List.getElem_cons_zero, List.setIfInBounds_toArray, List.set_cons_zero, List.set_cons_succ]
  refine wpAnyH_take (i := 10) (v := undef) rfl (by kernel_rfl) (by kernel_rfl) (by kernel_rfl) (fun _ _ _ h => h) (Or.inr ⟨by kernel_rfl, rfl⟩) HL_ ?_
  simp only [Act.put, List.getElem_toArray, List.getElem_cons_succ, List.getElem_cons_zero, List.setIfInBounds_toArray, List.set_cons_zero, List.set_cons_succ]
  refine wpAnyH_take (i := 11) (v := undef) rfl (by kernel_rfl) (by kernel_rfl) (by kernel_rfl) (fun _ _ _ h => h) (Or.inr ⟨by kernel_rfl, rfl⟩) HL_ ?_
  simp only [Act.put, List.getElem_toArray, List.getElem_cons_succ, List.getElem_cons_zero, List.setIfInBounds_toArray, List.set_cons_zero, List.set_cons_succ]
  refine wpAnyH_take (i := 12) (v := undef) rfl (by kernel_rfl) (by kernel_rfl) (by kernel_rfl) (fun _ _ _ h => h) (Or.inr ⟨by kernel_rfl, rfl⟩) HL_ ?_
  simp only [Act.put, List.getElem_toArray, List.getElem_cons_succ, List.getElem_cons_zero, List.setIfInBounds_toArray, List.set_cons_zero, List.set_cons_succ]
  refine wpAnyH_take (i := 13) (v := undef) rfl (by kernel_rfl) (by kernel_rfl) (by kernel_rfl) (fun _ _ _ h => h) (Or.inr ⟨by kernel_rfl, rfl⟩) HL_ ?_
  simp only [Act.put, List.getElem_toArray, List.getElem_cons_succ, List.getElem_cons_zero, List.setIfInBounds_toArray, List.set_cons_zero, List.set_cons_succ]
  refine wpAnyH_take (i := 14) (v := undef) rfl (by kernel_rfl) (by kernel_rfl) (by kernel_rfl) (fun _ _ _ h => h) (Or.inr ⟨by kernel_rfl, rfl⟩) HL_ ?_
  simp only [Act.put, List.getElem_toArray, List.getElem_cons_succ, List.getElem_cons_zero, List.setIfInBounds_toArray, List.set_cons_zero, List.set_cons_succ]
  refine wpAnyH_take (i := 15) (v := undef) rfl (by kernel_rfl) (by kernel_rfl) (by kernel_rfl) (fun _ _ _ h => h) (Or.inr ⟨by kernel_rfl, rfl⟩) HL_ ?_
  simp only [Act.put, List.getElem_toArray, List.getElem_cons_succ, List.getElem_cons_zero, List.setIfInBounds_toArray, List.set_cons_zero, List.set_cons_succ]
  refine wpAnyH_take (i := 16) (v := .bool false) rfl (by kernel_rfl) (by kernel_rfl) (by kernel_rfl) (fun _ _ _ h => h) (Or.inl ⟨by kernel_rfl, ?_⟩) HL_ ?_
  · rintro Wl ⟨s0, s1, s2, s3, s4⟩
    go_simp
  simp only [Act.put, List.getElem_toArray, List.getElem_cons_succ, List.getElem_cons_zero, List.setIfInBounds_toArray, List.set_cons_zero, List.set_cons_succ]
  refine wpAnyH_take (i := 17) (v := .bool false) rfl (by kernel_rfl) (by kernel_rfl) (by kernel_rfl) (fun _ _ _ h => h) (Or.inl ⟨by kernel_rfl, ?_⟩) HL_ ?_
  · rintro Wl ⟨s0, s1, s2, s3, s4⟩
    go_simp
  simp only [Act.put, List.getElem_toArray, List.getElem_cons_succ, List.getElem_cons_zero, List.setIfInBounds_toArray, List.set_cons_zero, List.set_cons_succ]
  refine wpAnyH_done (by kernel_rfl) ?_ _
  go_wp2_with fail
  go_ret
  exact ⟨rfl, HB.out⟩
set_option maxRecDepth 100000 in
set_option maxHeartbeats 4000000 in
theorem pv_5 (A : Option Addr) (C : Nat) (xs : List (Int × Int)) (lo hi : Int) (hn : 3 ≤ xs.length) (hn8 : xs.length ≤ 8) (hz : lo < hi) (hr : true = true ↔ (∀ j, j < xs.length → vv (gdS xs j).1 (gdS xs j).2 lo = true ∧ vv (gdS xs j).1 (gdS xs j).2 hi = true)) (hco : ∀ j, j < xs.length → co (px xs j) ∧ co (py xs j)) (hc : false = true ↔ Cvx xs.length (px xs) (py xs)) (w : World) (hl : SlS w A xs) :
    Calls Try.prog 33 #[.agg #[.slice A xs.length C, .int .i64 lo, .int .i64 hi]] w fun e_ w' => e_ = .returned (.bool false) ∧ Below w.heap.size w w' := by
  obtain ⟨b0, o0, rfl, z0, z1⟩ := hl 0 (by omega)
  rw [Nat.zero_mul, Nat.add_zero] at z0 z1
  have HX := Lib.hid hl
  clear hl
  have H1 := Lib.hid (fun W h => inrange_is (some ⟨b0, o0, none⟩) C xs lo hi (by omega) true hr W h)
  clear hr
  have H2 := Lib.hid (fun W h => convex_is (some ⟨b0, o0, none⟩) C xs hn hco (by omega) false hc W h)
  clear hc
  have HCO := Lib.hid hco
  clear hco
  generalize (gdS xs 0).1 = x0 at *
  generalize (gdS xs 0).2 = y0 at *
  have p0 : World.cell? (w.alloc (.cells #[.slice (some ⟨b0, o0, none⟩) xs.length C, .int .i64 lo, .int .i64 hi] 47)) ⟨w.heap.size, 0, none⟩ = some (.slice (some ⟨b0, o0, none⟩) xs.length C) := by simp [go_sem]
  have p1 : World.cell? (w.alloc (.cells #[.slice (some ⟨b0, o0, none⟩) xs.length C, .int .i64 lo, .int .i64 hi] 47)) ⟨w.heap.size, 1, none⟩ = some (.int .i64 lo) := by simp [go_sem]
  have p2 : World.cell? (w.alloc (.cells #[.slice (some ⟨b0, o0, none⟩) xs.length C, .int .i64 lo, .int .i64 hi] 47)) ⟨w.heap.size, 2, none⟩ = some (.int .i64 hi) := by simp [go_sem]
  have lp : w.heap.size < (w.alloc (.cells #[.slice (some ⟨b0, o0, none⟩) xs.length C, .int .i64 lo, .int .i64 hi] 47)).heap.size := by simp <;> omega
  have HB := Lib.hid (show Below w.heap.size w (w.alloc (.cells #[.slice (some ⟨b0, o0, none⟩) xs.length C, .int .i64 lo, .int .i64 hi] 47)) from ((Below.refl _ _).alloc (by simp <;> omega) _))
  go_enter Try.func33, Try.ntmps33
  go_upto_region 1 with fail
  generalize w.alloc (.cells #[.slice (some ⟨b0, o0, none⟩) xs.length C, .int .i64 lo, .int .i64 hi] 47) = w1 at *
  replace z0 := keepc HB.out z0
  replace z1 := keepc HB.out z1
  replace HX := Lib.hid (HX.out.below HB.out)
  have HS_ := Lib.hid (show w1.cell? ⟨w.heap.size, 0, none⟩ = some (.slice (some ⟨b0, o0, none⟩) xs.length C) ∧ w1.cell? ⟨w.heap.size, 1, none⟩ = some (.int .i64 lo) ∧ w1.cell? ⟨w.heap.size, 2, none⟩ = some (.int .i64 hi) ∧ w1.cell? ⟨b0, o0, none⟩ = some (.int .i64 x0) ∧ w1.cell? ⟨b0, o0 + 1, none⟩ = some (.int .i64 y0) from ⟨p0, p1, p2, z0, z1⟩)
  have keep3 : ∀ {U V : World}, Below U.heap.size U V → (U.cell? ⟨w.heap.size, 0, none⟩ = some (.slice (some ⟨b0, o0, none⟩) xs.length C) ∧ U.cell? ⟨w.heap.size, 1, none⟩ = some (.int .i64 lo) ∧ U.cell? ⟨w.heap.size, 2, none⟩ = some (.int .i64 hi) ∧ U.cell? ⟨b0, o0, none⟩ = some (.int .i64 x0) ∧ U.cell? ⟨b0, o0 + 1, none⟩ = some (.int .i64 y0)) → (V.cell? ⟨w.heap.size, 0, none⟩ = some (.slice (some ⟨b0, o0, none⟩) xs.length C) ∧ V.cell? ⟨w.heap.size, 1, none⟩ = some (.int .i64 lo) ∧ V.cell? ⟨w.heap.size, 2, none⟩ = some (.int .i64 hi) ∧ V.cell? ⟨b0, o0, none⟩ = some (.int .i64 x0) ∧ V.cell? ⟨b0, o0 + 1, none⟩ = some (.int .i64 y0)) := fun h k => ⟨keepc h k.1, keepc h k.2.1, keepc h k.2.2.1, keepc h k.2.2.2.1, keepc h k.2.2.2.2⟩
  clear lp
  have z3 : ¬ xs = [] := by intro e; rw [e] at hn; exact absurd hn (by decide)
  go_upto_region 3 with fail
  clear p0 p1 p2 z0 z1
  refine wp_region_held_drew (S := fun V => V.cell? ⟨w.heap.size, 0, none⟩ = some (.slice (some ⟨b0, o0, none⟩) xs.length C) ∧ V.cell? ⟨w.heap.size, 1, none⟩ = some (.int .i64 lo) ∧ V.cell? ⟨w.heap.size, 2, none⟩ = some (.int .i64 hi) ∧ V.cell? ⟨b0, o0, none⟩ = some (.int .i64 x0) ∧ V.cell? ⟨b0, o0 + 1, none⟩ = some (.int .i64 y0)) (by kernel_rfl) HS_.out fun HL_ => ?_
  replace HX := Lib.hid (show SlS w1.drew (some ⟨b0, o0, none⟩) xs from HX.out)
  replace HS_ := Lib.hid (show w1.drew.cell? ⟨w.heap.size, 0, none⟩ = some (.slice (some ⟨b0, o0, none⟩) xs.length C) ∧ w1.drew.cell? ⟨w.heap.size, 1, none⟩ = some (.int .i64 lo) ∧ w1.drew.cell? ⟨w.heap.size, 2, none⟩ = some (.int .i64 hi) ∧ w1.drew.cell? ⟨b0, o0, none⟩ = some (.int .i64 x0) ∧ w1.drew.cell? ⟨b0, o0 + 1, none⟩ = some (.int .i64 y0) from HS_.out)
  refine wpAnyH_take (i := 0) (v := .agg #[.slice (some ⟨b0, o0, none⟩) xs.length C, .int .i64 lo, .int .i64 hi]) rfl (by kernel_rfl) (by kernel_rfl) (by kernel_rfl) (fun _ _ _ h => h) (Or.inl ⟨by kernel_rfl, ?_⟩) HL_ ?_
  · rintro Wl ⟨s0, s1, s2, s3, s4⟩
    go_simp
  simp only [Act.put, List.getElem_toArray, List.getElem_cons_succ, List.getElem_cons_zero, List.setIfInBounds_toArray, List.set_cons_zero, List.set_cons_succ]
  refine wpAnyH_ready (rs := [1]) (by kernel_rfl) (by simp) ?_
  refine AllReadyH.cons (o := _) rfl (fun K hK => ?_) AllReadyH.nil
  go_simp
  with_reducible refine (H1.out _ HX.out).mono ?_
  rintro e_ w2 ⟨rfl, hb⟩
  replace HB := Lib.hid (on_below HB.out (undrew_b hb))
  replace HS_ := Lib.hid (keep3 hb HS_.out)
  replace HX := Lib.hid (HX.out.below hb)
  clear hb
  refine hK.out _ _ HS_.out fun HL_ => ?_
  clear hK K
  refine wpAnyH_take (i := 2) (v := .bool true) rfl (by kernel_rfl) (by kernel_rfl) (by kernel_rfl) (fun _ _ _ h => h) (Or.inl ⟨by kernel_rfl, ?_⟩) HL_ ?_
  · rintro Wl ⟨s0, s1, s2, s3, s4⟩
    go_simp
  simp only [Act.put, List.getElem_toArray, List.getElem_cons_succ, List.getElem_cons_zero, List.setIfInBounds_toArray, List.set_cons_zero, List.set_cons_succ]
  refine wpAnyH_take (i := 3) (v := .pointer (some ⟨w.heap.size, 0, none⟩)) rfl (by kernel_rfl) (by kernel_rfl) (by kernel_rfl) (fun _ _ _ h => h) (Or.inl ⟨by kernel_rfl, ?_⟩) HL_ ?_
  · rintro Wl ⟨s0, s1, s2, s3, s4⟩
    go_simp
  simp only [Act.put, List.getElem_toArray, List.getElem_cons_succ, List.getElem_cons_zero, List.setIfInBounds_toArray, List.set_cons_zero, List.set_cons_succ]
  refine wpAnyH_take (i := 4) (v := .slice (some ⟨b0, o0, none⟩) xs.length C) rfl (by kernel_rfl) (by kernel_rfl) (by kernel_rfl) (fun _ _ _ h => h) (Or.inl ⟨by kernel_rfl, ?_⟩) HL_ ?_
  · rintro Wl ⟨s0, s1, s2, s3, s4⟩
    go_simp
  simp only [Act.put, List.getElem_toArray, List.getElem_cons_succ, List.getElem_cons_zero, List.setIfInBounds_toArray, List.set_cons_zero, List.set_cons_succ]
  refine wpAnyH_ready (rs := [5]) (by kernel_rfl) (by simp) ?_
  refine AllReadyH.cons (o := _) rfl (fun K hK => ?_) AllReadyH.nil
  go_simp
  with_reducible refine (H2.out _ HX.out).mono ?_
  rintro e_ w3 ⟨rfl, hb⟩
  replace HB := Lib.hid (on_below HB.out hb)
  replace HS_ := Lib.hid (keep3 hb HS_.out)
  replace HX := Lib.hid (HX.out.below hb)
  clear hb
  refine hK.out _ _ HS_.out fun HL_ => ?_
  clear hK K
  refine wpAnyH_take (i := 6) (v := .bool false) rfl (by kernel_rfl) (by kernel_rfl) (by kernel_rfl) (fun _ _ _ h => h) (Or.inl ⟨by kernel_rfl, ?_⟩) HL_ ?_
  · rintro Wl ⟨s0, s1, s2, s3, s4⟩
    go_simp
  simp only [Act.put, List.getElem_toArray, List.getElem_cons_succ, List.getElem_cons_zero, List.setIfInBounds_toArray, List.set_cons_zero, List.set_cons_succ]
  refine wpAnyH_take (i := 7) (v := .bool false) rfl (by kernel_rfl) (by kernel_rfl) (by kernel_rfl) (fun _ _ _ h => h) (Or.inl ⟨by kernel_rfl, ?_⟩) HL_ ?_
  · rintro Wl ⟨s0, s1, s2, s3, s4⟩
    go_simp
  simp only [Act.put, List.getElem_toArray, List.getElem_cons_succ, List.getElem_cons_zero, List.setIfInBounds_toArray, List.set_cons_zero, List.set_cons_succ]
  refine wpAnyH_take (i := 8) (v := undef) rfl (by kernel_rfl) (by kernel_rfl) (by kernel_rfl) (fun _ _ _ h => h) (Or.inr ⟨by kernel_rfl, rfl⟩) HL_ ?_
  simp only [Act.put, List.getElem_toArray, List.getElem_cons_succ, List.getElem_cons_zero, List.setIfInBounds_toArray, List.set_cons_zero, List.set_cons_succ]
  refine wpAnyH_take (i := 9) (v := undef) rfl (by kernel_rfl) (by kernel_rfl) (by kernel_rfl) (fun _ _ _ h => h) (Or.inr ⟨by kernel_rfl, rfl⟩) HL_ ?_
  simp only [Act.put, List.getElem_toArray, List.getElem_cons_succ, List.getElem_cons_zero, List.setIfInBounds_toArray, List.set_cons_zero, List.set_cons_succ]
  refine wpAnyH_take (i := 10) (v := undef) rfl (by kernel_rfl) (by kernel_rfl) (by kernel_rfl) (fun _ _ _ h => h) (Or.inr ⟨by kernel_rfl, rfl⟩) HL_ ?_
  simp only [Act.put, List.getElem_toArray, List.getElem_cons_succ, List.getElem_cons_zero, List.setIfInBounds_toArray, List.set_cons_zero, List.set_cons_succ]
  refine wpAnyH_take (i := 11) (v := undef) rfl (by kernel_rfl) (by kernel_rfl) (by kernel_rfl) (fun _ _ _ h => h) (Or.inr ⟨by kernel_rfl, rfl⟩) HL_ ?_
  simp only [Act.put, List.getElem_toArray, List.getElem_cons_succ, List.getElem_cons_zero, List.setIfInBounds_toArray, List.set_cons_zero, List.set_cons_succ]
  refine wpAnyH_take (i := 12) (v := undef) rfl (by kernel_rfl) (by kernel_rfl) (by kernel_rfl) (fun _ _ _ h => h) (Or.inr ⟨by kernel_rfl, rfl⟩) HL_ ?_
  simp only [Act.put, List.getElem_toArray, List.getElem_cons_succ, List.getElem_cons_zero, List.setIfInBounds_toArray, List.set_cons_zero, List.set_cons_succ]
  refine wpAnyH_take (i := 13) (v := undef) rfl (by kernel_rfl) (by kernel_rfl) (by kernel_rfl) (fun _ _ _ h => h) (Or.inr ⟨by kernel_rfl, rfl⟩) HL_ ?_
  simp only [Act.put, List.getElem_toArray, List.getElem_cons_succ, List.getElem_cons_zero, List.setIfInBounds_toArray, List.set_cons_zero, List.set_cons_succ]
  refine wpAnyH_take (i := 14) (v := undef) rfl (by kernel_rfl) (by kernel_rfl) (by kernel_rfl) (fun _ _ _ h => h) (Or.inr ⟨by kernel_rfl, rfl⟩) HL_ ?_
  simp only [Act.put, List.getElem_toArray, List.getElem_cons_succ, List.getElem_cons_zero, List.setIfInBounds_toArray, List.set_cons_zero, List.set_cons_succ]
  refine wpAnyH_take (i := 15) (v := undef) rfl (by kernel_rfl) (by kernel_rfl) (by kernel_rfl) (fun _ _ _ h => h) (Or.inr ⟨by kernel_rfl, rfl⟩) HL_ ?_
  simp only [Act.put, List.getElem_toArray, List.getElem_cons_succ, List.getElem_cons_zero, List.setIfInBounds_toArray, List.set_cons_zero, List.set_cons_succ]
  refine wpAnyH_take (i := 16) (v := .bool false) rfl (by kernel_rfl) (by kernel_rfl) (by kernel_rfl) (fun _ _ _ h => h) (Or.inl ⟨by kernel_rfl, ?_⟩) HL_ ?_
  · rintro Wl ⟨s0, s1, s2, s3, s4⟩
    go_simp
  simp only [Act.put, List.getElem_toArray, List.getElem_cons_succ, List.getElem_cons_zero, List.setIfInBounds_toArray, List.set_cons_zero, List.set_cons_succ]
  refine wpAnyH_take (i := 17) (v := .bool false) rfl (by kernel_rfl) (by kernel_rfl) (by kernel_rfl) (fun _ _ _ h => h) (Or.inl ⟨by kernel_rfl, ?_⟩) HL_ ?_
  · rintro Wl ⟨s0, s1, s2, s3, s4⟩
    go_simp
  simp only [Act.put, List.getElem_toArray, List.getElem_cons_succ, List.getElem_cons_zero, List.setIfInBounds_toArray, List.set_cons_zero, List.set_cons_succ]
  refine wpAnyH_done (by kernel_rfl) ?_ _
  go_wp2_with fail
  go_ret
  exact ⟨rfl, HB.out⟩
set_option maxRecDepth 100000 in
set_option maxHeartbeats 4000000 in
theorem pv_6 (A : Option Addr) (C : Nat) (xs : List (Int × Int)) (lo hi : Int) (hn : 3 ≤ xs.length) (hn8 : xs.length ≤ 8) (hz : lo < hi) (hr : true = true ↔ (∀ j, j < xs.length → vv (gdS xs j).1 (gdS xs j).2 lo = true ∧ vv (gdS xs j).1 (gdS xs j).2 hi = true)) (hco : ∀ j, j < xs.length → co (px xs j) ∧ co (py xs j)) (hc : true = true ↔ Cvx xs.length (px xs) (py xs)) (r : Bool) (hf : decide ((gdS xs 0).1 = (gdS xs (lea xs xs.length)).1 ∧ (gdS xs 0).2 = (gdS xs (lea xs xs.length)).2) = r) (w : World) (hl : SlS w A xs) :
    Calls Try.prog 33 #[.agg #[.slice A xs.length C, .int .i64 lo, .int .i64 hi]] w fun e_ w' => e_ = .returned (.bool r) ∧ Below w.heap.size w w' := by
  obtain ⟨b0, o0, rfl, z0, z1⟩ := hl 0 (by omega)
  rw [Nat.zero_mul, Nat.add_zero] at z0 z1
  have HX := Lib.hid hl
  clear hl
  have H1 := Lib.hid (fun W h => inrange_is (some ⟨b0, o0, none⟩) C xs lo hi (by omega) true hr W h)
  clear hr
  have H2 := Lib.hid (fun W h => convex_is (some ⟨b0, o0, none⟩) C xs hn hco (by omega) true hc W h)
  clear hc
  have HI : ∀ j, j < xs.length → I64 (gdS xs j).1 ∧ I64 (gdS xs j).2 := fun j hj => by have h := hco j hj; unfold co at h; have e1 : px xs j = (gdS xs j).1 := rfl; have e2 : py xs j = (gdS xs j).2 := rfl; rw [e1, e2] at h; exact ⟨⟨by omega, by omega⟩, by omega, by omega⟩
  have H3 := Lib.hid (fun W h => least_is (some ⟨b0, o0, none⟩) C xs HI (by omega) (by omega) (gdS xs (lea xs xs.length)).1 (gdS xs (lea xs xs.length)).2 rfl W h)
  clear HI hco
  generalize (gdS xs (lea xs xs.length)).1 = u at *
  generalize (gdS xs (lea xs xs.length)).2 = z at *
  have HEQ := Lib.hid (fun W => pt_eq hf W)
  clear hf
  generalize (gdS xs 0).1 = x0 at *
  generalize (gdS xs 0).2 = y0 at *
  have p0 : World.cell? (w.alloc (.cells #[.slice (some ⟨b0, o0, none⟩) xs.length C, .int .i64 lo, .int .i64 hi] 47)) ⟨w.heap.size, 0, none⟩ = some (.slice (some ⟨b0, o0, none⟩) xs.length C) := by simp [go_sem]
  have p1 : World.cell? (w.alloc (.cells #[.slice (some ⟨b0, o0, none⟩) xs.length C, .int .i64 lo, .int .i64 hi] 47)) ⟨w.heap.size, 1, none⟩ = some (.int .i64 lo) := by simp [go_sem]
  have p2 : World.cell? (w.alloc (.cells #[.slice (some ⟨b0, o0, none⟩) xs.length C, .int .i64 lo, .int .i64 hi] 47)) ⟨w.heap.size, 2, none⟩ = some (.int .i64 hi) := by simp [go_sem]
  have lp : w.heap.size < (w.alloc (.cells #[.slice (some ⟨b0, o0, none⟩) xs.length C, .int .i64 lo, .int .i64 hi] 47)).heap.size := by simp <;> omega
  have HB := Lib.hid (show Below w.heap.size w (w.alloc (.cells #[.slice (some ⟨b0, o0, none⟩) xs.length C, .int .i64 lo, .int .i64 hi] 47)) from ((Below.refl _ _).alloc (by simp <;> omega) _))
  go_enter Try.func33, Try.ntmps33
  go_upto_region 1 with fail
  generalize w.alloc (.cells #[.slice (some ⟨b0, o0, none⟩) xs.length C, .int .i64 lo, .int .i64 hi] 47) = w1 at *
  replace z0 := keepc HB.out z0
  replace z1 := keepc HB.out z1
  replace HX := Lib.hid (HX.out.below HB.out)
  have HS_ := Lib.hid (show w1.cell? ⟨w.heap.size, 0, none⟩ = some (.slice (some ⟨b0, o0, none⟩) xs.length C) ∧ w1.cell? ⟨w.heap.size, 1, none⟩ = some (.int .i64 lo) ∧ w1.cell? ⟨w.heap.size, 2, none⟩ = some (.int .i64 hi) ∧ w1.cell? ⟨b0, o0, none⟩ = some (.int .i64 x0) ∧ w1.cell? ⟨b0, o0 + 1, none⟩ = some (.int .i64 y0) from ⟨p0, p1, p2, z0, z1⟩)
  have keep3 : ∀ {U V : World}, Below U.heap.size U V → (U.cell? ⟨w.heap.size, 0, none⟩ = some (.slice (some ⟨b0, o0, none⟩) xs.length C) ∧ U.cell? ⟨w.heap.size, 1, none⟩ = some (.int .i64 lo) ∧ U.cell? ⟨w.heap.size, 2, none⟩ = some (.int .i64 hi) ∧ U.cell? ⟨b0, o0, none⟩ = some (.int .i64 x0) ∧ U.cell? ⟨b0, o0 + 1, none⟩ = some (.int .i64 y0)) → (V.cell? ⟨w.heap.size, 0, none⟩ = some (.slice (some ⟨b0, o0, none⟩) xs.length C) ∧ V.cell? ⟨w.heap.size, 1, none⟩ = some (.int .i64 lo) ∧ V.cell? ⟨w.heap.size, 2, none⟩ = some (.int .i64 hi) ∧ V.cell? ⟨b0, o0, none⟩ = some (.int .i64 x0) ∧ V.cell? ⟨b0, o0 + 1, none⟩ = some (.int .i64 y0)) := fun h k => ⟨keepc h k.1, keepc h k.2.1, keepc h k.2.2.1, keepc h k.2.2.2.1, keepc h k.2.2.2.2⟩
  clear lp
  have z3 : ¬ xs = [] := by intro e; rw [e] at hn; exact absurd hn (by decide)
  go_upto_region 3 with fail
  clear p0 p1 p2 z0 z1
  refine wp_region_held_drew (S := fun V => V.cell? ⟨w.heap.size, 0, none⟩ = some (.slice (some ⟨b0, o0, none⟩) xs.length C) ∧ V.cell? ⟨w.heap.size, 1, none⟩ = some (.int .i64 lo) ∧ V.cell? ⟨w.heap.size, 2, none⟩ = some (.int .i64 hi) ∧ V.cell? ⟨b0, o0, none⟩ = some (.int .i64 x0) ∧ V.cell? ⟨b0, o0 + 1, none⟩ = some (.int .i64 y0)) (by kernel_rfl) HS_.out fun HL_ => ?_
  replace HX := Lib.hid (show SlS w1.drew (some ⟨b0, o0, none⟩) xs from HX.out)
  replace HS_ := Lib.hid (show w1.drew.cell? ⟨w.heap.size, 0, none⟩ = some (.slice (some ⟨b0, o0, none⟩) xs.length C) ∧ w1.drew.cell? ⟨w.heap.size, 1, none⟩ = some (.int .i64 lo) ∧ w1.drew.cell? ⟨w.heap.size, 2, none⟩ = some (.int .i64 hi) ∧ w1.drew.cell? ⟨b0, o0, none⟩ = some (.int .i64 x0) ∧ w1.drew.cell? ⟨b0, o0 + 1, none⟩ = some (.int .i64 y0) from HS_.out)
  refine wpAnyH_take (i := 0) (v := .agg #[.slice (some ⟨b0, o0, none⟩) xs.length C, .int .i64 lo, .int .i64 hi]) rfl (by kernel_rfl) (by kernel_rfl) (by kernel_rfl) (fun _ _ _ h => h) (Or.inl ⟨by kernel_rfl, ?_⟩) HL_ ?_
  · rintro Wl ⟨s0, s1, s2, s3, s4⟩
    go_simp
  simp only [Act.put, List.getElem_toArray, List.getElem_cons_succ, List.getElem_cons_zero, List.setIfInBounds_toArray, List.set_cons_zero, List.set_cons_succ]
  refine wpAnyH_ready (rs := [1]) (by kernel_rfl) (by simp) ?_
  refine AllReadyH.cons (o := _) rfl (fun K hK => ?_) AllReadyH.nil
  go_simp
  with_reducible refine (H1.out _ HX.out).mono ?_
  rintro e_ w2 ⟨rfl, hb⟩
  replace HB := Lib.hid (on_below HB.out (undrew_b hb))
  replace HS_ := Lib.hid (keep3 hb HS_.out)
  replace HX := Lib.hid (HX.out.below hb)
  clear hb
  refine hK.out _ _ HS_.out fun HL_ => ?_
  clear hK K
  refine wpAnyH_take (i := 2) (v := .bool true) rfl (by kernel_rfl) (by kernel_rfl) (by kernel_rfl) (fun _ _ _ h => h) (Or.inl ⟨by kernel_rfl, ?_⟩) HL_ ?_
  · rintro Wl ⟨s0, s1, s2, s3, s4⟩
    go_simp
  simp only [Act.put, List.getElem_toArray, List.getElem_cons_succ, List.getElem_cons_zero, List.setIfInBounds_toArray, List.set_cons_zero, List.set_cons_succ]
  refine wpAnyH_take (i := 3) (v := .pointer (some ⟨w.heap.size, 0, none⟩)) rfl (by kernel_rfl) (by kernel_rfl) (by kernel_rfl) (fun _ _ _ h => h) (Or.inl ⟨by kernel_rfl, ?_⟩) HL_ ?_
  · rintro Wl ⟨s0, s1, s2, s3, s4⟩
    go_simp
  simp only [Act.put, List.getElem_toArray, List.getElem_cons_succ, List.getElem_cons_zero, List.setIfInBounds_toArray, List.set_cons_zero, List.set_cons_succ]
  refine wpAnyH_take (i := 4) (v := .slice (some ⟨b0, o0, none⟩) xs.length C) rfl (by kernel_rfl) (by kernel_rfl) (by kernel_rfl) (fun _ _ _ h => h) (Or.inl ⟨by kernel_rfl, ?_⟩) HL_ ?_
  · rintro Wl ⟨s0, s1, s2, s3, s4⟩
    go_simp
  simp only [Act.put, List.getElem_toArray, List.getElem_cons_succ, List.getElem_cons_zero, List.setIfInBounds_toArray, List.set_cons_zero, List.set_cons_succ]
  refine wpAnyH_ready (rs := [5]) (by kernel_rfl) (by simp) ?_
  refine AllReadyH.cons (o := _) rfl (fun K hK => ?_) AllReadyH.nil
  go_simp
  with_reducible refine (H2.out _ HX.out).mono ?_
  rintro e_ w3 ⟨rfl, hb⟩
  replace HB := Lib.hid (on_below HB.out hb)
  replace HS_ := Lib.hid (keep3 hb HS_.out)
  replace HX := Lib.hid (HX.out.below hb)
  clear hb
  refine hK.out _ _ HS_.out fun HL_ => ?_
  clear hK K
  refine wpAnyH_take (i := 6) (v := .bool true) rfl (by kernel_rfl) (by kernel_rfl) (by kernel_rfl) (fun _ _ _ h => h) (Or.inl ⟨by kernel_rfl, ?_⟩) HL_ ?_
  · rintro Wl ⟨s0, s1, s2, s3, s4⟩
    go_simp
  simp only [Act.put, List.getElem_toArray, List.getElem_cons_succ, List.getElem_cons_zero, List.setIfInBounds_toArray, List.set_cons_zero, List.set_cons_succ]
  refine wpAnyH_take (i := 7) (v := .bool true) rfl (by kernel_rfl) (by kernel_rfl) (by kernel_rfl) (fun _ _ _ h => h) (Or.inl ⟨by kernel_rfl, ?_⟩) HL_ ?_
  · rintro Wl ⟨s0, s1, s2, s3, s4⟩
    go_simp
  simp only [Act.put, List.getElem_toArray, List.getElem_cons_succ, List.getElem_cons_zero, List.setIfInBounds_toArray, List.set_cons_zero, List.set_cons_succ]
  refine wpAnyH_take (i := 8) (v := .pointer (some ⟨w.heap.size, 0, none⟩)) rfl (by kernel_rfl) (by kernel_rfl) (by kernel_rfl) (fun _ _ _ h => h) (Or.inl ⟨by kernel_rfl, ?_⟩) HL_ ?_
  · rintro Wl ⟨s0, s1, s2, s3, s4⟩
    go_simp
  simp only [Act.put, List.getElem_toArray, List.getElem_cons_succ, List.getElem_cons_zero, List.setIfInBounds_toArray, List.set_cons_zero, List.set_cons_succ]
  refine wpAnyH_take (i := 9) (v := .slice (some ⟨b0, o0, none⟩) xs.length C) rfl (by kernel_rfl) (by kernel_rfl) (by kernel_rfl) (fun _ _ _ h => h) (Or.inl ⟨by kernel_rfl, ?_⟩) HL_ ?_
  · rintro Wl ⟨s0, s1, s2, s3, s4⟩
    go_simp
  simp only [Act.put, List.getElem_toArray, List.getElem_cons_succ, List.getElem_cons_zero, List.setIfInBounds_toArray, List.set_cons_zero, List.set_cons_succ]
  refine wpAnyH_take (i := 10) (v := .pointer (some ⟨b0, o0, none⟩)) rfl (by kernel_rfl) (by kernel_rfl) (by kernel_rfl) (fun _ _ _ h => h) (Or.inl ⟨by kernel_rfl, ?_⟩) HL_ ?_
  · rintro Wl ⟨s0, s1, s2, s3, s4⟩
    go_simp
  simp only [Act.put, List.getElem_toArray, List.getElem_cons_succ, List.getElem_cons_zero, List.setIfInBounds_toArray, List.set_cons_zero, List.set_cons_succ]
  refine wpAnyH_take (i := 11) (v := .agg #[.int .i64 x0, .int .i64 y0]) rfl (by kernel_rfl) (by kernel_rfl) (by kernel_rfl) (fun _ _ _ h => h) (Or.inl ⟨by kernel_rfl, ?_⟩) HL_ ?_
  · rintro Wl ⟨s0, s1, s2, s3, s4⟩
    go_simp
  simp only [Act.put, List.getElem_toArray, List.getElem_cons_succ, List.getElem_cons_zero, List.setIfInBounds_toArray, List.set_cons_zero, List.set_cons_succ]
  refine wpAnyH_take (i := 12) (v := .pointer (some ⟨w.heap.size, 0, none⟩)) rfl (by kernel_rfl) (by kernel_rfl) (by kernel_rfl) (fun _ _ _ h => h) (Or.inl ⟨by kernel_rfl, ?_⟩) HL_ ?_
  · rintro Wl ⟨s0, s1, s2, s3, s4⟩
    go_simp
  simp only [Act.put, List.getElem_toArray, List.getElem_cons_succ, List.getElem_cons_zero, List.setIfInBounds_toArray, List.set_cons_zero, List.set_cons_succ]
  refine wpAnyH_take (i := 13) (v := .slice (some ⟨b0, o0, none⟩) xs.length C) rfl (by kernel_rfl) (by kernel_rfl) (by kernel_rfl) (fun _ _ _ h => h) (Or.inl ⟨by kernel_rfl, ?_⟩) HL_ ?_
  · rintro Wl ⟨s0, s1, s2, s3, s4⟩
    go_simp
  simp only [Act.put, List.getElem_toArray, List.getElem_cons_succ, List.getElem_cons_zero, List.setIfInBounds_toArray, List.set_cons_zero, List.set_cons_succ]
  refine wpAnyH_ready (rs := [14]) (by kernel_rfl) (by simp) ?_
  refine AllReadyH.cons (o := _) rfl (fun K hK => ?_) AllReadyH.nil
  go_simp
  with_reducible refine (H3.out _ HX.out).mono ?_
  rintro e_ w4 ⟨rfl, hb⟩
  replace HB := Lib.hid (on_below HB.out hb)
  replace HS_ := Lib.hid (keep3 hb HS_.out)
  replace HX := Lib.hid (HX.out.below hb)
  clear hb
  refine hK.out _ _ HS_.out fun HL_ => ?_
  clear hK K
  have heq := HEQ.out
  refine wpAnyH_take (i := 15) (v := .bool r) rfl (by kernel_rfl) (by kernel_rfl) (by kernel_rfl) (fun _ _ _ h => h) (Or.inl ⟨by kernel_rfl, ?_⟩) HL_ ?_
  · rintro Wl ⟨s0, s1, s2, s3, s4⟩
    go_simp
  simp only [Act.put, List.getElem_toArray, List.getElem_cons_succ, List.getElem_cons_zero, List.setIfInBounds_toArray, List.set_cons_zero, List.set_cons_succ]
  clear heq
  refine wpAnyH_take (i := 16) (v := .bool r) rfl (by kernel_rfl) (by kernel_rfl) (by kernel_rfl) (fun _ _ _ h => h) (Or.inl ⟨by kernel_rfl, ?_⟩) HL_ ?_
  · rintro Wl ⟨s0, s1, s2, s3, s4⟩
    go_simp
  simp only [Act.put, List.getElem_toArray, List.getElem_cons_succ, List.getElem_cons_zero, List.setIfInBounds_toArray, List.set_cons_zero, List.set_cons_succ]
  refine wpAnyH_take (i := 17) (v := .bool r) rfl (by kernel_rfl) (by kernel_rfl) (by kernel_rfl) (fun _ _ _ h => h) (Or.inl ⟨by kernel_rfl, ?_⟩) HL_ ?_
  · rintro Wl ⟨s0, s1, s2, s3, s4⟩
    go_simp
  simp only [Act.put, List.getElem_toArray, List.getElem_cons_succ, List.getElem_cons_zero, List.setIfInBounds_toArray, List.set_cons_zero, List.set_cons_succ]
  refine wpAnyH_done (by kernel_rfl) ?_ _
  go_wp2_with fail
  go_ret
  exact ⟨rfl, HB.out⟩
theorem inrs_iff {xs : List (Int × Int)} {lo hi : Int} (h : 0 < xs.length) : (∀ j, j < xs.length → vv (gdS xs j).1 (gdS xs j).2 lo = true ∧ vv (gdS xs j).1 (gdS xs j).2 hi = true) ↔ (∀ j, j < xs.length → co (px xs j) ∧ co (py xs j)) ∧ co lo ∧ co hi := by
  constructor
  · intro k
    refine ⟨fun j hj => ?_, ?_, ?_⟩
    · have := vv_iff.1 (k j hj).1
      exact ⟨this.x, this.y⟩
    · exact (vv_iff.1 (k 0 h).1).z
    · exact (vv_iff.1 (k 0 h).2).z
  · rintro ⟨a, b, c⟩ j hj
    exact ⟨vv_iff.2 ⟨(a j hj).1, (a j hj).2, b⟩, vv_iff.2 ⟨(a j hj).1, (a j hj).2, c⟩⟩
theorem pvalid_is (A : Option Addr) (C : Nat) (xs : List (Int × Int)) (lo hi : Int) (hlen : xs.length ≤ 9223372036854775806) (r : Bool) (hr : r = true ↔ Bok xs lo hi) (w : World) (hl : SlS w A xs) :
    Calls Try.prog 33 #[.agg #[.slice A xs.length C, .int .i64 lo, .int .i64 hi]] w fun e_ w' => e_ = .returned (.bool r) ∧ Below w.heap.size w w' := by
  by_cases h1 : xs.length < 3
  · obtain rfl := false_of (r := r) (fun e => by have := (hr.1 e).n3; omega)
    exact pv_1 A C xs lo hi hlen h1 w hl
  by_cases h2 : 8 < xs.length
  · obtain rfl := false_of (r := r) (fun e => by have := (hr.1 e).n8; omega)
    exact pv_2 A C xs lo hi hlen h2 w hl
  by_cases h3 : hi ≤ lo
  · obtain rfl := false_of (r := r) (fun e => by have := (hr.1 e).lt; omega)
    exact pv_3 A C xs lo hi (by omega) (by omega) h3 w hl
  by_cases h4 : (∀ j, j < xs.length → vv (gdS xs j).1 (gdS xs j).2 lo = true ∧ vv (gdS xs j).1 (gdS xs j).2 hi = true)
  · have h5 := (inrs_iff (by omega)).1 h4
    by_cases h6 : Cvx xs.length (px xs) (py xs)
    · refine pv_6 A C xs lo hi (by omega) (by omega) (by omega) ⟨fun _ => h4, fun _ => rfl⟩ h5.1 ⟨fun _ => h6, fun _ => rfl⟩ r ?_ w hl
      rw [Bool.eq_iff_iff, decide_eq_true_iff, first_iff (by omega) h6, hr]
      constructor
      · intro k
        exact ⟨by omega, by omega, fun i hi => (h5.1 i hi).1, fun i hi => (h5.1 i hi).2, h5.2.1, h5.2.2, by omega, k, h6⟩
      · intro b; exact b.first
    · obtain rfl := false_of (r := r) (fun e => h6 (hr.1 e).cvx)
      exact pv_5 A C xs lo hi (by omega) (by omega) (by omega) ⟨fun _ => h4, fun _ => rfl⟩ h5.1 ⟨(fun h => by cases h), fun h => absurd h h6⟩ w hl
  · obtain rfl := false_of (r := r) (fun e => h4 ((inrs_iff (by omega)).2 ⟨fun j hj => ⟨(hr.1 e).rx j hj, (hr.1 e).ry j hj⟩, (hr.1 e).zl, (hr.1 e).zh⟩))
    exact pv_4 A C xs lo hi (by omega) (by omega) (by omega) ⟨(fun h => by cases h), fun h => absurd h h4⟩ w hl
end Go.Proofs.Ytgikpcoaennkgaa
