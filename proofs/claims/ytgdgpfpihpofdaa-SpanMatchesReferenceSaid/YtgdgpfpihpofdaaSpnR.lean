/-
  Package span: combine of any lists; Union, Common, Minus.
-/
import Derived.Test.YtgdgpfpihpofdaaSpnQ
namespace Go.Proofs.Ytgdgpfpihpofdaa
open Go.RowKit Go.Sort Go.Shelf
open Go.RowKit (Below)
set_option linter.unusedVariables false
attribute [local go_sem] Oper.semAt_some

set_option maxRecDepth 100000 in
set_option maxHeartbeats 1000000 in
theorem combine_bad (g : Nat) (A B : Option Addr) (C D : Nat) (xs ys : List Spn) (w : World) (hl : xs.length ≤ 9223372036854775807) (hl2 : ys.length ≤ 9223372036854775807) (hx : SlS w A xs) (hy : SlS w B ys) (hv : (vldS xs && vldS ys) = false) :
    Calls Try.prog 30 #[.slice A xs.length C, .slice B ys.length D, .func (.func g) #[] #[]] w fun e w' => e = .returned (.tuple #[.slice none 0 0, .int .i64 1]) ∧ Below w.heap.size w w' := by
  have HX := Lib.hid hx
  have HY := Lib.hid hy
  have hb1 : Below w.heap.size w (w.alloc (.cells #[.func (.func g) #[] #[]] 42)) := (Below.refl _ _).alloc (Nat.le_refl _) _
  have HB := Lib.hid hb1
  have HV := Lib.hid hv
  clear hx hy hb1 hv
  refine (callsIn_wide (n := 8)).1 ?_
  refine callsIn_of_wp_marks Try.func30 rfl trivial ?_ rfl
  simp only [Try.ntmps30, List.size_toArray, List.length_cons, List.length_nil, Nat.reduceAdd, Nat.reduceSub, Array.replicate_succ, Array.replicate_zero, List.push_toArray, List.append_toArray, List.nil_append, List.cons_append]
  gi_wp2_with fail
  generalize hw1 : w.alloc (.cells #[.func (.func g) #[] #[]] 42) = w1 at *
  clear hw1
  cases h1 : vldS xs with
  | false =>
    have H1 := Lib.hid h1
    clear h1
    refine ⟨trivial, (callsIn_wide.2 (valid_b A C xs false H1.out w1 hl (HX.out.below HB.out))).mono ?_⟩
    rintro e w2 ⟨rfl, hb⟩
    have HB2 := Lib.hid (on_below HB.out hb)
    clear hb
    gi_wp2_with fail
    refine ⟨trivial, ?_⟩
    gi_wp2
    exact ⟨_, results_tmp2 rfl _ _ _, rfl, HB2.out⟩
  | true =>
    have H1 := Lib.hid h1
    have H2 := Lib.hid (show vldS ys = false by have := HV.out; rw [h1, Bool.true_and] at this; exact this)
    clear h1
    refine ⟨trivial, (callsIn_wide.2 (valid_b A C xs true H1.out w1 hl (HX.out.below HB.out))).mono ?_⟩
    rintro e w2 ⟨rfl, hb⟩
    have HB2 := Lib.hid (on_below HB.out hb)
    clear hb
    gi_wp2_with fail
    refine ⟨trivial, (callsIn_wide.2 (valid_b B D ys false H2.out w2 hl2 (HY.out.below HB2.out))).mono ?_⟩
    rintro e w3 ⟨rfl, hb⟩
    have HB3 := Lib.hid (on_below HB2.out hb)
    clear hb
    gi_wp2
    exact ⟨_, results_tmp2 rfl _ _ _, rfl, HB3.out⟩

theorem union_ok (A B : Option Addr) (C D : Nat) (xs ys : List Spn) (w : World) (hx : Ls w A C xs) (hy : Ls w B D ys) (vx : vldS xs = true) (vy : vldS ys = true) :
    Calls Try.prog 14 #[.slice A xs.length C, .slice B ys.length D] w (CmbE (cmb opO xs ys) w) := by
  have HC := Lib.hid (combine_ok opO rfl 31 (fun args w => by simp [go_sem]) or_true' A B C D xs ys w hx hy vx vy)
  clear hx hy vx vy
  go_enter Try.func14, Try.ntmps14
  go_wp2_with fail
  refine HC.out.mono ?_
  rintro e w' (⟨hl, A', C', rfl, hls, hb⟩ | ⟨hl, rfl, hb⟩)
  · have H1 := Lib.hid hls
    have H2 := Lib.hid hb
    have H3 := Lib.hid hl
    clear hls hb hl HC
    go_wp2
    go_ret2
    exact .inl ⟨H3.out, A', C', rfl, H1.out, H2.out⟩
  · have H2 := Lib.hid hb
    have H3 := Lib.hid hl
    clear hb hl HC
    go_wp2
    go_ret2
    exact .inr ⟨H3.out, rfl, H2.out⟩
theorem union_bad (A B : Option Addr) (C D : Nat) (xs ys : List Spn) (w : World) (hl : xs.length ≤ 9223372036854775807) (hl2 : ys.length ≤ 9223372036854775807) (hx : SlS w A xs) (hy : SlS w B ys) (hv : (vldS xs && vldS ys) = false) :
    Calls Try.prog 14 #[.slice A xs.length C, .slice B ys.length D] w fun e w' => e = .returned (.tuple #[.slice none 0 0, .int .i64 1]) ∧ Below w.heap.size w w' := by
  have HC := Lib.hid (combine_bad 31 A B C D xs ys w hl hl2 hx hy hv)
  clear hx hy hv
  go_enter Try.func14, Try.ntmps14
  go_wp2_with fail
  refine HC.out.mono ?_
  rintro e w' ⟨rfl, hb⟩
  have H2 := Lib.hid hb
  clear hb HC
  go_wp2
  go_ret2
  exact ⟨rfl, H2.out⟩

theorem common_ok (A B : Option Addr) (C D : Nat) (xs ys : List Spn) (w : World) (hx : Ls w A C xs) (hy : Ls w B D ys) (vx : vldS xs = true) (vy : vldS ys = true) :
    Calls Try.prog 17 #[.slice A xs.length C, .slice B ys.length D] w (CmbE (cmb opA xs ys) w) := by
  have HC := Lib.hid (combine_ok opA rfl 33 (fun args w => by simp [go_sem]) and_true' A B C D xs ys w hx hy vx vy)
  clear hx hy vx vy
  go_enter Try.func17, Try.ntmps17
  go_wp2_with fail
  refine HC.out.mono ?_
  rintro e w' (⟨hl, A', C', rfl, hls, hb⟩ | ⟨hl, rfl, hb⟩)
  · have H1 := Lib.hid hls
    have H2 := Lib.hid hb
    have H3 := Lib.hid hl
    clear hls hb hl HC
    go_wp2
    go_ret2
    exact .inl ⟨H3.out, A', C', rfl, H1.out, H2.out⟩
  · have H2 := Lib.hid hb
    have H3 := Lib.hid hl
    clear hb hl HC
    go_wp2
    go_ret2
    exact .inr ⟨H3.out, rfl, H2.out⟩
theorem common_bad (A B : Option Addr) (C D : Nat) (xs ys : List Spn) (w : World) (hl : xs.length ≤ 9223372036854775807) (hl2 : ys.length ≤ 9223372036854775807) (hx : SlS w A xs) (hy : SlS w B ys) (hv : (vldS xs && vldS ys) = false) :
    Calls Try.prog 17 #[.slice A xs.length C, .slice B ys.length D] w fun e w' => e = .returned (.tuple #[.slice none 0 0, .int .i64 1]) ∧ Below w.heap.size w w' := by
  have HC := Lib.hid (combine_bad 33 A B C D xs ys w hl hl2 hx hy hv)
  clear hx hy hv
  go_enter Try.func17, Try.ntmps17
  go_wp2_with fail
  refine HC.out.mono ?_
  rintro e w' ⟨rfl, hb⟩
  have H2 := Lib.hid hb
  clear hb HC
  go_wp2
  go_ret2
  exact ⟨rfl, H2.out⟩

theorem minus_ok (A B : Option Addr) (C D : Nat) (xs ys : List Spn) (w : World) (hx : Ls w A C xs) (hy : Ls w B D ys) (vx : vldS xs = true) (vy : vldS ys = true) :
    Calls Try.prog 19 #[.slice A xs.length C, .slice B ys.length D] w (CmbE (cmb opD xs ys) w) := by
  have HC := Lib.hid (combine_ok opD rfl 34 (fun args w => by simp [go_sem]) minus_true' A B C D xs ys w hx hy vx vy)
  clear hx hy vx vy
  go_enter Try.func19, Try.ntmps19
  go_wp2_with fail
  refine HC.out.mono ?_
  rintro e w' (⟨hl, A', C', rfl, hls, hb⟩ | ⟨hl, rfl, hb⟩)
  · have H1 := Lib.hid hls
    have H2 := Lib.hid hb
    have H3 := Lib.hid hl
    clear hls hb hl HC
    go_wp2
    go_ret2
    exact .inl ⟨H3.out, A', C', rfl, H1.out, H2.out⟩
  · have H2 := Lib.hid hb
    have H3 := Lib.hid hl
    clear hb hl HC
    go_wp2
    go_ret2
    exact .inr ⟨H3.out, rfl, H2.out⟩
theorem minus_bad (A B : Option Addr) (C D : Nat) (xs ys : List Spn) (w : World) (hl : xs.length ≤ 9223372036854775807) (hl2 : ys.length ≤ 9223372036854775807) (hx : SlS w A xs) (hy : SlS w B ys) (hv : (vldS xs && vldS ys) = false) :
    Calls Try.prog 19 #[.slice A xs.length C, .slice B ys.length D] w fun e w' => e = .returned (.tuple #[.slice none 0 0, .int .i64 1]) ∧ Below w.heap.size w w' := by
  have HC := Lib.hid (combine_bad 34 A B C D xs ys w hl hl2 hx hy hv)
  clear hx hy hv
  go_enter Try.func19, Try.ntmps19
  go_wp2_with fail
  refine HC.out.mono ?_
  rintro e w' ⟨rfl, hb⟩
  have H2 := Lib.hid hb
  clear hb HC
  go_wp2
  go_ret2
  exact ⟨rfl, H2.out⟩
end Go.Proofs.Ytgdgpfpihpofdaa
