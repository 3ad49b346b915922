/-
  sort.Search at any closure; package sun: directionAt, At. slices.ContainsFunc at bodies by a bound method. slices.ContainsFunc at vectors, and at bodies by a bound method; package sun: directionFor, wayFrom, isBlockedBy, isShaded, isShare.
-/
import Derived.Test.YtgjcmolocoijiaaYSunZA
import Derived.Deep.QuietTactic
import Derived.BigQuiet
import Derived.BigRegion
import Derived.Test.YtgjcmolocoijiaaYSgtZA
import Derived.Test.YtgjcmolocoijiaaYSgtZB
namespace Go.Proofs.Ytgjcmolocoijiaa
open Go.RowKit Go.Sort
open Go.RowKit (Below)
set_option linter.unusedVariables false
set_option linter.unusedSimpArgs false
attribute [local go_sem] Oper.semAt_some

set_option maxRecDepth 100000 in
set_option maxHeartbeats 2000000 in
/-- A binary search: c places are false, the others true. -/
theorem search_is (K : Nat) (cb : Array Value) (eg : ∀ args w, (callFunc K args).run Try.prog w = .ok (.enter K args) w) (n : Nat) (hn : n ≤ 1000000) (p : Nat → Bool) (c : Nat) (hc : c ≤ n) (h1 : ∀ j, j < c → p j = false) (h2 : ∀ j, c ≤ j → j < n → p j = true) (s : Int) (hs : (c : Int) = s) (w : World)
    (hf : ∀ i, i < n → ∀ W, Below w.heap.size w W → Calls Try.prog K (#[.int .i64 i] ++ cb) W fun e w' => e = .returned (.bool (p i)) ∧ Below W.heap.size W w') :
    Calls Try.prog 159 #[.int .i64 n, .func (.func K) #[] cb] w fun e_ w' => e_ = .returned (.int .i64 s) ∧ Below w.heap.size w w' := by
  have HF := Lib.hid hf
  have H1 := Lib.hid h1
  have H2 := Lib.hid h2
  have HS := Lib.hid hs
  clear hf h1 h2 hs
  go_enter Try.func159, Try.ntmps159
  go_wp2_with fail
  go_loopw [5, 6] (fun a b wr => ∃ lo hi : Nat, a = .int .i64 lo ∧ b = .int .i64 hi ∧ lo ≤ c ∧ c ≤ hi ∧ hi ≤ n ∧ Below w.heap.size w wr) (fun a b _ => (intOf b - intOf a).toNat)
  case atStart => exact ⟨0, n, rfl, rfl, Nat.zero_le _, hc, Nat.le_refl _, Below.refl _ _⟩
  case round =>
    obtain ⟨lo, hi, rfl, rfl, l1, l2, l3, hW⟩ := hrel
    have HB := Lib.hid hW
    by_cases hlt : lo < hi
    · have hc := HF.out ((lo + hi) / 2) (by omega) wr hW
      clear hW
      rw [show (((lo + hi) / 2 : Nat) : Int) = ((lo : Int) + (hi : Int)) / 2 by omega] at hc
      cases hp : p ((lo + hi) / 2) <;> rw [hp] at hc
      · have hm : (lo + hi) / 2 < c := by
          refine Nat.lt_of_not_le fun h => ?_
          have := H2.out _ h (by omega)
          rw [hp] at this; cases this
        clear hp
        go_wp2_with (go_at_fn K; refine hc.mono ?_; rintro e w' ⟨rfl, hb⟩)
        go_roundw
        case measure => simp [intOf]; omega
        case rel => exact ⟨(lo + hi) / 2 + 1, hi, int_of (by omega), rfl, by omega, l2, l3, on_below HB.out hb⟩
      · have hm : c ≤ (lo + hi) / 2 := by
          refine Nat.le_of_not_lt fun h => ?_
          have := H1.out _ h
          rw [hp] at this; cases this
        clear hp
        go_wp2_with (go_at_fn K; refine hc.mono ?_; rintro e w' ⟨rfl, hb⟩)
        go_roundw
        case measure => simp [intOf]; omega
        case rel => exact ⟨lo, (lo + hi) / 2, rfl, int_of (by omega), l1, hm, by omega, on_below HB.out hb⟩
    · have e : (lo : Int) = s := by have := HS.out; omega
      go_wp2_with fail
      go_ret
      exact ⟨by rw [e]; rfl, hW⟩
theorem later_enter (args : Array Value) (W : World) : (callFunc 158 args).run Try.prog W = .ok (.enter 158 args) W := by simp [go_sem]
set_option maxRecDepth 100000 in
set_option maxHeartbeats 2000000 in
theorem later_is (g g2 : Nat) (A : Option Addr) (C : Nat) (T : List Q4) (m : Int) (k : Nat) (hk : k < T.length) (r : Bool) (hr : decide (m < (gd4 T k).a) = r) (w : World) (hl : S4 w A T) (g0 : w.cell? ⟨g, 0, none⟩ = some (.slice A T.length C)) (m0 : w.cell? ⟨g2, 0, none⟩ = some (.int .i64 m)) :
    Calls Try.prog 158 #[.int .i64 k, .pointer (some ⟨g, 0, none⟩), .pointer (some ⟨g2, 0, none⟩)] w fun e_ w' => e_ = .returned (.bool r) ∧ Below w.heap.size w w' := by
  obtain ⟨b0, o0, rfl, e0, _, _, _⟩ := hl k hk
  have HR := Lib.hid hr
  have hk1 : (k : Int) < T.length := by omega
  generalize (gd4 T k).a = a at *
  clear hr hl
  go_enter Try.func158, Try.ntmps158
  go_wp2_with fail
  go_quiet (fail)
  go_wp2_with fail
  go_ret
  exact ⟨by rw [← HR.out]; rfl, below_drewN' (Below.refl _ _) _⟩
set_option maxRecDepth 100000 in
set_option maxHeartbeats 2000000 in
theorem dat_0 (A : Option Addr) (C : Nat) (T : List Q4) (m : Int) (h1 : T.length ≤ 100) (i : Nat) (hi : i + 1 = T.length) (hp : ∀ j, j < T.length → m < (gd4 T j).a) (x y z : Int) (hx : (gd4 T i).b = x) (hy : (gd4 T i).c = y) (hz : (gd4 T i).d = z) (w : World) (hl : S4 w A T) :
    Calls Try.prog 94 #[.slice A T.length C, .int .i64 m] w fun e_ w' => e_ = .returned (.agg #[.int .i64 x, .int .i64 y, .int .i64 z]) ∧ Below w.heap.size w w' := by
  have CS := Lib.hid (fun W (h : S4 W A T) (g g2 : Nat) (g0 : W.cell? ⟨g, 0, none⟩ = some (.slice A T.length C)) (m0 : W.cell? ⟨g2, 0, none⟩ = some (.int .i64 m)) => search_is 158 #[.pointer (some ⟨g, 0, none⟩), .pointer (some ⟨g2, 0, none⟩)] later_enter T.length (by omega) (fun k => decide (m < (gd4 T k).a)) (0) (by omega) (fun j hj => absurd hj (Nat.not_lt_zero j)) (fun j _ hj => decide_eq_true (hp j hj)) (0) (by simp) W (fun k hk W1 hb => later_is g g2 A C T m k hk _ rfl W1 (h.below hb) (keepc hb g0) (keepc hb m0)))
  obtain ⟨b0, o0, rfl, e0, e1, e2, e3⟩ := hl i (by omega)
  rw [hx] at e1
  rw [hy] at e2
  rw [hz] at e3
  have li : (i : Int) < T.length := by omega
  have l2 : (i : Int) ≤ 100 := by omega
  have l3 : (T.length : Int) ≤ 100 := by omega
  have l4 : (T.length : Int) - 1 = (i : Int) := by omega
  clear hx hy hz hp e0
  have HL := Lib.hid hl
  clear hl
  have l0 : World.cell? (((w.alloc (.cells #[.slice (some ⟨b0, o0, none⟩) T.length C] 78)).alloc (.cells #[.int .i64 m] 3)).alloc (.cells #[.int .i64 0, .int .i64 0, .int .i64 0] 27)) ⟨w.heap.size, 0, none⟩ = some (.slice (some ⟨b0, o0, none⟩) T.length C) := by simp [go_sem]
  have ll : w.heap.size < (((w.alloc (.cells #[.slice (some ⟨b0, o0, none⟩) T.length C] 78)).alloc (.cells #[.int .i64 m] 3)).alloc (.cells #[.int .i64 0, .int .i64 0, .int .i64 0] 27)).heap.size := by simp <;> omega
  have m0 : World.cell? (((w.alloc (.cells #[.slice (some ⟨b0, o0, none⟩) T.length C] 78)).alloc (.cells #[.int .i64 m] 3)).alloc (.cells #[.int .i64 0, .int .i64 0, .int .i64 0] 27)) ⟨w.heap.size + 1, 0, none⟩ = some (.int .i64 m) := by simp [go_sem]
  have lm : w.heap.size + 1 < (((w.alloc (.cells #[.slice (some ⟨b0, o0, none⟩) T.length C] 78)).alloc (.cells #[.int .i64 m] 3)).alloc (.cells #[.int .i64 0, .int .i64 0, .int .i64 0] 27)).heap.size := by simp <;> omega
  have r0 : World.cell? (((w.alloc (.cells #[.slice (some ⟨b0, o0, none⟩) T.length C] 78)).alloc (.cells #[.int .i64 m] 3)).alloc (.cells #[.int .i64 0, .int .i64 0, .int .i64 0] 27)) ⟨w.heap.size + 1 + 1, 0, none⟩ = some (.int .i64 0) := by simp [go_sem]
  have fr0 : World.frozen? (((w.alloc (.cells #[.slice (some ⟨b0, o0, none⟩) T.length C] 78)).alloc (.cells #[.int .i64 m] 3)).alloc (.cells #[.int .i64 0, .int .i64 0, .int .i64 0] 27)) ⟨w.heap.size + 1 + 1, 0, none⟩ = false := by simp [go_sem]
  have r1 : World.cell? (((w.alloc (.cells #[.slice (some ⟨b0, o0, none⟩) T.length C] 78)).alloc (.cells #[.int .i64 m] 3)).alloc (.cells #[.int .i64 0, .int .i64 0, .int .i64 0] 27)) ⟨w.heap.size + 1 + 1, 1, none⟩ = some (.int .i64 0) := by simp [go_sem]
  have fr1 : World.frozen? (((w.alloc (.cells #[.slice (some ⟨b0, o0, none⟩) T.length C] 78)).alloc (.cells #[.int .i64 m] 3)).alloc (.cells #[.int .i64 0, .int .i64 0, .int .i64 0] 27)) ⟨w.heap.size + 1 + 1, 1, none⟩ = false := by simp [go_sem]
  have r2 : World.cell? (((w.alloc (.cells #[.slice (some ⟨b0, o0, none⟩) T.length C] 78)).alloc (.cells #[.int .i64 m] 3)).alloc (.cells #[.int .i64 0, .int .i64 0, .int .i64 0] 27)) ⟨w.heap.size + 1 + 1, 2, none⟩ = some (.int .i64 0) := by simp [go_sem]
  have fr2 : World.frozen? (((w.alloc (.cells #[.slice (some ⟨b0, o0, none⟩) T.length C] 78)).alloc (.cells #[.int .i64 m] 3)).alloc (.cells #[.int .i64 0, .int .i64 0, .int .i64 0] 27)) ⟨w.heap.size + 1 + 1, 2, none⟩ = false := by simp [go_sem]
  have lr : w.heap.size + 1 + 1 < (((w.alloc (.cells #[.slice (some ⟨b0, o0, none⟩) T.length C] 78)).alloc (.cells #[.int .i64 m] 3)).alloc (.cells #[.int .i64 0, .int .i64 0, .int .i64 0] 27)).heap.size := by simp <;> omega
  have HB := Lib.hid (show Below w.heap.size w (((w.alloc (.cells #[.slice (some ⟨b0, o0, none⟩) T.length C] 78)).alloc (.cells #[.int .i64 m] 3)).alloc (.cells #[.int .i64 0, .int .i64 0, .int .i64 0] 27)) from ((((Below.refl _ _).alloc (by simp <;> omega) _).alloc (by simp <;> omega) _).alloc (by simp <;> omega) _))
  go_enter Try.func94, Try.ntmps94
  go_upto_region 1 with fail
  generalize ((w.alloc (.cells #[.slice (some ⟨b0, o0, none⟩) T.length C] 78)).alloc (.cells #[.int .i64 m] 3)).alloc (.cells #[.int .i64 0, .int .i64 0, .int .i64 0] 27) = w1 at *
  replace HL := Lib.hid (HL.out.below HB.out)
  replace e1 := keepc HB.out e1
  replace e2 := keepc HB.out e2
  replace e3 := keepc HB.out e3
  go_wp2_with fail
  with_reducible refine (CS.out _ HL.out _ _ l0 m0).mono ?_
  rintro e_ w2 ⟨rfl, hb⟩
  replace HB := Lib.hid (on_below HB.out hb)
  replace HL := Lib.hid (HL.out.below hb)
  replace l0 := keepc hb l0
  replace m0 := keepc hb m0
  replace r0 := keepc hb r0
  replace r1 := keepc hb r1
  replace r2 := keepc hb r2
  replace e1 := keepc hb e1
  replace e2 := keepc hb e2
  replace e3 := keepc hb e3
  replace fr0 := keepf hb lr fr0
  replace fr1 := keepf hb lr fr1
  replace fr2 := keepf hb lr fr2
  replace ll := Nat.lt_of_lt_of_le ll hb.size
  replace lm := Nat.lt_of_lt_of_le lm hb.size
  replace lr := Nat.lt_of_lt_of_le lr hb.size
  clear hb
  go_wp2_with fail
  refine bodyPost_ret (v := .agg #[.int .i64 x, .int .i64 y, .int .i64 z]) (by simp [results, Try.results94, go_sem, e1, e2, e3, r0, r1, r2]) rfl ⟨rfl, ?_⟩
  repeat (first | (with_reducible exact HB.out) | (refine Below.setCell ?_ (by first | exact Nat.le_refl _ | (simp; done) | (simp; omega) | omega) _) | (refine Below.alloc ?_ (by first | exact Nat.le_refl _ | (simp; done) | (simp; omega) | omega) _) | (refine Below.drew ?_) | (refine below_drewN' ?_ _))
set_option maxRecDepth 100000 in
set_option maxHeartbeats 2000000 in
theorem dat_1 (A : Option Addr) (C : Nat) (T : List Q4) (m : Int) (h1 : T.length ≤ 100) (i : Nat) (hi : i < T.length) (hp : ∀ j, j < i + 1 → (gd4 T j).a ≤ m) (hq : ∀ j, i + 1 ≤ j → j < T.length → m < (gd4 T j).a) (x y z : Int) (hx : (gd4 T i).b = x) (hy : (gd4 T i).c = y) (hz : (gd4 T i).d = z) (w : World) (hl : S4 w A T) :
    Calls Try.prog 94 #[.slice A T.length C, .int .i64 m] w fun e_ w' => e_ = .returned (.agg #[.int .i64 x, .int .i64 y, .int .i64 z]) ∧ Below w.heap.size w w' := by
  have CS := Lib.hid (fun W (h : S4 W A T) (g g2 : Nat) (g0 : W.cell? ⟨g, 0, none⟩ = some (.slice A T.length C)) (m0 : W.cell? ⟨g2, 0, none⟩ = some (.int .i64 m)) => search_is 158 #[.pointer (some ⟨g, 0, none⟩), .pointer (some ⟨g2, 0, none⟩)] later_enter T.length (by omega) (fun k => decide (m < (gd4 T k).a)) (i + 1) (by omega) (fun j hj => decide_eq_false (by have := hp j hj; omega)) (fun j h1 h2 => decide_eq_true (hq j h1 h2)) ((i : Int) + 1) (by simp) W (fun k hk W1 hb => later_is g g2 A C T m k hk _ rfl W1 (h.below hb) (keepc hb g0) (keepc hb m0)))
  obtain ⟨b0, o0, rfl, e0, e1, e2, e3⟩ := hl i (by omega)
  rw [hx] at e1
  rw [hy] at e2
  rw [hz] at e3
  have li : (i : Int) < T.length := by omega
  have l2 : (i : Int) ≤ 100 := by omega
  have l3 : (T.length : Int) ≤ 100 := by omega
  clear hx hy hz hp e0 hq
  have HL := Lib.hid hl
  clear hl
  have l0 : World.cell? (((w.alloc (.cells #[.slice (some ⟨b0, o0, none⟩) T.length C] 78)).alloc (.cells #[.int .i64 m] 3)).alloc (.cells #[.int .i64 0, .int .i64 0, .int .i64 0] 27)) ⟨w.heap.size, 0, none⟩ = some (.slice (some ⟨b0, o0, none⟩) T.length C) := by simp [go_sem]
  have ll : w.heap.size < (((w.alloc (.cells #[.slice (some ⟨b0, o0, none⟩) T.length C] 78)).alloc (.cells #[.int .i64 m] 3)).alloc (.cells #[.int .i64 0, .int .i64 0, .int .i64 0] 27)).heap.size := by simp <;> omega
  have m0 : World.cell? (((w.alloc (.cells #[.slice (some ⟨b0, o0, none⟩) T.length C] 78)).alloc (.cells #[.int .i64 m] 3)).alloc (.cells #[.int .i64 0, .int .i64 0, .int .i64 0] 27)) ⟨w.heap.size + 1, 0, none⟩ = some (.int .i64 m) := by simp [go_sem]
  have lm : w.heap.size + 1 < (((w.alloc (.cells #[.slice (some ⟨b0, o0, none⟩) T.length C] 78)).alloc (.cells #[.int .i64 m] 3)).alloc (.cells #[.int .i64 0, .int .i64 0, .int .i64 0] 27)).heap.size := by simp <;> omega
  have r0 : World.cell? (((w.alloc (.cells #[.slice (some ⟨b0, o0, none⟩) T.length C] 78)).alloc (.cells #[.int .i64 m] 3)).alloc (.cells #[.int .i64 0, .int .i64 0, .int .i64 0] 27)) ⟨w.heap.size + 1 + 1, 0, none⟩ = some (.int .i64 0) := by simp [go_sem]
  have fr0 : World.frozen? (((w.alloc (.cells #[.slice (some ⟨b0, o0, none⟩) T.length C] 78)).alloc (.cells #[.int .i64 m] 3)).alloc (.cells #[.int .i64 0, .int .i64 0, .int .i64 0] 27)) ⟨w.heap.size + 1 + 1, 0, none⟩ = false := by simp [go_sem]
  have r1 : World.cell? (((w.alloc (.cells #[.slice (some ⟨b0, o0, none⟩) T.length C] 78)).alloc (.cells #[.int .i64 m] 3)).alloc (.cells #[.int .i64 0, .int .i64 0, .int .i64 0] 27)) ⟨w.heap.size + 1 + 1, 1, none⟩ = some (.int .i64 0) := by simp [go_sem]
  have fr1 : World.frozen? (((w.alloc (.cells #[.slice (some ⟨b0, o0, none⟩) T.length C] 78)).alloc (.cells #[.int .i64 m] 3)).alloc (.cells #[.int .i64 0, .int .i64 0, .int .i64 0] 27)) ⟨w.heap.size + 1 + 1, 1, none⟩ = false := by simp [go_sem]
  have r2 : World.cell? (((w.alloc (.cells #[.slice (some ⟨b0, o0, none⟩) T.length C] 78)).alloc (.cells #[.int .i64 m] 3)).alloc (.cells #[.int .i64 0, .int .i64 0, .int .i64 0] 27)) ⟨w.heap.size + 1 + 1, 2, none⟩ = some (.int .i64 0) := by simp [go_sem]
  have fr2 : World.frozen? (((w.alloc (.cells #[.slice (some ⟨b0, o0, none⟩) T.length C] 78)).alloc (.cells #[.int .i64 m] 3)).alloc (.cells #[.int .i64 0, .int .i64 0, .int .i64 0] 27)) ⟨w.heap.size + 1 + 1, 2, none⟩ = false := by simp [go_sem]
  have lr : w.heap.size + 1 + 1 < (((w.alloc (.cells #[.slice (some ⟨b0, o0, none⟩) T.length C] 78)).alloc (.cells #[.int .i64 m] 3)).alloc (.cells #[.int .i64 0, .int .i64 0, .int .i64 0] 27)).heap.size := by simp <;> omega
  have HB := Lib.hid (show Below w.heap.size w (((w.alloc (.cells #[.slice (some ⟨b0, o0, none⟩) T.length C] 78)).alloc (.cells #[.int .i64 m] 3)).alloc (.cells #[.int .i64 0, .int .i64 0, .int .i64 0] 27)) from ((((Below.refl _ _).alloc (by simp <;> omega) _).alloc (by simp <;> omega) _).alloc (by simp <;> omega) _))
  go_enter Try.func94, Try.ntmps94
  go_upto_region 1 with fail
  generalize ((w.alloc (.cells #[.slice (some ⟨b0, o0, none⟩) T.length C] 78)).alloc (.cells #[.int .i64 m] 3)).alloc (.cells #[.int .i64 0, .int .i64 0, .int .i64 0] 27) = w1 at *
  replace HL := Lib.hid (HL.out.below HB.out)
  replace e1 := keepc HB.out e1
  replace e2 := keepc HB.out e2
  replace e3 := keepc HB.out e3
  go_wp2_with fail
  with_reducible refine (CS.out _ HL.out _ _ l0 m0).mono ?_
  rintro e_ w2 ⟨rfl, hb⟩
  replace HB := Lib.hid (on_below HB.out hb)
  replace HL := Lib.hid (HL.out.below hb)
  replace l0 := keepc hb l0
  replace m0 := keepc hb m0
  replace r0 := keepc hb r0
  replace r1 := keepc hb r1
  replace r2 := keepc hb r2
  replace e1 := keepc hb e1
  replace e2 := keepc hb e2
  replace e3 := keepc hb e3
  replace fr0 := keepf hb lr fr0
  replace fr1 := keepf hb lr fr1
  replace fr2 := keepf hb lr fr2
  replace ll := Nat.lt_of_lt_of_le ll hb.size
  replace lm := Nat.lt_of_lt_of_le lm hb.size
  replace lr := Nat.lt_of_lt_of_le lr hb.size
  clear hb
  go_wp2_with fail
  refine bodyPost_ret (v := .agg #[.int .i64 x, .int .i64 y, .int .i64 z]) (by simp [results, Try.results94, go_sem, e1, e2, e3, r0, r1, r2]) rfl ⟨rfl, ?_⟩
  repeat (first | (with_reducible exact HB.out) | (refine Below.setCell ?_ (by first | exact Nat.le_refl _ | (simp; done) | (simp; omega) | omega) _) | (refine Below.alloc ?_ (by first | exact Nat.le_refl _ | (simp; done) | (simp; omega) | omega) _) | (refine Below.drew ?_) | (refine below_drewN' ?_ _))
theorem dat_is (A : Option Addr) (C : Nat) (T : List Q4) (hs : Sok T) (m : Int) (i : Nat) (hi : Dx T m i) (x y z : Int) (hx : (gd4 T i).b = x) (hy : (gd4 T i).c = y) (hz : (gd4 T i).d = z) (w : World) (hl : S4 w A T) :
    Calls Try.prog 94 #[.slice A T.length C, .int .i64 m] w fun e_ w' => e_ = .returned (.agg #[.int .i64 x, .int .i64 y, .int .i64 z]) ∧ Below w.heap.size w w' := by
  obtain ⟨h0, ⟨h1, h2⟩ | ⟨h1, h2⟩⟩ := hi
  · exact dat_1 A C T m hs.n2 i h0 (fun j hj => by have := hs.le (i := j) (j := i) (by omega) h0; omega) (fun j k1 k2 => h2 j (by omega) k2) x y z hx hy hz w hl
  · exact dat_0 A C T m hs.n2 i h1 h2 x y z hx hy hz w hl
set_option maxRecDepth 100000 in
set_option maxHeartbeats 2000000 in
theorem at_0 (A : Option Addr) (C : Nat) (T : List Q4) (m : Int) (h1 : T.length ≤ 9223372036854775807) (hs : ¬ Sok T) (w : World) (hl : S4 w A T) :
    Calls Try.prog 42 #[.slice A T.length C, .int .i64 m] w fun e_ w' => e_ = .returned (.tuple #[.agg #[.int .i64 0, .int .i64 0, .int .i64 0], .bool false, .int .i64 1]) ∧ Below w.heap.size w w' := by
  have CV := Lib.hid (fun W (h : S4 W A T) => svalid_is A C T h1 false (by simp [hs]) W h)
  clear hs
  have HL := Lib.hid hl
  clear hl
  have r0 : World.cell? (w.alloc (.cells #[.int .i64 0, .int .i64 0, .int .i64 0] 27)) ⟨w.heap.size, 0, none⟩ = some (.int .i64 0) := by simp [go_sem]
  have fr0 : World.frozen? (w.alloc (.cells #[.int .i64 0, .int .i64 0, .int .i64 0] 27)) ⟨w.heap.size, 0, none⟩ = false := by simp [go_sem]
  have r1 : World.cell? (w.alloc (.cells #[.int .i64 0, .int .i64 0, .int .i64 0] 27)) ⟨w.heap.size, 1, none⟩ = some (.int .i64 0) := by simp [go_sem]
  have fr1 : World.frozen? (w.alloc (.cells #[.int .i64 0, .int .i64 0, .int .i64 0] 27)) ⟨w.heap.size, 1, none⟩ = false := by simp [go_sem]
  have r2 : World.cell? (w.alloc (.cells #[.int .i64 0, .int .i64 0, .int .i64 0] 27)) ⟨w.heap.size, 2, none⟩ = some (.int .i64 0) := by simp [go_sem]
  have fr2 : World.frozen? (w.alloc (.cells #[.int .i64 0, .int .i64 0, .int .i64 0] 27)) ⟨w.heap.size, 2, none⟩ = false := by simp [go_sem]
  have lr : w.heap.size < (w.alloc (.cells #[.int .i64 0, .int .i64 0, .int .i64 0] 27)).heap.size := by simp <;> omega
  have HB := Lib.hid (show Below w.heap.size w (w.alloc (.cells #[.int .i64 0, .int .i64 0, .int .i64 0] 27)) from ((Below.refl _ _).alloc (by simp <;> omega) _))
  go_enter Try.func42, Try.ntmps42
  go_upto_region 1 with fail
  generalize w.alloc (.cells #[.int .i64 0, .int .i64 0, .int .i64 0] 27) = w1 at *
  replace HL := Lib.hid (HL.out.below HB.out)
  go_wp2_with fail
  with_reducible refine (CV.out _ HL.out).mono ?_
  rintro e_ w2 ⟨rfl, hb⟩
  replace HB := Lib.hid (on_below HB.out hb)
  replace HL := Lib.hid (HL.out.below hb)
  replace r0 := keepc hb r0
  replace r1 := keepc hb r1
  replace r2 := keepc hb r2
  replace fr0 := keepf hb lr fr0
  replace fr1 := keepf hb lr fr1
  replace fr2 := keepf hb lr fr2
  replace lr := Nat.lt_of_lt_of_le lr hb.size
  clear hb
  go_wp2_with fail
  refine bodyPost_ret (v := .tuple #[.agg #[.int .i64 0, .int .i64 0, .int .i64 0], .bool false, .int .i64 1]) (by simp [results, Try.results42, go_sem, r0, r1, r2]) rfl ⟨rfl, ?_⟩
  repeat (first | (with_reducible exact HB.out) | (refine Below.setCell ?_ (by first | exact Nat.le_refl _ | (simp; done) | (simp; omega) | omega) _) | (refine Below.alloc ?_ (by first | exact Nat.le_refl _ | (simp; done) | (simp; omega) | omega) _) | (refine Below.drew ?_) | (refine below_drewN' ?_ _))
set_option maxRecDepth 100000 in
set_option maxHeartbeats 2000000 in
theorem at_1 (A : Option Addr) (C : Nat) (T : List Q4) (m : Int) (h1 : T.length ≤ 9223372036854775807) (hs : Sok T) (hm : m < 0) (w : World) (hl : S4 w A T) :
    Calls Try.prog 42 #[.slice A T.length C, .int .i64 m] w fun e_ w' => e_ = .returned (.tuple #[.agg #[.int .i64 0, .int .i64 0, .int .i64 0], .bool false, .int .i64 1]) ∧ Below w.heap.size w w' := by
  have CV := Lib.hid (fun W (h : S4 W A T) => svalid_is A C T h1 true (by simp [hs]) W h)
  clear hs
  have HL := Lib.hid hl
  clear hl
  have r0 : World.cell? (w.alloc (.cells #[.int .i64 0, .int .i64 0, .int .i64 0] 27)) ⟨w.heap.size, 0, none⟩ = some (.int .i64 0) := by simp [go_sem]
  have fr0 : World.frozen? (w.alloc (.cells #[.int .i64 0, .int .i64 0, .int .i64 0] 27)) ⟨w.heap.size, 0, none⟩ = false := by simp [go_sem]
  have r1 : World.cell? (w.alloc (.cells #[.int .i64 0, .int .i64 0, .int .i64 0] 27)) ⟨w.heap.size, 1, none⟩ = some (.int .i64 0) := by simp [go_sem]
  have fr1 : World.frozen? (w.alloc (.cells #[.int .i64 0, .int .i64 0, .int .i64 0] 27)) ⟨w.heap.size, 1, none⟩ = false := by simp [go_sem]
  have r2 : World.cell? (w.alloc (.cells #[.int .i64 0, .int .i64 0, .int .i64 0] 27)) ⟨w.heap.size, 2, none⟩ = some (.int .i64 0) := by simp [go_sem]
  have fr2 : World.frozen? (w.alloc (.cells #[.int .i64 0, .int .i64 0, .int .i64 0] 27)) ⟨w.heap.size, 2, none⟩ = false := by simp [go_sem]
  have lr : w.heap.size < (w.alloc (.cells #[.int .i64 0, .int .i64 0, .int .i64 0] 27)).heap.size := by simp <;> omega
  have HB := Lib.hid (show Below w.heap.size w (w.alloc (.cells #[.int .i64 0, .int .i64 0, .int .i64 0] 27)) from ((Below.refl _ _).alloc (by simp <;> omega) _))
  go_enter Try.func42, Try.ntmps42
  go_upto_region 1 with fail
  generalize w.alloc (.cells #[.int .i64 0, .int .i64 0, .int .i64 0] 27) = w1 at *
  replace HL := Lib.hid (HL.out.below HB.out)
  go_wp2_with fail
  with_reducible refine (CV.out _ HL.out).mono ?_
  rintro e_ w2 ⟨rfl, hb⟩
  replace HB := Lib.hid (on_below HB.out hb)
  replace HL := Lib.hid (HL.out.below hb)
  replace r0 := keepc hb r0
  replace r1 := keepc hb r1
  replace r2 := keepc hb r2
  replace fr0 := keepf hb lr fr0
  replace fr1 := keepf hb lr fr1
  replace fr2 := keepf hb lr fr2
  replace lr := Nat.lt_of_lt_of_le lr hb.size
  clear hb
  go_wp2_with fail
  refine bodyPost_ret (v := .tuple #[.agg #[.int .i64 0, .int .i64 0, .int .i64 0], .bool false, .int .i64 1]) (by simp [results, Try.results42, go_sem, r0, r1, r2]) rfl ⟨rfl, ?_⟩
  repeat (first | (with_reducible exact HB.out) | (refine Below.setCell ?_ (by first | exact Nat.le_refl _ | (simp; done) | (simp; omega) | omega) _) | (refine Below.alloc ?_ (by first | exact Nat.le_refl _ | (simp; done) | (simp; omega) | omega) _) | (refine Below.drew ?_) | (refine below_drewN' ?_ _))
set_option maxRecDepth 100000 in
set_option maxHeartbeats 2000000 in
theorem at_2 (A : Option Addr) (C : Nat) (T : List Q4) (m : Int) (h1 : T.length ≤ 9223372036854775807) (hs : Sok T) (hm : 600000 < m) (w : World) (hl : S4 w A T) :
    Calls Try.prog 42 #[.slice A T.length C, .int .i64 m] w fun e_ w' => e_ = .returned (.tuple #[.agg #[.int .i64 0, .int .i64 0, .int .i64 0], .bool false, .int .i64 1]) ∧ Below w.heap.size w w' := by
  have CV := Lib.hid (fun W (h : S4 W A T) => svalid_is A C T h1 true (by simp [hs]) W h)
  clear hs
  have HL := Lib.hid hl
  clear hl
  have r0 : World.cell? (w.alloc (.cells #[.int .i64 0, .int .i64 0, .int .i64 0] 27)) ⟨w.heap.size, 0, none⟩ = some (.int .i64 0) := by simp [go_sem]
  have fr0 : World.frozen? (w.alloc (.cells #[.int .i64 0, .int .i64 0, .int .i64 0] 27)) ⟨w.heap.size, 0, none⟩ = false := by simp [go_sem]
  have r1 : World.cell? (w.alloc (.cells #[.int .i64 0, .int .i64 0, .int .i64 0] 27)) ⟨w.heap.size, 1, none⟩ = some (.int .i64 0) := by simp [go_sem]
  have fr1 : World.frozen? (w.alloc (.cells #[.int .i64 0, .int .i64 0, .int .i64 0] 27)) ⟨w.heap.size, 1, none⟩ = false := by simp [go_sem]
  have r2 : World.cell? (w.alloc (.cells #[.int .i64 0, .int .i64 0, .int .i64 0] 27)) ⟨w.heap.size, 2, none⟩ = some (.int .i64 0) := by simp [go_sem]
  have fr2 : World.frozen? (w.alloc (.cells #[.int .i64 0, .int .i64 0, .int .i64 0] 27)) ⟨w.heap.size, 2, none⟩ = false := by simp [go_sem]
  have lr : w.heap.size < (w.alloc (.cells #[.int .i64 0, .int .i64 0, .int .i64 0] 27)).heap.size := by simp <;> omega
  have HB := Lib.hid (show Below w.heap.size w (w.alloc (.cells #[.int .i64 0, .int .i64 0, .int .i64 0] 27)) from ((Below.refl _ _).alloc (by simp <;> omega) _))
  go_enter Try.func42, Try.ntmps42
  go_upto_region 1 with fail
  generalize w.alloc (.cells #[.int .i64 0, .int .i64 0, .int .i64 0] 27) = w1 at *
  replace HL := Lib.hid (HL.out.below HB.out)
  go_wp2_with fail
  with_reducible refine (CV.out _ HL.out).mono ?_
  rintro e_ w2 ⟨rfl, hb⟩
  replace HB := Lib.hid (on_below HB.out hb)
  replace HL := Lib.hid (HL.out.below hb)
  replace r0 := keepc hb r0
  replace r1 := keepc hb r1
  replace r2 := keepc hb r2
  replace fr0 := keepf hb lr fr0
  replace fr1 := keepf hb lr fr1
  replace fr2 := keepf hb lr fr2
  replace lr := Nat.lt_of_lt_of_le lr hb.size
  clear hb
  go_wp2_with fail
  refine bodyPost_ret (v := .tuple #[.agg #[.int .i64 0, .int .i64 0, .int .i64 0], .bool false, .int .i64 1]) (by simp [results, Try.results42, go_sem, r0, r1, r2]) rfl ⟨rfl, ?_⟩
  repeat (first | (with_reducible exact HB.out) | (refine Below.setCell ?_ (by first | exact Nat.le_refl _ | (simp; done) | (simp; omega) | omega) _) | (refine Below.alloc ?_ (by first | exact Nat.le_refl _ | (simp; done) | (simp; omega) | omega) _) | (refine Below.drew ?_) | (refine below_drewN' ?_ _))
set_option maxRecDepth 100000 in
set_option maxHeartbeats 2000000 in
theorem at_3 (A : Option Addr) (C : Nat) (T : List Q4) (m : Int) (h1 : T.length ≤ 9223372036854775807) (hs : Sok T) (hm : 0 ≤ m) (hm2 : m ≤ 600000) (i : Nat) (hi : Dx T (m % 1440) i) (x y z : Int) (hx : (gd4 T i).b = x) (hy : (gd4 T i).c = y) (hz : (gd4 T i).d = z) (u : Bool) (hu : decide (0 < z) = u) (w : World) (hl : S4 w A T) :
    Calls Try.prog 42 #[.slice A T.length C, .int .i64 m] w fun e_ w' => e_ = .returned (.tuple #[.agg #[.int .i64 x, .int .i64 y, .int .i64 z], .bool u, .int .i64 0]) ∧ Below w.heap.size w w' := by
  have CV := Lib.hid (fun W (h : S4 W A T) => svalid_is A C T h1 true (by simp [hs]) W h)
  have CD := Lib.hid (fun W (h : S4 W A T) => dat_is A C T hs (m % 1440) i hi x y z hx hy hz W h)
  clear hs hi hx hy hz
  have tm : m.tmod 1440 = m % 1440 := Int.tmod_eq_emod_of_nonneg hm
  have HL := Lib.hid hl
  clear hl
  have HU := Lib.hid hu
  clear hu
  have r0 : World.cell? (w.alloc (.cells #[.int .i64 0, .int .i64 0, .int .i64 0] 27)) ⟨w.heap.size, 0, none⟩ = some (.int .i64 0) := by simp [go_sem]
  have fr0 : World.frozen? (w.alloc (.cells #[.int .i64 0, .int .i64 0, .int .i64 0] 27)) ⟨w.heap.size, 0, none⟩ = false := by simp [go_sem]
  have r1 : World.cell? (w.alloc (.cells #[.int .i64 0, .int .i64 0, .int .i64 0] 27)) ⟨w.heap.size, 1, none⟩ = some (.int .i64 0) := by simp [go_sem]
  have fr1 : World.frozen? (w.alloc (.cells #[.int .i64 0, .int .i64 0, .int .i64 0] 27)) ⟨w.heap.size, 1, none⟩ = false := by simp [go_sem]
  have r2 : World.cell? (w.alloc (.cells #[.int .i64 0, .int .i64 0, .int .i64 0] 27)) ⟨w.heap.size, 2, none⟩ = some (.int .i64 0) := by simp [go_sem]
  have fr2 : World.frozen? (w.alloc (.cells #[.int .i64 0, .int .i64 0, .int .i64 0] 27)) ⟨w.heap.size, 2, none⟩ = false := by simp [go_sem]
  have lr : w.heap.size < (w.alloc (.cells #[.int .i64 0, .int .i64 0, .int .i64 0] 27)).heap.size := by simp <;> omega
  have HB := Lib.hid (show Below w.heap.size w (w.alloc (.cells #[.int .i64 0, .int .i64 0, .int .i64 0] 27)) from ((Below.refl _ _).alloc (by simp <;> omega) _))
  go_enter Try.func42, Try.ntmps42
  go_upto_region 1 with fail
  generalize w.alloc (.cells #[.int .i64 0, .int .i64 0, .int .i64 0] 27) = w1 at *
  replace HL := Lib.hid (HL.out.below HB.out)
  go_wp2_with fail
  with_reducible refine (CV.out _ HL.out).mono ?_
  rintro e_ w2 ⟨rfl, hb⟩
  replace HB := Lib.hid (on_below HB.out hb)
  replace HL := Lib.hid (HL.out.below hb)
  replace r0 := keepc hb r0
  replace r1 := keepc hb r1
  replace r2 := keepc hb r2
  replace fr0 := keepf hb lr fr0
  replace fr1 := keepf hb lr fr1
  replace fr2 := keepf hb lr fr2
  replace lr := Nat.lt_of_lt_of_le lr hb.size
  clear hb
  go_wp2_with fail
  with_reducible refine (CD.out _ HL.out).mono ?_
  rintro e_ w3 ⟨rfl, hb⟩
  replace HB := Lib.hid (on_below HB.out hb)
  replace HL := Lib.hid (HL.out.below hb)
  replace r0 := keepc hb r0
  replace r1 := keepc hb r1
  replace r2 := keepc hb r2
  replace fr0 := keepf hb lr fr0
  replace fr1 := keepf hb lr fr1
  replace fr2 := keepf hb lr fr2
  replace lr := Nat.lt_of_lt_of_le lr hb.size
  clear hb
  go_wp2_with fail
  have lrd := lr
  have d0 : World.cell? (w3.alloc (.cells #[.int .i64 x, .int .i64 y, .int .i64 z] 27)) ⟨w3.heap.size, 0, none⟩ = some (.int .i64 x) := by simp [go_sem]
  have d1 : World.cell? (w3.alloc (.cells #[.int .i64 x, .int .i64 y, .int .i64 z] 27)) ⟨w3.heap.size, 1, none⟩ = some (.int .i64 y) := by simp [go_sem]
  have d2 : World.cell? (w3.alloc (.cells #[.int .i64 x, .int .i64 y, .int .i64 z] 27)) ⟨w3.heap.size, 2, none⟩ = some (.int .i64 z) := by simp [go_sem]
  have ld : w3.heap.size < (w3.alloc (.cells #[.int .i64 x, .int .i64 y, .int .i64 z] 27)).heap.size := by simp
  have hb : Below w3.heap.size w3 (w3.alloc (.cells #[.int .i64 x, .int .i64 y, .int .i64 z] 27)) := below_new _ _
  generalize w3.alloc (.cells #[.int .i64 x, .int .i64 y, .int .i64 z] 27) = w4 at *
  replace HB := Lib.hid (on_below HB.out hb)
  replace HL := Lib.hid (HL.out.below hb)
  replace r0 := keepc hb r0
  replace r1 := keepc hb r1
  replace r2 := keepc hb r2
  replace fr0 := keepf hb lr fr0
  replace fr1 := keepf hb lr fr1
  replace fr2 := keepf hb lr fr2
  replace lr := Nat.lt_of_lt_of_le lr hb.size
  clear hb
  generalize w3.heap.size = gd at *
  go_region
  all_goals go_wp2_with fail
  all_goals (
    refine bodyPost_ret (v := .tuple #[.agg #[.int .i64 x, .int .i64 y, .int .i64 z], .bool (decide (0 < z)), .int .i64 0]) (by simp [results, Try.results42, go_sem, r0, r1, r2, d0, d1, d2]) rfl ⟨by rw [HU.out], ?_⟩
    repeat (first | (with_reducible exact HB.out) | (refine Below.setCell ?_ (by first | exact Nat.le_refl _ | (simp; done) | (simp; omega) | omega) _) | (refine Below.alloc ?_ (by first | exact Nat.le_refl _ | (simp; done) | (simp; omega) | omega) _) | (refine Below.drew ?_) | (refine below_drewN' ?_ _)))
theorem at_is (A : Option Addr) (C : Nat) (T : List Q4) (m : Int) (h1 : T.length ≤ 9223372036854775807) (x y z : Int) (u : Bool) (E : Int) (ha : AtR T m x y z u E) (w : World) (hl : S4 w A T) :
    Calls Try.prog 42 #[.slice A T.length C, .int .i64 m] w fun e_ w' => e_ = .returned (.tuple #[.agg #[.int .i64 x, .int .i64 y, .int .i64 z], .bool u, .int .i64 E]) ∧ Below w.heap.size w w' := by
  rcases ha with ⟨⟨hs, a, b⟩, rfl, ⟨i, hi, rfl, rfl, rfl⟩, rfl⟩ | ⟨hn, rfl, rfl, rfl, rfl, rfl⟩
  · exact at_3 A C T m h1 hs a b i hi _ _ _ rfl rfl rfl _ rfl w hl
  · by_cases hs : Sok T
    · by_cases h0 : m < 0
      · exact at_1 A C T m h1 hs h0 w hl
      · exact at_2 A C T m h1 hs (Int.not_le.1 fun h => hn ⟨hs, by omega, h⟩) w hl
    · exact at_0 A C T m h1 hs w hl
end Go.Proofs.Ytgjcmolocoijiaa

namespace Go.Proofs.Ytgjcmolocoijiaa
open Go.RowKit Go.Sort
open Go.RowKit (Below)
set_option linter.unusedVariables false
set_option linter.unusedSimpArgs false
attribute [local go_sem] Oper.semAt_some

set_option maxRecDepth 100000 in
set_option maxHeartbeats 2000000 in
theorem bmidx_is (K : Nat) (rv : Value) (eg : ∀ args w, (callFunc K args).run Try.prog w = .ok (.enter K args) w) (A : Option Addr) (C : Nat) (T : List Bv) (p : Nat → Bool) (hlen : T.length ≤ 9223372036854775807) (w : World) (hl : BdS w A T)
    (hc : ∀ k, k < T.length → ∀ W, Below w.heap.size w W → Calls Try.prog K #[rv, .agg #[.slice (gdB T k).A (gdB T k).xs.length (gdB T k).C, .int .i64 (gdB T k).lo, .int .i64 (gdB T k).hi]] W fun e w' => e = .returned (.bool (p k)) ∧ Below W.heap.size W w')
    (r : Int) (hr : (∃ k, k < T.length ∧ p k = true ∧ (∀ j, j < k → p j = false) ∧ (k : Int) = r) ∨ ((∀ k, k < T.length → p k = false) ∧ -1 = r)) :
    Calls Try.prog 178 #[.slice A T.length C, .func (.func K) #[rv] #[]] w fun e_ w' => e_ = .returned (.int .i64 r) ∧ Below w.heap.size w w' := by
  have HL := Lib.hid hl
  have HC := Lib.hid hc
  have HR := Lib.hid hr
  clear hl hc hr
  go_enter Try.func178, Try.ntmps178
  go_wp2_with fail
  go_loopw [5, 8] (fun _ i wr => ∃ k : Nat, k ≤ T.length ∧ i = .int .i64 k ∧ Hid (∀ j, j < k → p j = false) ∧ Below w.heap.size w wr) (fun _ i _ => T.length - (intOf i).toNat)
  case atStart => exact ⟨0, Nat.zero_le _, rfl, fun j hj => absurd hj (Nat.not_lt_zero j), Below.refl _ _⟩
  case round =>
    obtain ⟨k, hk, rfl, HK, hW⟩ := hrel
    have HB := Lib.hid hW
    by_cases hlt : k < T.length
    · obtain ⟨b0, o0, rfl, e0, e1, e2, hsl⟩ := HL.out.below hW k hlt
      have HCC := Lib.hid (fun W (h : Below wr.heap.size wr W) => HC.out k hlt W (on_below hW h))
      clear hW
      obtain ⟨q, hq⟩ : ∃ q, p k = q := ⟨_, rfl⟩
      rw [hq] at HCC
      have HQ := Lib.hid hq
      clear hq
      generalize gdB T k = u at *
      have w1_ : IntKind.i64.wrap ((k : Int) + 1) = (k : Int) + 1 := IntWalk.i64_in _ ⟨by omega, by omega⟩
      have w2_ : wrap64 ((k : Int) + 1) = (k : Int) + 1 := IntWalk.wrap64_in _ ⟨by omega, by omega⟩
      cases q
      · go_wp2_with fail
        with_reducible refine (HCC.out _ (Below.refl _ _)).mono ?_
        rintro e' w2 ⟨rfl, hb⟩
        go_wp2_with fail
        go_roundw
        case rel => exact ⟨k + 1, hlt, int_of (by omega), (fun j hj => by by_cases e : j = k; (subst e; exact HQ.out); exact HK.out j (by omega)), on_below HB.out hb⟩
        case measure => simp [intOf]; omega
      · have hr : (k : Int) = r := by
          rcases HR.out with ⟨j, hj, h1, h2, h3⟩ | ⟨h1, h2⟩
          · rcases Nat.lt_trichotomy j k with h | h | h
            · have := HK.out j h; rw [this] at h1; cases h1
            · rw [← h]; exact h3
            · have := h2 k h; rw [HQ.out] at this; cases this
          · have := h1 k hlt; rw [HQ.out] at this; cases this
        subst hr
        go_wp2_with fail
        with_reducible refine (HCC.out _ (Below.refl _ _)).mono ?_
        rintro e' w2 ⟨rfl, hb⟩
        go_wp2_with fail
        go_ret
        exact ⟨rfl, on_below HB.out hb⟩
    · have hr : -1 = r := by
        rcases HR.out with ⟨j, hj, h1, h2, h3⟩ | ⟨h1, h2⟩
        · have := HK.out j (by omega); rw [this] at h1; cases h1
        · exact h2
      subst hr
      go_wp2_with fail
      go_ret
      exact ⟨rfl, hW⟩
set_option maxRecDepth 100000 in
theorem bmhas_is (K : Nat) (rv : Value) (eg : ∀ args w, (callFunc K args).run Try.prog w = .ok (.enter K args) w) (A : Option Addr) (C : Nat) (T : List Bv) (p : Nat → Bool) (hlen : T.length ≤ 9223372036854775807) (w : World) (hl : BdS w A T)
    (hc : ∀ k, k < T.length → ∀ W, Below w.heap.size w W → Calls Try.prog K #[rv, .agg #[.slice (gdB T k).A (gdB T k).xs.length (gdB T k).C, .int .i64 (gdB T k).lo, .int .i64 (gdB T k).hi]] W fun e w' => e = .returned (.bool (p k)) ∧ Below W.heap.size W w')
    (r : Bool) (hr : r = true ↔ ∃ k, k < T.length ∧ p k = true) :
    Calls Try.prog 149 #[.slice A T.length C, .func (.func K) #[rv] #[]] w fun e_ w' => e_ = .returned (.bool r) ∧ Below w.heap.size w w' := by
  obtain ⟨s, hs, hrs⟩ : ∃ s : Int, ((∃ k, k < T.length ∧ p k = true ∧ (∀ j, j < k → p j = false) ∧ (k : Int) = s) ∨ ((∀ k, k < T.length → p k = false) ∧ -1 = s)) ∧ decide (0 ≤ s) = r := by
    by_cases h : ∃ k, k < T.length ∧ p k = true
    · obtain ⟨k, hk, hp, hm⟩ := least_hit h
      exact ⟨k, Or.inl ⟨k, hk, hp, hm, rfl⟩, by rw [hr.2 h]; simp⟩
    · refine ⟨-1, Or.inr ⟨fun k hk => by cases hp : p k; rfl; exact absurd ⟨k, hk, hp⟩ h, rfl⟩, ?_⟩
      cases r
      · rfl
      · exact absurd (hr.1 rfl) h
  have HI := Lib.hid (bmidx_is K rv eg A C T p hlen w hl hc s hs)
  clear hl hc hs hr
  go_enter Try.func149, Try.ntmps149
  go_wp2_with fail
  refine HI.out.mono ?_
  rintro e_ w1 ⟨rfl, hb⟩
  subst hrs
  go_wp2_with fail
  all_goals go_ret
  all_goals exact ⟨by simp_all, hb⟩
end Go.Proofs.Ytgjcmolocoijiaa

namespace Go.Proofs.Ytgjcmolocoijiaa
open Go.RowKit Go.Sort
open Go.RowKit (Below)
set_option linter.unusedVariables false
set_option linter.unusedSimpArgs false
attribute [local go_sem] Oper.semAt_some

/-- Three numbers: a point. -/
structure P3 where
  a : Int
  b : Int
  c : Int
def gd3 (L : List P3) (k : Nat) : P3 := L.getD k ⟨0, 0, 0⟩
/-- A slice of points that can be read. -/
def S3 (w : World) (A : Option Addr) (T : List P3) : Prop :=
  ∀ k, k < T.length → ∃ b o, A = some ⟨b, o, none⟩ ∧ w.cell? ⟨b, o + k * 3, none⟩ = some (.int .i64 (gd3 T k).a) ∧ w.cell? ⟨b, o + k * 3 + 1, none⟩ = some (.int .i64 (gd3 T k).b) ∧
    w.cell? ⟨b, o + k * 3 + 2, none⟩ = some (.int .i64 (gd3 T k).c)
theorem S3.below {w w' : World} {A : Option Addr} {T : List P3} (h : S3 w A T) (hb : Below w.heap.size w w') : S3 w' A T := fun k hk => by
  obtain ⟨b, o, e, h1, h2, h3⟩ := h k hk
  exact ⟨b, o, e, cell_low hb h1, cell_low hb h2, cell_low hb h3⟩
theorem s3_one {W : World} {g : Nat} {x y z : Int} (h0 : W.cell? ⟨g, 0, none⟩ = some (.int .i64 x)) (h1 : W.cell? ⟨g, 1, none⟩ = some (.int .i64 y)) (h2 : W.cell? ⟨g, 2, none⟩ = some (.int .i64 z)) : S3 W (some ⟨g, 0, none⟩) [⟨x, y, z⟩] := fun k hk => by
  obtain rfl : k = 0 := by simp at hk; exact hk
  exact ⟨g, 0, rfl, h0, h1, h2⟩
theorem s3_two {W : World} {g : Nat} {x y z a b c : Int} (h0 : W.cell? ⟨g, 0, none⟩ = some (.int .i64 x)) (h1 : W.cell? ⟨g, 1, none⟩ = some (.int .i64 y)) (h2 : W.cell? ⟨g, 2, none⟩ = some (.int .i64 z)) (h3 : W.cell? ⟨g, 3, none⟩ = some (.int .i64 a)) (h4 : W.cell? ⟨g, 4, none⟩ = some (.int .i64 b)) (h5 : W.cell? ⟨g, 5, none⟩ = some (.int .i64 c)) : S3 W (some ⟨g, 0, none⟩) [⟨x, y, z⟩, ⟨a, b, c⟩] := fun k hk => by
  have : k = 0 ∨ k = 1 := by simp at hk; omega
  rcases this with rfl | rfl
  · exact ⟨g, 0, rfl, h0, h1, h2⟩
  · exact ⟨g, 0, rfl, h3, h4, h5⟩
set_option maxRecDepth 100000 in
set_option maxHeartbeats 2000000 in
theorem v3idx_is (K : Nat) (cb : Array Value) (eg : ∀ args w, (callFunc K args).run Try.prog w = .ok (.enter K args) w) (A : Option Addr) (C : Nat) (T : List P3) (p : Nat → Bool) (hlen : T.length ≤ 9223372036854775807) (w : World) (hl : S3 w A T)
    (hc : ∀ k, k < T.length → ∀ W, Below w.heap.size w W → Calls Try.prog K (#[.agg #[.int .i64 (gd3 T k).a, .int .i64 (gd3 T k).b, .int .i64 (gd3 T k).c]] ++ cb) W fun e w' => e = .returned (.bool (p k)) ∧ Below W.heap.size W w')
    (r : Int) (hr : (∃ k, k < T.length ∧ p k = true ∧ (∀ j, j < k → p j = false) ∧ (k : Int) = r) ∨ ((∀ k, k < T.length → p k = false) ∧ -1 = r)) :
    Calls Try.prog 177 #[.slice A T.length C, .func (.func K) #[] cb] w fun e_ w' => e_ = .returned (.int .i64 r) ∧ Below w.heap.size w w' := by
  have HL := Lib.hid hl
  have HC := Lib.hid hc
  have HR := Lib.hid hr
  clear hl hc hr
  go_enter Try.func177, Try.ntmps177
  go_wp2_with fail
  go_loopw [5, 8] (fun _ i wr => ∃ k : Nat, k ≤ T.length ∧ i = .int .i64 k ∧ Hid (∀ j, j < k → p j = false) ∧ Below w.heap.size w wr) (fun _ i _ => T.length - (intOf i).toNat)
  case atStart => exact ⟨0, Nat.zero_le _, rfl, fun j hj => absurd hj (Nat.not_lt_zero j), Below.refl _ _⟩
  case round =>
    obtain ⟨k, hk, rfl, HK, hW⟩ := hrel
    have HB := Lib.hid hW
    by_cases hlt : k < T.length
    · obtain ⟨b0, o0, rfl, e0, e1, e2⟩ := HL.out.below hW k hlt
      have HCC := Lib.hid (fun W (h : Below wr.heap.size wr W) => HC.out k hlt W (on_below hW h))
      clear hW
      obtain ⟨q, hq⟩ : ∃ q, p k = q := ⟨_, rfl⟩
      rw [hq] at HCC
      have HQ := Lib.hid hq
      clear hq
      generalize gd3 T k = u at *
      have w1_ : IntKind.i64.wrap ((k : Int) + 1) = (k : Int) + 1 := IntWalk.i64_in _ ⟨by omega, by omega⟩
      have w2_ : wrap64 ((k : Int) + 1) = (k : Int) + 1 := IntWalk.wrap64_in _ ⟨by omega, by omega⟩
      cases q
      · go_wp2_with (go_at_fn K; with_reducible refine (HCC.out _ (Below.refl _ _)).mono ?_; rintro e' w2 ⟨rfl, hb⟩)
        go_roundw
        case rel => exact ⟨k + 1, hlt, int_of (by omega), (fun j hj => by by_cases e : j = k; (subst e; exact HQ.out); exact HK.out j (by omega)), on_below HB.out hb⟩
        case measure => simp [intOf]; omega
      · have hr : (k : Int) = r := by
          rcases HR.out with ⟨j, hj, h1, h2, h3⟩ | ⟨h1, h2⟩
          · rcases Nat.lt_trichotomy j k with h | h | h
            · have := HK.out j h; rw [this] at h1; cases h1
            · rw [← h]; exact h3
            · have := h2 k h; rw [HQ.out] at this; cases this
          · have := h1 k hlt; rw [HQ.out] at this; cases this
        subst hr
        go_wp2_with (go_at_fn K; with_reducible refine (HCC.out _ (Below.refl _ _)).mono ?_; rintro e' w2 ⟨rfl, hb⟩)
        go_ret
        exact ⟨rfl, on_below HB.out hb⟩
    · have hr : -1 = r := by
        rcases HR.out with ⟨j, hj, h1, h2, h3⟩ | ⟨h1, h2⟩
        · have := HK.out j (by omega); rw [this] at h1; cases h1
        · exact h2
      subst hr
      go_wp2_with fail
      go_ret
      exact ⟨rfl, hW⟩
set_option maxRecDepth 100000 in
theorem v3has_is (K : Nat) (cb : Array Value) (eg : ∀ args w, (callFunc K args).run Try.prog w = .ok (.enter K args) w) (A : Option Addr) (C : Nat) (T : List P3) (p : Nat → Bool) (hlen : T.length ≤ 9223372036854775807) (w : World) (hl : S3 w A T)
    (hc : ∀ k, k < T.length → ∀ W, Below w.heap.size w W → Calls Try.prog K (#[.agg #[.int .i64 (gd3 T k).a, .int .i64 (gd3 T k).b, .int .i64 (gd3 T k).c]] ++ cb) W fun e w' => e = .returned (.bool (p k)) ∧ Below W.heap.size W w')
    (r : Bool) (hr : r = true ↔ ∃ k, k < T.length ∧ p k = true) :
    Calls Try.prog 148 #[.slice A T.length C, .func (.func K) #[] cb] w fun e_ w' => e_ = .returned (.bool r) ∧ Below w.heap.size w w' := by
  obtain ⟨s, hs, hrs⟩ : ∃ s : Int, ((∃ k, k < T.length ∧ p k = true ∧ (∀ j, j < k → p j = false) ∧ (k : Int) = s) ∨ ((∀ k, k < T.length → p k = false) ∧ -1 = s)) ∧ decide (0 ≤ s) = r := by
    by_cases h : ∃ k, k < T.length ∧ p k = true
    · obtain ⟨k, hk, hp, hm⟩ := least_hit h
      exact ⟨k, Or.inl ⟨k, hk, hp, hm, rfl⟩, by rw [hr.2 h]; simp⟩
    · refine ⟨-1, Or.inr ⟨fun k hk => by cases hp : p k; rfl; exact absurd ⟨k, hk, hp⟩ h, rfl⟩, ?_⟩
      cases r
      · rfl
      · exact absurd (hr.1 rfl) h
  have HI := Lib.hid (v3idx_is K cb eg A C T p hlen w hl hc s hs)
  clear hl hc hs hr
  go_enter Try.func148, Try.ntmps148
  go_wp2_with fail
  refine HI.out.mono ?_
  rintro e_ w1 ⟨rfl, hb⟩
  subst hrs
  go_wp2_with fail
  all_goals go_ret
  all_goals exact ⟨by simp_all, hb⟩
set_option maxRecDepth 100000 in
set_option maxHeartbeats 2000000 in
theorem wayfrom_is (a b c x y z U V T E : Int) (hE : sE (vv a b c) (vv x y z) (vv (a + x) (b + y) (c + z)) = E) (hU : kp E (a + x) = U) (hV : kp E (b + y) = V) (hT : kp E (c + z) = T) (w : World) :
    Calls Try.prog 90 #[.agg #[.int .i64 a, .int .i64 b, .int .i64 c], .agg #[.int .i64 x, .int .i64 y, .int .i64 z]] w fun e_ w' => e_ = .returned (.tuple #[.agg #[.int .i64 a, .int .i64 b, .int .i64 c, .int .i64 U, .int .i64 V, .int .i64 T], .int .i64 E]) ∧ Below w.heap.size w w' := by
  have CA := Lib.hid (fun W => add_is a b c x y z U V T E hE hU hV hT W)
  clear hE hU hV hT
  have p0 : World.cell? (((w.alloc (.cells #[.int .i64 a, .int .i64 b, .int .i64 c] 27)).alloc (.cells #[.int .i64 x, .int .i64 y, .int .i64 z] 27)).alloc (.cells #[.int .i64 0, .int .i64 0, .int .i64 0, .int .i64 0, .int .i64 0, .int .i64 0] 137)) ⟨w.heap.size, 0, none⟩ = some (.int .i64 a) := by simp [go_sem]
  have p1 : World.cell? (((w.alloc (.cells #[.int .i64 a, .int .i64 b, .int .i64 c] 27)).alloc (.cells #[.int .i64 x, .int .i64 y, .int .i64 z] 27)).alloc (.cells #[.int .i64 0, .int .i64 0, .int .i64 0, .int .i64 0, .int .i64 0, .int .i64 0] 137)) ⟨w.heap.size, 1, none⟩ = some (.int .i64 b) := by simp [go_sem]
  have p2 : World.cell? (((w.alloc (.cells #[.int .i64 a, .int .i64 b, .int .i64 c] 27)).alloc (.cells #[.int .i64 x, .int .i64 y, .int .i64 z] 27)).alloc (.cells #[.int .i64 0, .int .i64 0, .int .i64 0, .int .i64 0, .int .i64 0, .int .i64 0] 137)) ⟨w.heap.size, 2, none⟩ = some (.int .i64 c) := by simp [go_sem]
  have lp : w.heap.size < (((w.alloc (.cells #[.int .i64 a, .int .i64 b, .int .i64 c] 27)).alloc (.cells #[.int .i64 x, .int .i64 y, .int .i64 z] 27)).alloc (.cells #[.int .i64 0, .int .i64 0, .int .i64 0, .int .i64 0, .int .i64 0, .int .i64 0] 137)).heap.size := by simp <;> omega
  have q0 : World.cell? (((w.alloc (.cells #[.int .i64 a, .int .i64 b, .int .i64 c] 27)).alloc (.cells #[.int .i64 x, .int .i64 y, .int .i64 z] 27)).alloc (.cells #[.int .i64 0, .int .i64 0, .int .i64 0, .int .i64 0, .int .i64 0, .int .i64 0] 137)) ⟨w.heap.size + 1, 0, none⟩ = some (.int .i64 x) := by simp [go_sem]
  have q1 : World.cell? (((w.alloc (.cells #[.int .i64 a, .int .i64 b, .int .i64 c] 27)).alloc (.cells #[.int .i64 x, .int .i64 y, .int .i64 z] 27)).alloc (.cells #[.int .i64 0, .int .i64 0, .int .i64 0, .int .i64 0, .int .i64 0, .int .i64 0] 137)) ⟨w.heap.size + 1, 1, none⟩ = some (.int .i64 y) := by simp [go_sem]
  have q2 : World.cell? (((w.alloc (.cells #[.int .i64 a, .int .i64 b, .int .i64 c] 27)).alloc (.cells #[.int .i64 x, .int .i64 y, .int .i64 z] 27)).alloc (.cells #[.int .i64 0, .int .i64 0, .int .i64 0, .int .i64 0, .int .i64 0, .int .i64 0] 137)) ⟨w.heap.size + 1, 2, none⟩ = some (.int .i64 z) := by simp [go_sem]
  have lq : w.heap.size + 1 < (((w.alloc (.cells #[.int .i64 a, .int .i64 b, .int .i64 c] 27)).alloc (.cells #[.int .i64 x, .int .i64 y, .int .i64 z] 27)).alloc (.cells #[.int .i64 0, .int .i64 0, .int .i64 0, .int .i64 0, .int .i64 0, .int .i64 0] 137)).heap.size := by simp <;> omega
  have r0 : World.cell? (((w.alloc (.cells #[.int .i64 a, .int .i64 b, .int .i64 c] 27)).alloc (.cells #[.int .i64 x, .int .i64 y, .int .i64 z] 27)).alloc (.cells #[.int .i64 0, .int .i64 0, .int .i64 0, .int .i64 0, .int .i64 0, .int .i64 0] 137)) ⟨w.heap.size + 1 + 1, 0, none⟩ = some (.int .i64 0) := by simp [go_sem]
  have fr0 : World.frozen? (((w.alloc (.cells #[.int .i64 a, .int .i64 b, .int .i64 c] 27)).alloc (.cells #[.int .i64 x, .int .i64 y, .int .i64 z] 27)).alloc (.cells #[.int .i64 0, .int .i64 0, .int .i64 0, .int .i64 0, .int .i64 0, .int .i64 0] 137)) ⟨w.heap.size + 1 + 1, 0, none⟩ = false := by simp [go_sem]
  have r1 : World.cell? (((w.alloc (.cells #[.int .i64 a, .int .i64 b, .int .i64 c] 27)).alloc (.cells #[.int .i64 x, .int .i64 y, .int .i64 z] 27)).alloc (.cells #[.int .i64 0, .int .i64 0, .int .i64 0, .int .i64 0, .int .i64 0, .int .i64 0] 137)) ⟨w.heap.size + 1 + 1, 1, none⟩ = some (.int .i64 0) := by simp [go_sem]
  have fr1 : World.frozen? (((w.alloc (.cells #[.int .i64 a, .int .i64 b, .int .i64 c] 27)).alloc (.cells #[.int .i64 x, .int .i64 y, .int .i64 z] 27)).alloc (.cells #[.int .i64 0, .int .i64 0, .int .i64 0, .int .i64 0, .int .i64 0, .int .i64 0] 137)) ⟨w.heap.size + 1 + 1, 1, none⟩ = false := by simp [go_sem]
  have r2 : World.cell? (((w.alloc (.cells #[.int .i64 a, .int .i64 b, .int .i64 c] 27)).alloc (.cells #[.int .i64 x, .int .i64 y, .int .i64 z] 27)).alloc (.cells #[.int .i64 0, .int .i64 0, .int .i64 0, .int .i64 0, .int .i64 0, .int .i64 0] 137)) ⟨w.heap.size + 1 + 1, 2, none⟩ = some (.int .i64 0) := by simp [go_sem]
  have fr2 : World.frozen? (((w.alloc (.cells #[.int .i64 a, .int .i64 b, .int .i64 c] 27)).alloc (.cells #[.int .i64 x, .int .i64 y, .int .i64 z] 27)).alloc (.cells #[.int .i64 0, .int .i64 0, .int .i64 0, .int .i64 0, .int .i64 0, .int .i64 0] 137)) ⟨w.heap.size + 1 + 1, 2, none⟩ = false := by simp [go_sem]
  have r3 : World.cell? (((w.alloc (.cells #[.int .i64 a, .int .i64 b, .int .i64 c] 27)).alloc (.cells #[.int .i64 x, .int .i64 y, .int .i64 z] 27)).alloc (.cells #[.int .i64 0, .int .i64 0, .int .i64 0, .int .i64 0, .int .i64 0, .int .i64 0] 137)) ⟨w.heap.size + 1 + 1, 3, none⟩ = some (.int .i64 0) := by simp [go_sem]
  have fr3 : World.frozen? (((w.alloc (.cells #[.int .i64 a, .int .i64 b, .int .i64 c] 27)).alloc (.cells #[.int .i64 x, .int .i64 y, .int .i64 z] 27)).alloc (.cells #[.int .i64 0, .int .i64 0, .int .i64 0, .int .i64 0, .int .i64 0, .int .i64 0] 137)) ⟨w.heap.size + 1 + 1, 3, none⟩ = false := by simp [go_sem]
  have r4 : World.cell? (((w.alloc (.cells #[.int .i64 a, .int .i64 b, .int .i64 c] 27)).alloc (.cells #[.int .i64 x, .int .i64 y, .int .i64 z] 27)).alloc (.cells #[.int .i64 0, .int .i64 0, .int .i64 0, .int .i64 0, .int .i64 0, .int .i64 0] 137)) ⟨w.heap.size + 1 + 1, 4, none⟩ = some (.int .i64 0) := by simp [go_sem]
  have fr4 : World.frozen? (((w.alloc (.cells #[.int .i64 a, .int .i64 b, .int .i64 c] 27)).alloc (.cells #[.int .i64 x, .int .i64 y, .int .i64 z] 27)).alloc (.cells #[.int .i64 0, .int .i64 0, .int .i64 0, .int .i64 0, .int .i64 0, .int .i64 0] 137)) ⟨w.heap.size + 1 + 1, 4, none⟩ = false := by simp [go_sem]
  have r5 : World.cell? (((w.alloc (.cells #[.int .i64 a, .int .i64 b, .int .i64 c] 27)).alloc (.cells #[.int .i64 x, .int .i64 y, .int .i64 z] 27)).alloc (.cells #[.int .i64 0, .int .i64 0, .int .i64 0, .int .i64 0, .int .i64 0, .int .i64 0] 137)) ⟨w.heap.size + 1 + 1, 5, none⟩ = some (.int .i64 0) := by simp [go_sem]
  have fr5 : World.frozen? (((w.alloc (.cells #[.int .i64 a, .int .i64 b, .int .i64 c] 27)).alloc (.cells #[.int .i64 x, .int .i64 y, .int .i64 z] 27)).alloc (.cells #[.int .i64 0, .int .i64 0, .int .i64 0, .int .i64 0, .int .i64 0, .int .i64 0] 137)) ⟨w.heap.size + 1 + 1, 5, none⟩ = false := by simp [go_sem]
  have lr : w.heap.size + 1 + 1 < (((w.alloc (.cells #[.int .i64 a, .int .i64 b, .int .i64 c] 27)).alloc (.cells #[.int .i64 x, .int .i64 y, .int .i64 z] 27)).alloc (.cells #[.int .i64 0, .int .i64 0, .int .i64 0, .int .i64 0, .int .i64 0, .int .i64 0] 137)).heap.size := by simp <;> omega
  have HB := Lib.hid (show Below w.heap.size w (((w.alloc (.cells #[.int .i64 a, .int .i64 b, .int .i64 c] 27)).alloc (.cells #[.int .i64 x, .int .i64 y, .int .i64 z] 27)).alloc (.cells #[.int .i64 0, .int .i64 0, .int .i64 0, .int .i64 0, .int .i64 0, .int .i64 0] 137)) from ((((Below.refl _ _).alloc (by simp <;> omega) _).alloc (by simp <;> omega) _).alloc (by simp <;> omega) _))
  go_enter Try.func90, Try.ntmps90
  go_upto_region 1 with fail
  generalize ((w.alloc (.cells #[.int .i64 a, .int .i64 b, .int .i64 c] 27)).alloc (.cells #[.int .i64 x, .int .i64 y, .int .i64 z] 27)).alloc (.cells #[.int .i64 0, .int .i64 0, .int .i64 0, .int .i64 0, .int .i64 0, .int .i64 0] 137) = w1 at *
  go_wp2_with fail
  with_reducible refine (CA.out _).mono ?_
  rintro e_ w2 ⟨rfl, hb⟩
  replace HB := Lib.hid (on_below HB.out hb)
  replace p0 := keepc hb p0
  replace p1 := keepc hb p1
  replace p2 := keepc hb p2
  replace q0 := keepc hb q0
  replace q1 := keepc hb q1
  replace q2 := keepc hb q2
  replace r0 := keepc hb r0
  replace r1 := keepc hb r1
  replace r2 := keepc hb r2
  replace r3 := keepc hb r3
  replace r4 := keepc hb r4
  replace r5 := keepc hb r5
  replace fr0 := keepf hb lr fr0
  replace fr1 := keepf hb lr fr1
  replace fr2 := keepf hb lr fr2
  replace fr3 := keepf hb lr fr3
  replace fr4 := keepf hb lr fr4
  replace fr5 := keepf hb lr fr5
  replace lp := Nat.lt_of_lt_of_le lp hb.size
  replace lq := Nat.lt_of_lt_of_le lq hb.size
  replace lr := Nat.lt_of_lt_of_le lr hb.size
  clear hb
  go_upto_region 2 with fail
  have lrd := lr
  have d0 : World.cell? (w2.alloc (.cells #[.int .i64 U, .int .i64 V, .int .i64 T] 27)) ⟨w2.heap.size, 0, none⟩ = some (.int .i64 U) := by simp [go_sem]
  have d1 : World.cell? (w2.alloc (.cells #[.int .i64 U, .int .i64 V, .int .i64 T] 27)) ⟨w2.heap.size, 1, none⟩ = some (.int .i64 V) := by simp [go_sem]
  have d2 : World.cell? (w2.alloc (.cells #[.int .i64 U, .int .i64 V, .int .i64 T] 27)) ⟨w2.heap.size, 2, none⟩ = some (.int .i64 T) := by simp [go_sem]
  have ld : w2.heap.size < (w2.alloc (.cells #[.int .i64 U, .int .i64 V, .int .i64 T] 27)).heap.size := by simp
  have hb : Below w2.heap.size w2 (w2.alloc (.cells #[.int .i64 U, .int .i64 V, .int .i64 T] 27)) := below_new _ _
  generalize w2.alloc (.cells #[.int .i64 U, .int .i64 V, .int .i64 T] 27) = w3 at *
  replace HB := Lib.hid (on_below HB.out hb)
  replace p0 := keepc hb p0
  replace p1 := keepc hb p1
  replace p2 := keepc hb p2
  replace q0 := keepc hb q0
  replace q1 := keepc hb q1
  replace q2 := keepc hb q2
  replace r0 := keepc hb r0
  replace r1 := keepc hb r1
  replace r2 := keepc hb r2
  replace r3 := keepc hb r3
  replace r4 := keepc hb r4
  replace r5 := keepc hb r5
  replace fr0 := keepf hb lr fr0
  replace fr1 := keepf hb lr fr1
  replace fr2 := keepf hb lr fr2
  replace fr3 := keepf hb lr fr3
  replace fr4 := keepf hb lr fr4
  replace fr5 := keepf hb lr fr5
  replace lp := Nat.lt_of_lt_of_le lp hb.size
  replace lq := Nat.lt_of_lt_of_le lq hb.size
  replace lr := Nat.lt_of_lt_of_le lr hb.size
  clear hb
  generalize w2.heap.size = gd at *
  go_wp2_with fail
  refine bodyPost_ret (v := .tuple #[.agg #[.int .i64 a, .int .i64 b, .int .i64 c, .int .i64 U, .int .i64 V, .int .i64 T], .int .i64 E]) (by simp [results, Try.results90, go_sem, p0, p1, p2, r0, r1, r2, r3, r4, r5, d0, d1, d2]) rfl ⟨rfl, ?_⟩
  repeat (first | (with_reducible exact HB.out) | (refine Below.setCell ?_ (by first | exact Nat.le_refl _ | (simp; done) | (simp; omega) | omega) _) | (refine Below.alloc ?_ (by first | exact Nat.le_refl _ | (simp; done) | (simp; omega) | omega) _) | (refine Below.drew ?_) | (refine below_drewN' ?_ _))
theorem bds_one {W : World} {g : Nat} {b : Bv} (h0 : W.cell? ⟨g, 0, none⟩ = some (.slice b.A b.xs.length b.C)) (h1 : W.cell? ⟨g, 1, none⟩ = some (.int .i64 b.lo)) (h2 : W.cell? ⟨g, 2, none⟩ = some (.int .i64 b.hi)) (hs : SlS W b.A b.xs) : BdS W (some ⟨g, 0, none⟩) [b] := fun k hk => by
  obtain rfl : k = 0 := by simp at hk; exact hk
  exact ⟨g, 0, rfl, h0, h1, h2, hs⟩
theorem fst_one {ex ey ez x y z : Int} {b : Bv} (he : V3 ex ey ez) (hp : V3 x y z) (hn : ¬ (x = ex ∧ y = ey ∧ z = ez)) (hb : Bok b.xs b.lo b.hi) (r : Bool) (hr : hit ex ey ez x y z b = r) : FstR ex ey ez x y z [b] (if r then 0 else -1) 0 := by
  refine ⟨wrg_one (by simp) (tok_1 (vv_iff.2 hp)) (sut_one (vv_iff.2 he) hn) (one_of hb), Or.inr ⟨rfl, ?_⟩⟩
  · have hl := lin_b (ex := ex) (ey := ey) (ez := ez) (x := x) (y := y) (z := z) (L := [b]) 0
    cases r with
    | true =>
      have hf : frs ex ey ez x y z [b] = 0 := frs_at (k := 0) (by simp) hr (fun j hj => absurd hj (Nat.not_lt_zero j))
      rw [hl.2 (by rw [hf]; simp), hf]; rfl
    | false => exact hl.1.2 (frs_none (one_of (P := fun j => hit ex ey ez x y z (gdB [b] j) = false) hr))
set_option maxRecDepth 100000 in
set_option maxHeartbeats 2000000 in
theorem blkby_is (ex ey ez x y z : Int) (b : Bv) (he : V3 ex ey ez) (hp : V3 x y z) (hn : ¬ (x = ex ∧ y = ey ∧ z = ez)) (hb : Bok b.xs b.lo b.hi) (hlx : b.xs.length ≤ 9223372036854775806) (r : Bool) (hr : hit ex ey ez x y z b = r) (w : World) (hl : SlS w b.A b.xs) :
    Calls Try.prog 157 #[.agg #[.int .i64 ex, .int .i64 ey, .int .i64 ez, .int .i64 x, .int .i64 y, .int .i64 z], .agg #[.slice b.A b.xs.length b.C, .int .i64 b.lo, .int .i64 b.hi]] w fun e_ w' => e_ = .returned (.bool r) ∧ Below w.heap.size w w' := by
  obtain ⟨n, hN⟩ : ∃ n : Int, (if r then 0 else -1) = n := ⟨_, rfl⟩
  have zn : (n != -1) = r := by subst hN; cases r <;> rfl
  have CF := Lib.hid (fun g W (hm : BdS W (some ⟨g, 0, none⟩) [b]) => first_is ex ey ez x y z (some ⟨g, 0, none⟩) 1 [b] (by simp) n 0 (hN ▸ fst_one he hp hn hb r hr) (fun _ => one_of hlx) W hm)
  simp only [List.length_cons, List.length_nil, Nat.zero_add] at CF
  have HB1 := Lib.hid (fun (W : World) (g : Nat) h0 h1 h2 hs => bds_one (W := W) (g := g) (b := b) h0 h1 h2 hs)
  clear he hp hn hb hlx hr hN
  generalize b.xs.length = bn at *
  generalize b.C = bC at *
  generalize b.lo = bl at *
  generalize b.hi = bh at *
  have HL := Lib.hid hl
  clear hl
  have p0 : World.cell? (((w.alloc (.cells #[.int .i64 ex, .int .i64 ey, .int .i64 ez, .int .i64 x, .int .i64 y, .int .i64 z] 137)).alloc (.cells #[.slice b.A bn bC, .int .i64 bl, .int .i64 bh] 59)).alloc (.cells #[.slice b.A bn bC, .int .i64 bl, .int .i64 bh] 59)) ⟨w.heap.size, 0, none⟩ = some (.int .i64 ex) := by simp [go_sem]
  have p1 : World.cell? (((w.alloc (.cells #[.int .i64 ex, .int .i64 ey, .int .i64 ez, .int .i64 x, .int .i64 y, .int .i64 z] 137)).alloc (.cells #[.slice b.A bn bC, .int .i64 bl, .int .i64 bh] 59)).alloc (.cells #[.slice b.A bn bC, .int .i64 bl, .int .i64 bh] 59)) ⟨w.heap.size, 1, none⟩ = some (.int .i64 ey) := by simp [go_sem]
  have p2 : World.cell? (((w.alloc (.cells #[.int .i64 ex, .int .i64 ey, .int .i64 ez, .int .i64 x, .int .i64 y, .int .i64 z] 137)).alloc (.cells #[.slice b.A bn bC, .int .i64 bl, .int .i64 bh] 59)).alloc (.cells #[.slice b.A bn bC, .int .i64 bl, .int .i64 bh] 59)) ⟨w.heap.size, 2, none⟩ = some (.int .i64 ez) := by simp [go_sem]
  have p3 : World.cell? (((w.alloc (.cells #[.int .i64 ex, .int .i64 ey, .int .i64 ez, .int .i64 x, .int .i64 y, .int .i64 z] 137)).alloc (.cells #[.slice b.A bn bC, .int .i64 bl, .int .i64 bh] 59)).alloc (.cells #[.slice b.A bn bC, .int .i64 bl, .int .i64 bh] 59)) ⟨w.heap.size, 3, none⟩ = some (.int .i64 x) := by simp [go_sem]
  have p4 : World.cell? (((w.alloc (.cells #[.int .i64 ex, .int .i64 ey, .int .i64 ez, .int .i64 x, .int .i64 y, .int .i64 z] 137)).alloc (.cells #[.slice b.A bn bC, .int .i64 bl, .int .i64 bh] 59)).alloc (.cells #[.slice b.A bn bC, .int .i64 bl, .int .i64 bh] 59)) ⟨w.heap.size, 4, none⟩ = some (.int .i64 y) := by simp [go_sem]
  have p5 : World.cell? (((w.alloc (.cells #[.int .i64 ex, .int .i64 ey, .int .i64 ez, .int .i64 x, .int .i64 y, .int .i64 z] 137)).alloc (.cells #[.slice b.A bn bC, .int .i64 bl, .int .i64 bh] 59)).alloc (.cells #[.slice b.A bn bC, .int .i64 bl, .int .i64 bh] 59)) ⟨w.heap.size, 5, none⟩ = some (.int .i64 z) := by simp [go_sem]
  have lp : w.heap.size < (((w.alloc (.cells #[.int .i64 ex, .int .i64 ey, .int .i64 ez, .int .i64 x, .int .i64 y, .int .i64 z] 137)).alloc (.cells #[.slice b.A bn bC, .int .i64 bl, .int .i64 bh] 59)).alloc (.cells #[.slice b.A bn bC, .int .i64 bl, .int .i64 bh] 59)).heap.size := by simp <;> omega
  have q0 : World.cell? (((w.alloc (.cells #[.int .i64 ex, .int .i64 ey, .int .i64 ez, .int .i64 x, .int .i64 y, .int .i64 z] 137)).alloc (.cells #[.slice b.A bn bC, .int .i64 bl, .int .i64 bh] 59)).alloc (.cells #[.slice b.A bn bC, .int .i64 bl, .int .i64 bh] 59)) ⟨w.heap.size + 1, 0, none⟩ = some (.slice b.A bn bC) := by simp [go_sem]
  have q1 : World.cell? (((w.alloc (.cells #[.int .i64 ex, .int .i64 ey, .int .i64 ez, .int .i64 x, .int .i64 y, .int .i64 z] 137)).alloc (.cells #[.slice b.A bn bC, .int .i64 bl, .int .i64 bh] 59)).alloc (.cells #[.slice b.A bn bC, .int .i64 bl, .int .i64 bh] 59)) ⟨w.heap.size + 1, 1, none⟩ = some (.int .i64 bl) := by simp [go_sem]
  have q2 : World.cell? (((w.alloc (.cells #[.int .i64 ex, .int .i64 ey, .int .i64 ez, .int .i64 x, .int .i64 y, .int .i64 z] 137)).alloc (.cells #[.slice b.A bn bC, .int .i64 bl, .int .i64 bh] 59)).alloc (.cells #[.slice b.A bn bC, .int .i64 bl, .int .i64 bh] 59)) ⟨w.heap.size + 1, 2, none⟩ = some (.int .i64 bh) := by simp [go_sem]
  have lq : w.heap.size + 1 < (((w.alloc (.cells #[.int .i64 ex, .int .i64 ey, .int .i64 ez, .int .i64 x, .int .i64 y, .int .i64 z] 137)).alloc (.cells #[.slice b.A bn bC, .int .i64 bl, .int .i64 bh] 59)).alloc (.cells #[.slice b.A bn bC, .int .i64 bl, .int .i64 bh] 59)).heap.size := by simp <;> omega
  have u0 : World.cell? (((w.alloc (.cells #[.int .i64 ex, .int .i64 ey, .int .i64 ez, .int .i64 x, .int .i64 y, .int .i64 z] 137)).alloc (.cells #[.slice b.A bn bC, .int .i64 bl, .int .i64 bh] 59)).alloc (.cells #[.slice b.A bn bC, .int .i64 bl, .int .i64 bh] 59)) ⟨w.heap.size + 1 + 1, 0, none⟩ = some (.slice b.A bn bC) := by simp [go_sem]
  have u1 : World.cell? (((w.alloc (.cells #[.int .i64 ex, .int .i64 ey, .int .i64 ez, .int .i64 x, .int .i64 y, .int .i64 z] 137)).alloc (.cells #[.slice b.A bn bC, .int .i64 bl, .int .i64 bh] 59)).alloc (.cells #[.slice b.A bn bC, .int .i64 bl, .int .i64 bh] 59)) ⟨w.heap.size + 1 + 1, 1, none⟩ = some (.int .i64 bl) := by simp [go_sem]
  have u2 : World.cell? (((w.alloc (.cells #[.int .i64 ex, .int .i64 ey, .int .i64 ez, .int .i64 x, .int .i64 y, .int .i64 z] 137)).alloc (.cells #[.slice b.A bn bC, .int .i64 bl, .int .i64 bh] 59)).alloc (.cells #[.slice b.A bn bC, .int .i64 bl, .int .i64 bh] 59)) ⟨w.heap.size + 1 + 1, 2, none⟩ = some (.int .i64 bh) := by simp [go_sem]
  have lu : w.heap.size + 1 + 1 < (((w.alloc (.cells #[.int .i64 ex, .int .i64 ey, .int .i64 ez, .int .i64 x, .int .i64 y, .int .i64 z] 137)).alloc (.cells #[.slice b.A bn bC, .int .i64 bl, .int .i64 bh] 59)).alloc (.cells #[.slice b.A bn bC, .int .i64 bl, .int .i64 bh] 59)).heap.size := by simp <;> omega
  have HB := Lib.hid (show Below w.heap.size w (((w.alloc (.cells #[.int .i64 ex, .int .i64 ey, .int .i64 ez, .int .i64 x, .int .i64 y, .int .i64 z] 137)).alloc (.cells #[.slice b.A bn bC, .int .i64 bl, .int .i64 bh] 59)).alloc (.cells #[.slice b.A bn bC, .int .i64 bl, .int .i64 bh] 59)) from ((((Below.refl _ _).alloc (by simp <;> omega) _).alloc (by simp <;> omega) _).alloc (by simp <;> omega) _))
  go_enter Try.func157, Try.ntmps157
  go_wp2_with fail
  generalize ((w.alloc (.cells #[.int .i64 ex, .int .i64 ey, .int .i64 ez, .int .i64 x, .int .i64 y, .int .i64 z] 137)).alloc (.cells #[.slice b.A bn bC, .int .i64 bl, .int .i64 bh] 59)).alloc (.cells #[.slice b.A bn bC, .int .i64 bl, .int .i64 bh] 59) = w1 at *
  replace HL := Lib.hid (HL.out.below HB.out)
  with_reducible refine (CF.out _ _ (HB1.out _ _ u0 u1 u2 HL.out)).mono ?_
  rintro e_ w2 ⟨rfl, hb⟩
  replace HB := Lib.hid (on_below HB.out hb)
  replace p0 := keepc hb p0
  replace p1 := keepc hb p1
  replace p2 := keepc hb p2
  replace p3 := keepc hb p3
  replace p4 := keepc hb p4
  replace p5 := keepc hb p5
  replace q0 := keepc hb q0
  replace q1 := keepc hb q1
  replace q2 := keepc hb q2
  replace u0 := keepc hb u0
  replace u1 := keepc hb u1
  replace u2 := keepc hb u2
  replace lp := Nat.lt_of_lt_of_le lp hb.size
  replace lq := Nat.lt_of_lt_of_le lq hb.size
  replace lu := Nat.lt_of_lt_of_le lu hb.size
  clear hb
  go_wp2_with fail
  go_ret
  exact ⟨rfl, HB.out⟩
theorem blkby_enter (args : Array Value) (W : World) : (callFunc 157 args).run Try.prog W = .ok (.enter 157 args) W := by simp [go_sem]
set_option maxRecDepth 100000 in
set_option maxHeartbeats 2000000 in
theorem shaded_is (ex ey ez x y z : Int) (B : Option Addr) (D : Nat) (L : List Bv) (h5 : L.length ≤ 9223372036854775807) (hs : Bsm L) (he : V3 ex ey ez) (hp : V3 x y z) (hn : ¬ (x = ex ∧ y = ey ∧ z = ez)) (hb : Bds L) (r : Bool) (hr : r = true ↔ ∃ k, k < L.length ∧ hit ex ey ez x y z (gdB L k) = true) (w : World) (hm : BdS w B L) :
    Calls Try.prog 93 #[.agg #[.int .i64 ex, .int .i64 ey, .int .i64 ez, .int .i64 x, .int .i64 y, .int .i64 z], .slice B L.length D] w fun e_ w' => e_ = .returned (.bool r) ∧ Below w.heap.size w w' := by
  have CB := Lib.hid (fun W (hm : BdS W B L) => bmhas_is 157 (.agg #[.int .i64 ex, .int .i64 ey, .int .i64 ez, .int .i64 x, .int .i64 y, .int .i64 z]) blkby_enter B D L (fun k => hit ex ey ez x y z (gdB L k)) h5 W hm (fun k hk W1 hb1 => by
    obtain ⟨_, _, _, _, _, _, hsl⟩ := hm.below hb1 k hk
    exact blkby_is ex ey ez x y z (gdB L k) he hp hn (hb k hk) (hs k hk) _ rfl W1 hsl) r hr)
  clear hs he hp hn hb hr
  have HM := Lib.hid hm
  clear hm
  have p0 : World.cell? (w.alloc (.cells #[.int .i64 ex, .int .i64 ey, .int .i64 ez, .int .i64 x, .int .i64 y, .int .i64 z] 137)) ⟨w.heap.size, 0, none⟩ = some (.int .i64 ex) := by simp [go_sem]
  have p1 : World.cell? (w.alloc (.cells #[.int .i64 ex, .int .i64 ey, .int .i64 ez, .int .i64 x, .int .i64 y, .int .i64 z] 137)) ⟨w.heap.size, 1, none⟩ = some (.int .i64 ey) := by simp [go_sem]
  have p2 : World.cell? (w.alloc (.cells #[.int .i64 ex, .int .i64 ey, .int .i64 ez, .int .i64 x, .int .i64 y, .int .i64 z] 137)) ⟨w.heap.size, 2, none⟩ = some (.int .i64 ez) := by simp [go_sem]
  have p3 : World.cell? (w.alloc (.cells #[.int .i64 ex, .int .i64 ey, .int .i64 ez, .int .i64 x, .int .i64 y, .int .i64 z] 137)) ⟨w.heap.size, 3, none⟩ = some (.int .i64 x) := by simp [go_sem]
  have p4 : World.cell? (w.alloc (.cells #[.int .i64 ex, .int .i64 ey, .int .i64 ez, .int .i64 x, .int .i64 y, .int .i64 z] 137)) ⟨w.heap.size, 4, none⟩ = some (.int .i64 y) := by simp [go_sem]
  have p5 : World.cell? (w.alloc (.cells #[.int .i64 ex, .int .i64 ey, .int .i64 ez, .int .i64 x, .int .i64 y, .int .i64 z] 137)) ⟨w.heap.size, 5, none⟩ = some (.int .i64 z) := by simp [go_sem]
  have lp : w.heap.size < (w.alloc (.cells #[.int .i64 ex, .int .i64 ey, .int .i64 ez, .int .i64 x, .int .i64 y, .int .i64 z] 137)).heap.size := by simp <;> omega
  have HB := Lib.hid (show Below w.heap.size w (w.alloc (.cells #[.int .i64 ex, .int .i64 ey, .int .i64 ez, .int .i64 x, .int .i64 y, .int .i64 z] 137)) from ((Below.refl _ _).alloc (by simp <;> omega) _))
  go_enter Try.func93, Try.ntmps93
  go_upto_region 1 with fail
  generalize w.alloc (.cells #[.int .i64 ex, .int .i64 ey, .int .i64 ez, .int .i64 x, .int .i64 y, .int .i64 z] 137) = w1 at *
  replace HM := Lib.hid (HM.out.below HB.out)
  go_wp2_with fail
  with_reducible refine (CB.out _ HM.out).mono ?_
  rintro e_ w2 ⟨rfl, hb⟩
  replace HB := Lib.hid (on_below HB.out hb)
  replace p0 := keepc hb p0
  replace p1 := keepc hb p1
  replace p2 := keepc hb p2
  replace p3 := keepc hb p3
  replace p4 := keepc hb p4
  replace p5 := keepc hb p5
  replace lp := Nat.lt_of_lt_of_le lp hb.size
  clear hb
  go_wp2_with fail
  go_ret
  exact ⟨rfl, HB.out⟩
set_option maxRecDepth 100000 in
set_option maxHeartbeats 2000000 in
theorem isshare_is (N D : Int) (r : Bool) (iN : I64 N) (iD : I64 D) (h : shr N D = r) (w : World) :
    Calls Try.prog 89 #[.agg #[.int .i64 N, .int .i64 D]] w fun e_ w' => e_ = .returned (.bool r) ∧ Below w.heap.size w w' := by
  obtain ⟨E, hE⟩ : ∃ E : Int, (if r then 0 else 1) = E := ⟨_, rfl⟩
  have zE : (E == 0) = r := by subst hE; cases r <;> rfl
  obtain ⟨q, hq⟩ : ∃ q, (decide (E = 0) && nr (dt 0 0 1 0 0 1) (dt 0 0 1 0 0 1) (dt 0 0 1 0 0 1) N D) = q := ⟨_, rfl⟩
  have CN := Lib.hid (fun W => near_is 0 0 1 0 0 1 N D E q iN iD (by rw [h, ← hE, show dr 0 0 1 = true by decide]; cases r <;> rfl) hq W)
  clear iN iD h hE hq
  have p0 : World.cell? ((w.alloc (.cells #[.int .i64 N, .int .i64 D] 36)).alloc (.cells #[.int .i64 0, .int .i64 0, .int .i64 1] 27)) ⟨w.heap.size, 0, none⟩ = some (.int .i64 N) := by simp [go_sem]
  have p1 : World.cell? ((w.alloc (.cells #[.int .i64 N, .int .i64 D] 36)).alloc (.cells #[.int .i64 0, .int .i64 0, .int .i64 1] 27)) ⟨w.heap.size, 1, none⟩ = some (.int .i64 D) := by simp [go_sem]
  have lp : w.heap.size < ((w.alloc (.cells #[.int .i64 N, .int .i64 D] 36)).alloc (.cells #[.int .i64 0, .int .i64 0, .int .i64 1] 27)).heap.size := by simp <;> omega
  have q0 : World.cell? ((w.alloc (.cells #[.int .i64 N, .int .i64 D] 36)).alloc (.cells #[.int .i64 0, .int .i64 0, .int .i64 1] 27)) ⟨w.heap.size + 1, 0, none⟩ = some (.int .i64 0) := by simp [go_sem]
  have q1 : World.cell? ((w.alloc (.cells #[.int .i64 N, .int .i64 D] 36)).alloc (.cells #[.int .i64 0, .int .i64 0, .int .i64 1] 27)) ⟨w.heap.size + 1, 1, none⟩ = some (.int .i64 0) := by simp [go_sem]
  have q2 : World.cell? ((w.alloc (.cells #[.int .i64 N, .int .i64 D] 36)).alloc (.cells #[.int .i64 0, .int .i64 0, .int .i64 1] 27)) ⟨w.heap.size + 1, 2, none⟩ = some (.int .i64 1) := by simp [go_sem]
  have lq : w.heap.size + 1 < ((w.alloc (.cells #[.int .i64 N, .int .i64 D] 36)).alloc (.cells #[.int .i64 0, .int .i64 0, .int .i64 1] 27)).heap.size := by simp <;> omega
  have HB := Lib.hid (show Below w.heap.size w ((w.alloc (.cells #[.int .i64 N, .int .i64 D] 36)).alloc (.cells #[.int .i64 0, .int .i64 0, .int .i64 1] 27)) from (((Below.refl _ _).alloc (by simp <;> omega) _).alloc (by simp <;> omega) _))
  go_enter Try.func89, Try.ntmps89
  go_wp2_with fail
  generalize (w.alloc (.cells #[.int .i64 N, .int .i64 D] 36)).alloc (.cells #[.int .i64 0, .int .i64 0, .int .i64 1] 27) = w1 at *
  with_reducible refine (CN.out _).mono ?_
  rintro e_ w2 ⟨rfl, hb⟩
  replace HB := Lib.hid (on_below HB.out hb)
  replace p0 := keepc hb p0
  replace p1 := keepc hb p1
  replace q0 := keepc hb q0
  replace q1 := keepc hb q1
  replace q2 := keepc hb q2
  replace lp := Nat.lt_of_lt_of_le lp hb.size
  replace lq := Nat.lt_of_lt_of_le lq hb.size
  clear hb
  go_wp2_with fail
  go_ret
  exact ⟨rfl, HB.out⟩
theorem np_enter (args : Array Value) (W : World) : (callFunc 146 args).run Try.prog W = .ok (.enter 146 args) W := by simp [go_sem]
theorem nb_enter (args : Array Value) (W : World) : (callFunc 147 args).run Try.prog W = .ok (.enter 147 args) W := by simp [go_sem]
set_option maxRecDepth 100000 in
set_option maxHeartbeats 2000000 in
theorem df_0 (A : Option Addr) (C : Nat) (T : List Q4) (m : Int) (B : Option Addr) (D : Nat) (L : List Bv) (G : Option Addr) (I : Nat) (V : List P3) (h4 : T.length ≤ 9223372036854775807) (h5 : L.length ≤ 9223372036854775807) (h6 : V.length ≤ 2) (h : 60 < L.length) (w : World) :
    Calls Try.prog 88 #[.slice A T.length C, .int .i64 m, .slice B L.length D, .slice G V.length I] w fun e_ w' => e_ = .returned (.tuple #[.agg #[.int .i64 0, .int .i64 0, .int .i64 0], .bool false, .int .i64 2]) ∧ Below w.heap.size w w' := by
  have r0 : World.cell? (w.alloc (.cells #[.int .i64 0, .int .i64 0, .int .i64 0] 27)) ⟨w.heap.size, 0, none⟩ = some (.int .i64 0) := by simp [go_sem]
  have fr0 : World.frozen? (w.alloc (.cells #[.int .i64 0, .int .i64 0, .int .i64 0] 27)) ⟨w.heap.size, 0, none⟩ = false := by simp [go_sem]
  have r1 : World.cell? (w.alloc (.cells #[.int .i64 0, .int .i64 0, .int .i64 0] 27)) ⟨w.heap.size, 1, none⟩ = some (.int .i64 0) := by simp [go_sem]
  have fr1 : World.frozen? (w.alloc (.cells #[.int .i64 0, .int .i64 0, .int .i64 0] 27)) ⟨w.heap.size, 1, none⟩ = false := by simp [go_sem]
  have r2 : World.cell? (w.alloc (.cells #[.int .i64 0, .int .i64 0, .int .i64 0] 27)) ⟨w.heap.size, 2, none⟩ = some (.int .i64 0) := by simp [go_sem]
  have fr2 : World.frozen? (w.alloc (.cells #[.int .i64 0, .int .i64 0, .int .i64 0] 27)) ⟨w.heap.size, 2, none⟩ = false := by simp [go_sem]
  have lr : w.heap.size < (w.alloc (.cells #[.int .i64 0, .int .i64 0, .int .i64 0] 27)).heap.size := by simp <;> omega
  have HB := Lib.hid (show Below w.heap.size w (w.alloc (.cells #[.int .i64 0, .int .i64 0, .int .i64 0] 27)) from ((Below.refl _ _).alloc (by simp <;> omega) _))
  go_enter Try.func88, Try.ntmps88
  go_upto_region 1 with fail
  generalize w.alloc (.cells #[.int .i64 0, .int .i64 0, .int .i64 0] 27) = w1 at *
  go_wp2_with fail
  refine bodyPost_ret (v := .tuple #[.agg #[.int .i64 0, .int .i64 0, .int .i64 0], .bool false, .int .i64 2]) (by simp [results, Try.results88, go_sem, r0, r1, r2]) rfl ⟨rfl, ?_⟩
  repeat (first | (with_reducible exact HB.out) | (refine Below.setCell ?_ (by first | exact Nat.le_refl _ | (simp; done) | (simp; omega) | omega) _) | (refine Below.alloc ?_ (by first | exact Nat.le_refl _ | (simp; done) | (simp; omega) | omega) _) | (refine Below.drew ?_) | (refine below_drewN' ?_ _))
set_option maxRecDepth 100000 in
set_option maxHeartbeats 2000000 in
theorem df_1 (A : Option Addr) (C : Nat) (T : List Q4) (m : Int) (B : Option Addr) (D : Nat) (L : List Bv) (G : Option Addr) (I : Nat) (V : List P3) (h4 : T.length ≤ 9223372036854775807) (h5 : L.length ≤ 9223372036854775807) (h6 : V.length ≤ 2) (h : L.length ≤ 60) (hv : ∃ k, k < V.length ∧ vv (gd3 V k).a (gd3 V k).b (gd3 V k).c = false) (w : World) (hg : S3 w G V) :
    Calls Try.prog 88 #[.slice A T.length C, .int .i64 m, .slice B L.length D, .slice G V.length I] w fun e_ w' => e_ = .returned (.tuple #[.agg #[.int .i64 0, .int .i64 0, .int .i64 0], .bool false, .int .i64 1]) ∧ Below w.heap.size w w' := by
  have hmf : ∀ (fn : Fn) (first cap : Array Value) (w : World), (Instr.makeFunc fn first cap).run Try.prog w = .ok (.func fn first cap) w := fun _ _ _ _ => rfl
  have CV := Lib.hid (fun W (h : S3 W G V) => v3has_is 146 #[] np_enter G I V (fun k => !(vv (gd3 V k).a (gd3 V k).b (gd3 V k).c)) (by omega) W h (fun k hk W1 _ => by simpa using np_is (gd3 V k).a (gd3 V k).b (gd3 V k).c _ _ rfl rfl W1) true (iff_of_true rfl (by obtain ⟨k, a, b⟩ := hv; exact ⟨k, a, by simp [b]⟩)))
  clear hv
  have HG := Lib.hid hg
  clear hg
  have r0 : World.cell? (w.alloc (.cells #[.int .i64 0, .int .i64 0, .int .i64 0] 27)) ⟨w.heap.size, 0, none⟩ = some (.int .i64 0) := by simp [go_sem]
  have fr0 : World.frozen? (w.alloc (.cells #[.int .i64 0, .int .i64 0, .int .i64 0] 27)) ⟨w.heap.size, 0, none⟩ = false := by simp [go_sem]
  have r1 : World.cell? (w.alloc (.cells #[.int .i64 0, .int .i64 0, .int .i64 0] 27)) ⟨w.heap.size, 1, none⟩ = some (.int .i64 0) := by simp [go_sem]
  have fr1 : World.frozen? (w.alloc (.cells #[.int .i64 0, .int .i64 0, .int .i64 0] 27)) ⟨w.heap.size, 1, none⟩ = false := by simp [go_sem]
  have r2 : World.cell? (w.alloc (.cells #[.int .i64 0, .int .i64 0, .int .i64 0] 27)) ⟨w.heap.size, 2, none⟩ = some (.int .i64 0) := by simp [go_sem]
  have fr2 : World.frozen? (w.alloc (.cells #[.int .i64 0, .int .i64 0, .int .i64 0] 27)) ⟨w.heap.size, 2, none⟩ = false := by simp [go_sem]
  have lr : w.heap.size < (w.alloc (.cells #[.int .i64 0, .int .i64 0, .int .i64 0] 27)).heap.size := by simp <;> omega
  have HB := Lib.hid (show Below w.heap.size w (w.alloc (.cells #[.int .i64 0, .int .i64 0, .int .i64 0] 27)) from ((Below.refl _ _).alloc (by simp <;> omega) _))
  go_enter Try.func88, Try.ntmps88
  go_upto_region 1 with fail
  generalize w.alloc (.cells #[.int .i64 0, .int .i64 0, .int .i64 0] 27) = w1 at *
  replace HG := Lib.hid (HG.out.below HB.out)
  go_wp2_with fail
  with_reducible refine (CV.out _ HG.out).mono ?_
  rintro e_ w2 ⟨rfl, hb⟩
  replace HB := Lib.hid (on_below HB.out hb)
  replace HG := Lib.hid (HG.out.below hb)
  replace r0 := keepc hb r0
  replace r1 := keepc hb r1
  replace r2 := keepc hb r2
  replace fr0 := keepf hb lr fr0
  replace fr1 := keepf hb lr fr1
  replace fr2 := keepf hb lr fr2
  replace lr := Nat.lt_of_lt_of_le lr hb.size
  clear hb
  go_wp2_with fail
  refine bodyPost_ret (v := .tuple #[.agg #[.int .i64 0, .int .i64 0, .int .i64 0], .bool false, .int .i64 1]) (by simp [results, Try.results88, go_sem, r0, r1, r2]) rfl ⟨rfl, ?_⟩
  repeat (first | (with_reducible exact HB.out) | (refine Below.setCell ?_ (by first | exact Nat.le_refl _ | (simp; done) | (simp; omega) | omega) _) | (refine Below.alloc ?_ (by first | exact Nat.le_refl _ | (simp; done) | (simp; omega) | omega) _) | (refine Below.drew ?_) | (refine below_drewN' ?_ _))
set_option maxRecDepth 100000 in
set_option maxHeartbeats 2000000 in
theorem df_2 (A : Option Addr) (C : Nat) (T : List Q4) (m : Int) (B : Option Addr) (D : Nat) (L : List Bv) (G : Option Addr) (I : Nat) (V : List P3) (h4 : T.length ≤ 9223372036854775807) (h5 : L.length ≤ 9223372036854775807) (h6 : V.length ≤ 2) (h : L.length ≤ 60) (hv : ∀ k, k < V.length → vv (gd3 V k).a (gd3 V k).b (gd3 V k).c = true) (hs : Bsm L) (hb : ¬ Bds L) (w : World) (hg : S3 w G V) (hm : BdS w B L) :
    Calls Try.prog 88 #[.slice A T.length C, .int .i64 m, .slice B L.length D, .slice G V.length I] w fun e_ w' => e_ = .returned (.tuple #[.agg #[.int .i64 0, .int .i64 0, .int .i64 0], .bool false, .int .i64 1]) ∧ Below w.heap.size w w' := by
  have hmf : ∀ (fn : Fn) (first cap : Array Value) (w : World), (Instr.makeFunc fn first cap).run Try.prog w = .ok (.func fn first cap) w := fun _ _ _ _ => rfl
  obtain ⟨p, hp⟩ : ∃ p : Nat → Bool, ∀ k, p k = false ↔ Bok (gdB L k).xs (gdB L k).lo (gdB L k).hi := by
    classical
    exact ⟨fun k => !decide (Bok (gdB L k).xs (gdB L k).lo (gdB L k).hi), fun k => by simp⟩
  have CV := Lib.hid (fun W (h : S3 W G V) => v3has_is 146 #[] np_enter G I V (fun k => !(vv (gd3 V k).a (gd3 V k).b (gd3 V k).c)) (by omega) W h (fun k hk W1 _ => by simpa using np_is (gd3 V k).a (gd3 V k).b (gd3 V k).c _ _ rfl rfl W1) false (iff_of_false (by decide) (by rintro ⟨k, a, b⟩; rw [hv k a] at b; cases b)))
  have CB := Lib.hid (fun W (h : BdS W B L) => bhas_is 147 #[] nb_enter B D L p h5 W h (fun k hk W1 h1 => by
    obtain ⟨_, _, _, _, _, _, hsl⟩ := h.below h1 k hk
    simpa using nb_is (gdB L k).A (gdB L k).C (gdB L k).xs (gdB L k).lo (gdB L k).hi (hs k hk) (p k) (hp k) W1 hsl) true (iff_of_true rfl (by
    apply Classical.byContradiction
    intro hn
    exact hb fun k hk => (hp k).1 (not_true fun e => hn ⟨k, hk, e⟩))))
  clear hv hp hs hb
  have HG := Lib.hid hg
  clear hg
  have HM := Lib.hid hm
  clear hm
  have r0 : World.cell? (w.alloc (.cells #[.int .i64 0, .int .i64 0, .int .i64 0] 27)) ⟨w.heap.size, 0, none⟩ = some (.int .i64 0) := by simp [go_sem]
  have fr0 : World.frozen? (w.alloc (.cells #[.int .i64 0, .int .i64 0, .int .i64 0] 27)) ⟨w.heap.size, 0, none⟩ = false := by simp [go_sem]
  have r1 : World.cell? (w.alloc (.cells #[.int .i64 0, .int .i64 0, .int .i64 0] 27)) ⟨w.heap.size, 1, none⟩ = some (.int .i64 0) := by simp [go_sem]
  have fr1 : World.frozen? (w.alloc (.cells #[.int .i64 0, .int .i64 0, .int .i64 0] 27)) ⟨w.heap.size, 1, none⟩ = false := by simp [go_sem]
  have r2 : World.cell? (w.alloc (.cells #[.int .i64 0, .int .i64 0, .int .i64 0] 27)) ⟨w.heap.size, 2, none⟩ = some (.int .i64 0) := by simp [go_sem]
  have fr2 : World.frozen? (w.alloc (.cells #[.int .i64 0, .int .i64 0, .int .i64 0] 27)) ⟨w.heap.size, 2, none⟩ = false := by simp [go_sem]
  have lr : w.heap.size < (w.alloc (.cells #[.int .i64 0, .int .i64 0, .int .i64 0] 27)).heap.size := by simp <;> omega
  have HB := Lib.hid (show Below w.heap.size w (w.alloc (.cells #[.int .i64 0, .int .i64 0, .int .i64 0] 27)) from ((Below.refl _ _).alloc (by simp <;> omega) _))
  go_enter Try.func88, Try.ntmps88
  go_upto_region 1 with fail
  generalize w.alloc (.cells #[.int .i64 0, .int .i64 0, .int .i64 0] 27) = w1 at *
  replace HG := Lib.hid (HG.out.below HB.out)
  replace HM := Lib.hid (HM.out.below HB.out)
  go_wp2_with fail
  with_reducible refine (CV.out _ HG.out).mono ?_
  rintro e_ w2 ⟨rfl, hb⟩
  replace HB := Lib.hid (on_below HB.out hb)
  replace HG := Lib.hid (HG.out.below hb)
  replace HM := Lib.hid (HM.out.below hb)
  replace r0 := keepc hb r0
  replace r1 := keepc hb r1
  replace r2 := keepc hb r2
  replace fr0 := keepf hb lr fr0
  replace fr1 := keepf hb lr fr1
  replace fr2 := keepf hb lr fr2
  replace lr := Nat.lt_of_lt_of_le lr hb.size
  clear hb
  go_wp2_with fail
  with_reducible refine (CB.out _ HM.out).mono ?_
  rintro e_ w3 ⟨rfl, hb⟩
  replace HB := Lib.hid (on_below HB.out hb)
  replace HG := Lib.hid (HG.out.below hb)
  replace HM := Lib.hid (HM.out.below hb)
  replace r0 := keepc hb r0
  replace r1 := keepc hb r1
  replace r2 := keepc hb r2
  replace fr0 := keepf hb lr fr0
  replace fr1 := keepf hb lr fr1
  replace fr2 := keepf hb lr fr2
  replace lr := Nat.lt_of_lt_of_le lr hb.size
  clear hb
  go_wp2_with fail
  refine bodyPost_ret (v := .tuple #[.agg #[.int .i64 0, .int .i64 0, .int .i64 0], .bool false, .int .i64 1]) (by simp [results, Try.results88, go_sem, r0, r1, r2]) rfl ⟨rfl, ?_⟩
  repeat (first | (with_reducible exact HB.out) | (refine Below.setCell ?_ (by first | exact Nat.le_refl _ | (simp; done) | (simp; omega) | omega) _) | (refine Below.alloc ?_ (by first | exact Nat.le_refl _ | (simp; done) | (simp; omega) | omega) _) | (refine Below.drew ?_) | (refine below_drewN' ?_ _))
set_option maxRecDepth 100000 in
set_option maxHeartbeats 2000000 in
theorem df_3 (A : Option Addr) (C : Nat) (T : List Q4) (m : Int) (B : Option Addr) (D : Nat) (L : List Bv) (G : Option Addr) (I : Nat) (V : List P3) (h4 : T.length ≤ 9223372036854775807) (h5 : L.length ≤ 9223372036854775807) (h6 : V.length ≤ 2) (h : L.length ≤ 60) (hv : ∀ k, k < V.length → vv (gd3 V k).a (gd3 V k).b (gd3 V k).c = true) (hs : Bsm L) (hb : Bds L) (x y z : Int) (u : Bool) (E : Int) (ha : AtR T m x y z u E) (w : World) (hl : S4 w A T) (hg : S3 w G V) (hm : BdS w B L) :
    Calls Try.prog 88 #[.slice A T.length C, .int .i64 m, .slice B L.length D, .slice G V.length I] w fun e_ w' => e_ = .returned (.tuple #[.agg #[.int .i64 x, .int .i64 y, .int .i64 z], .bool u, .int .i64 E]) ∧ Below w.heap.size w w' := by
  have hmf : ∀ (fn : Fn) (first cap : Array Value) (w : World), (Instr.makeFunc fn first cap).run Try.prog w = .ok (.func fn first cap) w := fun _ _ _ _ => rfl
  obtain ⟨p, hp⟩ : ∃ p : Nat → Bool, ∀ k, p k = false ↔ Bok (gdB L k).xs (gdB L k).lo (gdB L k).hi := by
    classical
    exact ⟨fun k => !decide (Bok (gdB L k).xs (gdB L k).lo (gdB L k).hi), fun k => by simp⟩
  have CV := Lib.hid (fun W (h : S3 W G V) => v3has_is 146 #[] np_enter G I V (fun k => !(vv (gd3 V k).a (gd3 V k).b (gd3 V k).c)) (by omega) W h (fun k hk W1 _ => by simpa using np_is (gd3 V k).a (gd3 V k).b (gd3 V k).c _ _ rfl rfl W1) false (iff_of_false (by decide) (by rintro ⟨k, a, b⟩; rw [hv k a] at b; cases b)))
  have CB := Lib.hid (fun W (h : BdS W B L) => bhas_is 147 #[] nb_enter B D L p h5 W h (fun k hk W1 h1 => by
    obtain ⟨_, _, _, _, _, _, hsl⟩ := h.below h1 k hk
    simpa using nb_is (gdB L k).A (gdB L k).C (gdB L k).xs (gdB L k).lo (gdB L k).hi (hs k hk) (p k) (hp k) W1 hsl) false (iff_of_false (by decide) (by rintro ⟨k, a, b⟩; rw [(hp k).2 (hb k a)] at b; cases b)))
  have CA := Lib.hid (fun W (h : S4 W A T) => at_is A C T m h4 x y z u E ha W h)
  clear hv hp hs hb ha
  have HG := Lib.hid hg
  clear hg
  have HM := Lib.hid hm
  clear hm
  have HL := Lib.hid hl
  clear hl
  have r0 : World.cell? (w.alloc (.cells #[.int .i64 0, .int .i64 0, .int .i64 0] 27)) ⟨w.heap.size, 0, none⟩ = some (.int .i64 0) := by simp [go_sem]
  have fr0 : World.frozen? (w.alloc (.cells #[.int .i64 0, .int .i64 0, .int .i64 0] 27)) ⟨w.heap.size, 0, none⟩ = false := by simp [go_sem]
  have r1 : World.cell? (w.alloc (.cells #[.int .i64 0, .int .i64 0, .int .i64 0] 27)) ⟨w.heap.size, 1, none⟩ = some (.int .i64 0) := by simp [go_sem]
  have fr1 : World.frozen? (w.alloc (.cells #[.int .i64 0, .int .i64 0, .int .i64 0] 27)) ⟨w.heap.size, 1, none⟩ = false := by simp [go_sem]
  have r2 : World.cell? (w.alloc (.cells #[.int .i64 0, .int .i64 0, .int .i64 0] 27)) ⟨w.heap.size, 2, none⟩ = some (.int .i64 0) := by simp [go_sem]
  have fr2 : World.frozen? (w.alloc (.cells #[.int .i64 0, .int .i64 0, .int .i64 0] 27)) ⟨w.heap.size, 2, none⟩ = false := by simp [go_sem]
  have lr : w.heap.size < (w.alloc (.cells #[.int .i64 0, .int .i64 0, .int .i64 0] 27)).heap.size := by simp <;> omega
  have HB := Lib.hid (show Below w.heap.size w (w.alloc (.cells #[.int .i64 0, .int .i64 0, .int .i64 0] 27)) from ((Below.refl _ _).alloc (by simp <;> omega) _))
  go_enter Try.func88, Try.ntmps88
  go_upto_region 1 with fail
  generalize w.alloc (.cells #[.int .i64 0, .int .i64 0, .int .i64 0] 27) = w1 at *
  replace HG := Lib.hid (HG.out.below HB.out)
  replace HM := Lib.hid (HM.out.below HB.out)
  replace HL := Lib.hid (HL.out.below HB.out)
  go_wp2_with fail
  with_reducible refine (CV.out _ HG.out).mono ?_
  rintro e_ w2 ⟨rfl, hb⟩
  replace HB := Lib.hid (on_below HB.out hb)
  replace HG := Lib.hid (HG.out.below hb)
  replace HM := Lib.hid (HM.out.below hb)
  replace HL := Lib.hid (HL.out.below hb)
  replace r0 := keepc hb r0
  replace r1 := keepc hb r1
  replace r2 := keepc hb r2
  replace fr0 := keepf hb lr fr0
  replace fr1 := keepf hb lr fr1
  replace fr2 := keepf hb lr fr2
  replace lr := Nat.lt_of_lt_of_le lr hb.size
  clear hb
  go_wp2_with fail
  with_reducible refine (CB.out _ HM.out).mono ?_
  rintro e_ w3 ⟨rfl, hb⟩
  replace HB := Lib.hid (on_below HB.out hb)
  replace HG := Lib.hid (HG.out.below hb)
  replace HM := Lib.hid (HM.out.below hb)
  replace HL := Lib.hid (HL.out.below hb)
  replace r0 := keepc hb r0
  replace r1 := keepc hb r1
  replace r2 := keepc hb r2
  replace fr0 := keepf hb lr fr0
  replace fr1 := keepf hb lr fr1
  replace fr2 := keepf hb lr fr2
  replace lr := Nat.lt_of_lt_of_le lr hb.size
  clear hb
  go_wp2_with fail
  with_reducible refine (CA.out _ HL.out).mono ?_
  rintro e_ w4 ⟨rfl, hb⟩
  replace HB := Lib.hid (on_below HB.out hb)
  replace HG := Lib.hid (HG.out.below hb)
  replace HM := Lib.hid (HM.out.below hb)
  replace HL := Lib.hid (HL.out.below hb)
  replace r0 := keepc hb r0
  replace r1 := keepc hb r1
  replace r2 := keepc hb r2
  replace fr0 := keepf hb lr fr0
  replace fr1 := keepf hb lr fr1
  replace fr2 := keepf hb lr fr2
  replace lr := Nat.lt_of_lt_of_le lr hb.size
  clear hb
  go_wp2_with fail
  refine bodyPost_ret (v := .tuple #[.agg #[.int .i64 x, .int .i64 y, .int .i64 z], .bool u, .int .i64 E]) (by simp [results, Try.results88, go_sem, r0, r1, r2]) rfl ⟨rfl, ?_⟩
  repeat (first | (with_reducible exact HB.out) | (refine Below.setCell ?_ (by first | exact Nat.le_refl _ | (simp; done) | (simp; omega) | omega) _) | (refine Below.alloc ?_ (by first | exact Nat.le_refl _ | (simp; done) | (simp; omega) | omega) _) | (refine Below.drew ?_) | (refine below_drewN' ?_ _))
/-- What directionFor answers. -/
def DfR (T : List Q4) (m : Int) (L : List Bv) (V : List P3) (x y z : Int) (u : Bool) (E : Int) : Prop :=
  (60 < L.length ∧ x = 0 ∧ y = 0 ∧ z = 0 ∧ u = false ∧ E = 2) ∨ (L.length ≤ 60 ∧ ¬ ((∀ k, k < V.length → vv (gd3 V k).a (gd3 V k).b (gd3 V k).c = true) ∧ Bds L) ∧ x = 0 ∧ y = 0 ∧ z = 0 ∧ u = false ∧ E = 1) ∨
  (L.length ≤ 60 ∧ (∀ k, k < V.length → vv (gd3 V k).a (gd3 V k).b (gd3 V k).c = true) ∧ Bds L ∧ AtR T m x y z u E)
theorem df_is (A : Option Addr) (C : Nat) (T : List Q4) (m : Int) (B : Option Addr) (D : Nat) (L : List Bv) (G : Option Addr) (I : Nat) (V : List P3) (h4 : T.length ≤ 9223372036854775807) (h5 : L.length ≤ 9223372036854775807) (h6 : V.length ≤ 2) (hs : L.length ≤ 60 → Bsm L) (x y z : Int) (u : Bool) (E : Int) (hd : DfR T m L V x y z u E) (w : World) (hl : S4 w A T) (hg : S3 w G V) (hm : BdS w B L) :
    Calls Try.prog 88 #[.slice A T.length C, .int .i64 m, .slice B L.length D, .slice G V.length I] w fun e_ w' => e_ = .returned (.tuple #[.agg #[.int .i64 x, .int .i64 y, .int .i64 z], .bool u, .int .i64 E]) ∧ Below w.heap.size w w' := by
  rcases hd with ⟨h, rfl, rfl, rfl, rfl, rfl⟩ | ⟨h, hn, rfl, rfl, rfl, rfl, rfl⟩ | ⟨h, h1, h2, h3⟩
  · exact df_0 A C T m B D L G I V h4 h5 h6 h w
  · by_cases hv : ∀ k, k < V.length → vv (gd3 V k).a (gd3 V k).b (gd3 V k).c = true
    · exact df_2 A C T m B D L G I V h4 h5 h6 h hv (hs h) (fun hb => hn ⟨hv, hb⟩) w hg hm
    · refine df_1 A C T m B D L G I V h4 h5 h6 h ?_ w hg
      apply Classical.byContradiction
      intro hx
      exact hv fun k hk => by
        cases e : vv (gd3 V k).a (gd3 V k).b (gd3 V k).c
        · exact absurd ⟨k, hk, e⟩ hx
        · rfl
  · exact df_3 A C T m B D L G I V h4 h5 h6 h h1 (hs h) h2 x y z u E h3 w hl hg hm
end Go.Proofs.Ytgjcmolocoijiaa
