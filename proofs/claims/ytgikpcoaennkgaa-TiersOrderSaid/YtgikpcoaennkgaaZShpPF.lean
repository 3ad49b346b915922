/-
  Package shape: isInRange.
-/
import Derived.Test.YtgikpcoaennkgaaZShpPA
namespace Go.Proofs.Ytgikpcoaennkgaa
open Go.RowKit Go.Sort
open Go.RowKit (Below)
set_option linter.unusedVariables false
set_option linter.unusedSimpArgs false

set_option maxRecDepth 100000 in
set_option maxHeartbeats 4000000 in
theorem inrange_is (A : Option Addr) (C : Nat) (xs : List (Int × Int)) (lo hi : Int) (hlen : xs.length ≤ 9223372036854775806) (r : Bool) (hr : r = true ↔ ∀ j, j < xs.length → vv (gdS xs j).1 (gdS xs j).2 lo = true ∧ vv (gdS xs j).1 (gdS xs j).2 hi = true) (w : World) (hl : SlS w A xs) :
    Calls Try.prog 44 #[.agg #[.slice A xs.length C, .int .i64 lo, .int .i64 hi]] w fun e_ w' => e_ = .returned (.bool r) ∧ Below w.heap.size w w' := by
  have HR := Lib.hid hr
  clear hr
  have HL := Lib.hid hl
  clear hl
  have p0 : World.cell? (w.alloc (.cells #[.slice A xs.length C, .int .i64 lo, .int .i64 hi] 47)) ⟨w.heap.size, 0, none⟩ = some (.slice A xs.length C) := by simp [go_sem]
  have p1 : World.cell? (w.alloc (.cells #[.slice A xs.length C, .int .i64 lo, .int .i64 hi] 47)) ⟨w.heap.size, 1, none⟩ = some (.int .i64 lo) := by simp [go_sem]
  have p2 : World.cell? (w.alloc (.cells #[.slice A xs.length C, .int .i64 lo, .int .i64 hi] 47)) ⟨w.heap.size, 2, none⟩ = some (.int .i64 hi) := by simp [go_sem]
  have lp : w.heap.size < (w.alloc (.cells #[.slice A xs.length C, .int .i64 lo, .int .i64 hi] 47)).heap.size := by simp <;> omega
  have HB := Lib.hid (show Below w.heap.size w (w.alloc (.cells #[.slice A xs.length C, .int .i64 lo, .int .i64 hi] 47)) from ((Below.refl _ _).alloc (by simp <;> omega) _))
  go_enter Try.func44, Try.ntmps44
  go_upto_region 1 with fail
  generalize w.alloc (.cells #[.slice A xs.length C, .int .i64 lo, .int .i64 hi] 47) = w1 at *
  replace HL := Lib.hid (HL.out.below HB.out)
  go_wp2_with fail
  go_loopw [8] (fun i wr => ∃ k : Nat, k ≤ xs.length ∧ i = .int .i64 k ∧ Hid (∀ j, j < k → vv (gdS xs j).1 (gdS xs j).2 lo = true ∧ vv (gdS xs j).1 (gdS xs j).2 hi = true) ∧ Below w1.heap.size w1 wr) (fun i _ => xs.length - (intOf i).toNat)
  case atStart => exact ⟨0, Nat.zero_le _, rfl, fun j hj => absurd hj (Nat.not_lt_zero j), Below.refl _ _⟩
  case round =>
    obtain ⟨k, hk, rfl, HK, hW⟩ := hrel
    replace p0 := keepc hW p0
    replace p1 := keepc hW p1
    replace p2 := keepc hW p2
    replace lp : w.heap.size < wr.heap.size := block_lt p0
    have HW := Lib.hid (on_below HB.out hW)
    have HM := Lib.hid hW
    have HE := Lib.hid (HL.out.below hW)
    clear HL HB hW
    by_cases hlt : k < xs.length
    · obtain ⟨b0, o0, rfl, e0, e1⟩ := HE.out k hlt
      obtain ⟨r1, hr1⟩ : ∃ q, vv (gdS xs k).1 (gdS xs k).2 lo = q := ⟨_, rfl⟩
      obtain ⟨r2, hr2⟩ : ∃ q, vv (gdS xs k).1 (gdS xs k).2 hi = q := ⟨_, rfl⟩
      have HV := Lib.hid (And.intro hr1 hr2)
      have H1 := Lib.hid (fun W => vvalid_is _ _ _ r1 hr1 W)
      have H2 := Lib.hid (fun W => vvalid_is _ _ _ r2 hr2 W)
      clear hr1 hr2
      have hHV := HV.out
      replace HV := Lib.hid (show (r1 = true ∧ r2 = true) ↔ (vv (gdS xs k).1 (gdS xs k).2 lo = true ∧ vv (gdS xs k).1 (gdS xs k).2 hi = true) by rw [hHV.1, hHV.2])
      clear hHV
      obtain ⟨x, hx⟩ : ∃ v, v = (gdS xs k).1 := ⟨_, rfl⟩
      obtain ⟨y, hy⟩ : ∃ v, v = (gdS xs k).2 := ⟨_, rfl⟩
      rw [← hx, ← hy] at H1 H2
      rw [← hx] at e0
      rw [← hy] at e1
      clear hx hy
      go_wp2_with fail
      have c0 : World.cell? (wr.alloc (.cells #[.int .i64 x, .int .i64 y] 55)) ⟨wr.heap.size, 0, none⟩ = some (.int .i64 x) := by simp [go_sem]
      have c1 : World.cell? (wr.alloc (.cells #[.int .i64 x, .int .i64 y] 55)) ⟨wr.heap.size, 1, none⟩ = some (.int .i64 y) := by simp [go_sem]
      have hb1 := below_new wr (.cells #[.int .i64 x, .int .i64 y] 55)
      replace p0 := keepc hb1 p0
      replace p1 := keepc hb1 p1
      replace p2 := keepc hb1 p2
      generalize wr.alloc (.cells #[.int .i64 x, .int .i64 y] 55) = w2 at *
      with_reducible refine (H1.out _).mono ?_
      rintro e_ w3 ⟨rfl, hb⟩
      have HB3 := Lib.hid (on_below hb1 hb)
      replace p0 := keepc hb p0
      replace p1 := keepc hb p1
      replace p2 := keepc hb p2
      replace c0 := keepc hb c0
      replace c1 := keepc hb c1
      clear hb hb1 H1 e0 e1
      cases r1
      · clear H2
        go_wp2_with fail
        go_ret
        exact ⟨ret_bool (false_of fun e => by have h := HV.out.2 (HR.out.1 e k hlt); cases h.1), on_below HW.out HB3.out⟩
      · go_wp2_with fail
        with_reducible refine (H2.out _).mono ?_
        rintro e_ w4 ⟨rfl, hb⟩
        have HB4 := Lib.hid (on_below HB3.out hb)
        clear hb H2 p0 p1 p2 c0 c1
        cases r2
        · go_wp2_with fail
          go_ret
          exact ⟨ret_bool (false_of fun e => by have h := HV.out.2 (HR.out.1 e k hlt); cases h.2), on_below HW.out HB4.out⟩
        · go_wp2_with fail
          go_roundw
          case rel => exact ⟨k + 1, hlt, int_of (by omega), (fun j hj => by by_cases e : j = k; (subst e; exact HV.out.1 (by first | exact ⟨rfl, rfl⟩ | exact ⟨trivial, trivial⟩ | simp)); exact HK.out j (by omega)), HM.out.trans (HB4.out.mono HM.out.size)⟩
          case measure => simp [intOf]; omega
    · have hf := true_of (HR.out.2 fun j hj => HK.out j (by omega))
      subst hf
      go_wp2_with fail
      go_ret
      exact ⟨rfl, HW.out⟩
end Go.Proofs.Ytgikpcoaennkgaa
