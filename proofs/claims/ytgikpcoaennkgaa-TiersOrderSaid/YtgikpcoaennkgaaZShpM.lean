/-
  The reference of layer 8: Same.
-/
import Derived.Test.YtgikpcoaennkgaaZShpF
namespace Go.Proofs.Ytgikpcoaennkgaa
open Go.RowKit Go.Sort
open Go.RowKit (Below)
set_option linter.unusedVariables false
set_option linter.unusedSimpArgs false

theorem pt_ne {a b x y : Int} {r : Bool} (h : decide (a = x ∧ b = y) = r) (w : World) : (binOp .neq 55 (.agg #[.int .i64 a, .int .i64 b]) (.agg #[.int .i64 x, .int .i64 y])).run Try.prog w = .ok (.bool (!r)) w := by
  subst h
  by_cases h1 : a = x
  · by_cases h2 : b = y
    · subst h1 h2; simp [go_sem]
    · simp [go_sem, h1, h2]
  · simp [go_sem, h1]
theorem list_eq {xs ys : List (Int × Int)} (hl : xs.length = ys.length) (h : ∀ j, j < xs.length → gdS xs j = gdS ys j) : xs = ys := by
  apply List.ext_getElem hl
  intro i h1 h2
  have := h i h1
  rwa [gdS_at h1, gdS_at h2] at this
set_option maxRecDepth 100000 in
set_option maxHeartbeats 4000000 in
theorem qsame_is (A B : Option Addr) (C D : Nat) (xs ys : List (Int × Int)) (la ha lb hb : Int) (hlx : xs.length ≤ 9223372036854775807) (hly : ys.length ≤ 9223372036854775807) (r : Bool) (hr : r = true ↔ la = lb ∧ ha = hb ∧ xs = ys) (w : World) (hl : SlS w A xs) (hm : SlS w B ys) :
    Calls Try.prog 36 #[.agg #[.slice A xs.length C, .int .i64 la, .int .i64 ha], .agg #[.slice B ys.length D, .int .i64 lb, .int .i64 hb]] w fun e_ w' => e_ = .returned (.bool r) ∧ Below w.heap.size w w' := by
  have HR := Lib.hid hr
  clear hr
  have HL := Lib.hid hl
  clear hl
  have HM := Lib.hid hm
  clear hm
  have p0 : World.cell? ((w.alloc (.cells #[.slice A xs.length C, .int .i64 la, .int .i64 ha] 47)).alloc (.cells #[.slice B ys.length D, .int .i64 lb, .int .i64 hb] 47)) ⟨w.heap.size, 0, none⟩ = some (.slice A xs.length C) := by simp [go_sem]
  have p1 : World.cell? ((w.alloc (.cells #[.slice A xs.length C, .int .i64 la, .int .i64 ha] 47)).alloc (.cells #[.slice B ys.length D, .int .i64 lb, .int .i64 hb] 47)) ⟨w.heap.size, 1, none⟩ = some (.int .i64 la) := by simp [go_sem]
  have p2 : World.cell? ((w.alloc (.cells #[.slice A xs.length C, .int .i64 la, .int .i64 ha] 47)).alloc (.cells #[.slice B ys.length D, .int .i64 lb, .int .i64 hb] 47)) ⟨w.heap.size, 2, none⟩ = some (.int .i64 ha) := by simp [go_sem]
  have lp : w.heap.size < ((w.alloc (.cells #[.slice A xs.length C, .int .i64 la, .int .i64 ha] 47)).alloc (.cells #[.slice B ys.length D, .int .i64 lb, .int .i64 hb] 47)).heap.size := by simp <;> omega
  have q0 : World.cell? ((w.alloc (.cells #[.slice A xs.length C, .int .i64 la, .int .i64 ha] 47)).alloc (.cells #[.slice B ys.length D, .int .i64 lb, .int .i64 hb] 47)) ⟨w.heap.size + 1, 0, none⟩ = some (.slice B ys.length D) := by simp [go_sem]
  have q1 : World.cell? ((w.alloc (.cells #[.slice A xs.length C, .int .i64 la, .int .i64 ha] 47)).alloc (.cells #[.slice B ys.length D, .int .i64 lb, .int .i64 hb] 47)) ⟨w.heap.size + 1, 1, none⟩ = some (.int .i64 lb) := by simp [go_sem]
  have q2 : World.cell? ((w.alloc (.cells #[.slice A xs.length C, .int .i64 la, .int .i64 ha] 47)).alloc (.cells #[.slice B ys.length D, .int .i64 lb, .int .i64 hb] 47)) ⟨w.heap.size + 1, 2, none⟩ = some (.int .i64 hb) := by simp [go_sem]
  have lq : w.heap.size + 1 < ((w.alloc (.cells #[.slice A xs.length C, .int .i64 la, .int .i64 ha] 47)).alloc (.cells #[.slice B ys.length D, .int .i64 lb, .int .i64 hb] 47)).heap.size := by simp <;> omega
  have HB := Lib.hid (show Below w.heap.size w ((w.alloc (.cells #[.slice A xs.length C, .int .i64 la, .int .i64 ha] 47)).alloc (.cells #[.slice B ys.length D, .int .i64 lb, .int .i64 hb] 47)) from (((Below.refl _ _).alloc (by simp <;> omega) _).alloc (by simp <;> omega) _))
  go_enter Try.func36, Try.ntmps36
  go_upto_region 1 with fail
  generalize (w.alloc (.cells #[.slice A xs.length C, .int .i64 la, .int .i64 ha] 47)).alloc (.cells #[.slice B ys.length D, .int .i64 lb, .int .i64 hb] 47) = w1 at *
  replace HL := Lib.hid (HL.out.below HB.out)
  replace HM := Lib.hid (HM.out.below HB.out)
  by_cases c1 : la = lb
  rotate_left
  · have hf := false_of (r := r) (fun e_ => c1 (by have e := HR.out.1 e_; exact e.1))
    subst hf
    go_wp2_with fail
    go_ret
    exact ⟨rfl, HB.out⟩
  by_cases c2 : ha = hb
  rotate_left
  · have hf := false_of (r := r) (fun e_ => c2 (by have e := HR.out.1 e_; exact e.2.1))
    subst hf
    go_wp2_with fail
    go_ret
    exact ⟨rfl, HB.out⟩
  by_cases c3 : xs.length = ys.length
  rotate_left
  · have hf := false_of (r := r) (fun e_ => c3 (by have e := HR.out.1 e_; exact congrArg List.length e.2.2))
    subst hf
    go_wp2_with fail
    go_ret
    exact ⟨rfl, HB.out⟩
  have C1 := Lib.hid c1
  have C2 := Lib.hid c2
  have C3 := Lib.hid c3
  have d1 : (la != lb) = false := by simp [c1]
  have d2 : (ha != hb) = false := by simp [c2]
  have d3 : ((xs.length : Int) != (ys.length : Int)) = false := by simp [c3]
  clear c1 c2
  go_wp2_with fail
  clear d1 d2 d3
  go_loopw [5] (fun i wr => ∃ k : Nat, k ≤ xs.length ∧ i = .int .i64 k ∧ Hid (∀ j, j < k → gdS xs j = gdS ys j) ∧ ∃ q, wr = w1.drewN q) (fun i _ => xs.length - (intOf i).toNat)
  case atStart => exact ⟨0, Nat.zero_le _, rfl, (fun j hj => absurd hj (Nat.not_lt_zero j)), 0, rfl⟩
  case round =>
    obtain ⟨k, hk, rfl, HK, q, rfl⟩ := hrel
    have HQ := Lib.hid (fun n => show (w1.drewN q).drewN n = w1.drewN (q + n) from World.drewN_drewN w1 q n)
    have HW := Lib.hid (fun n => below_drewN' HB.out n)
    by_cases hlt : k < xs.length
    · obtain ⟨b0, o0, rfl, e0, e1⟩ := HL.out k hlt
      obtain ⟨b1, o1, rfl, f0, f1⟩ := HM.out k (by omega)
      replace p0 : (w1.drewN q).cell? ⟨w.heap.size, 0, none⟩ = some (.slice (some ⟨b0, o0, none⟩) xs.length C) := p0
      replace q0 : (w1.drewN q).cell? ⟨w.heap.size + 1, 0, none⟩ = some (.slice (some ⟨b1, o1, none⟩) ys.length D) := q0
      replace e0 : (w1.drewN q).cell? ⟨b0, o0 + k * 2, none⟩ = some (.int .i64 (gdS xs k).1) := e0
      replace e1 : (w1.drewN q).cell? ⟨b0, o0 + k * 2 + 1, none⟩ = some (.int .i64 (gdS xs k).2) := e1
      replace f0 : (w1.drewN q).cell? ⟨b1, o1 + k * 2, none⟩ = some (.int .i64 (gdS ys k).1) := f0
      replace f1 : (w1.drewN q).cell? ⟨b1, o1 + k * 2 + 1, none⟩ = some (.int .i64 (gdS ys k).2) := f1
      have hlt2 : k < ys.length := by omega
      have HX := Lib.hid (show ((gdS xs k).1 = (gdS ys k).1 ∧ (gdS xs k).2 = (gdS ys k).2) → gdS xs k = gdS ys k from fun h => Prod.ext h.1 h.2)
      have HY := Lib.hid (show gdS xs k = gdS ys k → ((gdS xs k).1 = (gdS ys k).1 ∧ (gdS xs k).2 = (gdS ys k).2) from fun h => by rw [h]; exact ⟨rfl, rfl⟩)
      have HXY := Lib.hid (show r = true → gdS xs k = gdS ys k from fun e => by rw [(HR.out.1 e).2.2])
      generalize (gdS xs k).1 = a at *
      generalize (gdS xs k).2 = b at *
      generalize (gdS ys k).1 = c at *
      generalize (gdS ys k).2 = d at *
      by_cases hq : a = c ∧ b = d
      · have z := fun W => pt_ne (a := a) (b := b) (x := c) (y := d) (r := true) (decide_eq_true hq) W
        have z2 : ∀ W, (binOp .neq 55 (.agg #[.int .i64 a, .int .i64 b]) (.agg #[.int .i64 c, .int .i64 d])).run Try.prog W = .ok (.bool false) W := z
        have HE := Lib.hid (HX.out hq)
        clear hq z
        generalize w1.drewN q = wd at *
        go_wp2_with fail
        go_quiet (fail)
        go_wp2_with fail
        go_roundw
        case rel => exact ⟨k + 1, hlt, int_of (by omega), (fun j hj => by by_cases e : j = k; (subst e; exact HE.out); exact HK.out j (by omega)), _, HQ.out _⟩
        case measure => simp [intOf]; omega
      · have z := fun W => pt_ne (a := a) (b := b) (x := c) (y := d) (r := false) (decide_eq_false hq) W
        have z2 : ∀ W, (binOp .neq 55 (.agg #[.int .i64 a, .int .i64 b]) (.agg #[.int .i64 c, .int .i64 d])).run Try.prog W = .ok (.bool true) W := z
        have hf := false_of (r := r) (fun e => hq (HY.out (HXY.out e)))
        clear hq z HX HY HXY
        subst hf
        have HV := Lib.hid (HW.out q)
        generalize w1.drewN q = wd at *
        go_wp2_with fail
        go_quiet (fail)
        go_wp2_with fail
        go_ret
        exact ⟨rfl, below_drewN' HV.out _⟩
    · have hf := true_of (HR.out.2 ⟨C1.out, C2.out, list_eq C3.out (fun j hj => HK.out j (by omega))⟩)
      subst hf
      go_wp2_with fail
      go_ret
      exact ⟨rfl, HW.out q⟩
end Go.Proofs.Ytgikpcoaennkgaa
