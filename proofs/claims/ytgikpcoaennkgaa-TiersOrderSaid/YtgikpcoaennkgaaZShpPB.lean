/-
  Package shape: countLeft.
-/
import Derived.Test.YtgikpcoaennkgaaZShpPA
namespace Go.Proofs.Ytgikpcoaennkgaa
open Go.RowKit Go.Sort
open Go.RowKit (Below)
set_option linter.unusedVariables false
set_option linter.unusedSimpArgs false

/-- How many of the first k do. -/
def cnt (P : Nat → Bool) : Nat → Nat
  | 0 => 0
  | k + 1 => cnt P k + if P k then 1 else 0

theorem cnt_zero {P : Nat → Bool} : ∀ {k : Nat}, cnt P k = 0 ↔ ∀ i, i < k → P i = false
  | 0 => ⟨fun _ i h => absurd h (Nat.not_lt_zero i), fun _ => rfl⟩
  | k + 1 => by
    have ih := cnt_zero (P := P) (k := k)
    unfold cnt
    constructor
    · intro h i hi
      by_cases e : i = k
      · subst e
        cases hp : P i
        · rfl
        · rw [hp] at h; simp at h
      · exact ih.1 (by omega) i (by omega)
    · intro h
      have h1 := ih.2 fun i hi => h i (by omega)
      rw [h1, h k (by omega)]
      rfl

/-- Two that do not are all that do not, exactly if all others do. -/
theorem cnt_two {P : Nat → Bool} {n a b : Nat} (ha : a < n) (hb : b < n) (hab : a ≠ b) (pa : P a = false) (pb : P b = false) : cnt P n = n - 2 ↔ ∀ i, i < n → i ≠ a → i ≠ b → P i = true := by
  have key : ∀ k, k ≤ n → cnt P k + (if a < k then 1 else 0) + (if b < k then 1 else 0) ≤ k ∧ (cnt P k + (if a < k then 1 else 0) + (if b < k then 1 else 0) = k ↔ ∀ i, i < k → i ≠ a → i ≠ b → P i = true) := by
    intro k
    induction k with
    | zero => intro _; exact ⟨by simp [cnt], by simp [cnt]⟩
    | succ k ih =>
      intro hk
      obtain ⟨i1, i2⟩ := ih (by omega)
      have step : cnt P (k + 1) = cnt P k + if P k then 1 else 0 := rfl
      by_cases ea : k = a
      · subst ea
        rw [step, pa]
        have e1 : (if k < k + 1 then 1 else 0) = 1 := by simp
        have e2 : (if k < k then 1 else 0) = 0 := by simp
        have e3 : (if b < k + 1 then 1 else 0) = (if b < k then 1 else 0) := by split <;> split <;> omega
        rw [e1, e3]
        rw [e2] at i1 i2
        refine ⟨by simp; omega, ?_⟩
        constructor
        · intro h i hi h1 h2
          exact (i2.1 (by simp at h ⊢; omega)) i (by omega) h1 h2
        · intro h
          have := i2.2 fun i hi h1 h2 => h i (by omega) h1 h2
          simp at this ⊢; omega
      · by_cases eb : k = b
        · subst eb
          rw [step, pb]
          have e1 : (if k < k + 1 then 1 else 0) = 1 := by simp
          have e2 : (if k < k then 1 else 0) = 0 := by simp
          have e3 : (if a < k + 1 then 1 else 0) = (if a < k then 1 else 0) := by split <;> split <;> omega
          rw [e1, e3]
          rw [e2] at i1 i2
          refine ⟨by simp; omega, ?_⟩
          constructor
          · intro h i hi h1 h2
            exact (i2.1 (by simp at h ⊢; omega)) i (by omega) h1 h2
          · intro h
            have := i2.2 fun i hi h1 h2 => h i (by omega) h1 h2
            simp at this ⊢; omega
        · rw [step]
          have e3 : (if a < k + 1 then 1 else 0) = (if a < k then 1 else 0) := by split <;> split <;> omega
          have e4 : (if b < k + 1 then 1 else 0) = (if b < k then 1 else 0) := by split <;> split <;> omega
          rw [e3, e4]
          cases hp : P k
          · simp only [Bool.false_eq_true, if_false]
            refine ⟨by omega, ⟨fun h => by omega, fun h => ?_⟩⟩
            have := h k (by omega) ea eb
            rw [hp] at this; cases this
          · simp only [if_true]
            refine ⟨by omega, ?_⟩
            constructor
            · intro h i hi h1 h2
              by_cases e : i = k
              · rw [e]; exact hp
              · exact (i2.1 (by omega)) i (by omega) h1 h2
            · intro h
              have := i2.2 fun i hi h1 h2 => h i (by omega) h1 h2
              omega
  obtain ⟨k1, k2⟩ := key n (Nat.le_refl _)
  rw [if_pos ha, if_pos hb] at k1 k2
  rw [← k2]
  omega
/-- To the left of the line from one point to another one. -/
def lef (a b c d : Int) (xs : List (Int × Int)) (i : Nat) : Bool := decide (0 < crs a b c d (px xs i) (py xs i))
set_option maxRecDepth 100000 in
set_option maxHeartbeats 4000000 in
theorem count_is (a b c d : Int) (h1 : co a) (h2 : co b) (h3 : co c) (h4 : co d) (A : Option Addr) (C : Nat) (xs : List (Int × Int)) (hx : ∀ j, j < xs.length → co (px xs j) ∧ co (py xs j)) (hlen : xs.length ≤ 9223372036854775806) (n : Nat) (hn : cnt (lef a b c d xs) xs.length = n) (w : World) (hl : SlS w A xs) :
    Calls Try.prog 53 #[.agg #[.int .i64 a, .int .i64 b], .agg #[.int .i64 c, .int .i64 d], .slice A xs.length C] w fun e_ w' => e_ = .returned (.int .i64 n) ∧ Below w.heap.size w w' := by
  have HX := Lib.hid hx
  clear hx
  have HN := Lib.hid hn
  clear hn
  have HL := Lib.hid hl
  clear hl
  have H1 := Lib.hid h1
  clear h1
  have H2 := Lib.hid h2
  clear h2
  have H3 := Lib.hid h3
  clear h3
  have H4 := Lib.hid h4
  clear h4
  have p0 : World.cell? ((w.alloc (.cells #[.int .i64 a, .int .i64 b] 55)).alloc (.cells #[.int .i64 c, .int .i64 d] 55)) ⟨w.heap.size, 0, none⟩ = some (.int .i64 a) := by simp [go_sem]
  have p1 : World.cell? ((w.alloc (.cells #[.int .i64 a, .int .i64 b] 55)).alloc (.cells #[.int .i64 c, .int .i64 d] 55)) ⟨w.heap.size, 1, none⟩ = some (.int .i64 b) := by simp [go_sem]
  have lp : w.heap.size < ((w.alloc (.cells #[.int .i64 a, .int .i64 b] 55)).alloc (.cells #[.int .i64 c, .int .i64 d] 55)).heap.size := by simp <;> omega
  have q0 : World.cell? ((w.alloc (.cells #[.int .i64 a, .int .i64 b] 55)).alloc (.cells #[.int .i64 c, .int .i64 d] 55)) ⟨w.heap.size + 1, 0, none⟩ = some (.int .i64 c) := by simp [go_sem]
  have q1 : World.cell? ((w.alloc (.cells #[.int .i64 a, .int .i64 b] 55)).alloc (.cells #[.int .i64 c, .int .i64 d] 55)) ⟨w.heap.size + 1, 1, none⟩ = some (.int .i64 d) := by simp [go_sem]
  have lq : w.heap.size + 1 < ((w.alloc (.cells #[.int .i64 a, .int .i64 b] 55)).alloc (.cells #[.int .i64 c, .int .i64 d] 55)).heap.size := by simp <;> omega
  have HB := Lib.hid (show Below w.heap.size w ((w.alloc (.cells #[.int .i64 a, .int .i64 b] 55)).alloc (.cells #[.int .i64 c, .int .i64 d] 55)) from (((Below.refl _ _).alloc (by simp <;> omega) _).alloc (by simp <;> omega) _))
  go_enter Try.func53, Try.ntmps53
  go_upto_region 2 with fail
  generalize (w.alloc (.cells #[.int .i64 a, .int .i64 b] 55)).alloc (.cells #[.int .i64 c, .int .i64 d] 55) = w1 at *
  replace HL := Lib.hid (HL.out.below HB.out)
  go_wp2_with fail
  go_loopw [7, 14] (fun v i wr => ∃ k m : Nat, k ≤ xs.length ∧ m ≤ k ∧ v = .int .i64 m ∧ i = .int .i64 k ∧ Hid (cnt (lef a b c d xs) k = m) ∧ Below w1.heap.size w1 wr) (fun _ i _ => xs.length - (intOf i).toNat)
  case atStart => exact ⟨0, 0, Nat.zero_le _, Nat.zero_le _, rfl, rfl, rfl, Below.refl _ _⟩
  case round =>
    obtain ⟨k, m, hk, hmk, rfl, rfl, HK, hW⟩ := hrel
    replace p0 := keepc hW p0
    replace p1 := keepc hW p1
    replace q0 := keepc hW q0
    replace q1 := keepc hW q1
    replace lp : w.heap.size < wr.heap.size := block_lt p0
    replace lq : w.heap.size + 1 < wr.heap.size := block_lt q0
    have HW := Lib.hid (on_below HB.out hW)
    have HM := Lib.hid hW
    have HE := Lib.hid (HL.out.below hW)
    clear HL HB hW
    by_cases hlt : k < xs.length
    · obtain ⟨b0, o0, rfl, e0, e1⟩ := HE.out k hlt
      have HD := Lib.hid (HX.out k hlt)
      have HS := Lib.hid (show lef a b c d xs k = decide (0 < crs a b c d (gdS xs k).1 (gdS xs k).2) from rfl)
      have HT := Lib.hid (fun W => turn_is a b c d (gdS xs k).1 (gdS xs k).2 _ 0 (by rw [pp_iff.2 ⟨H1.out, H2.out⟩, pp_iff.2 ⟨H3.out, H4.out⟩, show pp (gdS xs k).1 (gdS xs k).2 = true from pp_iff.2 HD.out]; rfl) rfl W)
      generalize (gdS xs k).1 = x at *
      generalize (gdS xs k).2 = y at *
      have hsx : kp 0 (sgz (crs a b c d x y)) = sgz (crs a b c d x y) := rfl
      rw [hsx] at HT
      clear hsx
      obtain ⟨r, hr⟩ : ∃ r, decide (0 < crs a b c d x y) = r := ⟨_, rfl⟩
      rw [hr] at HS
      have hs1 : (sgz (crs a b c d x y) == 1) = r := by rw [← hr]; unfold sgz; by_cases g : 0 < crs a b c d x y <;> split <;> (try split) <;> simp_all <;> omega
      clear hr
      generalize sgz (crs a b c d x y) = s at *
      go_wp2_with fail
      have hb1 := below_new wr (.cells #[.int .i64 x, .int .i64 y] 55)
      with_reducible refine (HT.out _).mono ?_
      rintro e_ w2 ⟨rfl, hb⟩
      have HB2 := Lib.hid (on_below hb1 hb)
      clear hb hb1 HT
      cases r
      · go_wp2_with fail
        go_roundw
        case rel => exact ⟨k + 1, m, hlt, by omega, rfl, int_of (by omega), (by show cnt _ k + _ = m; rw [HS.out, HK.out]; rfl), HM.out.trans (HB2.out.mono HM.out.size)⟩
        case measure => simp [intOf]; omega
      · go_wp2_with fail
        go_roundw
        case rel => exact ⟨k + 1, m + 1, hlt, by omega, int_of (by omega), int_of (by omega), (by show cnt _ k + _ = m + 1; rw [HS.out, HK.out]; rfl), HM.out.trans (HB2.out.mono HM.out.size)⟩
        case measure => simp [intOf]; omega
    · have hm : m = n := by rw [← HK.out, ← HN.out, show k = xs.length by omega]
      subst hm
      go_wp2_with fail
      go_ret
      exact ⟨rfl, HW.out⟩
end Go.Proofs.Ytgikpcoaennkgaa
