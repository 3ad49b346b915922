/-
  Package shape: comparePoints and the least corner.
-/
import Derived.Test.YtgikpcoaennkgaaZShpPB
import Derived.LoopN
namespace Go.Proofs.Ytgikpcoaennkgaa
open Go.RowKit Go.Sort
open Go.RowKit (Below)
set_option linter.unusedVariables false
set_option linter.unusedSimpArgs false

/-- The first one that is not 0. -/
def orv (x y : Int) : Int := if x = 0 then y else x
theorem or_is (g : Nat) (x y r : Int) (hr : orv x y = r) (w : World) (h0 : w.cell? ⟨g, 0, none⟩ = some (.int .i64 x)) (h1 : w.cell? ⟨g, 1, none⟩ = some (.int .i64 y)) :
    Calls Try.prog 68 #[.slice (some ⟨g, 0, none⟩) 2 2] w fun e_ w' => e_ = .returned (.int .i64 r) ∧ w = w' := by
  subst hr
  by_cases hx : x = 0
  · have e1 : (x != 0) = false := by rw [bne_eq_false_iff_eq]; exact hx
    have hv : orv x y = y := by unfold orv; rw [if_pos hx]
    rw [hv]
    clear hv hx
    by_cases hy : y = 0
    · have e2 : (y != 0) = false := by rw [bne_eq_false_iff_eq]; exact hy
      have HY := Lib.hid hy
      clear hy
      go_enter Try.func68, Try.ntmps68
      go_wp2_with fail
      refine wp_loop_rounds 3 ?_
      rw [rounds_succ]
      go_wp2
      rw [rounds_succ]
      go_wp2
      rw [rounds_succ]
      go_wp2
      all_goals (go_ret; exact ⟨ret_int (by have := HY.out; omega), rfl⟩)
    · have e2 : (y != 0) = true := by rw [bne_iff_ne]; exact hy
      clear hy
      go_enter Try.func68, Try.ntmps68
      go_wp2_with fail
      refine wp_loop_rounds 3 ?_
      rw [rounds_succ]
      go_wp2
      rw [rounds_succ]
      go_wp2
      all_goals (go_ret; exact ⟨rfl, rfl⟩)
  · have e1 : (x != 0) = true := by rw [bne_iff_ne]; exact hx
    have hv : orv x y = x := by unfold orv; rw [if_neg hx]
    rw [hv]
    clear hv hx
    go_enter Try.func68, Try.ntmps68
    go_wp2_with fail
    refine wp_loop_rounds 3 ?_
    rw [rounds_succ]
    go_wp2
    all_goals (go_ret; exact ⟨rfl, rfl⟩)
set_option maxRecDepth 100000 in
set_option maxHeartbeats 2000000 in
theorem cpoints_is (a b c d r : Int) (ha : I64 a) (hb : I64 b) (hc : I64 c) (hd : I64 d) (hr : orv (sgn a c) (sgn b d) = r) (w : World) :
    Calls Try.prog 47 #[.agg #[.int .i64 a, .int .i64 b], .agg #[.int .i64 c, .int .i64 d]] w fun e_ w' => e_ = .returned (.int .i64 r) ∧ Below w.heap.size w w' := by
  have H1 := Lib.hid (fun W => compare_any a c W ha hc)
  have H2 := Lib.hid (fun W => compare_any b d W hb hd)
  have H3 := Lib.hid (fun g W h0 h1 => or_is g (sgn a c) (sgn b d) r hr W h0 h1)
  clear hr ha hb hc hd
  generalize sgn a c = s at *
  generalize sgn b d = t at *
  have p0 : World.cell? ((w.alloc (.cells #[.int .i64 a, .int .i64 b] 55)).alloc (.cells #[.int .i64 c, .int .i64 d] 55)) ⟨w.heap.size, 0, none⟩ = some (.int .i64 a) := by simp [go_sem]
  have p1 : World.cell? ((w.alloc (.cells #[.int .i64 a, .int .i64 b] 55)).alloc (.cells #[.int .i64 c, .int .i64 d] 55)) ⟨w.heap.size, 1, none⟩ = some (.int .i64 b) := by simp [go_sem]
  have lp : w.heap.size < ((w.alloc (.cells #[.int .i64 a, .int .i64 b] 55)).alloc (.cells #[.int .i64 c, .int .i64 d] 55)).heap.size := by simp <;> omega
  have q0 : World.cell? ((w.alloc (.cells #[.int .i64 a, .int .i64 b] 55)).alloc (.cells #[.int .i64 c, .int .i64 d] 55)) ⟨w.heap.size + 1, 0, none⟩ = some (.int .i64 c) := by simp [go_sem]
  have q1 : World.cell? ((w.alloc (.cells #[.int .i64 a, .int .i64 b] 55)).alloc (.cells #[.int .i64 c, .int .i64 d] 55)) ⟨w.heap.size + 1, 1, none⟩ = some (.int .i64 d) := by simp [go_sem]
  have lq : w.heap.size + 1 < ((w.alloc (.cells #[.int .i64 a, .int .i64 b] 55)).alloc (.cells #[.int .i64 c, .int .i64 d] 55)).heap.size := by simp <;> omega
  have HB := Lib.hid (show Below w.heap.size w ((w.alloc (.cells #[.int .i64 a, .int .i64 b] 55)).alloc (.cells #[.int .i64 c, .int .i64 d] 55)) from (((Below.refl _ _).alloc (by simp <;> omega) _).alloc (by simp <;> omega) _))
  go_enter Try.func47, Try.ntmps47
  go_upto_region 1 with fail
  generalize (w.alloc (.cells #[.int .i64 a, .int .i64 b] 55)).alloc (.cells #[.int .i64 c, .int .i64 d] 55) = w1 at *
  have kp : ∀ {W : World}, Below w1.heap.size w1 W → W.cell? ⟨w.heap.size, 0, none⟩ = some (.int .i64 a) ∧ W.cell? ⟨w.heap.size, 1, none⟩ = some (.int .i64 b) ∧ W.cell? ⟨w.heap.size + 1, 0, none⟩ = some (.int .i64 c) ∧ W.cell? ⟨w.heap.size + 1, 1, none⟩ = some (.int .i64 d) ∧ Below w1.heap.size w1 W := fun h => ⟨keepc h p0, keepc h p1, keepc h q0, keepc h q1, h⟩
  go_region_held3 (fun W => W.cell? ⟨w.heap.size, 0, none⟩ = some (.int .i64 a) ∧ W.cell? ⟨w.heap.size, 1, none⟩ = some (.int .i64 b) ∧ W.cell? ⟨w.heap.size + 1, 0, none⟩ = some (.int .i64 c) ∧ W.cell? ⟨w.heap.size + 1, 1, none⟩ = some (.int .i64 d) ∧ Below w1.heap.size w1 W)
    (first | assumption | exact kp (Below.refl _ _).drew | (go_split_ands; refine kp ?_; (first | assumption | (refine Below.alloc (by assumption) ?_ _; exact (show Below _ _ _ by assumption).size))))
    (first | (go_at_call 69; (with_reducible refine (H1.out _).mono ?_); rintro e' wq ⟨rfl, hw⟩; subst hw) | (go_at_call 69; (with_reducible refine (H2.out _).mono ?_); rintro e' wq ⟨rfl, hw⟩; subst hw) | (go_at_call 68; (with_reducible refine (H3.out _ _ ?_ ?_).mono ?_); (focus (simp [go_sem]; done)); (focus (simp [go_sem]; done)); rintro e' wq ⟨rfl, hw⟩; subst hw))
  all_goals go_split_ands
  all_goals (go_wp2_with fail)
  all_goals go_ret
  all_goals exact ⟨rfl, on_below HB.out (by assumption)⟩
/-- Before, by X, and of equal X by Y. -/
def lxl (a b c d : Int) : Bool := decide (a < c) || (decide (a = c) && decide (b < d))
theorem lxl_iff {a b c d : Int} : lxl a b c d = true ↔ a < c ∨ (a = c ∧ b < d) := by unfold lxl; simp
theorem orv_lt {a b c d : Int} : decide (orv (sgn a c) (sgn b d) < 0) = lxl a b c d := by
  unfold orv sgn lxl
  by_cases h1 : a < c
  · rw [if_pos h1]; simp [h1]
  · rw [if_neg h1]
    by_cases h2 : c < a
    · rw [if_pos h2]
      have : ¬ a = c := by omega
      simp [h1, this]
    · rw [if_neg h2]
      have : a = c := by omega
      subst this
      by_cases h3 : b < d
      · simp [h3]
      · by_cases h4 : d < b
        · simp [h3, h4]
        · simp [h3, h4]
/-- The least of the first k corners, as far as one has looked. -/
def lea (xs : List (Int × Int)) : Nat → Nat
  | 0 => 0
  | k + 1 => if lxl (gdS xs k).1 (gdS xs k).2 (gdS xs (lea xs k)).1 (gdS xs (lea xs k)).2 then k else lea xs k
theorem lea_le (xs : List (Int × Int)) : ∀ k, lea xs k ≤ k
  | 0 => Nat.le_refl _
  | k + 1 => by have := lea_le xs k; unfold lea; split <;> omega
theorem lea_lt (xs : List (Int × Int)) {k : Nat} (h : 0 < k) : lea xs k < k := by
  cases k with
  | zero => omega
  | succ k => have := lea_le xs k; unfold lea; split <;> omega
theorem lea_least (xs : List (Int × Int)) : ∀ k i, i < k → lxl (gdS xs i).1 (gdS xs i).2 (gdS xs (lea xs k)).1 (gdS xs (lea xs k)).2 = false
  | 0, i, h => absurd h (Nat.not_lt_zero i)
  | k + 1, i, h => by
    have ih := lea_least xs k
    have hs : ∀ j, lxl (gdS xs j).1 (gdS xs j).2 (gdS xs j).1 (gdS xs j).2 = false := fun j => by unfold lxl; simp
    unfold lea
    by_cases c : lxl (gdS xs k).1 (gdS xs k).2 (gdS xs (lea xs k)).1 (gdS xs (lea xs k)).2 = true
    · rw [if_pos c]
      by_cases e : i = k
      · rw [e]; exact hs k
      · have h2 := ih i (by omega)
        have h1 := lxl_iff.1 c
        cases hh : lxl (gdS xs i).1 (gdS xs i).2 (gdS xs k).1 (gdS xs k).2
        · rfl
        · have h3 := lxl_iff.1 hh
          have : lxl (gdS xs i).1 (gdS xs i).2 (gdS xs (lea xs k)).1 (gdS xs (lea xs k)).2 = true := lxl_iff.2 (by omega)
          rw [h2] at this; cases this
    · rw [if_neg c]
      by_cases e : i = k
      · rw [e]; simpa using c
      · exact ih i (by omega)
theorem lea_one (xs : List (Int × Int)) : lea xs 1 = 0 := by have := lea_lt xs (k := 1) (by omega); omega

set_option maxRecDepth 100000 in
set_option maxHeartbeats 4000000 in
theorem least_is (A : Option Addr) (C : Nat) (xs : List (Int × Int)) (hx : ∀ j, j < xs.length → I64 (gdS xs j).1 ∧ I64 (gdS xs j).2) (h1 : 1 ≤ xs.length) (hlen : xs.length ≤ 9223372036854775806) (x y : Int) (hxy : gdS xs (lea xs xs.length) = (x, y)) (w : World) (hl : SlS w A xs) :
    Calls Try.prog 46 #[.slice A xs.length C, .func (.func 47) #[] #[]] w fun e_ w' => e_ = .returned (.agg #[.int .i64 x, .int .i64 y]) ∧ Below w.heap.size w w' := by
  have HX := Lib.hid hx
  clear hx
  have HXY := Lib.hid hxy
  clear hxy
  have HL := Lib.hid hl
  clear hl
  have HL0 := Lib.hid HL.out
  have HB := Lib.hid (show Below w.heap.size w (w.alloc (.cells #[.int .i64 0, .int .i64 0] 55)) from below_new _ _)
  obtain ⟨b0, o0, hA, z0, z1⟩ := HL.out 0 (by omega)
  subst hA
  rw [Nat.zero_mul, Nat.add_zero] at z0 z1
  have HZ := Lib.hid (show (gdS xs 0).1 = (gdS xs (lea xs 1)).1 ∧ (gdS xs 0).2 = (gdS xs (lea xs 1)).2 by rw [lea_one]; exact ⟨rfl, rfl⟩)
  generalize (gdS xs 0).1 = u0 at *
  generalize (gdS xs 0).2 = v0 at *
  have n1 : ∀ i, World.frozen? (w.alloc (.cells #[.int .i64 0, .int .i64 0] 55)) ⟨w.heap.size, i, none⟩ = false := fun i => by simp [go_sem]
  have y0 : World.cell? (w.alloc (.cells #[.int .i64 0, .int .i64 0] 55)) ⟨w.heap.size, 0, none⟩ = some (.int .i64 0) := by simp [go_sem]
  have y1 : World.cell? (w.alloc (.cells #[.int .i64 0, .int .i64 0] 55)) ⟨w.heap.size, 1, none⟩ = some (.int .i64 0) := by simp [go_sem]
  go_enter Try.func46, Try.ntmps46
  go_upto_region 1 with fail
  replace z0 := keepc HB.out z0
  replace z1 := keepc HB.out z1
  replace HL := Lib.hid (HL.out.below HB.out)
  generalize w.alloc (.cells #[.int .i64 0, .int .i64 0] 55) = w1 at *
  have n10 := n1 0
  have n11 := n1 1
  clear n1
  have hg : w.heap.size < w1.heap.size := block_lt y0
  go_wp2_with fail
  have HB2 := Lib.hid (below_new w1 (.cells #[.int .i64 u0, .int .i64 v0] 55))
  have HLc := Lib.hid (Lc.here w1 u0 v0 55)
  replace y0 := keepc HB2.out y0
  replace y1 := keepc HB2.out y1
  replace n10 := keepf HB2.out hg n10
  replace n11 := keepf HB2.out hg n11
  replace HL := Lib.hid (HL.out.below HB2.out)
  clear z0 z1
  generalize w1.alloc (.cells #[.int .i64 u0, .int .i64 v0] 55) = w2 at *
  have hgm : w.heap.size < w1.heap.size := hg
  generalize hgg : w1.heap.size = gm at *
  have HB3 := Lib.hid (HB.out.trans (HB2.out.mono (Nat.le_of_lt hg)))
  clear hgg HB HB2 hg
  replace hg : w.heap.size < w2.heap.size := block_lt y0
  go_loopw [6] (fun i wr => ∃ (k : Nat) (X Y : Int), 1 ≤ k ∧ k ≤ xs.length ∧ i = .int .i64 k ∧ Hid (X = (gdS xs (lea xs k)).1 ∧ Y = (gdS xs (lea xs k)).2) ∧ Lc wr gm X Y ∧ Lc wr w.heap.size 0 0 ∧ Below w.heap.size w wr) (fun i _ => xs.length - (intOf i).toNat)
  case atStart => exact ⟨1, u0, v0, Nat.le_refl _, h1, rfl, HZ.out, HLc.out, ⟨⟨y0, y1⟩, n10, n11⟩, HB3.out⟩
  case round =>
    obtain ⟨k, X, Y, hk1, hk, rfl, HK, hL, hR, hW⟩ := hrel
    obtain ⟨⟨c0, c1⟩, cf0, cf1⟩ := hL
    have HR := Lib.hid hR
    have HW := Lib.hid hW
    have HS := Lib.hid (HL0.out.below hW)
    have lgm : gm < wr.heap.size := block_lt c0
    clear hR hW HL HZ HLc HB3 y0 y1 n10 n11
    by_cases hlt : k < xs.length
    · obtain ⟨e0, e1⟩ := sl_two HS.out hlt
      obtain ⟨q, hq⟩ : ∃ q, lxl (gdS xs k).1 (gdS xs k).2 X Y = q := ⟨_, rfl⟩
      have HC := Lib.hid (fun (iX : I64 X) (iY : I64 Y) W => cpoints_is (gdS xs k).1 (gdS xs k).2 X Y _ (HX.out k hlt).1 (HX.out k hlt).2 iX iY rfl W)
      have iX : I64 X := by rw [HK.out.1]; exact (HX.out _ (by have := lea_lt xs (show 0 < k by omega); omega)).1
      have iY : I64 Y := by rw [HK.out.2]; exact (HX.out _ (by have := lea_lt xs (show 0 < k by omega); omega)).2
      replace HC := Lib.hid (HC.out iX iY)
      have hq2 := orv_lt (a := (gdS xs k).1) (b := (gdS xs k).2) (c := X) (d := Y)
      rw [hq] at hq2
      have HQ := Lib.hid hq
      have HN := Lib.hid (show lea xs (k + 1) = if lxl (gdS xs k).1 (gdS xs k).2 (gdS xs (lea xs k)).1 (gdS xs (lea xs k)).2 then k else lea xs k from rfl)
      rw [← HK.out.1, ← HK.out.2, hq] at HN
      have HP := Lib.hid (show (gdS xs k).1 = (gdS xs k).1 ∧ (gdS xs k).2 = (gdS xs k).2 from ⟨rfl, rfl⟩)
      clear hq iX iY HQ
      obtain ⟨x9, hx9⟩ : ∃ v, v = (gdS xs k).1 := ⟨_, rfl⟩
      obtain ⟨y9, hy9⟩ : ∃ v, v = (gdS xs k).2 := ⟨_, rfl⟩
      replace HP := Lib.hid (And.intro hx9 hy9)
      rw [← hx9, ← hy9] at HC hq2
      rw [← hx9] at e0
      rw [← hy9] at e1
      clear hx9 hy9
      generalize orv (sgn x9 X) (sgn y9 Y) = s at *
      go_upto_region 7 with fail
      have kp : ∀ {W : World}, Below wr.heap.size wr W → W.cell? ⟨gm, 0, none⟩ = some (.int .i64 X) ∧ W.cell? ⟨gm, 1, none⟩ = some (.int .i64 Y) ∧ W.cell? ⟨b0, o0 + k * 2, none⟩ = some (.int .i64 x9) ∧ W.cell? ⟨b0, o0 + k * 2 + 1, none⟩ = some (.int .i64 y9) ∧ Below wr.heap.size wr W := fun h => ⟨keepc h c0, keepc h c1, keepc h e0, keepc h e1, h⟩
      go_region_held3 (fun W => W.cell? ⟨gm, 0, none⟩ = some (.int .i64 X) ∧ W.cell? ⟨gm, 1, none⟩ = some (.int .i64 Y) ∧ W.cell? ⟨b0, o0 + k * 2, none⟩ = some (.int .i64 x9) ∧ W.cell? ⟨b0, o0 + k * 2 + 1, none⟩ = some (.int .i64 y9) ∧ Below wr.heap.size wr W)
        (first | assumption | exact kp (Below.refl _ _).drew | (go_split_ands; refine kp ?_; (first | (refine on_below ?_ hb; assumption) | assumption)))
        (first | (go_at_call 47; (with_reducible refine (HC.out _).mono ?_); rintro e' w9 ⟨rfl, hb⟩))
      go_split_ands
      have hB : Below wr.heap.size wr w9 := by assumption
      have HB9 := Lib.hid (on_below HW.out hB)
      have HLn := Lib.hid (Lc.on (⟨⟨c0, c1⟩, cf0, cf1⟩ : Lc wr gm X Y) hB)
      have HRn := Lib.hid (HR.out.on hB)
      replace c0 := keepc hB c0
      replace c1 := keepc hB c1
      replace e0 := keepc hB e0
      replace e1 := keepc hB e1
      replace cf0 := keepf hB lgm cf0
      replace cf1 := keepf hB lgm cf1
      clear hb kp HC hB HS
      cases q
      · clear c0 c1 e0 e1 cf0 cf1
        go_wp2_with fail
        go_roundw
        case rel => exact ⟨k + 1, X, Y, by omega, hlt, int_of (by omega), (by rw [HN.out]; exact HK.out), HLn.out, HRn.out, HB9.out⟩
        case measure => simp [intOf]; omega
      · go_wp2_with fail
        go_roundw
        case rel => exact ⟨k + 1, x9, y9, by omega, hlt, int_of (by omega), (by rw [HN.out]; exact HP.out), HLn.out.put, HRn.out.set (by omega), (HB9.out.setCell (by show w.heap.size ≤ gm; omega) _).setCell (by show w.heap.size ≤ gm; omega) _⟩
        case measure => simp [intOf]; omega
    · have hke : k = xs.length := by omega
      have HXX := Lib.hid (show X = x ∧ Y = y by rw [HK.out.1, HK.out.2, hke, HXY.out]; exact ⟨rfl, rfl⟩)
      obtain ⟨rfl, rfl⟩ := HXX.out
      obtain ⟨⟨r0, r1⟩, rf0, rf1⟩ := HR.out
      clear hke HXX HK HXY
      go_wp2_with fail
      refine bodyPost_ret (v := .agg #[.int .i64 X, .int .i64 Y]) (by simp [results, Try.results46, go_sem, r0, r1]) rfl ⟨rfl, ?_⟩
      exact (HW.out.setCell (by simp) _).setCell (by simp) _
end Go.Proofs.Ytgikpcoaennkgaa
