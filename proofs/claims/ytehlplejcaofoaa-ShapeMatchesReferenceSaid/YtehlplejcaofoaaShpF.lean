/-
  The reference of layer 8: beyond, parted.
-/
import Derived.Test.YtehlplejcaofoaaShpE
import Derived.Test.YtehlplejcaofoaaShpW
import Derived.Deep.RegionHeld3
import Derived.Deep.LoopGhost
namespace Go.Proofs.Ytehlplejcaofoaa
open Go.RowKit Go.Sort
open Go.RowKit (Below)
set_option linter.unusedVariables false
set_option linter.unusedSimpArgs false

theorem false_of {r : Bool} (h : ¬ r = true) : false = r := by cases r <;> simp_all
theorem true_of {r : Bool} (h : r = true) : true = r := h.symm
theorem int_of {a b : Int} (h : a = b) : Value.int .i64 a = .int .i64 b := by rw [h]
set_option maxRecDepth 100000 in
set_option maxHeartbeats 2000000 in
theorem qbey_any (a b c d : Int) (h1 : co a) (h2 : co b) (h3 : co c) (h4 : co d) (A : Option Addr) (C : Nat) (xs : List (Int × Int)) (hx : ∀ j, j < xs.length → co (px xs j) ∧ co (py xs j)) (hlen : xs.length ≤ 9223372036854775807) (r : Bool) (hr : r = true ↔ ∀ j, j < xs.length → crs a b c d (px xs j) (py xs j) ≤ 0) (w : World) (hl : SlS w A xs) :
    Calls Try.prog 97 #[.agg #[.int .i64 a, .int .i64 b], .agg #[.int .i64 c, .int .i64 d], .slice A xs.length C] w fun e_ w' => e_ = .returned (.bool r) ∧ Below w.heap.size w w' := by
  have H1 := Lib.hid h1
  clear h1
  have H2 := Lib.hid h2
  clear h2
  have H3 := Lib.hid h3
  clear h3
  have H4 := Lib.hid h4
  clear h4
  have HX := Lib.hid hx
  clear hx
  have HR := Lib.hid hr
  clear hr
  have HL := Lib.hid hl
  clear hl
  have p0 : World.cell? ((w.alloc (.cells #[.int .i64 a, .int .i64 b] 43)).alloc (.cells #[.int .i64 c, .int .i64 d] 43)) ⟨w.heap.size, 0, none⟩ = some (.int .i64 a) := by simp [go_sem]
  have p1 : World.cell? ((w.alloc (.cells #[.int .i64 a, .int .i64 b] 43)).alloc (.cells #[.int .i64 c, .int .i64 d] 43)) ⟨w.heap.size, 1, none⟩ = some (.int .i64 b) := by simp [go_sem]
  have lp : w.heap.size < ((w.alloc (.cells #[.int .i64 a, .int .i64 b] 43)).alloc (.cells #[.int .i64 c, .int .i64 d] 43)).heap.size := by simp <;> omega
  have q0 : World.cell? ((w.alloc (.cells #[.int .i64 a, .int .i64 b] 43)).alloc (.cells #[.int .i64 c, .int .i64 d] 43)) ⟨w.heap.size + 1, 0, none⟩ = some (.int .i64 c) := by simp [go_sem]
  have q1 : World.cell? ((w.alloc (.cells #[.int .i64 a, .int .i64 b] 43)).alloc (.cells #[.int .i64 c, .int .i64 d] 43)) ⟨w.heap.size + 1, 1, none⟩ = some (.int .i64 d) := by simp [go_sem]
  have lq : w.heap.size + 1 < ((w.alloc (.cells #[.int .i64 a, .int .i64 b] 43)).alloc (.cells #[.int .i64 c, .int .i64 d] 43)).heap.size := by simp <;> omega
  have HB := Lib.hid (show Below w.heap.size w ((w.alloc (.cells #[.int .i64 a, .int .i64 b] 43)).alloc (.cells #[.int .i64 c, .int .i64 d] 43)) from (((Below.refl _ _).alloc (by simp <;> omega) _).alloc (by simp <;> omega) _))
  go_enter Try.func97, Try.ntmps97
  go_upto_region 1 with fail
  generalize (w.alloc (.cells #[.int .i64 a, .int .i64 b] 43)).alloc (.cells #[.int .i64 c, .int .i64 d] 43) = w1 at *
  replace HL := Lib.hid (HL.out.below HB.out)
  go_wp2_with fail
  go_loopw [7] (fun i wr => ∃ k : Nat, k ≤ xs.length ∧ i = .int .i64 k ∧ Hid (∀ j, j < k → crs a b c d (px xs j) (py xs j) ≤ 0) ∧ Below w1.heap.size w1 wr) (fun i _ => xs.length - (intOf i).toNat)
  case atStart => exact ⟨0, Nat.zero_le _, rfl, fun j hj => absurd hj (Nat.not_lt_zero j), Below.refl _ _⟩
  case round =>
    obtain ⟨k, hk, rfl, HK, hW⟩ := hrel
    replace p0 := keepc hW p0
    replace p1 := keepc hW p1
    replace q0 := keepc hW q0
    replace q1 := keepc hW q1
    have HW := Lib.hid (on_below HB.out hW)
    have HM := Lib.hid hW
    have HE := Lib.hid (HL.out.below hW)
    clear HL HB hW lp lq
    by_cases hlt : k < xs.length
    · obtain ⟨b0, o0, rfl, e0, e1⟩ := HE.out k hlt
      have HD := Lib.hid (HX.out k hlt)
      have hp : px xs k = (gdS xs k).1 := rfl
      have hq : py xs k = (gdS xs k).2 := rfl
      have HP := Lib.hid hp
      have HQ := Lib.hid hq
      clear hp hq
      generalize hs_ : crs a b c d (px xs k) (py xs k) = s
      have HS := Lib.hid hs_
      clear hs_
      have HC := Lib.hid (fun W => qside_is a b c d (gdS xs k).1 (gdS xs k).2 s H1.out H2.out H3.out H4.out HD.out.1 HD.out.2 HS.out W)
      generalize (gdS xs k).1 = x at *
      generalize (gdS xs k).2 = y at *
      go_wp2_with fail
      have kp : ∀ {W : World}, Below wr.heap.size wr W → W.cell? ⟨w.heap.size, 0, none⟩ = some (.int .i64 a) ∧ W.cell? ⟨w.heap.size, 1, none⟩ = some (.int .i64 b) ∧ W.cell? ⟨w.heap.size + 1, 0, none⟩ = some (.int .i64 c) ∧ W.cell? ⟨w.heap.size + 1, 1, none⟩ = some (.int .i64 d) ∧ W.cell? ⟨b0, o0 + k * 2, none⟩ = some (.int .i64 x) ∧ W.cell? ⟨b0, o0 + k * 2 + 1, none⟩ = some (.int .i64 y) ∧ Below wr.heap.size wr W := fun h => ⟨keepc h p0, keepc h p1, keepc h q0, keepc h q1, keepc h e0, keepc h e1, h⟩
      go_region_held3 (fun W => W.cell? ⟨w.heap.size, 0, none⟩ = some (.int .i64 a) ∧ W.cell? ⟨w.heap.size, 1, none⟩ = some (.int .i64 b) ∧ W.cell? ⟨w.heap.size + 1, 0, none⟩ = some (.int .i64 c) ∧ W.cell? ⟨w.heap.size + 1, 1, none⟩ = some (.int .i64 d) ∧ W.cell? ⟨b0, o0 + k * 2, none⟩ = some (.int .i64 x) ∧ W.cell? ⟨b0, o0 + k * 2 + 1, none⟩ = some (.int .i64 y) ∧ Below wr.heap.size wr W)
        (first | assumption | exact kp (Below.refl _ _).drew | (go_split_ands; refine kp ?_; (first | (refine on_below ?_ hb; assumption) | assumption)))
        (first | (go_at_call 47; (with_reducible refine (HC.out _).mono ?_); rintro e' w2 ⟨rfl, hb⟩))
      go_split_ands
      have hB : Below wr.heap.size wr w2 := by assumption
      clear hb kp HC e0 e1 p0 p1 q0 q1
      by_cases hs : 0 < s
      · go_wp2_with fail
        go_ret
        exact ⟨ret_bool (false_of fun e => by have h1 := HR.out.1 e k hlt; have h2 := HS.out; omega), on_below HW.out hB⟩
      · go_wp2_with fail
        go_roundw
        case rel => exact ⟨k + 1, hlt, int_of (by omega), (fun j hj => by by_cases e : j = k; (subst e; have h2 := HS.out; omega); exact HK.out j (by omega)), HM.out.trans (hB.mono HM.out.size)⟩
        case measure => simp [intOf]; omega
    · go_wp2_with fail
      go_ret
      exact ⟨ret_bool (true_of (HR.out.2 fun j hj => HK.out j (by omega))), HW.out⟩
theorem bool_of (p : Prop) : ∃ r : Bool, r = true ↔ p := by classical exact ⟨decide p, decide_eq_true_iff⟩
theorem sl_two {w : World} {b o : Nat} {xs : List (Int × Int)} (h : SlS w (some ⟨b, o, none⟩) xs) {k : Nat} (hk : k < xs.length) : w.cell? ⟨b, o + k * 2, none⟩ = some (.int .i64 (gdS xs k).1) ∧ w.cell? ⟨b, o + k * 2 + 1, none⟩ = some (.int .i64 (gdS xs k).2) := by
  obtain ⟨b1, o1, e, h1, h2⟩ := h k hk
  injection e with e
  injection e with e1 e2
  subst e1 e2
  exact ⟨h1, h2⟩
theorem nx_tmod {n k : Nat} (h : k < n) : ((k : Int) + 1).tmod n = (nx n k : Nat) := by
  rw [← nx_mod h, Int.tmod_eq_emod_of_nonneg (by omega)]; norm_cast
theorem nx_emod {n k : Nat} (h : k < n) : ((k : Int) + 1) % n = (nx n k : Nat) := by
  rw [← nx_mod h]; norm_cast
set_option maxRecDepth 100000 in
set_option maxHeartbeats 2000000 in
theorem qpar_any (A B : Option Addr) (C D : Nat) (xs ys : List (Int × Int)) (hx : ∀ j, j < xs.length → co (px xs j) ∧ co (py xs j)) (hy : ∀ j, j < ys.length → co (px ys j) ∧ co (py ys j)) (lx : xs.length ≤ 9223372036854775806) (ly : ys.length ≤ 9223372036854775807) (r : Bool) (hr : r = true ↔ Par xs ys) (w : World) (hl : SlS w A xs) (hm : SlS w B ys) :
    Calls Try.prog 61 #[.slice A xs.length C, .slice B ys.length D] w fun e_ w' => e_ = .returned (.bool r) ∧ Below w.heap.size w w' := by
  have HX := Lib.hid hx
  clear hx
  have HY := Lib.hid hy
  clear hy
  have HR := Lib.hid hr
  clear hr
  have HL := Lib.hid hl
  clear hl
  have HM := Lib.hid hm
  clear hm
  have HB := Lib.hid (show Below w.heap.size w (w) from (Below.refl _ _))
  go_enter Try.func61, Try.ntmps61
  go_wp2_with fail
  go_loopw [5] (fun i wr => ∃ k : Nat, k ≤ xs.length ∧ i = .int .i64 k ∧ Hid (∀ j, j < k → ¬ ∀ i, i < ys.length → crs (px xs j) (py xs j) (px xs (nx xs.length j)) (py xs (nx xs.length j)) (px ys i) (py ys i) ≤ 0) ∧ Below w.heap.size w wr) (fun i _ => xs.length - (intOf i).toNat)
  case atStart => exact ⟨0, Nat.zero_le _, rfl, fun j hj => absurd hj (Nat.not_lt_zero j), Below.refl _ _⟩
  case round =>
    obtain ⟨k, hk, rfl, HK, hW⟩ := hrel
    have HE := Lib.hid (HL.out.below hW)
    have HF := Lib.hid (HM.out.below hW)
    have HW := Lib.hid hW
    clear HL HM HB hW
    by_cases hlt : k < xs.length
    · obtain ⟨b0, o0, rfl, e0, e1⟩ := HE.out k hlt
      have hn := nx_lt hlt
      obtain ⟨f0, f1⟩ := sl_two HE.out hn
      obtain ⟨q, hq⟩ := bool_of (∀ i, i < ys.length → crs (px xs k) (py xs k) (px xs (nx xs.length k)) (py xs (nx xs.length k)) (px ys i) (py ys i) ≤ 0)
      have HQ := Lib.hid hq
      have HC := Lib.hid (fun W (hW : Below wr.heap.size wr W) => qbey_any (gdS xs k).1 (gdS xs k).2 (gdS xs (nx xs.length k)).1 (gdS xs (nx xs.length k)).2 (HX.out k hlt).1 (HX.out k hlt).2 (HX.out _ hn).1 (HX.out _ hn).2 B D ys HY.out ly q hq W (HF.out.below hW))
      clear hq
      have m1 := nx_tmod hlt
      have m2 := nx_emod hlt
      have w1_ : IntKind.i64.wrap ((k : Int) + 1) = (k : Int) + 1 := IntWalk.i64_in _ ⟨by omega, by omega⟩
      have w2_ : wrap64 ((k : Int) + 1) = (k : Int) + 1 := IntWalk.wrap64_in _ ⟨by omega, by omega⟩
      have z1 : ¬ (xs.length : Int) = 0 := by omega
      have z3 : ¬ xs = [] := by intro e; rw [e] at hlt; exact absurd hlt (Nat.not_lt_zero _)
      have z4 : ¬ xs.length = 0 := by omega
      have z2 : ((xs.length : Int) == 0) = false := by rw [beq_eq_false_iff_ne]; exact z1
      have w3_ : IntKind.i64.wrap ((nx xs.length k : Nat) : Int) = (nx xs.length k : Nat) := IntWalk.i64_in _ ⟨by omega, by omega⟩
      generalize hnx : nx xs.length k = m at *
      have HN := Lib.hid hnx
      clear hnx
      generalize (gdS xs k).1 = x at *
      generalize (gdS xs k).2 = y at *
      generalize (gdS xs m).1 = u at *
      generalize (gdS xs m).2 = v at *
      go_wp2_with fail
      have kp : ∀ {W : World}, Below wr.heap.size wr W → W.cell? ⟨b0, o0 + k * 2, none⟩ = some (.int .i64 x) ∧ W.cell? ⟨b0, o0 + k * 2 + 1, none⟩ = some (.int .i64 y) ∧ W.cell? ⟨b0, o0 + m * 2, none⟩ = some (.int .i64 u) ∧ W.cell? ⟨b0, o0 + m * 2 + 1, none⟩ = some (.int .i64 v) ∧ Below wr.heap.size wr W := fun h => ⟨keepc h e0, keepc h e1, keepc h f0, keepc h f1, h⟩
      go_region_held3 (fun W => W.cell? ⟨b0, o0 + k * 2, none⟩ = some (.int .i64 x) ∧ W.cell? ⟨b0, o0 + k * 2 + 1, none⟩ = some (.int .i64 y) ∧ W.cell? ⟨b0, o0 + m * 2, none⟩ = some (.int .i64 u) ∧ W.cell? ⟨b0, o0 + m * 2 + 1, none⟩ = some (.int .i64 v) ∧ Below wr.heap.size wr W)
        (first | assumption | exact kp (Below.refl _ _).drew | (go_split_ands; refine kp ?_; (first | (refine on_below ?_ hb; assumption) | assumption)))
        (first | (go_at_call 97; (with_reducible refine (HC.out _ ?_).mono ?_); (first | exact (Below.refl _ _).drew | (go_split_ands; assumption)); rintro e' w2 ⟨rfl, hb⟩))
      go_split_ands
      have hB : Below wr.heap.size wr w2 := by assumption
      clear hb kp HC e0 e1 f0 f1 m1 m2 w1_ w2_ w3_ z1 z2 z3 z4 hn
      cases q
      · go_wp2_with fail
        go_roundw
        case rel => exact ⟨k + 1, hlt, int_of (by omega), (fun j hj => by by_cases e : j = k; (subst e; intro h; have h2 := HQ.out.2 (by have := HN.out; subst this; exact h); cases h2); exact HK.out j (by omega)), on_below HW.out hB⟩
        case measure => simp [intOf]; omega
      · go_wp2_with fail
        go_ret
        exact ⟨ret_bool (true_of (HR.out.2 ⟨k, hlt, by have := HN.out; subst this; exact HQ.out.1 (by first | rfl | trivial)⟩)), on_below HW.out hB⟩
    · go_wp2_with fail
      go_ret
      exact ⟨ret_bool (false_of fun e => by obtain ⟨j, hj, h⟩ := HR.out.1 e; exact HK.out j (by omega) h), HW.out⟩
end Go.Proofs.Ytehlplejcaofoaa
