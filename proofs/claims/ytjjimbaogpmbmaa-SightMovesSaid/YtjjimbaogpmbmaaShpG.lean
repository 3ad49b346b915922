/-
  The reference of layer 8: Valid.
-/
import Derived.Test.YtjjimbaogpmbmaaShpF
namespace Go.Proofs.Ytjjimbaogpmbmaa
open Go.RowKit Go.Sort
open Go.RowKit (Below)
set_option linter.unusedVariables false
set_option linter.unusedSimpArgs false

set_option maxRecDepth 100000 in
set_option maxHeartbeats 2000000 in
theorem qv_1 (A : Option Addr) (C : Nat) (xs : List (Int × Int)) (lo hi : Int) (hlen : xs.length ≤ 9223372036854775807) (hn : xs.length < 3) (w : World) (hl : SlS w A xs) :
    Calls Try.prog 118 #[.agg #[.slice A xs.length C, .int .i64 lo, .int .i64 hi]] w fun e_ w' => e_ = .returned (.bool false) ∧ Below w.heap.size w w' := by
  have p0 : World.cell? (w.alloc (.cells #[.slice A xs.length C, .int .i64 lo, .int .i64 hi] 42)) ⟨w.heap.size, 0, none⟩ = some (.slice A xs.length C) := by simp [go_sem]
  have p1 : World.cell? (w.alloc (.cells #[.slice A xs.length C, .int .i64 lo, .int .i64 hi] 42)) ⟨w.heap.size, 1, none⟩ = some (.int .i64 lo) := by simp [go_sem]
  have p2 : World.cell? (w.alloc (.cells #[.slice A xs.length C, .int .i64 lo, .int .i64 hi] 42)) ⟨w.heap.size, 2, none⟩ = some (.int .i64 hi) := by simp [go_sem]
  have lp : w.heap.size < (w.alloc (.cells #[.slice A xs.length C, .int .i64 lo, .int .i64 hi] 42)).heap.size := by simp <;> omega
  have HB := Lib.hid (show Below w.heap.size w (w.alloc (.cells #[.slice A xs.length C, .int .i64 lo, .int .i64 hi] 42)) from ((Below.refl _ _).alloc (by simp <;> omega) _))
  go_enter Try.func118, Try.ntmps118
  go_upto_region 1 with fail
  generalize w.alloc (.cells #[.slice A xs.length C, .int .i64 lo, .int .i64 hi] 42) = w1 at *
  go_wp2_with fail
  go_ret
  exact ⟨rfl, HB.out⟩
set_option maxRecDepth 100000 in
set_option maxHeartbeats 2000000 in
theorem qv_2 (A : Option Addr) (C : Nat) (xs : List (Int × Int)) (lo hi : Int) (hlen : xs.length ≤ 9223372036854775807) (hn : 8 < xs.length) (w : World) (hl : SlS w A xs) :
    Calls Try.prog 118 #[.agg #[.slice A xs.length C, .int .i64 lo, .int .i64 hi]] w fun e_ w' => e_ = .returned (.bool false) ∧ Below w.heap.size w w' := by
  have p0 : World.cell? (w.alloc (.cells #[.slice A xs.length C, .int .i64 lo, .int .i64 hi] 42)) ⟨w.heap.size, 0, none⟩ = some (.slice A xs.length C) := by simp [go_sem]
  have p1 : World.cell? (w.alloc (.cells #[.slice A xs.length C, .int .i64 lo, .int .i64 hi] 42)) ⟨w.heap.size, 1, none⟩ = some (.int .i64 lo) := by simp [go_sem]
  have p2 : World.cell? (w.alloc (.cells #[.slice A xs.length C, .int .i64 lo, .int .i64 hi] 42)) ⟨w.heap.size, 2, none⟩ = some (.int .i64 hi) := by simp [go_sem]
  have lp : w.heap.size < (w.alloc (.cells #[.slice A xs.length C, .int .i64 lo, .int .i64 hi] 42)).heap.size := by simp <;> omega
  have HB := Lib.hid (show Below w.heap.size w (w.alloc (.cells #[.slice A xs.length C, .int .i64 lo, .int .i64 hi] 42)) from ((Below.refl _ _).alloc (by simp <;> omega) _))
  go_enter Try.func118, Try.ntmps118
  go_upto_region 1 with fail
  generalize w.alloc (.cells #[.slice A xs.length C, .int .i64 lo, .int .i64 hi] 42) = w1 at *
  go_wp2_with fail
  go_ret
  exact ⟨rfl, HB.out⟩
set_option maxRecDepth 100000 in
set_option maxHeartbeats 2000000 in
theorem qv_3 (A : Option Addr) (C : Nat) (xs : List (Int × Int)) (lo hi : Int) (hn : 3 ≤ xs.length) (hn8 : xs.length ≤ 8) (h1 : inr lo = false) (w : World) (hl : SlS w A xs) :
    Calls Try.prog 118 #[.agg #[.slice A xs.length C, .int .i64 lo, .int .i64 hi]] w fun e_ w' => e_ = .returned (.bool false) ∧ Below w.heap.size w w' := by
  have H1 := Lib.hid h1
  clear h1
  have p0 : World.cell? (w.alloc (.cells #[.slice A xs.length C, .int .i64 lo, .int .i64 hi] 42)) ⟨w.heap.size, 0, none⟩ = some (.slice A xs.length C) := by simp [go_sem]
  have p1 : World.cell? (w.alloc (.cells #[.slice A xs.length C, .int .i64 lo, .int .i64 hi] 42)) ⟨w.heap.size, 1, none⟩ = some (.int .i64 lo) := by simp [go_sem]
  have p2 : World.cell? (w.alloc (.cells #[.slice A xs.length C, .int .i64 lo, .int .i64 hi] 42)) ⟨w.heap.size, 2, none⟩ = some (.int .i64 hi) := by simp [go_sem]
  have lp : w.heap.size < (w.alloc (.cells #[.slice A xs.length C, .int .i64 lo, .int .i64 hi] 42)).heap.size := by simp <;> omega
  have HB := Lib.hid (show Below w.heap.size w (w.alloc (.cells #[.slice A xs.length C, .int .i64 lo, .int .i64 hi] 42)) from ((Below.refl _ _).alloc (by simp <;> omega) _))
  go_enter Try.func118, Try.ntmps118
  go_upto_region 1 with fail
  generalize w.alloc (.cells #[.slice A xs.length C, .int .i64 lo, .int .i64 hi] 42) = w1 at *
  go_wp2_with fail
  refine (in_is lo false H1.out _).mono ?_
  rintro e_ wq ⟨rfl, hw⟩
  subst hw
  go_wp2_with fail
  go_ret
  exact ⟨rfl, HB.out⟩
set_option maxRecDepth 100000 in
set_option maxHeartbeats 2000000 in
theorem qv_4 (A : Option Addr) (C : Nat) (xs : List (Int × Int)) (lo hi : Int) (hn : 3 ≤ xs.length) (hn8 : xs.length ≤ 8) (h1 : inr lo = true) (h2 : inr hi = false) (w : World) (hl : SlS w A xs) :
    Calls Try.prog 118 #[.agg #[.slice A xs.length C, .int .i64 lo, .int .i64 hi]] w fun e_ w' => e_ = .returned (.bool false) ∧ Below w.heap.size w w' := by
  have H1 := Lib.hid h1
  clear h1
  have H2 := Lib.hid h2
  clear h2
  have p0 : World.cell? (w.alloc (.cells #[.slice A xs.length C, .int .i64 lo, .int .i64 hi] 42)) ⟨w.heap.size, 0, none⟩ = some (.slice A xs.length C) := by simp [go_sem]
  have p1 : World.cell? (w.alloc (.cells #[.slice A xs.length C, .int .i64 lo, .int .i64 hi] 42)) ⟨w.heap.size, 1, none⟩ = some (.int .i64 lo) := by simp [go_sem]
  have p2 : World.cell? (w.alloc (.cells #[.slice A xs.length C, .int .i64 lo, .int .i64 hi] 42)) ⟨w.heap.size, 2, none⟩ = some (.int .i64 hi) := by simp [go_sem]
  have lp : w.heap.size < (w.alloc (.cells #[.slice A xs.length C, .int .i64 lo, .int .i64 hi] 42)).heap.size := by simp <;> omega
  have HB := Lib.hid (show Below w.heap.size w (w.alloc (.cells #[.slice A xs.length C, .int .i64 lo, .int .i64 hi] 42)) from ((Below.refl _ _).alloc (by simp <;> omega) _))
  go_enter Try.func118, Try.ntmps118
  go_upto_region 1 with fail
  generalize w.alloc (.cells #[.slice A xs.length C, .int .i64 lo, .int .i64 hi] 42) = w1 at *
  go_wp2_with fail
  refine (in_is lo true H1.out _).mono ?_
  rintro e_ wq ⟨rfl, hw⟩
  subst hw
  go_wp2_with fail
  refine (in_is hi false H2.out _).mono ?_
  rintro e_ wq ⟨rfl, hw⟩
  subst hw
  go_wp2_with fail
  go_ret
  exact ⟨rfl, HB.out⟩
set_option maxRecDepth 100000 in
set_option maxHeartbeats 2000000 in
theorem qv_5 (A : Option Addr) (C : Nat) (xs : List (Int × Int)) (lo hi : Int) (hn : 3 ≤ xs.length) (hn8 : xs.length ≤ 8) (h1 : inr lo = true) (h2 : inr hi = true) (hz : hi ≤ lo) (w : World) (hl : SlS w A xs) :
    Calls Try.prog 118 #[.agg #[.slice A xs.length C, .int .i64 lo, .int .i64 hi]] w fun e_ w' => e_ = .returned (.bool false) ∧ Below w.heap.size w w' := by
  have H1 := Lib.hid h1
  clear h1
  have H2 := Lib.hid h2
  clear h2
  have p0 : World.cell? (w.alloc (.cells #[.slice A xs.length C, .int .i64 lo, .int .i64 hi] 42)) ⟨w.heap.size, 0, none⟩ = some (.slice A xs.length C) := by simp [go_sem]
  have p1 : World.cell? (w.alloc (.cells #[.slice A xs.length C, .int .i64 lo, .int .i64 hi] 42)) ⟨w.heap.size, 1, none⟩ = some (.int .i64 lo) := by simp [go_sem]
  have p2 : World.cell? (w.alloc (.cells #[.slice A xs.length C, .int .i64 lo, .int .i64 hi] 42)) ⟨w.heap.size, 2, none⟩ = some (.int .i64 hi) := by simp [go_sem]
  have lp : w.heap.size < (w.alloc (.cells #[.slice A xs.length C, .int .i64 lo, .int .i64 hi] 42)).heap.size := by simp <;> omega
  have HB := Lib.hid (show Below w.heap.size w (w.alloc (.cells #[.slice A xs.length C, .int .i64 lo, .int .i64 hi] 42)) from ((Below.refl _ _).alloc (by simp <;> omega) _))
  go_enter Try.func118, Try.ntmps118
  go_upto_region 1 with fail
  generalize w.alloc (.cells #[.slice A xs.length C, .int .i64 lo, .int .i64 hi] 42) = w1 at *
  go_wp2_with fail
  refine (in_is lo true H1.out _).mono ?_
  rintro e_ wq ⟨rfl, hw⟩
  subst hw
  go_wp2_with fail
  refine (in_is hi true H2.out _).mono ?_
  rintro e_ wq ⟨rfl, hw⟩
  subst hw
  go_wp2_with fail
  go_ret
  exact ⟨rfl, HB.out⟩
/-- What Valid looks at, corner by corner. -/
def Fst (xs : List (Int × Int)) (j : Nat) : Prop := 0 < j → px xs 0 < px xs j ∨ (px xs 0 = px xs j ∧ py xs 0 < py xs j)
def Edg (xs : List (Int × Int)) (j m : Nat) : Prop := m ≠ j → m ≠ nx xs.length j → 0 < tr (px xs) (py xs) j (nx xs.length j) m
theorem bok_of {xs : List (Int × Int)} {lo hi : Int} (h1 : 3 ≤ xs.length) (h2 : xs.length ≤ 8) (h3 : co lo) (h4 : co hi) (h5 : lo < hi) (h6 : ∀ j, j < xs.length → co (px xs j) ∧ co (py xs j)) (h7 : ∀ j, j < xs.length → Fst xs j ∧ ∀ m, m < xs.length → Edg xs j m) : Bok xs lo hi :=
  ⟨h1, h2, fun i hi => (h6 i hi).1, fun i hi => (h6 i hi).2, h3, h4, h5, fun i h0 hi => (h7 i hi).1 h0, fun i j hi hj a b => (h7 i hi).2 j hj a b⟩
theorem bok_co {xs : List (Int × Int)} {lo hi : Int} (b : Bok xs lo hi) {j : Nat} (hj : j < xs.length) : co (px xs j) ∧ co (py xs j) := ⟨b.rx j hj, b.ry j hj⟩
set_option maxRecDepth 100000 in
set_option maxHeartbeats 4000000 in
theorem qv_6 (A : Option Addr) (C : Nat) (xs : List (Int × Int)) (lo hi : Int) (hn : 3 ≤ xs.length) (hn8 : xs.length ≤ 8) (h1 : inr lo = true) (h2 : inr hi = true) (hz : lo < hi) (r : Bool) (hr : r = true ↔ Bok xs lo hi) (w : World) (hl : SlS w A xs) :
    Calls Try.prog 118 #[.agg #[.slice A xs.length C, .int .i64 lo, .int .i64 hi]] w fun e_ w' => e_ = .returned (.bool r) ∧ Below w.heap.size w w' := by
  have H1 := Lib.hid h1
  clear h1
  have H2 := Lib.hid h2
  clear h2
  have HR := Lib.hid hr
  clear hr
  have HL := Lib.hid hl
  clear hl
  have p0 : World.cell? (w.alloc (.cells #[.slice A xs.length C, .int .i64 lo, .int .i64 hi] 42)) ⟨w.heap.size, 0, none⟩ = some (.slice A xs.length C) := by simp [go_sem]
  have p1 : World.cell? (w.alloc (.cells #[.slice A xs.length C, .int .i64 lo, .int .i64 hi] 42)) ⟨w.heap.size, 1, none⟩ = some (.int .i64 lo) := by simp [go_sem]
  have p2 : World.cell? (w.alloc (.cells #[.slice A xs.length C, .int .i64 lo, .int .i64 hi] 42)) ⟨w.heap.size, 2, none⟩ = some (.int .i64 hi) := by simp [go_sem]
  have lp : w.heap.size < (w.alloc (.cells #[.slice A xs.length C, .int .i64 lo, .int .i64 hi] 42)).heap.size := by simp <;> omega
  have HB := Lib.hid (show Below w.heap.size w (w.alloc (.cells #[.slice A xs.length C, .int .i64 lo, .int .i64 hi] 42)) from ((Below.refl _ _).alloc (by simp <;> omega) _))
  go_enter Try.func118, Try.ntmps118
  go_upto_region 1 with fail
  generalize w.alloc (.cells #[.slice A xs.length C, .int .i64 lo, .int .i64 hi] 42) = w1 at *
  replace HL := Lib.hid (HL.out.below HB.out)
  go_wp2_with fail
  refine (in_is lo true H1.out _).mono ?_
  rintro e_ wq ⟨rfl, hw⟩
  subst hw
  go_wp2_with fail
  refine (in_is hi true H2.out _).mono ?_
  rintro e_ wq ⟨rfl, hw⟩
  subst hw
  go_wp2_with fail
  have HZ := Lib.hid hz
  clear hz
  go_loopw [4] (fun i wr => ∃ k : Nat, k ≤ xs.length ∧ i = .int .i64 k ∧ Hid (∀ j, j < k → co (px xs j) ∧ co (py xs j)) ∧ Below w1.heap.size w1 wr) (fun i _ => xs.length - (intOf i).toNat)
  case atStart => exact ⟨0, Nat.zero_le _, rfl, fun j hj => absurd hj (Nat.not_lt_zero j), Below.refl _ _⟩
  case round =>
    obtain ⟨k, hk, rfl, HK, hW⟩ := hrel
    replace p0 := keepc hW p0
    replace p1 := keepc hW p1
    replace p2 := keepc hW p2
    have HW := Lib.hid (on_below HB.out hW)
    have HM := Lib.hid hW
    have HE := Lib.hid (HL.out.below hW)
    have lq := Nat.lt_of_lt_of_le lp hW.size
    clear HL HB hW lp
    by_cases hlt : k < xs.length
    · obtain ⟨b0, o0, rfl, e0, e1⟩ := HE.out k hlt
      have HP := Lib.hid (show px xs k = (gdS xs k).1 from rfl)
      have HQ := Lib.hid (show py xs k = (gdS xs k).2 from rfl)
      generalize (gdS xs k).1 = x at *
      generalize (gdS xs k).2 = y at *
      go_wp2_with fail
      have c0 : World.cell? (wr.alloc (.cells #[.int .i64 x, .int .i64 y] 54)) ⟨wr.heap.size, 0, none⟩ = some (.int .i64 x) := by simp [go_sem]
      have c1 : World.cell? (wr.alloc (.cells #[.int .i64 x, .int .i64 y] 54)) ⟨wr.heap.size, 1, none⟩ = some (.int .i64 y) := by simp [go_sem]
      have hB := below_new wr (.cells #[.int .i64 x, .int .i64 y] 54)
      generalize wr.alloc (.cells #[.int .i64 x, .int .i64 y] 54) = w2 at *
      have HB2 := Lib.hid hB
      clear hB
      cases hx : inr x
      · refine (in_is x false hx _).mono ?_
        rintro e_ wq ⟨rfl, hw⟩
        subst hw
        go_wp2_with fail
        go_ret
        exact ⟨ret_bool (false_of fun e => by have h := (bok_co (HR.out.1 e) hlt).1; rw [HP.out, ← inr_iff, hx] at h; cases h), on_below HW.out HB2.out⟩
      · refine (in_is x true hx _).mono ?_
        rintro e_ wq ⟨rfl, hw⟩
        subst hw
        go_wp2_with fail
        cases hy : inr y
        · refine (in_is y false hy _).mono ?_
          rintro e_ wq ⟨rfl, hw⟩
          subst hw
          go_wp2_with fail
          go_ret
          exact ⟨ret_bool (false_of fun e => by have h := (bok_co (HR.out.1 e) hlt).2; rw [HQ.out, ← inr_iff, hy] at h; cases h), on_below HW.out HB2.out⟩
        · refine (in_is y true hy _).mono ?_
          rintro e_ wq ⟨rfl, hw⟩
          subst hw
          go_wp2_with fail
          go_roundw
          case rel => exact ⟨k + 1, hlt, int_of (by omega), (fun j hj => by by_cases e : j = k; (subst e; rw [HP.out, HQ.out]; exact ⟨inr_iff.1 hx, inr_iff.1 hy⟩); exact HK.out j (by omega)), HM.out.trans (HB2.out.mono HM.out.size)⟩
          case measure => simp [intOf]; omega
    · have HC := Lib.hid (show ∀ j, j < xs.length → co (px xs j) ∧ co (py xs j) from fun j hj => HK.out j (by omega))
      clear HK HM
      go_wp2_with fail
      obtain ⟨b0, o0, rfl, _, _⟩ := HE.out 0 (by omega)
      clear hlt hk
      generalize wr = wa at *
      go_loopw [6] (fun i ws => ∃ k : Nat, k ≤ xs.length ∧ i = .int .i64 k ∧ Hid (∀ j, j < k → Fst xs j ∧ ∀ m, m < xs.length → Edg xs j m) ∧ Below wa.heap.size wa ws) (fun i _ => xs.length - (intOf i).toNat)
      case atStart => exact ⟨0, Nat.zero_le _, rfl, fun j hj => absurd hj (Nat.not_lt_zero j), Below.refl _ _⟩
      case round =>
        obtain ⟨i, hi, rfl, HI, hV⟩ := hrel
        replace p0 := keepc hV p0
        have HW2 := Lib.hid (on_below HW.out hV)
        have HM2 := Lib.hid hV
        have HE2 := Lib.hid (HE.out.below hV)
        clear HE HW hV p1 p2 lq
        by_cases hlt : i < xs.length
        · obtain ⟨f, hf⟩ := bool_of (Fst xs i)
          have HF := Lib.hid hf
          clear hf
          obtain ⟨e0, e1⟩ := sl_two HE2.out hlt
          obtain ⟨z0, z1⟩ := sl_two HE2.out (show 0 < xs.length by omega)
          rw [Nat.zero_mul, Nat.add_zero] at z0 z1
          have HPX := Lib.hid (show px xs i = (gdS xs i).1 from rfl)
          have HPY := Lib.hid (show py xs i = (gdS xs i).2 from rfl)
          have HZX := Lib.hid (show px xs 0 = (gdS xs 0).1 from rfl)
          have HZY := Lib.hid (show py xs 0 = (gdS xs 0).2 from rfl)
          have HFF := Lib.hid (show 0 < i → (f = true ↔ ((gdS xs 0).1 < (gdS xs i).1 ∨ ((gdS xs 0).1 = (gdS xs i).1 ∧ (gdS xs 0).2 < (gdS xs i).2))) from fun h0 => ⟨fun h => HF.out.1 h h0, fun h => HF.out.2 fun _ => h⟩)
          clear HZX HZY
          generalize (gdS xs i).1 = x at *
          generalize (gdS xs i).2 = y at *
          generalize (gdS xs 0).1 = u at *
          generalize (gdS xs 0).2 = v at *
          go_upto_region 13 with fail
          go_cut [105] (fun s_ wx => s_ = .bool (!f) ∧ ∃ q, wx = wr.drewN q)
          case first =>
            by_cases h0 : i = 0
            · have hf : f = true := HF.out.2 (fun h => by omega)
              have hd : decide (0 < (i : Int)) = false := decide_eq_false (by omega)
              have hd2 : ¬ 0 < i := by omega
              go_quiet (fail)
              go_wp2_with fail
              go_meet
              exact ⟨by rw [hf]; rfl, _, rfl⟩
            · have hd : decide (0 < (i : Int)) = true := decide_eq_true (by omega)
              have hd2 : 0 < i := by omega
              replace HFF := Lib.hid (HFF.out hd2)
              rcases Int.lt_trichotomy x u with h | h | h
              · have hf : f = false := by
                  cases f
                  · rfl
                  · have := HFF.out.1 (by first | rfl | trivial); omega
                have c1 : decide (x < u) = true := decide_eq_true h
                go_quiet (fail)
                go_wp2_with fail
                go_meet
                exact ⟨by rw [hf]; rfl, _, rfl⟩
              · subst h
                have c1 : decide (x < x) = false := decide_eq_false (by omega)
                have c2 : (x == x) = true := beq_self_eq_true x
                by_cases hy : y ≤ v
                · have hf : f = false := by
                    cases f
                    · rfl
                    · have := HFF.out.1 (by first | rfl | trivial); omega
                  have c3 : decide (y ≤ v) = true := decide_eq_true hy
                  go_quiet (fail)
                  go_wp2_with fail
                  go_meet
                  exact ⟨by rw [hf]; rfl, _, rfl⟩
                · have hf : f = true := HFF.out.2 (Or.inr ⟨by first | rfl | trivial, by omega⟩)
                  have c3 : decide (y ≤ v) = false := decide_eq_false hy
                  go_quiet (fail)
                  go_wp2_with fail
                  go_meet
                  exact ⟨by rw [hf]; rfl, _, rfl⟩
              · have hf : f = true := HFF.out.2 (Or.inl h)
                have c1 : decide (x < u) = false := decide_eq_false (by omega)
                have c2 : (x == u) = false := by rw [beq_eq_false_iff_ne]; omega
                go_quiet (fail)
                go_wp2_with fail
                go_meet
                exact ⟨by rw [hf]; rfl, _, rfl⟩
          case rest =>
            obtain ⟨rfl, q, rfl⟩ := hcut
            cases f
            · go_wp2_with fail
              go_ret
              exact ⟨ret_bool (false_of fun e => by have h := HF.out.2 (fun h0 => (HR.out.1 e).first i h0 hlt); cases h), below_drewN' HW2.out q⟩
            · have hn1 := nx_lt hlt
              have m1 := nx_tmod hlt
              have m2 := nx_emod hlt
              have w1_ : IntKind.i64.wrap ((i : Int) + 1) = (i : Int) + 1 := IntWalk.i64_in _ ⟨by omega, by omega⟩
              have w2_ : wrap64 ((i : Int) + 1) = (i : Int) + 1 := IntWalk.wrap64_in _ ⟨by omega, by omega⟩
              have z3 : ¬ xs = [] := by intro e; rw [e] at hlt; exact absurd hlt (Nat.not_lt_zero _)
              have z4 : ¬ xs.length = 0 := by omega
              have w3_ : IntKind.i64.wrap ((nx xs.length i : Nat) : Int) = (nx xs.length i : Nat) := IntWalk.i64_in _ ⟨by omega, by omega⟩
              obtain ⟨g0, g1⟩ := sl_two HE2.out hn1
              have HNX := Lib.hid (show px xs (nx xs.length i) = (gdS xs (nx xs.length i)).1 from rfl)
              have HNY := Lib.hid (show py xs (nx xs.length i) = (gdS xs (nx xs.length i)).2 from rfl)
              have HCO := Lib.hid (HC.out _ hn1)
              generalize hnx : nx xs.length i = m at *
              have HN := Lib.hid hnx
              clear hnx
              generalize (gdS xs m).1 = u' at *
              generalize (gdS xs m).2 = v' at *
              replace p0 : (wr.drewN q).cell? ⟨w.heap.size, 0, none⟩ = some (.slice (some ⟨b0, o0, none⟩) xs.length C) := p0
              replace e0 : (wr.drewN q).cell? ⟨b0, o0 + i * 2, none⟩ = some (.int .i64 x) := e0
              replace e1 : (wr.drewN q).cell? ⟨b0, o0 + i * 2 + 1, none⟩ = some (.int .i64 y) := e1
              replace g0 : (wr.drewN q).cell? ⟨b0, o0 + m * 2, none⟩ = some (.int .i64 u') := g0
              replace g1 : (wr.drewN q).cell? ⟨b0, o0 + m * 2 + 1, none⟩ = some (.int .i64 v') := g1
              replace HE2 := Lib.hid (show SlS (wr.drewN q) (some ⟨b0, o0, none⟩) xs from HE2.out)
              replace HW2 := Lib.hid (below_drewN' HW2.out q)
              replace HM2 := Lib.hid (below_drewN' HM2.out q)
              clear z0 z1 HFF
              generalize wr.drewN q = wd at *
              go_wp2_with fail
              go_loopw [8] (fun j ws => ∃ k : Nat, k ≤ xs.length ∧ j = .int .i64 k ∧ Hid (∀ l, l < k → Edg xs i l) ∧ Below wd.heap.size wd ws) (fun j _ => xs.length - (intOf j).toNat)
              case atStart => exact ⟨0, Nat.zero_le _, rfl, fun j hj => absurd hj (Nat.not_lt_zero j), Below.refl _ _⟩
              case round =>
                obtain ⟨j, hj, rfl, HJ, hU⟩ := hrel
                replace p0 := keepc hU p0
                replace e0 := keepc hU e0
                replace e1 := keepc hU e1
                replace g0 := keepc hU g0
                replace g1 := keepc hU g1
                have HW3 := Lib.hid (on_below HW2.out hU)
                have HM3 := Lib.hid hU
                have HM4 := Lib.hid (HM2.out.trans (hU.mono HM2.out.size))
                have HE3 := Lib.hid (HE2.out.below hU)
                clear HE2 HW2 hU HM2 m1 m2 w1_ w2_ w3_ z3 z4
                by_cases hlj : j < xs.length
                · by_cases j1 : j = i
                  · have d1 : ((j : Int) == (i : Int)) = true := by rw [beq_iff_eq]; omega
                    have d2 : ((j : Int) != (i : Int)) = false := by simp [j1]
                    have HJ1 := Lib.hid j1
                    clear j1
                    go_wp2_with fail
                    go_quiet (fail)
                    go_wp2_with fail
                    go_roundw
                    case rel => exact ⟨j + 1, hlj, int_of (by omega), (fun l hl => by by_cases e : l = j; (intro h _; exact absurd (e.trans HJ1.out) h); exact HJ.out l (by omega)), below_drewN' HM3.out _⟩
                    case measure => simp [intOf]; omega
                  · by_cases j2 : j = m
                    · have d1 : ((j : Int) == (i : Int)) = false := by rw [beq_eq_false_iff_ne]; omega
                      have d2 : ((j : Int) != (i : Int)) = true := by rw [bne_iff_ne]; omega
                      have d3 : ((j : Int) == (m : Int)) = true := by rw [beq_iff_eq]; omega
                      have d4 : ((j : Int) != (m : Int)) = false := by simp [j2]
                      have HJ2 := Lib.hid j2
                      clear j2
                      go_wp2_with fail
                      go_quiet (fail)
                      go_wp2_with fail
                      go_roundw
                      case rel => exact ⟨j + 1, hlj, int_of (by omega), (fun l hl => by by_cases e : l = j; (intro _ h; exact absurd ((e.trans HJ2.out).trans HN.out.symm) h); exact HJ.out l (by omega)), below_drewN' HM3.out _⟩
                      case measure => simp [intOf]; omega
                    · have d1 : ((j : Int) == (i : Int)) = false := by rw [beq_eq_false_iff_ne]; omega
                      have d2 : ((j : Int) != (i : Int)) = true := by rw [bne_iff_ne]; omega
                      have d3 : ((j : Int) == (m : Int)) = false := by rw [beq_eq_false_iff_ne]; omega
                      have d4 : ((j : Int) != (m : Int)) = true := by rw [bne_iff_ne]; omega
                      obtain ⟨k0, k1⟩ := sl_two HE3.out hlj
                      have HKX := Lib.hid (show px xs j = (gdS xs j).1 from rfl)
                      have HKY := Lib.hid (show py xs j = (gdS xs j).2 from rfl)
                      have HCJ := Lib.hid (HC.out j hlj)
                      have HCI := Lib.hid (HC.out i hlt)
                      generalize (gdS xs j).1 = a at *
                      generalize (gdS xs j).2 = b at *
                      generalize hs_ : crs x y u' v' a b = s
                      have HS := Lib.hid hs_
                      clear hs_
                      have HCC := Lib.hid (fun W => qside_is x y u' v' a b s (HPX.out ▸ HCI.out.1) (HPY.out ▸ HCI.out.2) (HNX.out ▸ HCO.out.1) (HNY.out ▸ HCO.out.2) (HKX.out ▸ HCJ.out.1) (HKY.out ▸ HCJ.out.2) HS.out W)
                      have HT := Lib.hid (show tr (px xs) (py xs) i (nx xs.length i) j = s by unfold tr; rw [HN.out, HPX.out, HPY.out, HNX.out, HNY.out, HKX.out, HKY.out, HS.out])
                      go_wp2_with fail
                      have kp : ∀ {W : World}, Below wr.heap.size wr W → W.cell? ⟨w.heap.size, 0, none⟩ = some (.slice (some ⟨b0, o0, none⟩) xs.length C) ∧ W.cell? ⟨b0, o0 + i * 2, none⟩ = some (.int .i64 x) ∧ W.cell? ⟨b0, o0 + i * 2 + 1, none⟩ = some (.int .i64 y) ∧ W.cell? ⟨b0, o0 + m * 2, none⟩ = some (.int .i64 u') ∧ W.cell? ⟨b0, o0 + m * 2 + 1, none⟩ = some (.int .i64 v') ∧ W.cell? ⟨b0, o0 + j * 2, none⟩ = some (.int .i64 a) ∧ W.cell? ⟨b0, o0 + j * 2 + 1, none⟩ = some (.int .i64 b) ∧ Below wr.heap.size wr W := fun h => ⟨keepc h p0, keepc h e0, keepc h e1, keepc h g0, keepc h g1, keepc h k0, keepc h k1, h⟩
                      go_region_held3 (fun W => W.cell? ⟨w.heap.size, 0, none⟩ = some (.slice (some ⟨b0, o0, none⟩) xs.length C) ∧ W.cell? ⟨b0, o0 + i * 2, none⟩ = some (.int .i64 x) ∧ W.cell? ⟨b0, o0 + i * 2 + 1, none⟩ = some (.int .i64 y) ∧ W.cell? ⟨b0, o0 + m * 2, none⟩ = some (.int .i64 u') ∧ W.cell? ⟨b0, o0 + m * 2 + 1, none⟩ = some (.int .i64 v') ∧ W.cell? ⟨b0, o0 + j * 2, none⟩ = some (.int .i64 a) ∧ W.cell? ⟨b0, o0 + j * 2 + 1, none⟩ = some (.int .i64 b) ∧ Below wr.heap.size wr W)
                        (first | assumption | exact kp (Below.refl _ _).drew | (go_split_ands; refine kp ?_; (first | (refine on_below ?_ hb; assumption) | assumption)))
                        (first | (go_at_call 140; (with_reducible refine (HCC.out _).mono ?_); rintro e' w2 ⟨rfl, hb⟩))
                      go_split_ands
                      have hB : Below wr.heap.size wr w2 := by assumption
                      clear hb kp HCC e0 e1 g0 g1 k0 k1
                      by_cases hs : s ≤ 0
                      · go_wp2_with fail
                        go_ret
                        exact ⟨ret_bool (false_of fun e => by have h := (HR.out.1 e).cvx i j hlt hlj j1 (by rw [HN.out]; exact j2); rw [HT.out] at h; omega), on_below HW3.out hB⟩
                      · go_wp2_with fail
                        go_roundw
                        case rel => exact ⟨j + 1, hlj, int_of (by omega), (fun l hl => by by_cases e : l = j; (subst e; intro _ _; rw [HT.out]; omega); exact HJ.out l (by omega)), HM3.out.trans (hB.mono HM3.out.size)⟩
                        case measure => simp [intOf]; omega
                · go_wp2_with fail
                  go_roundw
                  case rel => exact ⟨i + 1, hlt, int_of (by omega), (fun l hl => by by_cases e : l = i; (subst e; exact ⟨HF.out.1 (by first | rfl | trivial), fun z hz => HJ.out z (by omega)⟩); exact HI.out l (by omega)), HM4.out⟩
                  case measure => simp [intOf]; omega
        · go_wp2_with fail
          go_ret
          exact ⟨ret_bool (true_of (HR.out.2 (bok_of hn hn8 (inr_iff.1 H1.out) (inr_iff.1 H2.out) HZ.out HC.out (fun j hj => HI.out j (by omega))))), HW2.out⟩
theorem qvalid_is (A : Option Addr) (C : Nat) (xs : List (Int × Int)) (lo hi : Int) (hlen : xs.length ≤ 9223372036854775807) (r : Bool) (hr : r = true ↔ Bok xs lo hi) (w : World) (hl : SlS w A xs) :
    Calls Try.prog 118 #[.agg #[.slice A xs.length C, .int .i64 lo, .int .i64 hi]] w fun e_ w' => e_ = .returned (.bool r) ∧ Below w.heap.size w w' := by
  by_cases h1 : xs.length < 3
  · obtain rfl := false_of (r := r) (fun e => by have := (hr.1 e).n3; omega)
    exact qv_1 A C xs lo hi hlen h1 w hl
  by_cases h2 : 8 < xs.length
  · obtain rfl := false_of (r := r) (fun e => by have := (hr.1 e).n8; omega)
    exact qv_2 A C xs lo hi hlen h2 w hl
  cases h3 : inr lo
  · obtain rfl := false_of (r := r) (fun e => by have := inr_iff.2 (hr.1 e).zl; rw [h3] at this; cases this)
    exact qv_3 A C xs lo hi (by omega) (by omega) h3 w hl
  cases h4 : inr hi
  · obtain rfl := false_of (r := r) (fun e => by have := inr_iff.2 (hr.1 e).zh; rw [h4] at this; cases this)
    exact qv_4 A C xs lo hi (by omega) (by omega) h3 h4 w hl
  by_cases h5 : hi ≤ lo
  · obtain rfl := false_of (r := r) (fun e => by have := (hr.1 e).lt; omega)
    exact qv_5 A C xs lo hi (by omega) (by omega) h3 h4 h5 w hl
  exact qv_6 A C xs lo hi (by omega) (by omega) h3 h4 (by omega) r hr w hl
end Go.Proofs.Ytjjimbaogpmbmaa
