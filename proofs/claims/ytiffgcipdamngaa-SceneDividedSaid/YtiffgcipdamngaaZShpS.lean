/-
  Out of the texts of layer 1: package rational's Valid, attempt, Make and Cmp.
-/
import Derived.Test.YtiffgcipdamngaaZShpF
namespace Go.Proofs.Ytiffgcipdamngaa
open Go.RowKit Go.Sort
open Go.RowKit (Below)
set_option linter.unusedVariables false
set_option linter.unusedSimpArgs false

theorem neg_wrap (x : Int) (h1 : -9223372036854775808 ≤ x) (hx : x < 0) : IntKind.u64.wrap (-IntKind.u64.wrap x) = x.natAbs := by
  simp only [IntKind.wrap_u64]; omega
set_option maxHeartbeats 400000 in
theorem absolute_any (x : Int) (w : World) (h1 : -9223372036854775808 ≤ x) (h2 : x ≤ 9223372036854775807) :
    Calls Try.prog 37 #[.int .i64 x] w fun e w' => e = .returned (.int .u64 x.natAbs) ∧ w = w' := by
  by_cases hx : x < 0
  · go_enter Try.func37, Try.ntmps37
    go_wp2
    go_ret
    exact ⟨ret_int (neg_wrap x h1 hx), rfl⟩
  · go_enter Try.func37, Try.ntmps37
    go_wp2
    go_ret
    exact ⟨ret_int (by omega), rfl⟩
set_option maxHeartbeats 400000 in
theorem commonDivisor_any (x y : Nat) (w : World) (h1 : x ≤ 18446744073709551615) (h2 : y ≤ 18446744073709551615) :
    Calls Try.prog 38 #[.int .u64 x, .int .u64 y] w fun e w' => e = .returned (.int .u64 (Nat.gcd x y : Nat)) ∧ ∃ n, w' = w.drewN n := by
  go_enter Try.func38, Try.ntmps38
  go_wp2
  go_loopw [0, 1] (fun a b wr => ∃ m n : Nat, m ≤ 18446744073709551615 ∧ n ≤ 18446744073709551615 ∧ a = .int .u64 m ∧ b = .int .u64 n ∧ Hid (Nat.gcd m n = Nat.gcd x y) ∧ ∃ k, wr = w.drewN k) (fun _ b _ => (intOf b).toNat)
  case atStart => exact ⟨x, y, h1, h2, rfl, rfl, rfl, 0, rfl⟩
  case round =>
    obtain ⟨m, n, hm, hn, rfl, rfl, HG, k, rfl⟩ := hrel
    by_cases hz : n = 0
    · subst hz
      go_wp2
      go_ret
      exact ⟨ret_int (by have := HG.out; simp at this; omega), k, rfl⟩
    · have hpos : (1 : Int) ≤ n := by omega
      have hne : ((n : Int) != 0) = true := by simp; omega
      have hem : ((m : Int) % (n : Int)) = ((m % n : Nat) : Int) := by omega
      have hlt := Nat.mod_lt m (y := n) (by omega)
      clear hz
      go_wp2
      go_quiet (fail)
      rw [hem]
      go_roundw
      case rel => exact ⟨_, _, _, _, _, _, _, _, ⟨n, m % n, by omega, by omega, rfl, rfl, (gcd_step m n (by omega)).symm.trans HG.out, k + nq, World.drewN_drewN _ _ _⟩, rfl⟩
      case measure => simp [intOf]; omega
def vld (n d : Int) : Bool := decide (1 ≤ d) && decide (d ≤ 1000000000) && decide (n.natAbs ≤ 1000000000) && decide (Nat.gcd n.natAbs d.natAbs = 1)
theorem vld_iff (n d : Int) : vld n d = true ↔ 1 ≤ d ∧ d ≤ 1000000000 ∧ -1000000000 ≤ n ∧ n ≤ 1000000000 ∧ Nat.gcd n.natAbs d.natAbs = 1 := by
  unfold vld
  simp only [Bool.and_eq_true, decide_eq_true_eq]
  constructor
  · rintro ⟨⟨⟨h1, h2⟩, h3⟩, h4⟩; exact ⟨h1, h2, by omega, by omega, h4⟩
  · rintro ⟨h1, h2, h3, h4, h5⟩; exact ⟨⟨⟨h1, h2⟩, by omega⟩, h5⟩
theorem vld_last {n d : Int} (h1 : 1 ≤ d) (h2 : d ≤ 1000000000) (h3 : (n.natAbs : Int) ≤ 1000000000) : (((n.natAbs.gcd d.natAbs : Nat) : Int) == 1) = vld n d := by
  rw [Bool.eq_iff_iff, vld_iff]
  simp only [beq_iff_eq]
  constructor
  · intro h; exact ⟨h1, h2, by omega, by omega, by omega⟩
  · rintro ⟨_, _, _, _, h⟩; omega
set_option maxHeartbeats 400000 in
theorem rvalid_any (n d : Int) (w : World) (hn1 : -9223372036854775808 ≤ n) (hn2 : n ≤ 9223372036854775807) (_hd1 : -9223372036854775808 ≤ d) (_hd2 : d ≤ 9223372036854775807) :
    Calls Try.prog 20 #[.agg #[.int .i64 n, .int .i64 d]] w fun e w' => e = .returned (.bool (vld n d)) ∧ Below w.heap.size w w' := by
  by_cases h1 : d < 1
  · go_enter Try.func20, Try.ntmps20
    go_wp2
    go_ret
    exact ⟨ret_bool (by unfold vld; simp; omega), (Below.refl _ _).alloc (Nat.le_refl _) _⟩
  · by_cases h2 : 1000000000 < d
    · go_enter Try.func20, Try.ntmps20
      go_wp2
      go_ret
      exact ⟨ret_bool (by unfold vld; simp; omega), (Below.refl _ _).alloc (Nat.le_refl _) _⟩
    · by_cases h3 : (1000000000 : Int) < n.natAbs
      · go_enter Try.func20, Try.ntmps20
        go_wp2_with (go_at_call 37; refine (absolute_any _ _ (by omega) (by omega)).mono ?_; rintro e w' ⟨rfl, rfl⟩)
        go_ret
        exact ⟨ret_bool (by unfold vld; simp; omega), (Below.refl _ _).alloc (Nat.le_refl _) _⟩
      · go_enter Try.func20, Try.ntmps20
        go_wp2_with (go_at_call 37; refine (absolute_any _ _ (by omega) (by omega)).mono ?_; rintro e w' ⟨rfl, rfl⟩)
        go_quiet ((first | (go_at_call 37; exact quiet_left (absolute_any _ _ (by omega) (by omega))) | (go_at_call 38; exact Calls.quiet_of (commonDivisor_any _ _ _ (by omega) (by omega)))))
        go_wp2
        go_ret
        exact ⟨ret_bool (vld_last h1 h2 h3), below_drewN' ((Below.refl _ _).alloc (Nat.le_refl _) _) _⟩
/-- The greatest common divisor of the absolute values. -/
def cd (n d : Int) : Nat := Nat.gcd n.natAbs d.natAbs
/-- The error of the quotient of n and d: ErrZero, ErrRange or OK. -/
def mkE (n d : Int) : Int := if d = 0 then 7 else if 1000000000 < n.natAbs / cd n d ∨ 1000000000 < d.natAbs / cd n d then 3 else 0
def rn (n d : Int) : Int := if (n < 0) ↔ (d < 0) then ((n.natAbs / cd n d : Nat) : Int) else -((n.natAbs / cd n d : Nat) : Int)
def rd (n d : Int) : Int := ((d.natAbs / cd n d : Nat) : Int)
def mkN (n d : Int) : Int := if mkE n d = 0 then rn n d else 0
def mkD (n d : Int) : Int := if mkE n d = 0 then rd n d else 0
theorem cd_pos {n d : Int} (h : d ≠ 0) : 0 < cd n d := Nat.gcd_pos_of_pos_right _ (by omega)
abbrev raise (c : Int) : Ending := .panicked [{ v := .iface 33 (.int .i64 c), recovered := false }]
set_option maxHeartbeats 400000 in
theorem reduce_zero (n : Int) (w : World) :
    Calls Try.prog 56 #[.int .i64 n, .int .i64 0] w fun e w' => e = raise 7 ∧ Below w.heap.size w w' := by
  go_enter Try.func56, Try.ntmps56
  go_wp2
  exact ⟨rfl, rfl, (Below.refl _ _).alloc (Nat.le_refl _) _⟩
set_option maxHeartbeats 800000 in
theorem reduce_range (n d : Int) (p q : Nat) (w : World) (hn1 : -9223372036854775808 ≤ n) (hn2 : n ≤ 9223372036854775807) (hd1 : -9223372036854775808 ≤ d) (hd2 : d ≤ 9223372036854775807)
    (hd : (d == 0) = false) (hg : 1 ≤ ((n.natAbs.gcd d.natAbs : Nat) : Int)) (ep : IntKind.u64.wrap ((n.natAbs : Int) / ((n.natAbs.gcd d.natAbs : Nat) : Int)) = (p : Int)) (eq : IntKind.u64.wrap ((d.natAbs : Int) / ((n.natAbs.gcd d.natAbs : Nat) : Int)) = (q : Int)) (hr : 1000000000 < p ∨ 1000000000 < q) :
    Calls Try.prog 56 #[.int .i64 n, .int .i64 d] w fun e w' => e = raise 3 ∧ Below w.heap.size w w' := by
  have hr' : (1000000000 : Int) < p ∨ ((p : Int) ≤ 1000000000 ∧ (1000000000 : Int) < q) := by omega
  clear hr
  rcases hr' with hr | ⟨hr1, hr2⟩
  · go_enter Try.func56, Try.ntmps56
    go_wp2_with (first | (go_at_call 37; refine (absolute_any _ _ (by omega) (by omega)).mono ?_; rintro e w' ⟨rfl, rfl⟩) | (go_at_call 38; refine (commonDivisor_any _ _ _ (by omega) (by omega)).mono ?_; rintro e w' ⟨rfl, nq, rfl⟩))
    go_quiet (fail)
    go_wp2
    exact ⟨rfl, rfl, below_drewN' ((Below.refl _ _).alloc (Nat.le_refl _) _) _⟩
  · go_enter Try.func56, Try.ntmps56
    go_wp2_with (first | (go_at_call 37; refine (absolute_any _ _ (by omega) (by omega)).mono ?_; rintro e w' ⟨rfl, rfl⟩) | (go_at_call 38; refine (commonDivisor_any _ _ _ (by omega) (by omega)).mono ?_; rintro e w' ⟨rfl, nq, rfl⟩))
    go_quiet (fail)
    go_wp2
    exact ⟨rfl, rfl, below_drewN' ((Below.refl _ _).alloc (Nat.le_refl _) _) _⟩
set_option maxHeartbeats 800000 in
theorem reduce_nn (n d : Int) (p q : Nat) (w : World) (hn1 : -9223372036854775808 ≤ n) (hn2 : n ≤ 9223372036854775807) (hd1 : -9223372036854775808 ≤ d) (hd2 : d ≤ 9223372036854775807)
    (hd : (d == 0) = false) (hg : 1 ≤ ((n.natAbs.gcd d.natAbs : Nat) : Int)) (ep : IntKind.u64.wrap ((n.natAbs : Int) / ((n.natAbs.gcd d.natAbs : Nat) : Int)) = (p : Int)) (eq : IntKind.u64.wrap ((d.natAbs : Int) / ((n.natAbs.gcd d.natAbs : Nat) : Int)) = (q : Int)) (hp : (p : Int) ≤ 1000000000) (hq : (q : Int) ≤ 1000000000) (hn0 : decide (n < 0) = true) (hd0 : decide (d < 0) = true) :
    Calls Try.prog 56 #[.int .i64 n, .int .i64 d] w fun e w' => e = .returned (.agg #[.int .i64 (p), .int .i64 q]) ∧ Below w.heap.size w w' := by
  go_enter Try.func56, Try.ntmps56
  go_wp2_with (first | (go_at_call 37; refine (absolute_any _ _ (by omega) (by omega)).mono ?_; rintro e w' ⟨rfl, rfl⟩) | (go_at_call 38; refine (commonDivisor_any _ _ _ (by omega) (by omega)).mono ?_; rintro e w' ⟨rfl, nq, rfl⟩))
  go_quiet (fail)
  go_wp2
  exact bodyPost_ret (v := .agg #[.int .i64 (p), .int .i64 q]) (by simp [results, Try.results56, go_sem]) rfl ⟨rfl, ((below_drewN' ((Below.refl _ _).alloc (Nat.le_refl _) _) _).setCell (by simp) _).setCell (by simp) _⟩
set_option maxHeartbeats 800000 in
theorem reduce_pp (n d : Int) (p q : Nat) (w : World) (hn1 : -9223372036854775808 ≤ n) (hn2 : n ≤ 9223372036854775807) (hd1 : -9223372036854775808 ≤ d) (hd2 : d ≤ 9223372036854775807)
    (hd : (d == 0) = false) (hg : 1 ≤ ((n.natAbs.gcd d.natAbs : Nat) : Int)) (ep : IntKind.u64.wrap ((n.natAbs : Int) / ((n.natAbs.gcd d.natAbs : Nat) : Int)) = (p : Int)) (eq : IntKind.u64.wrap ((d.natAbs : Int) / ((n.natAbs.gcd d.natAbs : Nat) : Int)) = (q : Int)) (hp : (p : Int) ≤ 1000000000) (hq : (q : Int) ≤ 1000000000) (hn0 : decide (n < 0) = false) (hd0 : decide (d < 0) = false) :
    Calls Try.prog 56 #[.int .i64 n, .int .i64 d] w fun e w' => e = .returned (.agg #[.int .i64 (p), .int .i64 q]) ∧ Below w.heap.size w w' := by
  go_enter Try.func56, Try.ntmps56
  go_wp2_with (first | (go_at_call 37; refine (absolute_any _ _ (by omega) (by omega)).mono ?_; rintro e w' ⟨rfl, rfl⟩) | (go_at_call 38; refine (commonDivisor_any _ _ _ (by omega) (by omega)).mono ?_; rintro e w' ⟨rfl, nq, rfl⟩))
  go_quiet (fail)
  go_wp2
  exact bodyPost_ret (v := .agg #[.int .i64 (p), .int .i64 q]) (by simp [results, Try.results56, go_sem]) rfl ⟨rfl, ((below_drewN' ((Below.refl _ _).alloc (Nat.le_refl _) _) _).setCell (by simp) _).setCell (by simp) _⟩
set_option maxHeartbeats 800000 in
theorem reduce_np (n d : Int) (p q : Nat) (w : World) (hn1 : -9223372036854775808 ≤ n) (hn2 : n ≤ 9223372036854775807) (hd1 : -9223372036854775808 ≤ d) (hd2 : d ≤ 9223372036854775807)
    (hd : (d == 0) = false) (hg : 1 ≤ ((n.natAbs.gcd d.natAbs : Nat) : Int)) (ep : IntKind.u64.wrap ((n.natAbs : Int) / ((n.natAbs.gcd d.natAbs : Nat) : Int)) = (p : Int)) (eq : IntKind.u64.wrap ((d.natAbs : Int) / ((n.natAbs.gcd d.natAbs : Nat) : Int)) = (q : Int)) (hp : (p : Int) ≤ 1000000000) (hq : (q : Int) ≤ 1000000000) (hn0 : decide (n < 0) = true) (hd0 : decide (d < 0) = false) :
    Calls Try.prog 56 #[.int .i64 n, .int .i64 d] w fun e w' => e = .returned (.agg #[.int .i64 (-p), .int .i64 q]) ∧ Below w.heap.size w w' := by
  go_enter Try.func56, Try.ntmps56
  go_wp2_with (first | (go_at_call 37; refine (absolute_any _ _ (by omega) (by omega)).mono ?_; rintro e w' ⟨rfl, rfl⟩) | (go_at_call 38; refine (commonDivisor_any _ _ _ (by omega) (by omega)).mono ?_; rintro e w' ⟨rfl, nq, rfl⟩))
  go_quiet (fail)
  go_wp2
  exact bodyPost_ret (v := .agg #[.int .i64 (-p), .int .i64 q]) (by simp [results, Try.results56, go_sem]) rfl ⟨rfl, ((below_drewN' ((Below.refl _ _).alloc (Nat.le_refl _) _) _).setCell (by simp) _).setCell (by simp) _⟩
set_option maxHeartbeats 800000 in
theorem reduce_pn (n d : Int) (p q : Nat) (w : World) (hn1 : -9223372036854775808 ≤ n) (hn2 : n ≤ 9223372036854775807) (hd1 : -9223372036854775808 ≤ d) (hd2 : d ≤ 9223372036854775807)
    (hd : (d == 0) = false) (hg : 1 ≤ ((n.natAbs.gcd d.natAbs : Nat) : Int)) (ep : IntKind.u64.wrap ((n.natAbs : Int) / ((n.natAbs.gcd d.natAbs : Nat) : Int)) = (p : Int)) (eq : IntKind.u64.wrap ((d.natAbs : Int) / ((n.natAbs.gcd d.natAbs : Nat) : Int)) = (q : Int)) (hp : (p : Int) ≤ 1000000000) (hq : (q : Int) ≤ 1000000000) (hn0 : decide (n < 0) = false) (hd0 : decide (d < 0) = true) :
    Calls Try.prog 56 #[.int .i64 n, .int .i64 d] w fun e w' => e = .returned (.agg #[.int .i64 (-p), .int .i64 q]) ∧ Below w.heap.size w w' := by
  go_enter Try.func56, Try.ntmps56
  go_wp2_with (first | (go_at_call 37; refine (absolute_any _ _ (by omega) (by omega)).mono ?_; rintro e w' ⟨rfl, rfl⟩) | (go_at_call 38; refine (commonDivisor_any _ _ _ (by omega) (by omega)).mono ?_; rintro e w' ⟨rfl, nq, rfl⟩))
  go_quiet (fail)
  go_wp2
  exact bodyPost_ret (v := .agg #[.int .i64 (-p), .int .i64 q]) (by simp [results, Try.results56, go_sem]) rfl ⟨rfl, ((below_drewN' ((Below.refl _ _).alloc (Nat.le_refl _) _) _).setCell (by simp) _).setCell (by simp) _⟩
theorem wrap_div (a g : Nat) (h : a / g ≤ 18446744073709551615) : IntKind.u64.wrap ((a : Int) / (g : Int)) = ((a / g : Nat) : Int) := by
  have e : (a : Int) / (g : Int) = ((a / g : Nat) : Int) := rfl
  rw [e]
  exact IntWalk.u64_in _ ⟨Int.natCast_nonneg _, Int.ofNat_le.2 h⟩

/-- reduce returns the reduced quotient, or raises its error. -/
theorem reduce_ok (n d : Int) (w : World) (hn1 : -9223372036854775808 ≤ n) (hn2 : n ≤ 9223372036854775807) (hd1 : -9223372036854775808 ≤ d) (hd2 : d ≤ 9223372036854775807)
    (h : mkE n d = 0) : Calls Try.prog 56 #[.int .i64 n, .int .i64 d] w fun e w' => e = .returned (.agg #[.int .i64 (mkN n d), .int .i64 (mkD n d)]) ∧ Below w.heap.size w w' := by
  have hd : d ≠ 0 := by intro hd; simp [mkE, hd] at h
  have hr : ¬ (1000000000 < n.natAbs / cd n d ∨ 1000000000 < d.natAbs / cd n d) := by
    intro hr; simp only [mkE, if_neg hd, if_pos hr] at h; omega
  have hg := cd_pos (n := n) hd
  have e1 : mkN n d = rn n d := by simp [mkN, h]
  have e2 : mkD n d = rd n d := by simp [mkD, h]
  rw [e1, e2]
  have hb : (d == 0) = false := by simpa using hd
  have hgi : 1 ≤ ((n.natAbs.gcd d.natAbs : Nat) : Int) := by unfold cd at hg; omega
  have hp : ((n.natAbs / cd n d : Nat) : Int) ≤ 1000000000 := by omega
  have hq : ((d.natAbs / cd n d : Nat) : Int) ≤ 1000000000 := by omega
  have ep : IntKind.u64.wrap ((n.natAbs : Int) / ((n.natAbs.gcd d.natAbs : Nat) : Int)) = ((n.natAbs / cd n d : Nat) : Int) := wrap_div _ (cd n d) (by omega)
  have eq : IntKind.u64.wrap ((d.natAbs : Int) / ((n.natAbs.gcd d.natAbs : Nat) : Int)) = ((d.natAbs / cd n d : Nat) : Int) := wrap_div _ (cd n d) (by omega)
  unfold rn rd
  by_cases h1 : n < 0 <;> by_cases h2 : d < 0
  · rw [if_pos (by simp [h1, h2])]
    exact reduce_nn n d _ _ w hn1 hn2 hd1 hd2 hb hgi ep eq hp hq (by simp [h1]) (by simp [h2])
  · rw [if_neg (by simp [h1, h2])]
    exact reduce_np n d _ _ w hn1 hn2 hd1 hd2 hb hgi ep eq hp hq (by simp [h1]) (by simp [h2])
  · rw [if_neg (by simp [h1, h2])]
    exact reduce_pn n d _ _ w hn1 hn2 hd1 hd2 hb hgi ep eq hp hq (by simp [h1]) (by simp [h2])
  · rw [if_pos (by simp [h1, h2])]
    exact reduce_pp n d _ _ w hn1 hn2 hd1 hd2 hb hgi ep eq hp hq (by simp [h1]) (by simp [h2])
theorem reduce_err (n d : Int) (w : World) (hn1 : -9223372036854775808 ≤ n) (hn2 : n ≤ 9223372036854775807) (hd1 : -9223372036854775808 ≤ d) (hd2 : d ≤ 9223372036854775807)
    (h : mkE n d ≠ 0) : Calls Try.prog 56 #[.int .i64 n, .int .i64 d] w fun e w' => e = raise (mkE n d) ∧ Below w.heap.size w w' := by
  by_cases hd : d = 0
  · subst hd
    exact reduce_zero n w
  · have hr : 1000000000 < n.natAbs / cd n d ∨ 1000000000 < d.natAbs / cd n d := by
      by_cases hr : 1000000000 < n.natAbs / cd n d ∨ 1000000000 < d.natAbs / cd n d
      · exact hr
      · exact absurd (by simp only [mkE, if_neg hd, if_neg hr]) h
    have he : mkE n d = 3 := by simp only [mkE, if_neg hd, if_pos hr]
    rw [he]
    have hg := cd_pos (n := n) hd
    have hb : (d == 0) = false := by simpa using hd
    have hgi : 1 ≤ ((n.natAbs.gcd d.natAbs : Nat) : Int) := by unfold cd at hg; omega
    have l1 : n.natAbs / cd n d ≤ n.natAbs := Nat.div_le_self _ _
    have l2 : d.natAbs / cd n d ≤ d.natAbs := Nat.div_le_self _ _
    have ep : IntKind.u64.wrap ((n.natAbs : Int) / ((n.natAbs.gcd d.natAbs : Nat) : Int)) = ((n.natAbs / cd n d : Nat) : Int) := wrap_div _ (cd n d) (by omega)
    have eq : IntKind.u64.wrap ((d.natAbs : Int) / ((n.natAbs.gcd d.natAbs : Nat) : Int)) = ((d.natAbs / cd n d : Nat) : Int) := wrap_div _ (cd n d) (by omega)
    exact reduce_range n d _ _ w hn1 hn2 hd1 hd2 hb hgi ep eq hr
theorem assert_yes (c : Int) (w : World) : (Instr.typeAssert (.iface 33 (.int .i64 c)) 20 33 true).run Try.prog w = .ok (.tuple #[.int .i64 c, .bool true]) w := by kernel_rfl
theorem assert_no (w : World) : (Instr.typeAssert .nilIface 20 33 true).run Try.prog w = .ok (.tuple #[.int .i64 0, .bool false]) w := by kernel_rfl
set_option maxHeartbeats 400000 in
theorem catchR_panicking (p : Addr) (x c : Int) (older : List PanicEntry) (w : World) (hc : w.cell? p = some (.int .i64 x)) (hz : w.frozen? p = false) :
    CallsD Try.prog 72 #[.pointer (some p)] (.panicking ({ v := .iface 33 (.int .i64 c), recovered := false } :: older)) w fun e u' w' =>
      e = .returned (.tuple #[]) ∧ u' = .panicking ({ v := .iface 33 (.int .i64 c), recovered := true } :: older) ∧ w' = w.setCell p (.int .i64 c) := by
  refine callsD_of_wpS Try.func72 rfl fun c₀ cs hu => ?_
  apply wpS_seq
  apply wpS_region
  simp [wpOpsS, go_sem, recoverD, hu, Try.ntmps72, Exit.thenS, assert_yes]
  apply wpS_seq
  apply wpS_region
  simp [wpOpsS, go_sem, Exit.thenS]
  refine wpS_cond (t := true) (by simp [Act.eval, Array.replicate]) ?_
  simp only [if_true]
  apply wpS_region
  simp [wpOpsS, go_sem, hc, hz, bodyPostS, results, Try.results72]
set_option maxHeartbeats 400000 in
theorem catchR_idle (p : Addr) (w : World) :
    CallsD Try.prog 72 #[.pointer (some p)] .returning w fun e u' w' => e = .returned (.tuple #[]) ∧ u' = .returning ∧ w' = w := by
  refine callsD_of_wpS Try.func72 rfl fun c₀ cs hu => ?_
  apply wpS_seq
  apply wpS_region
  simp [wpOpsS, go_sem, recoverD, hu, Try.ntmps72, Exit.thenS, assert_no]
  apply wpS_seq
  apply wpS_region
  simp [wpOpsS, go_sem, Exit.thenS]
  refine wpS_cond (t := false) (by simp [Act.eval, Array.replicate]) ?_
  simp only [Bool.false_eq_true, if_false]
  refine wpS_of_wp (wp_skip ?_)
  cases c₀
  simp_all [bodyPostS, results, Try.results72]
set_option maxHeartbeats 400000 in
theorem catchI_panicking (p : Addr) (x c : Int) (older : List PanicEntry) (w : World) (hc : w.cell? p = some (.int .i64 x)) (hz : w.frozen? p = false) :
    CallsD Try.prog 73 #[.pointer (some p)] (.panicking ({ v := .iface 33 (.int .i64 c), recovered := false } :: older)) w fun e u' w' =>
      e = .returned (.tuple #[]) ∧ u' = .panicking ({ v := .iface 33 (.int .i64 c), recovered := true } :: older) ∧ w' = w.setCell p (.int .i64 c) := by
  refine callsD_of_wpS Try.func73 rfl fun c₀ cs hu => ?_
  apply wpS_seq
  apply wpS_region
  simp [wpOpsS, go_sem, recoverD, hu, Try.ntmps73, Exit.thenS, assert_yes]
  apply wpS_seq
  apply wpS_region
  simp [wpOpsS, go_sem, Exit.thenS]
  refine wpS_cond (t := true) (by simp [Act.eval, Array.replicate]) ?_
  simp only [if_true]
  apply wpS_region
  simp [wpOpsS, go_sem, hc, hz, bodyPostS, results, Try.results73]
set_option maxHeartbeats 400000 in
theorem catchI_idle (p : Addr) (w : World) :
    CallsD Try.prog 73 #[.pointer (some p)] .returning w fun e u' w' => e = .returned (.tuple #[]) ∧ u' = .returning ∧ w' = w := by
  refine callsD_of_wpS Try.func73 rfl fun c₀ cs hu => ?_
  apply wpS_seq
  apply wpS_region
  simp [wpOpsS, go_sem, recoverD, hu, Try.ntmps73, Exit.thenS, assert_no]
  apply wpS_seq
  apply wpS_region
  simp [wpOpsS, go_sem, Exit.thenS]
  refine wpS_cond (t := false) (by simp [Act.eval, Array.replicate]) ?_
  simp only [Bool.false_eq_true, if_false]
  refine wpS_of_wp (wp_skip ?_)
  cases c₀
  simp_all [bodyPostS, results, Try.results73]
set_option maxRecDepth 100000 in
set_option maxHeartbeats 400000 in
theorem attemptR_ok (K : FuncId) (cap : Array Value) (n d : Int) (w : World) (hK : ∀ W, (callFunc K cap).run Try.prog W = .ok (.enter K cap) W)
    (hc : ∀ W, Below w.heap.size w W → Calls Try.prog K cap W fun e W' => e = .returned (.agg #[.int .i64 n, .int .i64 d]) ∧ Below W.heap.size W W') :
    Calls Try.prog 53 #[.func (.func K) #[] cap] w fun e w' => e = .returned (.tuple #[.agg #[.int .i64 n, .int .i64 d], .int .i64 0]) ∧ Below w.heap.size w w' := by
  have HC := Lib.hid hc; clear hc
  have hmf : ∀ (fn : Fn) (first cap : Array Value) (w : World), (Instr.makeFunc fn first cap).run Try.prog w = .ok (.func fn first cap) w := fun _ _ _ _ => rfl
  go_enter_defers Try.func53, Try.ntmps53
  go_wp2_with fail
  refine (HC.out _ (((Below.refl _ _).alloc (Nat.le_refl _) _).alloc (by simp) _)).mono ?_
  rintro e w1 ⟨rfl, hb⟩
  obtain ⟨h1, h2⟩ := bcell hb
  have c0 : w1.cell? ⟨w.heap.size, 0, none⟩ = some (.int .i64 0) := by rw [h1 _ _ (by simp <;> omega)]; simp [go_sem]
  have c1 : w1.cell? ⟨w.heap.size, 1, none⟩ = some (.int .i64 0) := by rw [h1 _ _ (by simp <;> omega)]; simp [go_sem]
  have ce : w1.cell? ⟨w.heap.size + 1, 0, none⟩ = some (.int .i64 0) := by rw [h1 _ _ (by simp <;> omega)]; simp [go_sem]
  have f0 : w1.frozen? ⟨w.heap.size, 0, none⟩ = false := by rw [h2 _ _ (by simp <;> omega)]; simp [go_sem]
  have f1 : w1.frozen? ⟨w.heap.size, 1, none⟩ = false := by rw [h2 _ _ (by simp <;> omega)]; simp [go_sem]
  have fe : w1.frozen? ⟨w.heap.size + 1, 0, none⟩ = false := by rw [h2 _ _ (by simp <;> omega)]; simp [go_sem]
  clear h1 h2
  go_wp2_with fail
  refine leaves_cons (f := 72) (args := #[.pointer (some ⟨w.heap.size + 1, 0, none⟩)]) (by simp) (by simp [go_sem]) ?_
  refine (catchR_idle ⟨w.heap.size + 1, 0, none⟩ _).mono ?_
  rintro e u' w'' ⟨rfl, rfl, rfl⟩
  simp [Leaves, settle, results, Try.results53, go_sem, c0, c1, ce]
  exact (((((((Below.refl _ _).alloc (Nat.le_refl _) _).alloc (by simp) _).trans (hb.mono (by simp; omega))).setCell (by simp) _).setCell (by simp) _).setCell (by simp) _)
set_option maxRecDepth 100000 in
set_option maxHeartbeats 400000 in
theorem attemptR_err (K : FuncId) (cap : Array Value) (c : Int) (w : World) (hK : ∀ W, (callFunc K cap).run Try.prog W = .ok (.enter K cap) W)
    (hc : ∀ W, Below w.heap.size w W → Calls Try.prog K cap W fun e W' => e = raise c ∧ Below W.heap.size W W') :
    Calls Try.prog 53 #[.func (.func K) #[] cap] w fun e w' => e = .returned (.tuple #[.agg #[.int .i64 0, .int .i64 0], .int .i64 c]) ∧ Below w.heap.size w w' := by
  have HC := Lib.hid hc; clear hc
  have hmf : ∀ (fn : Fn) (first cap : Array Value) (w : World), (Instr.makeFunc fn first cap).run Try.prog w = .ok (.func fn first cap) w := fun _ _ _ _ => rfl
  go_enter_defers Try.func53, Try.ntmps53
  go_wp2_with fail
  refine (HC.out _ (((Below.refl _ _).alloc (Nat.le_refl _) _).alloc (by simp) _)).mono ?_
  rintro e w1 ⟨rfl, hb⟩
  obtain ⟨h1, h2⟩ := bcell hb
  have c0 : w1.cell? ⟨w.heap.size, 0, none⟩ = some (.int .i64 0) := by rw [h1 _ _ (by simp <;> omega)]; simp [go_sem]
  have c1 : w1.cell? ⟨w.heap.size, 1, none⟩ = some (.int .i64 0) := by rw [h1 _ _ (by simp <;> omega)]; simp [go_sem]
  have ce : w1.cell? ⟨w.heap.size + 1, 0, none⟩ = some (.int .i64 0) := by rw [h1 _ _ (by simp <;> omega)]; simp [go_sem]
  have fe : w1.frozen? ⟨w.heap.size + 1, 0, none⟩ = false := by rw [h2 _ _ (by simp <;> omega)]; simp [go_sem]
  clear h1 h2
  go_wp2_with fail
  refine leaves_cons (f := 72) (args := #[.pointer (some ⟨w.heap.size + 1, 0, none⟩)]) (by simp) (by simp [go_sem]) ?_
  refine (catchR_panicking ⟨w.heap.size + 1, 0, none⟩ 0 c [] _ ce fe).mono ?_
  rintro e u' w'' ⟨rfl, rfl, rfl⟩
  simp [Leaves, settle, results, Try.results53, go_sem, c0, c1, ce]
  exact ((((Below.refl _ _).alloc (Nat.le_refl _) _).alloc (by simp) _).trans (hb.mono (by simp; omega))).setCell (by simp) _
set_option maxRecDepth 100000 in
set_option maxHeartbeats 400000 in
theorem attemptI_ok (K : FuncId) (cap : Array Value) (x : Int) (w : World) (hK : ∀ W, (callFunc K cap).run Try.prog W = .ok (.enter K cap) W)
    (hc : ∀ W, Below w.heap.size w W → Calls Try.prog K cap W fun e W' => e = .returned (.int .i64 x) ∧ Below W.heap.size W W') :
    Calls Try.prog 57 #[.func (.func K) #[] cap] w fun e w' => e = .returned (.tuple #[.int .i64 x, .int .i64 0]) ∧ Below w.heap.size w w' := by
  have HC := Lib.hid hc; clear hc
  have hmf : ∀ (fn : Fn) (first cap : Array Value) (w : World), (Instr.makeFunc fn first cap).run Try.prog w = .ok (.func fn first cap) w := fun _ _ _ _ => rfl
  go_enter_defers Try.func57, Try.ntmps57
  go_wp2_with fail
  refine (HC.out _ ((Below.refl _ _).alloc (Nat.le_refl _) _)).mono ?_
  rintro e w1 ⟨rfl, hb⟩
  obtain ⟨h1, h2⟩ := bcell hb
  have ce : w1.cell? ⟨w.heap.size, 0, none⟩ = some (.int .i64 0) := by rw [h1 _ _ (by simp <;> omega)]; simp [go_sem]
  have fe : w1.frozen? ⟨w.heap.size, 0, none⟩ = false := by rw [h2 _ _ (by simp <;> omega)]; simp [go_sem]
  clear h1 h2
  go_wp2_with fail
  refine leaves_cons (f := 73) (args := #[.pointer (some ⟨w.heap.size, 0, none⟩)]) (by simp) (by simp [go_sem]) ?_
  refine (catchI_idle ⟨w.heap.size, 0, none⟩ _).mono ?_
  rintro e u' w'' ⟨rfl, rfl, rfl⟩
  simp [Leaves, settle, results, Try.results57, go_sem, ce]
  exact (((Below.refl _ _).alloc (Nat.le_refl _) _).trans (hb.mono (by simp))).setCell (by simp) _
set_option maxRecDepth 100000 in
set_option maxHeartbeats 400000 in
theorem attemptI_err (K : FuncId) (cap : Array Value) (c : Int) (w : World) (hK : ∀ W, (callFunc K cap).run Try.prog W = .ok (.enter K cap) W)
    (hc : ∀ W, Below w.heap.size w W → Calls Try.prog K cap W fun e W' => e = raise c ∧ Below W.heap.size W W') :
    Calls Try.prog 57 #[.func (.func K) #[] cap] w fun e w' => e = .returned (.tuple #[.int .i64 0, .int .i64 c]) ∧ Below w.heap.size w w' := by
  have HC := Lib.hid hc; clear hc
  have hmf : ∀ (fn : Fn) (first cap : Array Value) (w : World), (Instr.makeFunc fn first cap).run Try.prog w = .ok (.func fn first cap) w := fun _ _ _ _ => rfl
  go_enter_defers Try.func57, Try.ntmps57
  go_wp2_with fail
  refine (HC.out _ ((Below.refl _ _).alloc (Nat.le_refl _) _)).mono ?_
  rintro e w1 ⟨rfl, hb⟩
  obtain ⟨h1, h2⟩ := bcell hb
  have ce : w1.cell? ⟨w.heap.size, 0, none⟩ = some (.int .i64 0) := by rw [h1 _ _ (by simp <;> omega)]; simp [go_sem]
  have fe : w1.frozen? ⟨w.heap.size, 0, none⟩ = false := by rw [h2 _ _ (by simp <;> omega)]; simp [go_sem]
  clear h1 h2
  go_wp2_with fail
  refine leaves_cons (f := 73) (args := #[.pointer (some ⟨w.heap.size, 0, none⟩)]) (by simp) (by simp [go_sem]) ?_
  refine (catchI_panicking ⟨w.heap.size, 0, none⟩ 0 c [] _ ce fe).mono ?_
  rintro e u' w'' ⟨rfl, rfl, rfl⟩
  simp [Leaves, settle, results, Try.results57, go_sem, ce]
  exact (((Below.refl _ _).alloc (Nat.le_refl _) _).trans (hb.mono (by simp))).setCell (by simp) _
theorem rvalid_b (n d : Int) (b : Bool) (h : vld n d = b) (w : World) (hn : I64 n) (hd : I64 d) :
    Calls Try.prog 20 #[.agg #[.int .i64 n, .int .i64 d]] w fun e w' => e = .returned (.bool b) ∧ Below w.heap.size w w' := by
  subst h; exact rvalid_any n d w hn.1 hn.2 hd.1 hd.2
set_option maxRecDepth 100000 in
set_option maxHeartbeats 400000 in
theorem require_ok (b len : Nat) (N D : Nat → Int) (w : World) (hm : len ≤ 9223372036854775807) (hN : ∀ i, I64 (N i)) (hD : ∀ i, I64 (D i)) (hb : b < w.heap.size)
    (hc : ∀ i, i < len → w.cell? ⟨b, i * 2, none⟩ = some (.int .i64 (N i)) ∧ w.cell? ⟨b, i * 2 + 1, none⟩ = some (.int .i64 (D i)))
    (hv : ∀ i, i < len → vld (N i) (D i) = true) :
    Calls Try.prog 55 #[.slice (some ⟨b, 0, none⟩) len len] w fun e w' => e = .returned (.tuple #[]) ∧ Below w.heap.size w w' := by
  have HC := Lib.hid hc; clear hc
  have HV := Lib.hid hv; clear hv
  have HN := Lib.hid hN; clear hN
  have HD := Lib.hid hD; clear hD
  go_enter Try.func55, Try.ntmps55
  go_wp2
  go_loopw [6] (fun i wr => ∃ k : Nat, k ≤ len ∧ i = .int .i64 k ∧ Below w.heap.size w wr) (fun i _ => len - (intOf i).toNat)
  case atStart => exact ⟨0, Nat.zero_le _, rfl, Below.refl _ _⟩
  case round =>
    obtain ⟨k, hk, rfl, hbw⟩ := hrel
    by_cases hlt : k < len
    · skip
      obtain ⟨g0, g1⟩ := HC.out k (by omega)
      have c0 := hbw.cell (p := ⟨b, k * 2, none⟩) hb
      have c1 := hbw.cell (p := ⟨b, k * 2 + 1, none⟩) hb
      rw [g0] at c0
      rw [g1] at c1
      clear g0 g1
      go_wp2_with fail
      refine (rvalid_b _ _ true (HV.out k hlt) _ (HN.out k) (HD.out k)).mono ?_
      rintro e w1 ⟨rfl, hb1⟩
      have hb2 : Below w.heap.size w w1 := (hbw.alloc hbw.size _).trans (hb1.mono (by have := hbw.size; simp; omega))
      go_wp2_with fail
      go_roundw
      case rel => exact ⟨k + 1, by omega, by go_num, hb2⟩
      case measure => simp [intOf]; omega
    · go_wp2
      go_end0
      exact ⟨rfl, hbw⟩
set_option maxRecDepth 100000 in
set_option maxHeartbeats 400000 in
theorem require_err (b len : Nat) (N D : Nat → Int) (w : World) (hm : len ≤ 9223372036854775807) (hN : ∀ i, I64 (N i)) (hD : ∀ i, I64 (D i)) (hb : b < w.heap.size)
    (hc : ∀ i, i < len → w.cell? ⟨b, i * 2, none⟩ = some (.int .i64 (N i)) ∧ w.cell? ⟨b, i * 2 + 1, none⟩ = some (.int .i64 (D i)))
    (m : Nat) (hml : m < len) (hv : ∀ i, i < m → vld (N i) (D i) = true) (hx : vld (N m) (D m) = false) :
    Calls Try.prog 55 #[.slice (some ⟨b, 0, none⟩) len len] w fun e w' => e = raise 1 ∧ Below w.heap.size w w' := by
  have HC := Lib.hid hc; clear hc
  have HV := Lib.hid hv; clear hv
  have HN := Lib.hid hN; clear hN
  have HD := Lib.hid hD; clear hD
  have HX := Lib.hid hx; clear hx
  go_enter Try.func55, Try.ntmps55
  go_wp2
  go_loopw [6] (fun i wr => ∃ k : Nat, k ≤ m ∧ i = .int .i64 k ∧ Below w.heap.size w wr) (fun i _ => len - (intOf i).toNat)
  case atStart => exact ⟨0, Nat.zero_le _, rfl, Below.refl _ _⟩
  case round =>
    obtain ⟨k, hk, rfl, hbw⟩ := hrel
    by_cases hlt : k < m
    · have hlt2 : k < len := by omega
      obtain ⟨g0, g1⟩ := HC.out k (by omega)
      have c0 := hbw.cell (p := ⟨b, k * 2, none⟩) hb
      have c1 := hbw.cell (p := ⟨b, k * 2 + 1, none⟩) hb
      rw [g0] at c0
      rw [g1] at c1
      clear g0 g1
      go_wp2_with fail
      refine (rvalid_b _ _ true (HV.out k hlt) _ (HN.out k) (HD.out k)).mono ?_
      rintro e w1 ⟨rfl, hb1⟩
      have hb2 : Below w.heap.size w w1 := (hbw.alloc hbw.size _).trans (hb1.mono (by have := hbw.size; simp; omega))
      go_wp2_with fail
      go_roundw
      case rel => exact ⟨k + 1, by omega, by go_num, hb2⟩
      case measure => simp [intOf]; omega
    · obtain rfl : k = m := by omega
      have hlt2 : k < len := hml
      obtain ⟨g0, g1⟩ := HC.out k (by omega)
      have c0 := hbw.cell (p := ⟨b, k * 2, none⟩) hb
      have c1 := hbw.cell (p := ⟨b, k * 2 + 1, none⟩) hb
      rw [g0] at c0
      rw [g1] at c1
      clear g0 g1
      go_wp2_with fail
      refine (rvalid_b _ _ false HX.out _ (HN.out k) (HD.out k)).mono ?_
      rintro e w1 ⟨rfl, hb1⟩
      have hb2 : Below w.heap.size w w1 := (hbw.alloc hbw.size _).trans (hb1.mono (by have := hbw.size; simp; omega))
      go_wp2
      exact ⟨rfl, rfl, hb2⟩
set_option maxHeartbeats 400000 in
theorem makeW_ok (b0 b1 : Nat) (n d : Int) (w : World) (hn : I64 n) (hd : I64 d) (c0 : w.cell? ⟨b0, 0, none⟩ = some (.int .i64 n)) (c1 : w.cell? ⟨b1, 0, none⟩ = some (.int .i64 d)) (h : mkE n d = 0) :
    Calls Try.prog 71 #[.pointer (some ⟨b0, 0, none⟩), .pointer (some ⟨b1, 0, none⟩)] w fun e w' => e = .returned (.agg #[.int .i64 (mkN n d), .int .i64 (mkD n d)]) ∧ Below w.heap.size w w' := by
  have g0 := block_lt c0
  have g1 := block_lt c1
  have H := Lib.hid h; clear h
  go_enter Try.func71, Try.ntmps71
  go_wp2_with fail
  refine (reduce_ok n d _ hn.1 hn.2 hd.1 hd.2 H.out).mono ?_
  rintro e w1 ⟨rfl, hb⟩
  obtain ⟨h1, h2⟩ := bcell hb
  have z0 : w1.cell? ⟨w.heap.size, 0, none⟩ = some (.int .i64 0) := by rw [h1 _ _ (by simp)]; simp [go_sem]
  have z1 : w1.cell? ⟨w.heap.size, 1, none⟩ = some (.int .i64 0) := by rw [h1 _ _ (by simp)]; simp [go_sem]
  have f0 : w1.frozen? ⟨w.heap.size, 0, none⟩ = false := by rw [h2 _ _ (by simp)]; simp [go_sem]
  have f1 : w1.frozen? ⟨w.heap.size, 1, none⟩ = false := by rw [h2 _ _ (by simp)]; simp [go_sem]
  clear h1 h2 c0 c1
  go_wp2_with fail
  refine bodyPost_ret (v := .agg #[.int .i64 (mkN n d), .int .i64 (mkD n d)]) (by simp [results, Try.results71, go_sem, z0, z1]) rfl ⟨rfl, ?_⟩
  exact ((((Below.refl _ _).alloc (Nat.le_refl _) _).trans (hb.mono (by simp))).setCell (by simp) _).setCell (by simp) _
set_option maxHeartbeats 400000 in
theorem makeW_err (b0 b1 : Nat) (n d : Int) (w : World) (hn : I64 n) (hd : I64 d) (c0 : w.cell? ⟨b0, 0, none⟩ = some (.int .i64 n)) (c1 : w.cell? ⟨b1, 0, none⟩ = some (.int .i64 d)) (h : mkE n d ≠ 0) :
    Calls Try.prog 71 #[.pointer (some ⟨b0, 0, none⟩), .pointer (some ⟨b1, 0, none⟩)] w fun e w' => e = raise (mkE n d) ∧ Below w.heap.size w w' := by
  have g0 := block_lt c0
  have g1 := block_lt c1
  have H := Lib.hid h; clear h
  go_enter Try.func71, Try.ntmps71
  go_wp2_with fail
  refine (reduce_err n d _ hn.1 hn.2 hd.1 hd.2 H.out).mono ?_
  rintro e w1 ⟨rfl, hb⟩
  go_wp2_with fail
  exact ⟨rfl, rfl, ((Below.refl _ _).alloc (Nat.le_refl _) _).trans (hb.mono (by simp))⟩
theorem make_enter (cap : Array Value) (W : World) : (callFunc 71 cap).run Try.prog W = .ok (.enter 71 cap) W := by simp [go_sem]
set_option maxRecDepth 100000 in
set_option maxHeartbeats 400000 in
theorem make_any (n d : Int) (w : World) (hn : I64 n) (hd : I64 d) :
    Calls Try.prog 52 #[.int .i64 n, .int .i64 d] w fun e w' => e = .returned (.tuple #[.agg #[.int .i64 (mkN n d), .int .i64 (mkD n d)], .int .i64 (mkE n d)]) ∧ Below w.heap.size w w' := by
  have hmf : ∀ (fn : Fn) (first cap : Array Value) (w : World), (Instr.makeFunc fn first cap).run Try.prog w = .ok (.func fn first cap) w := fun _ _ _ _ => rfl
  have hat : ∀ W0 : World, W0.cell? ⟨w.heap.size, 0, none⟩ = some (.int .i64 n) → W0.cell? ⟨w.heap.size + 1, 0, none⟩ = some (.int .i64 d) →
      Calls Try.prog 53 #[.func (.func 71) #[] #[.pointer (some ⟨w.heap.size, 0, none⟩), .pointer (some ⟨w.heap.size + 1, 0, none⟩)]] W0
        fun e w' => e = .returned (.tuple #[.agg #[.int .i64 (mkN n d), .int .i64 (mkD n d)], .int .i64 (mkE n d)]) ∧ Below W0.heap.size W0 w' := by
    intro W0 c0 c1
    by_cases he : mkE n d = 0
    · rw [he]
      refine attemptR_ok _ _ _ _ _ (make_enter _) fun W hW => ?_
      exact makeW_ok _ _ n d W hn hd (by rw [hW.cell (block_lt c0)]; exact c0) (by rw [hW.cell (block_lt c1)]; exact c1) he
    · rw [show mkN n d = 0 by simp [mkN, he], show mkD n d = 0 by simp [mkD, he]]
      refine attemptR_err _ _ _ _ (make_enter _) fun W hW => ?_
      exact makeW_err _ _ n d W hn hd (by rw [hW.cell (block_lt c0)]; exact c0) (by rw [hW.cell (block_lt c1)]; exact c1) he
  have HA := Lib.hid hat; clear hat
  go_enter Try.func52, Try.ntmps52
  go_wp2_with fail
  refine (HA.out _ (by simp [go_sem]) (by simp [go_sem])).mono ?_
  rintro e w1 ⟨rfl, hb⟩
  obtain ⟨h1, h2⟩ := bcell hb
  have z0 : w1.cell? ⟨w.heap.size + 1 + 1, 0, none⟩ = some (.int .i64 0) := by rw [h1 _ _ (by simp)]; simp [go_sem]
  have z1 : w1.cell? ⟨w.heap.size + 1 + 1, 1, none⟩ = some (.int .i64 0) := by rw [h1 _ _ (by simp)]; simp [go_sem]
  have f0 : w1.frozen? ⟨w.heap.size + 1 + 1, 0, none⟩ = false := by rw [h2 _ _ (by simp)]; simp [go_sem]
  have f1 : w1.frozen? ⟨w.heap.size + 1 + 1, 1, none⟩ = false := by rw [h2 _ _ (by simp)]; simp [go_sem]
  clear h1 h2
  go_wp2_with fail
  refine bodyPost_ret (v := .tuple #[.agg #[.int .i64 (mkN n d), .int .i64 (mkD n d)], .int .i64 (mkE n d)]) (by simp [results, Try.results52, go_sem, z0, z1]) rfl ⟨rfl, ?_⟩
  exact ((((((Below.refl _ _).alloc (Nat.le_refl _) _).alloc (by simp) _).alloc (by simp; omega) _).trans (hb.mono (by simp; omega))).setCell (by simp; omega) _).setCell (by simp; omega) _
/-- From -MaxRat to MaxRat. -/
def Bd (x : Int) : Prop := -1000000000 ≤ x ∧ x ≤ 1000000000
theorem mul_bd {x y : Int} (hx : Bd x) (hy : Bd y) : -1000000000000000000 ≤ x * y ∧ x * y ≤ 1000000000000000000 := by
  have h : (x * y).natAbs ≤ 1000000000 * 1000000000 := by
    rw [Int.natAbs_mul]
    exact Nat.mul_le_mul (by have := hx.1; have := hx.2; omega) (by have := hy.1; have := hy.2; omega)
  generalize x * y = z at h
  omega
theorem mul_wrap {x y : Int} (hx : Bd x) (hy : Bd y) : wrap64 (x * y) = x * y := by
  have h := mul_bd hx hy
  exact IntWalk.wrap64_in _ ⟨by omega, by omega⟩
def pr (x y : Int) (i : Nat) : Int := if i = 0 then x else y
theorem pr_i {x y : Int} (hx : I64 x) (hy : I64 y) (i : Nat) : I64 (pr x y i) := by unfold pr; split <;> assumption
theorem pr_cells {w : World} {b : Nat} {a1 b1 c1 d1 : Int} (h0 : w.cell? ⟨b, 0, none⟩ = some (.int .i64 a1)) (h1 : w.cell? ⟨b, 1, none⟩ = some (.int .i64 b1)) (h2 : w.cell? ⟨b, 2, none⟩ = some (.int .i64 c1)) (h3 : w.cell? ⟨b, 3, none⟩ = some (.int .i64 d1)) :
    ∀ i, i < 2 → w.cell? ⟨b, i * 2, none⟩ = some (.int .i64 (pr a1 c1 i)) ∧ w.cell? ⟨b, i * 2 + 1, none⟩ = some (.int .i64 (pr b1 d1 i)) := by
  intro i hi
  obtain rfl | rfl : i = 0 ∨ i = 1 := by omega
  · exact ⟨h0, h1⟩
  · exact ⟨h2, h3⟩
theorem pr_ok {a1 b1 c1 d1 : Int} (h : (vld a1 b1 && vld c1 d1) = true) : ∀ i, i < 2 → vld (pr a1 c1 i) (pr b1 d1 i) = true := by
  intro i hi
  rw [Bool.and_eq_true] at h
  obtain rfl | rfl : i = 0 ∨ i = 1 := by omega
  · exact h.1
  · exact h.2
/-- requireValid of two pairs. -/
theorem require2_ok (b : Nat) (a1 b1 c1 d1 : Int) (w : World) (ha : I64 a1) (hb : I64 b1) (hc : I64 c1) (hd : I64 d1)
    (h0 : w.cell? ⟨b, 0, none⟩ = some (.int .i64 a1)) (h1 : w.cell? ⟨b, 1, none⟩ = some (.int .i64 b1)) (h2 : w.cell? ⟨b, 2, none⟩ = some (.int .i64 c1)) (h3 : w.cell? ⟨b, 3, none⟩ = some (.int .i64 d1)) (hv : (vld a1 b1 && vld c1 d1) = true) :
    Calls Try.prog 55 #[.slice (some ⟨b, 0, none⟩) 2 2] w fun e w' => e = .returned (.tuple #[]) ∧ Below w.heap.size w w' :=
  require_ok b 2 (pr a1 c1) (pr b1 d1) w (by omega) (pr_i ha hc) (pr_i hb hd) (block_lt h0) (pr_cells h0 h1 h2 h3) (pr_ok hv)
theorem require2_err (b : Nat) (a1 b1 c1 d1 : Int) (w : World) (ha : I64 a1) (hb : I64 b1) (hc : I64 c1) (hd : I64 d1)
    (h0 : w.cell? ⟨b, 0, none⟩ = some (.int .i64 a1)) (h1 : w.cell? ⟨b, 1, none⟩ = some (.int .i64 b1)) (h2 : w.cell? ⟨b, 2, none⟩ = some (.int .i64 c1)) (h3 : w.cell? ⟨b, 3, none⟩ = some (.int .i64 d1)) (hv : (vld a1 b1 && vld c1 d1) = false) :
    Calls Try.prog 55 #[.slice (some ⟨b, 0, none⟩) 2 2] w fun e w' => e = raise 1 ∧ Below w.heap.size w w' := by
  cases hv1 : vld a1 b1 with
  | false => exact require_err b 2 (pr a1 c1) (pr b1 d1) w (by omega) (pr_i ha hc) (pr_i hb hd) (block_lt h0) (pr_cells h0 h1 h2 h3) 0 (by omega) (fun i hi => by omega) hv1
  | true =>
    rw [hv1, Bool.true_and] at hv
    refine require_err b 2 (pr a1 c1) (pr b1 d1) w (by omega) (pr_i ha hc) (pr_i hb hd) (block_lt h0) (pr_cells h0 h1 h2 h3) 1 (by omega) (fun i hi => ?_) hv
    obtain rfl : i = 0 := by omega
    exact hv1
theorem vld_bd {n d : Int} (h : vld n d = true) : Bd n ∧ Bd d := by
  obtain ⟨h1, h2, h3, h4, _⟩ := (vld_iff n d).1 h
  exact ⟨⟨h3, h4⟩, ⟨by omega, h2⟩⟩
theorem vld2 {a b c d : Int} (h : (vld a b && vld c d) = true) : Bd a ∧ Bd b ∧ Bd c ∧ Bd d := by
  rw [Bool.and_eq_true] at h
  have h1 := vld_bd h.1
  have h2 := vld_bd h.2
  exact ⟨h1.1, h1.2, h2.1, h2.2⟩
theorem mul_i {x y : Int} (hx : Bd x) (hy : Bd y) : I64 (x * y) := by have h := mul_bd hx hy; exact ⟨by omega, by omega⟩
def sgn (x y : Int) : Int := if x < y then -1 else if y < x then 1 else 0
set_option maxHeartbeats 400000 in
theorem compare_any (x y : Int) (w : World) (_hx : I64 x) (_hy : I64 y) :
    Calls Try.prog 59 #[.int .i64 x, .int .i64 y] w fun e w' => e = .returned (.int .i64 (sgn x y)) ∧ w = w' := by
  have e1 : (x != x) = false := by simp
  have e2 : (y != y) = false := by simp
  by_cases h1 : x < y
  · go_enter Try.func59, Try.ntmps59
    go_wp2
    go_ret
    exact ⟨ret_int (by unfold sgn; rw [if_pos h1]), rfl⟩
  · by_cases h2 : y < x
    · go_enter Try.func59, Try.ntmps59
      go_wp2
      go_ret
      exact ⟨ret_int (by unfold sgn; rw [if_neg (by omega), if_pos h2]), rfl⟩
    · go_enter Try.func59, Try.ntmps59
      go_wp2
      go_ret
      exact ⟨ret_int (by unfold sgn; rw [if_neg (by omega), if_neg (by omega)]), rfl⟩
/-! CMP -/
set_option maxRecDepth 100000 in
set_option maxHeartbeats 400000 in
theorem cmpW_arg (x0 x1 : Nat) (a b c d : Int) (w : World) (ha : I64 a) (hb : I64 b) (hc : I64 c) (hd : I64 d)
    (g0 : w.cell? ⟨x0, 0, none⟩ = some (.int .i64 a)) (g1 : w.cell? ⟨x0, 1, none⟩ = some (.int .i64 b)) (g2 : w.cell? ⟨x1, 0, none⟩ = some (.int .i64 c)) (g3 : w.cell? ⟨x1, 1, none⟩ = some (.int .i64 d)) (hv : (vld a b && vld c d) = false) :
    Calls Try.prog 58 #[.pointer (some ⟨x0, 0, none⟩), .pointer (some ⟨x1, 0, none⟩)] w fun e w' => e = raise 1 ∧ Below w.heap.size w w' := by
  have l0 := block_lt g0
  have l1 := block_lt g2
  have HV := Lib.hid hv; clear hv
  go_enter Try.func58, Try.ntmps58
  go_wp2_with fail
  refine (require2_err _ a b c d _ ha hb hc hd (by simp [go_sem]) (by simp [go_sem]) (by simp [go_sem]) (by simp [go_sem]) HV.out).mono ?_
  rintro e w1 ⟨rfl, hb1⟩
  go_wp2_with fail
  exact ⟨rfl, rfl, ((Below.refl _ _).alloc (Nat.le_refl _) _).trans (hb1.mono (by simp))⟩
set_option maxRecDepth 100000 in
set_option maxHeartbeats 400000 in
theorem cmpW_ok (x0 x1 : Nat) (a b c d : Int) (w : World) (ha : I64 a) (hb : I64 b) (hc : I64 c) (hd : I64 d)
    (g0 : w.cell? ⟨x0, 0, none⟩ = some (.int .i64 a)) (g1 : w.cell? ⟨x0, 1, none⟩ = some (.int .i64 b)) (g2 : w.cell? ⟨x1, 0, none⟩ = some (.int .i64 c)) (g3 : w.cell? ⟨x1, 1, none⟩ = some (.int .i64 d)) (hv : (vld a b && vld c d) = true) :
    Calls Try.prog 58 #[.pointer (some ⟨x0, 0, none⟩), .pointer (some ⟨x1, 0, none⟩)] w fun e w' => e = .returned (.int .i64 (sgn (a * d) (c * b))) ∧ Below w.heap.size w w' := by
  have l0 := block_lt g0
  have l1 := block_lt g2
  obtain ⟨ba, bb, bc, bd⟩ := vld2 hv
  have e1 := mul_wrap ba bd
  have e2 := mul_wrap bc bb
  have i1 := mul_i ba bd
  have i2 := mul_i bc bb
  have HV := Lib.hid hv; clear hv
  go_enter Try.func58, Try.ntmps58
  go_wp2_with fail
  refine (require2_ok _ a b c d _ ha hb hc hd (by simp [go_sem]) (by simp [go_sem]) (by simp [go_sem]) (by simp [go_sem]) HV.out).mono ?_
  rintro e w1 ⟨rfl, hb1⟩
  obtain ⟨h1, h2⟩ := bcell hb1
  have k0 : w1.cell? ⟨x0, 0, none⟩ = some (.int .i64 a) := by rw [h1 _ _ (by simp; omega)]; simp [go_sem, l0, g0]
  have k1 : w1.cell? ⟨x0, 1, none⟩ = some (.int .i64 b) := by rw [h1 _ _ (by simp; omega)]; simp [go_sem, l0, g1]
  have k2 : w1.cell? ⟨x1, 0, none⟩ = some (.int .i64 c) := by rw [h1 _ _ (by simp; omega)]; simp [go_sem, l1, g2]
  have k3 : w1.cell? ⟨x1, 1, none⟩ = some (.int .i64 d) := by rw [h1 _ _ (by simp; omega)]; simp [go_sem, l1, g3]
  clear h1 h2 g0 g1 g2 g3
  go_wp2_with (go_at_call 59; refine (compare_any _ _ _ i1 i2).mono ?_; rintro e w' ⟨rfl, rfl⟩)
  go_ret
  exact ⟨rfl, ((Below.refl _ _).alloc (Nat.le_refl _) _).trans (hb1.mono (by simp))⟩
theorem cmp_enter (cap : Array Value) (W : World) : (callFunc 58 cap).run Try.prog W = .ok (.enter 58 cap) W := by simp [go_sem]
def cmpR (v : Bool) (a b c d : Int) : Int := if v = true then sgn (a * d) (c * b) else 0
def cmpE (v : Bool) : Int := if v = true then 0 else 1
set_option maxRecDepth 100000 in
set_option maxHeartbeats 400000 in
theorem cmp_any (a b c d : Int) (w : World) (ha : I64 a) (hb : I64 b) (hc : I64 c) (hd : I64 d) :
    Calls Try.prog 36 #[.agg #[.int .i64 a, .int .i64 b], .agg #[.int .i64 c, .int .i64 d]] w
      fun e w' => e = .returned (.tuple #[.int .i64 (cmpR (vld a b && vld c d) a b c d), .int .i64 (cmpE (vld a b && vld c d))]) ∧ Below w.heap.size w w' := by
  have hmf : ∀ (fn : Fn) (first cap : Array Value) (w : World), (Instr.makeFunc fn first cap).run Try.prog w = .ok (.func fn first cap) w := fun _ _ _ _ => rfl
  have hat : ∀ W0 : World, W0.cell? ⟨w.heap.size, 0, none⟩ = some (.int .i64 a) → W0.cell? ⟨w.heap.size, 1, none⟩ = some (.int .i64 b) →
      W0.cell? ⟨w.heap.size + 1, 0, none⟩ = some (.int .i64 c) → W0.cell? ⟨w.heap.size + 1, 1, none⟩ = some (.int .i64 d) →
      Calls Try.prog 57 #[.func (.func 58) #[] #[.pointer (some ⟨w.heap.size, 0, none⟩), .pointer (some ⟨w.heap.size + 1, 0, none⟩)]] W0
        fun e w' => e = .returned (.tuple #[.int .i64 (cmpR (vld a b && vld c d) a b c d), .int .i64 (cmpE (vld a b && vld c d))]) ∧ Below W0.heap.size W0 w' := by
    intro W0 c1 c2 c3 c4
    by_cases hv : (vld a b && vld c d) = true
    · rw [show cmpR (vld a b && vld c d) a b c d = sgn (a * d) (c * b) by simp [cmpR, hv], show cmpE (vld a b && vld c d) = 0 by simp [cmpE, hv]]
      refine attemptI_ok _ _ _ _ (cmp_enter _) fun W hW => ?_
      exact cmpW_ok _ _ a b c d W ha hb hc hd (by rw [hW.cell (block_lt c1)]; exact c1) (by rw [hW.cell (block_lt c2)]; exact c2) (by rw [hW.cell (block_lt c3)]; exact c3) (by rw [hW.cell (block_lt c4)]; exact c4) hv
    · rw [show cmpR (vld a b && vld c d) a b c d = 0 by simp only [cmpR, if_neg hv], show cmpE (vld a b && vld c d) = 1 by simp only [cmpE, if_neg hv]]
      refine attemptI_err _ _ _ _ (cmp_enter _) fun W hW => ?_
      exact cmpW_arg _ _ a b c d W ha hb hc hd (by rw [hW.cell (block_lt c1)]; exact c1) (by rw [hW.cell (block_lt c2)]; exact c2) (by rw [hW.cell (block_lt c3)]; exact c3) (by rw [hW.cell (block_lt c4)]; exact c4) (by simpa using hv)
  have HA := Lib.hid hat; clear hat
  generalize cmpR (vld a b && vld c d) a b c d = rN at *
  generalize cmpE (vld a b && vld c d) = rE at *
  go_enter Try.func36, Try.ntmps36
  go_wp2_with fail
  refine (HA.out _ (by simp [go_sem]) (by simp [go_sem]) (by simp [go_sem]) (by simp [go_sem])).mono ?_
  rintro e w1 ⟨rfl, hb⟩
  go_wp2_with fail
  go_ret2
  exact ⟨rfl, (((Below.refl _ _).alloc (Nat.le_refl _) _).alloc (by simp) _).trans (hb.mono (by simp; omega))⟩
end Go.Proofs.Ytiffgcipdamngaa
