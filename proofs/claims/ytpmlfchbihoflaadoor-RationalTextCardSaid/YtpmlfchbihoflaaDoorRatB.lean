/-
  Package rational: Valid reports whether a pair is a number; reduce raises ErrZero or ErrRange, or returns the reduced quotient; the four operations.
-/
import Derived.Test.YtpmlfchbihoflaaDoorRatA
namespace Go.Proofs.YtpmlfchbihoflaaDoor
open Go.RowKit

def vld (n d : Int) : Bool := decide (1 ≤ d) && decide (d ≤ 1000000000) && decide (n.natAbs ≤ 1000000000) && decide (Nat.gcd n.natAbs d.natAbs = 1)

theorem vld_iff (n d : Int) : vld n d = true ↔ 1 ≤ d ∧ d ≤ 1000000000 ∧ -1000000000 ≤ n ∧ n ≤ 1000000000 ∧ Nat.gcd n.natAbs d.natAbs = 1 := by
  unfold vld
  simp only [Bool.and_eq_true, decide_eq_true_eq]
  constructor
  · rintro ⟨⟨⟨h1, h2⟩, h3⟩, h4⟩; exact ⟨h1, h2, by omega, by omega, h4⟩
  · rintro ⟨h1, h2, h3, h4, h5⟩; exact ⟨⟨⟨h1, h2⟩, by omega⟩, h5⟩

theorem below_drewN' {B : Nat} {a w : World} (h : Below B a w) (n : Nat) : Below B a (w.drewN n) := h.trans ⟨rfl, rfl, rfl, Nat.le_refl _, fun _ _ => rfl⟩
theorem quiet_left {P : Program} {f : FuncId} {args : Array Value} {w : World} {n : Nat} {v : Value}
    (h : Calls P f args (w.drewN n) fun e w' => e = .returned v ∧ w.drewN n = w') : Calls P f args (w.drewN n) fun e w'' => e = .returned v ∧ ∃ m, w'' = w.drewN m :=
  h.mono fun _ _ ⟨he, hm⟩ => ⟨he, n, hm.symm⟩
theorem ret_bool {a b : Bool} (h : a = b) : Ending.returned (.bool a) = .returned (.bool b) := by rw [h]

theorem vld_last {n d : Int} (h1 : 1 ≤ d) (h2 : d ≤ 1000000000) (h3 : (n.natAbs : Int) ≤ 1000000000) : (((n.natAbs.gcd d.natAbs : Nat) : Int) == 1) = vld n d := by
  rw [Bool.eq_iff_iff, vld_iff]
  simp only [beq_iff_eq]
  constructor
  · intro h; exact ⟨h1, h2, by omega, by omega, by omega⟩
  · rintro ⟨_, _, _, _, h⟩; omega

set_option maxHeartbeats 400000 in
theorem valid_any (n d : Int) (w : World) (hn1 : -9223372036854775808 ≤ n) (hn2 : n ≤ 9223372036854775807) (_hd1 : -9223372036854775808 ≤ d) (_hd2 : d ≤ 9223372036854775807) :
    Calls Tryd.prog 6 #[.agg #[.int .i64 n, .int .i64 d]] w fun e w' => e = .returned (.bool (vld n d)) ∧ Below w.heap.size w w' := by
  by_cases h1 : d < 1
  · go_enter Tryd.func6, Tryd.ntmps6
    go_wp2
    go_ret
    exact ⟨ret_bool (by unfold vld; simp; omega), (Below.refl _ _).alloc (Nat.le_refl _) _⟩
  · by_cases h2 : 1000000000 < d
    · go_enter Tryd.func6, Tryd.ntmps6
      go_wp2
      go_ret
      exact ⟨ret_bool (by unfold vld; simp; omega), (Below.refl _ _).alloc (Nat.le_refl _) _⟩
    · by_cases h3 : (1000000000 : Int) < n.natAbs
      · go_enter Tryd.func6, Tryd.ntmps6
        go_wp2_with (go_at_call 26; refine (absolute_any _ _ (by omega) (by omega)).mono ?_; rintro e w' ⟨rfl, rfl⟩)
        go_ret
        exact ⟨ret_bool (by unfold vld; simp; omega), (Below.refl _ _).alloc (Nat.le_refl _) _⟩
      · go_enter Tryd.func6, Tryd.ntmps6
        go_wp2_with (go_at_call 26; refine (absolute_any _ _ (by omega) (by omega)).mono ?_; rintro e w' ⟨rfl, rfl⟩)
        go_quiet ((first | (go_at_call 26; exact quiet_left (absolute_any _ _ (by omega) (by omega))) | (go_at_call 27; exact Calls.quiet_of (commonDivisor_any _ _ _ (by omega) (by omega)))))
        go_wp2
        go_ret
        exact ⟨ret_bool (vld_last h1 h2 h3), below_drewN' ((Below.refl _ _).alloc (Nat.le_refl _) _) _⟩

/-- The greatest common divisor of the absolute values. -/
def cd (n d : Int) : Nat := Nat.gcd n.natAbs d.natAbs
/-- The error of the quotient of n and d: ErrZero, ErrRange or OK. -/
def mkE (n d : Int) : Int := if d = 0 then 7 else if 1000000000 < n.natAbs / cd n d ∨ 1000000000 < d.natAbs / cd n d then 3 else 0
def rn (n d : Int) : Int := if (n < 0) ↔ (d < 0) then ((n.natAbs / cd n d : Nat) : Int) else -((n.natAbs / cd n d : Nat) : Int)
def rd (n d : Int) : Int := ((d.natAbs / cd n d : Nat) : Int)
def mkN (n d : Int) : Int := if mkE n d = 0 then rn n d else 0
def mkD (n d : Int) : Int := if mkE n d = 0 then rd n d else 0

theorem cd_pos {n d : Int} (h : d ≠ 0) : 0 < cd n d := Nat.gcd_pos_of_pos_right _ (by omega)

abbrev raise (c : Int) : Ending := .panicked [{ v := .iface 26 (.int .i64 c), recovered := false }]

set_option maxHeartbeats 400000 in
theorem reduce_zero (n : Int) (w : World) :
    Calls Tryd.prog 32 #[.int .i64 n, .int .i64 0] w fun e w' => e = raise 7 ∧ Below w.heap.size w w' := by
  go_enter Tryd.func32, Tryd.ntmps32
  go_wp2
  exact ⟨rfl, rfl, (Below.refl _ _).alloc (Nat.le_refl _) _⟩

set_option maxHeartbeats 800000 in
theorem reduce_range (n d : Int) (p q : Nat) (w : World) (hn1 : -9223372036854775808 ≤ n) (hn2 : n ≤ 9223372036854775807) (hd1 : -9223372036854775808 ≤ d) (hd2 : d ≤ 9223372036854775807)
    (hd : (d == 0) = false) (hg : 1 ≤ ((n.natAbs.gcd d.natAbs : Nat) : Int)) (ep : IntKind.u64.wrap ((n.natAbs : Int) / ((n.natAbs.gcd d.natAbs : Nat) : Int)) = (p : Int)) (eq : IntKind.u64.wrap ((d.natAbs : Int) / ((n.natAbs.gcd d.natAbs : Nat) : Int)) = (q : Int)) (hr : 1000000000 < p ∨ 1000000000 < q) :
    Calls Tryd.prog 32 #[.int .i64 n, .int .i64 d] w fun e w' => e = raise 3 ∧ Below w.heap.size w w' := by
  have hr' : (1000000000 : Int) < p ∨ ((p : Int) ≤ 1000000000 ∧ (1000000000 : Int) < q) := by omega
  clear hr
  rcases hr' with hr | ⟨hr1, hr2⟩
  · go_enter Tryd.func32, Tryd.ntmps32
    go_wp2_with (first | (go_at_call 26; refine (absolute_any _ _ (by omega) (by omega)).mono ?_; rintro e w' ⟨rfl, rfl⟩) | (go_at_call 27; refine (commonDivisor_any _ _ _ (by omega) (by omega)).mono ?_; rintro e w' ⟨rfl, nq, rfl⟩))
    go_quiet (fail)
    go_wp2
    exact ⟨rfl, rfl, below_drewN' ((Below.refl _ _).alloc (Nat.le_refl _) _) _⟩
  · go_enter Tryd.func32, Tryd.ntmps32
    go_wp2_with (first | (go_at_call 26; refine (absolute_any _ _ (by omega) (by omega)).mono ?_; rintro e w' ⟨rfl, rfl⟩) | (go_at_call 27; refine (commonDivisor_any _ _ _ (by omega) (by omega)).mono ?_; rintro e w' ⟨rfl, nq, rfl⟩))
    go_quiet (fail)
    go_wp2
    exact ⟨rfl, rfl, below_drewN' ((Below.refl _ _).alloc (Nat.le_refl _) _) _⟩

set_option maxHeartbeats 800000 in
theorem reduce_nn (n d : Int) (p q : Nat) (w : World) (hn1 : -9223372036854775808 ≤ n) (hn2 : n ≤ 9223372036854775807) (hd1 : -9223372036854775808 ≤ d) (hd2 : d ≤ 9223372036854775807)
    (hd : (d == 0) = false) (hg : 1 ≤ ((n.natAbs.gcd d.natAbs : Nat) : Int)) (ep : IntKind.u64.wrap ((n.natAbs : Int) / ((n.natAbs.gcd d.natAbs : Nat) : Int)) = (p : Int)) (eq : IntKind.u64.wrap ((d.natAbs : Int) / ((n.natAbs.gcd d.natAbs : Nat) : Int)) = (q : Int)) (hp : (p : Int) ≤ 1000000000) (hq : (q : Int) ≤ 1000000000) (hn0 : decide (n < 0) = true) (hd0 : decide (d < 0) = true) :
    Calls Tryd.prog 32 #[.int .i64 n, .int .i64 d] w fun e w' => e = .returned (.agg #[.int .i64 (p), .int .i64 q]) ∧ Below w.heap.size w w' := by
  go_enter Tryd.func32, Tryd.ntmps32
  go_wp2_with (first | (go_at_call 26; refine (absolute_any _ _ (by omega) (by omega)).mono ?_; rintro e w' ⟨rfl, rfl⟩) | (go_at_call 27; refine (commonDivisor_any _ _ _ (by omega) (by omega)).mono ?_; rintro e w' ⟨rfl, nq, rfl⟩))
  go_quiet (fail)
  go_wp2
  exact bodyPost_ret (v := .agg #[.int .i64 (p), .int .i64 q]) (by simp [results, Tryd.results32, go_sem]) rfl ⟨rfl, ((below_drewN' ((Below.refl _ _).alloc (Nat.le_refl _) _) _).setCell (by simp) _).setCell (by simp) _⟩

set_option maxHeartbeats 800000 in
theorem reduce_pp (n d : Int) (p q : Nat) (w : World) (hn1 : -9223372036854775808 ≤ n) (hn2 : n ≤ 9223372036854775807) (hd1 : -9223372036854775808 ≤ d) (hd2 : d ≤ 9223372036854775807)
    (hd : (d == 0) = false) (hg : 1 ≤ ((n.natAbs.gcd d.natAbs : Nat) : Int)) (ep : IntKind.u64.wrap ((n.natAbs : Int) / ((n.natAbs.gcd d.natAbs : Nat) : Int)) = (p : Int)) (eq : IntKind.u64.wrap ((d.natAbs : Int) / ((n.natAbs.gcd d.natAbs : Nat) : Int)) = (q : Int)) (hp : (p : Int) ≤ 1000000000) (hq : (q : Int) ≤ 1000000000) (hn0 : decide (n < 0) = false) (hd0 : decide (d < 0) = false) :
    Calls Tryd.prog 32 #[.int .i64 n, .int .i64 d] w fun e w' => e = .returned (.agg #[.int .i64 (p), .int .i64 q]) ∧ Below w.heap.size w w' := by
  go_enter Tryd.func32, Tryd.ntmps32
  go_wp2_with (first | (go_at_call 26; refine (absolute_any _ _ (by omega) (by omega)).mono ?_; rintro e w' ⟨rfl, rfl⟩) | (go_at_call 27; refine (commonDivisor_any _ _ _ (by omega) (by omega)).mono ?_; rintro e w' ⟨rfl, nq, rfl⟩))
  go_quiet (fail)
  go_wp2
  exact bodyPost_ret (v := .agg #[.int .i64 (p), .int .i64 q]) (by simp [results, Tryd.results32, go_sem]) rfl ⟨rfl, ((below_drewN' ((Below.refl _ _).alloc (Nat.le_refl _) _) _).setCell (by simp) _).setCell (by simp) _⟩

set_option maxHeartbeats 800000 in
theorem reduce_np (n d : Int) (p q : Nat) (w : World) (hn1 : -9223372036854775808 ≤ n) (hn2 : n ≤ 9223372036854775807) (hd1 : -9223372036854775808 ≤ d) (hd2 : d ≤ 9223372036854775807)
    (hd : (d == 0) = false) (hg : 1 ≤ ((n.natAbs.gcd d.natAbs : Nat) : Int)) (ep : IntKind.u64.wrap ((n.natAbs : Int) / ((n.natAbs.gcd d.natAbs : Nat) : Int)) = (p : Int)) (eq : IntKind.u64.wrap ((d.natAbs : Int) / ((n.natAbs.gcd d.natAbs : Nat) : Int)) = (q : Int)) (hp : (p : Int) ≤ 1000000000) (hq : (q : Int) ≤ 1000000000) (hn0 : decide (n < 0) = true) (hd0 : decide (d < 0) = false) :
    Calls Tryd.prog 32 #[.int .i64 n, .int .i64 d] w fun e w' => e = .returned (.agg #[.int .i64 (-p), .int .i64 q]) ∧ Below w.heap.size w w' := by
  go_enter Tryd.func32, Tryd.ntmps32
  go_wp2_with (first | (go_at_call 26; refine (absolute_any _ _ (by omega) (by omega)).mono ?_; rintro e w' ⟨rfl, rfl⟩) | (go_at_call 27; refine (commonDivisor_any _ _ _ (by omega) (by omega)).mono ?_; rintro e w' ⟨rfl, nq, rfl⟩))
  go_quiet (fail)
  go_wp2
  exact bodyPost_ret (v := .agg #[.int .i64 (-p), .int .i64 q]) (by simp [results, Tryd.results32, go_sem]) rfl ⟨rfl, ((below_drewN' ((Below.refl _ _).alloc (Nat.le_refl _) _) _).setCell (by simp) _).setCell (by simp) _⟩

set_option maxHeartbeats 800000 in
theorem reduce_pn (n d : Int) (p q : Nat) (w : World) (hn1 : -9223372036854775808 ≤ n) (hn2 : n ≤ 9223372036854775807) (hd1 : -9223372036854775808 ≤ d) (hd2 : d ≤ 9223372036854775807)
    (hd : (d == 0) = false) (hg : 1 ≤ ((n.natAbs.gcd d.natAbs : Nat) : Int)) (ep : IntKind.u64.wrap ((n.natAbs : Int) / ((n.natAbs.gcd d.natAbs : Nat) : Int)) = (p : Int)) (eq : IntKind.u64.wrap ((d.natAbs : Int) / ((n.natAbs.gcd d.natAbs : Nat) : Int)) = (q : Int)) (hp : (p : Int) ≤ 1000000000) (hq : (q : Int) ≤ 1000000000) (hn0 : decide (n < 0) = false) (hd0 : decide (d < 0) = true) :
    Calls Tryd.prog 32 #[.int .i64 n, .int .i64 d] w fun e w' => e = .returned (.agg #[.int .i64 (-p), .int .i64 q]) ∧ Below w.heap.size w w' := by
  go_enter Tryd.func32, Tryd.ntmps32
  go_wp2_with (first | (go_at_call 26; refine (absolute_any _ _ (by omega) (by omega)).mono ?_; rintro e w' ⟨rfl, rfl⟩) | (go_at_call 27; refine (commonDivisor_any _ _ _ (by omega) (by omega)).mono ?_; rintro e w' ⟨rfl, nq, rfl⟩))
  go_quiet (fail)
  go_wp2
  exact bodyPost_ret (v := .agg #[.int .i64 (-p), .int .i64 q]) (by simp [results, Tryd.results32, go_sem]) rfl ⟨rfl, ((below_drewN' ((Below.refl _ _).alloc (Nat.le_refl _) _) _).setCell (by simp) _).setCell (by simp) _⟩


theorem wrap_div (a g : Nat) (h : a / g ≤ 18446744073709551615) : IntKind.u64.wrap ((a : Int) / (g : Int)) = ((a / g : Nat) : Int) := by
  have e : (a : Int) / (g : Int) = ((a / g : Nat) : Int) := rfl
  rw [e]
  exact IntWalk.u64_in _ ⟨Int.natCast_nonneg _, Int.ofNat_le.2 h⟩

def retRat (n d : Int) : Ending := .returned (.agg #[.int .i64 n, .int .i64 d])

/-- reduce returns the reduced quotient, or raises its error. -/
theorem reduce_ok (n d : Int) (w : World) (hn1 : -9223372036854775808 ≤ n) (hn2 : n ≤ 9223372036854775807) (hd1 : -9223372036854775808 ≤ d) (hd2 : d ≤ 9223372036854775807)
    (h : mkE n d = 0) : Calls Tryd.prog 32 #[.int .i64 n, .int .i64 d] w fun e w' => e = .returned (.agg #[.int .i64 (mkN n d), .int .i64 (mkD n d)]) ∧ Below w.heap.size w w' := by
  have hd : d ≠ 0 := by intro hd; simp [mkE, hd] at h
  have hr : ¬ (1000000000 < n.natAbs / cd n d ∨ 1000000000 < d.natAbs / cd n d) := by
    intro hr; simp only [mkE, if_neg hd, if_pos hr] at h; omega
  have hg := cd_pos (n := n) hd
  have e1 : mkN n d = rn n d := by simp [mkN, h]
  have e2 : mkD n d = rd n d := by simp [mkD, h]
  rw [e1, e2]
  have hb : (d == 0) = false := by simpa using hd
  have hgi : 1 ≤ ((n.natAbs.gcd d.natAbs : Nat) : Int) := by unfold cd at hg; omega
  have hp : ((n.natAbs / cd n d : Nat) : Int) ≤ 1000000000 := by omega
  have hq : ((d.natAbs / cd n d : Nat) : Int) ≤ 1000000000 := by omega
  have ep : IntKind.u64.wrap ((n.natAbs : Int) / ((n.natAbs.gcd d.natAbs : Nat) : Int)) = ((n.natAbs / cd n d : Nat) : Int) := wrap_div _ (cd n d) (by omega)
  have eq : IntKind.u64.wrap ((d.natAbs : Int) / ((n.natAbs.gcd d.natAbs : Nat) : Int)) = ((d.natAbs / cd n d : Nat) : Int) := wrap_div _ (cd n d) (by omega)
  unfold rn rd
  by_cases h1 : n < 0 <;> by_cases h2 : d < 0
  · rw [if_pos (by simp [h1, h2])]
    exact reduce_nn n d _ _ w hn1 hn2 hd1 hd2 hb hgi ep eq hp hq (by simp [h1]) (by simp [h2])
  · rw [if_neg (by simp [h1, h2])]
    exact reduce_np n d _ _ w hn1 hn2 hd1 hd2 hb hgi ep eq hp hq (by simp [h1]) (by simp [h2])
  · rw [if_neg (by simp [h1, h2])]
    exact reduce_pn n d _ _ w hn1 hn2 hd1 hd2 hb hgi ep eq hp hq (by simp [h1]) (by simp [h2])
  · rw [if_pos (by simp [h1, h2])]
    exact reduce_pp n d _ _ w hn1 hn2 hd1 hd2 hb hgi ep eq hp hq (by simp [h1]) (by simp [h2])

theorem reduce_err (n d : Int) (w : World) (hn1 : -9223372036854775808 ≤ n) (hn2 : n ≤ 9223372036854775807) (hd1 : -9223372036854775808 ≤ d) (hd2 : d ≤ 9223372036854775807)
    (h : mkE n d ≠ 0) : Calls Tryd.prog 32 #[.int .i64 n, .int .i64 d] w fun e w' => e = raise (mkE n d) ∧ Below w.heap.size w w' := by
  by_cases hd : d = 0
  · subst hd
    exact reduce_zero n w
  · have hr : 1000000000 < n.natAbs / cd n d ∨ 1000000000 < d.natAbs / cd n d := by
      by_cases hr : 1000000000 < n.natAbs / cd n d ∨ 1000000000 < d.natAbs / cd n d
      · exact hr
      · exact absurd (by simp only [mkE, if_neg hd, if_neg hr]) h
    have he : mkE n d = 3 := by simp only [mkE, if_neg hd, if_pos hr]
    rw [he]
    have hg := cd_pos (n := n) hd
    have hb : (d == 0) = false := by simpa using hd
    have hgi : 1 ≤ ((n.natAbs.gcd d.natAbs : Nat) : Int) := by unfold cd at hg; omega
    have l1 : n.natAbs / cd n d ≤ n.natAbs := Nat.div_le_self _ _
    have l2 : d.natAbs / cd n d ≤ d.natAbs := Nat.div_le_self _ _
    have ep : IntKind.u64.wrap ((n.natAbs : Int) / ((n.natAbs.gcd d.natAbs : Nat) : Int)) = ((n.natAbs / cd n d : Nat) : Int) := wrap_div _ (cd n d) (by omega)
    have eq : IntKind.u64.wrap ((d.natAbs : Int) / ((n.natAbs.gcd d.natAbs : Nat) : Int)) = ((d.natAbs / cd n d : Nat) : Int) := wrap_div _ (cd n d) (by omega)
    exact reduce_range n d _ _ w hn1 hn2 hd1 hd2 hb hgi ep eq hr
end Go.Proofs.YtpmlfchbihoflaaDoor
