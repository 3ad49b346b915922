/-
  Out of the texts of layer 1: package rational's Valid; the reference's Valid and Sign.
-/
import Derived.Test.YtdkofonneebciaaVecA
namespace Go.Proofs.Ytdkofonneebciaa
open Go.RowKit Go.Sort
open Go.RowKit (Below)
set_option linter.unusedVariables false
set_option linter.unusedSimpArgs false

theorem neg_wrap (x : Int) (h1 : -9223372036854775808 ≤ x) (hx : x < 0) : IntKind.u64.wrap (-IntKind.u64.wrap x) = x.natAbs := by
  simp only [IntKind.wrap_u64]; omega
set_option maxHeartbeats 400000 in
theorem absolute_any (x : Int) (w : World) (h1 : -9223372036854775808 ≤ x) (h2 : x ≤ 9223372036854775807) :
    Calls Try.prog 43 #[.int .i64 x] w fun e w' => e = .returned (.int .u64 x.natAbs) ∧ w = w' := by
  by_cases hx : x < 0
  · go_enter Try.func43, Try.ntmps43
    go_wp2
    go_ret
    exact ⟨ret_int (neg_wrap x h1 hx), rfl⟩
  · go_enter Try.func43, Try.ntmps43
    go_wp2
    go_ret
    exact ⟨ret_int (by omega), rfl⟩
theorem gcd_step (m n : Nat) (_h : 0 < n) : Nat.gcd m n = Nat.gcd n (m % n) := by
  rw [Nat.gcd_comm m n, Nat.gcd_rec n m, Nat.gcd_comm]
set_option maxHeartbeats 400000 in
theorem commonDivisor_any (x y : Nat) (w : World) (h1 : x ≤ 18446744073709551615) (h2 : y ≤ 18446744073709551615) :
    Calls Try.prog 44 #[.int .u64 x, .int .u64 y] w fun e w' => e = .returned (.int .u64 (Nat.gcd x y : Nat)) ∧ ∃ n, w' = w.drewN n := by
  go_enter Try.func44, Try.ntmps44
  go_wp2
  go_loopw [0, 1] (fun a b wr => ∃ m n : Nat, m ≤ 18446744073709551615 ∧ n ≤ 18446744073709551615 ∧ a = .int .u64 m ∧ b = .int .u64 n ∧ Hid (Nat.gcd m n = Nat.gcd x y) ∧ ∃ k, wr = w.drewN k) (fun _ b _ => (intOf b).toNat)
  case atStart => exact ⟨x, y, h1, h2, rfl, rfl, rfl, 0, rfl⟩
  case round =>
    obtain ⟨m, n, hm, hn, rfl, rfl, HG, k, rfl⟩ := hrel
    by_cases hz : n = 0
    · subst hz
      go_wp2
      go_ret
      exact ⟨ret_int (by have := HG.out; simp at this; omega), k, rfl⟩
    · have hpos : (1 : Int) ≤ n := by omega
      have hne : ((n : Int) != 0) = true := by simp; omega
      have hem : ((m : Int) % (n : Int)) = ((m % n : Nat) : Int) := by omega
      have hlt := Nat.mod_lt m (y := n) (by omega)
      clear hz
      go_wp2
      go_quiet (fail)
      rw [hem]
      go_roundw
      case rel => exact ⟨_, _, _, _, _, _, _, _, ⟨n, m % n, by omega, by omega, rfl, rfl, (gcd_step m n (by omega)).symm.trans HG.out, k + nq, World.drewN_drewN _ _ _⟩, rfl⟩
      case measure => simp [intOf]; omega
def vld (n d : Int) : Bool := decide (1 ≤ d) && decide (d ≤ 1000000000) && decide (n.natAbs ≤ 1000000000) && decide (Nat.gcd n.natAbs d.natAbs = 1)
theorem vld_iff (n d : Int) : vld n d = true ↔ 1 ≤ d ∧ d ≤ 1000000000 ∧ -1000000000 ≤ n ∧ n ≤ 1000000000 ∧ Nat.gcd n.natAbs d.natAbs = 1 := by
  unfold vld
  simp only [Bool.and_eq_true, decide_eq_true_eq]
  constructor
  · rintro ⟨⟨⟨h1, h2⟩, h3⟩, h4⟩; exact ⟨h1, h2, by omega, by omega, h4⟩
  · rintro ⟨h1, h2, h3, h4, h5⟩; exact ⟨⟨⟨h1, h2⟩, by omega⟩, h5⟩
theorem vld_last {n d : Int} (h1 : 1 ≤ d) (h2 : d ≤ 1000000000) (h3 : (n.natAbs : Int) ≤ 1000000000) : (((n.natAbs.gcd d.natAbs : Nat) : Int) == 1) = vld n d := by
  rw [Bool.eq_iff_iff, vld_iff]
  simp only [beq_iff_eq]
  constructor
  · intro h; exact ⟨h1, h2, by omega, by omega, by omega⟩
  · rintro ⟨_, _, _, _, h⟩; omega
set_option maxHeartbeats 400000 in
theorem rvalid_any (n d : Int) (w : World) (hn1 : -9223372036854775808 ≤ n) (hn2 : n ≤ 9223372036854775807) (_hd1 : -9223372036854775808 ≤ d) (_hd2 : d ≤ 9223372036854775807) :
    Calls Try.prog 40 #[.agg #[.int .i64 n, .int .i64 d]] w fun e w' => e = .returned (.bool (vld n d)) ∧ Below w.heap.size w w' := by
  by_cases h1 : d < 1
  · go_enter Try.func40, Try.ntmps40
    go_wp2
    go_ret
    exact ⟨ret_bool (by unfold vld; simp; omega), (Below.refl _ _).alloc (Nat.le_refl _) _⟩
  · by_cases h2 : 1000000000 < d
    · go_enter Try.func40, Try.ntmps40
      go_wp2
      go_ret
      exact ⟨ret_bool (by unfold vld; simp; omega), (Below.refl _ _).alloc (Nat.le_refl _) _⟩
    · by_cases h3 : (1000000000 : Int) < n.natAbs
      · go_enter Try.func40, Try.ntmps40
        go_wp2_with (go_at_call 43; refine (absolute_any _ _ (by omega) (by omega)).mono ?_; rintro e w' ⟨rfl, rfl⟩)
        go_ret
        exact ⟨ret_bool (by unfold vld; simp; omega), (Below.refl _ _).alloc (Nat.le_refl _) _⟩
      · go_enter Try.func40, Try.ntmps40
        go_wp2_with (go_at_call 43; refine (absolute_any _ _ (by omega) (by omega)).mono ?_; rintro e w' ⟨rfl, rfl⟩)
        go_quiet ((first | (go_at_call 43; exact quiet_left (absolute_any _ _ (by omega) (by omega))) | (go_at_call 44; exact Calls.quiet_of (commonDivisor_any _ _ _ (by omega) (by omega)))))
        go_wp2
        go_ret
        exact ⟨ret_bool (vld_last h1 h2 h3), below_drewN' ((Below.refl _ _).alloc (Nat.le_refl _) _) _⟩
set_option maxHeartbeats 400000 in
theorem size_any (x : Int) (w : World) (h1 : -9223372036854775808 ≤ x) (h2 : x ≤ 9223372036854775807) :
    Calls Try.prog 42 #[.int .i64 x] w fun e w' => e = .returned (.int .u64 x.natAbs) ∧ w = w' := by
  by_cases hx : x < 0
  · go_enter Try.func42, Try.ntmps42
    go_wp2
    go_ret
    exact ⟨ret_int (by omega), rfl⟩
  · go_enter Try.func42, Try.ntmps42
    go_wp2
    go_ret
    exact ⟨ret_int (by omega), rfl⟩
set_option maxHeartbeats 400000 in
theorem common_any (x y : Nat) (w : World) (h1 : x ≤ 18446744073709551615) (h2 : y ≤ 18446744073709551615) :
    Calls Try.prog 41 #[.int .u64 x, .int .u64 y] w fun e w' => e = .returned (.int .u64 (Nat.gcd x y : Nat)) ∧ w = w' := by
  go_enter Try.func41, Try.ntmps41
  go_wp2
  go_loopw [0, 1] (fun a b wr => ∃ m n : Nat, m ≤ 18446744073709551615 ∧ n ≤ 18446744073709551615 ∧ a = .int .u64 m ∧ b = .int .u64 n ∧ Hid (Nat.gcd m n = Nat.gcd x y) ∧ w = wr) (fun _ b _ => (intOf b).toNat)
  case atStart => exact ⟨x, y, h1, h2, rfl, rfl, rfl, rfl⟩
  case round =>
    obtain ⟨m, n, hm, hn, rfl, rfl, HG, rfl⟩ := hrel
    by_cases hz : n = 0
    · subst hz
      go_wp2
      go_ret
      exact ⟨ret_int (by have := HG.out; simp at this; omega), rfl⟩
    · have hpos : (1 : Int) ≤ n := by omega
      have hne : ((n : Int) != 0) = true := by simp; omega
      have hem : ((m : Int) % (n : Int)) = ((m % n : Nat) : Int) := by omega
      have hlt := Nat.mod_lt m (y := n) (by omega)
      clear hz
      go_wp2
      rw [hem]
      go_roundw
      case rel => exact ⟨n, m % n, by omega, by omega, rfl, rfl, (gcd_step m n (by omega)).symm.trans HG.out, by first | rfl | trivial⟩
      case measure => simp [intOf]; omega
set_option maxHeartbeats 400000 in
theorem sign_any (x : Int) (w : World) (h1 : -9223372036854775808 ≤ x) (h2 : x ≤ 9223372036854775807) :
    Calls Try.prog 34 #[.int .i64 x] w fun e w' => e = .returned (.int .i64 (if x < 0 then -1 else if 0 < x then 1 else 0)) ∧ w = w' := by
  by_cases hx : x < 0
  · go_enter Try.func34, Try.ntmps34
    go_wp2
    go_ret
    exact ⟨ret_int (by omega), rfl⟩
  · have hm : min x 1 = if 0 < x then 1 else 0 := by omega
    go_enter Try.func34, Try.ntmps34
    go_wp2
    all_goals (go_ret; exact ⟨ret_int (by omega), rfl⟩)
set_option maxHeartbeats 400000 in
theorem refvalid_any (n d : Int) (w : World) (hn : I64 n) (hd : I64 d) :
    Calls Try.prog 37 #[.agg #[.int .i64 n, .int .i64 d]] w fun e w' => e = .returned (.bool (vld n d)) ∧ Below w.heap.size w w' := by
  obtain ⟨hn1, hn2⟩ := hn
  obtain ⟨hd1, hd2⟩ := hd
  by_cases h1 : d < 1
  · go_enter Try.func37, Try.ntmps37
    go_wp2
    go_ret
    exact ⟨ret_bool (by unfold vld; simp; omega), (Below.refl _ _).alloc (Nat.le_refl _) _⟩
  · by_cases h2 : 1000000000 < d
    · go_enter Try.func37, Try.ntmps37
      go_wp2
      go_ret
      exact ⟨ret_bool (by unfold vld; simp; omega), (Below.refl _ _).alloc (Nat.le_refl _) _⟩
    · by_cases h3 : n < -1000000000
      · go_enter Try.func37, Try.ntmps37
        go_wp2
        go_ret
        exact ⟨ret_bool (by unfold vld; simp; omega), (Below.refl _ _).alloc (Nat.le_refl _) _⟩
      · by_cases h4 : 1000000000 < n
        · go_enter Try.func37, Try.ntmps37
          go_wp2
          go_ret
          exact ⟨ret_bool (by unfold vld; simp; omega), (Below.refl _ _).alloc (Nat.le_refl _) _⟩
        · go_enter Try.func37, Try.ntmps37
          go_wp2_with (first | (go_at_call 42; refine (size_any _ _ (by omega) (by omega)).mono ?_; rintro e w' ⟨rfl, rfl⟩) | (go_at_call 41; refine (common_any _ _ _ (by omega) (by omega)).mono ?_; rintro e w' ⟨rfl, rfl⟩))
          go_quiet ((first | (go_at_call 42; exact quiet_left (size_any _ _ (by omega) (by omega))) | (go_at_call 41; exact quiet_left (common_any _ _ _ (by omega) (by omega)))))
          go_wp2
          go_ret
          exact ⟨ret_bool (vld_last h1 h2 (by omega)), below_drewN' ((Below.refl _ _).alloc (Nat.le_refl _) _) _⟩
theorem rsign_any (x : Int) (i : I64 x) (w : World) :
    Calls Try.prog 34 #[.int .i64 x] w fun e w' => e = .returned (.int .i64 (sgz x)) ∧ w = w' := by
  have h : (if x < 0 then -1 else if 0 < x then 1 else 0) = sgz x := by unfold sgz; split <;> split <;> (try split) <;> omega
  rw [← h]; exact sign_any x w i.1 i.2
end Go.Proofs.Ytdkofonneebciaa
