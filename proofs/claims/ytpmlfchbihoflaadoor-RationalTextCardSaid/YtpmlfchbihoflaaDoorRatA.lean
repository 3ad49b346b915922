/-
  Package rational, the leaves: absolute and commonDivisor return the absolute value and the greatest common divisor, for every int and every uint64.
-/
import Derived.Test.YtpmlfchbihoflaaDoorRows
import Derived.WalkKit
import Derived.WalkSpells
import Derived.WalkLawsBesides
import Derived.Deep.QuietTactic
import Derived.BigQuiet
namespace Go.Proofs.YtpmlfchbihoflaaDoor
open Go.RowKit

theorem ret_int {k : IntKind} {a b : Int} (h : a = b) : Ending.returned (.int k a) = .returned (.int k b) := by rw [h]
theorem neg_wrap (x : Int) (h1 : -9223372036854775808 ≤ x) (hx : x < 0) : IntKind.u64.wrap (-IntKind.u64.wrap x) = x.natAbs := by
  simp only [IntKind.wrap_u64]; omega

set_option maxHeartbeats 400000 in
theorem absolute_any (x : Int) (w : World) (h1 : -9223372036854775808 ≤ x) (h2 : x ≤ 9223372036854775807) :
    Calls Tryd.prog 26 #[.int .i64 x] w fun e w' => e = .returned (.int .u64 x.natAbs) ∧ w = w' := by
  by_cases hx : x < 0
  · go_enter Tryd.func26, Tryd.ntmps26
    go_wp2
    go_ret
    exact ⟨ret_int (neg_wrap x h1 hx), rfl⟩
  · go_enter Tryd.func26, Tryd.ntmps26
    go_wp2
    go_ret
    exact ⟨ret_int (by omega), rfl⟩

theorem ret_val {k : IntKind} {a b : Int} (h : a = b) : Value.int k a = .int k b := by rw [h]
theorem gcd_step (m n : Nat) (_h : 0 < n) : Nat.gcd m n = Nat.gcd n (m % n) := by
  rw [Nat.gcd_comm m n, Nat.gcd_rec n m, Nat.gcd_comm]

set_option maxHeartbeats 400000 in
theorem commonDivisor_any (x y : Nat) (w : World) (h1 : x ≤ 18446744073709551615) (h2 : y ≤ 18446744073709551615) :
    Calls Tryd.prog 27 #[.int .u64 x, .int .u64 y] w fun e w' => e = .returned (.int .u64 (Nat.gcd x y : Nat)) ∧ ∃ n, w' = w.drewN n := by
  go_enter Tryd.func27, Tryd.ntmps27
  go_wp2
  go_loopw [0, 1] (fun a b wr => ∃ m n : Nat, m ≤ 18446744073709551615 ∧ n ≤ 18446744073709551615 ∧ a = .int .u64 m ∧ b = .int .u64 n ∧ Hid (Nat.gcd m n = Nat.gcd x y) ∧ ∃ k, wr = w.drewN k) (fun _ b _ => (intOf b).toNat)
  case atStart => exact ⟨x, y, h1, h2, rfl, rfl, rfl, 0, rfl⟩
  case round =>
    obtain ⟨m, n, hm, hn, rfl, rfl, HG, k, rfl⟩ := hrel
    by_cases hz : n = 0
    · subst hz
      go_wp2
      go_ret
      exact ⟨ret_int (by have := HG.out; simp at this; omega), k, rfl⟩
    · have hpos : (1 : Int) ≤ n := by omega
      have hne : ((n : Int) != 0) = true := by simp; omega
      have hem : ((m : Int) % (n : Int)) = ((m % n : Nat) : Int) := by omega
      have hlt := Nat.mod_lt m (y := n) (by omega)
      clear hz
      go_wp2
      go_quiet (fail)
      rw [hem]
      go_roundw
      case rel => exact ⟨_, _, _, _, _, _, _, _, ⟨n, m % n, by omega, by omega, rfl, rfl, (gcd_step m n (by omega)).symm.trans HG.out, k + nq, World.drewN_drewN _ _ _⟩, rfl⟩
      case measure => simp [intOf]; omega
end Go.Proofs.YtpmlfchbihoflaaDoor
