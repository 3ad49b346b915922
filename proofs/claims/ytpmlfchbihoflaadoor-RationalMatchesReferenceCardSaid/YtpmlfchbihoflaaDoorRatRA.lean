/-
  The reference of package rational, the leaves: Size and Common return the absolute value and the greatest common divisor, for every int and every uint64; Sign the sign.
-/
import Derived.Test.YtpmlfchbihoflaaDoorRatYY
namespace Go.Proofs.YtpmlfchbihoflaaDoor
open Go.RowKit Go.Sort
open Go.RowKit (Below)

set_option maxHeartbeats 400000 in
theorem size_any (x : Int) (w : World) (h1 : -9223372036854775808 ≤ x) (h2 : x ≤ 9223372036854775807) :
    Calls Tryd.prog 29 #[.int .i64 x] w fun e w' => e = .returned (.int .u64 x.natAbs) ∧ w = w' := by
  by_cases hx : x < 0
  · go_enter Tryd.func29, Tryd.ntmps29
    go_wp2
    go_ret
    exact ⟨ret_int (by omega), rfl⟩
  · go_enter Tryd.func29, Tryd.ntmps29
    go_wp2
    go_ret
    exact ⟨ret_int (by omega), rfl⟩

set_option maxHeartbeats 400000 in
theorem common_any (x y : Nat) (w : World) (h1 : x ≤ 18446744073709551615) (h2 : y ≤ 18446744073709551615) :
    Calls Tryd.prog 28 #[.int .u64 x, .int .u64 y] w fun e w' => e = .returned (.int .u64 (Nat.gcd x y : Nat)) ∧ w = w' := by
  go_enter Tryd.func28, Tryd.ntmps28
  go_wp2
  go_loopw [0, 1] (fun a b wr => ∃ m n : Nat, m ≤ 18446744073709551615 ∧ n ≤ 18446744073709551615 ∧ a = .int .u64 m ∧ b = .int .u64 n ∧ Hid (Nat.gcd m n = Nat.gcd x y) ∧ w = wr) (fun _ b _ => (intOf b).toNat)
  case atStart => exact ⟨x, y, h1, h2, rfl, rfl, rfl, rfl⟩
  case round =>
    obtain ⟨m, n, hm, hn, rfl, rfl, HG, rfl⟩ := hrel
    by_cases hz : n = 0
    · subst hz
      go_wp2
      go_ret
      exact ⟨ret_int (by have := HG.out; simp at this; omega), rfl⟩
    · have hpos : (1 : Int) ≤ n := by omega
      have hne : ((n : Int) != 0) = true := by simp; omega
      have hem : ((m : Int) % (n : Int)) = ((m % n : Nat) : Int) := by omega
      have hlt := Nat.mod_lt m (y := n) (by omega)
      clear hz
      go_wp2
      rw [hem]
      go_roundw
      case rel => exact ⟨n, m % n, by omega, by omega, rfl, rfl, (gcd_step m n (by omega)).symm.trans HG.out, by first | rfl | trivial⟩
      case measure => simp [intOf]; omega

set_option maxHeartbeats 400000 in
theorem sign_any (x : Int) (w : World) (h1 : -9223372036854775808 ≤ x) (h2 : x ≤ 9223372036854775807) :
    Calls Tryd.prog 43 #[.int .i64 x] w fun e w' => e = .returned (.int .i64 (if x < 0 then -1 else if 0 < x then 1 else 0)) ∧ w = w' := by
  by_cases hx : x < 0
  · go_enter Tryd.func43, Tryd.ntmps43
    go_wp2
    go_ret
    exact ⟨ret_int (by omega), rfl⟩
  · have hm : min x 1 = if 0 < x then 1 else 0 := by omega
    go_enter Tryd.func43, Tryd.ntmps43
    go_wp2
    all_goals (go_ret; exact ⟨ret_int (by omega), rfl⟩)
end Go.Proofs.YtpmlfchbihoflaaDoor
