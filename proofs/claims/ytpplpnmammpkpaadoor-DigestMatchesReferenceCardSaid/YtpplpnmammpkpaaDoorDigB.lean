/-
  Package digest: extend, Sum, refuse, beside, bytesOf.
-/
import Derived.Test.YtpplpnmammpkpaaDoorDigA
import Derived.Test.YtpplpnmammpkpaaDoorGenD
namespace Go.Proofs.YtpplpnmammpkpaaDoor
open Go.RowKit Go.Sort
open Go.RowKit (Below)
set_option linter.unusedVariables false

theorem fnv_take {xs : List Int} {j : Nat} (h0 : Int) (h : j < xs.length) : fnv h0 (xs.take (j + 1)) = stp (fnv h0 (xs.take j)) (gd xs j) := by rw [take_k h, fnv_snoc]

set_option maxHeartbeats 400000 in
theorem extend_any (h : Int) (A : Option Addr) (C : Nat) (xs : List Int) (w : World) (hl : xs.length ≤ 9223372036854775807) (hs : Sk .u8 w A xs) :
    Calls Tryd.prog 25 #[.int .u64 h, .slice A xs.length C] w fun e w' => e = .returned (.int .u64 (fnv h xs)) ∧ w = w' := by
  have HS := Lib.hid hs
  have HT := Lib.hid (fun j (hj : j < xs.length) => fnv_take h hj)
  clear hs
  go_enter Tryd.func25, Tryd.ntmps25
  go_wp2
  go_loop [0, 9] (fun t i => ∃ k : Nat, k ≤ xs.length ∧ i = .int .i64 k ∧ t = .int .u64 (fnv h (xs.take k))) (fun _ i => xs.length - (intOf i).toNat)
  case atStart => exact ⟨0, Nat.zero_le _, rfl, rfl⟩
  case round =>
    obtain ⟨k, hk, rfl, rfl⟩ := hrel
    by_cases hlt : k < xs.length
    · obtain ⟨b, o, rfl, hc⟩ := HS.out k hlt
      have HE := Lib.hid (HT.out k hlt)
      generalize fnv h (xs.take k) = g at *
      generalize gd xs k = c at *
      go_wp2
      go_round
      case rel => exact ⟨k + 1, by omega, by go_num, by rw [HE.out]; exact ret_val (by unfold stp; rfl)⟩
      case measure => simp [intOf]; omega
    · have HE := Lib.hid (show fnv h (xs.take k) = fnv h xs by rw [List.take_of_length_le (by omega)])
      go_wp2
      go_ret
      exact ⟨ret_int HE.out, rfl⟩

theorem sum_any (A : Option Addr) (C : Nat) (xs : List Int) (w : World) (hl : xs.length ≤ 9223372036854775807) (hs : Sk .u8 w A xs) :
    Calls Tryd.prog 11 #[.slice A xs.length C] w fun e w' => e = .returned (.int .u64 (dig xs)) ∧ w = w' := by
  have HS := Lib.hid hs
  clear hs
  go_enter Tryd.func11, Tryd.ntmps11
  go_wp2_with (go_at_call 25; refine (extend_any _ _ _ _ _ hl HS.out).mono ?_; rintro e w' ⟨rfl, rfl⟩)
  go_ret
  exact ⟨rfl, rfl⟩

/-- The error of so many leaves. -/
def lvE (n : Nat) : Int := if n = 0 then 1 else if n ≤ 1024 then 0 else 2
theorem refuse_any (A : Option Addr) (C n : Nat) (w : World) (hl : n ≤ 9223372036854775807) :
    Calls Tryd.prog 27 #[.slice A n C] w fun e w' => e = .returned (.int .i64 (lvE n)) ∧ w = w' := by
  by_cases h0 : n = 0
  · subst h0
    go_enter Tryd.func27, Tryd.ntmps27
    go_wp2
    go_ret
    exact ⟨rfl, rfl⟩
  · have h0' : 0 < n := by omega
    clear h0
    by_cases h1 : n ≤ 1024
    · go_enter Tryd.func27, Tryd.ntmps27
      go_wp2
      go_ret
      exact ⟨ret_int (by unfold lvE; rw [if_neg (by omega), if_pos h1]), rfl⟩
    · go_enter Tryd.func27, Tryd.ntmps27
      go_wp2
      go_ret
      exact ⟨ret_int (by unfold lvE; rw [if_neg (by omega), if_neg h1]), rfl⟩

/-- The index beside. -/
def bes (i : Nat) : Nat := if i % 2 = 1 then i - 1 else i + 1
theorem xor_one (i : Nat) : i ^^^ 1 = bes i := by
  unfold bes
  apply Nat.eq_of_testBit_eq
  intro j
  cases j with
  | zero => split <;> simp [Nat.testBit_zero] <;> omega
  | succ j =>
    rw [Nat.testBit_xor]
    simp only [Nat.testBit_succ]
    split <;> (rw [show (1 : Nat) / 2 = 0 by rfl, Nat.zero_testBit, Bool.xor_false]; congr 1; omega)
theorem i64_xor_one (i : Nat) (h : i ≤ 1024) : bits .xor .i64 (i : Int) 1 = (bes i : Int) := by
  have h1 : (BitVec.ofInt 64 (i : Int)).toNat = i := by
    rw [BitVec.ofInt_natCast, BitVec.toNat_ofNat]; exact Nat.mod_eq_of_lt (by omega)
  have h2 : (BitVec.ofInt 64 (1 : Int)).toNat = 1 := by decide
  show IntKind.i64.wrap ((BitVec.ofInt 64 (i : Int) ^^^ BitVec.ofInt 64 (1 : Int)).toNat : Int) = _
  rw [BitVec.toNat_xor, h1, h2, xor_one]
  exact IntWalk.i64_in _ ⟨by omega, by unfold bes; split <;> omega⟩
theorem beside_any (i : Nat) (w : World) (h : i ≤ 1024) :
    Calls Tryd.prog 33 #[.int .i64 i] w fun e w' => e = .returned (.int .i64 (bes i)) ∧ w = w' := by
  have HX := Lib.hid (i64_xor_one i h)
  go_enter Tryd.func33, Tryd.ntmps33
  go_wp2
  go_ret
  exact ⟨ret_int HX.out, rfl⟩
end Go.Proofs.YtpplpnmammpkpaaDoor
