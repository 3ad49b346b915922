/-
  Package sign: the closure that multiplies, power.
-/
import Derived.Test.YtiapigoknlaihaaDoorSgnA
import Derived.Test.YtiapigoknlaihaaDoorShelf
import Derived.Lib.RabinKarpLaws
import Derived.Lib.BitFns
import Derived.Lib.ItoaNum
namespace Go.Proofs.YtiapigoknlaihaaDoor
open Go.RowKit Go.Sort
open Go.RowKit (Below)
set_option linter.unusedVariables false
set_option linter.unusedSimpArgs false

/-- A power modulo P. -/
def pwr (b x : Nat) : Nat := b ^ x % pp
theorem pwr_lt (b x : Nat) : pwr b x < 2147483579 := Nat.mod_lt _ (by decide)
theorem pwr_zero (b : Nat) : pwr b 0 = 1 := rfl
theorem pwr_dbl (b y : Nat) : pwr b y * pwr b y % 2147483579 = pwr b (2 * y) := by
  show pwr b y * pwr b y % pp = _
  unfold pwr
  rw [← Nat.mul_mod, ← Nat.pow_add, Nat.two_mul]
theorem pwr_one (b y : Nat) : pwr b y * b % 2147483579 = pwr b (y + 1) := by
  show pwr b y * b % pp = _
  unfold pwr
  rw [Nat.pow_succ, Nat.mul_mod, Nat.mod_mod, ← Nat.mul_mod]
theorem bit_half (x k : Nat) : x / 2 ^ k = 2 * (x / 2 ^ (k + 1)) + x / 2 ^ k % 2 := by
  rw [Nat.pow_succ, ← Nat.div_div_eq_div_mul]
  omega
theorem bit_and (x k : Nat) (hx : x < 9223372036854775808) : bits BinOp.and IntKind.i64 ((x : Int) / 2 ^ k) 1 = ((x / 2 ^ k % 2 : Nat) : Int) := by
  have e : (x : Int) / 2 ^ k = ((x / 2 ^ k : Nat) : Int) := by norm_cast
  rw [e]
  exact Go.Proofs.and_one _ (Nat.lt_of_le_of_lt (Nat.div_le_self _ _) hx)
theorem bitLen_top (x : Nat) (h : x < 2 ^ 64) : x < 2 ^ Lib.bitLen x := by
  by_cases h0 : x = 0
  · subst h0; decide
  · exact (Lib.bitLenAux_bounds 64 x h h0).2.2
theorem mod_c {a b c : Nat} (h : a * b % 2147483579 = c) : (a : Int) * b % 2147483579 = c := by
  rw [← h, Int.natCast_emod, Int.natCast_mul]; rfl
theorem prod_bd {x y : Int} (hx : 0 ≤ x ∧ x ≤ 2147483578) (hy : 0 ≤ y ∧ y ≤ 2147483578) : 0 ≤ x * y ∧ x * y ≤ 4611685743549481264 * 2 := by
  have h0 : 0 ≤ x * y := Int.mul_nonneg hx.1 hy.1
  have h1 : x * y ≤ 2147483578 * 2147483578 := Int.mul_le_mul hx.2 hy.2 hy.1 (by omega)
  exact ⟨h0, by omega⟩

theorem mul_any (g : Nat) (x y z : Int) (hx : 0 ≤ x ∧ x ≤ 2147483578) (hy : 0 ≤ y ∧ y ≤ 2147483578) (hz : x * y % 2147483579 = z) (w : World) (hc : w.cell? ⟨g, 0, none⟩ = some (.int .i64 x)) (hf : w.frozen? ⟨g, 0, none⟩ = false) :
    Calls Tryd.prog 32 #[.int .i64 y, .pointer (some ⟨g, 0, none⟩)] w fun e w' => e = .returned (.tuple #[]) ∧ w' = w.setCell ⟨g, 0, none⟩ (.int .i64 z) := by
  obtain ⟨h0, h1⟩ := prod_bd hx hy
  have f1 : IntKind.i64.wrap (x * y) = x * y := IntWalk.i64_in _ ⟨by omega, by omega⟩
  have f3 : wrap64 (x * y) = x * y := IntWalk.wrap64_in _ ⟨by omega, by omega⟩
  have f2 : (x * y).tmod 2147483579 = z := by rw [Int.tmod_eq_emod_of_nonneg h0]; exact hz
  clear hz hx hy h0 h1
  go_enter Tryd.func32, Tryd.ntmps32
  go_wp2
  go_end0
  exact ⟨rfl, rfl⟩

set_option maxRecDepth 100000 in
set_option maxHeartbeats 1000000 in
theorem power_any (b x : Nat) (hb : b < 2147483579) (hx : x < 4611686018427387904) (w : World) :
    Calls Tryd.prog 26 #[.int .i64 b, .int .i64 x] w fun e w' => e = .returned (.int .i64 (pwr b x : Nat)) ∧ Below w.heap.size w w' := by
  have hL : ∃ L : Nat, Lib.bitLen x = L ∧ x < 2 ^ L ∧ L ≤ 64 := ⟨_, rfl, bitLen_top x (by omega), Lib.bitLen_le x 64 (by omega) (by omega)⟩
  obtain ⟨L, hL1, hL2, hL3⟩ := hL
  have HC := Lib.hid (fun W => Tryd.bits_Len (x : Int) W (by omega) (by omega))
  rw [Int.toNat_natCast, hL1] at HC
  have HX2 := Lib.hid hL2
  clear hL1 hL2
  have hu : IntKind.u64.wrap (x : Int) = x := by rw [IntKind.wrap_u64]; omega
  go_enter Tryd.func26, Tryd.ntmps26
  go_wp2_with fail
  refine (HC.out _).mono ?_
  rintro e w1 ⟨rfl, rfl⟩
  go_wp2_with fail
  go_loopw [7] (fun i wr => ∃ k : Nat, k ≤ L ∧ i = .int .i64 ((k : Int) - 1) ∧ wr.cell? ⟨w.heap.size, 0, none⟩ = some (.int .i64 (pwr b (x / 2 ^ k) : Nat)) ∧ wr.frozen? ⟨w.heap.size, 0, none⟩ = false ∧ Below w.heap.size w wr) (fun i _ => (intOf i + 1).toNat)
  case atStart => exact ⟨L, Nat.le_refl _, rfl, by rw [Nat.div_eq_of_lt HX2.out, pwr_zero]; simp [go_sem], by simp [go_sem], (Below.refl _ _).alloc (Nat.le_refl _) _⟩
  case round =>
    obtain ⟨k, hk, rfl, hc, hf, hB⟩ := hrel
    cases k with
    | zero =>
      rw [Nat.pow_zero, Nat.div_one] at hc
      go_wp2_with fail
      go_ret
      exact ⟨rfl, hB⟩
    | succ j =>
      have ej : ((j + 1 : Nat) : Int) - 1 = (j : Int) := by omega
      rw [ej]
      clear ej
      have p1 := pwr_lt b (x / 2 ^ (j + 1))
      have h1 := mod_c (pwr_dbl b (x / 2 ^ (j + 1)))
      have p2 := pwr_lt b (2 * (x / 2 ^ (j + 1)))
      have h2 := mod_c (pwr_one b (2 * (x / 2 ^ (j + 1))))
      have HE := Lib.hid (bit_half x j)
      have hA := bit_and x j (by omega)
      obtain ⟨v1, hv1⟩ : ∃ v, pwr b (x / 2 ^ (j + 1)) = v := ⟨_, rfl⟩
      obtain ⟨v2, hv2⟩ : ∃ v, pwr b (2 * (x / 2 ^ (j + 1))) = v := ⟨_, rfl⟩
      rw [hv1] at hc p1 h1
      rw [hv2] at p2 h1 h2
      have HV2 := Lib.hid hv2
      clear hv1 hv2
      have HM := Lib.hid (fun (V : World) hc hf => mul_any w.heap.size v1 v1 v2 ⟨by omega, by omega⟩ ⟨by omega, by omega⟩ h1 V hc hf)
      have HN := Lib.hid (fun (V : World) hc hf => mul_any w.heap.size v2 b _ ⟨by omega, by omega⟩ ⟨by omega, by omega⟩ h2 V hc hf)
      have hj : j < 64 := by omega
      clear h1 h2 p1 p2
      go_wp2_with fail
      refine (HM.out _ hc hf).mono ?_
      rintro e w1 ⟨rfl, rfl⟩
      have hc1 : (wr.setCell ⟨w.heap.size, 0, none⟩ (.int .i64 v2)).cell? ⟨w.heap.size, 0, none⟩ = some (.int .i64 v2) := by simp [go_sem, hc]
      have hf1 : (wr.setCell ⟨w.heap.size, 0, none⟩ (.int .i64 v2)).frozen? ⟨w.heap.size, 0, none⟩ = false := by rw [World.frozen?_setCell]; exact hf
      have hB1 := hB.setCell (Nat.le_refl _) (p := ⟨w.heap.size, 0, none⟩) (.int .i64 v2)
      generalize wr.setCell ⟨w.heap.size, 0, none⟩ (.int .i64 v2) = wr1 at *
      clear hc hf hB HM
      by_cases hbit : x / 2 ^ j % 2 = 1
      · rw [hbit] at hA
        have HF := Lib.hid (show pwr b (2 * (x / 2 ^ (j + 1)) + 1) = pwr b (x / 2 ^ j) from congrArg (pwr b) (by rw [HE.out.trans (congrArg (_ + ·) hbit)]))
        rw [HF.out] at HN
        clear hbit HF
        go_wp2_with fail
        refine (HN.out _ hc1 hf1).mono ?_
        rintro e w1 ⟨rfl, rfl⟩
        go_wp2_with fail
        go_roundw
        case rel => exact ⟨j, by omega, rfl, by simp [go_sem, hc1], by rw [World.frozen?_setCell]; exact hf1, hB1.setCell (Nat.le_refl _) _⟩
        case measure => simp [intOf]
      · have hb0 : x / 2 ^ j % 2 = 0 := by omega
        rw [hb0] at hA
        have HF := Lib.hid (show v2 = pwr b (x / 2 ^ j) by rw [← HV2.out, HE.out, hb0]; rfl)
        clear hbit hb0
        go_wp2_with fail
        go_roundw
        case rel => exact ⟨j, by omega, rfl, by rw [hc1, HF.out], hf1, hB1⟩
        case measure => simp [intOf]
end Go.Proofs.YtiapigoknlaihaaDoor
