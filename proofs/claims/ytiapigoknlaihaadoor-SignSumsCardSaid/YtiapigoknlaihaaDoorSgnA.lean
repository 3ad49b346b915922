/-
  Plain facts, no function of the program: Fermat's theorem for a number that no smaller one divides; powers modulo P; the order of 4.
-/
import Derived.Test.YtiapigoknlaihaaDoorGenA
namespace Go.Proofs.YtiapigoknlaihaaDoor
set_option linter.unusedVariables false
set_option linter.unusedSimpArgs false

/-! ### Binomial numbers -/
def chs : Nat → Nat → Nat
  | _, 0 => 1
  | 0, _ + 1 => 0
  | n + 1, k + 1 => chs n k + chs n (k + 1)
theorem chs_zero (n : Nat) : chs n 0 = 1 := by cases n <;> rfl
theorem chs_over : ∀ (n k : Nat), n < k → chs n k = 0
  | 0, k + 1, _ => rfl
  | n + 1, k + 1, h => by rw [chs, chs_over n k (by omega), chs_over n (k + 1) (by omega)]
theorem chs_self : ∀ n : Nat, chs n n = 1
  | 0 => rfl
  | n + 1 => by rw [chs, chs_self n, chs_over n (n + 1) (by omega)]
theorem chs_one : ∀ n : Nat, chs n 1 = n
  | 0 => rfl
  | n + 1 => by rw [chs, chs_zero, chs_one n, Nat.add_comm]
theorem chs_mul : ∀ (n k : Nat), (k + 1) * chs (n + 1) (k + 1) = (n + 1) * chs n k
  | 0, 0 => rfl
  | 0, k + 1 => by simp [chs]
  | n + 1, 0 => by rw [chs_zero, chs_one]; omega
  | n + 1, k + 1 => by
    have h1 := chs_mul n k
    have h2 := chs_mul n (k + 1)
    have e1 : chs (n + 2) (k + 2) = chs (n + 1) (k + 1) + chs (n + 1) (k + 2) := rfl
    have e2 : chs (n + 1) (k + 1) = chs n k + chs n (k + 1) := rfl
    rw [e1, Nat.mul_add]
    have h3 : (k + 1 + 1) * chs (n + 1) (k + 1) = (n + 1) * chs n k + chs (n + 1) (k + 1) := by rw [Nat.add_mul (k + 1), h1, Nat.one_mul]
    rw [h3, h2, Nat.add_mul (n + 1), Nat.one_mul, Nat.add_right_comm, ← Nat.mul_add, ← e2]
/-- The sum of the first terms of (a + 1) ^ n. -/
def bsum (a n : Nat) : Nat → Nat
  | 0 => 0
  | k + 1 => bsum a n k + chs n k * a ^ k
theorem bsum_step (a n : Nat) : ∀ k, bsum a (n + 1) (k + 1) = bsum a n (k + 1) + a * bsum a n k
  | 0 => by simp [bsum, chs_zero]
  | k + 1 => by
    have ih := bsum_step a n k
    rw [bsum, ih]
    have e : chs (n + 1) (k + 1) = chs n k + chs n (k + 1) := rfl
    rw [e]
    show bsum a n (k + 1) + a * bsum a n k + (chs n k + chs n (k + 1)) * a ^ (k + 1) = bsum a n (k + 1) + chs n (k + 1) * a ^ (k + 1) + a * (bsum a n k + chs n k * a ^ k)
    have h1 : a ^ (k + 1) = a * a ^ k := by rw [Nat.pow_succ, Nat.mul_comm]
    rw [Nat.add_mul, Nat.mul_add, h1]
    have h2 : a * (chs n k * a ^ k) = chs n k * (a * a ^ k) := Nat.mul_left_comm _ _ _
    omega
theorem bsum_all (a : Nat) : ∀ n, bsum a n (n + 1) = (a + 1) ^ n
  | 0 => by simp [bsum, chs]
  | n + 1 => by
    have ih := bsum_all a n
    rw [bsum_step a n (n + 1)]
    have e : bsum a n (n + 1 + 1) = bsum a n (n + 1) := by rw [bsum, chs_over n (n + 1) (by omega)]; simp
    rw [e, ih, Nat.pow_succ, Nat.mul_add, Nat.mul_one, Nat.mul_comm, Nat.add_comm]

/-! ### Fermat -/
/-- No smaller number has a divisor in common with p. -/
def Prm (p : Nat) : Prop := 2 ≤ p ∧ ∀ k, 0 < k → k < p → Nat.Coprime p k
theorem chs_dvd {p : Nat} (hp : Prm p) {k : Nat} (h0 : 0 < k) (hk : k < p) : p ∣ chs p k := by
  obtain ⟨n, rfl⟩ : ∃ n, p = n + 1 := ⟨p - 1, by have := hp.1; omega⟩
  obtain ⟨j, rfl⟩ : ∃ j, k = j + 1 := ⟨k - 1, by omega⟩
  exact (hp.2 (j + 1) h0 hk).dvd_of_dvd_mul_left ⟨chs n j, chs_mul n j⟩
theorem bsum_mod {p : Nat} (hp : Prm p) (a : Nat) : ∀ k, k < p → bsum a p (k + 1) % p = 1 % p
  | 0, _ => by simp [bsum, chs_zero]
  | k + 1, h => by
    rw [bsum, Nat.add_mod, bsum_mod hp a k (by omega)]
    obtain ⟨c, hc⟩ := chs_dvd hp (k := k + 1) (by omega) h
    rw [hc, Nat.mul_assoc, Nat.mul_mod_right]
    simp
theorem fermat {p : Nat} (hp : Prm p) : ∀ a, a ^ p % p = a % p
  | 0 => by rw [Nat.zero_pow (by have := hp.1; omega)]
  | a + 1 => by
    have ih := fermat hp a
    rw [← bsum_all a p, bsum, chs_self, Nat.one_mul, Nat.add_mod, ih]
    obtain ⟨n, hn⟩ : ∃ n, p = n + 1 := ⟨p - 1, by have := hp.1; omega⟩
    have h := bsum_mod hp a n (by omega)
    rw [← hn] at h
    rw [h, ← Nat.add_mod, Nat.add_comm]
theorem fermat1 {p a : Nat} (hp : Prm p) (h0 : 0 < a) (ha : a < p) : a ^ (p - 1) % p = 1 := by
  have h := fermat hp a
  obtain ⟨n, hn⟩ : ∃ n, p = n + 1 := ⟨p - 1, by have := hp.1; omega⟩
  have e : a ^ p = a * a ^ (p - 1) := by rw [hn, Nat.add_sub_cancel, Nat.pow_succ, Nat.mul_comm]
  have hd : p ∣ a * (a ^ (p - 1) - 1) := by
    rw [Nat.mul_sub, Nat.mul_one, ← e]
    exact Nat.dvd_of_mod_eq_zero (Nat.sub_mod_eq_zero_of_mod_eq h)
  obtain ⟨c, hc⟩ := (hp.2 a h0 ha).dvd_of_dvd_mul_left hd
  have h3 : 1 ≤ a ^ (p - 1) := Nat.pow_pos h0
  have h4 : a ^ (p - 1) = p * c + 1 := by omega
  rw [h4, Nat.mul_add_mod]
  exact Nat.mod_eq_of_lt hp.1

/-! ### Prime numbers by trial -/
/-- No number from lo on, 2 ^ k many, divides q. -/
def noDiv (q : Nat) : Nat → Nat → Bool
  | 0, lo => q % lo != 0
  | k + 1, lo => noDiv q k lo && noDiv q k (lo + 2 ^ k)
theorem noDiv_at {q : Nat} : ∀ {k lo d : Nat}, noDiv q k lo = true → lo ≤ d → d < lo + 2 ^ k → q % d ≠ 0
  | 0, lo, d, h, h1, h2 => by
    obtain rfl : d = lo := by simp at h2; omega
    simpa [noDiv] using h
  | k + 1, lo, d, h, h1, h2 => by
    simp only [noDiv, Bool.and_eq_true] at h
    rw [Nat.pow_succ] at h2
    by_cases hd : d < lo + 2 ^ k
    · exact noDiv_at h.1 h1 hd
    · exact noDiv_at h.2 (by omega) (by omega)
theorem prm_of {q k : Nat} (h2 : 2 ≤ q) (hs : q < (2 + 2 ^ k) * (2 + 2 ^ k)) (h : noDiv q k 2 = true) : Prm q := by
  refine ⟨h2, fun j h0 hj => ?_⟩
  apply Classical.byContradiction
  intro hne
  have hg0 : 0 < Nat.gcd q j := Nat.gcd_pos_of_pos_right _ h0
  obtain ⟨c, hc⟩ := Nat.gcd_dvd_left q j
  have hgj : Nat.gcd q j ≤ j := Nat.gcd_le_right _ h0
  have hne' : Nat.gcd q j ≠ 1 := hne
  generalize Nat.gcd q j = g at *
  have hc1 : c ≠ 1 := by rintro rfl; omega
  have hc0 : c ≠ 0 := by rintro rfl; omega
  have key : ∀ d e : Nat, q = d * e → d ≠ 0 → d ≠ 1 → d < 2 + 2 ^ k → False := fun d e he d0 d1 hd =>
    noDiv_at h (show 2 ≤ d by omega) hd (by rw [he, Nat.mul_mod_right])
  by_cases hgs : g < 2 + 2 ^ k
  · exact key g c hc (by omega) hne' hgs
  · by_cases hcs : c < 2 + 2 ^ k
    · exact key c g (by rw [hc, Nat.mul_comm]) hc0 hc1 hcs
    · have := Nat.mul_le_mul (show 2 + 2 ^ k ≤ g by omega) (show 2 + 2 ^ k ≤ c by omega)
      omega
/-- Q and P. -/
def qq : Nat := 1073741789
def pp : Nat := 2147483579
theorem qq_is : qq = 1073741789 := rfl
theorem pp_is : pp = 2147483579 := rfl
theorem primeQ : Prm qq := prm_of (k := 15) (by decide) (by decide) (by decide +kernel)

/-! ### Powers -/
/-- A step of the powers: an odd exponent, an even one. -/
theorem pw_odd (o a x m : Nat) (h : x % 2 = 1) : (o * a % m) * (a * a % m) ^ (x / 2) % m = o * a ^ x % m := by
  have e : a ^ x = a * (a * a) ^ (x / 2) := by
    rw [← Nat.pow_two, ← Nat.pow_mul, Nat.mul_comm a, ← Nat.pow_succ]
    congr 1; omega
  rw [e, ← Nat.mul_assoc, Nat.mul_mod, Nat.mod_mod, ← Nat.pow_mod, ← Nat.mul_mod]
theorem pw_even (o a x m : Nat) (h : x % 2 = 0) : o * (a * a % m) ^ (x / 2) % m = o * a ^ x % m := by
  have e : a ^ x = (a * a) ^ (x / 2) := by
    rw [← Nat.pow_two, ← Nat.pow_mul]
    congr 1; omega
  rw [e, Nat.mul_mod, ← Nat.pow_mod, ← Nat.mul_mod]
/-- Fast powers, for the kernel: k bits of x from the top. -/
def fpow (a m : Nat) : Nat → Nat → Nat
  | 0, _ => 1 % m
  | k + 1, x => if x % 2 = 1 then fpow a m k (x / 2) * fpow a m k (x / 2) % m * a % m else fpow a m k (x / 2) * fpow a m k (x / 2) % m
/-- The same with one call. -/
def gpow (m : Nat) : Nat → Nat → Nat → Nat → Nat
  | 0, o, _, _ => o % m
  | k + 1, o, a, x => gpow m k (if x % 2 = 1 then o * a % m else o) (a * a % m) (x / 2)
theorem gpow_eq (m : Nat) : ∀ (k o a x : Nat), x < 2 ^ k → gpow m k o a x = o * a ^ x % m
  | 0, o, a, x, h => by
    obtain rfl : x = 0 := by simpa using h
    simp [gpow]
  | k + 1, o, a, x, h => by
    rw [gpow, gpow_eq m k _ _ _ (by rw [Nat.pow_succ] at h; omega)]
    by_cases hx : x % 2 = 1
    · rw [if_pos hx, pw_odd o a x m hx]
    · rw [if_neg hx, pw_even o a x m (by omega)]
/-- 4 is an element. -/
theorem four_q : 4 ^ qq % pp = 1 := by
  have h := gpow_eq pp 30 1 4 qq (by decide)
  rw [Nat.one_mul] at h
  rw [← h]
  decide +kernel
/-- Powers of an element: exponents modulo Q. -/
theorem el_mod {a m q : Nat} (hm : 1 < m) (h : a ^ q % m = 1) (x : Nat) : a ^ x % m = a ^ (x % q) % m := by
  conv => lhs; rw [← Nat.div_add_mod x q]
  rw [Nat.pow_add, Nat.pow_mul, Nat.mul_mod, Nat.pow_mod, h, Nat.one_pow, Nat.mod_eq_of_lt hm, Nat.one_mul, Nat.mod_mod]
/-- No smaller power of an element other than 1 is 1. -/
theorem el_ord {a m q : Nat} (hq : Prm q) (hm : 1 < m) (h : a ^ q % m = 1) (ha : a % m ≠ 1) {d : Nat} (h0 : 0 < d) (hd : d < q) : a ^ d % m ≠ 1 := by
  intro e
  have hf := fermat1 hq h0 hd
  obtain ⟨t, ht⟩ : ∃ t, d * d ^ (q - 2) = q * t + 1 := by
    have e2 : d ^ (q - 1) = d * d ^ (q - 2) := by
      have := hq.1
      rw [show q - 1 = q - 2 + 1 by omega, Nat.pow_succ, Nat.mul_comm]
    rw [e2] at hf
    exact ⟨d * d ^ (q - 2) / q, by have := Nat.div_add_mod (d * d ^ (q - 2)) q; omega⟩
  have h1 : a ^ (d * d ^ (q - 2)) % m = 1 := by rw [Nat.pow_mul, Nat.pow_mod, e, Nat.one_pow, Nat.mod_eq_of_lt hm]
  rw [ht, Nat.pow_succ, Nat.pow_mul, Nat.mul_mod, Nat.pow_mod, h, Nat.one_pow, Nat.mod_eq_of_lt hm, Nat.one_mul, Nat.mod_mod] at h1
  exact ha h1
/-- Different exponents make different powers. -/
theorem el_inj {a m q : Nat} (hq : Prm q) (hm : 1 < m) (h : a ^ q % m = 1) (ha : a % m ≠ 1) {x y : Nat} (hx : x < q) (hy : y < q) (e : a ^ x % m = a ^ y % m) : x = y := by
  have key : ∀ x y : Nat, x < y → y < q → a ^ x % m = a ^ y % m → False := by
    intro x y hxy hy e
    have e1 : a ^ (x + (q - x)) % m = 1 := by rw [show x + (q - x) = q by omega]; exact h
    have e2 : a ^ (y + (q - x)) % m = 1 := by rw [Nat.pow_add, Nat.mul_mod, ← e, ← Nat.mul_mod, ← Nat.pow_add]; exact e1
    rw [show y + (q - x) = q + (y - x) by omega, Nat.pow_add, Nat.mul_mod, h, Nat.one_mul, Nat.mod_mod] at e2
    exact el_ord hq hm h ha (d := y - x) (by omega) (by omega) e2
  rcases Nat.lt_trichotomy x y with h1 | h1 | h1
  · exact (key x y h1 hy e).elim
  · exact h1
  · exact (key y x h1 hx e.symm).elim
/-- Different secrets have different public keys. -/
theorem keys_inj {x y : Nat} (hx : x < qq) (hy : y < qq) (e : 4 ^ x % pp = 4 ^ y % pp) : x = y :=
  el_inj primeQ (by decide) four_q (by decide) hx hy e
/-- The product of two public keys. -/
theorem keys_mul (x y : Nat) : (4 ^ x % pp) * (4 ^ y % pp) % pp = 4 ^ ((x + y) % qq) % pp := by
  rw [← Nat.mul_mod, ← Nat.pow_add]
  exact el_mod (by decide) four_q (x + y)
/-- A quotient modulo Q. -/
theorem quot_q {d s : Nat} (h0 : 0 < d) (hd : d < qq) (hs : s < qq) : (d * s % qq) * (d ^ (qq - 2) % qq) % qq = s := by
  have hf := fermat1 primeQ h0 hd
  have e2 : d ^ (qq - 1) = d * d ^ (qq - 2) := by rw [show qq - 1 = (qq - 2) + 1 from rfl, Nat.pow_succ, Nat.mul_comm]
  rw [e2] at hf
  rw [← Nat.mul_mod, Nat.mul_right_comm, Nat.mul_mod, hf, Nat.one_mul, Nat.mod_mod, Nat.mod_eq_of_lt hs]
/-- The signature's equation: the number used once comes back. -/
theorem back_once (k o e : Nat) (he : e < qq) : (4 ^ ((o + e * k) % qq) % pp) * ((4 ^ k % pp) ^ ((qq - e) % qq) % pp) % pp = 4 ^ o % pp := by
  rw [← Nat.pow_mod, ← Nat.pow_mul, ← Nat.mul_mod, ← Nat.pow_add, el_mod (by decide) four_q]
  have h : ((o + e * k) % qq + k * ((qq - e) % qq)) % qq = o % qq := by
    rw [Nat.mod_add_mod, Nat.add_mod, Nat.mul_mod k, Nat.mod_mod, ← Nat.mul_mod k, ← Nat.add_mod]
    have e1 : o + e * k + k * (qq - e) = o + qq * k := by
      rw [Nat.mul_comm k, Nat.add_assoc, ← Nat.add_mul, show e + (qq - e) = qq by omega]
    rw [e1, Nat.add_mul_mod_self_left]
  rw [h, ← el_mod (by decide) four_q]
end Go.Proofs.YtiapigoknlaihaaDoor
