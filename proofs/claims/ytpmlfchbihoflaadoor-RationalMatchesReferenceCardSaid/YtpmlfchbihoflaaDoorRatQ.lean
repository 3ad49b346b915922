/-
  Plain facts on reduced quotients: value, lowest terms, multiples.
-/
import Derived.Test.YtpmlfchbihoflaaDoorRatB
namespace Go.Proofs.YtpmlfchbihoflaaDoor
open Go.RowKit

theorem mkE_zero (n d : Int) : mkE n d = 7 ↔ d = 0 := by
  unfold mkE
  by_cases h : d = 0
  · simp [h]
  · rw [if_neg h]; split <;> simp [h]
theorem mkE_cases (n d : Int) : mkE n d = 7 ∨ mkE n d = 3 ∨ mkE n d = 0 := by
  unfold mkE
  split
  · exact .inl rfl
  · split
    · exact .inr (.inl rfl)
    · exact .inr (.inr rfl)
theorem mk_err {n d : Int} (h : mkE n d ≠ 0) : mkN n d = 0 ∧ mkD n d = 0 := by simp [mkN, mkD, h]
theorem mk_ok {n d : Int} (h : mkE n d = 0) : d ≠ 0 ∧ mkN n d = rn n d ∧ mkD n d = rd n d ∧ n.natAbs / cd n d ≤ 1000000000 ∧ d.natAbs / cd n d ≤ 1000000000 := by
  have hd : d ≠ 0 := by intro hd; simp [mkE, hd] at h
  have hr : ¬ (1000000000 < n.natAbs / cd n d ∨ 1000000000 < d.natAbs / cd n d) := by
    intro hr; simp only [mkE, if_neg hd, if_pos hr] at h; omega
  exact ⟨hd, by simp [mkN, h], by simp [mkD, h], by omega, by omega⟩

/-- The quotients by the greatest common divisor. -/
theorem parts (n d : Int) : ∃ p q : Nat, n.natAbs / cd n d = p ∧ d.natAbs / cd n d = q ∧ n.natAbs = cd n d * p ∧ d.natAbs = cd n d * q :=
  ⟨_, _, rfl, rfl, (Nat.mul_div_cancel' (Nat.gcd_dvd_left _ _)).symm, (Nat.mul_div_cancel' (Nat.gcd_dvd_right _ _)).symm⟩

theorem rn_abs (n d : Int) : (rn n d).natAbs = n.natAbs / cd n d := by
  unfold rn
  split
  · exact Int.natAbs_natCast _
  · rw [Int.natAbs_neg]; exact Int.natAbs_natCast _
theorem rd_abs (n d : Int) : (rd n d).natAbs = d.natAbs / cd n d := by
  unfold rd; exact Int.natAbs_natCast _

theorem mk_vld {n d : Int} (h : mkE n d = 0) : vld (mkN n d) (mkD n d) = true := by
  obtain ⟨hd, e1, e2, h1, h2⟩ := mk_ok h
  rw [e1, e2, vld_iff]
  have hg := cd_pos (n := n) hd
  have hq : 0 < d.natAbs / cd n d := Nat.div_pos (Nat.le_of_dvd (by omega) (Nat.gcd_dvd_right _ _)) hg
  have a1 := rn_abs n d
  have a2 : rd n d = ((d.natAbs / cd n d : Nat) : Int) := rfl
  have hgcd : Nat.gcd (n.natAbs / cd n d) (d.natAbs / cd n d) = 1 := by
    unfold cd at hg ⊢
    rw [Nat.gcd_div (Nat.gcd_dvd_left _ _) (Nat.gcd_dvd_right _ _)]; exact Nat.div_self hg
  refine ⟨?_, ?_, ?_, ?_, ?_⟩
  · rw [a2]; exact Int.ofNat_le.2 hq
  · rw [a2]; exact Int.ofNat_le.2 h2
  · omega
  · omega
  · rw [a1, rd_abs]; exact hgcd

theorem mk_val {n d : Int} (h : mkE n d = 0) : n * mkD n d = mkN n d * d := by
  obtain ⟨hd, e1, e2, h1, h2⟩ := mk_ok h
  rw [e1, e2]
  obtain ⟨p, q, hp, hq, hn, hd'⟩ := parts n d
  unfold rn rd
  rw [hp, hq]
  generalize cd n d = g at *
  have en : n = if n < 0 then -((g * p : Nat) : Int) else ((g * p : Nat) : Int) := by split <;> omega
  have ed : d = if d < 0 then -((g * q : Nat) : Int) else ((g * q : Nat) : Int) := by split <;> omega
  by_cases s1 : n < 0 <;> by_cases s2 : d < 0
  · rw [if_pos (by simp [s1, s2])]; rw [if_pos s1] at en; rw [if_pos s2] at ed; rw [en, ed]; simp only [Int.natCast_mul, Int.neg_mul, Int.mul_neg]; congr 1; rw [Int.mul_assoc, Int.mul_left_comm]
  · rw [if_neg (by simp [s1, s2])]; rw [if_pos s1] at en; rw [if_neg s2] at ed; rw [en, ed]; simp only [Int.natCast_mul, Int.neg_mul]; congr 1; rw [Int.mul_assoc, Int.mul_left_comm]
  · rw [if_neg (by simp [s1, s2])]; rw [if_neg s1] at en; rw [if_pos s2] at ed; rw [en, ed]; simp only [Int.natCast_mul, Int.neg_mul, Int.mul_neg, Int.neg_neg]; rw [Int.mul_assoc, Int.mul_left_comm]
  · rw [if_pos (by simp [s1, s2])]; rw [if_neg s1] at en; rw [if_neg s2] at ed; rw [en, ed]; simp only [Int.natCast_mul]; rw [Int.mul_assoc, Int.mul_left_comm]

theorem cd_mul (k n d : Int) : cd (k * n) (k * d) = k.natAbs * cd n d := by
  unfold cd; rw [Int.natAbs_mul, Int.natAbs_mul, Nat.gcd_mul_left]
theorem sign_mul {k n d : Int} (hk : k ≠ 0) (hn : n ≠ 0) (hd : d ≠ 0) : ((k * n < 0) ↔ (k * d < 0)) ↔ ((n < 0) ↔ (d < 0)) := by
  have key : ∀ {k n : Int}, k ≠ 0 → n ≠ 0 → (k * n < 0 ↔ ((k < 0 ∧ 0 < n) ∨ (0 < k ∧ n < 0))) := by
    intro k n hk hn
    rcases Int.lt_or_gt_of_ne hk with h | h <;> rcases Int.lt_or_gt_of_ne hn with h' | h'
    · have := Int.mul_pos_of_neg_of_neg h h'; omega
    · have := Int.mul_neg_of_neg_of_pos h h'; omega
    · have := Int.mul_neg_of_pos_of_neg h h'; omega
    · have := Int.mul_pos h h'; omega
  rw [key hk hn, key hk hd]
  omega
theorem quo_mul {k n d m : Int} (hk : k ≠ 0) : (k * m).natAbs / cd (k * n) (k * d) = m.natAbs / cd n d := by
  rw [cd_mul, Int.natAbs_mul, Nat.mul_div_mul_left _ _ (by omega)]
theorem mkE_mul {k : Int} (n d : Int) (hk : k ≠ 0) : mkE (k * n) (k * d) = mkE n d := by
  unfold mkE
  rw [quo_mul hk, quo_mul hk]
  have : (k * d = 0) ↔ (d = 0) := by rw [Int.mul_eq_zero]; simp [hk]
  simp only [this]
theorem rn_mul {k : Int} (n d : Int) (hk : k ≠ 0) (hd : d ≠ 0) : rn (k * n) (k * d) = rn n d := by
  unfold rn
  rw [quo_mul hk]
  by_cases hn : n = 0
  · subst hn; simp
  · simp only [sign_mul hk hn hd]
theorem mkN_mul {k : Int} (n d : Int) (hk : k ≠ 0) : mkN (k * n) (k * d) = mkN n d := by
  unfold mkN
  rw [mkE_mul n d hk]
  split
  · rename_i h; exact rn_mul n d hk (mk_ok h).1
  · rfl
theorem mkD_mul {k : Int} (n d : Int) (hk : k ≠ 0) : mkD (k * n) (k * d) = mkD n d := by
  unfold mkD
  rw [mkE_mul n d hk]
  split
  · unfold rd; rw [quo_mul hk]
  · rfl
end Go.Proofs.YtpmlfchbihoflaaDoor
