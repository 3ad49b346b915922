/-
  Plain facts, no program: the decimal text of an int is read back by the conversion; a text with one slash is cut there.
-/
import Derived.Lib.AtoiAll
import Derived.Lib.ItoaNum
import Derived.Lib.IndexMore
namespace Go.Proofs.YtpmlfchbihoflaaDoor

/-- What strconv.Atoi accepts. -/
def rdI (l : List UInt8) : Option Int := match Lib.atoiAll l with | .ok v => some v | _ => none

theorem parse_append : ∀ (l r : List UInt8) (acc v : Nat), Lib.parseUint10 acc l = .ok v → Lib.parseUint10 acc (l ++ r) = Lib.parseUint10 v r
  | [], r, acc, v, h => by
    simp only [Lib.parseUint10] at h
    injection h with h
    subst h
    rfl
  | c :: l, r, acc, v, h => by
    rw [List.cons_append]
    simp only [Lib.parseUint10] at h ⊢
    split
    · rename_i h1
      rw [if_pos h1] at h
      split
      · rename_i h2; rw [if_pos h2] at h; cases h
      · rename_i h2
        rw [if_neg h2] at h
        split
        · rename_i h3; rw [if_pos h3] at h; cases h
        · rename_i h3
          rw [if_neg h3] at h
          exact parse_append l r _ v h
    · rename_i h1; rw [if_neg h1] at h; cases h

theorem digit_toNat (d : Nat) (h : d < 10) : (UInt8.ofNat (48 + d)).toNat = 48 + d := by
  simp [UInt8.toNat_ofNat']; omega

theorem parse_digits (u : Nat) (h : u < 18446744073709551616) : Lib.parseUint10 0 (Lib.decDigits u) = .ok u := by
  induction u using Nat.strongRecOn with
  | _ u ih =>
    rw [Lib.decDigits]
    split
    · rename_i h10
      simp only [Lib.parseUint10, digit_toNat u h10]
      rw [if_pos ⟨by omega, by omega⟩, if_neg (by omega), if_neg (by omega)]
      congr 1; omega
    · rename_i h10
      rw [parse_append _ _ _ _ (ih (u / 10) (by omega) (by omega))]
      have hm : u % 10 < 10 := Nat.mod_lt _ (by omega)
      simp only [Lib.parseUint10, digit_toNat _ hm]
      rw [if_pos ⟨by omega, by omega⟩, if_neg (by omega), if_neg (by omega)]
      congr 1; omega

theorem digits_ne (u : Nat) : Lib.decDigits u ≠ [] := by
  rw [Lib.decDigits]; split <;> simp

/-- Every byte of a row of digits is a digit. -/
theorem digits_all (u : Nat) : ∀ c ∈ Lib.decDigits u, 48 ≤ c.toNat ∧ c.toNat ≤ 57 := by
  induction u using Nat.strongRecOn with
  | _ u ih =>
    intro c hc
    rw [Lib.decDigits] at hc
    split at hc
    · rename_i h10
      simp only [List.mem_cons, List.not_mem_nil, or_false] at hc
      subst hc
      rw [digit_toNat u h10]; omega
    · rename_i h10
      rcases List.mem_append.1 hc with h1 | h1
      · exact ih (u / 10) (by omega) c h1
      · simp only [List.mem_cons, List.not_mem_nil, or_false] at h1
        subst h1
        have hm : u % 10 < 10 := Nat.mod_lt _ (by omega)
        rw [digit_toNat _ hm]; omega

theorem rdI_itoa (n : Int) (h1 : -9223372036854775808 ≤ n) (h2 : n ≤ 9223372036854775807) : rdI (Lib.itoa n) = some n := by
  have key : Lib.atoiAll (Lib.itoa n) = .ok n := by
    unfold Lib.itoa
    split
    · rename_i hn
      have h45 : (45 : UInt8).toNat = 45 := rfl
      simp only [Lib.atoiAll, h45]
      rw [if_pos (Or.inr trivial)]
      unfold Lib.parseMag
      rw [if_neg (digits_ne _), parse_digits _ (by omega)]
      simp only [not_true_eq_false, false_and, if_false, true_and, if_true]
      rw [if_neg (by omega)]
      congr 1; omega
    · rename_i hn
      have hne := digits_ne n.toNat
      have hall := digits_all n.toNat
      have hp := parse_digits n.toNat (by omega)
      generalize Lib.decDigits n.toNat = l at hne hall hp
      cases l with
      | nil => exact absurd rfl hne
      | cons c r =>
        have hc := hall c (by simp)
        simp only [Lib.atoiAll]
        rw [if_neg (by omega)]
        unfold Lib.parseMag
        rw [if_neg (by simp), hp]
        have n45 : ¬ c.toNat = 45 := by omega
        simp only [n45, not_false_eq_true, true_and, false_and, if_false]
        rw [if_neg (by omega)]
        congr 1; omega
  unfold rdI; rw [key]

theorem itoa_slash (n : Int) : (47 : UInt8) ∉ Lib.itoa n := by
  unfold Lib.itoa
  split
  · intro h
    rcases List.mem_cons.1 h with h | h
    · cases h
    · have := digits_all _ _ h; simp at this
  · intro h; have := digits_all _ _ h; simp at this

theorem index_at : ∀ (a b : List UInt8), (47 : UInt8) ∉ a → Lib.index (a ++ 47 :: b) [47] = a.length
  | [], b, _ => by simp [Lib.index]
  | c :: a, b, h => by
    have h1 : c ≠ 47 := fun e => h (by simp [e])
    have h2 := index_at a b (fun e => h (by simp [e]))
    rw [List.cons_append]
    unfold Lib.index
    rw [if_neg (by simp [List.isPrefixOf, Ne.symm h1]), h2]
    have : (((a.length : Nat) : Int) == -1) = false := by rw [beq_eq_false_iff_ne]; omega
    simp [this]
theorem index_no : ∀ (a : List UInt8), (47 : UInt8) ∉ a → Lib.index a [47] = -1
  | [], _ => by simp [Lib.index]
  | c :: a, h => by
    have h1 : c ≠ 47 := fun e => h (by simp [e])
    have h2 := index_no a (fun e => h (by simp [e]))
    unfold Lib.index
    rw [if_neg (by simp [List.isPrefixOf, Ne.symm h1]), h2]
    rfl
theorem cut_at (a b : List UInt8) (h : (47 : UInt8) ∉ a) : Lib.cut (a ++ 47 :: b) [47] = (a, b, true) := by
  unfold Lib.cut
  rw [index_at a b h, if_pos (by omega)]
  simp
theorem cut_no (a : List UInt8) (h : (47 : UInt8) ∉ a) : Lib.cut a [47] = (a, [], false) := by
  unfold Lib.cut
  rw [index_no a h, if_neg (by omega)]
end Go.Proofs.YtpmlfchbihoflaaDoor
