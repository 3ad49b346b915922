/-
  Plain facts: which strings the reference's Parse takes, and that they are those that package rational takes.
-/
import Derived.Test.YtpmlfchbihoflaaDoorRatRH
namespace Go.Proofs.YtpmlfchbihoflaaDoor
open Go.RowKit

theorem nmB_iff (l : List UInt8) : nmB l = true ↔ (1 ≤ l.length ∧ l.length ≤ 10 ∧ Alld l) ∧ Lib.decDigits (dval l) = l := by
  unfold nmB numOk
  simp only [Bool.and_eq_true, decide_eq_true_eq, beq_iff_eq, and_assoc]
theorem nmV_of {l : List UInt8} (h : nmB l = true) : nmV l = dval l := by
  unfold nmV
  rw [if_pos]
  unfold nmB at h
  exact (Bool.and_eq_true _ _ |>.mp h).1
theorem nmV_bd (l : List UInt8) : 0 ≤ nmV l ∧ nmV l ≤ 9999999999 := by
  unfold nmV
  split
  · rename_i h
    unfold numOk at h
    simp only [Bool.and_eq_true, decide_eq_true_eq] at h
    have := dval_le (k := 10) h.2 h.1.2
    omega
  · omega

theorem dval_append (l r : List UInt8) : dval (l ++ r) = r.foldl (fun n c => 10 * n + (c.toNat - 48)) (dval l) := by simp [dval]
theorem dval_digits (u : Nat) : dval (Lib.decDigits u) = u := by
  induction u using Nat.strongRecOn with
  | _ u ih =>
    rw [Lib.decDigits]
    split
    · rename_i h10
      simp only [dval, List.foldl_cons, List.foldl_nil, digit_toNat u h10]; omega
    · rename_i h10
      have hm : u % 10 < 10 := Nat.mod_lt _ (by omega)
      rw [dval_snoc, ih (u / 10) (by omega), digit_toNat _ hm]; omega
theorem digits_short (k : Nat) : ∀ u, u < 10 ^ (k + 1) → (Lib.decDigits u).length ≤ k + 1 := by
  induction k with
  | zero =>
    intro u h
    rw [Lib.decDigits, dif_pos (by omega)]; simp
  | succ k ih =>
    intro u h
    rw [Lib.decDigits]
    split
    · simp
    · rename_i h10
      have := ih (u / 10) (by rw [Nat.pow_succ] at h; omega)
      rw [List.length_append, List.length_singleton]; omega
theorem digits_nm (u : Nat) (h : u ≤ 9999999999) : nmB (Lib.decDigits u) = true ∧ nmV (Lib.decDigits u) = u := by
  have h1 : nmB (Lib.decDigits u) = true := by
    rw [nmB_iff, dval_digits]
    refine ⟨⟨?_, digits_short 9 u (by omega), fun c hc => digits_all u c hc⟩, rfl⟩
    have := digits_ne u
    exact List.length_pos_iff.2 this
  exact ⟨h1, by rw [nmV_of h1, dval_digits]⟩
theorem digits_slash (u : Nat) : (47 : UInt8) ∉ Lib.decDigits u := by
  intro h; have := digits_all u _ h; simp at this

/-- A text in parts: sign, top, slash, bottom. -/
def Parts (l : List UInt8) (neg : Bool) (top : List UInt8) (dv : Bool) (bot : List UInt8) : Prop :=
  l = (if neg = true then [45] else []) ++ (top ++ (if dv = true then 47 :: bot else [])) ∧ (47 : UInt8) ∉ top ∧ (neg = false → l.head? ≠ some 45)
def Okay (neg : Bool) (top : List UInt8) (dv : Bool) (bot : List UInt8) : Prop :=
  nmB top = true ∧ (dv = true → nmB bot = true ∧ nmV bot ≠ 1) ∧ (neg = true → nmV top ≠ 0) ∧ vld (if neg = true then -nmV top else nmV top) (if dv = true then nmV bot else 1) = true

theorem itoa_pos {n : Int} (h : ¬ n < 0) : Lib.itoa n = Lib.decDigits n.natAbs := by
  unfold Lib.itoa; rw [if_neg h, show n.toNat = n.natAbs by omega]
theorem itoa_neg {n : Int} (h : n < 0) : Lib.itoa n = 45 :: Lib.decDigits n.natAbs := by
  unfold Lib.itoa; rw [if_pos h]

theorem ref_some {l : List UInt8} {neg : Bool} {top : List UInt8} {dv : Bool} {bot : List UInt8} (hp : Parts l neg top dv bot) (ho : Okay neg top dv bot) :
    prs l = some ((if neg = true then -nmV top else nmV top), (if dv = true then nmV bot else 1)) := by
  obtain ⟨h1, h2, h3, h4⟩ := ho
  rw [prs_iff]
  refine ⟨h4, ?_⟩
  obtain ⟨e, _, _⟩ := hp
  have t1 := nmV_of h1
  have t2 := ((nmB_iff top).1 h1).2
  have top_it : Lib.itoa (if neg = true then -nmV top else nmV top) = (if neg = true then [45] else []) ++ top := by
    cases neg with
    | true =>
      have := h3 rfl
      simp only [if_true]
      rw [itoa_neg (by omega), show (-nmV top).natAbs = dval top by omega, t2]; rfl
    | false =>
      simp only [Bool.false_eq_true, if_false]
      rw [itoa_pos (by omega), show (nmV top).natAbs = dval top by omega, t2]; rfl
  rw [txt_list, top_it, e]
  cases dv with
  | true =>
    obtain ⟨h5, h6⟩ := h2 rfl
    have b1 := nmV_of h5
    have b2 := ((nmB_iff bot).1 h5).2
    simp only [if_true]
    rw [if_neg h6, itoa_pos (by omega), show (nmV bot).natAbs = dval bot by omega, b2]
    simp
  | false => simp

theorem ref_none {l : List UInt8} {neg : Bool} {top : List UInt8} {dv : Bool} {bot : List UInt8} (hp : Parts l neg top dv bot) (ho : ¬ Okay neg top dv bot) : prs l = none := by
  cases hr : prs l with
  | none => rfl
  | some r =>
    obtain ⟨N, D⟩ := r
    exfalso
    apply ho
    obtain ⟨hv, ht⟩ := (prs_iff l N D).1 hr
    obtain ⟨e, hs, hh⟩ := hp
    obtain ⟨v1, v2, v3, v4, _⟩ := (vld_iff N D).1 hv
    rw [txt_list] at ht
    -- the sign
    have hneg : neg = decide (N < 0) := by
      by_cases hN : N < 0
      · cases neg with
        | true => simp [hN]
        | false =>
          exfalso
          apply hh rfl
          rw [← ht, itoa_neg hN]
          split <;> rfl
      · cases neg with
        | false => simp [hN]
        | true =>
          exfalso
          have hne := digits_ne N.natAbs
          have hall := digits_all N.natAbs
          rw [itoa_pos hN, e] at ht
          generalize Lib.decDigits N.natAbs = x at *
          cases x with
          | nil => exact hne rfl
          | cons c x =>
            have hc := hall c (by simp)
            have : c = 45 := by
              split at ht <;> simp at ht <;> exact ht.1
            subst this
            simp at hc
    -- the rest
    have hb : top ++ (if dv = true then 47 :: bot else []) = Lib.decDigits N.natAbs ++ (if D = 1 then [] else 47 :: Lib.decDigits D.natAbs) := by
      by_cases hN : N < 0
      · rw [itoa_neg hN, itoa_pos (n := D) (by omega), e, hneg] at ht
        simp only [hN, decide_true, if_true] at ht
        split at ht
        · rename_i h1; rw [if_pos h1]; simpa using ht.symm
        · rename_i h1; rw [if_neg h1]; simpa using ht.symm
      · rw [itoa_pos hN, itoa_pos (n := D) (by omega), e, hneg] at ht
        simp only [hN, decide_false, Bool.false_eq_true, if_false] at ht
        split at ht
        · rename_i h1; rw [if_pos h1]; simpa using ht.symm
        · rename_i h1; rw [if_neg h1]; simpa using ht.symm
    obtain ⟨q1, q2⟩ := digits_nm N.natAbs (by omega)
    obtain ⟨q3, q4⟩ := digits_nm D.natAbs (by omega)
    have hcut : Lib.cut (top ++ (if dv = true then 47 :: bot else [])) [47] = Lib.cut (Lib.decDigits N.natAbs ++ (if D = 1 then [] else 47 :: Lib.decDigits D.natAbs)) [47] := by rw [hb]
    have fin : top = Lib.decDigits N.natAbs ∧ (dv = true → bot = Lib.decDigits D.natAbs ∧ D ≠ 1) ∧ (dv = false → D = 1) := by
      cases dv with
      | true =>
        simp only [if_true] at hcut
        rw [cut_at _ _ hs] at hcut
        split at hcut
        · rw [List.append_nil, cut_no _ (digits_slash _)] at hcut; simp at hcut
        · rename_i h1
          rw [cut_at _ _ (digits_slash _)] at hcut
          simp only [Prod.mk.injEq] at hcut
          exact ⟨hcut.1, fun _ => ⟨hcut.2.1, h1⟩, fun h => by cases h⟩
      | false =>
        simp only [Bool.false_eq_true, if_false, List.append_nil] at hcut
        rw [cut_no _ hs] at hcut
        split at hcut
        · rename_i h1
          rw [List.append_nil, cut_no _ (digits_slash _)] at hcut
          simp only [Prod.mk.injEq] at hcut
          exact ⟨hcut.1, ⟨(fun h => by cases h), fun _ => h1⟩⟩
        · rw [cut_at _ _ (digits_slash _)] at hcut; simp at hcut
    obtain ⟨f1, f2, f3⟩ := fin
    refine ⟨by rw [f1]; exact q1, fun h => ⟨by rw [(f2 h).1]; exact q3, by rw [(f2 h).1, q4]; have := (f2 h).2; omega⟩, fun h => ?_, ?_⟩
    · rw [f1, q2]; rw [hneg] at h; simp at h; omega
    · have eN : (if neg = true then -nmV top else nmV top) = N := by
        rw [f1, q2, hneg]
        by_cases hN : N < 0
        · simp only [hN, decide_true, if_true]; omega
        · simp only [hN, decide_false, Bool.false_eq_true, if_false]; omega
      have eD : (if dv = true then nmV bot else 1) = D := by
        cases dv with
        | true => simp only [if_true]; rw [(f2 rfl).1, q4]; omega
        | false => simp only [Bool.false_eq_true, if_false]; rw [f3 rfl]
      rw [eN, eD]; exact hv
end Go.Proofs.YtpmlfchbihoflaaDoor
