/-
  Package span: the ends of two lists, in order, each once.
-/
import Derived.Test.YtgdgpfpihpofdaaSpnL
import Derived.Test.YtgdgpfpihpofdaaShelf
namespace Go.Proofs.Ytgdgpfpihpofdaa
open Go.RowKit Go.Sort
open Go.RowKit (Below)
set_option linter.unusedVariables false

section
open Go.Lib
theorem cpt {zs : List Int} (hs : zs.Pairwise (· ≤ ·)) : ∀ m, m ≤ zs.length → (∀ e, e ∈ compactUpTo zs.toArray m ↔ e ∈ zs.take m) ∧ (compactUpTo zs.toArray m).Pairwise (· < ·) ∧ (0 < m → gd zs (m - 1) ∈ compactUpTo zs.toArray m ∧ ∀ e ∈ compactUpTo zs.toArray m, e ≤ gd zs (m - 1)) := by
  intro m
  induction m with
  | zero => intro _; refine ⟨fun e => by simp [compactUpTo], by simp [compactUpTo], fun h => absurd h (by omega)⟩
  | succ m ih =>
    intro hm
    obtain ⟨h1, h2, h3⟩ := ih (by omega)
    have hd : zs.toArray[m]! = gd zs m := by rw [gd_at (by omega)]; simp [show m < zs.length by omega]
    rw [compactUpTo_succ, hd, takeI (by omega)]
    rcases Nat.eq_zero_or_pos m with h0 | h0
    · subst h0
      rw [keeps_lt_one _ 0 (by omega)]
      refine ⟨fun e => by simp [compactUpTo], by simp [compactUpTo], fun _ => by simp [compactUpTo]⟩
    · obtain ⟨h4, h5⟩ := h3 h0
      have hd1 : zs.toArray[m - 1]! = gd zs (m - 1) := by rw [gd_at (by omega)]; simp [show m - 1 < zs.length by omega]
      have hle : gd zs (m - 1) ≤ gd zs m := by
        rw [gd_at (by omega), gd_at (by omega)]
        exact List.pairwise_iff_getElem.1 hs (m - 1) m (by omega) (by omega) (by omega)
      by_cases he : gd zs m = gd zs (m - 1)
      · rw [keeps_neg h0 (by rw [hd, hd1]; exact he)]
        simp only [Bool.false_eq_true, if_false, List.append_nil]
        refine ⟨fun e => ?_, h2, fun _ => ?_⟩
        · rw [h1, List.mem_append, List.mem_singleton]
          constructor
          · exact .inl
          · rintro (h | h)
            · exact h
            · rw [h, he]; exact (h1 _).1 h4
        · rw [show m + 1 - 1 = m by omega, he]
          exact ⟨h4, h5⟩
      · rw [keeps_pos (by rw [hd, hd1]; exact he)]
        simp only [if_true]
        refine ⟨fun e => by rw [List.mem_append, List.mem_append, h1], ?_, fun _ => ?_⟩
        · rw [List.pairwise_append]
          refine ⟨h2, by simp, fun a ha b hb => ?_⟩
          rw [List.mem_singleton] at hb
          subst hb
          have := h5 a ha
          omega
        · rw [show m + 1 - 1 = m by omega]
          refine ⟨by simp, fun e hm' => ?_⟩
          rcases List.mem_append.1 hm' with h | h
          · have := h5 e h; omega
          · rw [List.mem_singleton] at h; omega
theorem cpt_mem {zs : List Int} (hs : zs.Pairwise (· ≤ ·)) : (∀ e, e ∈ compact zs ↔ e ∈ zs) ∧ (compact zs).Pairwise (· < ·) := by
  obtain ⟨h1, h2, _⟩ := cpt hs zs.length (Nat.le_refl _)
  exact ⟨fun e => by rw [show compact zs = compactUpTo zs.toArray zs.length from rfl, h1, List.take_length], h2⟩
theorem cpt_len (zs : List Int) : (compact zs).length ≤ zs.length := by
  unfold compact compactUpTo
  rw [List.length_map]
  exact Nat.le_trans (List.length_filter_le _ _) (by simp)
end
/-- All ends, in order, each once. -/
def allE (xs ys : List Spn) : List Int := Lib.compact ((endsS (xs ++ ys)).mergeSort fun x y => decide (x ≤ y))
theorem sort_ok (zs : List Int) : (zs.mergeSort fun x y => decide (x ≤ y)).Pairwise (· ≤ ·) ∧ (zs.mergeSort fun x y => decide (x ≤ y)).Perm zs := by
  refine ⟨?_, List.mergeSort_perm _ _⟩
  have := List.pairwise_mergeSort (le := fun x y : Int => decide (x ≤ y)) (fun a b c h1 h2 => by simp at *; omega) (fun a b => by simp; omega) zs
  exact this.imp (by simp)
theorem allE_ok (xs ys : List Spn) : (∀ e, e ∈ allE xs ys ↔ e ∈ endsS xs ++ endsS ys) ∧ (allE xs ys).Pairwise (· < ·) ∧ (allE xs ys).length ≤ 2 * (xs.length + ys.length) := by
  obtain ⟨h1, h2⟩ := sort_ok (endsS (xs ++ ys))
  obtain ⟨h3, h4⟩ := cpt_mem h1
  refine ⟨fun e => ?_, h4, ?_⟩
  · rw [show allE xs ys = Lib.compact _ from rfl, h3, h2.mem_iff]
    simp [endsS]
  · refine Nat.le_trans (cpt_len _) ?_
    rw [h2.length_eq, ends_len, List.length_append]
    omega
end Go.Proofs.Ytgdgpfpihpofdaa
