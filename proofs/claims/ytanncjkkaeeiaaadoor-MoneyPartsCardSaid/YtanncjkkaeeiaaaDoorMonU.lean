/-
  Plain facts on the parts of an amount: their sum, their size, their sign, their order, their remainders.
-/
import Derived.Test.YtanncjkkaeeiaaaDoorMonT
namespace Go.Proofs.YtanncjkkaeeiaaaDoor
open Go.RowKit Go.Sort
open Go.RowKit (Below)
set_option linter.unusedVariables false

theorem sum_add (n : Nat) (f g : Nat → Int) : ((List.range n).map fun i => f i + g i).sum = ((List.range n).map f).sum + ((List.range n).map g).sum := by
  induction n with
  | zero => simp
  | succ n ih => rw [List.range_succ, List.map_append, List.map_append, List.map_append, List.sum_append, List.sum_append, List.sum_append, ih]; simp; omega
theorem sum_sgd (c : Int) (n : Nat) (f : Nat → Int) : ((List.range n).map fun i => sgd c (f i)).sum = sgd c ((List.range n).map f).sum := by
  induction n with
  | zero => simp [sgd]
  | succ n ih => rw [List.range_succ, List.map_append, List.map_append, List.sum_append, List.sum_append, ih]; simp [sgd_add]
theorem map_range (ws : List Int) (f : Int → Int) : ((List.range ws.length).map fun i => f (ws.getD i 0)) = ws.map f := by
  apply List.ext_getElem
  · simp
  · intro i h1 h2
    have h : i < ws.length := by simpa using h1
    simp [List.getD_eq_getElem?_getD, h]
theorem le_sum (n : Nat) (f : Nat → Int) (h : ∀ i, i < n → 0 ≤ f i) : 0 ≤ ((List.range n).map f).sum ∧ ∀ j, j < n → f j ≤ ((List.range n).map f).sum := by
  induction n with
  | zero => simp
  | succ n ih =>
    have h1 := ih fun i hi => h i (by omega)
    have h2 := h n (by omega)
    rw [List.range_succ, List.map_append, List.sum_append]
    simp only [List.map_cons, List.map_nil, List.sum_cons, List.sum_nil]
    refine ⟨by omega, fun j hj => ?_⟩
    by_cases e : j = n
    · subst e; omega
    · have := h1.2 j (by omega); omega

theorem part_sum (s : Int) (ws : List Int) (hW : 0 < ws.sum) : ((List.range ws.length).map fun i => part s ws i).sum = s := by
  show ((List.range ws.length).map fun i => s * ws.getD i 0 / ws.sum + up (rests s ws.sum ws) (left s ws.sum ws) i).sum = s
  rw [sum_add ws.length (fun i => s * ws.getD i 0 / ws.sum) (up (rests s ws.sum ws) (left s ws.sum ws)), map_range ws fun x => s * x / ws.sum]
  have h := up_sum (rests s ws.sum ws) (left s ws.sum ws) (left_bd s ws hW).1 (by rw [rests_len]; exact left_le s ws hW)
  rw [rests_len] at h
  rw [h]
  unfold left
  omega

section
variable {s : Int} {ws : List Int} {j : Nat}
theorem part_eq (s : Int) (ws : List Int) (j : Nat) : part s ws j = s * gd ws j / ws.sum + up (rests s ws.sum ws) (left s ws.sum ws) j := rfl
theorem part_nn (hs : 0 ≤ s) (hx : ∀ x ∈ ws, 0 ≤ x ∧ x ≤ 1000000) (hW : 0 < ws.sum) (hj : j < ws.length) : 0 ≤ part s ws j := by
  rw [part_eq]
  have h := hx _ (getD_mem hj)
  have h1 : 0 ≤ s * gd ws j / ws.sum := Int.ediv_nonneg (Int.mul_nonneg hs h.1) (by omega)
  have h2 := up_cases (rests s ws.sum ws) (left s ws.sum ws) j
  omega
theorem part_le (hs : 0 ≤ s) (hx : ∀ x ∈ ws, 0 ≤ x ∧ x ≤ 1000000) (hW : 0 < ws.sum) (hj : j < ws.length) : part s ws j ≤ s := by
  have h := (le_sum ws.length (fun i => part s ws i) fun i hi => part_nn hs hx hW hi).2 j hj
  rw [part_sum s ws hW] at h
  exact h
theorem up_rem (hW : 0 < ws.sum) (hj : j < ws.length) (h : up (rests s ws.sum ws) (left s ws.sum ws) j = 1) : 0 < s * gd ws j % ws.sum := by
  rw [gd_at hj]; exact up_pos s ws hW hj h
theorem part_near (hW : 0 < ws.sum) (hj : j < ws.length) : part s ws j * ws.sum - s * gd ws j < ws.sum ∧ -(part s ws j * ws.sum - s * gd ws j) < ws.sum := by
  have h1 := Int.mul_ediv_add_emod (s * gd ws j) ws.sum
  have h2 := Int.emod_nonneg (s * gd ws j) (b := ws.sum) (by omega)
  have h3 := Int.emod_lt_of_pos (s * gd ws j) hW
  have h4 := @up_rem s ws j hW hj
  rw [part_eq, Int.add_mul, Int.mul_comm (s * gd ws j / ws.sum)]
  rcases up_cases (rests s ws.sum ws) (left s ws.sum ws) j with h | h
  · rw [h]; omega
  · have := h4 h; rw [h]; omega
theorem part_zero (hW : 0 < ws.sum) (hj : j < ws.length) (h0 : gd ws j = 0) : part s ws j = 0 := by
  have h4 := @up_rem s ws j hW hj
  rw [part_eq]
  rw [h0] at h4 ⊢
  simp at h4 ⊢
  rcases up_cases (rests s ws.sum ws) (left s ws.sum ws) j with h | h
  · exact h
  · exact absurd h h4
theorem part_mono {i : Nat} (hs : 0 ≤ s) (hx : ∀ x ∈ ws, 0 ≤ x ∧ x ≤ 1000000) (hW : 0 < ws.sum) (hi : i < ws.length) (hj : j < ws.length) (h : gd ws j < gd ws i) : part s ws j ≤ part s ws i := by
  have hr : rests s ws.sum ws = rests s ws.sum ws := rfl
  have e1 := Int.mul_ediv_add_emod (s * gd ws j) ws.sum
  have e2 := Int.mul_ediv_add_emod (s * gd ws i) ws.sum
  have m1 : s * gd ws j ≤ s * gd ws i := Int.mul_le_mul_of_nonneg_left (by omega) hs
  have q1 : s * gd ws j / ws.sum ≤ s * gd ws i / ws.sum := Int.ediv_le_ediv hW m1
  have u1 := up_cases (rests s ws.sum ws) (left s ws.sum ws) j
  have u2 := up_cases (rests s ws.sum ws) (left s ws.sum ws) i
  rw [part_eq, part_eq]
  by_cases hq : s * gd ws j / ws.sum = s * gd ws i / ws.sum
  · by_cases hs0 : s = 0
    · subst hs0
      have z1 := @up_rem 0 ws j hW hj
      simp only [Int.zero_mul, Int.zero_emod, Int.lt_irrefl] at z1
      rcases u1 with u | u
      · omega
      · exact absurd (z1 u) (by simp)
    · have hlt : s * gd ws j < s * gd ws i := Int.mul_lt_mul_of_pos_left h (by omega)
      rw [hq] at e1
      have hb : bef (rests s ws.sum ws) i j = true := by
        rw [bef_iff]
        left
        show gd (rests s ws.sum ws) j < gd (rests s ws.sum ws) i
        rw [gd_rests _ _ _ hj, gd_rests _ _ _ hi]
        omega
      have hk := (bef_rk (by rw [rests_len]; exact hi) (by rw [rests_len]; exact hj)).1 hb
      have hup : up (rests s ws.sum ws) (left s ws.sum ws) j ≤ up (rests s ws.sum ws) (left s ws.sum ws) i := by
        unfold up
        split <;> split <;> omega
      omega
  · omega
end

/-- What is said of the parts V of the amount c by the weights ws. -/
structure PF (c : Int) (ws V : List Int) : Prop where
  len : V.length = ws.length
  f1 : ∀ j, j < ws.length → -1000000000 ≤ gd V j ∧ gd V j ≤ 1000000000
  f2 : ∀ j, j < ws.length → (0 ≤ c → 0 ≤ gd V j) ∧ (c ≤ 0 → gd V j ≤ 0)
  f3 : ∀ j, j < ws.length → gd ws j = 0 → gd V j = 0
  f4 : ∀ j, j < ws.length → gd V j * ws.sum - c * gd ws j < ws.sum ∧ -(gd V j * ws.sum - c * gd ws j) < ws.sum
  f5 : ∀ i j, i < ws.length → j < ws.length → gd ws j < gd ws i → (gd V j).natAbs ≤ (gd V i).natAbs
  f6 : V.sum = c
  ab : ∀ j, j < ws.length → ((gd V j).natAbs : Int) = part c.natAbs ws j

theorem gd_parts (c : Int) (ws : List Int) {j : Nat} (hj : j < ws.length) : gd (parts c ws) j = sgd c (part c.natAbs ws j) := by
  rw [gd_at (by simp [parts]; exact hj)]
  simp [parts]
theorem sgd_self (c : Int) : sgd c c.natAbs = c := by unfold sgd; split <;> omega
theorem sgd_mul (c x y : Int) : sgd c x * y = sgd c (x * y) := by unfold sgd; split <;> simp [Int.neg_mul]
theorem sgd_abs {c x : Int} (h : 0 ≤ x) : ((sgd c x).natAbs : Int) = x := by unfold sgd; split <;> omega

theorem pf (c : Int) (ws : List Int) (hc : Bd c) (hw : wts ws = true) : PF c ws (parts c ws) := by
  obtain ⟨hl, hx, hW⟩ := wts_iff.1 hw
  have hs : (0 : Int) ≤ c.natAbs := by omega
  have hsb : (c.natAbs : Int) ≤ 1000000000 := by have := hc.1; have := hc.2; omega
  refine ⟨by simp [parts], fun j hj => ?_, fun j hj => ?_, fun j hj h0 => ?_, fun j hj => ?_, fun i j hi hj h => ?_, ?_, fun j hj => ?_⟩
  · rw [gd_parts c ws hj]
    have h1 := part_nn (s := c.natAbs) hs hx hW hj
    have h2 := part_le (s := c.natAbs) hs hx hW hj
    exact sgd_bd (by omega)
  · rw [gd_parts c ws hj]
    have h1 := part_nn (s := c.natAbs) hs hx hW hj
    have h2 := part_le (s := c.natAbs) hs hx hW hj
    unfold sgd
    split <;> omega
  · rw [gd_parts c ws hj, part_zero hW hj h0]; simp [sgd]
  · rw [gd_parts c ws hj]
    have h1 := part_near (s := c.natAbs) hW hj
    have e : c * gd ws j = sgd c (c.natAbs * gd ws j) := by rw [← sgd_mul, sgd_self]
    rw [sgd_mul, e]
    unfold sgd
    split <;> omega
  · rw [gd_parts c ws hi, gd_parts c ws hj]
    have h1 := part_mono (s := c.natAbs) hs hx hW hi hj h
    have a1 := sgd_abs (c := c) (part_nn (s := c.natAbs) hs hx hW hi)
    have a2 := sgd_abs (c := c) (part_nn (s := c.natAbs) hs hx hW hj)
    omega
  · show ((List.range ws.length).map fun i => sgd c (part c.natAbs ws i)).sum = c
    rw [sum_sgd c ws.length fun i => part c.natAbs ws i, part_sum _ ws hW, sgd_self]
  · rw [gd_parts c ws hj]; exact sgd_abs (part_nn (s := c.natAbs) hs hx hW hj)

/-- Remainders: a part that was rounded away from zero comes before one that was not. -/
theorem rem_order (c : Int) (ws : List Int) (hw : wts ws = true) {i k : Nat} (hi : i < ws.length) (hk : k < ws.length)
    (h1 : c.natAbs * gd ws i / ws.sum < part c.natAbs ws i) (h2 : part c.natAbs ws k = c.natAbs * gd ws k / ws.sum) :
    ¬ (c.natAbs * gd ws i % ws.sum < c.natAbs * gd ws k % ws.sum) ∧ ¬ (c.natAbs * gd ws i % ws.sum = c.natAbs * gd ws k % ws.sum ∧ k < i) := by
  obtain ⟨hl, hx, hW⟩ := wts_iff.1 hw
  rw [part_eq] at h1 h2
  have u1 := up_cases (rests c.natAbs ws.sum ws) (left c.natAbs ws.sum ws) i
  have e1 : up (rests c.natAbs ws.sum ws) (left c.natAbs ws.sum ws) i = 1 := by omega
  have e2 : up (rests c.natAbs ws.sum ws) (left c.natAbs ws.sum ws) k = 0 := by omega
  have hlt : rk (rests c.natAbs ws.sum ws) i < rk (rests c.natAbs ws.sum ws) k := by
    unfold up at e1 e2
    split at e1 <;> split at e2 <;> first | omega | cases e1 | cases e2
  have hb : ¬ bef (rests c.natAbs ws.sum ws) k i = true := fun hb => by
    have := (bef_rk (by rw [rests_len]; exact hk) (by rw [rests_len]; exact hi)).1 hb
    omega
  rw [bef_iff] at hb
  have g1 : (rests c.natAbs ws.sum ws).getD i 0 = c.natAbs * gd ws i % ws.sum := gd_rests _ _ _ hi
  have g2 : (rests c.natAbs ws.sum ws).getD k 0 = c.natAbs * gd ws k % ws.sum := gd_rests _ _ _ hk
  rw [g1, g2] at hb
  constructor
  · intro h; exact hb (.inl h)
  · intro h; exact hb (.inr h)
end Go.Proofs.YtanncjkkaeeiaaaDoor
