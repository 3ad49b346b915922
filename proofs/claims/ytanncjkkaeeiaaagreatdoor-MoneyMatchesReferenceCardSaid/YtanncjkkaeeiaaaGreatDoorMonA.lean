/-
  Plain facts, no program: the rank of a remainder among remainders (greater ones first, of equal ones the smaller index), and the parts of an amount.
-/
import Derived.Sort.Row
namespace Go.Proofs.YtanncjkkaeeiaaaGreatDoor

/-- Index j comes before index i: its remainder is greater, or as great and its index smaller. -/
def bef (rs : List Int) (j i : Nat) : Bool := decide (rs.getD i 0 < rs.getD j 0) || (decide (rs.getD i 0 = rs.getD j 0) && decide (j < i))
theorem bef_iff {rs : List Int} {j i : Nat} : bef rs j i = true ↔ rs.getD i 0 < rs.getD j 0 ∨ (rs.getD i 0 = rs.getD j 0 ∧ j < i) := by simp [bef]
theorem bef_self (rs : List Int) (i : Nat) : bef rs i i = false := by simp [bef]
theorem bef_trans {rs : List Int} {i j k : Nat} (h1 : bef rs i j = true) (h2 : bef rs j k = true) : bef rs i k = true := by rw [bef_iff] at *; omega
theorem bef_total {rs : List Int} {i j : Nat} (h : i ≠ j) : bef rs i j = true ∨ bef rs j i = true := by rw [bef_iff, bef_iff]; omega
theorem bef_asymm {rs : List Int} {i j : Nat} (h : bef rs i j = true) : bef rs j i = false := by
  rw [Bool.eq_false_iff]; intro h2; rw [bef_iff] at *; omega

/-- How many indices come before i. -/
def rk (rs : List Int) (i : Nat) : Nat := (List.range rs.length).countP fun j => bef rs j i

theorem sorted_rk {rs : List Int} : ∀ (l : List Nat), l.Pairwise (fun a b => bef rs a b = true) → ∀ k (h : k < l.length), l.countP (fun j => bef rs j l[k]) = k
  | [], _, k, h => absurd h (by simp)
  | a :: t, hp, 0, _ => by
    rw [List.pairwise_cons] at hp
    rw [List.countP_eq_zero]
    intro j hj
    rcases List.mem_cons.1 hj with rfl | hj
    · simp [bef_self]
    · simp [bef_asymm (hp.1 j hj)]
  | a :: t, hp, k + 1, h => by
    rw [List.pairwise_cons] at hp
    have hk : k < t.length := by simpa using h
    have h1 := sorted_rk t hp.2 k hk
    have h2 := hp.1 _ (List.getElem_mem hk)
    simp only [List.getElem_cons_succ, List.countP_cons, h1, h2, if_true]

theorem rk_of_sorted {rs : List Int} {l : List Nat} (hp : l.Perm (List.range rs.length)) (hs : l.Pairwise (fun a b => bef rs a b = true)) (k : Nat) (h : k < l.length) : rk rs l[k] = k := by
  unfold rk
  rw [← hp.countP_eq]
  exact sorted_rk l hs k h

/-- The indices in their order. -/
def ordL (rs : List Int) : List Nat := (List.range rs.length).mergeSort fun a b => bef rs a b || a == b
theorem ord_perm (rs : List Int) : (ordL rs).Perm (List.range rs.length) := List.mergeSort_perm _ _
theorem ord_len (rs : List Int) : (ordL rs).length = rs.length := by rw [(ord_perm rs).length_eq, List.length_range]
theorem ord_pw (rs : List Int) : (ordL rs).Pairwise (fun a b => bef rs a b = true) := by
  have h1 : (ordL rs).Pairwise (fun a b => (bef rs a b || a == b) = true) := List.pairwise_mergeSort
    (fun a b c h1 h2 => by
      simp only [Bool.or_eq_true, beq_iff_eq] at *
      rcases h1 with h1 | rfl
      · rcases h2 with h2 | rfl
        · exact .inl (bef_trans h1 h2)
        · exact .inl h1
      · exact h2)
    (fun a b => by
      simp only [Bool.or_eq_true, beq_iff_eq]
      by_cases h : a = b
      · exact .inl (.inr h)
      · rcases bef_total (rs := rs) h with h | h
        · exact .inl (.inl h)
        · exact .inr (.inl h)) _
  have h2 : (ordL rs).Nodup := (ord_perm rs).nodup_iff.2 List.nodup_range
  refine (h1.and h2).imp fun {a b} h => ?_
  rcases h with ⟨h, hne⟩
  simp only [Bool.or_eq_true, beq_iff_eq] at h
  rcases h with h | h
  · exact h
  · exact absurd h hne
theorem ord_rk (rs : List Int) (k : Nat) (h : k < (ordL rs).length) : rk rs (ordL rs)[k] = k := rk_of_sorted (ord_perm rs) (ord_pw rs) k h
theorem ord_at {rs : List Int} {i : Nat} (h : i < rs.length) : ∃ k, ∃ hk : k < (ordL rs).length, (ordL rs)[k] = i := by
  have hm : i ∈ ordL rs := (ord_perm rs).mem_iff.2 (List.mem_range.2 h)
  obtain ⟨k, hk, he⟩ := List.getElem_of_mem hm
  exact ⟨k, hk, he⟩
theorem rk_lt {rs : List Int} {i : Nat} (h : i < rs.length) : rk rs i < rs.length := by
  obtain ⟨k, hk, rfl⟩ := ord_at h
  rw [ord_rk, ← ord_len]; exact hk
theorem rk_inj {rs : List Int} {i j : Nat} (hi : i < rs.length) (hj : j < rs.length) (h : rk rs i = rk rs j) : i = j := by
  obtain ⟨k, hk, rfl⟩ := ord_at hi
  obtain ⟨m, hm, rfl⟩ := ord_at hj
  rw [ord_rk, ord_rk] at h
  subst h; rfl
theorem bef_rk {rs : List Int} {i j : Nat} (hi : i < rs.length) (hj : j < rs.length) : bef rs i j = true ↔ rk rs i < rk rs j := by
  obtain ⟨k, hk, rfl⟩ := ord_at hi
  obtain ⟨m, hm, rfl⟩ := ord_at hj
  rw [ord_rk, ord_rk]
  have hp := List.pairwise_iff_getElem.1 (ord_pw rs)
  constructor
  · intro h
    rcases Nat.lt_trichotomy k m with h1 | h1 | h1
    · exact h1
    · subst h1; rw [bef_self] at h; cases h
    · have := bef_asymm (hp m k hm hk h1); rw [h] at this; cases this
  · intro h; exact hp k m hk hm h

/-- A cent more, for the first m in the order. -/
def up (rs : List Int) (m : Int) (i : Nat) : Int := if (rk rs i : Int) < m then 1 else 0
theorem up_cases (rs : List Int) (m : Int) (i : Nat) : up rs m i = 0 ∨ up rs m i = 1 := by unfold up; split <;> simp

theorem sum_first (n : Nat) (m : Int) (h0 : 0 ≤ m) (h : m ≤ n) : ((List.range n).map fun k : Nat => if (k : Int) < m then (1 : Int) else 0).sum = m := by
  induction n generalizing m with
  | zero => simp; omega
  | succ n ih =>
    rw [List.range_succ, List.map_append, List.sum_append]
    by_cases hm : m ≤ n
    · rw [ih m h0 hm]
      simp; omega
    · have h1 : ((List.range n).map fun k : Nat => if (k : Int) < m then (1 : Int) else 0) = (List.range n).map fun k : Nat => if (k : Int) < (n : Int) then (1 : Int) else 0 := by
        apply List.map_congr_left
        intro k hk
        have := List.mem_range.1 hk
        rw [if_pos (by omega), if_pos (by omega)]
      rw [h1, ih n (by omega) (by omega)]
      simp
      rw [if_pos (by omega)]; omega

theorem perm_sum {l l' : List Int} (h : l.Perm l') : l.sum = l'.sum := by
  induction h with
  | nil => rfl
  | cons x _ ih => simp only [List.sum_cons, ih]
  | swap x y l => simp only [List.sum_cons]; omega
  | trans _ _ h1 h2 => exact h1.trans h2
theorem up_sum (rs : List Int) (m : Int) (h0 : 0 ≤ m) (h : m ≤ rs.length) : ((List.range rs.length).map (up rs m)).sum = m := by
  have h1 : ((ordL rs).map (up rs m)).sum = ((List.range rs.length).map (up rs m)).sum := by
    have := (ord_perm rs).map (up rs m)
    exact perm_sum this
  rw [← h1]
  have h2 : (ordL rs).map (up rs m) = (List.range rs.length).map fun k : Nat => if (k : Int) < m then (1 : Int) else 0 := by
    apply List.ext_getElem
    · simp [ord_len]
    · intro k hk1 hk2
      have hk : k < (ordL rs).length := by simpa using hk1
      simp only [List.getElem_map, List.getElem_range]
      unfold up
      rw [ord_rk rs k hk]
  rw [h2]
  exact sum_first _ _ h0 h

/-! ### The parts -/
theorem sum_parts (s W : Int) : ∀ ws : List Int, W * (ws.map fun x => s * x / W).sum + (ws.map fun x => s * x % W).sum = s * ws.sum
  | [] => by simp
  | x :: ws => by
    have h := sum_parts s W ws
    have e := Int.mul_ediv_add_emod (s * x) W
    simp only [List.map_cons, List.sum_cons, Int.mul_add]
    omega

theorem sum_rest (s W : Int) (hW : 0 < W) : ∀ ws : List Int, 0 ≤ (ws.map fun x => s * x % W).sum ∧ (ws.map fun x => s * x % W).sum ≤ (W - 1) * ((ws.map fun x => s * x % W).countP fun r => decide (0 < r))
  | [] => by simp
  | x :: ws => by
    have h := sum_rest s W hW ws
    have h1 := Int.emod_nonneg (s * x) (b := W) (by omega)
    have h2 := Int.emod_lt_of_pos (s * x) hW
    simp only [List.map_cons, List.sum_cons, List.countP_cons]
    refine ⟨by omega, ?_⟩
    by_cases h0 : 0 < s * x % W
    · rw [if_pos (by simpa using h0)]
      rw [Int.natCast_add, Int.mul_add]
      simp only [Int.natCast_one, Int.mul_one]
      omega
    · rw [if_neg (by simpa using h0)]
      simp only [Nat.add_zero]
      omega

/-- The remainders. -/
def rests (s W : Int) (ws : List Int) : List Int := ws.map fun x => s * x % W
/-- The cents that are missing. -/
def left (s W : Int) (ws : List Int) : Int := s - (ws.map fun x => s * x / W).sum
theorem rests_len (s W : Int) (ws : List Int) : (rests s W ws).length = ws.length := by simp [rests]
theorem rests_at (s W : Int) (ws : List Int) {i : Nat} (h : i < ws.length) : (rests s W ws).getD i 0 = s * ws[i] % W := by
  simp [rests, List.getD_eq_getElem?_getD, h]

theorem left_eq (s : Int) (ws : List Int) : left s ws.sum ws * ws.sum = (rests s ws.sum ws).sum := by
  have h := sum_parts s ws.sum ws
  unfold left rests
  rw [Int.sub_mul, Int.mul_comm (ws.map _).sum ws.sum]
  omega

/-- Fewer cents are missing than there are remainders above 0, or none. -/
theorem left_bd (s : Int) (ws : List Int) (hW : 0 < ws.sum) : 0 ≤ left s ws.sum ws ∧ left s ws.sum ws ≤ ((rests s ws.sum ws).countP fun r => decide (0 < r)) := by
  have h := left_eq s ws
  have k := sum_rest s ws.sum hW ws
  rw [show (ws.map fun x => s * x % ws.sum) = rests s ws.sum ws from rfl] at k
  obtain ⟨k1, k2⟩ := k
  rw [← h] at k1 k2
  generalize left s ws.sum ws = m at *
  generalize ((rests s ws.sum ws).countP fun r => decide (0 < r)) = c at *
  constructor
  · by_cases hm : 0 ≤ m
    · exact hm
    · have := Int.mul_neg_of_neg_of_pos (a := m) (b := ws.sum) (by omega) hW
      omega
  · by_cases hm : m ≤ c
    · exact hm
    · have h1 : ((c : Int) + 1) * ws.sum ≤ m * ws.sum := Int.mul_le_mul_of_nonneg_right (by omega) (by omega)
      have h2 : ((c : Int) + 1) * ws.sum = (ws.sum - 1) * c + c + ws.sum := by
        rw [Int.add_mul, Int.sub_mul, Int.mul_comm (c : Int) ws.sum]; omega
      omega

theorem left_le (s : Int) (ws : List Int) (hW : 0 < ws.sum) : left s ws.sum ws ≤ ws.length := by
  have h := (left_bd s ws hW).2
  have h2 := List.countP_le_length (p := fun r => decide (0 < r)) (l := rests s ws.sum ws)
  rw [rests_len] at h2
  omega

theorem countP_range (rs : List Int) (p : Int → Bool) : (List.range rs.length).countP (fun j => p (rs.getD j 0)) = rs.countP p := by
  have h : rs = (List.range rs.length).map (fun j => rs.getD j 0) := by
    apply List.ext_getElem
    · simp
    · intro i h1 h2
      simp [List.getD_eq_getElem?_getD, h1]
  conv => rhs; rw [h]
  rw [List.countP_map]
  rfl

/-- Who gets a cent more has a remainder above 0. -/
theorem up_pos (s : Int) (ws : List Int) (hW : 0 < ws.sum) {i : Nat} (hi : i < ws.length) (h : up (rests s ws.sum ws) (left s ws.sum ws) i = 1) : 0 < s * ws[i] % ws.sum := by
  have h0 := Int.emod_nonneg (s * ws[i]) (b := ws.sum) (by omega)
  by_cases hr : 0 < s * ws[i] % ws.sum
  · exact hr
  · exfalso
    have e : (rests s ws.sum ws).getD i 0 = 0 := by rw [rests_at s ws.sum ws hi]; omega
    have hb := (left_bd s ws hW).2
    have hc : (rests s ws.sum ws).countP (fun r => decide (0 < r)) ≤ rk (rests s ws.sum ws) i := by
      rw [← countP_range]
      unfold rk
      refine List.countP_mono_left fun j _ hj => ?_
      rw [bef_iff, e]
      exact .inl (by simpa using hj)
    unfold up at h
    split at h
    · omega
    · cases h

/-- The part of index i, without its sign. -/
def part (s : Int) (ws : List Int) (i : Nat) : Int := s * ws.getD i 0 / ws.sum + up (rests s ws.sum ws) (left s ws.sum ws) i
def sgd (c x : Int) : Int := if c < 0 then -x else x
/-- The parts of an amount. -/
def parts (c : Int) (ws : List Int) : List Int := (List.range ws.length).map fun i => sgd c (part c.natAbs ws i)
end Go.Proofs.YtanncjkkaeeiaaaGreatDoor
