/-
  Plain facts, no program: what the reference's reading of a number and its search for the greatest remainder come to.
-/
import Derived.Test.YtanncjkkaeeiaaaGreatDoorMonJ
import Derived.Test.YtanncjkkaeeiaaaGreatDoorMonA
namespace Go.Proofs.YtanncjkkaeeiaaaGreatDoor

/-- The value as it is added up until it is too great. -/
def capv (l : List UInt8) : Nat := l.foldl (fun n c => if n ≤ 1000000000 then n * 10 + (c.toNat - 48) else n) 0
theorem capv_snoc (l : List UInt8) (c : UInt8) : capv (l ++ [c]) = if capv l ≤ 1000000000 then capv l * 10 + (c.toNat - 48) else capv l := by rw [capv, List.foldl_append]; rfl
theorem cap_from (l : List UInt8) : ∀ a b : Nat, (a ≤ 1000000000 → b = a) → (1000000000 < a → 1000000000 < b) →
    let v := l.foldl (fun n c => n * 10 + (c.toNat - 48)) a
    let u := l.foldl (fun n c => if n ≤ 1000000000 then n * 10 + (c.toNat - 48) else n) b
    (v ≤ 1000000000 → u = v) ∧ (1000000000 < v → 1000000000 < u) := by
  induction l with
  | nil => intro a b h1 h2; exact ⟨h1, h2⟩
  | cons c l ih =>
    intro a b h1 h2
    rw [List.foldl_cons, List.foldl_cons]
    refine ih _ _ ?_ ?_
    · intro h
      have : b = a := h1 (by omega)
      rw [this, if_pos (by omega)]
    · intro h
      by_cases ha : a ≤ 1000000000
      · rw [h1 ha, if_pos ha]; exact h
      · have := h2 (by omega)
        rw [if_neg (by omega)]; exact this
theorem capv_dval (l : List UInt8) : (dval l ≤ 1000000000 → capv l = dval l) ∧ (1000000000 < dval l → 1000000000 < capv l) := cap_from l 0 0 (fun _ => rfl) (fun h => h)
theorem capv_bd (l : List UInt8) (h : digl l = true) : capv l ≤ 10000000009 := by
  have key : ∀ (l : List UInt8) (b : Nat), digl l = true → b ≤ 10000000009 → l.foldl (fun n c => if n ≤ 1000000000 then n * 10 + (c.toNat - 48) else n) b ≤ 10000000009 := by
    intro l
    induction l with
    | nil => intro b _ hb; exact hb
    | cons c l ih =>
      intro b hd hb
      have hc := digl_iff.1 hd c (by simp)
      rw [List.foldl_cons]
      refine ih _ (digl_iff.2 fun x hx => digl_iff.1 hd x (by simp [hx])) ?_
      split <;> omega
  exact key l 0 h (by omega)

/-- A text of the form, told by its length. -/
theorem fm_len {l : List UInt8} : fm l = true ↔ (∃ q x y, tl l = q ++ 46 :: [x, y] ∧ q ≠ [] ∧ (q.headD 0 = 48 → q.length = 1) ∧ digl (q ++ [x, y]) = true) ∧ l ≠ [45, 48, 46, 48, 48] := by
  constructor
  · intro h
    obtain ⟨x, y, ht, hh, hx, hy, hn⟩ := fm_form h
    refine ⟨⟨wh l, x, y, ht, (numl_dig hn).2, ?_, ?_⟩, (fm_iff.1 h).2.2.2⟩
    · intro h48
      rcases numl_iff.1 hn with e | ⟨_, h2, _⟩
      · rw [e]; rfl
      · exact absurd h48 h2
    · rw [digl_app, (numl_dig hn).1, digl_iff.2 (by simp [hx, hy])]; rfl
  · rintro ⟨⟨q, x, y, ht, hq, h48, hd⟩, hne⟩
    rw [digl_app, Bool.and_eq_true] at hd
    have hx := digl_iff.1 hd.2 x (by simp)
    have hy := digl_iff.1 hd.2 y (by simp)
    have hnum : numl q = true := by
      by_cases h : q.headD 0 = 48
      · have hl := h48 h
        match q, hl with
        | [c], _ => rw [show c = 48 by simpa using h]; decide
      · exact numl_iff.2 (.inr ⟨hq, h, hd.1⟩)
    exact (form_of hnum hx hy ht).2.2.2 hne

section
variable {rs : List Int} {j b : Nat}
/-- The remainders when j cents have been given out. -/
def rem (rs : List Int) (j i : Nat) : Int := if rk rs i < j then -1 else rs.getD i 0
/-- The first of the greatest remainders that are left is the one of rank j. -/
theorem best_rk (hj : j < rs.length) (hb : b < rs.length) (h0 : ∀ i, i < rs.length → 0 ≤ rs.getD i 0)
    (h1 : ∀ k, k < rs.length → rem rs j k ≤ rem rs j b) (h2 : ∀ k, k < b → rem rs j k < rem rs j b) : rk rs b = j := by
  have hjl : j < (ordL rs).length := by rw [ord_len]; exact hj
  have hm := (ord_perm rs).mem_iff.1 (List.getElem_mem hjl)
  have hr := ord_rk rs j hjl
  generalize (ordL rs)[j] = t at *
  have ht : t < rs.length := List.mem_range.1 hm
  have e1 : rem rs j t = rs.getD t 0 := by rw [rem, if_neg (by omega)]
  have g1 := h1 t ht
  have g0 := h0 t ht
  rw [e1] at g1
  by_cases hu : rk rs b < j
  · rw [rem, if_pos hu] at g1; omega
  · have e2 : rem rs j b = rs.getD b 0 := by rw [rem, if_neg hu]
    rw [e2] at g1
    by_cases he : rk rs b = j
    · exact he
    · have hbf : bef rs t b = true := (bef_rk ht hb).2 (by omega)
      rcases bef_iff.1 hbf with h | ⟨h, h'⟩
      · omega
      · have := h2 t h'
        rw [e1, e2] at this
        omega
theorem rem_next (hb : b < rs.length) (hr : rk rs b = j) {k : Nat} (hk : k < rs.length) : (if k = b then (-1 : Int) else rem rs j k) = rem rs (j + 1) k := by
  by_cases h : k = b
  · subst h; rw [if_pos rfl, rem, if_pos (by omega)]
  · rw [if_neg h, rem, rem]
    have : rk rs k ≠ j := fun e => h (rk_inj hk hb (e.trans hr.symm))
    by_cases h' : rk rs k < j
    · rw [if_pos h', if_pos (by omega)]
    · rw [if_neg h', if_neg (by omega)]
theorem up_next (hb : b < rs.length) (hr : rk rs b = j) {k : Nat} (hk : k < rs.length) (x : Int) : (if k = b then x + up rs j k + 1 else x + up rs j k) = x + up rs (j + 1 : Nat) k := by
  unfold up
  by_cases h : k = b
  · subst h; rw [if_pos rfl, if_neg (by omega), if_pos (by omega)]; omega
  · have : rk rs k ≠ j := fun e => h (rk_inj hk hb (e.trans hr.symm))
    rw [if_neg h]
    by_cases h' : rk rs k < j
    · rw [if_pos (by omega), if_pos (by omega)]
    · rw [if_neg (by omega), if_neg (by omega)]
end
end Go.Proofs.YtanncjkkaeeiaaaGreatDoor
