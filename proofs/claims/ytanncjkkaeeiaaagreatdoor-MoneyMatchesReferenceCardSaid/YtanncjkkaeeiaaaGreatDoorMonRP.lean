/-
  Plain facts, no program: when a text has the form, told byte by byte as the reference looks at it.
-/
import Derived.Test.YtanncjkkaeeiaaaGreatDoorMonN
namespace Go.Proofs.YtanncjkkaeeiaaaGreatDoor

/-- A text without the byte at p. -/
def body (T : List UInt8) (p : Nat) : List UInt8 := T.take p ++ T.drop (p + 1)
theorem at_p {T : List UInt8} {p : Nat} (hT : T.length = p + 3) : ∃ q c x y, T = q ++ c :: [x, y] ∧ q.length = p ∧ T.getD p 0 = c ∧ body T p = q ++ [x, y] ∧ T.headD 0 = (if p = 0 then c else q.headD 0) := by
  have h1 : (T.take p).length = p := by simp; omega
  have h2 : (T.drop p).length = 3 := by simp; omega
  obtain ⟨c, x, y, e⟩ : ∃ c x y, T.drop p = [c, x, y] := by
    match T.drop p, h2 with
    | [c, x, y], _ => exact ⟨c, x, y, rfl⟩
  have et : T = T.take p ++ [c, x, y] := by rw [← e]; exact (List.take_append_drop p T).symm
  generalize T.take p = q at *
  subst et
  refine ⟨q, c, x, y, rfl, h1, ?_, ?_, ?_⟩
  · simp [List.getD_eq_getElem?_getD, ← h1]
  · unfold body
    rw [← h1, List.take_left' rfl, ← List.drop_drop, List.drop_left' rfl]; rfl
  · cases q with
    | nil => simp at h1; subst h1; rfl
    | cons a b => rw [if_neg (by simp at h1; omega)]; rfl
/-- All that the form asks, but for the text of a negative nought. -/
def Frm (T : List UInt8) (p : Nat) : Prop := T.getD p 0 = 46 ∧ (T.headD 0 = 48 → p = 1) ∧ digl (body T p) = true
theorem fm_short {l : List UInt8} (h : (tl l).length < 4) : fm l = false := by
  rw [← Bool.not_eq_true]
  intro hf
  obtain ⟨⟨q, x, y, e, hq, _, _⟩, _⟩ := fm_len.1 hf
  have := List.length_pos_iff.2 hq
  rw [e] at h
  simp at h
  omega
theorem frm_num {l : List UInt8} {p : Nat} (hT : (tl l).length = p + 3) (hp : 1 ≤ p) (h : Frm (tl l) p) :
    (fm l = true ↔ l ≠ [45, 48, 46, 48, 48]) ∧ vl l = dval (body (tl l) p) ∧ (ng l = true ∧ dval (body (tl l) p) = 0 ↔ l = [45, 48, 46, 48, 48]) := by
  obtain ⟨q, c, x, y, e, hq, hc, hb, hh⟩ := at_p hT
  obtain ⟨f1, f2, f3⟩ := h
  rw [hc] at f1
  subst f1
  rw [if_neg (by omega)] at hh
  rw [hh] at f2
  rw [hb] at f3 ⊢
  rw [digl_app, Bool.and_eq_true] at f3
  have hx := digl_iff.1 f3.2 x (by simp)
  have hy := digl_iff.1 f3.2 y (by simp)
  have hqn : q ≠ [] := by intro e; rw [e] at hq; simp at hq; omega
  have hnum : numl q = true := by
    by_cases h : q.headD 0 = 48
    · have hl := f2 h
      match q, hq.trans hl with
      | [c], _ => rw [show c = 48 by simpa using h]; decide
    · exact numl_iff.2 (.inr ⟨hqn, h, f3.1⟩)
  obtain ⟨e1, e2, e3⟩ := form_of hnum hx hy e
  refine ⟨e3, by rw [vl, e1, e2], ?_⟩
  have h48 : (48 : UInt8).toNat = 48 := rfl
  constructor
  · rintro ⟨h1, h2⟩
    rw [dval_app2] at h2
    have w0 : dval q = 0 := by omega
    have hd := dec_num hnum
    rw [w0] at hd
    have eq : q = [48] := hd.symm.trans (by decide +kernel)
    have x0 : x = 48 := UInt8.toNat_inj.1 (show x.toNat = (48 : UInt8).toNat by omega)
    have y0 : y = 48 := UInt8.toNat_inj.1 (show y.toNat = (48 : UInt8).toNat by omega)
    rcases ng_cases l with ⟨r, g1, _, g3⟩ | ⟨_, g2, _⟩
    · rw [g3] at e
      rw [g1, e, eq, x0, y0]; rfl
    · rw [h1] at g2; cases g2
  · intro hl
    have t1 : tl l = [48, 46, 48, 48] := by rw [hl]; decide +kernel
    have t2 : ng l = true := by rw [hl]; decide +kernel
    refine ⟨t2, ?_⟩
    rw [t1] at hT
    obtain rfl : p = 1 := by simp at hT; omega
    rw [← hb, t1]
    decide +kernel
theorem fm_frm {l : List UInt8} {p : Nat} (hT : (tl l).length = p + 3) (hf : fm l = true) : Frm (tl l) p := by
  obtain ⟨⟨q', x', y', e', hq', h48, hd⟩, _⟩ := fm_len.1 hf
  obtain ⟨q, c, x, y, e, hq, hc, hb, hh⟩ := at_p hT
  have hlen : q'.length = q.length := by rw [e'] at hT; simp at hT; omega
  rw [e'] at e
  obtain ⟨rfl, e2⟩ := List.append_inj e hlen
  simp only [List.cons.injEq, and_true] at e2
  obtain ⟨rfl, rfl, rfl⟩ := e2
  have hp1 : 1 ≤ p := by have := List.length_pos_iff.2 hq'; omega
  refine ⟨hc, fun h => ?_, by rw [hb]; exact hd⟩
  rw [hh, if_neg (by omega)] at h
  rw [← hq]; exact h48 h
/-- The digits among the first k bytes. -/
def dgs (T : List UInt8) (p k : Nat) : List UInt8 := if k ≤ p then T.take k else T.take p ++ (T.drop (p + 1)).take (k - (p + 1))
theorem dgs_zero (T : List UInt8) (p : Nat) : dgs T p 0 = [] := by simp [dgs]
theorem dgs_skip (T : List UInt8) (p : Nat) : dgs T p (p + 1) = dgs T p p := by
  unfold dgs
  rw [if_neg (by omega), if_pos (Nat.le_refl _), Nat.sub_self, List.take_zero, List.append_nil]
theorem dgs_next {T : List UInt8} {p k : Nat} (hk : k < T.length) (hp : k ≠ p) : dgs T p (k + 1) = dgs T p k ++ [T[k]] := by
  unfold dgs
  by_cases h : k < p
  · rw [if_pos (by omega), if_pos (by omega), List.take_append_getElem]
  · rw [if_neg (by omega), if_neg (by omega), List.append_assoc]
    congr 1
    have hl : k - (p + 1) < (T.drop (p + 1)).length := by simp; omega
    rw [show k + 1 - (p + 1) = (k - (p + 1)) + 1 by omega, ← List.take_append_getElem hl]
    congr 2
    rw [List.getElem_drop]
    congr 1
    omega
theorem dgs_all {T : List UInt8} {p k : Nat} (hk : T.length ≤ k) (hp : p < T.length) : dgs T p k = body T p := by
  unfold dgs body
  rw [if_neg (by omega)]
  congr 1
  exact List.take_of_length_le (by rw [List.length_drop]; omega)
theorem body_mem {T : List UInt8} {p k : Nat} (hk : k < T.length) (hp : k ≠ p) : T[k] ∈ body T p := by
  unfold body
  rw [List.mem_append]
  by_cases h : k < p
  · left
    exact List.mem_take_iff_getElem.2 ⟨k, by omega, rfl⟩
  · right
    exact List.mem_drop_iff_getElem.2 ⟨k - (p + 1), by omega, by congr 1; omega⟩
end Go.Proofs.YtanncjkkaeeiaaaGreatDoor
