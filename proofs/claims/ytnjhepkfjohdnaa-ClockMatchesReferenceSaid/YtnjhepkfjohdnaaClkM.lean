/-
  Clocks: facts of numbers.
-/
import Derived.Test.YtnjhepkfjohdnaaClkX
namespace Go.Proofs.Ytnjhepkfjohdnaa
open Go.RowKit Go.Sort
open Go.RowKit (Below)
set_option linter.unusedVariables false

theorem wf_i {x : Int} (h : (Lit.int .i64 x).wf = true) : I64 x := by
  have e1 : IntKind.i64.min = -9223372036854775808 := rfl
  have e2 : IntKind.i64.max = 9223372036854775807 := rfl
  simp [Lit.wf, e1, e2] at h
  exact h
theorem tF_ok {s e d r : Int} (h : rds s e d r = true) : tF s e d r = frm s e d r := by simp [tF, h]
theorem tU_ok {s e d r : Int} (h : rds s e d r = true) : tU s e d r = unt s e d r := by simp [tU, h]
theorem tE_ok {s e d r : Int} (h : rds s e d r = true) : tE s e d r = 0 := by simp [tE, h]
theorem pV_ok {s e d r t : Int} (h : rds s e d r = true) : pV s e d r t = sd (frm s e d r) (unt s e d r) t t := by simp [pV, h]
theorem oV_ok {s e d r s' e' d' r' : Int} (h : rds s e d r = true) (h' : rds s' e' d' r' = true) : oV s e d r s' e' d' r' = sd (frm s e d r) (unt s e d r) (frm s' e' d' r') (unt s' e' d' r') := by simp [oV, h, h']
theorem oE_ok {s e d r s' e' d' r' : Int} (h : rds s e d r = true) (h' : rds s' e' d' r' = true) : oE s e d r s' e' d' r' = 0 := by simp [oE, h, h']

theorem prt_mono {s d x y : Int} (h0 : 0 ≤ d) (h1 : d ≤ 100) (h : x ≤ y) : (x - s) * d ≤ (y - s) * d ∧ (y - s) * d - (x - s) * d ≤ 100 * (y - x) := by
  have e : (y - s) * d - (x - s) * d = (y - x) * d := by rw [← Int.sub_mul]; congr 1; omega
  have p : 0 ≤ (y - x) * d := Int.mul_nonneg (by omega) h0
  have q : (y - x) * d ≤ (y - x) * 100 := Int.mul_le_mul_of_nonneg_left h1 (by omega)
  omega
theorem prt_wide {s d d' x : Int} (h0 : d ≤ d') (h : s ≤ x) : (x - s) * d ≤ (x - s) * d' := Int.mul_le_mul_of_nonneg_left h0 (by omega)
/-- The true times of a reading are times, among them the reading. -/
theorem in_bd {s e d r : Int} (h : rds s e d r = true) : 0 ≤ frm s e d r ∧ frm s e d r ≤ r ∧ r < unt s e d r ∧ unt s e d r ≤ 600001 := by
  obtain ⟨h1, h2⟩ := off_le h
  obtain ⟨hv, hr, ht⟩ := rds_iff.1 h
  have := tm_iff.1 ht
  unfold frm unt
  omega
theorem progress {s e d x y : Int} (h : rds s e d x = true) (h' : rds s e d y = true) (hx : x ≤ y) : frm s e d x ≤ frm s e d y ∧ unt s e d x ≤ unt s e d y := by
  obtain ⟨hv, hr, ht⟩ := rds_iff.1 h
  obtain ⟨hs, he, hd⟩ := vc_iff.1 hv
  obtain ⟨p1, p2⟩ := prt_mono (s := s) hd.1 hd.2 hx
  unfold frm unt off
  omega
theorem wider {s e d e' d' r : Int} (h : rds s e d r = true) (he : e ≤ e') (hd : d ≤ d') : frm s e' d' r ≤ frm s e d r ∧ unt s e d r ≤ unt s e' d' r := by
  obtain ⟨hv, hr, ht⟩ := rds_iff.1 h
  have := prt_wide hd hr
  unfold frm unt off
  omega
end Go.Proofs.Ytnjhepkfjohdnaa
