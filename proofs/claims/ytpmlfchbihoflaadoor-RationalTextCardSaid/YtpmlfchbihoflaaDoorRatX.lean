/-
  For the laws on pairs: opening and shutting a pair; completeness and uniqueness of reduced quotients.
-/
import Derived.Test.YtpmlfchbihoflaaDoorRatW
import Derived.Test.YtpmlfchbihoflaaDoorRatQ
import Derived.Lib.SmallJoins
namespace Go.Proofs.YtpmlfchbihoflaaDoor
open Go.RowKit Go.Sort Go.ChangeShapes Go.WideShapes Go.ChangeAt Go.Joins
open Go.RowKit (Below)

theorem wf_i {x : Int} (h : (Lit.int .i64 x).wf = true) : I64 x := by
  have e1 : IntKind.i64.min = -9223372036854775808 := rfl
  have e2 : IntKind.i64.max = 9223372036854775807 := rfl
  simp [Lit.wf, e1, e2] at h
  exact h

theorem cellsRat : Tryd.prog.cellsOf 23 = 2 := by kernel_rfl

section
variable {H : Type} {enc : TypeId × Value → H}
/-- A pair as data. -/
abbrev datRat (a b : Int) : DataW H := .agg [.lit (.int .i64 a), .lit (.int .i64 b)]

set_option maxRecDepth 100000 in
theorem open_rat {W : World} {base : Nat} {sp : Nat → Bool} {held : Bool} {v : Value} {d : DataW H} {p : List MemPlace} (hv : Value.okWide Tryd.prog W .any base 23 v) (h : DataW.Trod enc Tryd.prog W 0 sp held 23 v d p) :
    ∃ a b : Int, v = .agg #[.int .i64 a, .int .i64 b] ∧ d = datRat a b ∧ p = [] ∧ (Lit.int .i64 a).wf = true ∧ (Lit.int .i64 b).wf = true := by
  obtain ⟨c0, c1, y0, y1, m, rfl, rfl, rfl, hy0, hy1⟩ := open_agg2 Tryd.underlying23 (by kernel_rfl) cellsRat hv h
  obtain ⟨a, e0, rfl, wa⟩ := DataW.trod_int Tryd.underlying3 hy0
  obtain ⟨b, e1, rfl, wb⟩ := DataW.trod_int Tryd.underlying3 hy1
  simp at e0 e1
  subst e0 e1
  exact ⟨a, b, rfl, rfl, rfl, wa, wb⟩

set_option maxRecDepth 100000 in
theorem shut_rat {W : World} {sp : Nat → Bool} {held : Bool} {a b : Int} (wa : (Lit.int .i64 a).wf = true) (wb : (Lit.int .i64 b).wf = true) :
    DataW.Trod enc Tryd.prog W 0 sp held 23 (.agg #[.int .i64 a, .int .i64 b]) (datRat a b) [] :=
  shut_agg2 (y0 := (.lit (.int .i64 a), [])) (y1 := (.lit (.int .i64 b), [])) Tryd.underlying23 (by kernel_rfl) cellsRat ⟨1, by simp [DataW.trod, Tryd.underlying3, wa]⟩ ⟨1, by simp [DataW.trod, Tryd.underlying3, wb]⟩
end

/-- Two numbers with the same value are equal. -/
theorem low_eq {n d n' d' : Int} (h : vld n d = true) (h' : vld n' d' = true) (e : n * d' = n' * d) : n = n' ∧ d = d' := by
  obtain ⟨hd, _, _, _, hg⟩ := (vld_iff n d).1 h
  obtain ⟨hd', _, _, _, hg'⟩ := (vld_iff n' d').1 h'
  have e2 : n.natAbs * d'.natAbs = n'.natAbs * d.natAbs := by rw [← Int.natAbs_mul, ← Int.natAbs_mul, e]
  have k1 : d.natAbs ∣ d'.natAbs := by
    have : d.natAbs ∣ n.natAbs * d'.natAbs := by rw [e2]; exact Nat.dvd_mul_left _ _
    exact (Nat.Coprime.symm hg).dvd_of_dvd_mul_left this
  have k2 : d'.natAbs ∣ d.natAbs := by
    have : d'.natAbs ∣ n'.natAbs * d.natAbs := by rw [← e2]; exact Nat.dvd_mul_left _ _
    exact (Nat.Coprime.symm hg').dvd_of_dvd_mul_left this
  have k3 := Nat.dvd_antisymm k1 k2
  have hdd : d = d' := by omega
  subst hdd
  exact ⟨Int.eq_of_mul_eq_mul_right (by omega) e, rfl⟩

/-- Where there is a number with that value, it is what Make returns. -/
theorem mk_complete {n d N D : Int} (hd : d ≠ 0) (hv : vld N D = true) (e : n * D = N * d) : mkE n d = 0 ∧ mkN n d = N ∧ mkD n d = D := by
  obtain ⟨hD, hD2, hN1, hN2, hg⟩ := (vld_iff N D).1 hv
  have e2 : n.natAbs * D.natAbs = N.natAbs * d.natAbs := by rw [← Int.natAbs_mul, ← Int.natAbs_mul, e]
  -- d is a multiple of D
  have k1 : D.natAbs ∣ d.natAbs := by
    have : D.natAbs ∣ N.natAbs * d.natAbs := by rw [← e2]; exact Nat.dvd_mul_left _ _
    exact (Nat.Coprime.symm hg).dvd_of_dvd_mul_left this
  obtain ⟨k, hk⟩ := k1
  have hD0 : 0 < D.natAbs := by omega
  have hn : n.natAbs = N.natAbs * k := by
    have : n.natAbs * D.natAbs = (N.natAbs * k) * D.natAbs := by rw [e2, hk]; rw [Nat.mul_assoc, Nat.mul_comm D.natAbs k]
    exact Nat.eq_of_mul_eq_mul_right hD0 this
  have hk0 : 0 < k := by
    rcases Nat.eq_zero_or_pos k with h | h
    · subst h; simp at hk; omega
    · exact h
  have hc : cd n d = k := by
    unfold cd
    rw [hn, hk, Nat.gcd_mul_right, hg, Nat.one_mul]
  have q1 : n.natAbs / cd n d = N.natAbs := by rw [hc, hn]; exact Nat.mul_div_cancel _ hk0
  have q2 : d.natAbs / cd n d = D.natAbs := by rw [hc, hk]; exact Nat.mul_div_cancel _ hk0
  have hE : mkE n d = 0 := by
    unfold mkE
    rw [if_neg hd, q1, q2, if_neg (by omega)]
  have hv2 := mk_vld hE
  have he2 := mk_val hE
  have : mkN n d * D = N * mkD n d := by
    have h3 : (mkN n d * D) * d = (N * mkD n d) * d := by
      have a1 : mkN n d * D * d = n * mkD n d * D := by rw [he2]; rw [Int.mul_assoc, Int.mul_assoc, Int.mul_comm D d]
      have a2 : N * mkD n d * d = n * mkD n d * D := by rw [Int.mul_assoc, Int.mul_comm (mkD n d) d, ← Int.mul_assoc, ← e, Int.mul_assoc, Int.mul_assoc, Int.mul_comm D]
      rw [a1, a2]
    exact Int.eq_of_mul_eq_mul_right hd h3
  have r := low_eq hv2 hv this
  exact ⟨hE, r.1, r.2⟩
end Go.Proofs.YtpmlfchbihoflaaDoor
