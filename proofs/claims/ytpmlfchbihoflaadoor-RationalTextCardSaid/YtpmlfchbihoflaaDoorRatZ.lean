/-
  For the laws on pairs: the operations on numbers, as quotients; signs.
-/
import Derived.Test.YtpmlfchbihoflaaDoorRatY
namespace Go.Proofs.YtpmlfchbihoflaaDoor
open Go.RowKit

theorem sgn_cases (x y : Int) : (sgn x y = -1 ∧ x < y) ∨ (sgn x y = 0 ∧ x = y) ∨ (sgn x y = 1 ∧ y < x) := by
  unfold sgn; split
  · exact .inl ⟨rfl, by assumption⟩
  · split
    · exact .inr (.inr ⟨rfl, by assumption⟩)
    · exact .inr (.inl ⟨rfl, by omega⟩)
theorem sgn_lt {x y : Int} : sgn x y = -1 ↔ x < y := by rcases sgn_cases x y with h | h | h <;> omega
theorem sgn_eq {x y : Int} : sgn x y = 0 ↔ x = y := by rcases sgn_cases x y with h | h | h <;> omega
theorem sgn_gt {x y : Int} : sgn x y = 1 ↔ y < x := by rcases sgn_cases x y with h | h | h <;> omega
theorem sgn_le {x y : Int} : sgn x y ≤ 0 ↔ x ≤ y := by rcases sgn_cases x y with h | h | h <;> omega
theorem sgn_neg (x y : Int) : sgn y x = - sgn x y := by rcases sgn_cases x y with h | h | h <;> rcases sgn_cases y x with h' | h' | h' <;> omega

/-- Equal up to positive factors: of one sign. -/
theorem sgn_scale {x y z u P Q : Int} (hP : 0 < P) (hQ : 0 < Q) (h : (x - y) * P = (z - u) * Q) : sgn x y = sgn z u := by
  have key : ∀ {s t P Q : Int}, 0 < P → 0 < Q → s * P = t * Q → (0 < s → 0 < t) ∧ (s < 0 → t < 0) := by
    intro s t P Q hP hQ h
    constructor
    · intro hs
      have h1 := Int.mul_pos hs hP
      rw [h] at h1
      exact Int.pos_of_mul_pos_left h1 hQ
    · intro hs
      have h1 := Int.mul_neg_of_neg_of_pos hs hP
      rw [h] at h1
      have h2 : 0 < (-t) * Q := by rw [Int.neg_mul]; omega
      have := Int.pos_of_mul_pos_left h2 hQ
      omega
  have k1 := key hP hQ h
  have k2 := key hQ hP h.symm
  rcases sgn_cases x y with h1 | h1 | h1 <;> rcases sgn_cases z u with h2 | h2 | h2 <;> omega

theorem den_pos {n d : Int} (h : vld n d = true) : 0 < d := by have := ((vld_iff n d).1 h).1; omega
theorem op2 {a b c d : Int} (h : vld a b = true) (h' : vld c d = true) : (vld a b && vld c d) = true := by rw [h, h']; rfl
theorem mk_two (n : Int) {d : Int} (h : d ≠ 0) : mkE n d = 0 ∨ mkE n d = 3 := by
  have := mkE_cases n d
  have := mkE_zero n d
  omega

/-- The four operations on numbers. -/
theorem add_v {a b c d : Int} (h : vld a b = true) (h' : vld c d = true) (w : World) :
    Calls Tryd.prog 10 #[.agg #[.int .i64 a, .int .i64 b], .agg #[.int .i64 c, .int .i64 d]] w
      fun e w' => e = .returned (.tuple #[.agg #[.int .i64 (mkN (a * d + c * b) (b * d)), .int .i64 (mkD (a * d + c * b) (b * d))], .int .i64 (mkE (a * d + c * b) (b * d))]) ∧ Below w.heap.size w w' := by
  obtain ⟨p, q⟩ := vld_bd h
  obtain ⟨p', q'⟩ := vld_bd h'
  have k := add_any a b c d w p.i64 q.i64 p'.i64 q'.i64
  rw [op2 h h'] at k
  exact k
theorem sub_v {a b c d : Int} (h : vld a b = true) (h' : vld c d = true) (w : World) :
    Calls Tryd.prog 12 #[.agg #[.int .i64 a, .int .i64 b], .agg #[.int .i64 c, .int .i64 d]] w
      fun e w' => e = .returned (.tuple #[.agg #[.int .i64 (mkN (a * d - c * b) (b * d)), .int .i64 (mkD (a * d - c * b) (b * d))], .int .i64 (mkE (a * d - c * b) (b * d))]) ∧ Below w.heap.size w w' := by
  obtain ⟨p, q⟩ := vld_bd h
  obtain ⟨p', q'⟩ := vld_bd h'
  have k := sub_any a b c d w p.i64 q.i64 p'.i64 q'.i64
  rw [op2 h h'] at k
  exact k
theorem mul_v {a b c d : Int} (h : vld a b = true) (h' : vld c d = true) (w : World) :
    Calls Tryd.prog 14 #[.agg #[.int .i64 a, .int .i64 b], .agg #[.int .i64 c, .int .i64 d]] w
      fun e w' => e = .returned (.tuple #[.agg #[.int .i64 (mkN (a * c) (b * d)), .int .i64 (mkD (a * c) (b * d))], .int .i64 (mkE (a * c) (b * d))]) ∧ Below w.heap.size w w' := by
  obtain ⟨p, q⟩ := vld_bd h
  obtain ⟨p', q'⟩ := vld_bd h'
  have k := mul_any a b c d w p.i64 q.i64 p'.i64 q'.i64
  rw [op2 h h'] at k
  exact k
theorem div_v {a b c d : Int} (h : vld a b = true) (h' : vld c d = true) (w : World) :
    Calls Tryd.prog 16 #[.agg #[.int .i64 a, .int .i64 b], .agg #[.int .i64 c, .int .i64 d]] w
      fun e w' => e = .returned (.tuple #[.agg #[.int .i64 (mkN (a * d) (b * c)), .int .i64 (mkD (a * d) (b * c))], .int .i64 (mkE (a * d) (b * c))]) ∧ Below w.heap.size w w' := by
  obtain ⟨p, q⟩ := vld_bd h
  obtain ⟨p', q'⟩ := vld_bd h'
  have k := div_any a b c d w p.i64 q.i64 p'.i64 q'.i64
  rw [op2 h h'] at k
  exact k
theorem cmp_v {a b c d : Int} (h : vld a b = true) (h' : vld c d = true) (w : World) :
    Calls Tryd.prog 18 #[.agg #[.int .i64 a, .int .i64 b], .agg #[.int .i64 c, .int .i64 d]] w
      fun e w' => e = .returned (.tuple #[.int .i64 (sgn (a * d) (c * b)), .int .i64 0]) ∧ Below w.heap.size w w' := by
  obtain ⟨p, q⟩ := vld_bd h
  obtain ⟨p', q'⟩ := vld_bd h'
  have k := cmp_any a b c d w p.i64 q.i64 p'.i64 q'.i64
  rw [op2 h h'] at k
  exact k

/-- '==' of two pairs. -/
theorem rat_yes {a b c d : Int} (h : a = c ∧ b = d) (w : World) : (binOp .eql 23 (.agg #[.int .i64 a, .int .i64 b]) (.agg #[.int .i64 c, .int .i64 d])).run Tryd.prog w = .ok (.bool true) w := by
  obtain ⟨rfl, rfl⟩ := h
  simp [go_sem]
theorem rat_no {a b c d : Int} (h : ¬ (a = c ∧ b = d)) (w : World) : (binOp .eql 23 (.agg #[.int .i64 a, .int .i64 b]) (.agg #[.int .i64 c, .int .i64 d])).run Tryd.prog w = .ok (.bool false) w := by
  by_cases h1 : a = c
  · have h2 : ¬ b = d := fun e => h ⟨h1, e⟩
    simp [go_sem, h1, h2]
  · simp [go_sem, h1]
end Go.Proofs.YtpmlfchbihoflaaDoor
