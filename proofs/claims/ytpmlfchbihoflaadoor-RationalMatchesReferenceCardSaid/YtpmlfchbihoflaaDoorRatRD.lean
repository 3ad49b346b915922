/-
  The reference of package rational: Cmp and Floor answer as those of package rational do, for any pairs of ints.
-/
import Derived.Test.YtpmlfchbihoflaaDoorRatRC
namespace Go.Proofs.YtpmlfchbihoflaaDoor
open Go.RowKit Go.Sort
open Go.RowKit (Below)

theorem sgn_sub (x y : Int) : (if x - y < 0 then (-1 : Int) else if 0 < x - y then 1 else 0) = sgn x y := by
  unfold sgn; repeat' split <;> omega

set_option maxRecDepth 100000 in
set_option maxHeartbeats 800000 in
theorem refcmp_any (a b c d : Int) (w : World) (ha : I64 a) (hb : I64 b) (hc : I64 c) (hd : I64 d) :
    Calls Tryd.prog 19 #[.agg #[.int .i64 a, .int .i64 b], .agg #[.int .i64 c, .int .i64 d]] w
      fun e w' => e = .returned (.tuple #[.int .i64 (cmpR (vld a b && vld c d) a b c d), .int .i64 (cmpE (vld a b && vld c d))]) ∧ Below w.heap.size w w' := by
  have HB := fun w => refboth_any a b c d w ha hb hc hd
  cases hv : (vld a b && vld c d) with
  | false =>
    rw [show cmpR false a b c d = 0 by rfl, show cmpE false = 1 by rfl]
    rw [hv] at HB
    have H := Lib.hid HB; clear HB hv
    go_enter Tryd.func19, Tryd.ntmps19
    go_wp2_with fail
    refine (H.out _).mono ?_
    rintro e w1 ⟨rfl, hb1⟩
    go_wp2
    go_ret2
    exact ⟨rfl, (((Below.refl _ _).alloc (Nat.le_refl _) _).alloc (by simp) _).trans (hb1.mono (by simp; omega))⟩
  | true =>
    rw [show cmpR true a b c d = sgn (a * d) (c * b) by rfl, show cmpE true = 0 by rfl]
    have hvv := hv
    rw [Bool.and_eq_true] at hvv
    obtain ⟨pa, pb⟩ := vld_bd hvv.1
    obtain ⟨pc, pd⟩ := vld_bd hvv.2
    have W1 : wrap64 (wrap64 (a * d) - wrap64 (c * b)) = a * d - c * b := sub_wrap pa pd pc pb
    have L1 := mul_bd pa pd
    have L2 := mul_bd pc pb
    have HM := Lib.hid (fun w => sgn_sub (a * d) (c * b) ▸ sign_any (a * d - c * b) w (by omega) (by omega))
    rw [hv] at HB
    have H := Lib.hid HB; clear HB hv hvv L1 L2
    go_enter Tryd.func19, Tryd.ntmps19
    go_wp2_with fail
    refine (H.out _).mono ?_
    rintro e w1 ⟨rfl, hb1⟩
    obtain ⟨h1, h2⟩ := bcell hb1
    have b1 : Below w.heap.size w w1 := (((Below.refl _ _).alloc (Nat.le_refl _) _).alloc (by simp) _).trans (hb1.mono (by simp; omega))
    have k0 : w1.cell? ⟨w.heap.size, 0, none⟩ = some (.int .i64 a) := by rw [h1 _ _ (by simp <;> omega)]; simp [go_sem]
    have k1 : w1.cell? ⟨w.heap.size, 1, none⟩ = some (.int .i64 b) := by rw [h1 _ _ (by simp <;> omega)]; simp [go_sem]
    have k2 : w1.cell? ⟨w.heap.size + 1, 0, none⟩ = some (.int .i64 c) := by rw [h1 _ _ (by simp <;> omega)]; simp [go_sem]
    have k3 : w1.cell? ⟨w.heap.size + 1, 1, none⟩ = some (.int .i64 d) := by rw [h1 _ _ (by simp <;> omega)]; simp [go_sem]
    clear h1 h2
    go_wp2_with fail
    rw [W1]
    refine (HM.out _).mono ?_
    rintro e w2 ⟨rfl, rfl⟩
    go_wp2_with fail
    go_ret2
    exact ⟨rfl, b1⟩

theorem quo_gt {a b : Int} : a < a.tdiv b * b ↔ a.tmod b < 0 := by
  have := Int.mul_tdiv_add_tmod a b
  rw [Int.mul_comm] at this
  omega

set_option maxRecDepth 100000 in
set_option maxHeartbeats 400000 in
theorem reffloor_any (a b : Int) (w : World) (ha : I64 a) (hb : I64 b) :
    Calls Tryd.prog 21 #[.agg #[.int .i64 a, .int .i64 b]] w
      fun e w' => e = .returned (.tuple #[.int .i64 (floorR (vld a b) a b), .int .i64 (cmpE (vld a b))]) ∧ Below w.heap.size w w' := by
  have HB := fun w => refvalid_any a b w ha hb
  cases hv : vld a b with
  | false =>
    rw [show floorR false a b = 0 by rfl, show cmpE false = 1 by rfl]
    rw [hv] at HB
    have H := Lib.hid HB; clear HB hv
    go_enter Tryd.func21, Tryd.ntmps21
    go_wp2_with fail
    refine (H.out _).mono ?_
    rintro e w1 ⟨rfl, hb1⟩
    go_wp2
    go_ret2
    exact ⟨rfl, ((Below.refl _ _).alloc (Nat.le_refl _) _).trans (hb1.mono (by simp))⟩
  | true =>
    rw [show floorR true a b = a / b by rfl, show cmpE true = 0 by rfl]
    obtain ⟨⟨a1, a2⟩, ⟨b0, b2⟩⟩ := vld_bd hv
    have b1 : 1 ≤ b := ((vld_iff a b).1 hv).1
    have q0 := tdiv_bd (b := b) a1 a2
    have W1 : wrap64 (a.tdiv b * b) = a.tdiv b * b := mul_wrap q0 ⟨b0, b2⟩
    have q1 := q0.1
    have q2 := q0.2
    have Q1 := Lib.hid (floor_neg (a := a) b1)
    have Q2 := Lib.hid (floor_pos (a := a) b1)
    have Q3 := Lib.hid (quo_gt (a := a) (b := b))
    clear q0
    rw [hv] at HB
    have H := Lib.hid HB; clear HB hv
    by_cases hs : a < wrap64 (a.tdiv b * b)
    · go_enter Tryd.func21, Tryd.ntmps21
      go_wp2_with fail
      refine (H.out _).mono ?_
      rintro e w1 ⟨rfl, hb1⟩
      obtain ⟨h1, h2⟩ := bcell hb1
      have k0 : w1.cell? ⟨w.heap.size, 0, none⟩ = some (.int .i64 a) := by rw [h1 _ _ (by simp)]; simp [go_sem]
      have k1 : w1.cell? ⟨w.heap.size, 1, none⟩ = some (.int .i64 b) := by rw [h1 _ _ (by simp)]; simp [go_sem]
      clear h1 h2
      go_wp2
      go_ret2
      exact ⟨ret2_int (Q1.out (Q3.out.1 (W1 ▸ hs))) rfl, ((Below.refl _ _).alloc (Nat.le_refl _) _).trans (hb1.mono (by simp))⟩
    · go_enter Tryd.func21, Tryd.ntmps21
      go_wp2_with fail
      refine (H.out _).mono ?_
      rintro e w1 ⟨rfl, hb1⟩
      obtain ⟨h1, h2⟩ := bcell hb1
      have k0 : w1.cell? ⟨w.heap.size, 0, none⟩ = some (.int .i64 a) := by rw [h1 _ _ (by simp)]; simp [go_sem]
      have k1 : w1.cell? ⟨w.heap.size, 1, none⟩ = some (.int .i64 b) := by rw [h1 _ _ (by simp)]; simp [go_sem]
      clear h1 h2
      go_wp2
      go_ret2
      exact ⟨ret2_int (Q2.out (by have := Q3.out; rw [W1] at hs; omega)) rfl, ((Below.refl _ _).alloc (Nat.le_refl _) _).trans (hb1.mono (by simp))⟩
end Go.Proofs.YtpmlfchbihoflaaDoor
