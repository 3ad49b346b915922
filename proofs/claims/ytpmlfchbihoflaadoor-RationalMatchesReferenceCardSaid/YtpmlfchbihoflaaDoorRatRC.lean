/-
  The reference of package rational: Add, Sub, Mul and Div answer as those of package rational do, for any two pairs of ints.
-/
import Derived.Test.YtpmlfchbihoflaaDoorRatRB
namespace Go.Proofs.YtpmlfchbihoflaaDoor
open Go.RowKit Go.Sort
open Go.RowKit (Below)

set_option maxRecDepth 100000 in
set_option maxHeartbeats 800000 in
theorem refadd_any (a b c d : Int) (w : World) (ha : I64 a) (hb : I64 b) (hc : I64 c) (hd : I64 d) :
    Calls Tryd.prog 11 #[.agg #[.int .i64 a, .int .i64 b], .agg #[.int .i64 c, .int .i64 d]] w
      fun e w' => e = .returned (.tuple #[.agg #[.int .i64 (opN (vld a b && vld c d) (a * d + c * b) (b * d)), .int .i64 (opD (vld a b && vld c d) (a * d + c * b) (b * d))], .int .i64 (opE (vld a b && vld c d) (a * d + c * b) (b * d))]) ∧ Below w.heap.size w w' := by
  have HB := fun w => refboth_any a b c d w ha hb hc hd
  cases hv : (vld a b && vld c d) with
  | false =>
    rw [show opN false (a * d + c * b) (b * d) = 0 by rfl, show opD false (a * d + c * b) (b * d) = 0 by rfl, show opE false (a * d + c * b) (b * d) = 1 by rfl]
    rw [hv] at HB
    have H := Lib.hid HB; clear HB hv
    go_enter Tryd.func11, Tryd.ntmps11
    go_wp2_with fail
    refine (H.out _).mono ?_
    rintro e w1 ⟨rfl, hb1⟩
    obtain ⟨h1, h2⟩ := bcell hb1
    have z0 : w1.cell? ⟨w.heap.size + 1 + 1, 0, none⟩ = some (.int .i64 0) := by rw [h1 _ _ (by simp <;> omega)]; simp [go_sem]
    have z1 : w1.cell? ⟨w.heap.size + 1 + 1, 1, none⟩ = some (.int .i64 0) := by rw [h1 _ _ (by simp <;> omega)]; simp [go_sem]
    have f0 : w1.frozen? ⟨w.heap.size + 1 + 1, 0, none⟩ = false := by rw [h2 _ _ (by simp <;> omega)]; simp [go_sem]
    have f1 : w1.frozen? ⟨w.heap.size + 1 + 1, 1, none⟩ = false := by rw [h2 _ _ (by simp <;> omega)]; simp [go_sem]
    have b1 : Below w.heap.size w w1 := ((((Below.refl _ _).alloc (Nat.le_refl _) _).alloc (by simp) _).alloc (by simp; omega) _).trans (hb1.mono (by simp; omega))
    go_wp2
    refine bodyPost_ret (v := .tuple #[.agg #[.int .i64 0, .int .i64 0], .int .i64 1]) (by simp [results, Tryd.results11, go_sem, z0, z1]) rfl ⟨rfl, ?_⟩
    exact (b1.setCell (by simp; omega) _).setCell (by simp; omega) _
  | true =>
    rw [show opN true (a * d + c * b) (b * d) = mkN (a * d + c * b) (b * d) by rfl, show opD true (a * d + c * b) (b * d) = mkD (a * d + c * b) (b * d) by rfl, show opE true (a * d + c * b) (b * d) = mkE (a * d + c * b) (b * d) by rfl]
    have hvv := hv
    rw [Bool.and_eq_true] at hvv
    obtain ⟨pa, pb⟩ := vld_bd hvv.1
    obtain ⟨pc, pd⟩ := vld_bd hvv.2
    have W1 : wrap64 (wrap64 (a * d) + wrap64 (c * b)) = a * d + c * b := add_wrap pa pd pc pb
    have W2 : wrap64 (b * d) = b * d := mul_wrap pb pd
    have L1 := And.intro (mul_bd pa pd) (mul_bd pc pb)
    have L2 := mul_bd pb pd
    have HM := Lib.hid (fun w => refmake_any (a * d + c * b) (b * d) w (by unfold I64; omega) (by unfold I64; omega))
    rw [hv] at HB
    have H := Lib.hid HB; clear HB hv hvv L1 L2
    go_enter Tryd.func11, Tryd.ntmps11
    go_wp2_with fail
    refine (H.out _).mono ?_
    rintro e w1 ⟨rfl, hb1⟩
    obtain ⟨h1, h2⟩ := bcell hb1
    have z0 : w1.cell? ⟨w.heap.size + 1 + 1, 0, none⟩ = some (.int .i64 0) := by rw [h1 _ _ (by simp <;> omega)]; simp [go_sem]
    have z1 : w1.cell? ⟨w.heap.size + 1 + 1, 1, none⟩ = some (.int .i64 0) := by rw [h1 _ _ (by simp <;> omega)]; simp [go_sem]
    have f0 : w1.frozen? ⟨w.heap.size + 1 + 1, 0, none⟩ = false := by rw [h2 _ _ (by simp <;> omega)]; simp [go_sem]
    have f1 : w1.frozen? ⟨w.heap.size + 1 + 1, 1, none⟩ = false := by rw [h2 _ _ (by simp <;> omega)]; simp [go_sem]
    have b1 : Below w.heap.size w w1 := ((((Below.refl _ _).alloc (Nat.le_refl _) _).alloc (by simp) _).alloc (by simp; omega) _).trans (hb1.mono (by simp; omega))
    have k0 : w1.cell? ⟨w.heap.size, 0, none⟩ = some (.int .i64 a) := by rw [h1 _ _ (by simp <;> omega)]; simp [go_sem]
    have k1 : w1.cell? ⟨w.heap.size, 1, none⟩ = some (.int .i64 b) := by rw [h1 _ _ (by simp <;> omega)]; simp [go_sem]
    have k2 : w1.cell? ⟨w.heap.size + 1, 0, none⟩ = some (.int .i64 c) := by rw [h1 _ _ (by simp <;> omega)]; simp [go_sem]
    have k3 : w1.cell? ⟨w.heap.size + 1, 1, none⟩ = some (.int .i64 d) := by rw [h1 _ _ (by simp <;> omega)]; simp [go_sem]
    clear h1 h2
    go_wp2_with fail
    rw [W1, W2]
    refine (HM.out _).mono ?_
    rintro e w2 ⟨rfl, hb2⟩
    have s1 : w.heap.size + 1 + 1 < w1.heap.size := by have := hb1.size; simp at this; omega
    have b2 : Below w.heap.size w w2 := b1.trans (hb2.mono b1.size)
    have s2 : w.heap.size + 1 + 1 < w2.heap.size := by have := hb2.size; omega
    have y0 : w2.cell? ⟨w.heap.size + 1 + 1, 0, none⟩ = some (.int .i64 0) := by rw [hb2.cell (by simp; omega)]; exact z0
    have y1 : w2.cell? ⟨w.heap.size + 1 + 1, 1, none⟩ = some (.int .i64 0) := by rw [hb2.cell (by simp; omega)]; exact z1
    have g0 : w2.frozen? ⟨w.heap.size + 1 + 1, 0, none⟩ = false := by rw [hb2.frozen (by simp; omega)]; exact f0
    have g1 : w2.frozen? ⟨w.heap.size + 1 + 1, 1, none⟩ = false := by rw [hb2.frozen (by simp; omega)]; exact f1
    clear k0 k1 k2 k3 z0 z1 f0 f1 W1 W2
    go_wp2_with fail
    refine bodyPost_ret (v := .tuple #[.agg #[.int .i64 (mkN (a * d + c * b) (b * d)), .int .i64 (mkD (a * d + c * b) (b * d))], .int .i64 (mkE (a * d + c * b) (b * d))]) (by simp [results, Tryd.results11, go_sem, y0, y1, s2]) rfl ⟨rfl, ?_⟩
    exact ((b2.setCell (by simp; omega) _).setCell (by simp; omega) _).alloc (by simp; omega) _

set_option maxRecDepth 100000 in
set_option maxHeartbeats 800000 in
theorem refsub_any (a b c d : Int) (w : World) (ha : I64 a) (hb : I64 b) (hc : I64 c) (hd : I64 d) :
    Calls Tryd.prog 13 #[.agg #[.int .i64 a, .int .i64 b], .agg #[.int .i64 c, .int .i64 d]] w
      fun e w' => e = .returned (.tuple #[.agg #[.int .i64 (opN (vld a b && vld c d) (a * d - c * b) (b * d)), .int .i64 (opD (vld a b && vld c d) (a * d - c * b) (b * d))], .int .i64 (opE (vld a b && vld c d) (a * d - c * b) (b * d))]) ∧ Below w.heap.size w w' := by
  have HB := fun w => refboth_any a b c d w ha hb hc hd
  cases hv : (vld a b && vld c d) with
  | false =>
    rw [show opN false (a * d - c * b) (b * d) = 0 by rfl, show opD false (a * d - c * b) (b * d) = 0 by rfl, show opE false (a * d - c * b) (b * d) = 1 by rfl]
    rw [hv] at HB
    have H := Lib.hid HB; clear HB hv
    go_enter Tryd.func13, Tryd.ntmps13
    go_wp2_with fail
    refine (H.out _).mono ?_
    rintro e w1 ⟨rfl, hb1⟩
    obtain ⟨h1, h2⟩ := bcell hb1
    have z0 : w1.cell? ⟨w.heap.size + 1 + 1, 0, none⟩ = some (.int .i64 0) := by rw [h1 _ _ (by simp <;> omega)]; simp [go_sem]
    have z1 : w1.cell? ⟨w.heap.size + 1 + 1, 1, none⟩ = some (.int .i64 0) := by rw [h1 _ _ (by simp <;> omega)]; simp [go_sem]
    have f0 : w1.frozen? ⟨w.heap.size + 1 + 1, 0, none⟩ = false := by rw [h2 _ _ (by simp <;> omega)]; simp [go_sem]
    have f1 : w1.frozen? ⟨w.heap.size + 1 + 1, 1, none⟩ = false := by rw [h2 _ _ (by simp <;> omega)]; simp [go_sem]
    have b1 : Below w.heap.size w w1 := ((((Below.refl _ _).alloc (Nat.le_refl _) _).alloc (by simp) _).alloc (by simp; omega) _).trans (hb1.mono (by simp; omega))
    go_wp2
    refine bodyPost_ret (v := .tuple #[.agg #[.int .i64 0, .int .i64 0], .int .i64 1]) (by simp [results, Tryd.results13, go_sem, z0, z1]) rfl ⟨rfl, ?_⟩
    exact (b1.setCell (by simp; omega) _).setCell (by simp; omega) _
  | true =>
    rw [show opN true (a * d - c * b) (b * d) = mkN (a * d - c * b) (b * d) by rfl, show opD true (a * d - c * b) (b * d) = mkD (a * d - c * b) (b * d) by rfl, show opE true (a * d - c * b) (b * d) = mkE (a * d - c * b) (b * d) by rfl]
    have hvv := hv
    rw [Bool.and_eq_true] at hvv
    obtain ⟨pa, pb⟩ := vld_bd hvv.1
    obtain ⟨pc, pd⟩ := vld_bd hvv.2
    have W1 : wrap64 (wrap64 (a * d) - wrap64 (c * b)) = a * d - c * b := sub_wrap pa pd pc pb
    have W2 : wrap64 (b * d) = b * d := mul_wrap pb pd
    have L1 := And.intro (mul_bd pa pd) (mul_bd pc pb)
    have L2 := mul_bd pb pd
    have HM := Lib.hid (fun w => refmake_any (a * d - c * b) (b * d) w (by unfold I64; omega) (by unfold I64; omega))
    rw [hv] at HB
    have H := Lib.hid HB; clear HB hv hvv L1 L2
    go_enter Tryd.func13, Tryd.ntmps13
    go_wp2_with fail
    refine (H.out _).mono ?_
    rintro e w1 ⟨rfl, hb1⟩
    obtain ⟨h1, h2⟩ := bcell hb1
    have z0 : w1.cell? ⟨w.heap.size + 1 + 1, 0, none⟩ = some (.int .i64 0) := by rw [h1 _ _ (by simp <;> omega)]; simp [go_sem]
    have z1 : w1.cell? ⟨w.heap.size + 1 + 1, 1, none⟩ = some (.int .i64 0) := by rw [h1 _ _ (by simp <;> omega)]; simp [go_sem]
    have f0 : w1.frozen? ⟨w.heap.size + 1 + 1, 0, none⟩ = false := by rw [h2 _ _ (by simp <;> omega)]; simp [go_sem]
    have f1 : w1.frozen? ⟨w.heap.size + 1 + 1, 1, none⟩ = false := by rw [h2 _ _ (by simp <;> omega)]; simp [go_sem]
    have b1 : Below w.heap.size w w1 := ((((Below.refl _ _).alloc (Nat.le_refl _) _).alloc (by simp) _).alloc (by simp; omega) _).trans (hb1.mono (by simp; omega))
    have k0 : w1.cell? ⟨w.heap.size, 0, none⟩ = some (.int .i64 a) := by rw [h1 _ _ (by simp <;> omega)]; simp [go_sem]
    have k1 : w1.cell? ⟨w.heap.size, 1, none⟩ = some (.int .i64 b) := by rw [h1 _ _ (by simp <;> omega)]; simp [go_sem]
    have k2 : w1.cell? ⟨w.heap.size + 1, 0, none⟩ = some (.int .i64 c) := by rw [h1 _ _ (by simp <;> omega)]; simp [go_sem]
    have k3 : w1.cell? ⟨w.heap.size + 1, 1, none⟩ = some (.int .i64 d) := by rw [h1 _ _ (by simp <;> omega)]; simp [go_sem]
    clear h1 h2
    go_wp2_with fail
    rw [W1, W2]
    refine (HM.out _).mono ?_
    rintro e w2 ⟨rfl, hb2⟩
    have s1 : w.heap.size + 1 + 1 < w1.heap.size := by have := hb1.size; simp at this; omega
    have b2 : Below w.heap.size w w2 := b1.trans (hb2.mono b1.size)
    have s2 : w.heap.size + 1 + 1 < w2.heap.size := by have := hb2.size; omega
    have y0 : w2.cell? ⟨w.heap.size + 1 + 1, 0, none⟩ = some (.int .i64 0) := by rw [hb2.cell (by simp; omega)]; exact z0
    have y1 : w2.cell? ⟨w.heap.size + 1 + 1, 1, none⟩ = some (.int .i64 0) := by rw [hb2.cell (by simp; omega)]; exact z1
    have g0 : w2.frozen? ⟨w.heap.size + 1 + 1, 0, none⟩ = false := by rw [hb2.frozen (by simp; omega)]; exact f0
    have g1 : w2.frozen? ⟨w.heap.size + 1 + 1, 1, none⟩ = false := by rw [hb2.frozen (by simp; omega)]; exact f1
    clear k0 k1 k2 k3 z0 z1 f0 f1 W1 W2
    go_wp2_with fail
    refine bodyPost_ret (v := .tuple #[.agg #[.int .i64 (mkN (a * d - c * b) (b * d)), .int .i64 (mkD (a * d - c * b) (b * d))], .int .i64 (mkE (a * d - c * b) (b * d))]) (by simp [results, Tryd.results13, go_sem, y0, y1, s2]) rfl ⟨rfl, ?_⟩
    exact ((b2.setCell (by simp; omega) _).setCell (by simp; omega) _).alloc (by simp; omega) _

set_option maxRecDepth 100000 in
set_option maxHeartbeats 800000 in
theorem refmul_any (a b c d : Int) (w : World) (ha : I64 a) (hb : I64 b) (hc : I64 c) (hd : I64 d) :
    Calls Tryd.prog 15 #[.agg #[.int .i64 a, .int .i64 b], .agg #[.int .i64 c, .int .i64 d]] w
      fun e w' => e = .returned (.tuple #[.agg #[.int .i64 (opN (vld a b && vld c d) (a * c) (b * d)), .int .i64 (opD (vld a b && vld c d) (a * c) (b * d))], .int .i64 (opE (vld a b && vld c d) (a * c) (b * d))]) ∧ Below w.heap.size w w' := by
  have HB := fun w => refboth_any a b c d w ha hb hc hd
  cases hv : (vld a b && vld c d) with
  | false =>
    rw [show opN false (a * c) (b * d) = 0 by rfl, show opD false (a * c) (b * d) = 0 by rfl, show opE false (a * c) (b * d) = 1 by rfl]
    rw [hv] at HB
    have H := Lib.hid HB; clear HB hv
    go_enter Tryd.func15, Tryd.ntmps15
    go_wp2_with fail
    refine (H.out _).mono ?_
    rintro e w1 ⟨rfl, hb1⟩
    obtain ⟨h1, h2⟩ := bcell hb1
    have z0 : w1.cell? ⟨w.heap.size + 1 + 1, 0, none⟩ = some (.int .i64 0) := by rw [h1 _ _ (by simp <;> omega)]; simp [go_sem]
    have z1 : w1.cell? ⟨w.heap.size + 1 + 1, 1, none⟩ = some (.int .i64 0) := by rw [h1 _ _ (by simp <;> omega)]; simp [go_sem]
    have f0 : w1.frozen? ⟨w.heap.size + 1 + 1, 0, none⟩ = false := by rw [h2 _ _ (by simp <;> omega)]; simp [go_sem]
    have f1 : w1.frozen? ⟨w.heap.size + 1 + 1, 1, none⟩ = false := by rw [h2 _ _ (by simp <;> omega)]; simp [go_sem]
    have b1 : Below w.heap.size w w1 := ((((Below.refl _ _).alloc (Nat.le_refl _) _).alloc (by simp) _).alloc (by simp; omega) _).trans (hb1.mono (by simp; omega))
    go_wp2
    refine bodyPost_ret (v := .tuple #[.agg #[.int .i64 0, .int .i64 0], .int .i64 1]) (by simp [results, Tryd.results15, go_sem, z0, z1]) rfl ⟨rfl, ?_⟩
    exact (b1.setCell (by simp; omega) _).setCell (by simp; omega) _
  | true =>
    rw [show opN true (a * c) (b * d) = mkN (a * c) (b * d) by rfl, show opD true (a * c) (b * d) = mkD (a * c) (b * d) by rfl, show opE true (a * c) (b * d) = mkE (a * c) (b * d) by rfl]
    have hvv := hv
    rw [Bool.and_eq_true] at hvv
    obtain ⟨pa, pb⟩ := vld_bd hvv.1
    obtain ⟨pc, pd⟩ := vld_bd hvv.2
    have W1 : wrap64 (a * c) = a * c := mul_wrap pa pc
    have W2 : wrap64 (b * d) = b * d := mul_wrap pb pd
    have L1 := mul_bd pa pc
    have L2 := mul_bd pb pd
    have HM := Lib.hid (fun w => refmake_any (a * c) (b * d) w (by unfold I64; omega) (by unfold I64; omega))
    rw [hv] at HB
    have H := Lib.hid HB; clear HB hv hvv L1 L2
    go_enter Tryd.func15, Tryd.ntmps15
    go_wp2_with fail
    refine (H.out _).mono ?_
    rintro e w1 ⟨rfl, hb1⟩
    obtain ⟨h1, h2⟩ := bcell hb1
    have z0 : w1.cell? ⟨w.heap.size + 1 + 1, 0, none⟩ = some (.int .i64 0) := by rw [h1 _ _ (by simp <;> omega)]; simp [go_sem]
    have z1 : w1.cell? ⟨w.heap.size + 1 + 1, 1, none⟩ = some (.int .i64 0) := by rw [h1 _ _ (by simp <;> omega)]; simp [go_sem]
    have f0 : w1.frozen? ⟨w.heap.size + 1 + 1, 0, none⟩ = false := by rw [h2 _ _ (by simp <;> omega)]; simp [go_sem]
    have f1 : w1.frozen? ⟨w.heap.size + 1 + 1, 1, none⟩ = false := by rw [h2 _ _ (by simp <;> omega)]; simp [go_sem]
    have b1 : Below w.heap.size w w1 := ((((Below.refl _ _).alloc (Nat.le_refl _) _).alloc (by simp) _).alloc (by simp; omega) _).trans (hb1.mono (by simp; omega))
    have k0 : w1.cell? ⟨w.heap.size, 0, none⟩ = some (.int .i64 a) := by rw [h1 _ _ (by simp <;> omega)]; simp [go_sem]
    have k1 : w1.cell? ⟨w.heap.size, 1, none⟩ = some (.int .i64 b) := by rw [h1 _ _ (by simp <;> omega)]; simp [go_sem]
    have k2 : w1.cell? ⟨w.heap.size + 1, 0, none⟩ = some (.int .i64 c) := by rw [h1 _ _ (by simp <;> omega)]; simp [go_sem]
    have k3 : w1.cell? ⟨w.heap.size + 1, 1, none⟩ = some (.int .i64 d) := by rw [h1 _ _ (by simp <;> omega)]; simp [go_sem]
    clear h1 h2
    go_wp2_with fail
    rw [W1, W2]
    refine (HM.out _).mono ?_
    rintro e w2 ⟨rfl, hb2⟩
    have s1 : w.heap.size + 1 + 1 < w1.heap.size := by have := hb1.size; simp at this; omega
    have b2 : Below w.heap.size w w2 := b1.trans (hb2.mono b1.size)
    have s2 : w.heap.size + 1 + 1 < w2.heap.size := by have := hb2.size; omega
    have y0 : w2.cell? ⟨w.heap.size + 1 + 1, 0, none⟩ = some (.int .i64 0) := by rw [hb2.cell (by simp; omega)]; exact z0
    have y1 : w2.cell? ⟨w.heap.size + 1 + 1, 1, none⟩ = some (.int .i64 0) := by rw [hb2.cell (by simp; omega)]; exact z1
    have g0 : w2.frozen? ⟨w.heap.size + 1 + 1, 0, none⟩ = false := by rw [hb2.frozen (by simp; omega)]; exact f0
    have g1 : w2.frozen? ⟨w.heap.size + 1 + 1, 1, none⟩ = false := by rw [hb2.frozen (by simp; omega)]; exact f1
    clear k0 k1 k2 k3 z0 z1 f0 f1 W1 W2
    go_wp2_with fail
    refine bodyPost_ret (v := .tuple #[.agg #[.int .i64 (mkN (a * c) (b * d)), .int .i64 (mkD (a * c) (b * d))], .int .i64 (mkE (a * c) (b * d))]) (by simp [results, Tryd.results15, go_sem, y0, y1, s2]) rfl ⟨rfl, ?_⟩
    exact ((b2.setCell (by simp; omega) _).setCell (by simp; omega) _).alloc (by simp; omega) _

set_option maxRecDepth 100000 in
set_option maxHeartbeats 800000 in
theorem refdiv_any (a b c d : Int) (w : World) (ha : I64 a) (hb : I64 b) (hc : I64 c) (hd : I64 d) :
    Calls Tryd.prog 17 #[.agg #[.int .i64 a, .int .i64 b], .agg #[.int .i64 c, .int .i64 d]] w
      fun e w' => e = .returned (.tuple #[.agg #[.int .i64 (opN (vld a b && vld c d) (a * d) (b * c)), .int .i64 (opD (vld a b && vld c d) (a * d) (b * c))], .int .i64 (opE (vld a b && vld c d) (a * d) (b * c))]) ∧ Below w.heap.size w w' := by
  have HB := fun w => refboth_any a b c d w ha hb hc hd
  cases hv : (vld a b && vld c d) with
  | false =>
    rw [show opN false (a * d) (b * c) = 0 by rfl, show opD false (a * d) (b * c) = 0 by rfl, show opE false (a * d) (b * c) = 1 by rfl]
    rw [hv] at HB
    have H := Lib.hid HB; clear HB hv
    go_enter Tryd.func17, Tryd.ntmps17
    go_wp2_with fail
    refine (H.out _).mono ?_
    rintro e w1 ⟨rfl, hb1⟩
    obtain ⟨h1, h2⟩ := bcell hb1
    have z0 : w1.cell? ⟨w.heap.size + 1 + 1, 0, none⟩ = some (.int .i64 0) := by rw [h1 _ _ (by simp <;> omega)]; simp [go_sem]
    have z1 : w1.cell? ⟨w.heap.size + 1 + 1, 1, none⟩ = some (.int .i64 0) := by rw [h1 _ _ (by simp <;> omega)]; simp [go_sem]
    have f0 : w1.frozen? ⟨w.heap.size + 1 + 1, 0, none⟩ = false := by rw [h2 _ _ (by simp <;> omega)]; simp [go_sem]
    have f1 : w1.frozen? ⟨w.heap.size + 1 + 1, 1, none⟩ = false := by rw [h2 _ _ (by simp <;> omega)]; simp [go_sem]
    have b1 : Below w.heap.size w w1 := ((((Below.refl _ _).alloc (Nat.le_refl _) _).alloc (by simp) _).alloc (by simp; omega) _).trans (hb1.mono (by simp; omega))
    go_wp2
    refine bodyPost_ret (v := .tuple #[.agg #[.int .i64 0, .int .i64 0], .int .i64 1]) (by simp [results, Tryd.results17, go_sem, z0, z1]) rfl ⟨rfl, ?_⟩
    exact (b1.setCell (by simp; omega) _).setCell (by simp; omega) _
  | true =>
    rw [show opN true (a * d) (b * c) = mkN (a * d) (b * c) by rfl, show opD true (a * d) (b * c) = mkD (a * d) (b * c) by rfl, show opE true (a * d) (b * c) = mkE (a * d) (b * c) by rfl]
    have hvv := hv
    rw [Bool.and_eq_true] at hvv
    obtain ⟨pa, pb⟩ := vld_bd hvv.1
    obtain ⟨pc, pd⟩ := vld_bd hvv.2
    have W1 : wrap64 (a * d) = a * d := mul_wrap pa pd
    have W2 : wrap64 (b * c) = b * c := mul_wrap pb pc
    have L1 := mul_bd pa pd
    have L2 := mul_bd pb pc
    have HM := Lib.hid (fun w => refmake_any (a * d) (b * c) w (by unfold I64; omega) (by unfold I64; omega))
    rw [hv] at HB
    have H := Lib.hid HB; clear HB hv hvv L1 L2
    go_enter Tryd.func17, Tryd.ntmps17
    go_wp2_with fail
    refine (H.out _).mono ?_
    rintro e w1 ⟨rfl, hb1⟩
    obtain ⟨h1, h2⟩ := bcell hb1
    have z0 : w1.cell? ⟨w.heap.size + 1 + 1, 0, none⟩ = some (.int .i64 0) := by rw [h1 _ _ (by simp <;> omega)]; simp [go_sem]
    have z1 : w1.cell? ⟨w.heap.size + 1 + 1, 1, none⟩ = some (.int .i64 0) := by rw [h1 _ _ (by simp <;> omega)]; simp [go_sem]
    have f0 : w1.frozen? ⟨w.heap.size + 1 + 1, 0, none⟩ = false := by rw [h2 _ _ (by simp <;> omega)]; simp [go_sem]
    have f1 : w1.frozen? ⟨w.heap.size + 1 + 1, 1, none⟩ = false := by rw [h2 _ _ (by simp <;> omega)]; simp [go_sem]
    have b1 : Below w.heap.size w w1 := ((((Below.refl _ _).alloc (Nat.le_refl _) _).alloc (by simp) _).alloc (by simp; omega) _).trans (hb1.mono (by simp; omega))
    have k0 : w1.cell? ⟨w.heap.size, 0, none⟩ = some (.int .i64 a) := by rw [h1 _ _ (by simp <;> omega)]; simp [go_sem]
    have k1 : w1.cell? ⟨w.heap.size, 1, none⟩ = some (.int .i64 b) := by rw [h1 _ _ (by simp <;> omega)]; simp [go_sem]
    have k2 : w1.cell? ⟨w.heap.size + 1, 0, none⟩ = some (.int .i64 c) := by rw [h1 _ _ (by simp <;> omega)]; simp [go_sem]
    have k3 : w1.cell? ⟨w.heap.size + 1, 1, none⟩ = some (.int .i64 d) := by rw [h1 _ _ (by simp <;> omega)]; simp [go_sem]
    clear h1 h2
    go_wp2_with fail
    rw [W1, W2]
    refine (HM.out _).mono ?_
    rintro e w2 ⟨rfl, hb2⟩
    have s1 : w.heap.size + 1 + 1 < w1.heap.size := by have := hb1.size; simp at this; omega
    have b2 : Below w.heap.size w w2 := b1.trans (hb2.mono b1.size)
    have s2 : w.heap.size + 1 + 1 < w2.heap.size := by have := hb2.size; omega
    have y0 : w2.cell? ⟨w.heap.size + 1 + 1, 0, none⟩ = some (.int .i64 0) := by rw [hb2.cell (by simp; omega)]; exact z0
    have y1 : w2.cell? ⟨w.heap.size + 1 + 1, 1, none⟩ = some (.int .i64 0) := by rw [hb2.cell (by simp; omega)]; exact z1
    have g0 : w2.frozen? ⟨w.heap.size + 1 + 1, 0, none⟩ = false := by rw [hb2.frozen (by simp; omega)]; exact f0
    have g1 : w2.frozen? ⟨w.heap.size + 1 + 1, 1, none⟩ = false := by rw [hb2.frozen (by simp; omega)]; exact f1
    clear k0 k1 k2 k3 z0 z1 f0 f1 W1 W2
    go_wp2_with fail
    refine bodyPost_ret (v := .tuple #[.agg #[.int .i64 (mkN (a * d) (b * c)), .int .i64 (mkD (a * d) (b * c))], .int .i64 (mkE (a * d) (b * c))]) (by simp [results, Tryd.results17, go_sem, y0, y1, s2]) rfl ⟨rfl, ?_⟩
    exact ((b2.setCell (by simp; omega) _).setCell (by simp; omega) _).alloc (by simp; omega) _
end Go.Proofs.YtpmlfchbihoflaaDoor
