/-
  Package rational: Add, Sub, Mul and Div return the reduced result, or ErrArg, ErrZero, ErrRange, for any two pairs of ints.
-/
import Derived.Test.YtpmlfchbihoflaaDoorRatG
namespace Go.Proofs.YtpmlfchbihoflaaDoor
open Go.RowKit

def pr (x y : Int) (i : Nat) : Int := if i = 0 then x else y
theorem pr_i {x y : Int} (hx : I64 x) (hy : I64 y) (i : Nat) : I64 (pr x y i) := by unfold pr; split <;> assumption
theorem pr_cells {w : World} {b : Nat} {a1 b1 c1 d1 : Int} (h0 : w.cell? ⟨b, 0, none⟩ = some (.int .i64 a1)) (h1 : w.cell? ⟨b, 1, none⟩ = some (.int .i64 b1)) (h2 : w.cell? ⟨b, 2, none⟩ = some (.int .i64 c1)) (h3 : w.cell? ⟨b, 3, none⟩ = some (.int .i64 d1)) :
    ∀ i, i < 2 → w.cell? ⟨b, i * 2, none⟩ = some (.int .i64 (pr a1 c1 i)) ∧ w.cell? ⟨b, i * 2 + 1, none⟩ = some (.int .i64 (pr b1 d1 i)) := by
  intro i hi
  obtain rfl | rfl : i = 0 ∨ i = 1 := by omega
  · exact ⟨h0, h1⟩
  · exact ⟨h2, h3⟩
theorem pr_ok {a1 b1 c1 d1 : Int} (h : (vld a1 b1 && vld c1 d1) = true) : ∀ i, i < 2 → vld (pr a1 c1 i) (pr b1 d1 i) = true := by
  intro i hi
  rw [Bool.and_eq_true] at h
  obtain rfl | rfl : i = 0 ∨ i = 1 := by omega
  · exact h.1
  · exact h.2

/-- requireValid of two pairs. -/
theorem require2_ok (b : Nat) (a1 b1 c1 d1 : Int) (w : World) (ha : I64 a1) (hb : I64 b1) (hc : I64 c1) (hd : I64 d1)
    (h0 : w.cell? ⟨b, 0, none⟩ = some (.int .i64 a1)) (h1 : w.cell? ⟨b, 1, none⟩ = some (.int .i64 b1)) (h2 : w.cell? ⟨b, 2, none⟩ = some (.int .i64 c1)) (h3 : w.cell? ⟨b, 3, none⟩ = some (.int .i64 d1)) (hv : (vld a1 b1 && vld c1 d1) = true) :
    Calls Tryd.prog 41 #[.slice (some ⟨b, 0, none⟩) 2 2] w fun e w' => e = .returned (.tuple #[]) ∧ Below w.heap.size w w' :=
  require_ok b 2 (pr a1 c1) (pr b1 d1) w (by omega) (pr_i ha hc) (pr_i hb hd) (block_lt h0) (pr_cells h0 h1 h2 h3) (pr_ok hv)
theorem require2_err (b : Nat) (a1 b1 c1 d1 : Int) (w : World) (ha : I64 a1) (hb : I64 b1) (hc : I64 c1) (hd : I64 d1)
    (h0 : w.cell? ⟨b, 0, none⟩ = some (.int .i64 a1)) (h1 : w.cell? ⟨b, 1, none⟩ = some (.int .i64 b1)) (h2 : w.cell? ⟨b, 2, none⟩ = some (.int .i64 c1)) (h3 : w.cell? ⟨b, 3, none⟩ = some (.int .i64 d1)) (hv : (vld a1 b1 && vld c1 d1) = false) :
    Calls Tryd.prog 41 #[.slice (some ⟨b, 0, none⟩) 2 2] w fun e w' => e = raise 1 ∧ Below w.heap.size w w' := by
  cases hv1 : vld a1 b1 with
  | false => exact require_err b 2 (pr a1 c1) (pr b1 d1) w (by omega) (pr_i ha hc) (pr_i hb hd) (block_lt h0) (pr_cells h0 h1 h2 h3) 0 (by omega) (fun i hi => by omega) hv1
  | true =>
    rw [hv1, Bool.true_and] at hv
    refine require_err b 2 (pr a1 c1) (pr b1 d1) w (by omega) (pr_i ha hc) (pr_i hb hd) (block_lt h0) (pr_cells h0 h1 h2 h3) 1 (by omega) (fun i hi => ?_) hv
    obtain rfl : i = 0 := by omega
    exact hv1
/-- requireValid of one pair. -/
theorem require1_ok (b : Nat) (a1 b1 : Int) (w : World) (ha : I64 a1) (hb : I64 b1)
    (h0 : w.cell? ⟨b, 0, none⟩ = some (.int .i64 a1)) (h1 : w.cell? ⟨b, 1, none⟩ = some (.int .i64 b1)) (hv : vld a1 b1 = true) :
    Calls Tryd.prog 41 #[.slice (some ⟨b, 0, none⟩) 1 1] w fun e w' => e = .returned (.tuple #[]) ∧ Below w.heap.size w w' :=
  require_ok b 1 (fun _ => a1) (fun _ => b1) w (by omega) (fun _ => ha) (fun _ => hb) (block_lt h0) (fun i hi => by obtain rfl : i = 0 := by omega
                                                                                                                    exact ⟨h0, h1⟩) (fun _ _ => hv)
theorem require1_err (b : Nat) (a1 b1 : Int) (w : World) (ha : I64 a1) (hb : I64 b1)
    (h0 : w.cell? ⟨b, 0, none⟩ = some (.int .i64 a1)) (h1 : w.cell? ⟨b, 1, none⟩ = some (.int .i64 b1)) (hv : vld a1 b1 = false) :
    Calls Tryd.prog 41 #[.slice (some ⟨b, 0, none⟩) 1 1] w fun e w' => e = raise 1 ∧ Below w.heap.size w w' :=
  require_err b 1 (fun _ => a1) (fun _ => b1) w (by omega) (fun _ => ha) (fun _ => hb) (block_lt h0) (fun i hi => by obtain rfl : i = 0 := by omega
                                                                                                                     exact ⟨h0, h1⟩) 0 (by omega) (fun i hi => by omega) hv

set_option maxRecDepth 100000 in
set_option maxHeartbeats 400000 in
theorem combineW_arg (K : FuncId) (x0 x1 x2 : Nat) (a b c d : Int) (w : World) (ha : I64 a) (hb : I64 b) (hc : I64 c) (hd : I64 d)
    (g0 : w.cell? ⟨x0, 0, none⟩ = some (.int .i64 a)) (g1 : w.cell? ⟨x0, 1, none⟩ = some (.int .i64 b)) (g2 : w.cell? ⟨x1, 0, none⟩ = some (.int .i64 c)) (g3 : w.cell? ⟨x1, 1, none⟩ = some (.int .i64 d)) (g4 : w.cell? ⟨x2, 0, none⟩ = some (.func (.func K) #[] #[])) (hv : (vld a b && vld c d) = false) :
    Calls Tryd.prog 53 #[.pointer (some ⟨x0, 0, none⟩), .pointer (some ⟨x1, 0, none⟩), .pointer (some ⟨x2, 0, none⟩)] w fun e w' => e = raise 1 ∧ Below w.heap.size w w' := by
  have l0 := block_lt g0
  have l1 := block_lt g2
  have l2 := block_lt g4
  have HV := Lib.hid hv; clear hv
  go_enter Tryd.func53, Tryd.ntmps53
  go_wp2_with fail
  refine (require2_err _ a b c d _ ha hb hc hd (by simp [go_sem]) (by simp [go_sem]) (by simp [go_sem]) (by simp [go_sem]) HV.out).mono ?_
  rintro e w1 ⟨rfl, hb1⟩
  go_wp2_with fail
  exact ⟨rfl, rfl, (((Below.refl _ _).alloc (Nat.le_refl _) _).alloc (by simp) _).trans (hb1.mono (by simp; omega))⟩

set_option maxRecDepth 100000 in
set_option maxHeartbeats 400000 in
theorem combineW_err (K : FuncId) (x0 x1 x2 : Nat) (a b c d : Int) (w : World) (ha : I64 a) (hb : I64 b) (hc : I64 c) (hd : I64 d)
    (g0 : w.cell? ⟨x0, 0, none⟩ = some (.int .i64 a)) (g1 : w.cell? ⟨x0, 1, none⟩ = some (.int .i64 b)) (g2 : w.cell? ⟨x1, 0, none⟩ = some (.int .i64 c)) (g3 : w.cell? ⟨x1, 1, none⟩ = some (.int .i64 d)) (g4 : w.cell? ⟨x2, 0, none⟩ = some (.func (.func K) #[] #[])) (hv : (vld a b && vld c d) = true) (p q : Int) (hp : I64 p) (hq : I64 q) (hK : ∀ W args, (callFunc K args).run Tryd.prog W = .ok (.enter K args) W)
    (hop : ∀ W, Calls Tryd.prog K #[.agg #[.int .i64 a, .int .i64 b], .agg #[.int .i64 c, .int .i64 d]] W fun e W' => e = .returned (.tuple #[.int .i64 p, .int .i64 q]) ∧ Below W.heap.size W W') (he : mkE p q ≠ 0) :
    Calls Tryd.prog 53 #[.pointer (some ⟨x0, 0, none⟩), .pointer (some ⟨x1, 0, none⟩), .pointer (some ⟨x2, 0, none⟩)] w fun e w' => e = raise (mkE p q) ∧ Below w.heap.size w w' := by
  have l0 := block_lt g0
  have l1 := block_lt g2
  have l2 := block_lt g4
  have HV := Lib.hid hv; clear hv
  have HO := Lib.hid hop; clear hop
  have HE := Lib.hid he; clear he
  go_enter Tryd.func53, Tryd.ntmps53
  go_wp2_with fail
  refine (require2_ok _ a b c d _ ha hb hc hd (by simp [go_sem]) (by simp [go_sem]) (by simp [go_sem]) (by simp [go_sem]) HV.out).mono ?_
  rintro e w1 ⟨rfl, hb1⟩
  obtain ⟨h1, h2⟩ := bcell hb1
  have k0 : w1.cell? ⟨x0, 0, none⟩ = some (.int .i64 a) := by rw [h1 _ _ (by simp; omega)]; simp [go_sem, l0, g0]
  have k1 : w1.cell? ⟨x0, 1, none⟩ = some (.int .i64 b) := by rw [h1 _ _ (by simp; omega)]; simp [go_sem, l0, g1]
  have k2 : w1.cell? ⟨x1, 0, none⟩ = some (.int .i64 c) := by rw [h1 _ _ (by simp; omega)]; simp [go_sem, l1, g2]
  have k3 : w1.cell? ⟨x1, 1, none⟩ = some (.int .i64 d) := by rw [h1 _ _ (by simp; omega)]; simp [go_sem, l1, g3]
  have k4 : w1.cell? ⟨x2, 0, none⟩ = some (.func (.func K) #[] #[]) := by rw [h1 _ _ (by simp; omega)]; simp [go_sem, l2, g4]
  have z0 : w1.cell? ⟨w.heap.size, 0, none⟩ = some (.int .i64 0) := by rw [h1 _ _ (by simp <;> omega)]; simp [go_sem]
  have z1 : w1.cell? ⟨w.heap.size, 1, none⟩ = some (.int .i64 0) := by rw [h1 _ _ (by simp <;> omega)]; simp [go_sem]
  have f0 : w1.frozen? ⟨w.heap.size, 0, none⟩ = false := by rw [h2 _ _ (by simp <;> omega)]; simp [go_sem]
  have f1 : w1.frozen? ⟨w.heap.size, 1, none⟩ = false := by rw [h2 _ _ (by simp <;> omega)]; simp [go_sem]
  have s1 : w.heap.size + 1 < w1.heap.size := by have := hb1.size; simp at this; omega
  clear h1 h2 g0 g1 g2 g3 g4
  go_wp2_with fail
  refine (HO.out _).mono ?_
  rintro e w2 ⟨rfl, hb2⟩
  go_wp2_with fail
  refine (reduce_err p q _ hp.1 hp.2 hq.1 hq.2 HE.out).mono ?_
  rintro e w3 ⟨rfl, hb3⟩
  clear z0 z1 f0 f1 k0 k1 k2 k3 k4
  go_wp2_with fail
  exact ⟨rfl, rfl, (((((Below.refl _ _).alloc (Nat.le_refl _) _).alloc (by simp) _).trans (hb1.mono (by simp; omega))).trans (hb2.mono (by omega))).trans (hb3.mono (by have := hb2.size; omega))⟩

set_option maxRecDepth 100000 in
set_option maxHeartbeats 400000 in
theorem combineW_ok (K : FuncId) (x0 x1 x2 : Nat) (a b c d : Int) (w : World) (ha : I64 a) (hb : I64 b) (hc : I64 c) (hd : I64 d)
    (g0 : w.cell? ⟨x0, 0, none⟩ = some (.int .i64 a)) (g1 : w.cell? ⟨x0, 1, none⟩ = some (.int .i64 b)) (g2 : w.cell? ⟨x1, 0, none⟩ = some (.int .i64 c)) (g3 : w.cell? ⟨x1, 1, none⟩ = some (.int .i64 d)) (g4 : w.cell? ⟨x2, 0, none⟩ = some (.func (.func K) #[] #[])) (hv : (vld a b && vld c d) = true) (p q : Int) (hp : I64 p) (hq : I64 q) (hK : ∀ W args, (callFunc K args).run Tryd.prog W = .ok (.enter K args) W)
    (hop : ∀ W, Calls Tryd.prog K #[.agg #[.int .i64 a, .int .i64 b], .agg #[.int .i64 c, .int .i64 d]] W fun e W' => e = .returned (.tuple #[.int .i64 p, .int .i64 q]) ∧ Below W.heap.size W W') (he : mkE p q = 0) :
    Calls Tryd.prog 53 #[.pointer (some ⟨x0, 0, none⟩), .pointer (some ⟨x1, 0, none⟩), .pointer (some ⟨x2, 0, none⟩)] w fun e w' => e = .returned (.agg #[.int .i64 (mkN p q), .int .i64 (mkD p q)]) ∧ Below w.heap.size w w' := by
  have l0 := block_lt g0
  have l1 := block_lt g2
  have l2 := block_lt g4
  have HV := Lib.hid hv; clear hv
  have HO := Lib.hid hop; clear hop
  have HE := Lib.hid he; clear he
  go_enter Tryd.func53, Tryd.ntmps53
  go_wp2_with fail
  refine (require2_ok _ a b c d _ ha hb hc hd (by simp [go_sem]) (by simp [go_sem]) (by simp [go_sem]) (by simp [go_sem]) HV.out).mono ?_
  rintro e w1 ⟨rfl, hb1⟩
  obtain ⟨h1, h2⟩ := bcell hb1
  have k0 : w1.cell? ⟨x0, 0, none⟩ = some (.int .i64 a) := by rw [h1 _ _ (by simp; omega)]; simp [go_sem, l0, g0]
  have k1 : w1.cell? ⟨x0, 1, none⟩ = some (.int .i64 b) := by rw [h1 _ _ (by simp; omega)]; simp [go_sem, l0, g1]
  have k2 : w1.cell? ⟨x1, 0, none⟩ = some (.int .i64 c) := by rw [h1 _ _ (by simp; omega)]; simp [go_sem, l1, g2]
  have k3 : w1.cell? ⟨x1, 1, none⟩ = some (.int .i64 d) := by rw [h1 _ _ (by simp; omega)]; simp [go_sem, l1, g3]
  have k4 : w1.cell? ⟨x2, 0, none⟩ = some (.func (.func K) #[] #[]) := by rw [h1 _ _ (by simp; omega)]; simp [go_sem, l2, g4]
  have z0 : w1.cell? ⟨w.heap.size, 0, none⟩ = some (.int .i64 0) := by rw [h1 _ _ (by simp <;> omega)]; simp [go_sem]
  have z1 : w1.cell? ⟨w.heap.size, 1, none⟩ = some (.int .i64 0) := by rw [h1 _ _ (by simp <;> omega)]; simp [go_sem]
  have f0 : w1.frozen? ⟨w.heap.size, 0, none⟩ = false := by rw [h2 _ _ (by simp <;> omega)]; simp [go_sem]
  have f1 : w1.frozen? ⟨w.heap.size, 1, none⟩ = false := by rw [h2 _ _ (by simp <;> omega)]; simp [go_sem]
  have s1 : w.heap.size + 1 < w1.heap.size := by have := hb1.size; simp at this; omega
  clear h1 h2 g0 g1 g2 g3 g4
  go_wp2_with fail
  refine (HO.out _).mono ?_
  rintro e w2 ⟨rfl, hb2⟩
  go_wp2_with fail
  refine (reduce_ok p q _ hp.1 hp.2 hq.1 hq.2 HE.out).mono ?_
  rintro e w3 ⟨rfl, hb3⟩
  have y0 : w3.cell? ⟨w.heap.size, 0, none⟩ = some (.int .i64 0) := by rw [hb3.cell (by have := hb2.size; simp; omega), hb2.cell (by simp; omega)]; exact z0
  have y1 : w3.cell? ⟨w.heap.size, 1, none⟩ = some (.int .i64 0) := by rw [hb3.cell (by have := hb2.size; simp; omega), hb2.cell (by simp; omega)]; exact z1
  have e0 : w3.frozen? ⟨w.heap.size, 0, none⟩ = false := by rw [hb3.frozen (by have := hb2.size; simp; omega), hb2.frozen (by simp; omega)]; exact f0
  have e1 : w3.frozen? ⟨w.heap.size, 1, none⟩ = false := by rw [hb3.frozen (by have := hb2.size; simp; omega), hb2.frozen (by simp; omega)]; exact f1
  clear z0 z1 f0 f1 k0 k1 k2 k3 k4
  go_wp2_with fail
  refine bodyPost_ret (v := .agg #[.int .i64 (mkN p q), .int .i64 (mkD p q)]) (by simp [results, Tryd.results53, go_sem, y0, y1]) rfl ⟨rfl, ?_⟩
  exact (((((((Below.refl _ _).alloc (Nat.le_refl _) _).alloc (by simp) _).trans (hb1.mono (by simp; omega))).trans (hb2.mono (by omega))).trans (hb3.mono (by have := hb2.size; omega))).setCell (by simp) _).setCell (by simp) _


end Go.Proofs.YtpmlfchbihoflaaDoor
