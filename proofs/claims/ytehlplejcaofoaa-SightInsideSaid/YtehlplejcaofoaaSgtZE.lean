/-
  Out of the texts of layer 1: package rational's Add, the reference's Valid and Make. Package sight: Lines at one target; the sum of the parts there and back.
-/
import Derived.Test.YtehlplejcaofoaaSgtZD
namespace Go.Proofs.Ytehlplejcaofoaa
open Go.RowKit Go.Sort
open Go.RowKit (Below)
set_option linter.unusedVariables false
set_option linter.unusedSimpArgs false

theorem add_wrap {x y z u : Int} (hx : Bd x) (hy : Bd y) (hz : Bd z) (hu : Bd u) : wrap64 (wrap64 (x * y) + wrap64 (z * u)) = x * y + z * u := by
  rw [mul_wrap hx hy, mul_wrap hz hu]
  have h := mul_bd hx hy
  have h' := mul_bd hz hu
  exact IntWalk.wrap64_in _ ⟨by omega, by omega⟩
theorem ret2_int {k l : IntKind} {a b c d : Int} (h : a = b) (h' : c = d) : Ending.returned (.tuple #[.int k a, .int l c]) = .returned (.tuple #[.int k b, .int l d]) := by rw [h, h']
set_option maxHeartbeats 400000 in
theorem plus_any (a b c d : Int) (w : World) (ha : Bd a) (hb : Bd b) (hc : Bd c) (hd : Bd d) :
    Calls Try.prog 78 #[.agg #[.int .i64 a, .int .i64 b], .agg #[.int .i64 c, .int .i64 d]] w fun e w' => e = .returned (.tuple #[.int .i64 (a * d + c * b), .int .i64 (b * d)]) ∧ Below w.heap.size w w' := by
  go_enter Try.func78, Try.ntmps78
  go_wp2
  go_quiet (fail)
  go_wp2
  go_ret2
  exact ⟨ret2_int (add_wrap ha hd hc hb) (mul_wrap hb hd), below_drewN' (((Below.refl _ _).alloc (Nat.le_refl _) _).alloc (by simp) _) _⟩
set_option maxRecDepth 100000 in
set_option maxHeartbeats 400000 in
theorem combineW_arg (K : FuncId) (x0 x1 x2 : Nat) (a b c d : Int) (w : World) (ha : I64 a) (hb : I64 b) (hc : I64 c) (hd : I64 d)
    (g0 : w.cell? ⟨x0, 0, none⟩ = some (.int .i64 a)) (g1 : w.cell? ⟨x0, 1, none⟩ = some (.int .i64 b)) (g2 : w.cell? ⟨x1, 0, none⟩ = some (.int .i64 c)) (g3 : w.cell? ⟨x1, 1, none⟩ = some (.int .i64 d)) (g4 : w.cell? ⟨x2, 0, none⟩ = some (.func (.func K) #[] #[])) (hv : (vld a b && vld c d) = false) :
    Calls Try.prog 113 #[.pointer (some ⟨x0, 0, none⟩), .pointer (some ⟨x1, 0, none⟩), .pointer (some ⟨x2, 0, none⟩)] w fun e w' => e = raise 1 ∧ Below w.heap.size w w' := by
  have l0 := block_lt g0
  have l1 := block_lt g2
  have l2 := block_lt g4
  have HV := Lib.hid hv; clear hv
  go_enter Try.func113, Try.ntmps113
  go_wp2_with fail
  refine (require2_err _ a b c d _ ha hb hc hd (by simp [go_sem]) (by simp [go_sem]) (by simp [go_sem]) (by simp [go_sem]) HV.out).mono ?_
  rintro e w1 ⟨rfl, hb1⟩
  go_wp2_with fail
  exact ⟨rfl, rfl, (((Below.refl _ _).alloc (Nat.le_refl _) _).alloc (by simp) _).trans (hb1.mono (by simp; omega))⟩
set_option maxRecDepth 100000 in
set_option maxHeartbeats 400000 in
theorem combineW_err (K : FuncId) (x0 x1 x2 : Nat) (a b c d : Int) (w : World) (ha : I64 a) (hb : I64 b) (hc : I64 c) (hd : I64 d)
    (g0 : w.cell? ⟨x0, 0, none⟩ = some (.int .i64 a)) (g1 : w.cell? ⟨x0, 1, none⟩ = some (.int .i64 b)) (g2 : w.cell? ⟨x1, 0, none⟩ = some (.int .i64 c)) (g3 : w.cell? ⟨x1, 1, none⟩ = some (.int .i64 d)) (g4 : w.cell? ⟨x2, 0, none⟩ = some (.func (.func K) #[] #[])) (hv : (vld a b && vld c d) = true) (p q : Int) (hp : I64 p) (hq : I64 q) (hK : ∀ W args, (callFunc K args).run Try.prog W = .ok (.enter K args) W)
    (hop : ∀ W, Calls Try.prog K #[.agg #[.int .i64 a, .int .i64 b], .agg #[.int .i64 c, .int .i64 d]] W fun e W' => e = .returned (.tuple #[.int .i64 p, .int .i64 q]) ∧ Below W.heap.size W W') (he : mkE p q ≠ 0) :
    Calls Try.prog 113 #[.pointer (some ⟨x0, 0, none⟩), .pointer (some ⟨x1, 0, none⟩), .pointer (some ⟨x2, 0, none⟩)] w fun e w' => e = raise (mkE p q) ∧ Below w.heap.size w w' := by
  have l0 := block_lt g0
  have l1 := block_lt g2
  have l2 := block_lt g4
  have HV := Lib.hid hv; clear hv
  have HO := Lib.hid hop; clear hop
  have HE := Lib.hid he; clear he
  go_enter Try.func113, Try.ntmps113
  go_wp2_with fail
  refine (require2_ok _ a b c d _ ha hb hc hd (by simp [go_sem]) (by simp [go_sem]) (by simp [go_sem]) (by simp [go_sem]) HV.out).mono ?_
  rintro e w1 ⟨rfl, hb1⟩
  obtain ⟨h1, h2⟩ := bcell hb1
  have k0 : w1.cell? ⟨x0, 0, none⟩ = some (.int .i64 a) := by rw [h1 _ _ (by simp; omega)]; simp [go_sem, l0, g0]
  have k1 : w1.cell? ⟨x0, 1, none⟩ = some (.int .i64 b) := by rw [h1 _ _ (by simp; omega)]; simp [go_sem, l0, g1]
  have k2 : w1.cell? ⟨x1, 0, none⟩ = some (.int .i64 c) := by rw [h1 _ _ (by simp; omega)]; simp [go_sem, l1, g2]
  have k3 : w1.cell? ⟨x1, 1, none⟩ = some (.int .i64 d) := by rw [h1 _ _ (by simp; omega)]; simp [go_sem, l1, g3]
  have k4 : w1.cell? ⟨x2, 0, none⟩ = some (.func (.func K) #[] #[]) := by rw [h1 _ _ (by simp; omega)]; simp [go_sem, l2, g4]
  have z0 : w1.cell? ⟨w.heap.size, 0, none⟩ = some (.int .i64 0) := by rw [h1 _ _ (by simp <;> omega)]; simp [go_sem]
  have z1 : w1.cell? ⟨w.heap.size, 1, none⟩ = some (.int .i64 0) := by rw [h1 _ _ (by simp <;> omega)]; simp [go_sem]
  have f0 : w1.frozen? ⟨w.heap.size, 0, none⟩ = false := by rw [h2 _ _ (by simp <;> omega)]; simp [go_sem]
  have f1 : w1.frozen? ⟨w.heap.size, 1, none⟩ = false := by rw [h2 _ _ (by simp <;> omega)]; simp [go_sem]
  have s1 : w.heap.size + 1 < w1.heap.size := by have := hb1.size; simp at this; omega
  clear h1 h2 g0 g1 g2 g3 g4
  go_wp2_with fail
  refine (HO.out _).mono ?_
  rintro e w2 ⟨rfl, hb2⟩
  go_wp2_with fail
  refine (reduce_err p q _ hp.1 hp.2 hq.1 hq.2 HE.out).mono ?_
  rintro e w3 ⟨rfl, hb3⟩
  clear z0 z1 f0 f1 k0 k1 k2 k3 k4
  go_wp2_with fail
  exact ⟨rfl, rfl, (((((Below.refl _ _).alloc (Nat.le_refl _) _).alloc (by simp) _).trans (hb1.mono (by simp; omega))).trans (hb2.mono (by omega))).trans (hb3.mono (by have := hb2.size; omega))⟩
set_option maxRecDepth 100000 in
set_option maxHeartbeats 400000 in
theorem combineW_ok (K : FuncId) (x0 x1 x2 : Nat) (a b c d : Int) (w : World) (ha : I64 a) (hb : I64 b) (hc : I64 c) (hd : I64 d)
    (g0 : w.cell? ⟨x0, 0, none⟩ = some (.int .i64 a)) (g1 : w.cell? ⟨x0, 1, none⟩ = some (.int .i64 b)) (g2 : w.cell? ⟨x1, 0, none⟩ = some (.int .i64 c)) (g3 : w.cell? ⟨x1, 1, none⟩ = some (.int .i64 d)) (g4 : w.cell? ⟨x2, 0, none⟩ = some (.func (.func K) #[] #[])) (hv : (vld a b && vld c d) = true) (p q : Int) (hp : I64 p) (hq : I64 q) (hK : ∀ W args, (callFunc K args).run Try.prog W = .ok (.enter K args) W)
    (hop : ∀ W, Calls Try.prog K #[.agg #[.int .i64 a, .int .i64 b], .agg #[.int .i64 c, .int .i64 d]] W fun e W' => e = .returned (.tuple #[.int .i64 p, .int .i64 q]) ∧ Below W.heap.size W W') (he : mkE p q = 0) :
    Calls Try.prog 113 #[.pointer (some ⟨x0, 0, none⟩), .pointer (some ⟨x1, 0, none⟩), .pointer (some ⟨x2, 0, none⟩)] w fun e w' => e = .returned (.agg #[.int .i64 (mkN p q), .int .i64 (mkD p q)]) ∧ Below w.heap.size w w' := by
  have l0 := block_lt g0
  have l1 := block_lt g2
  have l2 := block_lt g4
  have HV := Lib.hid hv; clear hv
  have HO := Lib.hid hop; clear hop
  have HE := Lib.hid he; clear he
  go_enter Try.func113, Try.ntmps113
  go_wp2_with fail
  refine (require2_ok _ a b c d _ ha hb hc hd (by simp [go_sem]) (by simp [go_sem]) (by simp [go_sem]) (by simp [go_sem]) HV.out).mono ?_
  rintro e w1 ⟨rfl, hb1⟩
  obtain ⟨h1, h2⟩ := bcell hb1
  have k0 : w1.cell? ⟨x0, 0, none⟩ = some (.int .i64 a) := by rw [h1 _ _ (by simp; omega)]; simp [go_sem, l0, g0]
  have k1 : w1.cell? ⟨x0, 1, none⟩ = some (.int .i64 b) := by rw [h1 _ _ (by simp; omega)]; simp [go_sem, l0, g1]
  have k2 : w1.cell? ⟨x1, 0, none⟩ = some (.int .i64 c) := by rw [h1 _ _ (by simp; omega)]; simp [go_sem, l1, g2]
  have k3 : w1.cell? ⟨x1, 1, none⟩ = some (.int .i64 d) := by rw [h1 _ _ (by simp; omega)]; simp [go_sem, l1, g3]
  have k4 : w1.cell? ⟨x2, 0, none⟩ = some (.func (.func K) #[] #[]) := by rw [h1 _ _ (by simp; omega)]; simp [go_sem, l2, g4]
  have z0 : w1.cell? ⟨w.heap.size, 0, none⟩ = some (.int .i64 0) := by rw [h1 _ _ (by simp <;> omega)]; simp [go_sem]
  have z1 : w1.cell? ⟨w.heap.size, 1, none⟩ = some (.int .i64 0) := by rw [h1 _ _ (by simp <;> omega)]; simp [go_sem]
  have f0 : w1.frozen? ⟨w.heap.size, 0, none⟩ = false := by rw [h2 _ _ (by simp <;> omega)]; simp [go_sem]
  have f1 : w1.frozen? ⟨w.heap.size, 1, none⟩ = false := by rw [h2 _ _ (by simp <;> omega)]; simp [go_sem]
  have s1 : w.heap.size + 1 < w1.heap.size := by have := hb1.size; simp at this; omega
  clear h1 h2 g0 g1 g2 g3 g4
  go_wp2_with fail
  refine (HO.out _).mono ?_
  rintro e w2 ⟨rfl, hb2⟩
  go_wp2_with fail
  refine (reduce_ok p q _ hp.1 hp.2 hq.1 hq.2 HE.out).mono ?_
  rintro e w3 ⟨rfl, hb3⟩
  have y0 : w3.cell? ⟨w.heap.size, 0, none⟩ = some (.int .i64 0) := by rw [hb3.cell (by have := hb2.size; simp; omega), hb2.cell (by simp; omega)]; exact z0
  have y1 : w3.cell? ⟨w.heap.size, 1, none⟩ = some (.int .i64 0) := by rw [hb3.cell (by have := hb2.size; simp; omega), hb2.cell (by simp; omega)]; exact z1
  have e0 : w3.frozen? ⟨w.heap.size, 0, none⟩ = false := by rw [hb3.frozen (by have := hb2.size; simp; omega), hb2.frozen (by simp; omega)]; exact f0
  have e1 : w3.frozen? ⟨w.heap.size, 1, none⟩ = false := by rw [hb3.frozen (by have := hb2.size; simp; omega), hb2.frozen (by simp; omega)]; exact f1
  clear z0 z1 f0 f1 k0 k1 k2 k3 k4
  go_wp2_with fail
  refine bodyPost_ret (v := .agg #[.int .i64 (mkN p q), .int .i64 (mkD p q)]) (by simp [results, Try.results113, go_sem, y0, y1]) rfl ⟨rfl, ?_⟩
  exact (((((((Below.refl _ _).alloc (Nat.le_refl _) _).alloc (by simp) _).trans (hb1.mono (by simp; omega))).trans (hb2.mono (by omega))).trans (hb3.mono (by have := hb2.size; omega))).setCell (by simp) _).setCell (by simp) _
def opE (v : Bool) (p q : Int) : Int := if v = true then mkE p q else 1
def opN (v : Bool) (p q : Int) : Int := if v = true then mkN p q else 0
def opD (v : Bool) (p q : Int) : Int := if v = true then mkD p q else 0
theorem rcombine_enter (cap : Array Value) (W : World) : (callFunc 113 cap).run Try.prog W = .ok (.enter 113 cap) W := by simp [go_sem]
set_option maxRecDepth 100000 in
set_option maxHeartbeats 400000 in
theorem rcombine_any (K : FuncId) (a b c d p q : Int) (w : World) (ha : I64 a) (hb : I64 b) (hc : I64 c) (hd : I64 d) (hK : ∀ W args, (callFunc K args).run Try.prog W = .ok (.enter K args) W)
    (hop : (vld a b && vld c d) = true → I64 p ∧ I64 q ∧ ∀ W, Calls Try.prog K #[.agg #[.int .i64 a, .int .i64 b], .agg #[.int .i64 c, .int .i64 d]] W fun e W' => e = .returned (.tuple #[.int .i64 p, .int .i64 q]) ∧ Below W.heap.size W W') :
    Calls Try.prog 77 #[.func (.func K) #[] #[], .agg #[.int .i64 a, .int .i64 b], .agg #[.int .i64 c, .int .i64 d]] w
      fun e w' => e = .returned (.tuple #[.agg #[.int .i64 (opN (vld a b && vld c d) p q), .int .i64 (opD (vld a b && vld c d) p q)], .int .i64 (opE (vld a b && vld c d) p q)]) ∧ Below w.heap.size w w' := by
  have hmf : ∀ (fn : Fn) (first cap : Array Value) (w : World), (Instr.makeFunc fn first cap).run Try.prog w = .ok (.func fn first cap) w := fun _ _ _ _ => rfl
  have hat : ∀ W0 : World, W0.cell? ⟨w.heap.size, 0, none⟩ = some (.func (.func K) #[] #[]) → W0.cell? ⟨w.heap.size + 1, 0, none⟩ = some (.int .i64 a) → W0.cell? ⟨w.heap.size + 1, 1, none⟩ = some (.int .i64 b) →
      W0.cell? ⟨w.heap.size + 1 + 1, 0, none⟩ = some (.int .i64 c) → W0.cell? ⟨w.heap.size + 1 + 1, 1, none⟩ = some (.int .i64 d) →
      Calls Try.prog 110 #[.func (.func 113) #[] #[.pointer (some ⟨w.heap.size + 1, 0, none⟩), .pointer (some ⟨w.heap.size + 1 + 1, 0, none⟩), .pointer (some ⟨w.heap.size, 0, none⟩)]] W0
        fun e w' => e = .returned (.tuple #[.agg #[.int .i64 (opN (vld a b && vld c d) p q), .int .i64 (opD (vld a b && vld c d) p q)], .int .i64 (opE (vld a b && vld c d) p q)]) ∧ Below W0.heap.size W0 w' := by
    intro W0 c0 c1 c2 c3 c4
    by_cases hv : (vld a b && vld c d) = true
    · obtain ⟨hp, hq, ho⟩ := hop hv
      by_cases he : mkE p q = 0
      · rw [show opN (vld a b && vld c d) p q = mkN p q by simp [opN, hv], show opD (vld a b && vld c d) p q = mkD p q by simp [opD, hv], show opE (vld a b && vld c d) p q = 0 by simp [opE, hv, he]]
        refine attemptR_ok _ _ _ _ _ (rcombine_enter _) fun W hW => ?_
        exact combineW_ok K _ _ _ a b c d W ha hb hc hd (by rw [hW.cell (block_lt c1)]; exact c1) (by rw [hW.cell (block_lt c2)]; exact c2) (by rw [hW.cell (block_lt c3)]; exact c3) (by rw [hW.cell (block_lt c4)]; exact c4) (by rw [hW.cell (block_lt c0)]; exact c0) hv p q hp hq hK ho he
      · rw [show opN (vld a b && vld c d) p q = 0 by simp [opN, hv, mkN, he], show opD (vld a b && vld c d) p q = 0 by simp [opD, hv, mkD, he], show opE (vld a b && vld c d) p q = mkE p q by simp [opE, hv]]
        refine attemptR_err _ _ _ _ (rcombine_enter _) fun W hW => ?_
        exact combineW_err K _ _ _ a b c d W ha hb hc hd (by rw [hW.cell (block_lt c1)]; exact c1) (by rw [hW.cell (block_lt c2)]; exact c2) (by rw [hW.cell (block_lt c3)]; exact c3) (by rw [hW.cell (block_lt c4)]; exact c4) (by rw [hW.cell (block_lt c0)]; exact c0) hv p q hp hq hK ho he
    · rw [show opN (vld a b && vld c d) p q = 0 by simp only [opN, if_neg hv], show opD (vld a b && vld c d) p q = 0 by simp only [opD, if_neg hv], show opE (vld a b && vld c d) p q = 1 by simp only [opE, if_neg hv]]
      refine attemptR_err _ _ _ _ (rcombine_enter _) fun W hW => ?_
      exact combineW_arg K _ _ _ a b c d W ha hb hc hd (by rw [hW.cell (block_lt c1)]; exact c1) (by rw [hW.cell (block_lt c2)]; exact c2) (by rw [hW.cell (block_lt c3)]; exact c3) (by rw [hW.cell (block_lt c4)]; exact c4) (by rw [hW.cell (block_lt c0)]; exact c0) (by simpa using hv)
  have HA := Lib.hid hat; clear hat hop
  generalize opN (vld a b && vld c d) p q = rN at *
  generalize opD (vld a b && vld c d) p q = rD at *
  generalize opE (vld a b && vld c d) p q = rE at *
  go_enter Try.func77, Try.ntmps77
  go_wp2_with fail
  refine (HA.out _ (by simp [go_sem]) (by simp [go_sem]) (by simp [go_sem]) (by simp [go_sem]) (by simp [go_sem])).mono ?_
  rintro e w1 ⟨rfl, hb⟩
  obtain ⟨h1, h2⟩ := bcell hb
  have z0 : w1.cell? ⟨w.heap.size + 1 + 1 + 1, 0, none⟩ = some (.int .i64 0) := by rw [h1 _ _ (by simp)]; simp [go_sem]
  have z1 : w1.cell? ⟨w.heap.size + 1 + 1 + 1, 1, none⟩ = some (.int .i64 0) := by rw [h1 _ _ (by simp)]; simp [go_sem]
  have f0 : w1.frozen? ⟨w.heap.size + 1 + 1 + 1, 0, none⟩ = false := by rw [h2 _ _ (by simp)]; simp [go_sem]
  have f1 : w1.frozen? ⟨w.heap.size + 1 + 1 + 1, 1, none⟩ = false := by rw [h2 _ _ (by simp)]; simp [go_sem]
  clear h1 h2 hK
  go_wp2_with fail
  refine bodyPost_ret (v := .tuple #[.agg #[.int .i64 rN, .int .i64 rD], .int .i64 rE]) (by simp [results, Try.results77, go_sem, z0, z1]) rfl ⟨rfl, ?_⟩
  exact (((((((Below.refl _ _).alloc (Nat.le_refl _) _).alloc (by simp) _).alloc (by simp; omega) _).alloc (by simp; omega) _).trans (hb.mono (by simp; omega))).setCell (by simp; omega) _).setCell (by simp; omega) _
theorem Bd.i64 {x : Int} (h : Bd x) : I64 x := by obtain ⟨h1, h2⟩ := h; exact ⟨by omega, by omega⟩
theorem add_i {x y z u : Int} (hx : Bd x) (hy : Bd y) (hz : Bd z) (hu : Bd u) : I64 (x * y + z * u) := by
  have h := mul_bd hx hy; have h' := mul_bd hz hu; exact ⟨by omega, by omega⟩
theorem add_hop (a b c d : Int) : (vld a b && vld c d) = true → I64 (a * d + c * b) ∧ I64 (b * d) ∧ ∀ W, Calls Try.prog 78 #[.agg #[.int .i64 a, .int .i64 b], .agg #[.int .i64 c, .int .i64 d]] W fun e W' => e = .returned (.tuple #[.int .i64 (a * d + c * b), .int .i64 (b * d)]) ∧ Below W.heap.size W W' := by
  intro h
  obtain ⟨ha, hb, hc, hd⟩ := vld2 h
  exact ⟨add_i ha hd hc hb, mul_i hb hd, fun W => plus_any a b c d W ha hb hc hd⟩
set_option maxRecDepth 100000 in
set_option maxHeartbeats 400000 in
theorem radd_any (a b c d : Int) (w : World) (ha : I64 a) (hb : I64 b) (hc : I64 c) (hd : I64 d) :
    Calls Try.prog 38 #[.agg #[.int .i64 a, .int .i64 b], .agg #[.int .i64 c, .int .i64 d]] w
      fun e w' => e = .returned (.tuple #[.agg #[.int .i64 (opN (vld a b && vld c d) (a * d + c * b) (b * d)), .int .i64 (opD (vld a b && vld c d) (a * d + c * b) (b * d))], .int .i64 (opE (vld a b && vld c d) (a * d + c * b) (b * d))]) ∧ Below w.heap.size w w' := by
  have hat := fun W0 => rcombine_any 78 a b c d (a * d + c * b) (b * d) W0 ha hb hc hd (fun W args => by simp [go_sem]) (add_hop a b c d)
  have HA := Lib.hid hat; clear hat
  generalize opN (vld a b && vld c d) (a * d + c * b) (b * d) = rN at *
  generalize opD (vld a b && vld c d) (a * d + c * b) (b * d) = rD at *
  generalize opE (vld a b && vld c d) (a * d + c * b) (b * d) = rE at *
  go_enter Try.func38, Try.ntmps38
  go_wp2_with fail
  refine (HA.out _).mono ?_
  rintro e w1 ⟨rfl, hb⟩
  obtain ⟨h1, h2⟩ := bcell hb
  have z0 : w1.cell? ⟨w.heap.size + 1 + 1, 0, none⟩ = some (.int .i64 0) := by rw [h1 _ _ (by simp)]; simp [go_sem]
  have z1 : w1.cell? ⟨w.heap.size + 1 + 1, 1, none⟩ = some (.int .i64 0) := by rw [h1 _ _ (by simp)]; simp [go_sem]
  have f0 : w1.frozen? ⟨w.heap.size + 1 + 1, 0, none⟩ = false := by rw [h2 _ _ (by simp)]; simp [go_sem]
  have f1 : w1.frozen? ⟨w.heap.size + 1 + 1, 1, none⟩ = false := by rw [h2 _ _ (by simp)]; simp [go_sem]
  clear h1 h2
  go_wp2_with fail
  refine bodyPost_ret (v := .tuple #[.agg #[.int .i64 rN, .int .i64 rD], .int .i64 rE]) (by simp [results, Try.results38, go_sem, z0, z1]) rfl ⟨rfl, ?_⟩
  exact ((((((Below.refl _ _).alloc (Nat.le_refl _) _).alloc (by simp) _).alloc (by simp; omega) _).trans (hb.mono (by simp; omega))).setCell (by simp; omega) _).setCell (by simp; omega) _
set_option maxHeartbeats 400000 in
theorem size_any (x : Int) (w : World) (h1 : -9223372036854775808 ≤ x) (h2 : x ≤ 9223372036854775807) :
    Calls Try.prog 87 #[.int .i64 x] w fun e w' => e = .returned (.int .u64 x.natAbs) ∧ w = w' := by
  by_cases hx : x < 0
  · go_enter Try.func87, Try.ntmps87
    go_wp2
    go_ret
    exact ⟨ret_int (by omega), rfl⟩
  · go_enter Try.func87, Try.ntmps87
    go_wp2
    go_ret
    exact ⟨ret_int (by omega), rfl⟩
set_option maxHeartbeats 400000 in
theorem common_any (x y : Nat) (w : World) (h1 : x ≤ 18446744073709551615) (h2 : y ≤ 18446744073709551615) :
    Calls Try.prog 86 #[.int .u64 x, .int .u64 y] w fun e w' => e = .returned (.int .u64 (Nat.gcd x y : Nat)) ∧ w = w' := by
  go_enter Try.func86, Try.ntmps86
  go_wp2
  go_loopw [0, 1] (fun a b wr => ∃ m n : Nat, m ≤ 18446744073709551615 ∧ n ≤ 18446744073709551615 ∧ a = .int .u64 m ∧ b = .int .u64 n ∧ Hid (Nat.gcd m n = Nat.gcd x y) ∧ w = wr) (fun _ b _ => (intOf b).toNat)
  case atStart => exact ⟨x, y, h1, h2, rfl, rfl, rfl, rfl⟩
  case round =>
    obtain ⟨m, n, hm, hn, rfl, rfl, HG, rfl⟩ := hrel
    by_cases hz : n = 0
    · subst hz
      go_wp2
      go_ret
      exact ⟨ret_int (by have := HG.out; simp at this; omega), rfl⟩
    · have hpos : (1 : Int) ≤ n := by omega
      have hne : ((n : Int) != 0) = true := by simp; omega
      have hem : ((m : Int) % (n : Int)) = ((m % n : Nat) : Int) := by omega
      have hlt := Nat.mod_lt m (y := n) (by omega)
      clear hz
      go_wp2
      rw [hem]
      go_roundw
      case rel => exact ⟨n, m % n, by omega, by omega, rfl, rfl, (gcd_step m n (by omega)).symm.trans HG.out, by first | rfl | trivial⟩
      case measure => simp [intOf]; omega
set_option maxHeartbeats 400000 in
theorem refvalid_any (n d : Int) (w : World) (hn : I64 n) (hd : I64 d) :
    Calls Try.prog 42 #[.agg #[.int .i64 n, .int .i64 d]] w fun e w' => e = .returned (.bool (vld n d)) ∧ Below w.heap.size w w' := by
  obtain ⟨hn1, hn2⟩ := hn
  obtain ⟨hd1, hd2⟩ := hd
  by_cases h1 : d < 1
  · go_enter Try.func42, Try.ntmps42
    go_wp2
    go_ret
    exact ⟨ret_bool (by unfold vld; simp; omega), (Below.refl _ _).alloc (Nat.le_refl _) _⟩
  · by_cases h2 : 1000000000 < d
    · go_enter Try.func42, Try.ntmps42
      go_wp2
      go_ret
      exact ⟨ret_bool (by unfold vld; simp; omega), (Below.refl _ _).alloc (Nat.le_refl _) _⟩
    · by_cases h3 : n < -1000000000
      · go_enter Try.func42, Try.ntmps42
        go_wp2
        go_ret
        exact ⟨ret_bool (by unfold vld; simp; omega), (Below.refl _ _).alloc (Nat.le_refl _) _⟩
      · by_cases h4 : 1000000000 < n
        · go_enter Try.func42, Try.ntmps42
          go_wp2
          go_ret
          exact ⟨ret_bool (by unfold vld; simp; omega), (Below.refl _ _).alloc (Nat.le_refl _) _⟩
        · go_enter Try.func42, Try.ntmps42
          go_wp2_with (first | (go_at_call 87; refine (size_any _ _ (by omega) (by omega)).mono ?_; rintro e w' ⟨rfl, rfl⟩) | (go_at_call 86; refine (common_any _ _ _ (by omega) (by omega)).mono ?_; rintro e w' ⟨rfl, rfl⟩))
          go_quiet ((first | (go_at_call 87; exact quiet_left (size_any _ _ (by omega) (by omega))) | (go_at_call 86; exact quiet_left (common_any _ _ _ (by omega) (by omega)))))
          go_wp2
          go_ret
          exact ⟨ret_bool (vld_last h1 h2 (by omega)), below_drewN' ((Below.refl _ _).alloc (Nat.le_refl _) _) _⟩
set_option maxHeartbeats 400000 in
theorem refmake_zero (n : Int) (w : World) :
    Calls Try.prog 76 #[.int .i64 n, .int .i64 0] w fun e w' => e = .returned (.tuple #[.agg #[.int .i64 0, .int .i64 0], .int .i64 7]) ∧ Below w.heap.size w w' := by
  go_enter Try.func76, Try.ntmps76
  go_wp2
  refine bodyPost_ret (v := .tuple #[.agg #[.int .i64 0, .int .i64 0], .int .i64 7]) (by simp [results, Try.results76, go_sem]) rfl ⟨rfl, ?_⟩
  exact (Below.refl _ _).alloc (Nat.le_refl _) _
set_option maxHeartbeats 800000 in
theorem refmake_r1 (n d : Int) (p q : Nat) (w : World) (hn1 : -9223372036854775808 ≤ n) (hn2 : n ≤ 9223372036854775807) (hd1 : -9223372036854775808 ≤ d) (hd2 : d ≤ 9223372036854775807)
    (hd : (d == 0) = false) (hg : 1 ≤ ((n.natAbs.gcd d.natAbs : Nat) : Int)) (ep : IntKind.u64.wrap ((n.natAbs : Int) / ((n.natAbs.gcd d.natAbs : Nat) : Int)) = (p : Int)) (eq : IntKind.u64.wrap ((d.natAbs : Int) / ((n.natAbs.gcd d.natAbs : Nat) : Int)) = (q : Int)) (hr : (1000000000 : Int) < p) :
    Calls Try.prog 76 #[.int .i64 n, .int .i64 d] w fun e w' => e = .returned (.tuple #[.agg #[.int .i64 0, .int .i64 0], .int .i64 3]) ∧ Below w.heap.size w w' := by
  go_enter Try.func76, Try.ntmps76
  go_wp2_with (first | (go_at_call 87; refine (size_any _ _ (by omega) (by omega)).mono ?_; rintro e w' ⟨rfl, rfl⟩) | (go_at_call 86; refine (common_any _ _ _ (by omega) (by omega)).mono ?_; rintro e w' ⟨rfl, rfl⟩))
  refine bodyPost_ret (v := .tuple #[.agg #[.int .i64 0, .int .i64 0], .int .i64 3]) (by simp [results, Try.results76, go_sem]) rfl ⟨rfl, ?_⟩
  exact (Below.refl _ _).alloc (Nat.le_refl _) _
set_option maxHeartbeats 800000 in
theorem refmake_r2 (n d : Int) (p q : Nat) (w : World) (hn1 : -9223372036854775808 ≤ n) (hn2 : n ≤ 9223372036854775807) (hd1 : -9223372036854775808 ≤ d) (hd2 : d ≤ 9223372036854775807)
    (hd : (d == 0) = false) (hg : 1 ≤ ((n.natAbs.gcd d.natAbs : Nat) : Int)) (ep : IntKind.u64.wrap ((n.natAbs : Int) / ((n.natAbs.gcd d.natAbs : Nat) : Int)) = (p : Int)) (eq : IntKind.u64.wrap ((d.natAbs : Int) / ((n.natAbs.gcd d.natAbs : Nat) : Int)) = (q : Int)) (hr : (p : Int) ≤ 1000000000) (hr2 : (1000000000 : Int) < q) :
    Calls Try.prog 76 #[.int .i64 n, .int .i64 d] w fun e w' => e = .returned (.tuple #[.agg #[.int .i64 0, .int .i64 0], .int .i64 3]) ∧ Below w.heap.size w w' := by
  go_enter Try.func76, Try.ntmps76
  go_wp2_with (first | (go_at_call 87; refine (size_any _ _ (by omega) (by omega)).mono ?_; rintro e w' ⟨rfl, rfl⟩) | (go_at_call 86; refine (common_any _ _ _ (by omega) (by omega)).mono ?_; rintro e w' ⟨rfl, rfl⟩))
  refine bodyPost_ret (v := .tuple #[.agg #[.int .i64 0, .int .i64 0], .int .i64 3]) (by simp [results, Try.results76, go_sem]) rfl ⟨rfl, ?_⟩
  exact (Below.refl _ _).alloc (Nat.le_refl _) _
set_option maxHeartbeats 800000 in
theorem refmake_nn (n d : Int) (p q : Nat) (w : World) (hn1 : -9223372036854775808 ≤ n) (hn2 : n ≤ 9223372036854775807) (hd1 : -9223372036854775808 ≤ d) (hd2 : d ≤ 9223372036854775807)
    (hd : (d == 0) = false) (hg : 1 ≤ ((n.natAbs.gcd d.natAbs : Nat) : Int)) (ep : IntKind.u64.wrap ((n.natAbs : Int) / ((n.natAbs.gcd d.natAbs : Nat) : Int)) = (p : Int)) (eq : IntKind.u64.wrap ((d.natAbs : Int) / ((n.natAbs.gcd d.natAbs : Nat) : Int)) = (q : Int)) (hp : (p : Int) ≤ 1000000000) (hq : (q : Int) ≤ 1000000000) (hn0 : decide (n < 0) = true) (hd0 : decide (d < 0) = true) :
    Calls Try.prog 76 #[.int .i64 n, .int .i64 d] w fun e w' => e = .returned (.tuple #[.agg #[.int .i64 (p), .int .i64 q], .int .i64 0]) ∧ Below w.heap.size w w' := by
  go_enter Try.func76, Try.ntmps76
  go_wp2_with (first | (go_at_call 87; refine (size_any _ _ (by omega) (by omega)).mono ?_; rintro e w' ⟨rfl, rfl⟩) | (go_at_call 86; refine (common_any _ _ _ (by omega) (by omega)).mono ?_; rintro e w' ⟨rfl, rfl⟩))
  refine bodyPost_ret (v := .tuple #[.agg #[.int .i64 (p), .int .i64 q], .int .i64 0]) (by simp [results, Try.results76, go_sem]) rfl ⟨rfl, ?_⟩
  exact ((Below.refl _ _).alloc (Nat.le_refl _) _).alloc (by simp) _
set_option maxHeartbeats 800000 in
theorem refmake_pp (n d : Int) (p q : Nat) (w : World) (hn1 : -9223372036854775808 ≤ n) (hn2 : n ≤ 9223372036854775807) (hd1 : -9223372036854775808 ≤ d) (hd2 : d ≤ 9223372036854775807)
    (hd : (d == 0) = false) (hg : 1 ≤ ((n.natAbs.gcd d.natAbs : Nat) : Int)) (ep : IntKind.u64.wrap ((n.natAbs : Int) / ((n.natAbs.gcd d.natAbs : Nat) : Int)) = (p : Int)) (eq : IntKind.u64.wrap ((d.natAbs : Int) / ((n.natAbs.gcd d.natAbs : Nat) : Int)) = (q : Int)) (hp : (p : Int) ≤ 1000000000) (hq : (q : Int) ≤ 1000000000) (hn0 : decide (n < 0) = false) (hd0 : decide (d < 0) = false) :
    Calls Try.prog 76 #[.int .i64 n, .int .i64 d] w fun e w' => e = .returned (.tuple #[.agg #[.int .i64 (p), .int .i64 q], .int .i64 0]) ∧ Below w.heap.size w w' := by
  go_enter Try.func76, Try.ntmps76
  go_wp2_with (first | (go_at_call 87; refine (size_any _ _ (by omega) (by omega)).mono ?_; rintro e w' ⟨rfl, rfl⟩) | (go_at_call 86; refine (common_any _ _ _ (by omega) (by omega)).mono ?_; rintro e w' ⟨rfl, rfl⟩))
  refine bodyPost_ret (v := .tuple #[.agg #[.int .i64 (p), .int .i64 q], .int .i64 0]) (by simp [results, Try.results76, go_sem]) rfl ⟨rfl, ?_⟩
  exact ((Below.refl _ _).alloc (Nat.le_refl _) _).alloc (by simp) _
set_option maxHeartbeats 800000 in
theorem refmake_np (n d : Int) (p q : Nat) (w : World) (hn1 : -9223372036854775808 ≤ n) (hn2 : n ≤ 9223372036854775807) (hd1 : -9223372036854775808 ≤ d) (hd2 : d ≤ 9223372036854775807)
    (hd : (d == 0) = false) (hg : 1 ≤ ((n.natAbs.gcd d.natAbs : Nat) : Int)) (ep : IntKind.u64.wrap ((n.natAbs : Int) / ((n.natAbs.gcd d.natAbs : Nat) : Int)) = (p : Int)) (eq : IntKind.u64.wrap ((d.natAbs : Int) / ((n.natAbs.gcd d.natAbs : Nat) : Int)) = (q : Int)) (hp : (p : Int) ≤ 1000000000) (hq : (q : Int) ≤ 1000000000) (hn0 : decide (n < 0) = true) (hd0 : decide (d < 0) = false) :
    Calls Try.prog 76 #[.int .i64 n, .int .i64 d] w fun e w' => e = .returned (.tuple #[.agg #[.int .i64 (-p), .int .i64 q], .int .i64 0]) ∧ Below w.heap.size w w' := by
  go_enter Try.func76, Try.ntmps76
  go_wp2_with (first | (go_at_call 87; refine (size_any _ _ (by omega) (by omega)).mono ?_; rintro e w' ⟨rfl, rfl⟩) | (go_at_call 86; refine (common_any _ _ _ (by omega) (by omega)).mono ?_; rintro e w' ⟨rfl, rfl⟩))
  refine bodyPost_ret (v := .tuple #[.agg #[.int .i64 (-p), .int .i64 q], .int .i64 0]) (by simp [results, Try.results76, go_sem]) rfl ⟨rfl, ?_⟩
  exact ((Below.refl _ _).alloc (Nat.le_refl _) _).alloc (by simp) _
set_option maxHeartbeats 800000 in
theorem refmake_pn (n d : Int) (p q : Nat) (w : World) (hn1 : -9223372036854775808 ≤ n) (hn2 : n ≤ 9223372036854775807) (hd1 : -9223372036854775808 ≤ d) (hd2 : d ≤ 9223372036854775807)
    (hd : (d == 0) = false) (hg : 1 ≤ ((n.natAbs.gcd d.natAbs : Nat) : Int)) (ep : IntKind.u64.wrap ((n.natAbs : Int) / ((n.natAbs.gcd d.natAbs : Nat) : Int)) = (p : Int)) (eq : IntKind.u64.wrap ((d.natAbs : Int) / ((n.natAbs.gcd d.natAbs : Nat) : Int)) = (q : Int)) (hp : (p : Int) ≤ 1000000000) (hq : (q : Int) ≤ 1000000000) (hn0 : decide (n < 0) = false) (hd0 : decide (d < 0) = true) :
    Calls Try.prog 76 #[.int .i64 n, .int .i64 d] w fun e w' => e = .returned (.tuple #[.agg #[.int .i64 (-p), .int .i64 q], .int .i64 0]) ∧ Below w.heap.size w w' := by
  go_enter Try.func76, Try.ntmps76
  go_wp2_with (first | (go_at_call 87; refine (size_any _ _ (by omega) (by omega)).mono ?_; rintro e w' ⟨rfl, rfl⟩) | (go_at_call 86; refine (common_any _ _ _ (by omega) (by omega)).mono ?_; rintro e w' ⟨rfl, rfl⟩))
  refine bodyPost_ret (v := .tuple #[.agg #[.int .i64 (-p), .int .i64 q], .int .i64 0]) (by simp [results, Try.results76, go_sem]) rfl ⟨rfl, ?_⟩
  exact ((Below.refl _ _).alloc (Nat.le_refl _) _).alloc (by simp) _
set_option maxRecDepth 100000 in
/-- The reference's Make returns the reduced quotient of any two ints, or ErrZero, or ErrRange. -/
theorem refmake_any (n d : Int) (w : World) (hn : I64 n) (hd : I64 d) :
    Calls Try.prog 76 #[.int .i64 n, .int .i64 d] w fun e w' => e = .returned (.tuple #[.agg #[.int .i64 (mkN n d), .int .i64 (mkD n d)], .int .i64 (mkE n d)]) ∧ Below w.heap.size w w' := by
  obtain ⟨hn1, hn2⟩ := hn
  obtain ⟨hd1, hd2⟩ := hd
  by_cases h0 : d = 0
  · subst h0
    exact refmake_zero n w
  have hg := cd_pos (n := n) h0
  have hb : (d == 0) = false := by simpa using h0
  have hgi : 1 ≤ ((n.natAbs.gcd d.natAbs : Nat) : Int) := by unfold cd at hg; omega
  have l1 : n.natAbs / cd n d ≤ n.natAbs := Nat.div_le_self _ _
  have l2 : d.natAbs / cd n d ≤ d.natAbs := Nat.div_le_self _ _
  have ep : IntKind.u64.wrap ((n.natAbs : Int) / ((n.natAbs.gcd d.natAbs : Nat) : Int)) = ((n.natAbs / cd n d : Nat) : Int) := wrap_div _ (cd n d) (by omega)
  have eq : IntKind.u64.wrap ((d.natAbs : Int) / ((n.natAbs.gcd d.natAbs : Nat) : Int)) = ((d.natAbs / cd n d : Nat) : Int) := wrap_div _ (cd n d) (by omega)
  by_cases hr : 1000000000 < n.natAbs / cd n d ∨ 1000000000 < d.natAbs / cd n d
  · have he : mkE n d = 3 := by simp only [mkE, if_neg h0, if_pos hr]
    rw [show mkN n d = 0 by simp [mkN, he], show mkD n d = 0 by simp [mkD, he], he]
    by_cases hr1 : 1000000000 < n.natAbs / cd n d
    · exact refmake_r1 n d _ _ w hn1 hn2 hd1 hd2 hb hgi ep eq (by omega)
    · exact refmake_r2 n d _ _ w hn1 hn2 hd1 hd2 hb hgi ep eq (by omega) (by omega)
  · have he : mkE n d = 0 := by simp only [mkE, if_neg h0, if_neg hr]
    rw [show mkN n d = rn n d by simp [mkN, he], show mkD n d = rd n d by simp [mkD, he], he]
    have hp : ((n.natAbs / cd n d : Nat) : Int) ≤ 1000000000 := by omega
    have hq : ((d.natAbs / cd n d : Nat) : Int) ≤ 1000000000 := by omega
    unfold rn rd
    by_cases h1 : n < 0 <;> by_cases h2 : d < 0
    · rw [if_pos (by simp [h1, h2])]
      exact refmake_nn n d _ _ w hn1 hn2 hd1 hd2 hb hgi ep eq hp hq (by simp [h1]) (by simp [h2])
    · rw [if_neg (by simp [h1, h2])]
      exact refmake_np n d _ _ w hn1 hn2 hd1 hd2 hb hgi ep eq hp hq (by simp [h1]) (by simp [h2])
    · rw [if_neg (by simp [h1, h2])]
      exact refmake_pn n d _ _ w hn1 hn2 hd1 hd2 hb hgi ep eq hp hq (by simp [h1]) (by simp [h2])
    · rw [if_pos (by simp [h1, h2])]
      exact refmake_pp n d _ _ w hn1 hn2 hd1 hd2 hb hgi ep eq hp hq (by simp [h1]) (by simp [h2])
end Go.Proofs.Ytehlplejcaofoaa

namespace Go.Proofs.Ytehlplejcaofoaa
open Go.RowKit Go.Sort
open Go.RowKit (Below)
set_option linter.unusedVariables false
set_option linter.unusedSimpArgs false

theorem lines_one (ex ey ez x y z : Int) (B : Option Addr) (D : Nat) (L : List Bv) (h5 : L.length ≤ 9223372036854775807) (hE : Wrg ex ey ez [⟨x, y, z, 1⟩] L 0) (qa qb qc qd : Int) (hq : lin ex ey ez x y z L 0 = ⟨qa, qb, qc, qd⟩) (g : Nat) (w : World)
    (c0 : w.cell? ⟨g, 0, none⟩ = some (.int .i64 x)) (c1 : w.cell? ⟨g, 1, none⟩ = some (.int .i64 y)) (c2 : w.cell? ⟨g, 2, none⟩ = some (.int .i64 z)) (c3 : w.cell? ⟨g, 3, none⟩ = some (.int .i64 1)) (hm : BdS w B L) :
    Calls Try.prog 28 #[.agg #[.int .i64 ex, .int .i64 ey, .int .i64 ez], .slice (some ⟨g, 0, none⟩) 1 1, .slice B L.length D] w fun e_ w' => ∃ h, e_ = .returned (.tuple #[.slice (some ⟨h, 0, none⟩) 1 1, .int .i64 0]) ∧
      (w'.cell? ⟨h, 0, none⟩ = some (.int .i64 qa) ∧ w'.cell? ⟨h, 1, none⟩ = some (.int .i64 qb) ∧ w'.cell? ⟨h, 2, none⟩ = some (.int .i64 qc) ∧ w'.cell? ⟨h, 3, none⟩ = some (.int .i64 qd)) ∧ Below w.heap.size w w' := by
  refine (lines_1 ex ey ez (some ⟨g, 0, none⟩) 1 [⟨x, y, z, 1⟩] B D L (by simp) h5 hE w (s4_one c0 c1 c2 c3) hm).mono ?_
  rintro e_ w' ⟨h, rfl, hs, hb⟩
  obtain ⟨b1, o1, e1, y0, y1, y2, y3⟩ := hs 0 (by rw [lns_len]; simp)
  obtain ⟨rfl, rfl⟩ : h = b1 ∧ 0 = o1 := by simpa using e1
  rw [lns_at (by simp)] at y0 y1 y2 y3
  have e2 : lin ex ey ez (gd4 [⟨x, y, z, 1⟩] 0).a (gd4 [⟨x, y, z, 1⟩] 0).b (gd4 [⟨x, y, z, 1⟩] 0).c L ((0 : Nat) : Int) = ⟨qa, qb, qc, qd⟩ := hq
  rw [e2] at y0 y1 y2 y3
  exact ⟨h, rfl, ⟨y0, y1, y2, y3⟩, hb⟩
theorem mk_self {p : Int} (h : 0 < p) : mkE p p = 0 ∧ mkN p p = 1 ∧ mkD p p = 1 := by
  have hc : cd p p = p.natAbs := by unfold cd; exact Nat.gcd_self _
  have hd : p.natAbs / p.natAbs = 1 := Nat.div_self (by omega)
  have he : mkE p p = 0 := by
    unfold mkE
    rw [hc, hd, if_neg (by omega), if_neg (by decide)]
  refine ⟨he, ?_, ?_⟩
  · unfold mkN rn
    rw [if_pos he, hc, hd, if_pos Iff.rfl]; rfl
  · unfold mkD rd
    rw [if_pos he, hc, hd]; rfl
theorem add_one_is (a b d : Int) (va : vld a d = true) (vb : vld b d = true) (h : a + b = d) (w : World) :
    Calls Try.prog 38 #[.agg #[.int .i64 a, .int .i64 d], .agg #[.int .i64 b, .int .i64 d]] w fun e_ w' => e_ = .returned (.tuple #[.agg #[.int .i64 1, .int .i64 1], .int .i64 0]) ∧ Below w.heap.size w w' := by
  have i1 := vld_i64 va
  have i2 := vld_i64 vb
  have hp := vld_pos va
  have e : a * d + b * d = d * d := by rw [← h]; grind
  obtain ⟨h1, h2, h3⟩ := mk_self (Int.mul_pos hp hp)
  have hr := radd_any a d b d w i1.1 i1.2 i2.1 i2.2
  rw [va, vb, e] at hr
  unfold opN opD opE at hr
  rw [h1, h2, h3] at hr
  exact hr
end Go.Proofs.Ytehlplejcaofoaa
