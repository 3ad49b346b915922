/-
  Out of the texts of layer 1: package rational's Add, the reference's Valid and Make. Rows of targets and bodies as lists of cells: for the laws' own appends.
-/
import Derived.Test.YtiffgcipdamngaaZSgtZD
import Derived.Test.YtiffgcipdamngaaZShpG
import Derived.Test.YtiffgcipdamngaaZShpPG
import Derived.Test.YtiffgcipdamngaaZShpPK
import Derived.Test.YtiffgcipdamngaaZShpPS
import Derived.Laws.CopyRow
import Derived.Laws.CopyOwn
import Derived.Laws.MakeOwn
import Derived.StillTailTactics
import Derived.Deep.SlicePairs
import Derived.Test.YtiffgcipdamngaaZShpPH
import Derived.Test.YtiffgcipdamngaaZShpY
import Derived.Deep.AppendLies
import Derived.Laws.OwnMore
import Derived.Test.YtiffgcipdamngaaZGenE
namespace Go.Proofs.Ytiffgcipdamngaa
open Go.RowKit Go.Sort
open Go.RowKit (Below)
set_option linter.unusedVariables false
set_option linter.unusedSimpArgs false

theorem add_wrap {x y z u : Int} (hx : Bd x) (hy : Bd y) (hz : Bd z) (hu : Bd u) : wrap64 (wrap64 (x * y) + wrap64 (z * u)) = x * y + z * u := by
  rw [mul_wrap hx hy, mul_wrap hz hu]
  have h := mul_bd hx hy
  have h' := mul_bd hz hu
  exact IntWalk.wrap64_in _ ⟨by omega, by omega⟩
theorem ret2_int {k l : IntKind} {a b c d : Int} (h : a = b) (h' : c = d) : Ending.returned (.tuple #[.int k a, .int l c]) = .returned (.tuple #[.int k b, .int l d]) := by rw [h, h']
set_option maxHeartbeats 400000 in
theorem plus_any (a b c d : Int) (w : World) (ha : Bd a) (hb : Bd b) (hc : Bd c) (hd : Bd d) :
    Calls Try.prog 34 #[.agg #[.int .i64 a, .int .i64 b], .agg #[.int .i64 c, .int .i64 d]] w fun e w' => e = .returned (.tuple #[.int .i64 (a * d + c * b), .int .i64 (b * d)]) ∧ Below w.heap.size w w' := by
  go_enter Try.func34, Try.ntmps34
  go_wp2
  go_quiet (fail)
  go_wp2
  go_ret2
  exact ⟨ret2_int (add_wrap ha hd hc hb) (mul_wrap hb hd), below_drewN' (((Below.refl _ _).alloc (Nat.le_refl _) _).alloc (by simp) _) _⟩
set_option maxRecDepth 100000 in
set_option maxHeartbeats 400000 in
theorem combineW_arg (K : FuncId) (x0 x1 x2 : Nat) (a b c d : Int) (w : World) (ha : I64 a) (hb : I64 b) (hc : I64 c) (hd : I64 d)
    (g0 : w.cell? ⟨x0, 0, none⟩ = some (.int .i64 a)) (g1 : w.cell? ⟨x0, 1, none⟩ = some (.int .i64 b)) (g2 : w.cell? ⟨x1, 0, none⟩ = some (.int .i64 c)) (g3 : w.cell? ⟨x1, 1, none⟩ = some (.int .i64 d)) (g4 : w.cell? ⟨x2, 0, none⟩ = some (.func (.func K) #[] #[])) (hv : (vld a b && vld c d) = false) :
    Calls Try.prog 54 #[.pointer (some ⟨x0, 0, none⟩), .pointer (some ⟨x1, 0, none⟩), .pointer (some ⟨x2, 0, none⟩)] w fun e w' => e = raise 1 ∧ Below w.heap.size w w' := by
  have l0 := block_lt g0
  have l1 := block_lt g2
  have l2 := block_lt g4
  have HV := Lib.hid hv; clear hv
  go_enter Try.func54, Try.ntmps54
  go_wp2_with fail
  refine (require2_err _ a b c d _ ha hb hc hd (by simp [go_sem]) (by simp [go_sem]) (by simp [go_sem]) (by simp [go_sem]) HV.out).mono ?_
  rintro e w1 ⟨rfl, hb1⟩
  go_wp2_with fail
  exact ⟨rfl, rfl, (((Below.refl _ _).alloc (Nat.le_refl _) _).alloc (by simp) _).trans (hb1.mono (by simp; omega))⟩
set_option maxRecDepth 100000 in
set_option maxHeartbeats 400000 in
theorem combineW_err (K : FuncId) (x0 x1 x2 : Nat) (a b c d : Int) (w : World) (ha : I64 a) (hb : I64 b) (hc : I64 c) (hd : I64 d)
    (g0 : w.cell? ⟨x0, 0, none⟩ = some (.int .i64 a)) (g1 : w.cell? ⟨x0, 1, none⟩ = some (.int .i64 b)) (g2 : w.cell? ⟨x1, 0, none⟩ = some (.int .i64 c)) (g3 : w.cell? ⟨x1, 1, none⟩ = some (.int .i64 d)) (g4 : w.cell? ⟨x2, 0, none⟩ = some (.func (.func K) #[] #[])) (hv : (vld a b && vld c d) = true) (p q : Int) (hp : I64 p) (hq : I64 q) (hK : ∀ W args, (callFunc K args).run Try.prog W = .ok (.enter K args) W)
    (hop : ∀ W, Calls Try.prog K #[.agg #[.int .i64 a, .int .i64 b], .agg #[.int .i64 c, .int .i64 d]] W fun e W' => e = .returned (.tuple #[.int .i64 p, .int .i64 q]) ∧ Below W.heap.size W W') (he : mkE p q ≠ 0) :
    Calls Try.prog 54 #[.pointer (some ⟨x0, 0, none⟩), .pointer (some ⟨x1, 0, none⟩), .pointer (some ⟨x2, 0, none⟩)] w fun e w' => e = raise (mkE p q) ∧ Below w.heap.size w w' := by
  have l0 := block_lt g0
  have l1 := block_lt g2
  have l2 := block_lt g4
  have HV := Lib.hid hv; clear hv
  have HO := Lib.hid hop; clear hop
  have HE := Lib.hid he; clear he
  go_enter Try.func54, Try.ntmps54
  go_wp2_with fail
  refine (require2_ok _ a b c d _ ha hb hc hd (by simp [go_sem]) (by simp [go_sem]) (by simp [go_sem]) (by simp [go_sem]) HV.out).mono ?_
  rintro e w1 ⟨rfl, hb1⟩
  obtain ⟨h1, h2⟩ := bcell hb1
  have k0 : w1.cell? ⟨x0, 0, none⟩ = some (.int .i64 a) := by rw [h1 _ _ (by simp; omega)]; simp [go_sem, l0, g0]
  have k1 : w1.cell? ⟨x0, 1, none⟩ = some (.int .i64 b) := by rw [h1 _ _ (by simp; omega)]; simp [go_sem, l0, g1]
  have k2 : w1.cell? ⟨x1, 0, none⟩ = some (.int .i64 c) := by rw [h1 _ _ (by simp; omega)]; simp [go_sem, l1, g2]
  have k3 : w1.cell? ⟨x1, 1, none⟩ = some (.int .i64 d) := by rw [h1 _ _ (by simp; omega)]; simp [go_sem, l1, g3]
  have k4 : w1.cell? ⟨x2, 0, none⟩ = some (.func (.func K) #[] #[]) := by rw [h1 _ _ (by simp; omega)]; simp [go_sem, l2, g4]
  have z0 : w1.cell? ⟨w.heap.size, 0, none⟩ = some (.int .i64 0) := by rw [h1 _ _ (by simp <;> omega)]; simp [go_sem]
  have z1 : w1.cell? ⟨w.heap.size, 1, none⟩ = some (.int .i64 0) := by rw [h1 _ _ (by simp <;> omega)]; simp [go_sem]
  have f0 : w1.frozen? ⟨w.heap.size, 0, none⟩ = false := by rw [h2 _ _ (by simp <;> omega)]; simp [go_sem]
  have f1 : w1.frozen? ⟨w.heap.size, 1, none⟩ = false := by rw [h2 _ _ (by simp <;> omega)]; simp [go_sem]
  have s1 : w.heap.size + 1 < w1.heap.size := by have := hb1.size; simp at this; omega
  clear h1 h2 g0 g1 g2 g3 g4
  go_wp2_with fail
  refine (HO.out _).mono ?_
  rintro e w2 ⟨rfl, hb2⟩
  go_wp2_with fail
  refine (reduce_err p q _ hp.1 hp.2 hq.1 hq.2 HE.out).mono ?_
  rintro e w3 ⟨rfl, hb3⟩
  clear z0 z1 f0 f1 k0 k1 k2 k3 k4
  go_wp2_with fail
  exact ⟨rfl, rfl, (((((Below.refl _ _).alloc (Nat.le_refl _) _).alloc (by simp) _).trans (hb1.mono (by simp; omega))).trans (hb2.mono (by omega))).trans (hb3.mono (by have := hb2.size; omega))⟩
set_option maxRecDepth 100000 in
set_option maxHeartbeats 400000 in
theorem combineW_ok (K : FuncId) (x0 x1 x2 : Nat) (a b c d : Int) (w : World) (ha : I64 a) (hb : I64 b) (hc : I64 c) (hd : I64 d)
    (g0 : w.cell? ⟨x0, 0, none⟩ = some (.int .i64 a)) (g1 : w.cell? ⟨x0, 1, none⟩ = some (.int .i64 b)) (g2 : w.cell? ⟨x1, 0, none⟩ = some (.int .i64 c)) (g3 : w.cell? ⟨x1, 1, none⟩ = some (.int .i64 d)) (g4 : w.cell? ⟨x2, 0, none⟩ = some (.func (.func K) #[] #[])) (hv : (vld a b && vld c d) = true) (p q : Int) (hp : I64 p) (hq : I64 q) (hK : ∀ W args, (callFunc K args).run Try.prog W = .ok (.enter K args) W)
    (hop : ∀ W, Calls Try.prog K #[.agg #[.int .i64 a, .int .i64 b], .agg #[.int .i64 c, .int .i64 d]] W fun e W' => e = .returned (.tuple #[.int .i64 p, .int .i64 q]) ∧ Below W.heap.size W W') (he : mkE p q = 0) :
    Calls Try.prog 54 #[.pointer (some ⟨x0, 0, none⟩), .pointer (some ⟨x1, 0, none⟩), .pointer (some ⟨x2, 0, none⟩)] w fun e w' => e = .returned (.agg #[.int .i64 (mkN p q), .int .i64 (mkD p q)]) ∧ Below w.heap.size w w' := by
  have l0 := block_lt g0
  have l1 := block_lt g2
  have l2 := block_lt g4
  have HV := Lib.hid hv; clear hv
  have HO := Lib.hid hop; clear hop
  have HE := Lib.hid he; clear he
  go_enter Try.func54, Try.ntmps54
  go_wp2_with fail
  refine (require2_ok _ a b c d _ ha hb hc hd (by simp [go_sem]) (by simp [go_sem]) (by simp [go_sem]) (by simp [go_sem]) HV.out).mono ?_
  rintro e w1 ⟨rfl, hb1⟩
  obtain ⟨h1, h2⟩ := bcell hb1
  have k0 : w1.cell? ⟨x0, 0, none⟩ = some (.int .i64 a) := by rw [h1 _ _ (by simp; omega)]; simp [go_sem, l0, g0]
  have k1 : w1.cell? ⟨x0, 1, none⟩ = some (.int .i64 b) := by rw [h1 _ _ (by simp; omega)]; simp [go_sem, l0, g1]
  have k2 : w1.cell? ⟨x1, 0, none⟩ = some (.int .i64 c) := by rw [h1 _ _ (by simp; omega)]; simp [go_sem, l1, g2]
  have k3 : w1.cell? ⟨x1, 1, none⟩ = some (.int .i64 d) := by rw [h1 _ _ (by simp; omega)]; simp [go_sem, l1, g3]
  have k4 : w1.cell? ⟨x2, 0, none⟩ = some (.func (.func K) #[] #[]) := by rw [h1 _ _ (by simp; omega)]; simp [go_sem, l2, g4]
  have z0 : w1.cell? ⟨w.heap.size, 0, none⟩ = some (.int .i64 0) := by rw [h1 _ _ (by simp <;> omega)]; simp [go_sem]
  have z1 : w1.cell? ⟨w.heap.size, 1, none⟩ = some (.int .i64 0) := by rw [h1 _ _ (by simp <;> omega)]; simp [go_sem]
  have f0 : w1.frozen? ⟨w.heap.size, 0, none⟩ = false := by rw [h2 _ _ (by simp <;> omega)]; simp [go_sem]
  have f1 : w1.frozen? ⟨w.heap.size, 1, none⟩ = false := by rw [h2 _ _ (by simp <;> omega)]; simp [go_sem]
  have s1 : w.heap.size + 1 < w1.heap.size := by have := hb1.size; simp at this; omega
  clear h1 h2 g0 g1 g2 g3 g4
  go_wp2_with fail
  refine (HO.out _).mono ?_
  rintro e w2 ⟨rfl, hb2⟩
  go_wp2_with fail
  refine (reduce_ok p q _ hp.1 hp.2 hq.1 hq.2 HE.out).mono ?_
  rintro e w3 ⟨rfl, hb3⟩
  have y0 : w3.cell? ⟨w.heap.size, 0, none⟩ = some (.int .i64 0) := by rw [hb3.cell (by have := hb2.size; simp; omega), hb2.cell (by simp; omega)]; exact z0
  have y1 : w3.cell? ⟨w.heap.size, 1, none⟩ = some (.int .i64 0) := by rw [hb3.cell (by have := hb2.size; simp; omega), hb2.cell (by simp; omega)]; exact z1
  have e0 : w3.frozen? ⟨w.heap.size, 0, none⟩ = false := by rw [hb3.frozen (by have := hb2.size; simp; omega), hb2.frozen (by simp; omega)]; exact f0
  have e1 : w3.frozen? ⟨w.heap.size, 1, none⟩ = false := by rw [hb3.frozen (by have := hb2.size; simp; omega), hb2.frozen (by simp; omega)]; exact f1
  clear z0 z1 f0 f1 k0 k1 k2 k3 k4
  go_wp2_with fail
  refine bodyPost_ret (v := .agg #[.int .i64 (mkN p q), .int .i64 (mkD p q)]) (by simp [results, Try.results54, go_sem, y0, y1]) rfl ⟨rfl, ?_⟩
  exact (((((((Below.refl _ _).alloc (Nat.le_refl _) _).alloc (by simp) _).trans (hb1.mono (by simp; omega))).trans (hb2.mono (by omega))).trans (hb3.mono (by have := hb2.size; omega))).setCell (by simp) _).setCell (by simp) _
def opE (v : Bool) (p q : Int) : Int := if v = true then mkE p q else 1
def opN (v : Bool) (p q : Int) : Int := if v = true then mkN p q else 0
def opD (v : Bool) (p q : Int) : Int := if v = true then mkD p q else 0
theorem rcombine_enter (cap : Array Value) (W : World) : (callFunc 54 cap).run Try.prog W = .ok (.enter 54 cap) W := by simp [go_sem]
set_option maxRecDepth 100000 in
set_option maxHeartbeats 400000 in
theorem rcombine_any (K : FuncId) (a b c d p q : Int) (w : World) (ha : I64 a) (hb : I64 b) (hc : I64 c) (hd : I64 d) (hK : ∀ W args, (callFunc K args).run Try.prog W = .ok (.enter K args) W)
    (hop : (vld a b && vld c d) = true → I64 p ∧ I64 q ∧ ∀ W, Calls Try.prog K #[.agg #[.int .i64 a, .int .i64 b], .agg #[.int .i64 c, .int .i64 d]] W fun e W' => e = .returned (.tuple #[.int .i64 p, .int .i64 q]) ∧ Below W.heap.size W W') :
    Calls Try.prog 32 #[.func (.func K) #[] #[], .agg #[.int .i64 a, .int .i64 b], .agg #[.int .i64 c, .int .i64 d]] w
      fun e w' => e = .returned (.tuple #[.agg #[.int .i64 (opN (vld a b && vld c d) p q), .int .i64 (opD (vld a b && vld c d) p q)], .int .i64 (opE (vld a b && vld c d) p q)]) ∧ Below w.heap.size w w' := by
  have hmf : ∀ (fn : Fn) (first cap : Array Value) (w : World), (Instr.makeFunc fn first cap).run Try.prog w = .ok (.func fn first cap) w := fun _ _ _ _ => rfl
  have hat : ∀ W0 : World, W0.cell? ⟨w.heap.size, 0, none⟩ = some (.func (.func K) #[] #[]) → W0.cell? ⟨w.heap.size + 1, 0, none⟩ = some (.int .i64 a) → W0.cell? ⟨w.heap.size + 1, 1, none⟩ = some (.int .i64 b) →
      W0.cell? ⟨w.heap.size + 1 + 1, 0, none⟩ = some (.int .i64 c) → W0.cell? ⟨w.heap.size + 1 + 1, 1, none⟩ = some (.int .i64 d) →
      Calls Try.prog 53 #[.func (.func 54) #[] #[.pointer (some ⟨w.heap.size + 1, 0, none⟩), .pointer (some ⟨w.heap.size + 1 + 1, 0, none⟩), .pointer (some ⟨w.heap.size, 0, none⟩)]] W0
        fun e w' => e = .returned (.tuple #[.agg #[.int .i64 (opN (vld a b && vld c d) p q), .int .i64 (opD (vld a b && vld c d) p q)], .int .i64 (opE (vld a b && vld c d) p q)]) ∧ Below W0.heap.size W0 w' := by
    intro W0 c0 c1 c2 c3 c4
    by_cases hv : (vld a b && vld c d) = true
    · obtain ⟨hp, hq, ho⟩ := hop hv
      by_cases he : mkE p q = 0
      · rw [show opN (vld a b && vld c d) p q = mkN p q by simp [opN, hv], show opD (vld a b && vld c d) p q = mkD p q by simp [opD, hv], show opE (vld a b && vld c d) p q = 0 by simp [opE, hv, he]]
        refine attemptR_ok _ _ _ _ _ (rcombine_enter _) fun W hW => ?_
        exact combineW_ok K _ _ _ a b c d W ha hb hc hd (by rw [hW.cell (block_lt c1)]; exact c1) (by rw [hW.cell (block_lt c2)]; exact c2) (by rw [hW.cell (block_lt c3)]; exact c3) (by rw [hW.cell (block_lt c4)]; exact c4) (by rw [hW.cell (block_lt c0)]; exact c0) hv p q hp hq hK ho he
      · rw [show opN (vld a b && vld c d) p q = 0 by simp [opN, hv, mkN, he], show opD (vld a b && vld c d) p q = 0 by simp [opD, hv, mkD, he], show opE (vld a b && vld c d) p q = mkE p q by simp [opE, hv]]
        refine attemptR_err _ _ _ _ (rcombine_enter _) fun W hW => ?_
        exact combineW_err K _ _ _ a b c d W ha hb hc hd (by rw [hW.cell (block_lt c1)]; exact c1) (by rw [hW.cell (block_lt c2)]; exact c2) (by rw [hW.cell (block_lt c3)]; exact c3) (by rw [hW.cell (block_lt c4)]; exact c4) (by rw [hW.cell (block_lt c0)]; exact c0) hv p q hp hq hK ho he
    · rw [show opN (vld a b && vld c d) p q = 0 by simp only [opN, if_neg hv], show opD (vld a b && vld c d) p q = 0 by simp only [opD, if_neg hv], show opE (vld a b && vld c d) p q = 1 by simp only [opE, if_neg hv]]
      refine attemptR_err _ _ _ _ (rcombine_enter _) fun W hW => ?_
      exact combineW_arg K _ _ _ a b c d W ha hb hc hd (by rw [hW.cell (block_lt c1)]; exact c1) (by rw [hW.cell (block_lt c2)]; exact c2) (by rw [hW.cell (block_lt c3)]; exact c3) (by rw [hW.cell (block_lt c4)]; exact c4) (by rw [hW.cell (block_lt c0)]; exact c0) (by simpa using hv)
  have HA := Lib.hid hat; clear hat hop
  generalize opN (vld a b && vld c d) p q = rN at *
  generalize opD (vld a b && vld c d) p q = rD at *
  generalize opE (vld a b && vld c d) p q = rE at *
  go_enter Try.func32, Try.ntmps32
  go_wp2_with fail
  refine (HA.out _ (by simp [go_sem]) (by simp [go_sem]) (by simp [go_sem]) (by simp [go_sem]) (by simp [go_sem])).mono ?_
  rintro e w1 ⟨rfl, hb⟩
  obtain ⟨h1, h2⟩ := bcell hb
  have z0 : w1.cell? ⟨w.heap.size + 1 + 1 + 1, 0, none⟩ = some (.int .i64 0) := by rw [h1 _ _ (by simp)]; simp [go_sem]
  have z1 : w1.cell? ⟨w.heap.size + 1 + 1 + 1, 1, none⟩ = some (.int .i64 0) := by rw [h1 _ _ (by simp)]; simp [go_sem]
  have f0 : w1.frozen? ⟨w.heap.size + 1 + 1 + 1, 0, none⟩ = false := by rw [h2 _ _ (by simp)]; simp [go_sem]
  have f1 : w1.frozen? ⟨w.heap.size + 1 + 1 + 1, 1, none⟩ = false := by rw [h2 _ _ (by simp)]; simp [go_sem]
  clear h1 h2 hK
  go_wp2_with fail
  refine bodyPost_ret (v := .tuple #[.agg #[.int .i64 rN, .int .i64 rD], .int .i64 rE]) (by simp [results, Try.results32, go_sem, z0, z1]) rfl ⟨rfl, ?_⟩
  exact (((((((Below.refl _ _).alloc (Nat.le_refl _) _).alloc (by simp) _).alloc (by simp; omega) _).alloc (by simp; omega) _).trans (hb.mono (by simp; omega))).setCell (by simp; omega) _).setCell (by simp; omega) _
theorem Bd.i64 {x : Int} (h : Bd x) : I64 x := by obtain ⟨h1, h2⟩ := h; exact ⟨by omega, by omega⟩
theorem add_i {x y z u : Int} (hx : Bd x) (hy : Bd y) (hz : Bd z) (hu : Bd u) : I64 (x * y + z * u) := by
  have h := mul_bd hx hy; have h' := mul_bd hz hu; exact ⟨by omega, by omega⟩
theorem add_hop (a b c d : Int) : (vld a b && vld c d) = true → I64 (a * d + c * b) ∧ I64 (b * d) ∧ ∀ W, Calls Try.prog 34 #[.agg #[.int .i64 a, .int .i64 b], .agg #[.int .i64 c, .int .i64 d]] W fun e W' => e = .returned (.tuple #[.int .i64 (a * d + c * b), .int .i64 (b * d)]) ∧ Below W.heap.size W W' := by
  intro h
  obtain ⟨ha, hb, hc, hd⟩ := vld2 h
  exact ⟨add_i ha hd hc hb, mul_i hb hd, fun W => plus_any a b c d W ha hb hc hd⟩
set_option maxRecDepth 100000 in
set_option maxHeartbeats 400000 in
theorem radd_any (a b c d : Int) (w : World) (ha : I64 a) (hb : I64 b) (hc : I64 c) (hd : I64 d) :
    Calls Try.prog 16 #[.agg #[.int .i64 a, .int .i64 b], .agg #[.int .i64 c, .int .i64 d]] w
      fun e w' => e = .returned (.tuple #[.agg #[.int .i64 (opN (vld a b && vld c d) (a * d + c * b) (b * d)), .int .i64 (opD (vld a b && vld c d) (a * d + c * b) (b * d))], .int .i64 (opE (vld a b && vld c d) (a * d + c * b) (b * d))]) ∧ Below w.heap.size w w' := by
  have hat := fun W0 => rcombine_any 34 a b c d (a * d + c * b) (b * d) W0 ha hb hc hd (fun W args => by simp [go_sem]) (add_hop a b c d)
  have HA := Lib.hid hat; clear hat
  generalize opN (vld a b && vld c d) (a * d + c * b) (b * d) = rN at *
  generalize opD (vld a b && vld c d) (a * d + c * b) (b * d) = rD at *
  generalize opE (vld a b && vld c d) (a * d + c * b) (b * d) = rE at *
  go_enter Try.func16, Try.ntmps16
  go_wp2_with fail
  refine (HA.out _).mono ?_
  rintro e w1 ⟨rfl, hb⟩
  obtain ⟨h1, h2⟩ := bcell hb
  have z0 : w1.cell? ⟨w.heap.size + 1 + 1, 0, none⟩ = some (.int .i64 0) := by rw [h1 _ _ (by simp)]; simp [go_sem]
  have z1 : w1.cell? ⟨w.heap.size + 1 + 1, 1, none⟩ = some (.int .i64 0) := by rw [h1 _ _ (by simp)]; simp [go_sem]
  have f0 : w1.frozen? ⟨w.heap.size + 1 + 1, 0, none⟩ = false := by rw [h2 _ _ (by simp)]; simp [go_sem]
  have f1 : w1.frozen? ⟨w.heap.size + 1 + 1, 1, none⟩ = false := by rw [h2 _ _ (by simp)]; simp [go_sem]
  clear h1 h2
  go_wp2_with fail
  refine bodyPost_ret (v := .tuple #[.agg #[.int .i64 rN, .int .i64 rD], .int .i64 rE]) (by simp [results, Try.results16, go_sem, z0, z1]) rfl ⟨rfl, ?_⟩
  exact ((((((Below.refl _ _).alloc (Nat.le_refl _) _).alloc (by simp) _).alloc (by simp; omega) _).trans (hb.mono (by simp; omega))).setCell (by simp; omega) _).setCell (by simp; omega) _
end Go.Proofs.Ytiffgcipdamngaa

namespace Go.Proofs.Ytiffgcipdamngaa
open Go.RowKit Go.Sort
open Go.RowKit (Below)
set_option linter.unusedVariables false
set_option linter.unusedSimpArgs false

section
variable {α : Type} {f : α → List Value} {n : Nat}
/-- The cells of a row, one element after another. -/
def flt (f : α → List Value) (L : List α) : List Value := L.flatMap f
theorem flt_len (hf : ∀ x, (f x).length = n) : ∀ L : List α, (flt f L).length = L.length * n
  | [] => by simp [flt]
  | x :: L => by
    show (f x ++ flt f L).length = _
    rw [List.length_append, hf, flt_len hf L, List.length_cons, Nat.add_mul, Nat.one_mul, Nat.add_comm]
theorem flt_snoc (L : List α) (x : α) : flt f L ++ f x = flt f (L ++ [x]) := by simp [flt]
theorem flt_app (L M : List α) : flt f L ++ flt f M = flt f (L ++ M) := by simp [flt]
theorem flt_at (hf : ∀ x, (f x).length = n) : ∀ {L : List α} {k i : Nat} (hk : k < L.length) (hi : i < n), (flt f L)[k * n + i]? = (f L[k])[i]?
  | x :: L, 0, i, _, hi => by
    show (f x ++ flt f L)[0 * n + i]? = _
    rw [Nat.zero_mul, Nat.zero_add, List.getElem?_append_left (by rw [hf]; exact hi)]
    rfl
  | x :: L, k + 1, i, hk, hi => by
    show (f x ++ flt f L)[(k + 1) * n + i]? = _
    rw [List.getElem?_append_right (by rw [hf, Nat.add_mul, Nat.one_mul]; omega), hf, show (k + 1) * n + i - n = k * n + i by rw [Nat.add_mul, Nat.one_mul]; omega]
    exact flt_at hf (L := L) (by simpa using hk) hi
theorem flt_one (h : ∀ x, ∀ u ∈ f x, u.oneCell' = true) (L : List α) : ∀ u ∈ flt f L, u.oneCell' = true := by
  intro u hu
  obtain ⟨x, _, hx⟩ := List.mem_flatMap.1 hu
  exact h x u hx
end

def bvc (b : Bv) : List Value := [.slice b.A b.xs.length b.C, .int .i64 b.lo, .int .i64 b.hi]

theorem bvc_len (b : Bv) : (bvc b).length = 3 := rfl

theorem bvc_one (q : Bv) : ∀ u ∈ bvc q, u.oneCell' = true := by
  intro u hu; simp only [bvc, List.mem_cons, List.not_mem_nil, or_false] at hu
  rcases hu with rfl | rfl | rfl <;> rfl
theorem bvc_at {L : List Bv} {k : Nat} (hk : k < L.length) : (flt bvc L)[k * 3]? = some (.slice (gdB L k).A (gdB L k).xs.length (gdB L k).C) ∧ (flt bvc L)[k * 3 + 1]? = some (.int .i64 (gdB L k).lo) ∧ (flt bvc L)[k * 3 + 2]? = some (.int .i64 (gdB L k).hi) := by
  have h0 := flt_at bvc_len hk (show 0 < 3 by omega)
  have h1 := flt_at bvc_len hk (show 1 < 3 by omega)
  have h2 := flt_at bvc_len hk (show 2 < 3 by omega)
  rw [← gdB_at hk] at h0 h1 h2
  exact ⟨h0, h1, h2⟩


theorem bds_cells {w : World} {b o : Nat} {L : List Bv} (h : BdS w (some ⟨b, o, none⟩) L) (j : Nat) (u : Value) (hu : (flt bvc L)[j]? = some u) : w.cell? ((⟨b, o, none⟩ : Addr).add j) = some u := by
  have hj : j < L.length * 3 := by rw [← flt_len bvc_len]; exact (List.getElem?_eq_some_iff.1 hu).1
  have hk : j / 3 < L.length := by omega
  obtain ⟨b1, o1, e, c0, c1, c2, _⟩ := h _ hk
  obtain ⟨rfl, rfl⟩ : b = b1 ∧ o = o1 := by simpa using e
  obtain ⟨e0, e1, e2⟩ := bvc_at hk
  rw [add_plain b o j]
  have hm : j % 3 = 0 ∨ j % 3 = 1 ∨ j % 3 = 2 := by omega
  rcases hm with p | p | p
  · rw [show j / 3 * 3 = j by omega] at e0 c0; rw [e0] at hu; rw [c0, hu]
  · rw [show j / 3 * 3 + 1 = j by omega] at e1; rw [show o + j / 3 * 3 + 1 = o + j by omega] at c1; rw [e1] at hu; rw [c1, hu]
  · rw [show j / 3 * 3 + 2 = j by omega] at e2; rw [show o + j / 3 * 3 + 2 = o + j by omega] at c2; rw [e2] at hu; rw [c2, hu]
theorem gdB_app_l {L M : List Bv} {i : Nat} (h : i < L.length) : gdB (L ++ M) i = gdB L i := by
  unfold gdB; rw [List.getD_eq_getElem?_getD, List.getD_eq_getElem?_getD, List.getElem?_append_left h]
theorem gdB_app_r {L M : List Bv} {i : Nat} (h : ¬ i < L.length) : gdB (L ++ M) i = gdB M (i - L.length) := by
  unfold gdB; rw [List.getD_eq_getElem?_getD, List.getD_eq_getElem?_getD, List.getElem?_append_right (by omega)]



theorem bds_src {w : World} {A : Option Addr} {L : List Bv} (h : BdS w A L) : Src w A (flt bvc L) := fun j u hu => by
  have hj : j < L.length * 3 := by rw [← flt_len bvc_len]; exact (List.getElem?_eq_some_iff.1 hu).1
  obtain ⟨b1, o1, rfl, _⟩ := h (j / 3) (by omega)
  exact ⟨_, rfl, bds_cells h j u hu⟩

theorem own_bds {w : World} {base n : Nat} {e : TypeId} {v : Value} {L : List Bv} (h : w.ownsRow base e 3 v n (flt bvc L)) (hs : ∀ k, k < L.length → SlS w (gdB L k).A (gdB L k).xs) : ∃ A C, v = .slice A L.length C ∧ n = L.length ∧ L.length ≤ C ∧ C ≤ maxLen ∧ BdS w A L := by
  have hn : n = L.length := by have := h.1; rw [flt_len bvc_len] at this; omega
  subst hn
  obtain ⟨A, C, hv, h1, h2, hc⟩ := own_form h
  refine ⟨A, C, hv, rfl, h1, h2, fun k hk => ?_⟩
  obtain ⟨e0, e1, e2⟩ := bvc_at hk
  obtain ⟨g, rfl, _, c0⟩ := hc _ _ e0
  obtain ⟨g1, k1, _, c1⟩ := hc _ _ e1
  obtain ⟨g2, k2, _, c2⟩ := hc _ _ e2
  obtain rfl : g = g1 := by simpa using k1
  obtain rfl : g = g2 := by simpa using k2
  exact ⟨g, 0, rfl, by rw [Nat.zero_add]; exact c0, by rw [Nat.zero_add]; exact c1, by rw [Nat.zero_add]; exact c2, hs k hk⟩
end Go.Proofs.Ytiffgcipdamngaa
