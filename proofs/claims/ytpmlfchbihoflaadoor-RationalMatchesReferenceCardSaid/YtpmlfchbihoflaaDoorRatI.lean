/-
  Package rational: Add, Sub, Mul and Div return the reduced result, or ErrArg, ErrZero, ErrRange, for any two pairs of ints.
-/
import Derived.Test.YtpmlfchbihoflaaDoorRatH
namespace Go.Proofs.YtpmlfchbihoflaaDoor
open Go.RowKit

def opE (v : Bool) (p q : Int) : Int := if v = true then mkE p q else 1
def opN (v : Bool) (p q : Int) : Int := if v = true then mkN p q else 0
def opD (v : Bool) (p q : Int) : Int := if v = true then mkD p q else 0

theorem combine_enter (cap : Array Value) (W : World) : (callFunc 53 cap).run Tryd.prog W = .ok (.enter 53 cap) W := by simp [go_sem]

set_option maxRecDepth 100000 in
set_option maxHeartbeats 400000 in
theorem combine_any (K : FuncId) (a b c d p q : Int) (w : World) (ha : I64 a) (hb : I64 b) (hc : I64 c) (hd : I64 d) (hK : ∀ W args, (callFunc K args).run Tryd.prog W = .ok (.enter K args) W)
    (hop : (vld a b && vld c d) = true → I64 p ∧ I64 q ∧ ∀ W, Calls Tryd.prog K #[.agg #[.int .i64 a, .int .i64 b], .agg #[.int .i64 c, .int .i64 d]] W fun e W' => e = .returned (.tuple #[.int .i64 p, .int .i64 q]) ∧ Below W.heap.size W W') :
    Calls Tryd.prog 33 #[.func (.func K) #[] #[], .agg #[.int .i64 a, .int .i64 b], .agg #[.int .i64 c, .int .i64 d]] w
      fun e w' => e = .returned (.tuple #[.agg #[.int .i64 (opN (vld a b && vld c d) p q), .int .i64 (opD (vld a b && vld c d) p q)], .int .i64 (opE (vld a b && vld c d) p q)]) ∧ Below w.heap.size w w' := by
  have hmf : ∀ (fn : Fn) (first cap : Array Value) (w : World), (Instr.makeFunc fn first cap).run Tryd.prog w = .ok (.func fn first cap) w := fun _ _ _ _ => rfl
  have hat : ∀ W0 : World, W0.cell? ⟨w.heap.size, 0, none⟩ = some (.func (.func K) #[] #[]) → W0.cell? ⟨w.heap.size + 1, 0, none⟩ = some (.int .i64 a) → W0.cell? ⟨w.heap.size + 1, 1, none⟩ = some (.int .i64 b) →
      W0.cell? ⟨w.heap.size + 1 + 1, 0, none⟩ = some (.int .i64 c) → W0.cell? ⟨w.heap.size + 1 + 1, 1, none⟩ = some (.int .i64 d) →
      Calls Tryd.prog 30 #[.func (.func 53) #[] #[.pointer (some ⟨w.heap.size + 1, 0, none⟩), .pointer (some ⟨w.heap.size + 1 + 1, 0, none⟩), .pointer (some ⟨w.heap.size, 0, none⟩)]] W0
        fun e w' => e = .returned (.tuple #[.agg #[.int .i64 (opN (vld a b && vld c d) p q), .int .i64 (opD (vld a b && vld c d) p q)], .int .i64 (opE (vld a b && vld c d) p q)]) ∧ Below W0.heap.size W0 w' := by
    intro W0 c0 c1 c2 c3 c4
    by_cases hv : (vld a b && vld c d) = true
    · obtain ⟨hp, hq, ho⟩ := hop hv
      by_cases he : mkE p q = 0
      · rw [show opN (vld a b && vld c d) p q = mkN p q by simp [opN, hv], show opD (vld a b && vld c d) p q = mkD p q by simp [opD, hv], show opE (vld a b && vld c d) p q = 0 by simp [opE, hv, he]]
        refine attemptR_ok _ _ _ _ _ (combine_enter _) fun W hW => ?_
        exact combineW_ok K _ _ _ a b c d W ha hb hc hd (by rw [hW.cell (block_lt c1)]; exact c1) (by rw [hW.cell (block_lt c2)]; exact c2) (by rw [hW.cell (block_lt c3)]; exact c3) (by rw [hW.cell (block_lt c4)]; exact c4) (by rw [hW.cell (block_lt c0)]; exact c0) hv p q hp hq hK ho he
      · rw [show opN (vld a b && vld c d) p q = 0 by simp [opN, hv, mkN, he], show opD (vld a b && vld c d) p q = 0 by simp [opD, hv, mkD, he], show opE (vld a b && vld c d) p q = mkE p q by simp [opE, hv]]
        refine attemptR_err _ _ _ _ (combine_enter _) fun W hW => ?_
        exact combineW_err K _ _ _ a b c d W ha hb hc hd (by rw [hW.cell (block_lt c1)]; exact c1) (by rw [hW.cell (block_lt c2)]; exact c2) (by rw [hW.cell (block_lt c3)]; exact c3) (by rw [hW.cell (block_lt c4)]; exact c4) (by rw [hW.cell (block_lt c0)]; exact c0) hv p q hp hq hK ho he
    · rw [show opN (vld a b && vld c d) p q = 0 by simp only [opN, if_neg hv], show opD (vld a b && vld c d) p q = 0 by simp only [opD, if_neg hv], show opE (vld a b && vld c d) p q = 1 by simp only [opE, if_neg hv]]
      refine attemptR_err _ _ _ _ (combine_enter _) fun W hW => ?_
      exact combineW_arg K _ _ _ a b c d W ha hb hc hd (by rw [hW.cell (block_lt c1)]; exact c1) (by rw [hW.cell (block_lt c2)]; exact c2) (by rw [hW.cell (block_lt c3)]; exact c3) (by rw [hW.cell (block_lt c4)]; exact c4) (by rw [hW.cell (block_lt c0)]; exact c0) (by simpa using hv)
  have HA := Lib.hid hat; clear hat hop
  generalize opN (vld a b && vld c d) p q = rN at *
  generalize opD (vld a b && vld c d) p q = rD at *
  generalize opE (vld a b && vld c d) p q = rE at *
  go_enter Tryd.func33, Tryd.ntmps33
  go_wp2_with fail
  refine (HA.out _ (by simp [go_sem]) (by simp [go_sem]) (by simp [go_sem]) (by simp [go_sem]) (by simp [go_sem])).mono ?_
  rintro e w1 ⟨rfl, hb⟩
  obtain ⟨h1, h2⟩ := bcell hb
  have z0 : w1.cell? ⟨w.heap.size + 1 + 1 + 1, 0, none⟩ = some (.int .i64 0) := by rw [h1 _ _ (by simp)]; simp [go_sem]
  have z1 : w1.cell? ⟨w.heap.size + 1 + 1 + 1, 1, none⟩ = some (.int .i64 0) := by rw [h1 _ _ (by simp)]; simp [go_sem]
  have f0 : w1.frozen? ⟨w.heap.size + 1 + 1 + 1, 0, none⟩ = false := by rw [h2 _ _ (by simp)]; simp [go_sem]
  have f1 : w1.frozen? ⟨w.heap.size + 1 + 1 + 1, 1, none⟩ = false := by rw [h2 _ _ (by simp)]; simp [go_sem]
  clear h1 h2 hK
  go_wp2_with fail
  refine bodyPost_ret (v := .tuple #[.agg #[.int .i64 rN, .int .i64 rD], .int .i64 rE]) (by simp [results, Tryd.results33, go_sem, z0, z1]) rfl ⟨rfl, ?_⟩
  exact (((((((Below.refl _ _).alloc (Nat.le_refl _) _).alloc (by simp) _).alloc (by simp; omega) _).alloc (by simp; omega) _).trans (hb.mono (by simp; omega))).setCell (by simp; omega) _).setCell (by simp; omega) _

theorem Bd.i64 {x : Int} (h : Bd x) : I64 x := by obtain ⟨h1, h2⟩ := h; exact ⟨by omega, by omega⟩
theorem vld_bd {n d : Int} (h : vld n d = true) : Bd n ∧ Bd d := by
  obtain ⟨h1, h2, h3, h4, _⟩ := (vld_iff n d).1 h
  exact ⟨⟨h3, h4⟩, ⟨by omega, h2⟩⟩
theorem vld2 {a b c d : Int} (h : (vld a b && vld c d) = true) : Bd a ∧ Bd b ∧ Bd c ∧ Bd d := by
  rw [Bool.and_eq_true] at h
  have h1 := vld_bd h.1
  have h2 := vld_bd h.2
  exact ⟨h1.1, h1.2, h2.1, h2.2⟩
theorem mul_i {x y : Int} (hx : Bd x) (hy : Bd y) : I64 (x * y) := by have h := mul_bd hx hy; exact ⟨by omega, by omega⟩
theorem add_i {x y z u : Int} (hx : Bd x) (hy : Bd y) (hz : Bd z) (hu : Bd u) : I64 (x * y + z * u) := by
  have h := mul_bd hx hy; have h' := mul_bd hz hu; exact ⟨by omega, by omega⟩
theorem sub_i {x y z u : Int} (hx : Bd x) (hy : Bd y) (hz : Bd z) (hu : Bd u) : I64 (x * y - z * u) := by
  have h := mul_bd hx hy; have h' := mul_bd hz hu; exact ⟨by omega, by omega⟩

theorem add_hop (a b c d : Int) : (vld a b && vld c d) = true → I64 (a * d + c * b) ∧ I64 (b * d) ∧ ∀ W, Calls Tryd.prog 34 #[.agg #[.int .i64 a, .int .i64 b], .agg #[.int .i64 c, .int .i64 d]] W fun e W' => e = .returned (.tuple #[.int .i64 (a * d + c * b), .int .i64 (b * d)]) ∧ Below W.heap.size W W' := by
  intro h
  obtain ⟨ha, hb, hc, hd⟩ := vld2 h
  exact ⟨add_i ha hd hc hb, mul_i hb hd, fun W => plus_any a b c d W ha hb hc hd⟩
set_option maxRecDepth 100000 in
set_option maxHeartbeats 400000 in
theorem add_any (a b c d : Int) (w : World) (ha : I64 a) (hb : I64 b) (hc : I64 c) (hd : I64 d) :
    Calls Tryd.prog 10 #[.agg #[.int .i64 a, .int .i64 b], .agg #[.int .i64 c, .int .i64 d]] w
      fun e w' => e = .returned (.tuple #[.agg #[.int .i64 (opN (vld a b && vld c d) (a * d + c * b) (b * d)), .int .i64 (opD (vld a b && vld c d) (a * d + c * b) (b * d))], .int .i64 (opE (vld a b && vld c d) (a * d + c * b) (b * d))]) ∧ Below w.heap.size w w' := by
  have hat := fun W0 => combine_any 34 a b c d (a * d + c * b) (b * d) W0 ha hb hc hd (fun W args => by simp [go_sem]) (add_hop a b c d)
  have HA := Lib.hid hat; clear hat
  generalize opN (vld a b && vld c d) (a * d + c * b) (b * d) = rN at *
  generalize opD (vld a b && vld c d) (a * d + c * b) (b * d) = rD at *
  generalize opE (vld a b && vld c d) (a * d + c * b) (b * d) = rE at *
  go_enter Tryd.func10, Tryd.ntmps10
  go_wp2_with fail
  refine (HA.out _).mono ?_
  rintro e w1 ⟨rfl, hb⟩
  obtain ⟨h1, h2⟩ := bcell hb
  have z0 : w1.cell? ⟨w.heap.size + 1 + 1, 0, none⟩ = some (.int .i64 0) := by rw [h1 _ _ (by simp)]; simp [go_sem]
  have z1 : w1.cell? ⟨w.heap.size + 1 + 1, 1, none⟩ = some (.int .i64 0) := by rw [h1 _ _ (by simp)]; simp [go_sem]
  have f0 : w1.frozen? ⟨w.heap.size + 1 + 1, 0, none⟩ = false := by rw [h2 _ _ (by simp)]; simp [go_sem]
  have f1 : w1.frozen? ⟨w.heap.size + 1 + 1, 1, none⟩ = false := by rw [h2 _ _ (by simp)]; simp [go_sem]
  clear h1 h2
  go_wp2_with fail
  refine bodyPost_ret (v := .tuple #[.agg #[.int .i64 rN, .int .i64 rD], .int .i64 rE]) (by simp [results, Tryd.results10, go_sem, z0, z1]) rfl ⟨rfl, ?_⟩
  exact ((((((Below.refl _ _).alloc (Nat.le_refl _) _).alloc (by simp) _).alloc (by simp; omega) _).trans (hb.mono (by simp; omega))).setCell (by simp; omega) _).setCell (by simp; omega) _

theorem sub_hop (a b c d : Int) : (vld a b && vld c d) = true → I64 (a * d - c * b) ∧ I64 (b * d) ∧ ∀ W, Calls Tryd.prog 36 #[.agg #[.int .i64 a, .int .i64 b], .agg #[.int .i64 c, .int .i64 d]] W fun e W' => e = .returned (.tuple #[.int .i64 (a * d - c * b), .int .i64 (b * d)]) ∧ Below W.heap.size W W' := by
  intro h
  obtain ⟨ha, hb, hc, hd⟩ := vld2 h
  exact ⟨sub_i ha hd hc hb, mul_i hb hd, fun W => minus_any a b c d W ha hb hc hd⟩
set_option maxRecDepth 100000 in
set_option maxHeartbeats 400000 in
theorem sub_any (a b c d : Int) (w : World) (ha : I64 a) (hb : I64 b) (hc : I64 c) (hd : I64 d) :
    Calls Tryd.prog 12 #[.agg #[.int .i64 a, .int .i64 b], .agg #[.int .i64 c, .int .i64 d]] w
      fun e w' => e = .returned (.tuple #[.agg #[.int .i64 (opN (vld a b && vld c d) (a * d - c * b) (b * d)), .int .i64 (opD (vld a b && vld c d) (a * d - c * b) (b * d))], .int .i64 (opE (vld a b && vld c d) (a * d - c * b) (b * d))]) ∧ Below w.heap.size w w' := by
  have hat := fun W0 => combine_any 36 a b c d (a * d - c * b) (b * d) W0 ha hb hc hd (fun W args => by simp [go_sem]) (sub_hop a b c d)
  have HA := Lib.hid hat; clear hat
  generalize opN (vld a b && vld c d) (a * d - c * b) (b * d) = rN at *
  generalize opD (vld a b && vld c d) (a * d - c * b) (b * d) = rD at *
  generalize opE (vld a b && vld c d) (a * d - c * b) (b * d) = rE at *
  go_enter Tryd.func12, Tryd.ntmps12
  go_wp2_with fail
  refine (HA.out _).mono ?_
  rintro e w1 ⟨rfl, hb⟩
  obtain ⟨h1, h2⟩ := bcell hb
  have z0 : w1.cell? ⟨w.heap.size + 1 + 1, 0, none⟩ = some (.int .i64 0) := by rw [h1 _ _ (by simp)]; simp [go_sem]
  have z1 : w1.cell? ⟨w.heap.size + 1 + 1, 1, none⟩ = some (.int .i64 0) := by rw [h1 _ _ (by simp)]; simp [go_sem]
  have f0 : w1.frozen? ⟨w.heap.size + 1 + 1, 0, none⟩ = false := by rw [h2 _ _ (by simp)]; simp [go_sem]
  have f1 : w1.frozen? ⟨w.heap.size + 1 + 1, 1, none⟩ = false := by rw [h2 _ _ (by simp)]; simp [go_sem]
  clear h1 h2
  go_wp2_with fail
  refine bodyPost_ret (v := .tuple #[.agg #[.int .i64 rN, .int .i64 rD], .int .i64 rE]) (by simp [results, Tryd.results12, go_sem, z0, z1]) rfl ⟨rfl, ?_⟩
  exact ((((((Below.refl _ _).alloc (Nat.le_refl _) _).alloc (by simp) _).alloc (by simp; omega) _).trans (hb.mono (by simp; omega))).setCell (by simp; omega) _).setCell (by simp; omega) _

theorem mul_hop (a b c d : Int) : (vld a b && vld c d) = true → I64 (a * c) ∧ I64 (b * d) ∧ ∀ W, Calls Tryd.prog 37 #[.agg #[.int .i64 a, .int .i64 b], .agg #[.int .i64 c, .int .i64 d]] W fun e W' => e = .returned (.tuple #[.int .i64 (a * c), .int .i64 (b * d)]) ∧ Below W.heap.size W W' := by
  intro h
  obtain ⟨ha, hb, hc, hd⟩ := vld2 h
  exact ⟨mul_i ha hc, mul_i hb hd, fun W => times_any a b c d W ha hb hc hd⟩
set_option maxRecDepth 100000 in
set_option maxHeartbeats 400000 in
theorem mul_any (a b c d : Int) (w : World) (ha : I64 a) (hb : I64 b) (hc : I64 c) (hd : I64 d) :
    Calls Tryd.prog 14 #[.agg #[.int .i64 a, .int .i64 b], .agg #[.int .i64 c, .int .i64 d]] w
      fun e w' => e = .returned (.tuple #[.agg #[.int .i64 (opN (vld a b && vld c d) (a * c) (b * d)), .int .i64 (opD (vld a b && vld c d) (a * c) (b * d))], .int .i64 (opE (vld a b && vld c d) (a * c) (b * d))]) ∧ Below w.heap.size w w' := by
  have hat := fun W0 => combine_any 37 a b c d (a * c) (b * d) W0 ha hb hc hd (fun W args => by simp [go_sem]) (mul_hop a b c d)
  have HA := Lib.hid hat; clear hat
  generalize opN (vld a b && vld c d) (a * c) (b * d) = rN at *
  generalize opD (vld a b && vld c d) (a * c) (b * d) = rD at *
  generalize opE (vld a b && vld c d) (a * c) (b * d) = rE at *
  go_enter Tryd.func14, Tryd.ntmps14
  go_wp2_with fail
  refine (HA.out _).mono ?_
  rintro e w1 ⟨rfl, hb⟩
  obtain ⟨h1, h2⟩ := bcell hb
  have z0 : w1.cell? ⟨w.heap.size + 1 + 1, 0, none⟩ = some (.int .i64 0) := by rw [h1 _ _ (by simp)]; simp [go_sem]
  have z1 : w1.cell? ⟨w.heap.size + 1 + 1, 1, none⟩ = some (.int .i64 0) := by rw [h1 _ _ (by simp)]; simp [go_sem]
  have f0 : w1.frozen? ⟨w.heap.size + 1 + 1, 0, none⟩ = false := by rw [h2 _ _ (by simp)]; simp [go_sem]
  have f1 : w1.frozen? ⟨w.heap.size + 1 + 1, 1, none⟩ = false := by rw [h2 _ _ (by simp)]; simp [go_sem]
  clear h1 h2
  go_wp2_with fail
  refine bodyPost_ret (v := .tuple #[.agg #[.int .i64 rN, .int .i64 rD], .int .i64 rE]) (by simp [results, Tryd.results14, go_sem, z0, z1]) rfl ⟨rfl, ?_⟩
  exact ((((((Below.refl _ _).alloc (Nat.le_refl _) _).alloc (by simp) _).alloc (by simp; omega) _).trans (hb.mono (by simp; omega))).setCell (by simp; omega) _).setCell (by simp; omega) _

theorem div_hop (a b c d : Int) : (vld a b && vld c d) = true → I64 (a * d) ∧ I64 (b * c) ∧ ∀ W, Calls Tryd.prog 38 #[.agg #[.int .i64 a, .int .i64 b], .agg #[.int .i64 c, .int .i64 d]] W fun e W' => e = .returned (.tuple #[.int .i64 (a * d), .int .i64 (b * c)]) ∧ Below W.heap.size W W' := by
  intro h
  obtain ⟨ha, hb, hc, hd⟩ := vld2 h
  exact ⟨mul_i ha hd, mul_i hb hc, fun W => over_any a b c d W ha hb hc hd⟩
set_option maxRecDepth 100000 in
set_option maxHeartbeats 400000 in
theorem div_any (a b c d : Int) (w : World) (ha : I64 a) (hb : I64 b) (hc : I64 c) (hd : I64 d) :
    Calls Tryd.prog 16 #[.agg #[.int .i64 a, .int .i64 b], .agg #[.int .i64 c, .int .i64 d]] w
      fun e w' => e = .returned (.tuple #[.agg #[.int .i64 (opN (vld a b && vld c d) (a * d) (b * c)), .int .i64 (opD (vld a b && vld c d) (a * d) (b * c))], .int .i64 (opE (vld a b && vld c d) (a * d) (b * c))]) ∧ Below w.heap.size w w' := by
  have hat := fun W0 => combine_any 38 a b c d (a * d) (b * c) W0 ha hb hc hd (fun W args => by simp [go_sem]) (div_hop a b c d)
  have HA := Lib.hid hat; clear hat
  generalize opN (vld a b && vld c d) (a * d) (b * c) = rN at *
  generalize opD (vld a b && vld c d) (a * d) (b * c) = rD at *
  generalize opE (vld a b && vld c d) (a * d) (b * c) = rE at *
  go_enter Tryd.func16, Tryd.ntmps16
  go_wp2_with fail
  refine (HA.out _).mono ?_
  rintro e w1 ⟨rfl, hb⟩
  obtain ⟨h1, h2⟩ := bcell hb
  have z0 : w1.cell? ⟨w.heap.size + 1 + 1, 0, none⟩ = some (.int .i64 0) := by rw [h1 _ _ (by simp)]; simp [go_sem]
  have z1 : w1.cell? ⟨w.heap.size + 1 + 1, 1, none⟩ = some (.int .i64 0) := by rw [h1 _ _ (by simp)]; simp [go_sem]
  have f0 : w1.frozen? ⟨w.heap.size + 1 + 1, 0, none⟩ = false := by rw [h2 _ _ (by simp)]; simp [go_sem]
  have f1 : w1.frozen? ⟨w.heap.size + 1 + 1, 1, none⟩ = false := by rw [h2 _ _ (by simp)]; simp [go_sem]
  clear h1 h2
  go_wp2_with fail
  refine bodyPost_ret (v := .tuple #[.agg #[.int .i64 rN, .int .i64 rD], .int .i64 rE]) (by simp [results, Tryd.results16, go_sem, z0, z1]) rfl ⟨rfl, ?_⟩
  exact ((((((Below.refl _ _).alloc (Nat.le_refl _) _).alloc (by simp) _).alloc (by simp; omega) _).trans (hb.mono (by simp; omega))).setCell (by simp; omega) _).setCell (by simp; omega) _

end Go.Proofs.YtpmlfchbihoflaaDoor
