/-
  Package rational: the four operations on pairs of integers, for numbers: sum, difference, product, quotient, not reduced.
-/
import Derived.Test.YtpmlfchbihoflaaDoorRatE
namespace Go.Proofs.YtpmlfchbihoflaaDoor
open Go.RowKit

/-- From -MaxRat to MaxRat. -/
def Bd (x : Int) : Prop := -1000000000 ≤ x ∧ x ≤ 1000000000
theorem mul_bd {x y : Int} (hx : Bd x) (hy : Bd y) : -1000000000000000000 ≤ x * y ∧ x * y ≤ 1000000000000000000 := by
  have h : (x * y).natAbs ≤ 1000000000 * 1000000000 := by
    rw [Int.natAbs_mul]
    exact Nat.mul_le_mul (by have := hx.1; have := hx.2; omega) (by have := hy.1; have := hy.2; omega)
  generalize x * y = z at h
  omega
theorem mul_wrap {x y : Int} (hx : Bd x) (hy : Bd y) : wrap64 (x * y) = x * y := by
  have h := mul_bd hx hy
  exact IntWalk.wrap64_in _ ⟨by omega, by omega⟩
theorem add_wrap {x y z u : Int} (hx : Bd x) (hy : Bd y) (hz : Bd z) (hu : Bd u) : wrap64 (wrap64 (x * y) + wrap64 (z * u)) = x * y + z * u := by
  rw [mul_wrap hx hy, mul_wrap hz hu]
  have h := mul_bd hx hy
  have h' := mul_bd hz hu
  exact IntWalk.wrap64_in _ ⟨by omega, by omega⟩
theorem sub_wrap {x y z u : Int} (hx : Bd x) (hy : Bd y) (hz : Bd z) (hu : Bd u) : wrap64 (wrap64 (x * y) - wrap64 (z * u)) = x * y - z * u := by
  rw [mul_wrap hx hy, mul_wrap hz hu]
  have h := mul_bd hx hy
  have h' := mul_bd hz hu
  exact IntWalk.wrap64_in _ ⟨by omega, by omega⟩

theorem ret2_int {k l : IntKind} {a b c d : Int} (h : a = b) (h' : c = d) : Ending.returned (.tuple #[.int k a, .int l c]) = .returned (.tuple #[.int k b, .int l d]) := by rw [h, h']

set_option maxHeartbeats 400000 in
theorem plus_any (a b c d : Int) (w : World) (ha : Bd a) (hb : Bd b) (hc : Bd c) (hd : Bd d) :
    Calls Tryd.prog 34 #[.agg #[.int .i64 a, .int .i64 b], .agg #[.int .i64 c, .int .i64 d]] w fun e w' => e = .returned (.tuple #[.int .i64 (a * d + c * b), .int .i64 (b * d)]) ∧ Below w.heap.size w w' := by
  go_enter Tryd.func34, Tryd.ntmps34
  go_wp2
  go_quiet (fail)
  go_wp2
  go_ret2
  exact ⟨ret2_int (add_wrap ha hd hc hb) (mul_wrap hb hd), below_drewN' (((Below.refl _ _).alloc (Nat.le_refl _) _).alloc (by simp) _) _⟩

set_option maxHeartbeats 400000 in
theorem minus_any (a b c d : Int) (w : World) (ha : Bd a) (hb : Bd b) (hc : Bd c) (hd : Bd d) :
    Calls Tryd.prog 36 #[.agg #[.int .i64 a, .int .i64 b], .agg #[.int .i64 c, .int .i64 d]] w fun e w' => e = .returned (.tuple #[.int .i64 (a * d - c * b), .int .i64 (b * d)]) ∧ Below w.heap.size w w' := by
  go_enter Tryd.func36, Tryd.ntmps36
  go_wp2
  go_quiet (fail)
  go_wp2
  go_ret2
  exact ⟨ret2_int (sub_wrap ha hd hc hb) (mul_wrap hb hd), below_drewN' (((Below.refl _ _).alloc (Nat.le_refl _) _).alloc (by simp) _) _⟩

set_option maxHeartbeats 400000 in
theorem times_any (a b c d : Int) (w : World) (ha : Bd a) (hb : Bd b) (hc : Bd c) (hd : Bd d) :
    Calls Tryd.prog 37 #[.agg #[.int .i64 a, .int .i64 b], .agg #[.int .i64 c, .int .i64 d]] w fun e w' => e = .returned (.tuple #[.int .i64 (a * c), .int .i64 (b * d)]) ∧ Below w.heap.size w w' := by
  go_enter Tryd.func37, Tryd.ntmps37
  go_wp2
  go_quiet (fail)
  go_wp2
  go_ret2
  exact ⟨ret2_int (mul_wrap ha hc) (mul_wrap hb hd), below_drewN' (((Below.refl _ _).alloc (Nat.le_refl _) _).alloc (by simp) _) _⟩

set_option maxHeartbeats 400000 in
theorem over_any (a b c d : Int) (w : World) (ha : Bd a) (hb : Bd b) (hc : Bd c) (hd : Bd d) :
    Calls Tryd.prog 38 #[.agg #[.int .i64 a, .int .i64 b], .agg #[.int .i64 c, .int .i64 d]] w fun e w' => e = .returned (.tuple #[.int .i64 (a * d), .int .i64 (b * c)]) ∧ Below w.heap.size w w' := by
  go_enter Tryd.func38, Tryd.ntmps38
  go_wp2
  go_quiet (fail)
  go_wp2
  go_ret2
  exact ⟨ret2_int (mul_wrap ha hd) (mul_wrap hb hc), below_drewN' (((Below.refl _ _).alloc (Nat.le_refl _) _).alloc (by simp) _) _⟩

end Go.Proofs.YtpmlfchbihoflaaDoor
