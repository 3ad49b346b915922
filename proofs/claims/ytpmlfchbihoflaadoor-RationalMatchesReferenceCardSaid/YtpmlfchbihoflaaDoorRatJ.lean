/-
  Package rational: Cmp returns the sign of the comparison; Floor the greatest integer that is not above; or ErrArg.
-/
import Derived.Test.YtpmlfchbihoflaaDoorRatI
namespace Go.Proofs.YtpmlfchbihoflaaDoor
open Go.RowKit

def sgn (x y : Int) : Int := if x < y then -1 else if y < x then 1 else 0

set_option maxHeartbeats 400000 in
theorem compare_any (x y : Int) (w : World) (_hx : I64 x) (_hy : I64 y) :
    Calls Tryd.prog 42 #[.int .i64 x, .int .i64 y] w fun e w' => e = .returned (.int .i64 (sgn x y)) ∧ w = w' := by
  have e1 : (x != x) = false := by simp
  have e2 : (y != y) = false := by simp
  by_cases h1 : x < y
  · go_enter Tryd.func42, Tryd.ntmps42
    go_wp2
    go_ret
    exact ⟨ret_int (by unfold sgn; rw [if_pos h1]), rfl⟩
  · by_cases h2 : y < x
    · go_enter Tryd.func42, Tryd.ntmps42
      go_wp2
      go_ret
      exact ⟨ret_int (by unfold sgn; rw [if_neg (by omega), if_pos h2]), rfl⟩
    · go_enter Tryd.func42, Tryd.ntmps42
      go_wp2
      go_ret
      exact ⟨ret_int (by unfold sgn; rw [if_neg (by omega), if_neg (by omega)]), rfl⟩
/-! CMP -/
set_option maxRecDepth 100000 in
set_option maxHeartbeats 400000 in
theorem cmpW_arg (x0 x1 : Nat) (a b c d : Int) (w : World) (ha : I64 a) (hb : I64 b) (hc : I64 c) (hd : I64 d)
    (g0 : w.cell? ⟨x0, 0, none⟩ = some (.int .i64 a)) (g1 : w.cell? ⟨x0, 1, none⟩ = some (.int .i64 b)) (g2 : w.cell? ⟨x1, 0, none⟩ = some (.int .i64 c)) (g3 : w.cell? ⟨x1, 1, none⟩ = some (.int .i64 d)) (hv : (vld a b && vld c d) = false) :
    Calls Tryd.prog 40 #[.pointer (some ⟨x0, 0, none⟩), .pointer (some ⟨x1, 0, none⟩)] w fun e w' => e = raise 1 ∧ Below w.heap.size w w' := by
  have l0 := block_lt g0
  have l1 := block_lt g2
  have HV := Lib.hid hv; clear hv
  go_enter Tryd.func40, Tryd.ntmps40
  go_wp2_with fail
  refine (require2_err _ a b c d _ ha hb hc hd (by simp [go_sem]) (by simp [go_sem]) (by simp [go_sem]) (by simp [go_sem]) HV.out).mono ?_
  rintro e w1 ⟨rfl, hb1⟩
  go_wp2_with fail
  exact ⟨rfl, rfl, ((Below.refl _ _).alloc (Nat.le_refl _) _).trans (hb1.mono (by simp))⟩

set_option maxRecDepth 100000 in
set_option maxHeartbeats 400000 in
theorem cmpW_ok (x0 x1 : Nat) (a b c d : Int) (w : World) (ha : I64 a) (hb : I64 b) (hc : I64 c) (hd : I64 d)
    (g0 : w.cell? ⟨x0, 0, none⟩ = some (.int .i64 a)) (g1 : w.cell? ⟨x0, 1, none⟩ = some (.int .i64 b)) (g2 : w.cell? ⟨x1, 0, none⟩ = some (.int .i64 c)) (g3 : w.cell? ⟨x1, 1, none⟩ = some (.int .i64 d)) (hv : (vld a b && vld c d) = true) :
    Calls Tryd.prog 40 #[.pointer (some ⟨x0, 0, none⟩), .pointer (some ⟨x1, 0, none⟩)] w fun e w' => e = .returned (.int .i64 (sgn (a * d) (c * b))) ∧ Below w.heap.size w w' := by
  have l0 := block_lt g0
  have l1 := block_lt g2
  obtain ⟨ba, bb, bc, bd⟩ := vld2 hv
  have e1 := mul_wrap ba bd
  have e2 := mul_wrap bc bb
  have i1 := mul_i ba bd
  have i2 := mul_i bc bb
  have HV := Lib.hid hv; clear hv
  go_enter Tryd.func40, Tryd.ntmps40
  go_wp2_with fail
  refine (require2_ok _ a b c d _ ha hb hc hd (by simp [go_sem]) (by simp [go_sem]) (by simp [go_sem]) (by simp [go_sem]) HV.out).mono ?_
  rintro e w1 ⟨rfl, hb1⟩
  obtain ⟨h1, h2⟩ := bcell hb1
  have k0 : w1.cell? ⟨x0, 0, none⟩ = some (.int .i64 a) := by rw [h1 _ _ (by simp; omega)]; simp [go_sem, l0, g0]
  have k1 : w1.cell? ⟨x0, 1, none⟩ = some (.int .i64 b) := by rw [h1 _ _ (by simp; omega)]; simp [go_sem, l0, g1]
  have k2 : w1.cell? ⟨x1, 0, none⟩ = some (.int .i64 c) := by rw [h1 _ _ (by simp; omega)]; simp [go_sem, l1, g2]
  have k3 : w1.cell? ⟨x1, 1, none⟩ = some (.int .i64 d) := by rw [h1 _ _ (by simp; omega)]; simp [go_sem, l1, g3]
  clear h1 h2 g0 g1 g2 g3
  go_wp2_with (go_at_call 42; refine (compare_any _ _ _ i1 i2).mono ?_; rintro e w' ⟨rfl, rfl⟩)
  go_ret
  exact ⟨rfl, ((Below.refl _ _).alloc (Nat.le_refl _) _).trans (hb1.mono (by simp))⟩

theorem cmp_enter (cap : Array Value) (W : World) : (callFunc 40 cap).run Tryd.prog W = .ok (.enter 40 cap) W := by simp [go_sem]
def cmpR (v : Bool) (a b c d : Int) : Int := if v = true then sgn (a * d) (c * b) else 0
def cmpE (v : Bool) : Int := if v = true then 0 else 1

set_option maxRecDepth 100000 in
set_option maxHeartbeats 400000 in
theorem cmp_any (a b c d : Int) (w : World) (ha : I64 a) (hb : I64 b) (hc : I64 c) (hd : I64 d) :
    Calls Tryd.prog 18 #[.agg #[.int .i64 a, .int .i64 b], .agg #[.int .i64 c, .int .i64 d]] w
      fun e w' => e = .returned (.tuple #[.int .i64 (cmpR (vld a b && vld c d) a b c d), .int .i64 (cmpE (vld a b && vld c d))]) ∧ Below w.heap.size w w' := by
  have hmf : ∀ (fn : Fn) (first cap : Array Value) (w : World), (Instr.makeFunc fn first cap).run Tryd.prog w = .ok (.func fn first cap) w := fun _ _ _ _ => rfl
  have hat : ∀ W0 : World, W0.cell? ⟨w.heap.size, 0, none⟩ = some (.int .i64 a) → W0.cell? ⟨w.heap.size, 1, none⟩ = some (.int .i64 b) →
      W0.cell? ⟨w.heap.size + 1, 0, none⟩ = some (.int .i64 c) → W0.cell? ⟨w.heap.size + 1, 1, none⟩ = some (.int .i64 d) →
      Calls Tryd.prog 39 #[.func (.func 40) #[] #[.pointer (some ⟨w.heap.size, 0, none⟩), .pointer (some ⟨w.heap.size + 1, 0, none⟩)]] W0
        fun e w' => e = .returned (.tuple #[.int .i64 (cmpR (vld a b && vld c d) a b c d), .int .i64 (cmpE (vld a b && vld c d))]) ∧ Below W0.heap.size W0 w' := by
    intro W0 c1 c2 c3 c4
    by_cases hv : (vld a b && vld c d) = true
    · rw [show cmpR (vld a b && vld c d) a b c d = sgn (a * d) (c * b) by simp [cmpR, hv], show cmpE (vld a b && vld c d) = 0 by simp [cmpE, hv]]
      refine attemptI_ok _ _ _ _ (cmp_enter _) fun W hW => ?_
      exact cmpW_ok _ _ a b c d W ha hb hc hd (by rw [hW.cell (block_lt c1)]; exact c1) (by rw [hW.cell (block_lt c2)]; exact c2) (by rw [hW.cell (block_lt c3)]; exact c3) (by rw [hW.cell (block_lt c4)]; exact c4) hv
    · rw [show cmpR (vld a b && vld c d) a b c d = 0 by simp only [cmpR, if_neg hv], show cmpE (vld a b && vld c d) = 1 by simp only [cmpE, if_neg hv]]
      refine attemptI_err _ _ _ _ (cmp_enter _) fun W hW => ?_
      exact cmpW_arg _ _ a b c d W ha hb hc hd (by rw [hW.cell (block_lt c1)]; exact c1) (by rw [hW.cell (block_lt c2)]; exact c2) (by rw [hW.cell (block_lt c3)]; exact c3) (by rw [hW.cell (block_lt c4)]; exact c4) (by simpa using hv)
  have HA := Lib.hid hat; clear hat
  generalize cmpR (vld a b && vld c d) a b c d = rN at *
  generalize cmpE (vld a b && vld c d) = rE at *
  go_enter Tryd.func18, Tryd.ntmps18
  go_wp2_with fail
  refine (HA.out _ (by simp [go_sem]) (by simp [go_sem]) (by simp [go_sem]) (by simp [go_sem])).mono ?_
  rintro e w1 ⟨rfl, hb⟩
  go_wp2_with fail
  go_ret2
  exact ⟨rfl, (((Below.refl _ _).alloc (Nat.le_refl _) _).alloc (by simp) _).trans (hb.mono (by simp; omega))⟩

/-! FLOOR -/
theorem tdiv_bd {a b : Int} (a1 : -1000000000 ≤ a) (a2 : a ≤ 1000000000) : -1000000000 ≤ a.tdiv b ∧ a.tdiv b ≤ 1000000000 := by
  have h : (a.tdiv b).natAbs ≤ a.natAbs := by rw [Int.natAbs_tdiv]; exact Nat.div_le_self _ _
  omega
theorem floor_neg {a b : Int} (b1 : 1 ≤ b) (h : a.tmod b < 0) : a.tdiv b - 1 = a / b := by
  rw [Int.tmod_eq_emod] at h
  rw [Int.tdiv_eq_ediv]
  have h0 := Int.emod_nonneg a (b := b) (by omega)
  split at h
  · omega
  · rename_i hh; rw [if_neg hh, Int.sign_eq_one_of_pos (by omega)]; omega
theorem floor_pos {a b : Int} (b1 : 1 ≤ b) (h : 0 ≤ a.tmod b) : a.tdiv b = a / b := by
  rw [Int.tmod_eq_emod] at h
  rw [Int.tdiv_eq_ediv]
  have h0 := Int.emod_lt_of_pos a (b := b) (by omega)
  split at h
  · rename_i hh; rw [if_pos hh]; omega
  · omega

set_option maxRecDepth 100000 in
set_option maxHeartbeats 400000 in
theorem floorW_neg (x0 : Nat) (a b : Int) (w : World) (ha : I64 a) (hb : I64 b) (g0 : w.cell? ⟨x0, 0, none⟩ = some (.int .i64 a)) (g1 : w.cell? ⟨x0, 1, none⟩ = some (.int .i64 b)) (hv : vld a b = true) (hs : a.tmod b < 0) :
    Calls Tryd.prog 44 #[.pointer (some ⟨x0, 0, none⟩)] w fun e w' => e = .returned (.int .i64 (a / b)) ∧ Below w.heap.size w w' := by
  have l0 := block_lt g0
  obtain ⟨⟨a1, a2⟩, ⟨_, b2⟩⟩ := vld_bd hv
  have b1 : 1 ≤ b := ((vld_iff a b).1 hv).1
  have q0 := tdiv_bd (b := b) a1 a2
  have q1 := q0.1
  have q2 := q0.2
  clear q0
  have HV := Lib.hid hv; clear hv
  have HQ := Lib.hid (floor_neg b1 hs)
  go_enter Tryd.func44, Tryd.ntmps44
  go_wp2_with fail
  refine (require1_ok _ a b _ ha hb (by simp [go_sem]) (by simp [go_sem]) HV.out).mono ?_
  rintro e w1 ⟨rfl, hb1⟩
  obtain ⟨h1, h2⟩ := bcell hb1
  have k0 : w1.cell? ⟨x0, 0, none⟩ = some (.int .i64 a) := by rw [h1 _ _ (by simp; omega)]; simp [go_sem, l0, g0]
  have k1 : w1.cell? ⟨x0, 1, none⟩ = some (.int .i64 b) := by rw [h1 _ _ (by simp; omega)]; simp [go_sem, l0, g1]
  clear h1 h2 g0 g1
  go_wp2
  go_ret
  exact ⟨ret_int HQ.out, ((Below.refl _ _).alloc (Nat.le_refl _) _).trans (hb1.mono (by simp))⟩

set_option maxRecDepth 100000 in
set_option maxHeartbeats 400000 in
theorem floorW_pos (x0 : Nat) (a b : Int) (w : World) (ha : I64 a) (hb : I64 b) (g0 : w.cell? ⟨x0, 0, none⟩ = some (.int .i64 a)) (g1 : w.cell? ⟨x0, 1, none⟩ = some (.int .i64 b)) (hv : vld a b = true) (hs : 0 ≤ a.tmod b) :
    Calls Tryd.prog 44 #[.pointer (some ⟨x0, 0, none⟩)] w fun e w' => e = .returned (.int .i64 (a / b)) ∧ Below w.heap.size w w' := by
  have l0 := block_lt g0
  obtain ⟨⟨a1, a2⟩, ⟨_, b2⟩⟩ := vld_bd hv
  have b1 : 1 ≤ b := ((vld_iff a b).1 hv).1
  have q0 := tdiv_bd (b := b) a1 a2
  have q1 := q0.1
  have q2 := q0.2
  clear q0
  have HV := Lib.hid hv; clear hv
  have HQ := Lib.hid (floor_pos b1 hs)
  go_enter Tryd.func44, Tryd.ntmps44
  go_wp2_with fail
  refine (require1_ok _ a b _ ha hb (by simp [go_sem]) (by simp [go_sem]) HV.out).mono ?_
  rintro e w1 ⟨rfl, hb1⟩
  obtain ⟨h1, h2⟩ := bcell hb1
  have k0 : w1.cell? ⟨x0, 0, none⟩ = some (.int .i64 a) := by rw [h1 _ _ (by simp; omega)]; simp [go_sem, l0, g0]
  have k1 : w1.cell? ⟨x0, 1, none⟩ = some (.int .i64 b) := by rw [h1 _ _ (by simp; omega)]; simp [go_sem, l0, g1]
  clear h1 h2 g0 g1
  go_wp2
  go_ret
  exact ⟨ret_int HQ.out, ((Below.refl _ _).alloc (Nat.le_refl _) _).trans (hb1.mono (by simp))⟩

set_option maxRecDepth 100000 in
set_option maxHeartbeats 400000 in
theorem floorW_arg (x0 : Nat) (a b : Int) (w : World) (ha : I64 a) (hb : I64 b) (g0 : w.cell? ⟨x0, 0, none⟩ = some (.int .i64 a)) (g1 : w.cell? ⟨x0, 1, none⟩ = some (.int .i64 b)) (hv : vld a b = false) :
    Calls Tryd.prog 44 #[.pointer (some ⟨x0, 0, none⟩)] w fun e w' => e = raise 1 ∧ Below w.heap.size w w' := by
  have l0 := block_lt g0
  have HV := Lib.hid hv; clear hv
  go_enter Tryd.func44, Tryd.ntmps44
  go_wp2_with fail
  refine (require1_err _ a b _ ha hb (by simp [go_sem]) (by simp [go_sem]) HV.out).mono ?_
  rintro e w1 ⟨rfl, hb1⟩
  go_wp2_with fail
  exact ⟨rfl, rfl, ((Below.refl _ _).alloc (Nat.le_refl _) _).trans (hb1.mono (by simp))⟩

theorem floor_enter (cap : Array Value) (W : World) : (callFunc 44 cap).run Tryd.prog W = .ok (.enter 44 cap) W := by simp [go_sem]
def floorR (v : Bool) (a b : Int) : Int := if v = true then a / b else 0

set_option maxRecDepth 100000 in
set_option maxHeartbeats 400000 in
theorem floor_any (a b : Int) (w : World) (ha : I64 a) (hb : I64 b) :
    Calls Tryd.prog 20 #[.agg #[.int .i64 a, .int .i64 b]] w
      fun e w' => e = .returned (.tuple #[.int .i64 (floorR (vld a b) a b), .int .i64 (cmpE (vld a b))]) ∧ Below w.heap.size w w' := by
  have hmf : ∀ (fn : Fn) (first cap : Array Value) (w : World), (Instr.makeFunc fn first cap).run Tryd.prog w = .ok (.func fn first cap) w := fun _ _ _ _ => rfl
  have hat : ∀ W0 : World, W0.cell? ⟨w.heap.size, 0, none⟩ = some (.int .i64 a) → W0.cell? ⟨w.heap.size, 1, none⟩ = some (.int .i64 b) →
      Calls Tryd.prog 39 #[.func (.func 44) #[] #[.pointer (some ⟨w.heap.size, 0, none⟩)]] W0
        fun e w' => e = .returned (.tuple #[.int .i64 (floorR (vld a b) a b), .int .i64 (cmpE (vld a b))]) ∧ Below W0.heap.size W0 w' := by
    intro W0 c1 c2
    by_cases hv : vld a b = true
    · rw [show floorR (vld a b) a b = a / b by simp [floorR, hv], show cmpE (vld a b) = 0 by simp [cmpE, hv]]
      refine attemptI_ok _ _ _ _ (floor_enter _) fun W hW => ?_
      by_cases hs : a.tmod b < 0
      · exact floorW_neg _ a b W ha hb (by rw [hW.cell (block_lt c1)]; exact c1) (by rw [hW.cell (block_lt c2)]; exact c2) hv hs
      · exact floorW_pos _ a b W ha hb (by rw [hW.cell (block_lt c1)]; exact c1) (by rw [hW.cell (block_lt c2)]; exact c2) hv (by omega)
    · rw [show floorR (vld a b) a b = 0 by simp only [floorR, if_neg hv], show cmpE (vld a b) = 1 by simp only [cmpE, if_neg hv]]
      refine attemptI_err _ _ _ _ (floor_enter _) fun W hW => ?_
      exact floorW_arg _ a b W ha hb (by rw [hW.cell (block_lt c1)]; exact c1) (by rw [hW.cell (block_lt c2)]; exact c2) (by simpa using hv)
  have HA := Lib.hid hat; clear hat
  generalize floorR (vld a b) a b = rN at *
  generalize cmpE (vld a b) = rE at *
  go_enter Tryd.func20, Tryd.ntmps20
  go_wp2_with fail
  refine (HA.out _ (by simp [go_sem]) (by simp [go_sem])).mono ?_
  rintro e w1 ⟨rfl, hb⟩
  go_wp2_with fail
  go_ret2
  exact ⟨rfl, ((Below.refl _ _).alloc (Nat.le_refl _) _).trans (hb.mono (by simp))⟩

end Go.Proofs.YtpmlfchbihoflaaDoor
