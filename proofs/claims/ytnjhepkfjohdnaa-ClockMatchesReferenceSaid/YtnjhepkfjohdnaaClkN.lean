/-
  The reference of layer 4: True, Passed, Order, Set meet the same contracts as the package.
-/
import Derived.Test.YtnjhepkfjohdnaaClkM
namespace Go.Proofs.Ytnjhepkfjohdnaa
open Go.RowKit Go.Sort
open Go.RowKit (Below)
set_option linter.unusedVariables false
set_option linter.unusedSimpArgs false

set_option maxRecDepth 100000 in
set_option maxHeartbeats 1000000 in
theorem rtrue_no (s e d r : Int) (w : World) (h : rds s e d r = false) :
    Calls Try.prog 14 #[.agg #[.int .i64 s, .int .i64 e, .int .i64 d], .int .i64 r] w fun e' w' => e' = .returned (.tuple #[.agg #[.int .i64 (0), .int .i64 (0)], .int .i64 (1)]) ∧ Below w.heap.size w w' := by
  have H := Lib.hid h
  clear h
  go_enter Try.func14, Try.ntmps14
  go_wp2_with fail
  have c0 : World.cell? ((w.alloc (.cells #[.int .i64 s, .int .i64 e, .int .i64 d] 23)).alloc (.cells #[.int .i64 0, .int .i64 0] 25)) ⟨w.heap.size, 0, none⟩ = some (.int .i64 s) := by simp [go_sem]
  have c1 : World.cell? ((w.alloc (.cells #[.int .i64 s, .int .i64 e, .int .i64 d] 23)).alloc (.cells #[.int .i64 0, .int .i64 0] 25)) ⟨w.heap.size, 1, none⟩ = some (.int .i64 e) := by simp [go_sem]
  have c2 : World.cell? ((w.alloc (.cells #[.int .i64 s, .int .i64 e, .int .i64 d] 23)).alloc (.cells #[.int .i64 0, .int .i64 0] 25)) ⟨w.heap.size, 2, none⟩ = some (.int .i64 d) := by simp [go_sem]
  have gc : w.heap.size < ((w.alloc (.cells #[.int .i64 s, .int .i64 e, .int .i64 d] 23)).alloc (.cells #[.int .i64 0, .int .i64 0] 25)).heap.size := by simp <;> omega
  have z0 : World.cell? ((w.alloc (.cells #[.int .i64 s, .int .i64 e, .int .i64 d] 23)).alloc (.cells #[.int .i64 0, .int .i64 0] 25)) ⟨w.heap.size + 1, 0, none⟩ = some (.int .i64 0) := by simp [go_sem]
  have zz0 : World.frozen? ((w.alloc (.cells #[.int .i64 s, .int .i64 e, .int .i64 d] 23)).alloc (.cells #[.int .i64 0, .int .i64 0] 25)) ⟨w.heap.size + 1, 0, none⟩ = false := by simp [go_sem]
  have z1 : World.cell? ((w.alloc (.cells #[.int .i64 s, .int .i64 e, .int .i64 d] 23)).alloc (.cells #[.int .i64 0, .int .i64 0] 25)) ⟨w.heap.size + 1, 1, none⟩ = some (.int .i64 0) := by simp [go_sem]
  have zz1 : World.frozen? ((w.alloc (.cells #[.int .i64 s, .int .i64 e, .int .i64 d] 23)).alloc (.cells #[.int .i64 0, .int .i64 0] 25)) ⟨w.heap.size + 1, 1, none⟩ = false := by simp [go_sem]
  have gz : w.heap.size + 1 < ((w.alloc (.cells #[.int .i64 s, .int .i64 e, .int .i64 d] 23)).alloc (.cells #[.int .i64 0, .int .i64 0] 25)).heap.size := by simp <;> omega
  have B := Lib.hid (show Below w.heap.size w ((w.alloc (.cells #[.int .i64 s, .int .i64 e, .int .i64 d] 23)).alloc (.cells #[.int .i64 0, .int .i64 0] 25)) from (((Below.refl _ _).alloc (by simp; try omega) _).alloc (by simp; try omega) _))
  generalize (w.alloc (.cells #[.int .i64 s, .int .i64 e, .int .i64 d] 23)).alloc (.cells #[.int .i64 0, .int .i64 0] 25) = V1 at *
  refine (reads_b s e d r _ H.out _).mono ?_
  rintro e' w2 ⟨rfl, hb⟩
  replace zz0 := keepf hb z0 zz0
  replace zz1 := keepf hb z1 zz1
  replace B := Lib.hid (on_below B.out hb)
  replace c0 := keepc hb c0
  replace c1 := keepc hb c1
  replace c2 := keepc hb c2
  replace z0 := keepc hb z0
  replace z1 := keepc hb z1
  replace gc := Nat.lt_of_lt_of_le gc hb.size
  replace gz := Nat.lt_of_lt_of_le gz hb.size
  clear hb
  go_wp2_with fail
  all_goals exact bodyPost_ret (v := .tuple #[.agg #[.int .i64 (0), .int .i64 (0)], .int .i64 (1)]) (by simp [results, Try.results14, go_sem, z0, z1]) rfl ⟨rfl, (B.out.setCell (by simp <;> omega) _).setCell (by simp <;> omega) _⟩
set_option maxRecDepth 100000 in
set_option maxHeartbeats 1000000 in
theorem rtrue_ok (s e d r : Int) (A : Int) (w : World) (h : rds s e d r = true) (hA : off s e d r = A) (hr0 : 0 ≤ r) (hr1 : r ≤ 600000) (ha0 : 0 ≤ A) (ha1 : A ≤ 61001) :
    Calls Try.prog 14 #[.agg #[.int .i64 s, .int .i64 e, .int .i64 d], .int .i64 r] w fun e' w' => e' = .returned (.tuple #[.agg #[.int .i64 (max (r - A) 0), .int .i64 (min (r + A) 600000 + 1)], .int .i64 (0)]) ∧ Below w.heap.size w w' := by
  have HA := Lib.hid (roff_any s e d r h)
  rw [hA] at HA
  clear hA
  have q1 : IntKind.i64.wrap (r - A) = r - A := wrap_in (by omega) (by omega)
  have q2 : IntKind.i64.wrap (r + A) = r + A := wrap_in (by omega) (by omega)
  have q3 : IntKind.i64.wrap (r + A + 1) = r + A + 1 := wrap_in (by omega) (by omega)
  have H := Lib.hid h
  clear h
  go_enter Try.func14, Try.ntmps14
  go_wp2_with fail
  have c0 : World.cell? ((w.alloc (.cells #[.int .i64 s, .int .i64 e, .int .i64 d] 23)).alloc (.cells #[.int .i64 0, .int .i64 0] 25)) ⟨w.heap.size, 0, none⟩ = some (.int .i64 s) := by simp [go_sem]
  have c1 : World.cell? ((w.alloc (.cells #[.int .i64 s, .int .i64 e, .int .i64 d] 23)).alloc (.cells #[.int .i64 0, .int .i64 0] 25)) ⟨w.heap.size, 1, none⟩ = some (.int .i64 e) := by simp [go_sem]
  have c2 : World.cell? ((w.alloc (.cells #[.int .i64 s, .int .i64 e, .int .i64 d] 23)).alloc (.cells #[.int .i64 0, .int .i64 0] 25)) ⟨w.heap.size, 2, none⟩ = some (.int .i64 d) := by simp [go_sem]
  have gc : w.heap.size < ((w.alloc (.cells #[.int .i64 s, .int .i64 e, .int .i64 d] 23)).alloc (.cells #[.int .i64 0, .int .i64 0] 25)).heap.size := by simp <;> omega
  have z0 : World.cell? ((w.alloc (.cells #[.int .i64 s, .int .i64 e, .int .i64 d] 23)).alloc (.cells #[.int .i64 0, .int .i64 0] 25)) ⟨w.heap.size + 1, 0, none⟩ = some (.int .i64 0) := by simp [go_sem]
  have zz0 : World.frozen? ((w.alloc (.cells #[.int .i64 s, .int .i64 e, .int .i64 d] 23)).alloc (.cells #[.int .i64 0, .int .i64 0] 25)) ⟨w.heap.size + 1, 0, none⟩ = false := by simp [go_sem]
  have z1 : World.cell? ((w.alloc (.cells #[.int .i64 s, .int .i64 e, .int .i64 d] 23)).alloc (.cells #[.int .i64 0, .int .i64 0] 25)) ⟨w.heap.size + 1, 1, none⟩ = some (.int .i64 0) := by simp [go_sem]
  have zz1 : World.frozen? ((w.alloc (.cells #[.int .i64 s, .int .i64 e, .int .i64 d] 23)).alloc (.cells #[.int .i64 0, .int .i64 0] 25)) ⟨w.heap.size + 1, 1, none⟩ = false := by simp [go_sem]
  have gz : w.heap.size + 1 < ((w.alloc (.cells #[.int .i64 s, .int .i64 e, .int .i64 d] 23)).alloc (.cells #[.int .i64 0, .int .i64 0] 25)).heap.size := by simp <;> omega
  have B := Lib.hid (show Below w.heap.size w ((w.alloc (.cells #[.int .i64 s, .int .i64 e, .int .i64 d] 23)).alloc (.cells #[.int .i64 0, .int .i64 0] 25)) from (((Below.refl _ _).alloc (by simp; try omega) _).alloc (by simp; try omega) _))
  generalize (w.alloc (.cells #[.int .i64 s, .int .i64 e, .int .i64 d] 23)).alloc (.cells #[.int .i64 0, .int .i64 0] 25) = V1 at *
  refine (reads_b s e d r _ H.out _).mono ?_
  rintro e' w2 ⟨rfl, hb⟩
  replace zz0 := keepf hb z0 zz0
  replace zz1 := keepf hb z1 zz1
  replace B := Lib.hid (on_below B.out hb)
  replace c0 := keepc hb c0
  replace c1 := keepc hb c1
  replace c2 := keepc hb c2
  replace z0 := keepc hb z0
  replace z1 := keepc hb z1
  replace gc := Nat.lt_of_lt_of_le gc hb.size
  replace gz := Nat.lt_of_lt_of_le gz hb.size
  clear hb
  go_wp2_with fail
  refine (HA.out _).mono ?_
  rintro e' w3 ⟨rfl, hb⟩
  replace zz0 := keepf hb z0 zz0
  replace zz1 := keepf hb z1 zz1
  replace B := Lib.hid (on_below B.out hb)
  replace c0 := keepc hb c0
  replace c1 := keepc hb c1
  replace c2 := keepc hb c2
  replace z0 := keepc hb z0
  replace z1 := keepc hb z1
  replace gc := Nat.lt_of_lt_of_le gc hb.size
  replace gz := Nat.lt_of_lt_of_le gz hb.size
  clear hb
  go_wp2_with fail
  all_goals exact bodyPost_ret (v := .tuple #[.agg #[.int .i64 (max (r - A) 0), .int .i64 (min (r + A) 600000 + 1)], .int .i64 (0)]) (by simp [results, Try.results14, go_sem, z0, z1] <;> omega) rfl ⟨rfl, (B.out.setCell (by simp <;> omega) _).setCell (by simp <;> omega) _⟩
theorem rtrue_is (s e d r F U E : Int) (hF : tF s e d r = F) (hU : tU s e d r = U) (hE : tE s e d r = E) (w : World) :
    Calls Try.prog 14 #[.agg #[.int .i64 s, .int .i64 e, .int .i64 d], .int .i64 r] w fun e' w' => e' = .returned (.tuple #[.agg #[.int .i64 F, .int .i64 U], .int .i64 E]) ∧ Below w.heap.size w w' := by
  subst hF hU hE
  cases h : rds s e d r with
  | false =>
    rw [show tF s e d r = 0 by simp [tF, h], show tU s e d r = 0 by simp [tU, h], show tE s e d r = 1 by simp [tE, h]]
    exact rtrue_no s e d r w h
  | true =>
    rw [tF_ok h, tU_ok h, tE_ok h]
    obtain ⟨hv, hr, ht⟩ := rds_iff.1 h
    have m := tm_iff.1 ht
    obtain ⟨a0, a1⟩ := off_le h
    exact rtrue_ok s e d r _ w h rfl m.1 m.2 a0 a1
set_option maxRecDepth 100000 in
set_option maxHeartbeats 1000000 in
theorem rpassed_no (s e d r t : Int) (F U : Int) (w : World) (h1 : tF s e d r = F) (h2 : tU s e d r = U) (h3 : tE s e d r = 1) :
    Calls Try.prog 16 #[.agg #[.int .i64 s, .int .i64 e, .int .i64 d], .int .i64 r, .int .i64 t] w fun e' w' => e' = .returned (.tuple #[.int .i64 0, .int .i64 1]) ∧ Below w.heap.size w w' := by
  have H1 := Lib.hid h1
  clear h1
  have H2 := Lib.hid h2
  clear h2
  have H3 := Lib.hid h3
  clear h3
  go_enter Try.func16, Try.ntmps16
  go_wp2_with fail
  have c0 : World.cell? (w.alloc (.cells #[.int .i64 s, .int .i64 e, .int .i64 d] 23)) ⟨w.heap.size, 0, none⟩ = some (.int .i64 s) := by simp [go_sem]
  have c1 : World.cell? (w.alloc (.cells #[.int .i64 s, .int .i64 e, .int .i64 d] 23)) ⟨w.heap.size, 1, none⟩ = some (.int .i64 e) := by simp [go_sem]
  have c2 : World.cell? (w.alloc (.cells #[.int .i64 s, .int .i64 e, .int .i64 d] 23)) ⟨w.heap.size, 2, none⟩ = some (.int .i64 d) := by simp [go_sem]
  have gc : w.heap.size < (w.alloc (.cells #[.int .i64 s, .int .i64 e, .int .i64 d] 23)).heap.size := by simp <;> omega
  have B := Lib.hid (show Below w.heap.size w (w.alloc (.cells #[.int .i64 s, .int .i64 e, .int .i64 d] 23)) from ((Below.refl _ _).alloc (by simp; try omega) _))
  generalize w.alloc (.cells #[.int .i64 s, .int .i64 e, .int .i64 d] 23) = V1 at *
  refine (rtrue_is s e d r F U 1 H1.out H2.out H3.out _).mono ?_
  rintro e' w2 ⟨rfl, hb⟩
  replace B := Lib.hid (on_below B.out hb)
  replace c0 := keepc hb c0
  replace c1 := keepc hb c1
  replace c2 := keepc hb c2
  replace gc := Nat.lt_of_lt_of_le gc hb.size
  clear hb
  go_wp2_with fail
  go_ret2
  exact ⟨rfl, B.out.alloc B.out.size _⟩
set_option maxRecDepth 100000 in
set_option maxHeartbeats 1000000 in
theorem rpassed_ok (s e d r t : Int) (F U : Int) (w : World) (h1 : tF s e d r = F) (h2 : tU s e d r = U) (h3 : tE s e d r = 0) (bF0 : 0 ≤ F) (bF1 : F < U) (bU1 : U ≤ 600001) (it : I64 t) :
    Calls Try.prog 16 #[.agg #[.int .i64 s, .int .i64 e, .int .i64 d], .int .i64 r, .int .i64 t] w fun e' w' => e' = .returned (.tuple #[.int .i64 (sd F U t t), .int .i64 0]) ∧ Below w.heap.size w w' := by
  have H1 := Lib.hid h1
  clear h1
  have H2 := Lib.hid h2
  clear h2
  have H3 := Lib.hid h3
  clear h3
  have q1 : IntKind.i64.wrap (U - 1) = U - 1 := wrap_in (by omega) (by omega)
  go_enter Try.func16, Try.ntmps16
  go_wp2_with fail
  have c0 : World.cell? (w.alloc (.cells #[.int .i64 s, .int .i64 e, .int .i64 d] 23)) ⟨w.heap.size, 0, none⟩ = some (.int .i64 s) := by simp [go_sem]
  have c1 : World.cell? (w.alloc (.cells #[.int .i64 s, .int .i64 e, .int .i64 d] 23)) ⟨w.heap.size, 1, none⟩ = some (.int .i64 e) := by simp [go_sem]
  have c2 : World.cell? (w.alloc (.cells #[.int .i64 s, .int .i64 e, .int .i64 d] 23)) ⟨w.heap.size, 2, none⟩ = some (.int .i64 d) := by simp [go_sem]
  have gc : w.heap.size < (w.alloc (.cells #[.int .i64 s, .int .i64 e, .int .i64 d] 23)).heap.size := by simp <;> omega
  have B := Lib.hid (show Below w.heap.size w (w.alloc (.cells #[.int .i64 s, .int .i64 e, .int .i64 d] 23)) from ((Below.refl _ _).alloc (by simp; try omega) _))
  generalize w.alloc (.cells #[.int .i64 s, .int .i64 e, .int .i64 d] 23) = V1 at *
  refine (rtrue_is s e d r F U 0 H1.out H2.out H3.out _).mono ?_
  rintro e' w2 ⟨rfl, hb⟩
  replace B := Lib.hid (on_below B.out hb)
  replace c0 := keepc hb c0
  replace c1 := keepc hb c1
  replace c2 := keepc hb c2
  replace gc := Nat.lt_of_lt_of_le gc hb.size
  clear hb
  go_wp2_with fail
  all_goals go_ret2
  all_goals exact ⟨by unfold sd; simp <;> omega, B.out.alloc B.out.size _⟩
set_option maxRecDepth 100000 in
set_option maxHeartbeats 1000000 in
theorem rorder_no (s e d r s' e' d' r' F U G V E E' : Int) (w : World) (h1 : tF s e d r = F) (h2 : tU s e d r = U) (h3 : tE s e d r = E) (k1 : tF s' e' d' r' = G) (k2 : tU s' e' d' r' = V) (k3 : tE s' e' d' r' = E') (hE : E ≠ 0 ∨ E' ≠ 0) :
    Calls Try.prog 18 #[.agg #[.int .i64 s, .int .i64 e, .int .i64 d], .int .i64 r, .agg #[.int .i64 s', .int .i64 e', .int .i64 d'], .int .i64 r'] w fun e' w' => e' = .returned (.tuple #[.int .i64 0, .int .i64 1]) ∧ Below w.heap.size w w' := by
  have H1 := Lib.hid h1
  clear h1
  have H2 := Lib.hid h2
  clear h2
  have H3 := Lib.hid h3
  clear h3
  have K1 := Lib.hid k1
  clear k1
  have K2 := Lib.hid k2
  clear k2
  have K3 := Lib.hid k3
  clear k3
  go_enter Try.func18, Try.ntmps18
  go_wp2_with fail
  have c0 : World.cell? ((w.alloc (.cells #[.int .i64 s, .int .i64 e, .int .i64 d] 23)).alloc (.cells #[.int .i64 s', .int .i64 e', .int .i64 d'] 23)) ⟨w.heap.size, 0, none⟩ = some (.int .i64 s) := by simp [go_sem]
  have c1 : World.cell? ((w.alloc (.cells #[.int .i64 s, .int .i64 e, .int .i64 d] 23)).alloc (.cells #[.int .i64 s', .int .i64 e', .int .i64 d'] 23)) ⟨w.heap.size, 1, none⟩ = some (.int .i64 e) := by simp [go_sem]
  have c2 : World.cell? ((w.alloc (.cells #[.int .i64 s, .int .i64 e, .int .i64 d] 23)).alloc (.cells #[.int .i64 s', .int .i64 e', .int .i64 d'] 23)) ⟨w.heap.size, 2, none⟩ = some (.int .i64 d) := by simp [go_sem]
  have gc : w.heap.size < ((w.alloc (.cells #[.int .i64 s, .int .i64 e, .int .i64 d] 23)).alloc (.cells #[.int .i64 s', .int .i64 e', .int .i64 d'] 23)).heap.size := by simp <;> omega
  have k0 : World.cell? ((w.alloc (.cells #[.int .i64 s, .int .i64 e, .int .i64 d] 23)).alloc (.cells #[.int .i64 s', .int .i64 e', .int .i64 d'] 23)) ⟨w.heap.size + 1, 0, none⟩ = some (.int .i64 s') := by simp [go_sem]
  have k1 : World.cell? ((w.alloc (.cells #[.int .i64 s, .int .i64 e, .int .i64 d] 23)).alloc (.cells #[.int .i64 s', .int .i64 e', .int .i64 d'] 23)) ⟨w.heap.size + 1, 1, none⟩ = some (.int .i64 e') := by simp [go_sem]
  have k2 : World.cell? ((w.alloc (.cells #[.int .i64 s, .int .i64 e, .int .i64 d] 23)).alloc (.cells #[.int .i64 s', .int .i64 e', .int .i64 d'] 23)) ⟨w.heap.size + 1, 2, none⟩ = some (.int .i64 d') := by simp [go_sem]
  have gk : w.heap.size + 1 < ((w.alloc (.cells #[.int .i64 s, .int .i64 e, .int .i64 d] 23)).alloc (.cells #[.int .i64 s', .int .i64 e', .int .i64 d'] 23)).heap.size := by simp <;> omega
  have B := Lib.hid (show Below w.heap.size w ((w.alloc (.cells #[.int .i64 s, .int .i64 e, .int .i64 d] 23)).alloc (.cells #[.int .i64 s', .int .i64 e', .int .i64 d'] 23)) from (((Below.refl _ _).alloc (by simp; try omega) _).alloc (by simp; try omega) _))
  generalize (w.alloc (.cells #[.int .i64 s, .int .i64 e, .int .i64 d] 23)).alloc (.cells #[.int .i64 s', .int .i64 e', .int .i64 d'] 23) = V1 at *
  refine (rtrue_is s e d r F U E H1.out H2.out H3.out _).mono ?_
  rintro e' w2 ⟨rfl, hb⟩
  replace B := Lib.hid (on_below B.out hb)
  replace c0 := keepc hb c0
  replace c1 := keepc hb c1
  replace c2 := keepc hb c2
  replace k0 := keepc hb k0
  replace k1 := keepc hb k1
  replace k2 := keepc hb k2
  replace gc := Nat.lt_of_lt_of_le gc hb.size
  replace gk := Nat.lt_of_lt_of_le gk hb.size
  clear hb
  go_wp2_with fail
  have s0 : World.cell? (w2.alloc (.cells #[.int .i64 F, .int .i64 U] 25)) ⟨w2.heap.size, 0, none⟩ = some (.int .i64 F) := by simp [go_sem]
  have s1 : World.cell? (w2.alloc (.cells #[.int .i64 F, .int .i64 U] 25)) ⟨w2.heap.size, 1, none⟩ = some (.int .i64 U) := by simp [go_sem]
  have gs : w2.heap.size < (w2.alloc (.cells #[.int .i64 F, .int .i64 U] 25)).heap.size := by simp <;> omega
  have hb : Below w2.heap.size w2 (w2.alloc (.cells #[.int .i64 F, .int .i64 U] 25)) := ((Below.refl _ _).alloc (by simp; try omega) _)
  generalize w2.alloc (.cells #[.int .i64 F, .int .i64 U] 25) = V3 at *
  replace B := Lib.hid (on_below B.out hb)
  replace c0 := keepc hb c0
  replace c1 := keepc hb c1
  replace c2 := keepc hb c2
  replace k0 := keepc hb k0
  replace k1 := keepc hb k1
  replace k2 := keepc hb k2
  replace gc := Nat.lt_of_lt_of_le gc hb.size
  replace gk := Nat.lt_of_lt_of_le gk hb.size
  clear hb
  refine (rtrue_is s' e' d' r' G V E' K1.out K2.out K3.out _).mono ?_
  rintro e' w4 ⟨rfl, hb⟩
  replace B := Lib.hid (on_below B.out hb)
  replace c0 := keepc hb c0
  replace c1 := keepc hb c1
  replace c2 := keepc hb c2
  replace k0 := keepc hb k0
  replace k1 := keepc hb k1
  replace k2 := keepc hb k2
  replace s0 := keepc hb s0
  replace s1 := keepc hb s1
  replace gc := Nat.lt_of_lt_of_le gc hb.size
  replace gk := Nat.lt_of_lt_of_le gk hb.size
  replace gs := Nat.lt_of_lt_of_le gs hb.size
  clear hb
  go_wp2_with fail
  all_goals go_ret2
  all_goals first | exact ⟨rfl, B.out.alloc B.out.size _⟩ | omega
set_option maxRecDepth 100000 in
set_option maxHeartbeats 1000000 in
theorem rorder_ok (s e d r s' e' d' r' F U G V E E' : Int) (w : World) (h1 : tF s e d r = F) (h2 : tU s e d r = U) (h3 : tE s e d r = E) (k1 : tF s' e' d' r' = G) (k2 : tU s' e' d' r' = V) (k3 : tE s' e' d' r' = E') (hE : E = 0) (hE' : E' = 0) (bF0 : 0 ≤ F) (bF1 : F < U) (bU1 : U ≤ 600001) (bG0 : 0 ≤ G) (bG1 : G < V) (bV1 : V ≤ 600001) :
    Calls Try.prog 18 #[.agg #[.int .i64 s, .int .i64 e, .int .i64 d], .int .i64 r, .agg #[.int .i64 s', .int .i64 e', .int .i64 d'], .int .i64 r'] w fun e' w' => e' = .returned (.tuple #[.int .i64 (sd F U G V), .int .i64 0]) ∧ Below w.heap.size w w' := by
  have H1 := Lib.hid h1
  clear h1
  have H2 := Lib.hid h2
  clear h2
  have H3 := Lib.hid h3
  clear h3
  have K1 := Lib.hid k1
  clear k1
  have K2 := Lib.hid k2
  clear k2
  have K3 := Lib.hid k3
  clear k3
  have q1 : IntKind.i64.wrap (U - 1) = U - 1 := wrap_in (by omega) (by omega)
  have q2 : IntKind.i64.wrap (V - 1) = V - 1 := wrap_in (by omega) (by omega)
  go_enter Try.func18, Try.ntmps18
  go_wp2_with fail
  have c0 : World.cell? ((w.alloc (.cells #[.int .i64 s, .int .i64 e, .int .i64 d] 23)).alloc (.cells #[.int .i64 s', .int .i64 e', .int .i64 d'] 23)) ⟨w.heap.size, 0, none⟩ = some (.int .i64 s) := by simp [go_sem]
  have c1 : World.cell? ((w.alloc (.cells #[.int .i64 s, .int .i64 e, .int .i64 d] 23)).alloc (.cells #[.int .i64 s', .int .i64 e', .int .i64 d'] 23)) ⟨w.heap.size, 1, none⟩ = some (.int .i64 e) := by simp [go_sem]
  have c2 : World.cell? ((w.alloc (.cells #[.int .i64 s, .int .i64 e, .int .i64 d] 23)).alloc (.cells #[.int .i64 s', .int .i64 e', .int .i64 d'] 23)) ⟨w.heap.size, 2, none⟩ = some (.int .i64 d) := by simp [go_sem]
  have gc : w.heap.size < ((w.alloc (.cells #[.int .i64 s, .int .i64 e, .int .i64 d] 23)).alloc (.cells #[.int .i64 s', .int .i64 e', .int .i64 d'] 23)).heap.size := by simp <;> omega
  have k0 : World.cell? ((w.alloc (.cells #[.int .i64 s, .int .i64 e, .int .i64 d] 23)).alloc (.cells #[.int .i64 s', .int .i64 e', .int .i64 d'] 23)) ⟨w.heap.size + 1, 0, none⟩ = some (.int .i64 s') := by simp [go_sem]
  have k1 : World.cell? ((w.alloc (.cells #[.int .i64 s, .int .i64 e, .int .i64 d] 23)).alloc (.cells #[.int .i64 s', .int .i64 e', .int .i64 d'] 23)) ⟨w.heap.size + 1, 1, none⟩ = some (.int .i64 e') := by simp [go_sem]
  have k2 : World.cell? ((w.alloc (.cells #[.int .i64 s, .int .i64 e, .int .i64 d] 23)).alloc (.cells #[.int .i64 s', .int .i64 e', .int .i64 d'] 23)) ⟨w.heap.size + 1, 2, none⟩ = some (.int .i64 d') := by simp [go_sem]
  have gk : w.heap.size + 1 < ((w.alloc (.cells #[.int .i64 s, .int .i64 e, .int .i64 d] 23)).alloc (.cells #[.int .i64 s', .int .i64 e', .int .i64 d'] 23)).heap.size := by simp <;> omega
  have B := Lib.hid (show Below w.heap.size w ((w.alloc (.cells #[.int .i64 s, .int .i64 e, .int .i64 d] 23)).alloc (.cells #[.int .i64 s', .int .i64 e', .int .i64 d'] 23)) from (((Below.refl _ _).alloc (by simp; try omega) _).alloc (by simp; try omega) _))
  generalize (w.alloc (.cells #[.int .i64 s, .int .i64 e, .int .i64 d] 23)).alloc (.cells #[.int .i64 s', .int .i64 e', .int .i64 d'] 23) = V1 at *
  refine (rtrue_is s e d r F U E H1.out H2.out H3.out _).mono ?_
  rintro e' w2 ⟨rfl, hb⟩
  replace B := Lib.hid (on_below B.out hb)
  replace c0 := keepc hb c0
  replace c1 := keepc hb c1
  replace c2 := keepc hb c2
  replace k0 := keepc hb k0
  replace k1 := keepc hb k1
  replace k2 := keepc hb k2
  replace gc := Nat.lt_of_lt_of_le gc hb.size
  replace gk := Nat.lt_of_lt_of_le gk hb.size
  clear hb
  go_wp2_with fail
  have s0 : World.cell? (w2.alloc (.cells #[.int .i64 F, .int .i64 U] 25)) ⟨w2.heap.size, 0, none⟩ = some (.int .i64 F) := by simp [go_sem]
  have s1 : World.cell? (w2.alloc (.cells #[.int .i64 F, .int .i64 U] 25)) ⟨w2.heap.size, 1, none⟩ = some (.int .i64 U) := by simp [go_sem]
  have gs : w2.heap.size < (w2.alloc (.cells #[.int .i64 F, .int .i64 U] 25)).heap.size := by simp <;> omega
  have hb : Below w2.heap.size w2 (w2.alloc (.cells #[.int .i64 F, .int .i64 U] 25)) := ((Below.refl _ _).alloc (by simp; try omega) _)
  generalize w2.alloc (.cells #[.int .i64 F, .int .i64 U] 25) = V3 at *
  replace B := Lib.hid (on_below B.out hb)
  replace c0 := keepc hb c0
  replace c1 := keepc hb c1
  replace c2 := keepc hb c2
  replace k0 := keepc hb k0
  replace k1 := keepc hb k1
  replace k2 := keepc hb k2
  replace gc := Nat.lt_of_lt_of_le gc hb.size
  replace gk := Nat.lt_of_lt_of_le gk hb.size
  clear hb
  refine (rtrue_is s' e' d' r' G V E' K1.out K2.out K3.out _).mono ?_
  rintro e' w4 ⟨rfl, hb⟩
  replace B := Lib.hid (on_below B.out hb)
  replace c0 := keepc hb c0
  replace c1 := keepc hb c1
  replace c2 := keepc hb c2
  replace k0 := keepc hb k0
  replace k1 := keepc hb k1
  replace k2 := keepc hb k2
  replace s0 := keepc hb s0
  replace s1 := keepc hb s1
  replace gc := Nat.lt_of_lt_of_le gc hb.size
  replace gk := Nat.lt_of_lt_of_le gk hb.size
  replace gs := Nat.lt_of_lt_of_le gs hb.size
  clear hb
  go_wp2_with fail
  all_goals go_ret2
  all_goals exact ⟨by unfold sd; simp <;> omega, B.out.alloc B.out.size _⟩
theorem rpassed_is (s e d r t V E : Int) (it : I64 t) (hV : pV s e d r t = V) (hE : tE s e d r = E) (w : World) :
    Calls Try.prog 16 #[.agg #[.int .i64 s, .int .i64 e, .int .i64 d], .int .i64 r, .int .i64 t] w fun e' w' => e' = .returned (.tuple #[.int .i64 V, .int .i64 E]) ∧ Below w.heap.size w w' := by
  subst hV hE
  cases h : rds s e d r with
  | false =>
    rw [show pV s e d r t = 0 by simp [pV, h], show tE s e d r = 1 by simp [tE, h]]
    exact rpassed_no s e d r t _ _ w rfl rfl (by simp [tE, h])
  | true =>
    obtain ⟨b0, b1, b2, b3⟩ := in_bd h
    rw [pV_ok h, tE_ok h]
    exact rpassed_ok s e d r t _ _ w (tF_ok h) (tU_ok h) (tE_ok h) b0 (by omega) b3 it
theorem rorder_is (s e d r s' e' d' r' V E : Int) (hV : oV s e d r s' e' d' r' = V) (hE : oE s e d r s' e' d' r' = E) (w : World) :
    Calls Try.prog 18 #[.agg #[.int .i64 s, .int .i64 e, .int .i64 d], .int .i64 r, .agg #[.int .i64 s', .int .i64 e', .int .i64 d'], .int .i64 r'] w fun e'' w' => e'' = .returned (.tuple #[.int .i64 V, .int .i64 E]) ∧ Below w.heap.size w w' := by
  subst hV hE
  cases h : rds s e d r with
  | false =>
    rw [show oV s e d r s' e' d' r' = 0 by simp [oV, h], show oE s e d r s' e' d' r' = 1 by simp [oE, h]]
    exact rorder_no s e d r s' e' d' r' _ _ _ _ _ _ w rfl rfl rfl rfl rfl rfl (.inl (by simp [tE, h]))
  | true =>
    cases h' : rds s' e' d' r' with
    | false =>
      rw [show oV s e d r s' e' d' r' = 0 by simp [oV, h'], show oE s e d r s' e' d' r' = 1 by simp [oE, h']]
      exact rorder_no s e d r s' e' d' r' _ _ _ _ _ _ w rfl rfl rfl rfl rfl rfl (.inr (by simp [tE, h']))
    | true =>
      obtain ⟨b0, b1, b2, b3⟩ := in_bd h
      obtain ⟨k0, k1, k2, k3⟩ := in_bd h'
      rw [oV_ok h h', oE_ok h h']
      exact rorder_ok s e d r s' e' d' r' _ _ _ _ _ _ w (tF_ok h) (tU_ok h) rfl (tF_ok h') (tU_ok h') rfl (tE_ok h) (tE_ok h') b0 (by omega) b3 k0 (by omega) k3
set_option maxRecDepth 100000 in
set_option maxHeartbeats 1000000 in
theorem rset_A (s e d r F U : Int) (iF : I64 F) (iU : I64 U) (w : World) (hv : vc s e d = false) :
    Calls Try.prog 20 #[.agg #[.int .i64 s, .int .i64 e, .int .i64 d], .int .i64 r, .agg #[.int .i64 F, .int .i64 U]] w fun e' w' => e' = .returned (.tuple #[.agg #[.int .i64 (0), .int .i64 (0), .int .i64 (0)], .int .i64 (1)]) ∧ Below w.heap.size w w' := by
  have HV := Lib.hid hv
  clear hv
  go_enter Try.func20, Try.ntmps20
  go_wp2_with fail
  have c0 : World.cell? (((w.alloc (.cells #[.int .i64 s, .int .i64 e, .int .i64 d] 23)).alloc (.cells #[.int .i64 F, .int .i64 U] 25)).alloc (.cells #[.int .i64 0, .int .i64 0, .int .i64 0] 23)) ⟨w.heap.size, 0, none⟩ = some (.int .i64 s) := by simp [go_sem]
  have c1 : World.cell? (((w.alloc (.cells #[.int .i64 s, .int .i64 e, .int .i64 d] 23)).alloc (.cells #[.int .i64 F, .int .i64 U] 25)).alloc (.cells #[.int .i64 0, .int .i64 0, .int .i64 0] 23)) ⟨w.heap.size, 1, none⟩ = some (.int .i64 e) := by simp [go_sem]
  have c2 : World.cell? (((w.alloc (.cells #[.int .i64 s, .int .i64 e, .int .i64 d] 23)).alloc (.cells #[.int .i64 F, .int .i64 U] 25)).alloc (.cells #[.int .i64 0, .int .i64 0, .int .i64 0] 23)) ⟨w.heap.size, 2, none⟩ = some (.int .i64 d) := by simp [go_sem]
  have gc : w.heap.size < (((w.alloc (.cells #[.int .i64 s, .int .i64 e, .int .i64 d] 23)).alloc (.cells #[.int .i64 F, .int .i64 U] 25)).alloc (.cells #[.int .i64 0, .int .i64 0, .int .i64 0] 23)).heap.size := by simp <;> omega
  have t0 : World.cell? (((w.alloc (.cells #[.int .i64 s, .int .i64 e, .int .i64 d] 23)).alloc (.cells #[.int .i64 F, .int .i64 U] 25)).alloc (.cells #[.int .i64 0, .int .i64 0, .int .i64 0] 23)) ⟨w.heap.size + 1, 0, none⟩ = some (.int .i64 F) := by simp [go_sem]
  have t1 : World.cell? (((w.alloc (.cells #[.int .i64 s, .int .i64 e, .int .i64 d] 23)).alloc (.cells #[.int .i64 F, .int .i64 U] 25)).alloc (.cells #[.int .i64 0, .int .i64 0, .int .i64 0] 23)) ⟨w.heap.size + 1, 1, none⟩ = some (.int .i64 U) := by simp [go_sem]
  have gt : w.heap.size + 1 < (((w.alloc (.cells #[.int .i64 s, .int .i64 e, .int .i64 d] 23)).alloc (.cells #[.int .i64 F, .int .i64 U] 25)).alloc (.cells #[.int .i64 0, .int .i64 0, .int .i64 0] 23)).heap.size := by simp <;> omega
  have z0 : World.cell? (((w.alloc (.cells #[.int .i64 s, .int .i64 e, .int .i64 d] 23)).alloc (.cells #[.int .i64 F, .int .i64 U] 25)).alloc (.cells #[.int .i64 0, .int .i64 0, .int .i64 0] 23)) ⟨w.heap.size + 1 + 1, 0, none⟩ = some (.int .i64 0) := by simp [go_sem]
  have zz0 : World.frozen? (((w.alloc (.cells #[.int .i64 s, .int .i64 e, .int .i64 d] 23)).alloc (.cells #[.int .i64 F, .int .i64 U] 25)).alloc (.cells #[.int .i64 0, .int .i64 0, .int .i64 0] 23)) ⟨w.heap.size + 1 + 1, 0, none⟩ = false := by simp [go_sem]
  have z1 : World.cell? (((w.alloc (.cells #[.int .i64 s, .int .i64 e, .int .i64 d] 23)).alloc (.cells #[.int .i64 F, .int .i64 U] 25)).alloc (.cells #[.int .i64 0, .int .i64 0, .int .i64 0] 23)) ⟨w.heap.size + 1 + 1, 1, none⟩ = some (.int .i64 0) := by simp [go_sem]
  have zz1 : World.frozen? (((w.alloc (.cells #[.int .i64 s, .int .i64 e, .int .i64 d] 23)).alloc (.cells #[.int .i64 F, .int .i64 U] 25)).alloc (.cells #[.int .i64 0, .int .i64 0, .int .i64 0] 23)) ⟨w.heap.size + 1 + 1, 1, none⟩ = false := by simp [go_sem]
  have z2 : World.cell? (((w.alloc (.cells #[.int .i64 s, .int .i64 e, .int .i64 d] 23)).alloc (.cells #[.int .i64 F, .int .i64 U] 25)).alloc (.cells #[.int .i64 0, .int .i64 0, .int .i64 0] 23)) ⟨w.heap.size + 1 + 1, 2, none⟩ = some (.int .i64 0) := by simp [go_sem]
  have zz2 : World.frozen? (((w.alloc (.cells #[.int .i64 s, .int .i64 e, .int .i64 d] 23)).alloc (.cells #[.int .i64 F, .int .i64 U] 25)).alloc (.cells #[.int .i64 0, .int .i64 0, .int .i64 0] 23)) ⟨w.heap.size + 1 + 1, 2, none⟩ = false := by simp [go_sem]
  have gz : w.heap.size + 1 + 1 < (((w.alloc (.cells #[.int .i64 s, .int .i64 e, .int .i64 d] 23)).alloc (.cells #[.int .i64 F, .int .i64 U] 25)).alloc (.cells #[.int .i64 0, .int .i64 0, .int .i64 0] 23)).heap.size := by simp <;> omega
  have B := Lib.hid (show Below w.heap.size w (((w.alloc (.cells #[.int .i64 s, .int .i64 e, .int .i64 d] 23)).alloc (.cells #[.int .i64 F, .int .i64 U] 25)).alloc (.cells #[.int .i64 0, .int .i64 0, .int .i64 0] 23)) from ((((Below.refl _ _).alloc (by simp; try omega) _).alloc (by simp; try omega) _).alloc (by simp; try omega) _))
  generalize ((w.alloc (.cells #[.int .i64 s, .int .i64 e, .int .i64 d] 23)).alloc (.cells #[.int .i64 F, .int .i64 U] 25)).alloc (.cells #[.int .i64 0, .int .i64 0, .int .i64 0] 23) = V1 at *
  refine (rvalid_b s e d _ HV.out _).mono ?_
  rintro e' w2 ⟨rfl, hb⟩
  replace zz0 := keepf hb z0 zz0
  replace zz1 := keepf hb z1 zz1
  replace zz2 := keepf hb z2 zz2
  replace B := Lib.hid (on_below B.out hb)
  replace c0 := keepc hb c0
  replace c1 := keepc hb c1
  replace c2 := keepc hb c2
  replace t0 := keepc hb t0
  replace t1 := keepc hb t1
  replace z0 := keepc hb z0
  replace z1 := keepc hb z1
  replace z2 := keepc hb z2
  replace gc := Nat.lt_of_lt_of_le gc hb.size
  replace gt := Nat.lt_of_lt_of_le gt hb.size
  replace gz := Nat.lt_of_lt_of_le gz hb.size
  clear hb
  go_wp2_with fail
  all_goals exact bodyPost_ret (v := .tuple #[.agg #[.int .i64 (0), .int .i64 (0), .int .i64 (0)], .int .i64 (1)]) (by simp [results, Try.results20, go_sem, z0, z1, z2]) rfl ⟨rfl, ((B.out.setCell (by simp <;> omega) _).setCell (by simp <;> omega) _).setCell (by simp <;> omega) _⟩
set_option maxRecDepth 100000 in
set_option maxHeartbeats 1000000 in
theorem rset_B (s e d r F U : Int) (iF : I64 F) (iU : I64 U) (w : World) (hv : vc s e d = true) (ht : tm r = false) :
    Calls Try.prog 20 #[.agg #[.int .i64 s, .int .i64 e, .int .i64 d], .int .i64 r, .agg #[.int .i64 F, .int .i64 U]] w fun e' w' => e' = .returned (.tuple #[.agg #[.int .i64 (0), .int .i64 (0), .int .i64 (0)], .int .i64 (1)]) ∧ Below w.heap.size w w' := by
  have HV := Lib.hid hv
  clear hv
  have HT := Lib.hid ht
  clear ht
  go_enter Try.func20, Try.ntmps20
  go_wp2_with fail
  have c0 : World.cell? (((w.alloc (.cells #[.int .i64 s, .int .i64 e, .int .i64 d] 23)).alloc (.cells #[.int .i64 F, .int .i64 U] 25)).alloc (.cells #[.int .i64 0, .int .i64 0, .int .i64 0] 23)) ⟨w.heap.size, 0, none⟩ = some (.int .i64 s) := by simp [go_sem]
  have c1 : World.cell? (((w.alloc (.cells #[.int .i64 s, .int .i64 e, .int .i64 d] 23)).alloc (.cells #[.int .i64 F, .int .i64 U] 25)).alloc (.cells #[.int .i64 0, .int .i64 0, .int .i64 0] 23)) ⟨w.heap.size, 1, none⟩ = some (.int .i64 e) := by simp [go_sem]
  have c2 : World.cell? (((w.alloc (.cells #[.int .i64 s, .int .i64 e, .int .i64 d] 23)).alloc (.cells #[.int .i64 F, .int .i64 U] 25)).alloc (.cells #[.int .i64 0, .int .i64 0, .int .i64 0] 23)) ⟨w.heap.size, 2, none⟩ = some (.int .i64 d) := by simp [go_sem]
  have gc : w.heap.size < (((w.alloc (.cells #[.int .i64 s, .int .i64 e, .int .i64 d] 23)).alloc (.cells #[.int .i64 F, .int .i64 U] 25)).alloc (.cells #[.int .i64 0, .int .i64 0, .int .i64 0] 23)).heap.size := by simp <;> omega
  have t0 : World.cell? (((w.alloc (.cells #[.int .i64 s, .int .i64 e, .int .i64 d] 23)).alloc (.cells #[.int .i64 F, .int .i64 U] 25)).alloc (.cells #[.int .i64 0, .int .i64 0, .int .i64 0] 23)) ⟨w.heap.size + 1, 0, none⟩ = some (.int .i64 F) := by simp [go_sem]
  have t1 : World.cell? (((w.alloc (.cells #[.int .i64 s, .int .i64 e, .int .i64 d] 23)).alloc (.cells #[.int .i64 F, .int .i64 U] 25)).alloc (.cells #[.int .i64 0, .int .i64 0, .int .i64 0] 23)) ⟨w.heap.size + 1, 1, none⟩ = some (.int .i64 U) := by simp [go_sem]
  have gt : w.heap.size + 1 < (((w.alloc (.cells #[.int .i64 s, .int .i64 e, .int .i64 d] 23)).alloc (.cells #[.int .i64 F, .int .i64 U] 25)).alloc (.cells #[.int .i64 0, .int .i64 0, .int .i64 0] 23)).heap.size := by simp <;> omega
  have z0 : World.cell? (((w.alloc (.cells #[.int .i64 s, .int .i64 e, .int .i64 d] 23)).alloc (.cells #[.int .i64 F, .int .i64 U] 25)).alloc (.cells #[.int .i64 0, .int .i64 0, .int .i64 0] 23)) ⟨w.heap.size + 1 + 1, 0, none⟩ = some (.int .i64 0) := by simp [go_sem]
  have zz0 : World.frozen? (((w.alloc (.cells #[.int .i64 s, .int .i64 e, .int .i64 d] 23)).alloc (.cells #[.int .i64 F, .int .i64 U] 25)).alloc (.cells #[.int .i64 0, .int .i64 0, .int .i64 0] 23)) ⟨w.heap.size + 1 + 1, 0, none⟩ = false := by simp [go_sem]
  have z1 : World.cell? (((w.alloc (.cells #[.int .i64 s, .int .i64 e, .int .i64 d] 23)).alloc (.cells #[.int .i64 F, .int .i64 U] 25)).alloc (.cells #[.int .i64 0, .int .i64 0, .int .i64 0] 23)) ⟨w.heap.size + 1 + 1, 1, none⟩ = some (.int .i64 0) := by simp [go_sem]
  have zz1 : World.frozen? (((w.alloc (.cells #[.int .i64 s, .int .i64 e, .int .i64 d] 23)).alloc (.cells #[.int .i64 F, .int .i64 U] 25)).alloc (.cells #[.int .i64 0, .int .i64 0, .int .i64 0] 23)) ⟨w.heap.size + 1 + 1, 1, none⟩ = false := by simp [go_sem]
  have z2 : World.cell? (((w.alloc (.cells #[.int .i64 s, .int .i64 e, .int .i64 d] 23)).alloc (.cells #[.int .i64 F, .int .i64 U] 25)).alloc (.cells #[.int .i64 0, .int .i64 0, .int .i64 0] 23)) ⟨w.heap.size + 1 + 1, 2, none⟩ = some (.int .i64 0) := by simp [go_sem]
  have zz2 : World.frozen? (((w.alloc (.cells #[.int .i64 s, .int .i64 e, .int .i64 d] 23)).alloc (.cells #[.int .i64 F, .int .i64 U] 25)).alloc (.cells #[.int .i64 0, .int .i64 0, .int .i64 0] 23)) ⟨w.heap.size + 1 + 1, 2, none⟩ = false := by simp [go_sem]
  have gz : w.heap.size + 1 + 1 < (((w.alloc (.cells #[.int .i64 s, .int .i64 e, .int .i64 d] 23)).alloc (.cells #[.int .i64 F, .int .i64 U] 25)).alloc (.cells #[.int .i64 0, .int .i64 0, .int .i64 0] 23)).heap.size := by simp <;> omega
  have B := Lib.hid (show Below w.heap.size w (((w.alloc (.cells #[.int .i64 s, .int .i64 e, .int .i64 d] 23)).alloc (.cells #[.int .i64 F, .int .i64 U] 25)).alloc (.cells #[.int .i64 0, .int .i64 0, .int .i64 0] 23)) from ((((Below.refl _ _).alloc (by simp; try omega) _).alloc (by simp; try omega) _).alloc (by simp; try omega) _))
  generalize ((w.alloc (.cells #[.int .i64 s, .int .i64 e, .int .i64 d] 23)).alloc (.cells #[.int .i64 F, .int .i64 U] 25)).alloc (.cells #[.int .i64 0, .int .i64 0, .int .i64 0] 23) = V1 at *
  refine (rvalid_b s e d _ HV.out _).mono ?_
  rintro e' w2 ⟨rfl, hb⟩
  replace zz0 := keepf hb z0 zz0
  replace zz1 := keepf hb z1 zz1
  replace zz2 := keepf hb z2 zz2
  replace B := Lib.hid (on_below B.out hb)
  replace c0 := keepc hb c0
  replace c1 := keepc hb c1
  replace c2 := keepc hb c2
  replace t0 := keepc hb t0
  replace t1 := keepc hb t1
  replace z0 := keepc hb z0
  replace z1 := keepc hb z1
  replace z2 := keepc hb z2
  replace gc := Nat.lt_of_lt_of_le gc hb.size
  replace gt := Nat.lt_of_lt_of_le gt hb.size
  replace gz := Nat.lt_of_lt_of_le gz hb.size
  clear hb
  go_wp2_with fail
  refine (rtime_b r _ HT.out _).mono ?_
  rintro e' w' ⟨rfl, rfl⟩
  go_wp2_with fail
  all_goals exact bodyPost_ret (v := .tuple #[.agg #[.int .i64 (0), .int .i64 (0), .int .i64 (0)], .int .i64 (1)]) (by simp [results, Try.results20, go_sem, z0, z1, z2]) rfl ⟨rfl, ((B.out.setCell (by simp <;> omega) _).setCell (by simp <;> omega) _).setCell (by simp <;> omega) _⟩
set_option maxRecDepth 100000 in
set_option maxHeartbeats 1000000 in
theorem rset_C (s e d r F U : Int) (iF : I64 F) (iU : I64 U) (w : World) (hv : vc s e d = true) (ht : tm r = true) (ha : ¬ (0 ≤ F ∧ F < U ∧ U ≤ 600001)) :
    Calls Try.prog 20 #[.agg #[.int .i64 s, .int .i64 e, .int .i64 d], .int .i64 r, .agg #[.int .i64 F, .int .i64 U]] w fun e' w' => e' = .returned (.tuple #[.agg #[.int .i64 (0), .int .i64 (0), .int .i64 (0)], .int .i64 (1)]) ∧ Below w.heap.size w w' := by
  have HV := Lib.hid hv
  clear hv
  have HT := Lib.hid ht
  clear ht
  go_enter Try.func20, Try.ntmps20
  go_wp2_with fail
  have c0 : World.cell? (((w.alloc (.cells #[.int .i64 s, .int .i64 e, .int .i64 d] 23)).alloc (.cells #[.int .i64 F, .int .i64 U] 25)).alloc (.cells #[.int .i64 0, .int .i64 0, .int .i64 0] 23)) ⟨w.heap.size, 0, none⟩ = some (.int .i64 s) := by simp [go_sem]
  have c1 : World.cell? (((w.alloc (.cells #[.int .i64 s, .int .i64 e, .int .i64 d] 23)).alloc (.cells #[.int .i64 F, .int .i64 U] 25)).alloc (.cells #[.int .i64 0, .int .i64 0, .int .i64 0] 23)) ⟨w.heap.size, 1, none⟩ = some (.int .i64 e) := by simp [go_sem]
  have c2 : World.cell? (((w.alloc (.cells #[.int .i64 s, .int .i64 e, .int .i64 d] 23)).alloc (.cells #[.int .i64 F, .int .i64 U] 25)).alloc (.cells #[.int .i64 0, .int .i64 0, .int .i64 0] 23)) ⟨w.heap.size, 2, none⟩ = some (.int .i64 d) := by simp [go_sem]
  have gc : w.heap.size < (((w.alloc (.cells #[.int .i64 s, .int .i64 e, .int .i64 d] 23)).alloc (.cells #[.int .i64 F, .int .i64 U] 25)).alloc (.cells #[.int .i64 0, .int .i64 0, .int .i64 0] 23)).heap.size := by simp <;> omega
  have t0 : World.cell? (((w.alloc (.cells #[.int .i64 s, .int .i64 e, .int .i64 d] 23)).alloc (.cells #[.int .i64 F, .int .i64 U] 25)).alloc (.cells #[.int .i64 0, .int .i64 0, .int .i64 0] 23)) ⟨w.heap.size + 1, 0, none⟩ = some (.int .i64 F) := by simp [go_sem]
  have t1 : World.cell? (((w.alloc (.cells #[.int .i64 s, .int .i64 e, .int .i64 d] 23)).alloc (.cells #[.int .i64 F, .int .i64 U] 25)).alloc (.cells #[.int .i64 0, .int .i64 0, .int .i64 0] 23)) ⟨w.heap.size + 1, 1, none⟩ = some (.int .i64 U) := by simp [go_sem]
  have gt : w.heap.size + 1 < (((w.alloc (.cells #[.int .i64 s, .int .i64 e, .int .i64 d] 23)).alloc (.cells #[.int .i64 F, .int .i64 U] 25)).alloc (.cells #[.int .i64 0, .int .i64 0, .int .i64 0] 23)).heap.size := by simp <;> omega
  have z0 : World.cell? (((w.alloc (.cells #[.int .i64 s, .int .i64 e, .int .i64 d] 23)).alloc (.cells #[.int .i64 F, .int .i64 U] 25)).alloc (.cells #[.int .i64 0, .int .i64 0, .int .i64 0] 23)) ⟨w.heap.size + 1 + 1, 0, none⟩ = some (.int .i64 0) := by simp [go_sem]
  have zz0 : World.frozen? (((w.alloc (.cells #[.int .i64 s, .int .i64 e, .int .i64 d] 23)).alloc (.cells #[.int .i64 F, .int .i64 U] 25)).alloc (.cells #[.int .i64 0, .int .i64 0, .int .i64 0] 23)) ⟨w.heap.size + 1 + 1, 0, none⟩ = false := by simp [go_sem]
  have z1 : World.cell? (((w.alloc (.cells #[.int .i64 s, .int .i64 e, .int .i64 d] 23)).alloc (.cells #[.int .i64 F, .int .i64 U] 25)).alloc (.cells #[.int .i64 0, .int .i64 0, .int .i64 0] 23)) ⟨w.heap.size + 1 + 1, 1, none⟩ = some (.int .i64 0) := by simp [go_sem]
  have zz1 : World.frozen? (((w.alloc (.cells #[.int .i64 s, .int .i64 e, .int .i64 d] 23)).alloc (.cells #[.int .i64 F, .int .i64 U] 25)).alloc (.cells #[.int .i64 0, .int .i64 0, .int .i64 0] 23)) ⟨w.heap.size + 1 + 1, 1, none⟩ = false := by simp [go_sem]
  have z2 : World.cell? (((w.alloc (.cells #[.int .i64 s, .int .i64 e, .int .i64 d] 23)).alloc (.cells #[.int .i64 F, .int .i64 U] 25)).alloc (.cells #[.int .i64 0, .int .i64 0, .int .i64 0] 23)) ⟨w.heap.size + 1 + 1, 2, none⟩ = some (.int .i64 0) := by simp [go_sem]
  have zz2 : World.frozen? (((w.alloc (.cells #[.int .i64 s, .int .i64 e, .int .i64 d] 23)).alloc (.cells #[.int .i64 F, .int .i64 U] 25)).alloc (.cells #[.int .i64 0, .int .i64 0, .int .i64 0] 23)) ⟨w.heap.size + 1 + 1, 2, none⟩ = false := by simp [go_sem]
  have gz : w.heap.size + 1 + 1 < (((w.alloc (.cells #[.int .i64 s, .int .i64 e, .int .i64 d] 23)).alloc (.cells #[.int .i64 F, .int .i64 U] 25)).alloc (.cells #[.int .i64 0, .int .i64 0, .int .i64 0] 23)).heap.size := by simp <;> omega
  have B := Lib.hid (show Below w.heap.size w (((w.alloc (.cells #[.int .i64 s, .int .i64 e, .int .i64 d] 23)).alloc (.cells #[.int .i64 F, .int .i64 U] 25)).alloc (.cells #[.int .i64 0, .int .i64 0, .int .i64 0] 23)) from ((((Below.refl _ _).alloc (by simp; try omega) _).alloc (by simp; try omega) _).alloc (by simp; try omega) _))
  generalize ((w.alloc (.cells #[.int .i64 s, .int .i64 e, .int .i64 d] 23)).alloc (.cells #[.int .i64 F, .int .i64 U] 25)).alloc (.cells #[.int .i64 0, .int .i64 0, .int .i64 0] 23) = V1 at *
  refine (rvalid_b s e d _ HV.out _).mono ?_
  rintro e' w2 ⟨rfl, hb⟩
  replace zz0 := keepf hb z0 zz0
  replace zz1 := keepf hb z1 zz1
  replace zz2 := keepf hb z2 zz2
  replace B := Lib.hid (on_below B.out hb)
  replace c0 := keepc hb c0
  replace c1 := keepc hb c1
  replace c2 := keepc hb c2
  replace t0 := keepc hb t0
  replace t1 := keepc hb t1
  replace z0 := keepc hb z0
  replace z1 := keepc hb z1
  replace z2 := keepc hb z2
  replace gc := Nat.lt_of_lt_of_le gc hb.size
  replace gt := Nat.lt_of_lt_of_le gt hb.size
  replace gz := Nat.lt_of_lt_of_le gz hb.size
  clear hb
  go_wp2_with fail
  refine (rtime_b r _ HT.out _).mono ?_
  rintro e' w' ⟨rfl, rfl⟩
  go_wp2_with fail
  all_goals first | omega | exact bodyPost_ret (v := .tuple #[.agg #[.int .i64 (0), .int .i64 (0), .int .i64 (0)], .int .i64 (1)]) (by simp [results, Try.results20, go_sem, z0, z1, z2]) rfl ⟨rfl, ((B.out.setCell (by simp <;> omega) _).setCell (by simp <;> omega) _).setCell (by simp <;> omega) _⟩
set_option maxRecDepth 100000 in
set_option maxHeartbeats 1000000 in
theorem rset_D (s e d r F U : Int) (iF : I64 F) (iU : I64 U) (w : World) (N : Int) (hv : vc s e d = true) (ht : tm r = true) (r0 : 0 ≤ r) (r1 : r ≤ 600000) (a0 : 0 ≤ F) (a1 : F < U) (a2 : U ≤ 600001) (n0 : 0 ≤ N) (n1 : r - F ≤ N) (n2 : U - 1 - r ≤ N) (n3 : N ≤ 0 ∨ N ≤ r - F ∨ N ≤ U - 1 - r) (hn : 1000 < N) :
    Calls Try.prog 20 #[.agg #[.int .i64 s, .int .i64 e, .int .i64 d], .int .i64 r, .agg #[.int .i64 F, .int .i64 U]] w fun e' w' => e' = .returned (.tuple #[.agg #[.int .i64 (0), .int .i64 (0), .int .i64 (0)], .int .i64 (3)]) ∧ Below w.heap.size w w' := by
  have HV := Lib.hid hv
  clear hv
  have HT := Lib.hid ht
  clear ht
  have q0 : IntKind.i64.wrap (r - F) = r - F := wrap_in (by omega) (by omega)
  have q1 : IntKind.i64.wrap (U - 1) = U - 1 := wrap_in (by omega) (by omega)
  have q2 : IntKind.i64.wrap (U - 1 - r) = U - 1 - r := wrap_in (by omega) (by omega)
  go_enter Try.func20, Try.ntmps20
  go_wp2_with fail
  have c0 : World.cell? (((w.alloc (.cells #[.int .i64 s, .int .i64 e, .int .i64 d] 23)).alloc (.cells #[.int .i64 F, .int .i64 U] 25)).alloc (.cells #[.int .i64 0, .int .i64 0, .int .i64 0] 23)) ⟨w.heap.size, 0, none⟩ = some (.int .i64 s) := by simp [go_sem]
  have c1 : World.cell? (((w.alloc (.cells #[.int .i64 s, .int .i64 e, .int .i64 d] 23)).alloc (.cells #[.int .i64 F, .int .i64 U] 25)).alloc (.cells #[.int .i64 0, .int .i64 0, .int .i64 0] 23)) ⟨w.heap.size, 1, none⟩ = some (.int .i64 e) := by simp [go_sem]
  have c2 : World.cell? (((w.alloc (.cells #[.int .i64 s, .int .i64 e, .int .i64 d] 23)).alloc (.cells #[.int .i64 F, .int .i64 U] 25)).alloc (.cells #[.int .i64 0, .int .i64 0, .int .i64 0] 23)) ⟨w.heap.size, 2, none⟩ = some (.int .i64 d) := by simp [go_sem]
  have gc : w.heap.size < (((w.alloc (.cells #[.int .i64 s, .int .i64 e, .int .i64 d] 23)).alloc (.cells #[.int .i64 F, .int .i64 U] 25)).alloc (.cells #[.int .i64 0, .int .i64 0, .int .i64 0] 23)).heap.size := by simp <;> omega
  have t0 : World.cell? (((w.alloc (.cells #[.int .i64 s, .int .i64 e, .int .i64 d] 23)).alloc (.cells #[.int .i64 F, .int .i64 U] 25)).alloc (.cells #[.int .i64 0, .int .i64 0, .int .i64 0] 23)) ⟨w.heap.size + 1, 0, none⟩ = some (.int .i64 F) := by simp [go_sem]
  have t1 : World.cell? (((w.alloc (.cells #[.int .i64 s, .int .i64 e, .int .i64 d] 23)).alloc (.cells #[.int .i64 F, .int .i64 U] 25)).alloc (.cells #[.int .i64 0, .int .i64 0, .int .i64 0] 23)) ⟨w.heap.size + 1, 1, none⟩ = some (.int .i64 U) := by simp [go_sem]
  have gt : w.heap.size + 1 < (((w.alloc (.cells #[.int .i64 s, .int .i64 e, .int .i64 d] 23)).alloc (.cells #[.int .i64 F, .int .i64 U] 25)).alloc (.cells #[.int .i64 0, .int .i64 0, .int .i64 0] 23)).heap.size := by simp <;> omega
  have z0 : World.cell? (((w.alloc (.cells #[.int .i64 s, .int .i64 e, .int .i64 d] 23)).alloc (.cells #[.int .i64 F, .int .i64 U] 25)).alloc (.cells #[.int .i64 0, .int .i64 0, .int .i64 0] 23)) ⟨w.heap.size + 1 + 1, 0, none⟩ = some (.int .i64 0) := by simp [go_sem]
  have zz0 : World.frozen? (((w.alloc (.cells #[.int .i64 s, .int .i64 e, .int .i64 d] 23)).alloc (.cells #[.int .i64 F, .int .i64 U] 25)).alloc (.cells #[.int .i64 0, .int .i64 0, .int .i64 0] 23)) ⟨w.heap.size + 1 + 1, 0, none⟩ = false := by simp [go_sem]
  have z1 : World.cell? (((w.alloc (.cells #[.int .i64 s, .int .i64 e, .int .i64 d] 23)).alloc (.cells #[.int .i64 F, .int .i64 U] 25)).alloc (.cells #[.int .i64 0, .int .i64 0, .int .i64 0] 23)) ⟨w.heap.size + 1 + 1, 1, none⟩ = some (.int .i64 0) := by simp [go_sem]
  have zz1 : World.frozen? (((w.alloc (.cells #[.int .i64 s, .int .i64 e, .int .i64 d] 23)).alloc (.cells #[.int .i64 F, .int .i64 U] 25)).alloc (.cells #[.int .i64 0, .int .i64 0, .int .i64 0] 23)) ⟨w.heap.size + 1 + 1, 1, none⟩ = false := by simp [go_sem]
  have z2 : World.cell? (((w.alloc (.cells #[.int .i64 s, .int .i64 e, .int .i64 d] 23)).alloc (.cells #[.int .i64 F, .int .i64 U] 25)).alloc (.cells #[.int .i64 0, .int .i64 0, .int .i64 0] 23)) ⟨w.heap.size + 1 + 1, 2, none⟩ = some (.int .i64 0) := by simp [go_sem]
  have zz2 : World.frozen? (((w.alloc (.cells #[.int .i64 s, .int .i64 e, .int .i64 d] 23)).alloc (.cells #[.int .i64 F, .int .i64 U] 25)).alloc (.cells #[.int .i64 0, .int .i64 0, .int .i64 0] 23)) ⟨w.heap.size + 1 + 1, 2, none⟩ = false := by simp [go_sem]
  have gz : w.heap.size + 1 + 1 < (((w.alloc (.cells #[.int .i64 s, .int .i64 e, .int .i64 d] 23)).alloc (.cells #[.int .i64 F, .int .i64 U] 25)).alloc (.cells #[.int .i64 0, .int .i64 0, .int .i64 0] 23)).heap.size := by simp <;> omega
  have B := Lib.hid (show Below w.heap.size w (((w.alloc (.cells #[.int .i64 s, .int .i64 e, .int .i64 d] 23)).alloc (.cells #[.int .i64 F, .int .i64 U] 25)).alloc (.cells #[.int .i64 0, .int .i64 0, .int .i64 0] 23)) from ((((Below.refl _ _).alloc (by simp; try omega) _).alloc (by simp; try omega) _).alloc (by simp; try omega) _))
  generalize ((w.alloc (.cells #[.int .i64 s, .int .i64 e, .int .i64 d] 23)).alloc (.cells #[.int .i64 F, .int .i64 U] 25)).alloc (.cells #[.int .i64 0, .int .i64 0, .int .i64 0] 23) = V1 at *
  refine (rvalid_b s e d _ HV.out _).mono ?_
  rintro e' w2 ⟨rfl, hb⟩
  replace zz0 := keepf hb z0 zz0
  replace zz1 := keepf hb z1 zz1
  replace zz2 := keepf hb z2 zz2
  replace B := Lib.hid (on_below B.out hb)
  replace c0 := keepc hb c0
  replace c1 := keepc hb c1
  replace c2 := keepc hb c2
  replace t0 := keepc hb t0
  replace t1 := keepc hb t1
  replace z0 := keepc hb z0
  replace z1 := keepc hb z1
  replace z2 := keepc hb z2
  replace gc := Nat.lt_of_lt_of_le gc hb.size
  replace gt := Nat.lt_of_lt_of_le gt hb.size
  replace gz := Nat.lt_of_lt_of_le gz hb.size
  clear hb
  go_wp2_with fail
  refine (rtime_b r _ HT.out _).mono ?_
  rintro e' w' ⟨rfl, rfl⟩
  go_wp2_with fail
  all_goals first | omega | exact bodyPost_ret (v := .tuple #[.agg #[.int .i64 (0), .int .i64 (0), .int .i64 (0)], .int .i64 (3)]) (by simp [results, Try.results20, go_sem, z0, z1, z2]) rfl ⟨rfl, ((B.out.setCell (by simp <;> omega) _).setCell (by simp <;> omega) _).setCell (by simp <;> omega) _⟩
set_option maxRecDepth 100000 in
set_option maxHeartbeats 1000000 in
theorem rset_E (s e d r F U : Int) (iF : I64 F) (iU : I64 U) (w : World) (N : Int) (hv : vc s e d = true) (ht : tm r = true) (r0 : 0 ≤ r) (r1 : r ≤ 600000) (a0 : 0 ≤ F) (a1 : F < U) (a2 : U ≤ 600001) (n0 : 0 ≤ N) (n1 : r - F ≤ N) (n2 : U - 1 - r ≤ N) (n3 : N ≤ 0 ∨ N ≤ r - F ∨ N ≤ U - 1 - r) (hn : N ≤ 1000) :
    Calls Try.prog 20 #[.agg #[.int .i64 s, .int .i64 e, .int .i64 d], .int .i64 r, .agg #[.int .i64 F, .int .i64 U]] w fun e' w' => e' = .returned (.tuple #[.agg #[.int .i64 (r), .int .i64 (N), .int .i64 (d)], .int .i64 (0)]) ∧ Below w.heap.size w w' := by
  have HV := Lib.hid hv
  clear hv
  have HT := Lib.hid ht
  clear ht
  have q0 : IntKind.i64.wrap (r - F) = r - F := wrap_in (by omega) (by omega)
  have q1 : IntKind.i64.wrap (U - 1) = U - 1 := wrap_in (by omega) (by omega)
  have q2 : IntKind.i64.wrap (U - 1 - r) = U - 1 - r := wrap_in (by omega) (by omega)
  go_enter Try.func20, Try.ntmps20
  go_wp2_with fail
  have c0 : World.cell? (((w.alloc (.cells #[.int .i64 s, .int .i64 e, .int .i64 d] 23)).alloc (.cells #[.int .i64 F, .int .i64 U] 25)).alloc (.cells #[.int .i64 0, .int .i64 0, .int .i64 0] 23)) ⟨w.heap.size, 0, none⟩ = some (.int .i64 s) := by simp [go_sem]
  have c1 : World.cell? (((w.alloc (.cells #[.int .i64 s, .int .i64 e, .int .i64 d] 23)).alloc (.cells #[.int .i64 F, .int .i64 U] 25)).alloc (.cells #[.int .i64 0, .int .i64 0, .int .i64 0] 23)) ⟨w.heap.size, 1, none⟩ = some (.int .i64 e) := by simp [go_sem]
  have c2 : World.cell? (((w.alloc (.cells #[.int .i64 s, .int .i64 e, .int .i64 d] 23)).alloc (.cells #[.int .i64 F, .int .i64 U] 25)).alloc (.cells #[.int .i64 0, .int .i64 0, .int .i64 0] 23)) ⟨w.heap.size, 2, none⟩ = some (.int .i64 d) := by simp [go_sem]
  have gc : w.heap.size < (((w.alloc (.cells #[.int .i64 s, .int .i64 e, .int .i64 d] 23)).alloc (.cells #[.int .i64 F, .int .i64 U] 25)).alloc (.cells #[.int .i64 0, .int .i64 0, .int .i64 0] 23)).heap.size := by simp <;> omega
  have t0 : World.cell? (((w.alloc (.cells #[.int .i64 s, .int .i64 e, .int .i64 d] 23)).alloc (.cells #[.int .i64 F, .int .i64 U] 25)).alloc (.cells #[.int .i64 0, .int .i64 0, .int .i64 0] 23)) ⟨w.heap.size + 1, 0, none⟩ = some (.int .i64 F) := by simp [go_sem]
  have t1 : World.cell? (((w.alloc (.cells #[.int .i64 s, .int .i64 e, .int .i64 d] 23)).alloc (.cells #[.int .i64 F, .int .i64 U] 25)).alloc (.cells #[.int .i64 0, .int .i64 0, .int .i64 0] 23)) ⟨w.heap.size + 1, 1, none⟩ = some (.int .i64 U) := by simp [go_sem]
  have gt : w.heap.size + 1 < (((w.alloc (.cells #[.int .i64 s, .int .i64 e, .int .i64 d] 23)).alloc (.cells #[.int .i64 F, .int .i64 U] 25)).alloc (.cells #[.int .i64 0, .int .i64 0, .int .i64 0] 23)).heap.size := by simp <;> omega
  have z0 : World.cell? (((w.alloc (.cells #[.int .i64 s, .int .i64 e, .int .i64 d] 23)).alloc (.cells #[.int .i64 F, .int .i64 U] 25)).alloc (.cells #[.int .i64 0, .int .i64 0, .int .i64 0] 23)) ⟨w.heap.size + 1 + 1, 0, none⟩ = some (.int .i64 0) := by simp [go_sem]
  have zz0 : World.frozen? (((w.alloc (.cells #[.int .i64 s, .int .i64 e, .int .i64 d] 23)).alloc (.cells #[.int .i64 F, .int .i64 U] 25)).alloc (.cells #[.int .i64 0, .int .i64 0, .int .i64 0] 23)) ⟨w.heap.size + 1 + 1, 0, none⟩ = false := by simp [go_sem]
  have z1 : World.cell? (((w.alloc (.cells #[.int .i64 s, .int .i64 e, .int .i64 d] 23)).alloc (.cells #[.int .i64 F, .int .i64 U] 25)).alloc (.cells #[.int .i64 0, .int .i64 0, .int .i64 0] 23)) ⟨w.heap.size + 1 + 1, 1, none⟩ = some (.int .i64 0) := by simp [go_sem]
  have zz1 : World.frozen? (((w.alloc (.cells #[.int .i64 s, .int .i64 e, .int .i64 d] 23)).alloc (.cells #[.int .i64 F, .int .i64 U] 25)).alloc (.cells #[.int .i64 0, .int .i64 0, .int .i64 0] 23)) ⟨w.heap.size + 1 + 1, 1, none⟩ = false := by simp [go_sem]
  have z2 : World.cell? (((w.alloc (.cells #[.int .i64 s, .int .i64 e, .int .i64 d] 23)).alloc (.cells #[.int .i64 F, .int .i64 U] 25)).alloc (.cells #[.int .i64 0, .int .i64 0, .int .i64 0] 23)) ⟨w.heap.size + 1 + 1, 2, none⟩ = some (.int .i64 0) := by simp [go_sem]
  have zz2 : World.frozen? (((w.alloc (.cells #[.int .i64 s, .int .i64 e, .int .i64 d] 23)).alloc (.cells #[.int .i64 F, .int .i64 U] 25)).alloc (.cells #[.int .i64 0, .int .i64 0, .int .i64 0] 23)) ⟨w.heap.size + 1 + 1, 2, none⟩ = false := by simp [go_sem]
  have gz : w.heap.size + 1 + 1 < (((w.alloc (.cells #[.int .i64 s, .int .i64 e, .int .i64 d] 23)).alloc (.cells #[.int .i64 F, .int .i64 U] 25)).alloc (.cells #[.int .i64 0, .int .i64 0, .int .i64 0] 23)).heap.size := by simp <;> omega
  have B := Lib.hid (show Below w.heap.size w (((w.alloc (.cells #[.int .i64 s, .int .i64 e, .int .i64 d] 23)).alloc (.cells #[.int .i64 F, .int .i64 U] 25)).alloc (.cells #[.int .i64 0, .int .i64 0, .int .i64 0] 23)) from ((((Below.refl _ _).alloc (by simp; try omega) _).alloc (by simp; try omega) _).alloc (by simp; try omega) _))
  generalize ((w.alloc (.cells #[.int .i64 s, .int .i64 e, .int .i64 d] 23)).alloc (.cells #[.int .i64 F, .int .i64 U] 25)).alloc (.cells #[.int .i64 0, .int .i64 0, .int .i64 0] 23) = V1 at *
  refine (rvalid_b s e d _ HV.out _).mono ?_
  rintro e' w2 ⟨rfl, hb⟩
  replace zz0 := keepf hb z0 zz0
  replace zz1 := keepf hb z1 zz1
  replace zz2 := keepf hb z2 zz2
  replace B := Lib.hid (on_below B.out hb)
  replace c0 := keepc hb c0
  replace c1 := keepc hb c1
  replace c2 := keepc hb c2
  replace t0 := keepc hb t0
  replace t1 := keepc hb t1
  replace z0 := keepc hb z0
  replace z1 := keepc hb z1
  replace z2 := keepc hb z2
  replace gc := Nat.lt_of_lt_of_le gc hb.size
  replace gt := Nat.lt_of_lt_of_le gt hb.size
  replace gz := Nat.lt_of_lt_of_le gz hb.size
  clear hb
  go_wp2_with fail
  refine (rtime_b r _ HT.out _).mono ?_
  rintro e' w' ⟨rfl, rfl⟩
  go_wp2_with fail
  all_goals first | omega | exact bodyPost_ret (v := .tuple #[.agg #[.int .i64 (r), .int .i64 (N), .int .i64 (d)], .int .i64 (0)]) (by simp [results, Try.results20, go_sem, z0, z1, z2] <;> omega) rfl ⟨rfl, ((B.out.setCell (by simp <;> omega) _).setCell (by simp <;> omega) _).setCell (by simp <;> omega) _⟩
theorem rset_is (s e d r F U x y z E : Int) (iF : I64 F) (iU : I64 U) (h1 : c1 s e d r F U = x) (h2 : c2 s e d r F U = y) (h3 : c3 s e d r F U = z) (hE : sE s e d r F U = E) (w : World) :
    Calls Try.prog 20 #[.agg #[.int .i64 s, .int .i64 e, .int .i64 d], .int .i64 r, .agg #[.int .i64 F, .int .i64 U]] w fun e' w' => e' = .returned (.tuple #[.agg #[.int .i64 x, .int .i64 y, .int .i64 z], .int .i64 E]) ∧ Below w.heap.size w w' := by
  subst h1 h2 h3 hE
  have vv : ∀ x, sE s e d r F U = x → c1 s e d r F U = (if x = 0 then r else 0) ∧ c2 s e d r F U = (if x = 0 then sN r F U else 0) ∧ c3 s e d r F U = (if x = 0 then d else 0) := by rintro x rfl; exact ⟨rfl, rfl, rfl⟩
  cases hv : vc s e d with
  | false =>
    have h := sE_bad (s := s) (e := e) (d := d) (r := r) (F := F) (U := U) (by simp [may, hv])
    obtain ⟨h1, h2, h3⟩ := vv _ h
    rw [h, h1, h2, h3]
    exact rset_A s e d r F U iF iU w hv
  | true =>
    cases ht : tm r with
    | false =>
      have h := sE_bad (s := s) (e := e) (d := d) (r := r) (F := F) (U := U) (by simp [may, ht])
      obtain ⟨h1, h2, h3⟩ := vv _ h
      rw [h, h1, h2, h3]
      exact rset_B s e d r F U iF iU w hv ht
    | true =>
      cases ha : ar F U with
      | false =>
        have h := sE_bad (s := s) (e := e) (d := d) (r := r) (F := F) (U := U) (by simp [may, ha])
        obtain ⟨h1, h2, h3⟩ := vv _ h
        rw [h, h1, h2, h3]
        exact rset_C s e d r F U iF iU w hv ht (fun c => by rw [ar_iff.2 c] at ha; cases ha)
      | true =>
        obtain ⟨u0, u1, u2⟩ := ar_iff.1 ha
        have m := tm_iff.1 ht
        have hm : may s e d r F U = true := by simp [may, hv, ht, ha]
        have hN : sN r F U = max (max 0 (r - F)) (U - 1 - r) := rfl
        rcases Int.lt_or_le 1000 (sN r F U) with hy | hy
        · have h := sE_far hm hy
          obtain ⟨h1, h2, h3⟩ := vv _ h
          rw [h, h1, h2, h3]
          exact rset_D s e d r F U iF iU w (sN r F U) hv ht m.1 m.2 u0 u1 u2 (by omega) (by omega) (by omega) (by omega) hy
        · have h := sE_ok hm hy
          obtain ⟨h1, h2, h3⟩ := vv _ h
          rw [h, h1, h2, h3]
          exact rset_E s e d r F U iF iU w (sN r F U) hv ht m.1 m.2 u0 u1 u2 (by omega) (by omega) (by omega) (by omega) hy
end Go.Proofs.Ytnjhepkfjohdnaa
