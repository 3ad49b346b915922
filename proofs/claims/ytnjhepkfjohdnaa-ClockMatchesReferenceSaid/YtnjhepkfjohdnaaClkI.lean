/-
  Clocks: Set of the package.
-/
import Derived.Test.YtnjhepkfjohdnaaClkH
namespace Go.Proofs.Ytnjhepkfjohdnaa
open Go.RowKit Go.Sort
open Go.RowKit (Below)
set_option linter.unusedVariables false

/-- May a clock be set so? -/
def ar (F U : Int) : Bool := decide (0 ≤ F) && decide (F < U) && decide (U ≤ 600001)
theorem ar_iff {F U : Int} : ar F U = true ↔ 0 ≤ F ∧ F < U ∧ U ≤ 600001 := by simp [ar, and_assoc]
def may (s e d r F U : Int) : Bool := vc s e d && tm r && ar F U
/-- The error that it then has. -/
def sN (r F U : Int) : Int := max (max 0 (r - F)) (U - 1 - r)
def sE (s e d r F U : Int) : Int := if may s e d r F U = true then (if sN r F U ≤ 1000 then 0 else 3) else 1
/-- The clock that is returned. -/
def c1 (s e d r F U : Int) : Int := if sE s e d r F U = 0 then r else 0
def c2 (s e d r F U : Int) : Int := if sE s e d r F U = 0 then sN r F U else 0
def c3 (s e d r F U : Int) : Int := if sE s e d r F U = 0 then d else 0
theorem sE_bad {s e d r F U : Int} (h : may s e d r F U = false) : sE s e d r F U = 1 := by simp [sE, h]
theorem sE_far {s e d r F U : Int} (h : may s e d r F U = true) (hn : 1000 < sN r F U) : sE s e d r F U = 3 := by simp [sE, h]; omega
theorem sE_ok {s e d r F U : Int} (h : may s e d r F U = true) (hn : sN r F U ≤ 1000) : sE s e d r F U = 0 := by simp [sE, h]; omega
/-- What three stores ahead of a new block leave. -/
theorem done3 {v w : World} {b : Nat} {u u' u'' : Value} (x y z : Int) (o : Obj) (h0 : w.cell? ⟨b, 0, none⟩ = some u) (h1 : w.cell? ⟨b, 1, none⟩ = some u') (h2 : w.cell? ⟨b, 2, none⟩ = some u'') (hB : Below v.heap.size v w) (hv : v.heap.size ≤ b) :
    ((((w.setCell ⟨b, 0, none⟩ (.int .i64 x)).setCell ⟨b, 1, none⟩ (.int .i64 y)).setCell ⟨b, 2, none⟩ (.int .i64 z)).alloc o).drew.cell? ⟨b, 0, none⟩ = some (.int .i64 x) ∧
    ((((w.setCell ⟨b, 0, none⟩ (.int .i64 x)).setCell ⟨b, 1, none⟩ (.int .i64 y)).setCell ⟨b, 2, none⟩ (.int .i64 z)).alloc o).drew.cell? ⟨b, 1, none⟩ = some (.int .i64 y) ∧
    ((((w.setCell ⟨b, 0, none⟩ (.int .i64 x)).setCell ⟨b, 1, none⟩ (.int .i64 y)).setCell ⟨b, 2, none⟩ (.int .i64 z)).alloc o).drew.cell? ⟨b, 2, none⟩ = some (.int .i64 z) ∧
    Below v.heap.size v ((((w.setCell ⟨b, 0, none⟩ (.int .i64 x)).setCell ⟨b, 1, none⟩ (.int .i64 y)).setCell ⟨b, 2, none⟩ (.int .i64 z)).alloc o).drew := by
  have B3 : Below v.heap.size v (((w.setCell ⟨b, 0, none⟩ (.int .i64 x)).setCell ⟨b, 1, none⟩ (.int .i64 y)).setCell ⟨b, 2, none⟩ (.int .i64 z)) := Below.setCell (Below.setCell (Below.setCell hB (by exact hv) _) (by exact hv) _) (by exact hv) _
  have k0 : (((w.setCell ⟨b, 0, none⟩ (.int .i64 x)).setCell ⟨b, 1, none⟩ (.int .i64 y)).setCell ⟨b, 2, none⟩ (.int .i64 z)).cell? ⟨b, 0, none⟩ = some (.int .i64 x) := by simp [go_sem, h0]
  have k1 : (((w.setCell ⟨b, 0, none⟩ (.int .i64 x)).setCell ⟨b, 1, none⟩ (.int .i64 y)).setCell ⟨b, 2, none⟩ (.int .i64 z)).cell? ⟨b, 1, none⟩ = some (.int .i64 y) := by simp [go_sem, h1]
  have k2 : (((w.setCell ⟨b, 0, none⟩ (.int .i64 x)).setCell ⟨b, 1, none⟩ (.int .i64 y)).setCell ⟨b, 2, none⟩ (.int .i64 z)).cell? ⟨b, 2, none⟩ = some (.int .i64 z) := by simp [go_sem, h2]
  have A := (Below.refl (((w.setCell ⟨b, 0, none⟩ (.int .i64 x)).setCell ⟨b, 1, none⟩ (.int .i64 y)).setCell ⟨b, 2, none⟩ (.int .i64 z)).heap.size (((w.setCell ⟨b, 0, none⟩ (.int .i64 x)).setCell ⟨b, 1, none⟩ (.int .i64 y)).setCell ⟨b, 2, none⟩ (.int .i64 z))).alloc (Nat.le_refl _) o
  exact ⟨keepc A.drew k0, keepc A.drew k1, keepc A.drew k2, (B3.alloc B3.size o).drew⟩

set_option maxRecDepth 100000 in
set_option maxHeartbeats 1000000 in
theorem set_A (s e d r F U : Int) (w : World) (hv : vc s e d = false) :
    Calls Try.prog 19 #[.agg #[.int .i64 s, .int .i64 e, .int .i64 d], .int .i64 r, .agg #[.int .i64 F, .int .i64 U]] w fun e' w' => e' = .returned (.tuple #[.agg #[.int .i64 0, .int .i64 0, .int .i64 0], .int .i64 1]) ∧ Below w.heap.size w w' := by
  have HV := Lib.hid hv
  clear hv
  go_enter Try.func19, Try.ntmps19
  go_wp2_with fail
  refine (valid_b s e d _ HV.out _).mono ?_
  rintro e' w1 ⟨rfl, hb⟩
  obtain ⟨h1, h2⟩ := bcell hb
  have a0 : w1.cell? ⟨w.heap.size, 0, none⟩ = some (.int .i64 s) := by rw [h1 _ _ (by simp <;> omega)]; simp [go_sem]
  have a1 : w1.cell? ⟨w.heap.size, 1, none⟩ = some (.int .i64 e) := by rw [h1 _ _ (by simp <;> omega)]; simp [go_sem]
  have a2 : w1.cell? ⟨w.heap.size, 2, none⟩ = some (.int .i64 d) := by rw [h1 _ _ (by simp <;> omega)]; simp [go_sem]
  have b0 : w1.cell? ⟨w.heap.size + 1, 0, none⟩ = some (.int .i64 F) := by rw [h1 _ _ (by simp <;> omega)]; simp [go_sem]
  have b1 : w1.cell? ⟨w.heap.size + 1, 1, none⟩ = some (.int .i64 U) := by rw [h1 _ _ (by simp <;> omega)]; simp [go_sem]
  have z0 : w1.cell? ⟨w.heap.size + 1 + 1, 0, none⟩ = some (.int .i64 0) := by rw [h1 _ _ (by simp <;> omega)]; simp [go_sem]
  have f0 : w1.frozen? ⟨w.heap.size + 1 + 1, 0, none⟩ = false := by rw [h2 _ _ (by simp <;> omega)]; simp [go_sem]
  have z1 : w1.cell? ⟨w.heap.size + 1 + 1, 1, none⟩ = some (.int .i64 0) := by rw [h1 _ _ (by simp <;> omega)]; simp [go_sem]
  have f1 : w1.frozen? ⟨w.heap.size + 1 + 1, 1, none⟩ = false := by rw [h2 _ _ (by simp <;> omega)]; simp [go_sem]
  have z2 : w1.cell? ⟨w.heap.size + 1 + 1, 2, none⟩ = some (.int .i64 0) := by rw [h1 _ _ (by simp <;> omega)]; simp [go_sem]
  have f2 : w1.frozen? ⟨w.heap.size + 1 + 1, 2, none⟩ = false := by rw [h2 _ _ (by simp <;> omega)]; simp [go_sem]
  have B1 : Below w.heap.size w w1 := ((((Below.refl _ _).alloc (Nat.le_refl _) _).alloc (by simp) _).alloc (by simp; omega) _).trans (hb.mono (by simp; omega))
  clear h1 h2 hb
  go_wp2
  exact bodyPost_ret (v := .tuple #[.agg #[.int .i64 0, .int .i64 0, .int .i64 0], .int .i64 1]) (by simp [results, Try.results19, go_sem, z0, z1, z2]) rfl ⟨rfl, ((B1.setCell (by simp <;> omega) _).setCell (by simp <;> omega) _).setCell (by simp <;> omega) _⟩
set_option maxRecDepth 100000 in
set_option maxHeartbeats 1000000 in
theorem set_B (s e d r F U : Int) (w : World) (hv : vc s e d = true) (ht : tm r = false) :
    Calls Try.prog 19 #[.agg #[.int .i64 s, .int .i64 e, .int .i64 d], .int .i64 r, .agg #[.int .i64 F, .int .i64 U]] w fun e' w' => e' = .returned (.tuple #[.agg #[.int .i64 0, .int .i64 0, .int .i64 0], .int .i64 1]) ∧ Below w.heap.size w w' := by
  have HV := Lib.hid hv
  clear hv
  have HT := Lib.hid ht
  clear ht
  go_enter Try.func19, Try.ntmps19
  go_wp2_with fail
  refine (valid_b s e d _ HV.out _).mono ?_
  rintro e' w1 ⟨rfl, hb⟩
  obtain ⟨h1, h2⟩ := bcell hb
  have a0 : w1.cell? ⟨w.heap.size, 0, none⟩ = some (.int .i64 s) := by rw [h1 _ _ (by simp <;> omega)]; simp [go_sem]
  have a1 : w1.cell? ⟨w.heap.size, 1, none⟩ = some (.int .i64 e) := by rw [h1 _ _ (by simp <;> omega)]; simp [go_sem]
  have a2 : w1.cell? ⟨w.heap.size, 2, none⟩ = some (.int .i64 d) := by rw [h1 _ _ (by simp <;> omega)]; simp [go_sem]
  have b0 : w1.cell? ⟨w.heap.size + 1, 0, none⟩ = some (.int .i64 F) := by rw [h1 _ _ (by simp <;> omega)]; simp [go_sem]
  have b1 : w1.cell? ⟨w.heap.size + 1, 1, none⟩ = some (.int .i64 U) := by rw [h1 _ _ (by simp <;> omega)]; simp [go_sem]
  have z0 : w1.cell? ⟨w.heap.size + 1 + 1, 0, none⟩ = some (.int .i64 0) := by rw [h1 _ _ (by simp <;> omega)]; simp [go_sem]
  have f0 : w1.frozen? ⟨w.heap.size + 1 + 1, 0, none⟩ = false := by rw [h2 _ _ (by simp <;> omega)]; simp [go_sem]
  have z1 : w1.cell? ⟨w.heap.size + 1 + 1, 1, none⟩ = some (.int .i64 0) := by rw [h1 _ _ (by simp <;> omega)]; simp [go_sem]
  have f1 : w1.frozen? ⟨w.heap.size + 1 + 1, 1, none⟩ = false := by rw [h2 _ _ (by simp <;> omega)]; simp [go_sem]
  have z2 : w1.cell? ⟨w.heap.size + 1 + 1, 2, none⟩ = some (.int .i64 0) := by rw [h1 _ _ (by simp <;> omega)]; simp [go_sem]
  have f2 : w1.frozen? ⟨w.heap.size + 1 + 1, 2, none⟩ = false := by rw [h2 _ _ (by simp <;> omega)]; simp [go_sem]
  have B1 : Below w.heap.size w w1 := ((((Below.refl _ _).alloc (Nat.le_refl _) _).alloc (by simp) _).alloc (by simp; omega) _).trans (hb.mono (by simp; omega))
  clear h1 h2 hb
  go_wp2_with fail
  refine (isTime_b r _ HT.out _).mono ?_
  rintro e' w' ⟨rfl, rfl⟩
  go_wp2
  exact bodyPost_ret (v := .tuple #[.agg #[.int .i64 0, .int .i64 0, .int .i64 0], .int .i64 1]) (by simp [results, Try.results19, go_sem, z0, z1, z2]) rfl ⟨rfl, ((B1.setCell (by simp <;> omega) _).setCell (by simp <;> omega) _).setCell (by simp <;> omega) _⟩
set_option maxRecDepth 100000 in
set_option maxHeartbeats 1000000 in
theorem set_C (s e d r F U : Int) (w : World) (hv : vc s e d = true) (ht : tm r = true) (ha : ar F U = false) :
    Calls Try.prog 19 #[.agg #[.int .i64 s, .int .i64 e, .int .i64 d], .int .i64 r, .agg #[.int .i64 F, .int .i64 U]] w fun e' w' => e' = .returned (.tuple #[.agg #[.int .i64 0, .int .i64 0, .int .i64 0], .int .i64 1]) ∧ Below w.heap.size w w' := by
  have HV := Lib.hid hv
  clear hv
  have HT := Lib.hid ht
  clear ht
  have HA := Lib.hid ha
  clear ha
  go_enter Try.func19, Try.ntmps19
  go_wp2_with fail
  refine (valid_b s e d _ HV.out _).mono ?_
  rintro e' w1 ⟨rfl, hb⟩
  obtain ⟨h1, h2⟩ := bcell hb
  have a0 : w1.cell? ⟨w.heap.size, 0, none⟩ = some (.int .i64 s) := by rw [h1 _ _ (by simp <;> omega)]; simp [go_sem]
  have a1 : w1.cell? ⟨w.heap.size, 1, none⟩ = some (.int .i64 e) := by rw [h1 _ _ (by simp <;> omega)]; simp [go_sem]
  have a2 : w1.cell? ⟨w.heap.size, 2, none⟩ = some (.int .i64 d) := by rw [h1 _ _ (by simp <;> omega)]; simp [go_sem]
  have b0 : w1.cell? ⟨w.heap.size + 1, 0, none⟩ = some (.int .i64 F) := by rw [h1 _ _ (by simp <;> omega)]; simp [go_sem]
  have b1 : w1.cell? ⟨w.heap.size + 1, 1, none⟩ = some (.int .i64 U) := by rw [h1 _ _ (by simp <;> omega)]; simp [go_sem]
  have z0 : w1.cell? ⟨w.heap.size + 1 + 1, 0, none⟩ = some (.int .i64 0) := by rw [h1 _ _ (by simp <;> omega)]; simp [go_sem]
  have f0 : w1.frozen? ⟨w.heap.size + 1 + 1, 0, none⟩ = false := by rw [h2 _ _ (by simp <;> omega)]; simp [go_sem]
  have z1 : w1.cell? ⟨w.heap.size + 1 + 1, 1, none⟩ = some (.int .i64 0) := by rw [h1 _ _ (by simp <;> omega)]; simp [go_sem]
  have f1 : w1.frozen? ⟨w.heap.size + 1 + 1, 1, none⟩ = false := by rw [h2 _ _ (by simp <;> omega)]; simp [go_sem]
  have z2 : w1.cell? ⟨w.heap.size + 1 + 1, 2, none⟩ = some (.int .i64 0) := by rw [h1 _ _ (by simp <;> omega)]; simp [go_sem]
  have f2 : w1.frozen? ⟨w.heap.size + 1 + 1, 2, none⟩ = false := by rw [h2 _ _ (by simp <;> omega)]; simp [go_sem]
  have B1 : Below w.heap.size w w1 := ((((Below.refl _ _).alloc (Nat.le_refl _) _).alloc (by simp) _).alloc (by simp; omega) _).trans (hb.mono (by simp; omega))
  clear h1 h2 hb
  go_wp2_with fail
  refine (isTime_b r _ HT.out _).mono ?_
  rintro e' w' ⟨rfl, rfl⟩
  go_wp2_with fail
  refine (areTimes_b F U _ HA.out _).mono ?_
  rintro e' w2 ⟨rfl, hb⟩
  have B2 : Below w.heap.size w w2 := (on_same (w := w) B1 hb).1
  replace a0 := keepc hb a0
  replace a1 := keepc hb a1
  replace a2 := keepc hb a2
  replace b0 := keepc hb b0
  replace b1 := keepc hb b1
  replace f0 := keepf hb z0 f0
  replace f1 := keepf hb z1 f1
  replace f2 := keepf hb z2 f2
  replace z0 := keepc hb z0
  replace z1 := keepc hb z1
  replace z2 := keepc hb z2
  clear hb B1
  go_wp2
  exact bodyPost_ret (v := .tuple #[.agg #[.int .i64 0, .int .i64 0, .int .i64 0], .int .i64 1]) (by simp [results, Try.results19, go_sem, z0, z1, z2]) rfl ⟨rfl, ((B2.setCell (by simp <;> omega) _).setCell (by simp <;> omega) _).setCell (by simp <;> omega) _⟩
set_option maxRecDepth 100000 in
set_option maxHeartbeats 1000000 in
theorem set_XD (s e d r F U : Int) (w : World) (hv : vc s e d = true) (ht : tm r = true) (ha : ar F U = true) (hx : r - F < U - 1 - r) (hy : 1000 < U - 1 - r) :
    Calls Try.prog 19 #[.agg #[.int .i64 s, .int .i64 e, .int .i64 d], .int .i64 r, .agg #[.int .i64 F, .int .i64 U]] w fun e' w' => e' = .returned (.tuple #[.agg #[.int .i64 0, .int .i64 0, .int .i64 0], .int .i64 3]) ∧ Below w.heap.size w w' := by
  obtain ⟨t0, t1⟩ := tm_iff.1 ht
  obtain ⟨u0, u1, u2⟩ := ar_iff.1 ha
  have HV := Lib.hid hv
  clear hv
  have HT := Lib.hid ht
  clear ht
  have HA := Lib.hid ha
  clear ha
  have q1 : IntKind.i64.wrap (r - F) = r - F := wrap_in (by omega) (by omega)
  have q2 : IntKind.i64.wrap (U - 1) = U - 1 := wrap_in (by omega) (by omega)
  have q3 : IntKind.i64.wrap (U - 1 - r) = U - 1 - r := wrap_in (by omega) (by omega)
  go_enter Try.func19, Try.ntmps19
  go_wp2_with fail
  refine (valid_b s e d _ HV.out _).mono ?_
  rintro e' w1 ⟨rfl, hb⟩
  obtain ⟨h1, h2⟩ := bcell hb
  have a0 : w1.cell? ⟨w.heap.size, 0, none⟩ = some (.int .i64 s) := by rw [h1 _ _ (by simp <;> omega)]; simp [go_sem]
  have a1 : w1.cell? ⟨w.heap.size, 1, none⟩ = some (.int .i64 e) := by rw [h1 _ _ (by simp <;> omega)]; simp [go_sem]
  have a2 : w1.cell? ⟨w.heap.size, 2, none⟩ = some (.int .i64 d) := by rw [h1 _ _ (by simp <;> omega)]; simp [go_sem]
  have b0 : w1.cell? ⟨w.heap.size + 1, 0, none⟩ = some (.int .i64 F) := by rw [h1 _ _ (by simp <;> omega)]; simp [go_sem]
  have b1 : w1.cell? ⟨w.heap.size + 1, 1, none⟩ = some (.int .i64 U) := by rw [h1 _ _ (by simp <;> omega)]; simp [go_sem]
  have z0 : w1.cell? ⟨w.heap.size + 1 + 1, 0, none⟩ = some (.int .i64 0) := by rw [h1 _ _ (by simp <;> omega)]; simp [go_sem]
  have f0 : w1.frozen? ⟨w.heap.size + 1 + 1, 0, none⟩ = false := by rw [h2 _ _ (by simp <;> omega)]; simp [go_sem]
  have z1 : w1.cell? ⟨w.heap.size + 1 + 1, 1, none⟩ = some (.int .i64 0) := by rw [h1 _ _ (by simp <;> omega)]; simp [go_sem]
  have f1 : w1.frozen? ⟨w.heap.size + 1 + 1, 1, none⟩ = false := by rw [h2 _ _ (by simp <;> omega)]; simp [go_sem]
  have z2 : w1.cell? ⟨w.heap.size + 1 + 1, 2, none⟩ = some (.int .i64 0) := by rw [h1 _ _ (by simp <;> omega)]; simp [go_sem]
  have f2 : w1.frozen? ⟨w.heap.size + 1 + 1, 2, none⟩ = false := by rw [h2 _ _ (by simp <;> omega)]; simp [go_sem]
  have B1 : Below w.heap.size w w1 := ((((Below.refl _ _).alloc (Nat.le_refl _) _).alloc (by simp) _).alloc (by simp; omega) _).trans (hb.mono (by simp; omega))
  clear h1 h2 hb
  go_wp2_with fail
  refine (isTime_b r _ HT.out _).mono ?_
  rintro e' w' ⟨rfl, rfl⟩
  go_wp2_with fail
  refine (areTimes_b F U _ HA.out _).mono ?_
  rintro e' w2 ⟨rfl, hb⟩
  have B2 : Below w.heap.size w w2 := (on_same (w := w) B1 hb).1
  replace a0 := keepc hb a0
  replace a1 := keepc hb a1
  replace a2 := keepc hb a2
  replace b0 := keepc hb b0
  replace b1 := keepc hb b1
  replace f0 := keepf hb z0 f0
  replace f1 := keepf hb z1 f1
  replace f2 := keepf hb z2 f2
  replace z0 := keepc hb z0
  replace z1 := keepc hb z1
  replace z2 := keepc hb z2
  clear hb B1
  have zz : w.heap.size + 1 + 1 < w2.heap.size := block_lt z0
  go_wp2_with fail
  go_region
  go_wp2
  obtain ⟨y0, y1, y2, yB⟩ := done3 (v := w) (0) (0) (0) (.cells #[.int .i64 r, .int .i64 (U - 1 - r), .int .i64 d] 23) z0 z1 z2 B2 (by omega)
  exact bodyPost_ret (v := .tuple #[.agg #[.int .i64 0, .int .i64 0, .int .i64 0], .int .i64 3]) (by simp [results, Try.results19, go_sem, y0, y1, y2]) rfl ⟨rfl, yB⟩
set_option maxRecDepth 100000 in
set_option maxHeartbeats 1000000 in
theorem set_XE (s e d r F U : Int) (w : World) (hv : vc s e d = true) (ht : tm r = true) (ha : ar F U = true) (hx : r - F < U - 1 - r) (hy : U - 1 - r ≤ 1000) :
    Calls Try.prog 19 #[.agg #[.int .i64 s, .int .i64 e, .int .i64 d], .int .i64 r, .agg #[.int .i64 F, .int .i64 U]] w fun e' w' => e' = .returned (.tuple #[.agg #[.int .i64 r, .int .i64 (U - 1 - r), .int .i64 d], .int .i64 0]) ∧ Below w.heap.size w w' := by
  obtain ⟨t0, t1⟩ := tm_iff.1 ht
  obtain ⟨u0, u1, u2⟩ := ar_iff.1 ha
  have HV := Lib.hid hv
  clear hv
  have HT := Lib.hid ht
  clear ht
  have HA := Lib.hid ha
  clear ha
  have q1 : IntKind.i64.wrap (r - F) = r - F := wrap_in (by omega) (by omega)
  have q2 : IntKind.i64.wrap (U - 1) = U - 1 := wrap_in (by omega) (by omega)
  have q3 : IntKind.i64.wrap (U - 1 - r) = U - 1 - r := wrap_in (by omega) (by omega)
  go_enter Try.func19, Try.ntmps19
  go_wp2_with fail
  refine (valid_b s e d _ HV.out _).mono ?_
  rintro e' w1 ⟨rfl, hb⟩
  obtain ⟨h1, h2⟩ := bcell hb
  have a0 : w1.cell? ⟨w.heap.size, 0, none⟩ = some (.int .i64 s) := by rw [h1 _ _ (by simp <;> omega)]; simp [go_sem]
  have a1 : w1.cell? ⟨w.heap.size, 1, none⟩ = some (.int .i64 e) := by rw [h1 _ _ (by simp <;> omega)]; simp [go_sem]
  have a2 : w1.cell? ⟨w.heap.size, 2, none⟩ = some (.int .i64 d) := by rw [h1 _ _ (by simp <;> omega)]; simp [go_sem]
  have b0 : w1.cell? ⟨w.heap.size + 1, 0, none⟩ = some (.int .i64 F) := by rw [h1 _ _ (by simp <;> omega)]; simp [go_sem]
  have b1 : w1.cell? ⟨w.heap.size + 1, 1, none⟩ = some (.int .i64 U) := by rw [h1 _ _ (by simp <;> omega)]; simp [go_sem]
  have z0 : w1.cell? ⟨w.heap.size + 1 + 1, 0, none⟩ = some (.int .i64 0) := by rw [h1 _ _ (by simp <;> omega)]; simp [go_sem]
  have f0 : w1.frozen? ⟨w.heap.size + 1 + 1, 0, none⟩ = false := by rw [h2 _ _ (by simp <;> omega)]; simp [go_sem]
  have z1 : w1.cell? ⟨w.heap.size + 1 + 1, 1, none⟩ = some (.int .i64 0) := by rw [h1 _ _ (by simp <;> omega)]; simp [go_sem]
  have f1 : w1.frozen? ⟨w.heap.size + 1 + 1, 1, none⟩ = false := by rw [h2 _ _ (by simp <;> omega)]; simp [go_sem]
  have z2 : w1.cell? ⟨w.heap.size + 1 + 1, 2, none⟩ = some (.int .i64 0) := by rw [h1 _ _ (by simp <;> omega)]; simp [go_sem]
  have f2 : w1.frozen? ⟨w.heap.size + 1 + 1, 2, none⟩ = false := by rw [h2 _ _ (by simp <;> omega)]; simp [go_sem]
  have B1 : Below w.heap.size w w1 := ((((Below.refl _ _).alloc (Nat.le_refl _) _).alloc (by simp) _).alloc (by simp; omega) _).trans (hb.mono (by simp; omega))
  clear h1 h2 hb
  go_wp2_with fail
  refine (isTime_b r _ HT.out _).mono ?_
  rintro e' w' ⟨rfl, rfl⟩
  go_wp2_with fail
  refine (areTimes_b F U _ HA.out _).mono ?_
  rintro e' w2 ⟨rfl, hb⟩
  have B2 : Below w.heap.size w w2 := (on_same (w := w) B1 hb).1
  replace a0 := keepc hb a0
  replace a1 := keepc hb a1
  replace a2 := keepc hb a2
  replace b0 := keepc hb b0
  replace b1 := keepc hb b1
  replace f0 := keepf hb z0 f0
  replace f1 := keepf hb z1 f1
  replace f2 := keepf hb z2 f2
  replace z0 := keepc hb z0
  replace z1 := keepc hb z1
  replace z2 := keepc hb z2
  clear hb B1
  have zz : w.heap.size + 1 + 1 < w2.heap.size := block_lt z0
  go_wp2_with fail
  go_region
  go_wp2
  obtain ⟨y0, y1, y2, yB⟩ := done3 (v := w) (r) (U - 1 - r) (d) (.cells #[.int .i64 r, .int .i64 (U - 1 - r), .int .i64 d] 23) z0 z1 z2 B2 (by omega)
  exact bodyPost_ret (v := .tuple #[.agg #[.int .i64 r, .int .i64 (U - 1 - r), .int .i64 d], .int .i64 0]) (by simp [results, Try.results19, go_sem, y0, y1, y2]) rfl ⟨rfl, yB⟩
set_option maxRecDepth 100000 in
set_option maxHeartbeats 1000000 in
theorem set_YD (s e d r F U : Int) (w : World) (hv : vc s e d = true) (ht : tm r = true) (ha : ar F U = true) (hx : U - 1 - r ≤ r - F) (hy : 1000 < r - F) :
    Calls Try.prog 19 #[.agg #[.int .i64 s, .int .i64 e, .int .i64 d], .int .i64 r, .agg #[.int .i64 F, .int .i64 U]] w fun e' w' => e' = .returned (.tuple #[.agg #[.int .i64 0, .int .i64 0, .int .i64 0], .int .i64 3]) ∧ Below w.heap.size w w' := by
  obtain ⟨t0, t1⟩ := tm_iff.1 ht
  obtain ⟨u0, u1, u2⟩ := ar_iff.1 ha
  have HV := Lib.hid hv
  clear hv
  have HT := Lib.hid ht
  clear ht
  have HA := Lib.hid ha
  clear ha
  have q1 : IntKind.i64.wrap (r - F) = r - F := wrap_in (by omega) (by omega)
  have q2 : IntKind.i64.wrap (U - 1) = U - 1 := wrap_in (by omega) (by omega)
  have q3 : IntKind.i64.wrap (U - 1 - r) = U - 1 - r := wrap_in (by omega) (by omega)
  go_enter Try.func19, Try.ntmps19
  go_wp2_with fail
  refine (valid_b s e d _ HV.out _).mono ?_
  rintro e' w1 ⟨rfl, hb⟩
  obtain ⟨h1, h2⟩ := bcell hb
  have a0 : w1.cell? ⟨w.heap.size, 0, none⟩ = some (.int .i64 s) := by rw [h1 _ _ (by simp <;> omega)]; simp [go_sem]
  have a1 : w1.cell? ⟨w.heap.size, 1, none⟩ = some (.int .i64 e) := by rw [h1 _ _ (by simp <;> omega)]; simp [go_sem]
  have a2 : w1.cell? ⟨w.heap.size, 2, none⟩ = some (.int .i64 d) := by rw [h1 _ _ (by simp <;> omega)]; simp [go_sem]
  have b0 : w1.cell? ⟨w.heap.size + 1, 0, none⟩ = some (.int .i64 F) := by rw [h1 _ _ (by simp <;> omega)]; simp [go_sem]
  have b1 : w1.cell? ⟨w.heap.size + 1, 1, none⟩ = some (.int .i64 U) := by rw [h1 _ _ (by simp <;> omega)]; simp [go_sem]
  have z0 : w1.cell? ⟨w.heap.size + 1 + 1, 0, none⟩ = some (.int .i64 0) := by rw [h1 _ _ (by simp <;> omega)]; simp [go_sem]
  have f0 : w1.frozen? ⟨w.heap.size + 1 + 1, 0, none⟩ = false := by rw [h2 _ _ (by simp <;> omega)]; simp [go_sem]
  have z1 : w1.cell? ⟨w.heap.size + 1 + 1, 1, none⟩ = some (.int .i64 0) := by rw [h1 _ _ (by simp <;> omega)]; simp [go_sem]
  have f1 : w1.frozen? ⟨w.heap.size + 1 + 1, 1, none⟩ = false := by rw [h2 _ _ (by simp <;> omega)]; simp [go_sem]
  have z2 : w1.cell? ⟨w.heap.size + 1 + 1, 2, none⟩ = some (.int .i64 0) := by rw [h1 _ _ (by simp <;> omega)]; simp [go_sem]
  have f2 : w1.frozen? ⟨w.heap.size + 1 + 1, 2, none⟩ = false := by rw [h2 _ _ (by simp <;> omega)]; simp [go_sem]
  have B1 : Below w.heap.size w w1 := ((((Below.refl _ _).alloc (Nat.le_refl _) _).alloc (by simp) _).alloc (by simp; omega) _).trans (hb.mono (by simp; omega))
  clear h1 h2 hb
  go_wp2_with fail
  refine (isTime_b r _ HT.out _).mono ?_
  rintro e' w' ⟨rfl, rfl⟩
  go_wp2_with fail
  refine (areTimes_b F U _ HA.out _).mono ?_
  rintro e' w2 ⟨rfl, hb⟩
  have B2 : Below w.heap.size w w2 := (on_same (w := w) B1 hb).1
  replace a0 := keepc hb a0
  replace a1 := keepc hb a1
  replace a2 := keepc hb a2
  replace b0 := keepc hb b0
  replace b1 := keepc hb b1
  replace f0 := keepf hb z0 f0
  replace f1 := keepf hb z1 f1
  replace f2 := keepf hb z2 f2
  replace z0 := keepc hb z0
  replace z1 := keepc hb z1
  replace z2 := keepc hb z2
  clear hb B1
  have zz : w.heap.size + 1 + 1 < w2.heap.size := block_lt z0
  go_wp2_with fail
  go_region
  go_wp2
  obtain ⟨y0, y1, y2, yB⟩ := done3 (v := w) (0) (0) (0) (.cells #[.int .i64 r, .int .i64 (r - F), .int .i64 d] 23) z0 z1 z2 B2 (by omega)
  exact bodyPost_ret (v := .tuple #[.agg #[.int .i64 0, .int .i64 0, .int .i64 0], .int .i64 3]) (by simp [results, Try.results19, go_sem, y0, y1, y2]) rfl ⟨rfl, yB⟩
set_option maxRecDepth 100000 in
set_option maxHeartbeats 1000000 in
theorem set_YE (s e d r F U : Int) (w : World) (hv : vc s e d = true) (ht : tm r = true) (ha : ar F U = true) (hx : U - 1 - r ≤ r - F) (hy : r - F ≤ 1000) :
    Calls Try.prog 19 #[.agg #[.int .i64 s, .int .i64 e, .int .i64 d], .int .i64 r, .agg #[.int .i64 F, .int .i64 U]] w fun e' w' => e' = .returned (.tuple #[.agg #[.int .i64 r, .int .i64 (r - F), .int .i64 d], .int .i64 0]) ∧ Below w.heap.size w w' := by
  obtain ⟨t0, t1⟩ := tm_iff.1 ht
  obtain ⟨u0, u1, u2⟩ := ar_iff.1 ha
  have HV := Lib.hid hv
  clear hv
  have HT := Lib.hid ht
  clear ht
  have HA := Lib.hid ha
  clear ha
  have q1 : IntKind.i64.wrap (r - F) = r - F := wrap_in (by omega) (by omega)
  have q2 : IntKind.i64.wrap (U - 1) = U - 1 := wrap_in (by omega) (by omega)
  have q3 : IntKind.i64.wrap (U - 1 - r) = U - 1 - r := wrap_in (by omega) (by omega)
  go_enter Try.func19, Try.ntmps19
  go_wp2_with fail
  refine (valid_b s e d _ HV.out _).mono ?_
  rintro e' w1 ⟨rfl, hb⟩
  obtain ⟨h1, h2⟩ := bcell hb
  have a0 : w1.cell? ⟨w.heap.size, 0, none⟩ = some (.int .i64 s) := by rw [h1 _ _ (by simp <;> omega)]; simp [go_sem]
  have a1 : w1.cell? ⟨w.heap.size, 1, none⟩ = some (.int .i64 e) := by rw [h1 _ _ (by simp <;> omega)]; simp [go_sem]
  have a2 : w1.cell? ⟨w.heap.size, 2, none⟩ = some (.int .i64 d) := by rw [h1 _ _ (by simp <;> omega)]; simp [go_sem]
  have b0 : w1.cell? ⟨w.heap.size + 1, 0, none⟩ = some (.int .i64 F) := by rw [h1 _ _ (by simp <;> omega)]; simp [go_sem]
  have b1 : w1.cell? ⟨w.heap.size + 1, 1, none⟩ = some (.int .i64 U) := by rw [h1 _ _ (by simp <;> omega)]; simp [go_sem]
  have z0 : w1.cell? ⟨w.heap.size + 1 + 1, 0, none⟩ = some (.int .i64 0) := by rw [h1 _ _ (by simp <;> omega)]; simp [go_sem]
  have f0 : w1.frozen? ⟨w.heap.size + 1 + 1, 0, none⟩ = false := by rw [h2 _ _ (by simp <;> omega)]; simp [go_sem]
  have z1 : w1.cell? ⟨w.heap.size + 1 + 1, 1, none⟩ = some (.int .i64 0) := by rw [h1 _ _ (by simp <;> omega)]; simp [go_sem]
  have f1 : w1.frozen? ⟨w.heap.size + 1 + 1, 1, none⟩ = false := by rw [h2 _ _ (by simp <;> omega)]; simp [go_sem]
  have z2 : w1.cell? ⟨w.heap.size + 1 + 1, 2, none⟩ = some (.int .i64 0) := by rw [h1 _ _ (by simp <;> omega)]; simp [go_sem]
  have f2 : w1.frozen? ⟨w.heap.size + 1 + 1, 2, none⟩ = false := by rw [h2 _ _ (by simp <;> omega)]; simp [go_sem]
  have B1 : Below w.heap.size w w1 := ((((Below.refl _ _).alloc (Nat.le_refl _) _).alloc (by simp) _).alloc (by simp; omega) _).trans (hb.mono (by simp; omega))
  clear h1 h2 hb
  go_wp2_with fail
  refine (isTime_b r _ HT.out _).mono ?_
  rintro e' w' ⟨rfl, rfl⟩
  go_wp2_with fail
  refine (areTimes_b F U _ HA.out _).mono ?_
  rintro e' w2 ⟨rfl, hb⟩
  have B2 : Below w.heap.size w w2 := (on_same (w := w) B1 hb).1
  replace a0 := keepc hb a0
  replace a1 := keepc hb a1
  replace a2 := keepc hb a2
  replace b0 := keepc hb b0
  replace b1 := keepc hb b1
  replace f0 := keepf hb z0 f0
  replace f1 := keepf hb z1 f1
  replace f2 := keepf hb z2 f2
  replace z0 := keepc hb z0
  replace z1 := keepc hb z1
  replace z2 := keepc hb z2
  clear hb B1
  have zz : w.heap.size + 1 + 1 < w2.heap.size := block_lt z0
  go_wp2_with fail
  go_region
  go_wp2
  obtain ⟨y0, y1, y2, yB⟩ := done3 (v := w) (r) (r - F) (d) (.cells #[.int .i64 r, .int .i64 (r - F), .int .i64 d] 23) z0 z1 z2 B2 (by omega)
  exact bodyPost_ret (v := .tuple #[.agg #[.int .i64 r, .int .i64 (r - F), .int .i64 d], .int .i64 0]) (by simp [results, Try.results19, go_sem, y0, y1, y2]) rfl ⟨rfl, yB⟩

theorem set_any (s e d r F U : Int) (w : World) :
    Calls Try.prog 19 #[.agg #[.int .i64 s, .int .i64 e, .int .i64 d], .int .i64 r, .agg #[.int .i64 F, .int .i64 U]] w fun e' w' => e' = .returned (.tuple #[.agg #[.int .i64 (c1 s e d r F U), .int .i64 (c2 s e d r F U), .int .i64 (c3 s e d r F U)], .int .i64 (sE s e d r F U)]) ∧ Below w.heap.size w w' := by
  have vv : ∀ x, sE s e d r F U = x → c1 s e d r F U = (if x = 0 then r else 0) ∧ c2 s e d r F U = (if x = 0 then sN r F U else 0) ∧ c3 s e d r F U = (if x = 0 then d else 0) := by rintro x rfl; exact ⟨rfl, rfl, rfl⟩
  cases hv : vc s e d with
  | false =>
    have h := sE_bad (s := s) (e := e) (d := d) (r := r) (F := F) (U := U) (by simp [may, hv])
    obtain ⟨h1, h2, h3⟩ := vv _ h
    rw [h, h1, h2, h3]
    exact set_A s e d r F U w hv
  | true =>
    cases ht : tm r with
    | false =>
      have h := sE_bad (s := s) (e := e) (d := d) (r := r) (F := F) (U := U) (by simp [may, ht])
      obtain ⟨h1, h2, h3⟩ := vv _ h
      rw [h, h1, h2, h3]
      exact set_B s e d r F U w hv ht
    | true =>
      cases ha : ar F U with
      | false =>
        have h := sE_bad (s := s) (e := e) (d := d) (r := r) (F := F) (U := U) (by simp [may, ha])
        obtain ⟨h1, h2, h3⟩ := vv _ h
        rw [h, h1, h2, h3]
        exact set_C s e d r F U w hv ht ha
      | true =>
        obtain ⟨u0, u1, u2⟩ := ar_iff.1 ha
        have hm : may s e d r F U = true := by simp [may, hv, ht, ha]
        rcases Int.lt_or_le (r - F) (U - 1 - r) with hx | hx
        · have hn : sN r F U = U - 1 - r := by unfold sN; omega
          rcases Int.lt_or_le 1000 (U - 1 - r) with hy | hy
          · have h := sE_far hm (by omega)
            obtain ⟨h1, h2, h3⟩ := vv _ h
            rw [h, h1, h2, h3]
            exact set_XD s e d r F U w hv ht ha hx hy
          · have h := sE_ok hm (by omega)
            obtain ⟨h1, h2, h3⟩ := vv _ h
            rw [h, h1, h2, h3, hn]
            exact set_XE s e d r F U w hv ht ha hx hy
        · have hn : sN r F U = r - F := by unfold sN; omega
          rcases Int.lt_or_le 1000 (r - F) with hy | hy
          · have h := sE_far hm (by omega)
            obtain ⟨h1, h2, h3⟩ := vv _ h
            rw [h, h1, h2, h3]
            exact set_YD s e d r F U w hv ht ha hx hy
          · have h := sE_ok hm (by omega)
            obtain ⟨h1, h2, h3⟩ := vv _ h
            rw [h, h1, h2, h3, hn]
            exact set_YE s e d r F U w hv ht ha hx hy
end Go.Proofs.Ytnjhepkfjohdnaa
