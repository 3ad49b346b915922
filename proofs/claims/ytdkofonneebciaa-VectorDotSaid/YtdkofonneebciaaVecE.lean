/-
  Package vector: combine, with any closure.
-/
import Derived.Test.YtdkofonneebciaaVecD
namespace Go.Proofs.Ytdkofonneebciaa
open Go.RowKit Go.Sort
open Go.RowKit (Below)
set_option linter.unusedVariables false
set_option linter.unusedSimpArgs false

theorem coords_at (a b c : Int) (w : World) :
    Calls Try.prog 25 #[.agg #[.int .i64 a, .int .i64 b, .int .i64 c]] w fun e w' => e = .returned (.agg #[.int .i64 a, .int .i64 b, .int .i64 c]) ∧ w' = (w.alloc (.cells #[.int .i64 a, .int .i64 b, .int .i64 c] 23)).alloc (.cells #[.int .i64 a, .int .i64 b, .int .i64 c] 47) := by
  go_enter Try.func25, Try.ntmps25
  go_wp2
  refine bodyPost_ret (v := .agg #[.int .i64 a, .int .i64 b, .int .i64 c]) (by simp [results, Try.results25, go_sem]) rfl ⟨rfl, ?_⟩
  simp [go_sem]

/-- The two arrays, made anew. -/
structure Two (V W : World) (g h : Nat) (a b c x y z : Int) : Prop where
  bel : Below V.heap.size V W
  ne : g ≠ h
  hg : V.heap.size ≤ g
  hh : V.heap.size ≤ h
  g0 : W.cell? ⟨g, 0, none⟩ = some (.int .i64 a)
  g1 : W.cell? ⟨g, 1, none⟩ = some (.int .i64 b)
  g2 : W.cell? ⟨g, 2, none⟩ = some (.int .i64 c)
  f0 : W.frozen? ⟨g, 0, none⟩ = false
  f1 : W.frozen? ⟨g, 1, none⟩ = false
  f2 : W.frozen? ⟨g, 2, none⟩ = false
  h0 : W.cell? ⟨h, 0, none⟩ = some (.int .i64 x)
  h1 : W.cell? ⟨h, 1, none⟩ = some (.int .i64 y)
  h2 : W.cell? ⟨h, 2, none⟩ = some (.int .i64 z)

set_option maxRecDepth 100000 in
set_option maxHeartbeats 2000000 in
theorem combine_any (K : FuncId) (hE : ∀ W args, (callFunc K args).run Try.prog W = .ok (.enter K args) W) (a b c x y z u v t : Int)
    (h0 : ∀ W, Calls Try.prog K #[.int .i64 a, .int .i64 x] W fun e w' => e = .returned (.int .i64 u) ∧ W = w')
    (h1 : ∀ W, Calls Try.prog K #[.int .i64 b, .int .i64 y] W fun e w' => e = .returned (.int .i64 v) ∧ W = w')
    (h2 : ∀ W, Calls Try.prog K #[.int .i64 c, .int .i64 z] W fun e w' => e = .returned (.int .i64 t) ∧ W = w') (w : World) :
    Calls Try.prog 38 #[.agg #[.int .i64 a, .int .i64 b, .int .i64 c], .agg #[.int .i64 x, .int .i64 y, .int .i64 z], .func (.func K) #[] #[]] w fun e w' => e = .returned (.agg #[.int .i64 u, .int .i64 v, .int .i64 t]) ∧ Below w.heap.size w w' := by
  have H0 := Lib.hid h0
  have H1 := Lib.hid h1
  have H2 := Lib.hid h2
  clear h0 h1 h2
  have i0 := ix0 (.int .i64 x) (.int .i64 y) (.int .i64 z)
  have i1 := ix1 (.int .i64 x) (.int .i64 y) (.int .i64 z)
  have i2 := ix2 (.int .i64 x) (.int .i64 y) (.int .i64 z)
  have p0 : World.cell? (((w.alloc (.cells #[.int .i64 a, .int .i64 b, .int .i64 c] 23)).alloc (.cells #[.int .i64 x, .int .i64 y, .int .i64 z] 23)).alloc (.cells #[.int .i64 0, .int .i64 0, .int .i64 0] 47)) ⟨w.heap.size, 0, none⟩ = some (.int .i64 a) := by simp [go_sem]
  have p1 : World.cell? (((w.alloc (.cells #[.int .i64 a, .int .i64 b, .int .i64 c] 23)).alloc (.cells #[.int .i64 x, .int .i64 y, .int .i64 z] 23)).alloc (.cells #[.int .i64 0, .int .i64 0, .int .i64 0] 47)) ⟨w.heap.size, 1, none⟩ = some (.int .i64 b) := by simp [go_sem]
  have p2 : World.cell? (((w.alloc (.cells #[.int .i64 a, .int .i64 b, .int .i64 c] 23)).alloc (.cells #[.int .i64 x, .int .i64 y, .int .i64 z] 23)).alloc (.cells #[.int .i64 0, .int .i64 0, .int .i64 0] 47)) ⟨w.heap.size, 2, none⟩ = some (.int .i64 c) := by simp [go_sem]
  have q0 : World.cell? (((w.alloc (.cells #[.int .i64 a, .int .i64 b, .int .i64 c] 23)).alloc (.cells #[.int .i64 x, .int .i64 y, .int .i64 z] 23)).alloc (.cells #[.int .i64 0, .int .i64 0, .int .i64 0] 47)) ⟨w.heap.size + 1, 0, none⟩ = some (.int .i64 x) := by simp [go_sem]
  have q1 : World.cell? (((w.alloc (.cells #[.int .i64 a, .int .i64 b, .int .i64 c] 23)).alloc (.cells #[.int .i64 x, .int .i64 y, .int .i64 z] 23)).alloc (.cells #[.int .i64 0, .int .i64 0, .int .i64 0] 47)) ⟨w.heap.size + 1, 1, none⟩ = some (.int .i64 y) := by simp [go_sem]
  have q2 : World.cell? (((w.alloc (.cells #[.int .i64 a, .int .i64 b, .int .i64 c] 23)).alloc (.cells #[.int .i64 x, .int .i64 y, .int .i64 z] 23)).alloc (.cells #[.int .i64 0, .int .i64 0, .int .i64 0] 47)) ⟨w.heap.size + 1, 2, none⟩ = some (.int .i64 z) := by simp [go_sem]
  have r0 : World.cell? (((w.alloc (.cells #[.int .i64 a, .int .i64 b, .int .i64 c] 23)).alloc (.cells #[.int .i64 x, .int .i64 y, .int .i64 z] 23)).alloc (.cells #[.int .i64 0, .int .i64 0, .int .i64 0] 47)) ⟨w.heap.size + 1 + 1, 0, none⟩ = some (.int .i64 0) := by simp [go_sem]
  have r1 : World.cell? (((w.alloc (.cells #[.int .i64 a, .int .i64 b, .int .i64 c] 23)).alloc (.cells #[.int .i64 x, .int .i64 y, .int .i64 z] 23)).alloc (.cells #[.int .i64 0, .int .i64 0, .int .i64 0] 47)) ⟨w.heap.size + 1 + 1, 1, none⟩ = some (.int .i64 0) := by simp [go_sem]
  have r2 : World.cell? (((w.alloc (.cells #[.int .i64 a, .int .i64 b, .int .i64 c] 23)).alloc (.cells #[.int .i64 x, .int .i64 y, .int .i64 z] 23)).alloc (.cells #[.int .i64 0, .int .i64 0, .int .i64 0] 47)) ⟨w.heap.size + 1 + 1, 2, none⟩ = some (.int .i64 0) := by simp [go_sem]
  have f0 : World.frozen? (((w.alloc (.cells #[.int .i64 a, .int .i64 b, .int .i64 c] 23)).alloc (.cells #[.int .i64 x, .int .i64 y, .int .i64 z] 23)).alloc (.cells #[.int .i64 0, .int .i64 0, .int .i64 0] 47)) ⟨w.heap.size + 1 + 1, 0, none⟩ = false := by simp [go_sem]
  have f1 : World.frozen? (((w.alloc (.cells #[.int .i64 a, .int .i64 b, .int .i64 c] 23)).alloc (.cells #[.int .i64 x, .int .i64 y, .int .i64 z] 23)).alloc (.cells #[.int .i64 0, .int .i64 0, .int .i64 0] 47)) ⟨w.heap.size + 1 + 1, 1, none⟩ = false := by simp [go_sem]
  have f2 : World.frozen? (((w.alloc (.cells #[.int .i64 a, .int .i64 b, .int .i64 c] 23)).alloc (.cells #[.int .i64 x, .int .i64 y, .int .i64 z] 23)).alloc (.cells #[.int .i64 0, .int .i64 0, .int .i64 0] 47)) ⟨w.heap.size + 1 + 1, 2, none⟩ = false := by simp [go_sem]
  have HV := Lib.hid (show Below w.heap.size w (((w.alloc (.cells #[.int .i64 a, .int .i64 b, .int .i64 c] 23)).alloc (.cells #[.int .i64 x, .int .i64 y, .int .i64 z] 23)).alloc (.cells #[.int .i64 0, .int .i64 0, .int .i64 0] 47)) from (((Below.refl _ _).alloc (by simp) _).alloc (by simp) _).alloc (by simp; omega) _)
  have hz : (((w.alloc (.cells #[.int .i64 a, .int .i64 b, .int .i64 c] 23)).alloc (.cells #[.int .i64 x, .int .i64 y, .int .i64 z] 23)).alloc (.cells #[.int .i64 0, .int .i64 0, .int .i64 0] 47)).heap.size = w.heap.size + 1 + 1 + 1 := by simp
  go_enter Try.func38, Try.ntmps38
  go_upto_region 1 with fail
  generalize (((w.alloc (.cells #[.int .i64 a, .int .i64 b, .int .i64 c] 23)).alloc (.cells #[.int .i64 x, .int .i64 y, .int .i64 z] 23)).alloc (.cells #[.int .i64 0, .int .i64 0, .int .i64 0] 47)) = V at *
  have keep6 : ∀ {W : World}, Below V.heap.size V W → W.cell? ⟨w.heap.size, 0, none⟩ = some (.int .i64 a) ∧ W.cell? ⟨w.heap.size, 1, none⟩ = some (.int .i64 b) ∧ W.cell? ⟨w.heap.size, 2, none⟩ = some (.int .i64 c) ∧ W.cell? ⟨w.heap.size + 1, 0, none⟩ = some (.int .i64 x) ∧ W.cell? ⟨w.heap.size + 1, 1, none⟩ = some (.int .i64 y) ∧ W.cell? ⟨w.heap.size + 1, 2, none⟩ = some (.int .i64 z) ∧ Below V.heap.size V W := fun h => ⟨keepc h p0, keepc h p1, keepc h p2, keepc h q0, keepc h q1, keepc h q2, h⟩
  have HX := Lib.hid hz
  clear hz
  go_cut [7, 8] (fun s7 s8 wc => ∃ g h : Nat, s7 = .pointer (some ⟨g, 0, none⟩) ∧ s8 = .pointer (some ⟨h, 0, none⟩) ∧ Two V wc g h a b c x y z)
  case first =>
    clear i0 i1 i2 r0 r1 r2 f0 f1 f2
    go_region_held3 (fun W => W.cell? ⟨w.heap.size, 0, none⟩ = some (.int .i64 a) ∧ W.cell? ⟨w.heap.size, 1, none⟩ = some (.int .i64 b) ∧ W.cell? ⟨w.heap.size, 2, none⟩ = some (.int .i64 c) ∧ W.cell? ⟨w.heap.size + 1, 0, none⟩ = some (.int .i64 x) ∧ W.cell? ⟨w.heap.size + 1, 1, none⟩ = some (.int .i64 y) ∧ W.cell? ⟨w.heap.size + 1, 2, none⟩ = some (.int .i64 z) ∧ Below V.heap.size V W)
      (first | assumption | exact keep6 (Below.refl _ _).drew | (refine keep6 ?_; (repeat (first | (with_reducible refine Below.drew ?_) | (with_reducible refine on_below ?_ (below_new _ _)))); exact Below.refl _ _))
      (first | (go_at_call 25; (with_reducible refine (coords_at a b c _).mono ?_); rintro e' w2 ⟨rfl, rfl⟩) | (go_at_call 25; (with_reducible refine (coords_at x y z _).mono ?_); rintro e' w2 ⟨rfl, rfl⟩))
    all_goals (go_wp2_with fail; go_meet; refine ⟨_, _, rfl, rfl, ⟨?_, ?_, ?_, ?_, ?_, ?_, ?_, ?_, ?_, ?_, ?_, ?_, ?_⟩⟩)
    all_goals first | (go_split_ands; assumption) | omega | (simp [go_sem]; done) | (simp; omega)
  case rest =>
    obtain ⟨g, h, rfl, rfl, T⟩ := hcut
    have hg := T.hg
    have hh := T.hh
    have hne := T.ne
    replace r0 := keepc T.bel r0
    replace r1 := keepc T.bel r1
    replace r2 := keepc T.bel r2
    have hlt : w.heap.size + 1 + 1 < V.heap.size := by have := HX.out; omega
    have fz : ∀ k, wc.frozen? ⟨w.heap.size + 1 + 1, k, none⟩ = V.frozen? ⟨w.heap.size + 1 + 1, k, none⟩ := fun k => T.bel.frozen (p := ⟨w.heap.size + 1 + 1, k, none⟩) hlt
    replace f0 := (fz 0).trans f0
    replace f1 := (fz 1).trans f1
    replace f2 := (fz 2).trans f2
    have HW := Lib.hid (HV.out.trans (T.bel.mono HV.out.size))
    have g0 := T.g0
    have g1 := T.g1
    have g2 := T.g2
    have e0 := T.f0
    have e1 := T.f1
    have e2 := T.f2
    have h0 := T.h0
    have h1 := T.h1
    have h2 := T.h2
    have HG := Lib.hid (show w.heap.size ≤ g by omega)
    have hrg : ¬ w.heap.size + 1 + 1 = g := by omega
    have hgr : ¬ g = w.heap.size + 1 + 1 := by omega
    have hgh : ¬ g = h := hne
    have hhg : ¬ h = g := fun e => hne e.symm
    clear T fz hlt hg hh hne HV HX keep6 p0 p1 p2 q0 q1 q2
    go_wp2_with fail
    refine wp_loop_rounds 4 ?_
    rw [rounds_succ]
    go_wp2_with fail
    refine (H0.out _).mono ?_
    rintro e w1 ⟨rfl, rfl⟩
    go_wp2_with fail
    rw [rounds_succ]
    go_wp2_with fail
    refine (H1.out _).mono ?_
    rintro e w1 ⟨rfl, rfl⟩
    go_wp2_with fail
    rw [rounds_succ]
    go_wp2_with fail
    refine (H2.out _).mono ?_
    rintro e w1 ⟨rfl, rfl⟩
    go_wp2_with fail
    rw [rounds_succ]
    go_wp2_with fail
    refine bodyPost_ret (v := .agg #[.int .i64 u, .int .i64 v, .int .i64 t]) (by simp [results, Try.results38, go_sem, r0, r1, r2]) rfl ⟨rfl, ?_⟩
    repeat (refine Below.setCell ?_ (by first | exact HG.out | (simp; done) | (simp; omega)) _)
    exact HW.out
end Go.Proofs.Ytdkofonneebciaa
