/-
  Out of the texts of layer 7: package vector's Add, the reference's Valid.
-/
import Derived.Test.YtgjcmolocoijiaaYSgtZD
import Derived.LoopN
import Derived.Deep.RegionWith
import Derived.Deep.RegionHeld3
import Derived.Deep.DeepCutAuto
namespace Go.Proofs.Ytgjcmolocoijiaa
open Go.RowKit Go.Sort
open Go.RowKit (Below)
set_option linter.unusedVariables false
set_option linter.unusedSimpArgs false

theorem vplus_any (x y : Int) (h : I64 (x + y)) (w : World) :
    Calls Try.prog 179 #[.int .i64 x, .int .i64 y] w fun e w' => e = .returned (.int .i64 (x + y)) ∧ w = w' := by
  have f1 : IntKind.i64.wrap (x + y) = x + y := IntWalk.i64_in _ h
  have f2 : wrap64 (x + y) = x + y := IntWalk.wrap64_in _ h
  go_enter Try.func179, Try.ntmps179
  go_wp2
  all_goals (go_ret; exact ⟨rfl, rfl⟩)
theorem vplus_enter (W : World) (args : Array Value) : (callFunc 179 args).run Try.prog W = .ok (.enter 179 args) W := by simp [go_sem]
theorem coords_at (a b c : Int) (w : World) :
    Calls Try.prog 109 #[.agg #[.int .i64 a, .int .i64 b, .int .i64 c]] w fun e w' => e = .returned (.agg #[.int .i64 a, .int .i64 b, .int .i64 c]) ∧ w' = (w.alloc (.cells #[.int .i64 a, .int .i64 b, .int .i64 c] 27)).alloc (.cells #[.int .i64 a, .int .i64 b, .int .i64 c] 157) := by
  go_enter Try.func109, Try.ntmps109
  go_wp2
  refine bodyPost_ret (v := .agg #[.int .i64 a, .int .i64 b, .int .i64 c]) (by simp [results, Try.results109, go_sem]) rfl ⟨rfl, ?_⟩
  simp [go_sem]
/-- The two arrays, made anew. -/
structure Two (V W : World) (g h : Nat) (a b c x y z : Int) : Prop where
  bel : Below V.heap.size V W
  ne : g ≠ h
  hg : V.heap.size ≤ g
  hh : V.heap.size ≤ h
  g0 : W.cell? ⟨g, 0, none⟩ = some (.int .i64 a)
  g1 : W.cell? ⟨g, 1, none⟩ = some (.int .i64 b)
  g2 : W.cell? ⟨g, 2, none⟩ = some (.int .i64 c)
  f0 : W.frozen? ⟨g, 0, none⟩ = false
  f1 : W.frozen? ⟨g, 1, none⟩ = false
  f2 : W.frozen? ⟨g, 2, none⟩ = false
  h0 : W.cell? ⟨h, 0, none⟩ = some (.int .i64 x)
  h1 : W.cell? ⟨h, 1, none⟩ = some (.int .i64 y)
  h2 : W.cell? ⟨h, 2, none⟩ = some (.int .i64 z)
set_option maxRecDepth 100000 in
set_option maxHeartbeats 2000000 in
theorem vcombine_any (K : FuncId) (hE : ∀ W args, (callFunc K args).run Try.prog W = .ok (.enter K args) W) (a b c x y z u v t : Int)
    (h0 : ∀ W, Calls Try.prog K #[.int .i64 a, .int .i64 x] W fun e w' => e = .returned (.int .i64 u) ∧ W = w')
    (h1 : ∀ W, Calls Try.prog K #[.int .i64 b, .int .i64 y] W fun e w' => e = .returned (.int .i64 v) ∧ W = w')
    (h2 : ∀ W, Calls Try.prog K #[.int .i64 c, .int .i64 z] W fun e w' => e = .returned (.int .i64 t) ∧ W = w') (w : World) :
    Calls Try.prog 180 #[.agg #[.int .i64 a, .int .i64 b, .int .i64 c], .agg #[.int .i64 x, .int .i64 y, .int .i64 z], .func (.func K) #[] #[]] w fun e w' => e = .returned (.agg #[.int .i64 u, .int .i64 v, .int .i64 t]) ∧ Below w.heap.size w w' := by
  have H0 := Lib.hid h0
  have H1 := Lib.hid h1
  have H2 := Lib.hid h2
  clear h0 h1 h2
  have i0 := ix0 (.int .i64 x) (.int .i64 y) (.int .i64 z)
  have i1 := ix1 (.int .i64 x) (.int .i64 y) (.int .i64 z)
  have i2 := ix2 (.int .i64 x) (.int .i64 y) (.int .i64 z)
  have p0 : World.cell? (((w.alloc (.cells #[.int .i64 a, .int .i64 b, .int .i64 c] 27)).alloc (.cells #[.int .i64 x, .int .i64 y, .int .i64 z] 27)).alloc (.cells #[.int .i64 0, .int .i64 0, .int .i64 0] 157)) ⟨w.heap.size, 0, none⟩ = some (.int .i64 a) := by simp [go_sem]
  have p1 : World.cell? (((w.alloc (.cells #[.int .i64 a, .int .i64 b, .int .i64 c] 27)).alloc (.cells #[.int .i64 x, .int .i64 y, .int .i64 z] 27)).alloc (.cells #[.int .i64 0, .int .i64 0, .int .i64 0] 157)) ⟨w.heap.size, 1, none⟩ = some (.int .i64 b) := by simp [go_sem]
  have p2 : World.cell? (((w.alloc (.cells #[.int .i64 a, .int .i64 b, .int .i64 c] 27)).alloc (.cells #[.int .i64 x, .int .i64 y, .int .i64 z] 27)).alloc (.cells #[.int .i64 0, .int .i64 0, .int .i64 0] 157)) ⟨w.heap.size, 2, none⟩ = some (.int .i64 c) := by simp [go_sem]
  have q0 : World.cell? (((w.alloc (.cells #[.int .i64 a, .int .i64 b, .int .i64 c] 27)).alloc (.cells #[.int .i64 x, .int .i64 y, .int .i64 z] 27)).alloc (.cells #[.int .i64 0, .int .i64 0, .int .i64 0] 157)) ⟨w.heap.size + 1, 0, none⟩ = some (.int .i64 x) := by simp [go_sem]
  have q1 : World.cell? (((w.alloc (.cells #[.int .i64 a, .int .i64 b, .int .i64 c] 27)).alloc (.cells #[.int .i64 x, .int .i64 y, .int .i64 z] 27)).alloc (.cells #[.int .i64 0, .int .i64 0, .int .i64 0] 157)) ⟨w.heap.size + 1, 1, none⟩ = some (.int .i64 y) := by simp [go_sem]
  have q2 : World.cell? (((w.alloc (.cells #[.int .i64 a, .int .i64 b, .int .i64 c] 27)).alloc (.cells #[.int .i64 x, .int .i64 y, .int .i64 z] 27)).alloc (.cells #[.int .i64 0, .int .i64 0, .int .i64 0] 157)) ⟨w.heap.size + 1, 2, none⟩ = some (.int .i64 z) := by simp [go_sem]
  have r0 : World.cell? (((w.alloc (.cells #[.int .i64 a, .int .i64 b, .int .i64 c] 27)).alloc (.cells #[.int .i64 x, .int .i64 y, .int .i64 z] 27)).alloc (.cells #[.int .i64 0, .int .i64 0, .int .i64 0] 157)) ⟨w.heap.size + 1 + 1, 0, none⟩ = some (.int .i64 0) := by simp [go_sem]
  have r1 : World.cell? (((w.alloc (.cells #[.int .i64 a, .int .i64 b, .int .i64 c] 27)).alloc (.cells #[.int .i64 x, .int .i64 y, .int .i64 z] 27)).alloc (.cells #[.int .i64 0, .int .i64 0, .int .i64 0] 157)) ⟨w.heap.size + 1 + 1, 1, none⟩ = some (.int .i64 0) := by simp [go_sem]
  have r2 : World.cell? (((w.alloc (.cells #[.int .i64 a, .int .i64 b, .int .i64 c] 27)).alloc (.cells #[.int .i64 x, .int .i64 y, .int .i64 z] 27)).alloc (.cells #[.int .i64 0, .int .i64 0, .int .i64 0] 157)) ⟨w.heap.size + 1 + 1, 2, none⟩ = some (.int .i64 0) := by simp [go_sem]
  have f0 : World.frozen? (((w.alloc (.cells #[.int .i64 a, .int .i64 b, .int .i64 c] 27)).alloc (.cells #[.int .i64 x, .int .i64 y, .int .i64 z] 27)).alloc (.cells #[.int .i64 0, .int .i64 0, .int .i64 0] 157)) ⟨w.heap.size + 1 + 1, 0, none⟩ = false := by simp [go_sem]
  have f1 : World.frozen? (((w.alloc (.cells #[.int .i64 a, .int .i64 b, .int .i64 c] 27)).alloc (.cells #[.int .i64 x, .int .i64 y, .int .i64 z] 27)).alloc (.cells #[.int .i64 0, .int .i64 0, .int .i64 0] 157)) ⟨w.heap.size + 1 + 1, 1, none⟩ = false := by simp [go_sem]
  have f2 : World.frozen? (((w.alloc (.cells #[.int .i64 a, .int .i64 b, .int .i64 c] 27)).alloc (.cells #[.int .i64 x, .int .i64 y, .int .i64 z] 27)).alloc (.cells #[.int .i64 0, .int .i64 0, .int .i64 0] 157)) ⟨w.heap.size + 1 + 1, 2, none⟩ = false := by simp [go_sem]
  have HV := Lib.hid (show Below w.heap.size w (((w.alloc (.cells #[.int .i64 a, .int .i64 b, .int .i64 c] 27)).alloc (.cells #[.int .i64 x, .int .i64 y, .int .i64 z] 27)).alloc (.cells #[.int .i64 0, .int .i64 0, .int .i64 0] 157)) from (((Below.refl _ _).alloc (by simp) _).alloc (by simp) _).alloc (by simp; omega) _)
  have hz : (((w.alloc (.cells #[.int .i64 a, .int .i64 b, .int .i64 c] 27)).alloc (.cells #[.int .i64 x, .int .i64 y, .int .i64 z] 27)).alloc (.cells #[.int .i64 0, .int .i64 0, .int .i64 0] 157)).heap.size = w.heap.size + 1 + 1 + 1 := by simp
  go_enter Try.func180, Try.ntmps180
  go_upto_region 1 with fail
  generalize (((w.alloc (.cells #[.int .i64 a, .int .i64 b, .int .i64 c] 27)).alloc (.cells #[.int .i64 x, .int .i64 y, .int .i64 z] 27)).alloc (.cells #[.int .i64 0, .int .i64 0, .int .i64 0] 157)) = V at *
  have keep6 : ∀ {W : World}, Below V.heap.size V W → W.cell? ⟨w.heap.size, 0, none⟩ = some (.int .i64 a) ∧ W.cell? ⟨w.heap.size, 1, none⟩ = some (.int .i64 b) ∧ W.cell? ⟨w.heap.size, 2, none⟩ = some (.int .i64 c) ∧ W.cell? ⟨w.heap.size + 1, 0, none⟩ = some (.int .i64 x) ∧ W.cell? ⟨w.heap.size + 1, 1, none⟩ = some (.int .i64 y) ∧ W.cell? ⟨w.heap.size + 1, 2, none⟩ = some (.int .i64 z) ∧ Below V.heap.size V W := fun h => ⟨keepc h p0, keepc h p1, keepc h p2, keepc h q0, keepc h q1, keepc h q2, h⟩
  have HX := Lib.hid hz
  clear hz
  go_cut [7, 8] (fun s7 s8 wc => ∃ g h : Nat, s7 = .pointer (some ⟨g, 0, none⟩) ∧ s8 = .pointer (some ⟨h, 0, none⟩) ∧ Two V wc g h a b c x y z)
  case first =>
    clear i0 i1 i2 r0 r1 r2 f0 f1 f2
    go_region_held3 (fun W => W.cell? ⟨w.heap.size, 0, none⟩ = some (.int .i64 a) ∧ W.cell? ⟨w.heap.size, 1, none⟩ = some (.int .i64 b) ∧ W.cell? ⟨w.heap.size, 2, none⟩ = some (.int .i64 c) ∧ W.cell? ⟨w.heap.size + 1, 0, none⟩ = some (.int .i64 x) ∧ W.cell? ⟨w.heap.size + 1, 1, none⟩ = some (.int .i64 y) ∧ W.cell? ⟨w.heap.size + 1, 2, none⟩ = some (.int .i64 z) ∧ Below V.heap.size V W)
      (first | assumption | exact keep6 (Below.refl _ _).drew | (refine keep6 ?_; (repeat (first | (with_reducible refine Below.drew ?_) | (with_reducible refine on_below ?_ (below_new _ _)))); exact Below.refl _ _))
      (first | (go_at_call 109; (with_reducible refine (coords_at a b c _).mono ?_); rintro e' w2 ⟨rfl, rfl⟩) | (go_at_call 109; (with_reducible refine (coords_at x y z _).mono ?_); rintro e' w2 ⟨rfl, rfl⟩))
    all_goals (go_wp2_with fail; go_meet; refine ⟨_, _, rfl, rfl, ⟨?_, ?_, ?_, ?_, ?_, ?_, ?_, ?_, ?_, ?_, ?_, ?_, ?_⟩⟩)
    all_goals first | (go_split_ands; assumption) | omega | (simp [go_sem]; done) | (simp; omega)
  case rest =>
    obtain ⟨g, h, rfl, rfl, T⟩ := hcut
    have hg := T.hg
    have hh := T.hh
    have hne := T.ne
    replace r0 := keepc T.bel r0
    replace r1 := keepc T.bel r1
    replace r2 := keepc T.bel r2
    have hlt : w.heap.size + 1 + 1 < V.heap.size := by have := HX.out; omega
    have fz : ∀ k, wc.frozen? ⟨w.heap.size + 1 + 1, k, none⟩ = V.frozen? ⟨w.heap.size + 1 + 1, k, none⟩ := fun k => T.bel.frozen (p := ⟨w.heap.size + 1 + 1, k, none⟩) hlt
    replace f0 := (fz 0).trans f0
    replace f1 := (fz 1).trans f1
    replace f2 := (fz 2).trans f2
    have HW := Lib.hid (HV.out.trans (T.bel.mono HV.out.size))
    have g0 := T.g0
    have g1 := T.g1
    have g2 := T.g2
    have e0 := T.f0
    have e1 := T.f1
    have e2 := T.f2
    have h0 := T.h0
    have h1 := T.h1
    have h2 := T.h2
    have HG := Lib.hid (show w.heap.size ≤ g by omega)
    have hrg : ¬ w.heap.size + 1 + 1 = g := by omega
    have hgr : ¬ g = w.heap.size + 1 + 1 := by omega
    have hgh : ¬ g = h := hne
    have hhg : ¬ h = g := fun e => hne e.symm
    clear T fz hlt hg hh hne HV HX keep6 p0 p1 p2 q0 q1 q2
    go_wp2_with fail
    refine wp_loop_rounds 4 ?_
    rw [rounds_succ]
    go_wp2_with fail
    refine (H0.out _).mono ?_
    rintro e w1 ⟨rfl, rfl⟩
    go_wp2_with fail
    rw [rounds_succ]
    go_wp2_with fail
    refine (H1.out _).mono ?_
    rintro e w1 ⟨rfl, rfl⟩
    go_wp2_with fail
    rw [rounds_succ]
    go_wp2_with fail
    refine (H2.out _).mono ?_
    rintro e w1 ⟨rfl, rfl⟩
    go_wp2_with fail
    rw [rounds_succ]
    go_wp2_with fail
    refine bodyPost_ret (v := .agg #[.int .i64 u, .int .i64 v, .int .i64 t]) (by simp [results, Try.results180, go_sem, r0, r1, r2]) rfl ⟨rfl, ?_⟩
    repeat (refine Below.setCell ?_ (by first | exact HG.out | (simp; done) | (simp; omega)) _)
    exact HW.out
set_option maxRecDepth 100000 in
set_option maxHeartbeats 2000000 in
theorem cmb_1 (K : FuncId) (hE : ∀ W args, (callFunc K args).run Try.prog W = .ok (.enter K args) W) (a b c x y z u v t : Int) (hp : vv a b c = false) (w : World) :
    Calls Try.prog 151 #[.agg #[.int .i64 a, .int .i64 b, .int .i64 c], .agg #[.int .i64 x, .int .i64 y, .int .i64 z], .func (.func K) #[] #[]] w fun e w' => e = .returned (.tuple #[.agg #[.int .i64 0, .int .i64 0, .int .i64 0], .int .i64 1]) ∧ Below w.heap.size w w' := by
  have HP := Lib.hid hp
  clear hp
  have p0 : World.cell? (((w.alloc (.cells #[.int .i64 a, .int .i64 b, .int .i64 c] 27)).alloc (.cells #[.int .i64 x, .int .i64 y, .int .i64 z] 27)).alloc (.cells #[.int .i64 0, .int .i64 0, .int .i64 0] 27)) ⟨w.heap.size, 0, none⟩ = some (.int .i64 a) := by simp [go_sem]
  have p1 : World.cell? (((w.alloc (.cells #[.int .i64 a, .int .i64 b, .int .i64 c] 27)).alloc (.cells #[.int .i64 x, .int .i64 y, .int .i64 z] 27)).alloc (.cells #[.int .i64 0, .int .i64 0, .int .i64 0] 27)) ⟨w.heap.size, 1, none⟩ = some (.int .i64 b) := by simp [go_sem]
  have p2 : World.cell? (((w.alloc (.cells #[.int .i64 a, .int .i64 b, .int .i64 c] 27)).alloc (.cells #[.int .i64 x, .int .i64 y, .int .i64 z] 27)).alloc (.cells #[.int .i64 0, .int .i64 0, .int .i64 0] 27)) ⟨w.heap.size, 2, none⟩ = some (.int .i64 c) := by simp [go_sem]
  have lp : w.heap.size < (((w.alloc (.cells #[.int .i64 a, .int .i64 b, .int .i64 c] 27)).alloc (.cells #[.int .i64 x, .int .i64 y, .int .i64 z] 27)).alloc (.cells #[.int .i64 0, .int .i64 0, .int .i64 0] 27)).heap.size := by simp <;> omega
  have q0 : World.cell? (((w.alloc (.cells #[.int .i64 a, .int .i64 b, .int .i64 c] 27)).alloc (.cells #[.int .i64 x, .int .i64 y, .int .i64 z] 27)).alloc (.cells #[.int .i64 0, .int .i64 0, .int .i64 0] 27)) ⟨w.heap.size + 1, 0, none⟩ = some (.int .i64 x) := by simp [go_sem]
  have q1 : World.cell? (((w.alloc (.cells #[.int .i64 a, .int .i64 b, .int .i64 c] 27)).alloc (.cells #[.int .i64 x, .int .i64 y, .int .i64 z] 27)).alloc (.cells #[.int .i64 0, .int .i64 0, .int .i64 0] 27)) ⟨w.heap.size + 1, 1, none⟩ = some (.int .i64 y) := by simp [go_sem]
  have q2 : World.cell? (((w.alloc (.cells #[.int .i64 a, .int .i64 b, .int .i64 c] 27)).alloc (.cells #[.int .i64 x, .int .i64 y, .int .i64 z] 27)).alloc (.cells #[.int .i64 0, .int .i64 0, .int .i64 0] 27)) ⟨w.heap.size + 1, 2, none⟩ = some (.int .i64 z) := by simp [go_sem]
  have lq : w.heap.size + 1 < (((w.alloc (.cells #[.int .i64 a, .int .i64 b, .int .i64 c] 27)).alloc (.cells #[.int .i64 x, .int .i64 y, .int .i64 z] 27)).alloc (.cells #[.int .i64 0, .int .i64 0, .int .i64 0] 27)).heap.size := by simp <;> omega
  have o0 : World.cell? (((w.alloc (.cells #[.int .i64 a, .int .i64 b, .int .i64 c] 27)).alloc (.cells #[.int .i64 x, .int .i64 y, .int .i64 z] 27)).alloc (.cells #[.int .i64 0, .int .i64 0, .int .i64 0] 27)) ⟨w.heap.size + 1 + 1, 0, none⟩ = some (.int .i64 0) := by simp [go_sem]
  have fo0 : World.frozen? (((w.alloc (.cells #[.int .i64 a, .int .i64 b, .int .i64 c] 27)).alloc (.cells #[.int .i64 x, .int .i64 y, .int .i64 z] 27)).alloc (.cells #[.int .i64 0, .int .i64 0, .int .i64 0] 27)) ⟨w.heap.size + 1 + 1, 0, none⟩ = false := by simp [go_sem]
  have o1 : World.cell? (((w.alloc (.cells #[.int .i64 a, .int .i64 b, .int .i64 c] 27)).alloc (.cells #[.int .i64 x, .int .i64 y, .int .i64 z] 27)).alloc (.cells #[.int .i64 0, .int .i64 0, .int .i64 0] 27)) ⟨w.heap.size + 1 + 1, 1, none⟩ = some (.int .i64 0) := by simp [go_sem]
  have fo1 : World.frozen? (((w.alloc (.cells #[.int .i64 a, .int .i64 b, .int .i64 c] 27)).alloc (.cells #[.int .i64 x, .int .i64 y, .int .i64 z] 27)).alloc (.cells #[.int .i64 0, .int .i64 0, .int .i64 0] 27)) ⟨w.heap.size + 1 + 1, 1, none⟩ = false := by simp [go_sem]
  have o2 : World.cell? (((w.alloc (.cells #[.int .i64 a, .int .i64 b, .int .i64 c] 27)).alloc (.cells #[.int .i64 x, .int .i64 y, .int .i64 z] 27)).alloc (.cells #[.int .i64 0, .int .i64 0, .int .i64 0] 27)) ⟨w.heap.size + 1 + 1, 2, none⟩ = some (.int .i64 0) := by simp [go_sem]
  have fo2 : World.frozen? (((w.alloc (.cells #[.int .i64 a, .int .i64 b, .int .i64 c] 27)).alloc (.cells #[.int .i64 x, .int .i64 y, .int .i64 z] 27)).alloc (.cells #[.int .i64 0, .int .i64 0, .int .i64 0] 27)) ⟨w.heap.size + 1 + 1, 2, none⟩ = false := by simp [go_sem]
  have lo : w.heap.size + 1 + 1 < (((w.alloc (.cells #[.int .i64 a, .int .i64 b, .int .i64 c] 27)).alloc (.cells #[.int .i64 x, .int .i64 y, .int .i64 z] 27)).alloc (.cells #[.int .i64 0, .int .i64 0, .int .i64 0] 27)).heap.size := by simp <;> omega
  have HB := Lib.hid (show Below w.heap.size w (((w.alloc (.cells #[.int .i64 a, .int .i64 b, .int .i64 c] 27)).alloc (.cells #[.int .i64 x, .int .i64 y, .int .i64 z] 27)).alloc (.cells #[.int .i64 0, .int .i64 0, .int .i64 0] 27)) from ((((Below.refl _ _).alloc (by simp <;> omega) _).alloc (by simp <;> omega) _).alloc (by simp <;> omega) _))
  go_enter Try.func151, Try.ntmps151
  go_wp2_with fail
  generalize ((w.alloc (.cells #[.int .i64 a, .int .i64 b, .int .i64 c] 27)).alloc (.cells #[.int .i64 x, .int .i64 y, .int .i64 z] 27)).alloc (.cells #[.int .i64 0, .int .i64 0, .int .i64 0] 27) = w1 at *
  refine (vvalid_is a b c false HP.out _).mono ?_
  rintro e_ w2 ⟨rfl, hb⟩
  replace HB := Lib.hid (on_below HB.out hb)
  replace p0 := keepc hb p0
  replace p1 := keepc hb p1
  replace p2 := keepc hb p2
  replace q0 := keepc hb q0
  replace q1 := keepc hb q1
  replace q2 := keepc hb q2
  replace o0 := keepc hb o0
  replace o1 := keepc hb o1
  replace o2 := keepc hb o2
  replace fo0 := keepf hb lo fo0
  replace fo1 := keepf hb lo fo1
  replace fo2 := keepf hb lo fo2
  replace lp := Nat.lt_of_lt_of_le lp hb.size
  replace lq := Nat.lt_of_lt_of_le lq hb.size
  replace lo := Nat.lt_of_lt_of_le lo hb.size
  clear hb
  go_wp2_with fail
  refine bodyPost_ret (v := .tuple #[.agg #[.int .i64 0, .int .i64 0, .int .i64 0], .int .i64 1]) (by simp [results, Try.results151, go_sem, o0, o1, o2]) rfl ⟨rfl, ?_⟩
  repeat (refine Below.setCell ?_ (by first | exact Nat.le_refl _ | (simp; done) | (simp; omega) | omega) _)
  exact HB.out
set_option maxRecDepth 100000 in
set_option maxHeartbeats 2000000 in
theorem cmb_2 (K : FuncId) (hE : ∀ W args, (callFunc K args).run Try.prog W = .ok (.enter K args) W) (a b c x y z u v t : Int) (hp : vv a b c = true) (hq : vv x y z = false) (w : World) :
    Calls Try.prog 151 #[.agg #[.int .i64 a, .int .i64 b, .int .i64 c], .agg #[.int .i64 x, .int .i64 y, .int .i64 z], .func (.func K) #[] #[]] w fun e w' => e = .returned (.tuple #[.agg #[.int .i64 0, .int .i64 0, .int .i64 0], .int .i64 1]) ∧ Below w.heap.size w w' := by
  have HP := Lib.hid hp
  clear hp
  have HQ := Lib.hid hq
  clear hq
  have p0 : World.cell? (((w.alloc (.cells #[.int .i64 a, .int .i64 b, .int .i64 c] 27)).alloc (.cells #[.int .i64 x, .int .i64 y, .int .i64 z] 27)).alloc (.cells #[.int .i64 0, .int .i64 0, .int .i64 0] 27)) ⟨w.heap.size, 0, none⟩ = some (.int .i64 a) := by simp [go_sem]
  have p1 : World.cell? (((w.alloc (.cells #[.int .i64 a, .int .i64 b, .int .i64 c] 27)).alloc (.cells #[.int .i64 x, .int .i64 y, .int .i64 z] 27)).alloc (.cells #[.int .i64 0, .int .i64 0, .int .i64 0] 27)) ⟨w.heap.size, 1, none⟩ = some (.int .i64 b) := by simp [go_sem]
  have p2 : World.cell? (((w.alloc (.cells #[.int .i64 a, .int .i64 b, .int .i64 c] 27)).alloc (.cells #[.int .i64 x, .int .i64 y, .int .i64 z] 27)).alloc (.cells #[.int .i64 0, .int .i64 0, .int .i64 0] 27)) ⟨w.heap.size, 2, none⟩ = some (.int .i64 c) := by simp [go_sem]
  have lp : w.heap.size < (((w.alloc (.cells #[.int .i64 a, .int .i64 b, .int .i64 c] 27)).alloc (.cells #[.int .i64 x, .int .i64 y, .int .i64 z] 27)).alloc (.cells #[.int .i64 0, .int .i64 0, .int .i64 0] 27)).heap.size := by simp <;> omega
  have q0 : World.cell? (((w.alloc (.cells #[.int .i64 a, .int .i64 b, .int .i64 c] 27)).alloc (.cells #[.int .i64 x, .int .i64 y, .int .i64 z] 27)).alloc (.cells #[.int .i64 0, .int .i64 0, .int .i64 0] 27)) ⟨w.heap.size + 1, 0, none⟩ = some (.int .i64 x) := by simp [go_sem]
  have q1 : World.cell? (((w.alloc (.cells #[.int .i64 a, .int .i64 b, .int .i64 c] 27)).alloc (.cells #[.int .i64 x, .int .i64 y, .int .i64 z] 27)).alloc (.cells #[.int .i64 0, .int .i64 0, .int .i64 0] 27)) ⟨w.heap.size + 1, 1, none⟩ = some (.int .i64 y) := by simp [go_sem]
  have q2 : World.cell? (((w.alloc (.cells #[.int .i64 a, .int .i64 b, .int .i64 c] 27)).alloc (.cells #[.int .i64 x, .int .i64 y, .int .i64 z] 27)).alloc (.cells #[.int .i64 0, .int .i64 0, .int .i64 0] 27)) ⟨w.heap.size + 1, 2, none⟩ = some (.int .i64 z) := by simp [go_sem]
  have lq : w.heap.size + 1 < (((w.alloc (.cells #[.int .i64 a, .int .i64 b, .int .i64 c] 27)).alloc (.cells #[.int .i64 x, .int .i64 y, .int .i64 z] 27)).alloc (.cells #[.int .i64 0, .int .i64 0, .int .i64 0] 27)).heap.size := by simp <;> omega
  have o0 : World.cell? (((w.alloc (.cells #[.int .i64 a, .int .i64 b, .int .i64 c] 27)).alloc (.cells #[.int .i64 x, .int .i64 y, .int .i64 z] 27)).alloc (.cells #[.int .i64 0, .int .i64 0, .int .i64 0] 27)) ⟨w.heap.size + 1 + 1, 0, none⟩ = some (.int .i64 0) := by simp [go_sem]
  have fo0 : World.frozen? (((w.alloc (.cells #[.int .i64 a, .int .i64 b, .int .i64 c] 27)).alloc (.cells #[.int .i64 x, .int .i64 y, .int .i64 z] 27)).alloc (.cells #[.int .i64 0, .int .i64 0, .int .i64 0] 27)) ⟨w.heap.size + 1 + 1, 0, none⟩ = false := by simp [go_sem]
  have o1 : World.cell? (((w.alloc (.cells #[.int .i64 a, .int .i64 b, .int .i64 c] 27)).alloc (.cells #[.int .i64 x, .int .i64 y, .int .i64 z] 27)).alloc (.cells #[.int .i64 0, .int .i64 0, .int .i64 0] 27)) ⟨w.heap.size + 1 + 1, 1, none⟩ = some (.int .i64 0) := by simp [go_sem]
  have fo1 : World.frozen? (((w.alloc (.cells #[.int .i64 a, .int .i64 b, .int .i64 c] 27)).alloc (.cells #[.int .i64 x, .int .i64 y, .int .i64 z] 27)).alloc (.cells #[.int .i64 0, .int .i64 0, .int .i64 0] 27)) ⟨w.heap.size + 1 + 1, 1, none⟩ = false := by simp [go_sem]
  have o2 : World.cell? (((w.alloc (.cells #[.int .i64 a, .int .i64 b, .int .i64 c] 27)).alloc (.cells #[.int .i64 x, .int .i64 y, .int .i64 z] 27)).alloc (.cells #[.int .i64 0, .int .i64 0, .int .i64 0] 27)) ⟨w.heap.size + 1 + 1, 2, none⟩ = some (.int .i64 0) := by simp [go_sem]
  have fo2 : World.frozen? (((w.alloc (.cells #[.int .i64 a, .int .i64 b, .int .i64 c] 27)).alloc (.cells #[.int .i64 x, .int .i64 y, .int .i64 z] 27)).alloc (.cells #[.int .i64 0, .int .i64 0, .int .i64 0] 27)) ⟨w.heap.size + 1 + 1, 2, none⟩ = false := by simp [go_sem]
  have lo : w.heap.size + 1 + 1 < (((w.alloc (.cells #[.int .i64 a, .int .i64 b, .int .i64 c] 27)).alloc (.cells #[.int .i64 x, .int .i64 y, .int .i64 z] 27)).alloc (.cells #[.int .i64 0, .int .i64 0, .int .i64 0] 27)).heap.size := by simp <;> omega
  have HB := Lib.hid (show Below w.heap.size w (((w.alloc (.cells #[.int .i64 a, .int .i64 b, .int .i64 c] 27)).alloc (.cells #[.int .i64 x, .int .i64 y, .int .i64 z] 27)).alloc (.cells #[.int .i64 0, .int .i64 0, .int .i64 0] 27)) from ((((Below.refl _ _).alloc (by simp <;> omega) _).alloc (by simp <;> omega) _).alloc (by simp <;> omega) _))
  go_enter Try.func151, Try.ntmps151
  go_wp2_with fail
  generalize ((w.alloc (.cells #[.int .i64 a, .int .i64 b, .int .i64 c] 27)).alloc (.cells #[.int .i64 x, .int .i64 y, .int .i64 z] 27)).alloc (.cells #[.int .i64 0, .int .i64 0, .int .i64 0] 27) = w1 at *
  refine (vvalid_is a b c true HP.out _).mono ?_
  rintro e_ w2 ⟨rfl, hb⟩
  replace HB := Lib.hid (on_below HB.out hb)
  replace p0 := keepc hb p0
  replace p1 := keepc hb p1
  replace p2 := keepc hb p2
  replace q0 := keepc hb q0
  replace q1 := keepc hb q1
  replace q2 := keepc hb q2
  replace o0 := keepc hb o0
  replace o1 := keepc hb o1
  replace o2 := keepc hb o2
  replace fo0 := keepf hb lo fo0
  replace fo1 := keepf hb lo fo1
  replace fo2 := keepf hb lo fo2
  replace lp := Nat.lt_of_lt_of_le lp hb.size
  replace lq := Nat.lt_of_lt_of_le lq hb.size
  replace lo := Nat.lt_of_lt_of_le lo hb.size
  clear hb
  go_wp2_with fail
  refine (vvalid_is x y z false HQ.out _).mono ?_
  rintro e_ w3 ⟨rfl, hb⟩
  replace HB := Lib.hid (on_below HB.out hb)
  replace p0 := keepc hb p0
  replace p1 := keepc hb p1
  replace p2 := keepc hb p2
  replace q0 := keepc hb q0
  replace q1 := keepc hb q1
  replace q2 := keepc hb q2
  replace o0 := keepc hb o0
  replace o1 := keepc hb o1
  replace o2 := keepc hb o2
  replace fo0 := keepf hb lo fo0
  replace fo1 := keepf hb lo fo1
  replace fo2 := keepf hb lo fo2
  replace lp := Nat.lt_of_lt_of_le lp hb.size
  replace lq := Nat.lt_of_lt_of_le lq hb.size
  replace lo := Nat.lt_of_lt_of_le lo hb.size
  clear hb
  go_wp2_with fail
  refine bodyPost_ret (v := .tuple #[.agg #[.int .i64 0, .int .i64 0, .int .i64 0], .int .i64 1]) (by simp [results, Try.results151, go_sem, o0, o1, o2]) rfl ⟨rfl, ?_⟩
  repeat (refine Below.setCell ?_ (by first | exact Nat.le_refl _ | (simp; done) | (simp; omega) | omega) _)
  exact HB.out
set_option maxRecDepth 100000 in
set_option maxHeartbeats 2000000 in
theorem cmb_3 (K : FuncId) (hE : ∀ W args, (callFunc K args).run Try.prog W = .ok (.enter K args) W) (a b c x y z u v t : Int) (hp : vv a b c = true) (hq : vv x y z = true) (hr : vv u v t = false) (h0 : ∀ W, Calls Try.prog K #[.int .i64 a, .int .i64 x] W fun e w' => e = .returned (.int .i64 u) ∧ W = w') (h1 : ∀ W, Calls Try.prog K #[.int .i64 b, .int .i64 y] W fun e w' => e = .returned (.int .i64 v) ∧ W = w') (h2 : ∀ W, Calls Try.prog K #[.int .i64 c, .int .i64 z] W fun e w' => e = .returned (.int .i64 t) ∧ W = w') (w : World) :
    Calls Try.prog 151 #[.agg #[.int .i64 a, .int .i64 b, .int .i64 c], .agg #[.int .i64 x, .int .i64 y, .int .i64 z], .func (.func K) #[] #[]] w fun e w' => e = .returned (.tuple #[.agg #[.int .i64 0, .int .i64 0, .int .i64 0], .int .i64 3]) ∧ Below w.heap.size w w' := by
  have HP := Lib.hid hp
  clear hp
  have HQ := Lib.hid hq
  clear hq
  have HR := Lib.hid hr
  clear hr
  have H0 := Lib.hid h0
  clear h0
  have H1 := Lib.hid h1
  clear h1
  have H2 := Lib.hid h2
  clear h2
  have p0 : World.cell? (((w.alloc (.cells #[.int .i64 a, .int .i64 b, .int .i64 c] 27)).alloc (.cells #[.int .i64 x, .int .i64 y, .int .i64 z] 27)).alloc (.cells #[.int .i64 0, .int .i64 0, .int .i64 0] 27)) ⟨w.heap.size, 0, none⟩ = some (.int .i64 a) := by simp [go_sem]
  have p1 : World.cell? (((w.alloc (.cells #[.int .i64 a, .int .i64 b, .int .i64 c] 27)).alloc (.cells #[.int .i64 x, .int .i64 y, .int .i64 z] 27)).alloc (.cells #[.int .i64 0, .int .i64 0, .int .i64 0] 27)) ⟨w.heap.size, 1, none⟩ = some (.int .i64 b) := by simp [go_sem]
  have p2 : World.cell? (((w.alloc (.cells #[.int .i64 a, .int .i64 b, .int .i64 c] 27)).alloc (.cells #[.int .i64 x, .int .i64 y, .int .i64 z] 27)).alloc (.cells #[.int .i64 0, .int .i64 0, .int .i64 0] 27)) ⟨w.heap.size, 2, none⟩ = some (.int .i64 c) := by simp [go_sem]
  have lp : w.heap.size < (((w.alloc (.cells #[.int .i64 a, .int .i64 b, .int .i64 c] 27)).alloc (.cells #[.int .i64 x, .int .i64 y, .int .i64 z] 27)).alloc (.cells #[.int .i64 0, .int .i64 0, .int .i64 0] 27)).heap.size := by simp <;> omega
  have q0 : World.cell? (((w.alloc (.cells #[.int .i64 a, .int .i64 b, .int .i64 c] 27)).alloc (.cells #[.int .i64 x, .int .i64 y, .int .i64 z] 27)).alloc (.cells #[.int .i64 0, .int .i64 0, .int .i64 0] 27)) ⟨w.heap.size + 1, 0, none⟩ = some (.int .i64 x) := by simp [go_sem]
  have q1 : World.cell? (((w.alloc (.cells #[.int .i64 a, .int .i64 b, .int .i64 c] 27)).alloc (.cells #[.int .i64 x, .int .i64 y, .int .i64 z] 27)).alloc (.cells #[.int .i64 0, .int .i64 0, .int .i64 0] 27)) ⟨w.heap.size + 1, 1, none⟩ = some (.int .i64 y) := by simp [go_sem]
  have q2 : World.cell? (((w.alloc (.cells #[.int .i64 a, .int .i64 b, .int .i64 c] 27)).alloc (.cells #[.int .i64 x, .int .i64 y, .int .i64 z] 27)).alloc (.cells #[.int .i64 0, .int .i64 0, .int .i64 0] 27)) ⟨w.heap.size + 1, 2, none⟩ = some (.int .i64 z) := by simp [go_sem]
  have lq : w.heap.size + 1 < (((w.alloc (.cells #[.int .i64 a, .int .i64 b, .int .i64 c] 27)).alloc (.cells #[.int .i64 x, .int .i64 y, .int .i64 z] 27)).alloc (.cells #[.int .i64 0, .int .i64 0, .int .i64 0] 27)).heap.size := by simp <;> omega
  have o0 : World.cell? (((w.alloc (.cells #[.int .i64 a, .int .i64 b, .int .i64 c] 27)).alloc (.cells #[.int .i64 x, .int .i64 y, .int .i64 z] 27)).alloc (.cells #[.int .i64 0, .int .i64 0, .int .i64 0] 27)) ⟨w.heap.size + 1 + 1, 0, none⟩ = some (.int .i64 0) := by simp [go_sem]
  have fo0 : World.frozen? (((w.alloc (.cells #[.int .i64 a, .int .i64 b, .int .i64 c] 27)).alloc (.cells #[.int .i64 x, .int .i64 y, .int .i64 z] 27)).alloc (.cells #[.int .i64 0, .int .i64 0, .int .i64 0] 27)) ⟨w.heap.size + 1 + 1, 0, none⟩ = false := by simp [go_sem]
  have o1 : World.cell? (((w.alloc (.cells #[.int .i64 a, .int .i64 b, .int .i64 c] 27)).alloc (.cells #[.int .i64 x, .int .i64 y, .int .i64 z] 27)).alloc (.cells #[.int .i64 0, .int .i64 0, .int .i64 0] 27)) ⟨w.heap.size + 1 + 1, 1, none⟩ = some (.int .i64 0) := by simp [go_sem]
  have fo1 : World.frozen? (((w.alloc (.cells #[.int .i64 a, .int .i64 b, .int .i64 c] 27)).alloc (.cells #[.int .i64 x, .int .i64 y, .int .i64 z] 27)).alloc (.cells #[.int .i64 0, .int .i64 0, .int .i64 0] 27)) ⟨w.heap.size + 1 + 1, 1, none⟩ = false := by simp [go_sem]
  have o2 : World.cell? (((w.alloc (.cells #[.int .i64 a, .int .i64 b, .int .i64 c] 27)).alloc (.cells #[.int .i64 x, .int .i64 y, .int .i64 z] 27)).alloc (.cells #[.int .i64 0, .int .i64 0, .int .i64 0] 27)) ⟨w.heap.size + 1 + 1, 2, none⟩ = some (.int .i64 0) := by simp [go_sem]
  have fo2 : World.frozen? (((w.alloc (.cells #[.int .i64 a, .int .i64 b, .int .i64 c] 27)).alloc (.cells #[.int .i64 x, .int .i64 y, .int .i64 z] 27)).alloc (.cells #[.int .i64 0, .int .i64 0, .int .i64 0] 27)) ⟨w.heap.size + 1 + 1, 2, none⟩ = false := by simp [go_sem]
  have lo : w.heap.size + 1 + 1 < (((w.alloc (.cells #[.int .i64 a, .int .i64 b, .int .i64 c] 27)).alloc (.cells #[.int .i64 x, .int .i64 y, .int .i64 z] 27)).alloc (.cells #[.int .i64 0, .int .i64 0, .int .i64 0] 27)).heap.size := by simp <;> omega
  have HB := Lib.hid (show Below w.heap.size w (((w.alloc (.cells #[.int .i64 a, .int .i64 b, .int .i64 c] 27)).alloc (.cells #[.int .i64 x, .int .i64 y, .int .i64 z] 27)).alloc (.cells #[.int .i64 0, .int .i64 0, .int .i64 0] 27)) from ((((Below.refl _ _).alloc (by simp <;> omega) _).alloc (by simp <;> omega) _).alloc (by simp <;> omega) _))
  go_enter Try.func151, Try.ntmps151
  go_wp2_with fail
  generalize ((w.alloc (.cells #[.int .i64 a, .int .i64 b, .int .i64 c] 27)).alloc (.cells #[.int .i64 x, .int .i64 y, .int .i64 z] 27)).alloc (.cells #[.int .i64 0, .int .i64 0, .int .i64 0] 27) = w1 at *
  refine (vvalid_is a b c true HP.out _).mono ?_
  rintro e_ w2 ⟨rfl, hb⟩
  replace HB := Lib.hid (on_below HB.out hb)
  replace p0 := keepc hb p0
  replace p1 := keepc hb p1
  replace p2 := keepc hb p2
  replace q0 := keepc hb q0
  replace q1 := keepc hb q1
  replace q2 := keepc hb q2
  replace o0 := keepc hb o0
  replace o1 := keepc hb o1
  replace o2 := keepc hb o2
  replace fo0 := keepf hb lo fo0
  replace fo1 := keepf hb lo fo1
  replace fo2 := keepf hb lo fo2
  replace lp := Nat.lt_of_lt_of_le lp hb.size
  replace lq := Nat.lt_of_lt_of_le lq hb.size
  replace lo := Nat.lt_of_lt_of_le lo hb.size
  clear hb
  go_wp2_with fail
  refine (vvalid_is x y z true HQ.out _).mono ?_
  rintro e_ w3 ⟨rfl, hb⟩
  replace HB := Lib.hid (on_below HB.out hb)
  replace p0 := keepc hb p0
  replace p1 := keepc hb p1
  replace p2 := keepc hb p2
  replace q0 := keepc hb q0
  replace q1 := keepc hb q1
  replace q2 := keepc hb q2
  replace o0 := keepc hb o0
  replace o1 := keepc hb o1
  replace o2 := keepc hb o2
  replace fo0 := keepf hb lo fo0
  replace fo1 := keepf hb lo fo1
  replace fo2 := keepf hb lo fo2
  replace lp := Nat.lt_of_lt_of_le lp hb.size
  replace lq := Nat.lt_of_lt_of_le lq hb.size
  replace lo := Nat.lt_of_lt_of_le lo hb.size
  clear hb
  go_wp2_with fail
  have HK := Lib.hid hE
  clear hE
  refine (vcombine_any K HK.out a b c x y z u v t H0.out H1.out H2.out _).mono ?_
  rintro e_ w4 ⟨rfl, hb⟩
  replace HB := Lib.hid (on_below HB.out hb)
  replace p0 := keepc hb p0
  replace p1 := keepc hb p1
  replace p2 := keepc hb p2
  replace q0 := keepc hb q0
  replace q1 := keepc hb q1
  replace q2 := keepc hb q2
  replace o0 := keepc hb o0
  replace o1 := keepc hb o1
  replace o2 := keepc hb o2
  replace fo0 := keepf hb lo fo0
  replace fo1 := keepf hb lo fo1
  replace fo2 := keepf hb lo fo2
  replace lp := Nat.lt_of_lt_of_le lp hb.size
  replace lq := Nat.lt_of_lt_of_le lq hb.size
  replace lo := Nat.lt_of_lt_of_le lo hb.size
  clear hb
  go_wp2_with fail
  have m0 : World.cell? (w4.alloc (.cells #[.int .i64 u, .int .i64 v, .int .i64 t] 157)) ⟨w4.heap.size, 0, none⟩ = some (.int .i64 u) := by simp [go_sem]
  have m1 : World.cell? (w4.alloc (.cells #[.int .i64 u, .int .i64 v, .int .i64 t] 157)) ⟨w4.heap.size, 1, none⟩ = some (.int .i64 v) := by simp [go_sem]
  have m2 : World.cell? (w4.alloc (.cells #[.int .i64 u, .int .i64 v, .int .i64 t] 157)) ⟨w4.heap.size, 2, none⟩ = some (.int .i64 t) := by simp [go_sem]
  have lm : w4.heap.size < (w4.alloc (.cells #[.int .i64 u, .int .i64 v, .int .i64 t] 157)).heap.size := by simp
  have zm : (w4.alloc (.cells #[.int .i64 u, .int .i64 v, .int .i64 t] 157)).heap.size = w4.heap.size + 1 := by simp
  have hb : Below w4.heap.size w4 (w4.alloc (.cells #[.int .i64 u, .int .i64 v, .int .i64 t] 157)) := below_new _ _
  generalize w4.alloc (.cells #[.int .i64 u, .int .i64 v, .int .i64 t] 157) = w5 at *
  replace HB := Lib.hid (on_below HB.out hb)
  replace p0 := keepc hb p0
  replace p1 := keepc hb p1
  replace p2 := keepc hb p2
  replace q0 := keepc hb q0
  replace q1 := keepc hb q1
  replace q2 := keepc hb q2
  replace o0 := keepc hb o0
  replace o1 := keepc hb o1
  replace o2 := keepc hb o2
  replace fo0 := keepf hb lo fo0
  replace fo1 := keepf hb lo fo1
  replace fo2 := keepf hb lo fo2
  replace lp := Nat.lt_of_lt_of_le lp hb.size
  replace lq := Nat.lt_of_lt_of_le lq hb.size
  replace lo := Nat.lt_of_lt_of_le lo hb.size
  clear hb
  generalize w4.heap.size = gm at *
  clear p0 p1 p2 lp q0 q1 q2 lq
  have s0 : World.cell? (w5.alloc (.cells #[.int .i64 u, .int .i64 v, .int .i64 t] 27)) ⟨gm + 1, 0, none⟩ = some (.int .i64 u) := by rw [← zm]; simp [go_sem]
  have s1 : World.cell? (w5.alloc (.cells #[.int .i64 u, .int .i64 v, .int .i64 t] 27)) ⟨gm + 1, 1, none⟩ = some (.int .i64 v) := by rw [← zm]; simp [go_sem]
  have s2 : World.cell? (w5.alloc (.cells #[.int .i64 u, .int .i64 v, .int .i64 t] 27)) ⟨gm + 1, 2, none⟩ = some (.int .i64 t) := by rw [← zm]; simp [go_sem]
  have ls : gm + 1 < (w5.alloc (.cells #[.int .i64 u, .int .i64 v, .int .i64 t] 27)).heap.size := by rw [← zm]; simp
  have hb : Below w5.heap.size w5 (w5.alloc (.cells #[.int .i64 u, .int .i64 v, .int .i64 t] 27)) := below_new _ _
  generalize w5.alloc (.cells #[.int .i64 u, .int .i64 v, .int .i64 t] 27) = w6 at *
  replace HB := Lib.hid (on_below HB.out hb)
  replace o0 := keepc hb o0
  replace o1 := keepc hb o1
  replace o2 := keepc hb o2
  replace m0 := keepc hb m0
  replace m1 := keepc hb m1
  replace m2 := keepc hb m2
  replace fo0 := keepf hb lo fo0
  replace fo1 := keepf hb lo fo1
  replace fo2 := keepf hb lo fo2
  replace lo := Nat.lt_of_lt_of_le lo hb.size
  replace lm := Nat.lt_of_lt_of_le lm hb.size
  clear hb
  clear zm
  have ns : gm < gm + 1 := Nat.lt_succ_self _
  generalize gm + 1 = gs at *
  refine (vvalid_is u v t false HR.out _).mono ?_
  rintro e_ w7 ⟨rfl, hb⟩
  replace HB := Lib.hid (on_below HB.out hb)
  replace o0 := keepc hb o0
  replace o1 := keepc hb o1
  replace o2 := keepc hb o2
  replace m0 := keepc hb m0
  replace m1 := keepc hb m1
  replace m2 := keepc hb m2
  replace s0 := keepc hb s0
  replace s1 := keepc hb s1
  replace s2 := keepc hb s2
  replace fo0 := keepf hb lo fo0
  replace fo1 := keepf hb lo fo1
  replace fo2 := keepf hb lo fo2
  replace lo := Nat.lt_of_lt_of_le lo hb.size
  replace lm := Nat.lt_of_lt_of_le lm hb.size
  replace ls := Nat.lt_of_lt_of_le ls hb.size
  clear hb
  go_wp2_with fail
  refine bodyPost_ret (v := .tuple #[.agg #[.int .i64 0, .int .i64 0, .int .i64 0], .int .i64 3]) (by simp [results, Try.results151, go_sem, o0, o1, o2]) rfl ⟨rfl, ?_⟩
  repeat (refine Below.setCell ?_ (by first | exact Nat.le_refl _ | (simp; done) | (simp; omega) | omega) _)
  exact HB.out
set_option maxRecDepth 100000 in
set_option maxHeartbeats 2000000 in
theorem cmb_4 (K : FuncId) (hE : ∀ W args, (callFunc K args).run Try.prog W = .ok (.enter K args) W) (a b c x y z u v t : Int) (hp : vv a b c = true) (hq : vv x y z = true) (hr : vv u v t = true) (h0 : ∀ W, Calls Try.prog K #[.int .i64 a, .int .i64 x] W fun e w' => e = .returned (.int .i64 u) ∧ W = w') (h1 : ∀ W, Calls Try.prog K #[.int .i64 b, .int .i64 y] W fun e w' => e = .returned (.int .i64 v) ∧ W = w') (h2 : ∀ W, Calls Try.prog K #[.int .i64 c, .int .i64 z] W fun e w' => e = .returned (.int .i64 t) ∧ W = w') (w : World) :
    Calls Try.prog 151 #[.agg #[.int .i64 a, .int .i64 b, .int .i64 c], .agg #[.int .i64 x, .int .i64 y, .int .i64 z], .func (.func K) #[] #[]] w fun e w' => e = .returned (.tuple #[.agg #[.int .i64 u, .int .i64 v, .int .i64 t], .int .i64 0]) ∧ Below w.heap.size w w' := by
  have HP := Lib.hid hp
  clear hp
  have HQ := Lib.hid hq
  clear hq
  have HR := Lib.hid hr
  clear hr
  have H0 := Lib.hid h0
  clear h0
  have H1 := Lib.hid h1
  clear h1
  have H2 := Lib.hid h2
  clear h2
  have p0 : World.cell? (((w.alloc (.cells #[.int .i64 a, .int .i64 b, .int .i64 c] 27)).alloc (.cells #[.int .i64 x, .int .i64 y, .int .i64 z] 27)).alloc (.cells #[.int .i64 0, .int .i64 0, .int .i64 0] 27)) ⟨w.heap.size, 0, none⟩ = some (.int .i64 a) := by simp [go_sem]
  have p1 : World.cell? (((w.alloc (.cells #[.int .i64 a, .int .i64 b, .int .i64 c] 27)).alloc (.cells #[.int .i64 x, .int .i64 y, .int .i64 z] 27)).alloc (.cells #[.int .i64 0, .int .i64 0, .int .i64 0] 27)) ⟨w.heap.size, 1, none⟩ = some (.int .i64 b) := by simp [go_sem]
  have p2 : World.cell? (((w.alloc (.cells #[.int .i64 a, .int .i64 b, .int .i64 c] 27)).alloc (.cells #[.int .i64 x, .int .i64 y, .int .i64 z] 27)).alloc (.cells #[.int .i64 0, .int .i64 0, .int .i64 0] 27)) ⟨w.heap.size, 2, none⟩ = some (.int .i64 c) := by simp [go_sem]
  have lp : w.heap.size < (((w.alloc (.cells #[.int .i64 a, .int .i64 b, .int .i64 c] 27)).alloc (.cells #[.int .i64 x, .int .i64 y, .int .i64 z] 27)).alloc (.cells #[.int .i64 0, .int .i64 0, .int .i64 0] 27)).heap.size := by simp <;> omega
  have q0 : World.cell? (((w.alloc (.cells #[.int .i64 a, .int .i64 b, .int .i64 c] 27)).alloc (.cells #[.int .i64 x, .int .i64 y, .int .i64 z] 27)).alloc (.cells #[.int .i64 0, .int .i64 0, .int .i64 0] 27)) ⟨w.heap.size + 1, 0, none⟩ = some (.int .i64 x) := by simp [go_sem]
  have q1 : World.cell? (((w.alloc (.cells #[.int .i64 a, .int .i64 b, .int .i64 c] 27)).alloc (.cells #[.int .i64 x, .int .i64 y, .int .i64 z] 27)).alloc (.cells #[.int .i64 0, .int .i64 0, .int .i64 0] 27)) ⟨w.heap.size + 1, 1, none⟩ = some (.int .i64 y) := by simp [go_sem]
  have q2 : World.cell? (((w.alloc (.cells #[.int .i64 a, .int .i64 b, .int .i64 c] 27)).alloc (.cells #[.int .i64 x, .int .i64 y, .int .i64 z] 27)).alloc (.cells #[.int .i64 0, .int .i64 0, .int .i64 0] 27)) ⟨w.heap.size + 1, 2, none⟩ = some (.int .i64 z) := by simp [go_sem]
  have lq : w.heap.size + 1 < (((w.alloc (.cells #[.int .i64 a, .int .i64 b, .int .i64 c] 27)).alloc (.cells #[.int .i64 x, .int .i64 y, .int .i64 z] 27)).alloc (.cells #[.int .i64 0, .int .i64 0, .int .i64 0] 27)).heap.size := by simp <;> omega
  have o0 : World.cell? (((w.alloc (.cells #[.int .i64 a, .int .i64 b, .int .i64 c] 27)).alloc (.cells #[.int .i64 x, .int .i64 y, .int .i64 z] 27)).alloc (.cells #[.int .i64 0, .int .i64 0, .int .i64 0] 27)) ⟨w.heap.size + 1 + 1, 0, none⟩ = some (.int .i64 0) := by simp [go_sem]
  have fo0 : World.frozen? (((w.alloc (.cells #[.int .i64 a, .int .i64 b, .int .i64 c] 27)).alloc (.cells #[.int .i64 x, .int .i64 y, .int .i64 z] 27)).alloc (.cells #[.int .i64 0, .int .i64 0, .int .i64 0] 27)) ⟨w.heap.size + 1 + 1, 0, none⟩ = false := by simp [go_sem]
  have o1 : World.cell? (((w.alloc (.cells #[.int .i64 a, .int .i64 b, .int .i64 c] 27)).alloc (.cells #[.int .i64 x, .int .i64 y, .int .i64 z] 27)).alloc (.cells #[.int .i64 0, .int .i64 0, .int .i64 0] 27)) ⟨w.heap.size + 1 + 1, 1, none⟩ = some (.int .i64 0) := by simp [go_sem]
  have fo1 : World.frozen? (((w.alloc (.cells #[.int .i64 a, .int .i64 b, .int .i64 c] 27)).alloc (.cells #[.int .i64 x, .int .i64 y, .int .i64 z] 27)).alloc (.cells #[.int .i64 0, .int .i64 0, .int .i64 0] 27)) ⟨w.heap.size + 1 + 1, 1, none⟩ = false := by simp [go_sem]
  have o2 : World.cell? (((w.alloc (.cells #[.int .i64 a, .int .i64 b, .int .i64 c] 27)).alloc (.cells #[.int .i64 x, .int .i64 y, .int .i64 z] 27)).alloc (.cells #[.int .i64 0, .int .i64 0, .int .i64 0] 27)) ⟨w.heap.size + 1 + 1, 2, none⟩ = some (.int .i64 0) := by simp [go_sem]
  have fo2 : World.frozen? (((w.alloc (.cells #[.int .i64 a, .int .i64 b, .int .i64 c] 27)).alloc (.cells #[.int .i64 x, .int .i64 y, .int .i64 z] 27)).alloc (.cells #[.int .i64 0, .int .i64 0, .int .i64 0] 27)) ⟨w.heap.size + 1 + 1, 2, none⟩ = false := by simp [go_sem]
  have lo : w.heap.size + 1 + 1 < (((w.alloc (.cells #[.int .i64 a, .int .i64 b, .int .i64 c] 27)).alloc (.cells #[.int .i64 x, .int .i64 y, .int .i64 z] 27)).alloc (.cells #[.int .i64 0, .int .i64 0, .int .i64 0] 27)).heap.size := by simp <;> omega
  have HB := Lib.hid (show Below w.heap.size w (((w.alloc (.cells #[.int .i64 a, .int .i64 b, .int .i64 c] 27)).alloc (.cells #[.int .i64 x, .int .i64 y, .int .i64 z] 27)).alloc (.cells #[.int .i64 0, .int .i64 0, .int .i64 0] 27)) from ((((Below.refl _ _).alloc (by simp <;> omega) _).alloc (by simp <;> omega) _).alloc (by simp <;> omega) _))
  go_enter Try.func151, Try.ntmps151
  go_wp2_with fail
  generalize ((w.alloc (.cells #[.int .i64 a, .int .i64 b, .int .i64 c] 27)).alloc (.cells #[.int .i64 x, .int .i64 y, .int .i64 z] 27)).alloc (.cells #[.int .i64 0, .int .i64 0, .int .i64 0] 27) = w1 at *
  refine (vvalid_is a b c true HP.out _).mono ?_
  rintro e_ w2 ⟨rfl, hb⟩
  replace HB := Lib.hid (on_below HB.out hb)
  replace p0 := keepc hb p0
  replace p1 := keepc hb p1
  replace p2 := keepc hb p2
  replace q0 := keepc hb q0
  replace q1 := keepc hb q1
  replace q2 := keepc hb q2
  replace o0 := keepc hb o0
  replace o1 := keepc hb o1
  replace o2 := keepc hb o2
  replace fo0 := keepf hb lo fo0
  replace fo1 := keepf hb lo fo1
  replace fo2 := keepf hb lo fo2
  replace lp := Nat.lt_of_lt_of_le lp hb.size
  replace lq := Nat.lt_of_lt_of_le lq hb.size
  replace lo := Nat.lt_of_lt_of_le lo hb.size
  clear hb
  go_wp2_with fail
  refine (vvalid_is x y z true HQ.out _).mono ?_
  rintro e_ w3 ⟨rfl, hb⟩
  replace HB := Lib.hid (on_below HB.out hb)
  replace p0 := keepc hb p0
  replace p1 := keepc hb p1
  replace p2 := keepc hb p2
  replace q0 := keepc hb q0
  replace q1 := keepc hb q1
  replace q2 := keepc hb q2
  replace o0 := keepc hb o0
  replace o1 := keepc hb o1
  replace o2 := keepc hb o2
  replace fo0 := keepf hb lo fo0
  replace fo1 := keepf hb lo fo1
  replace fo2 := keepf hb lo fo2
  replace lp := Nat.lt_of_lt_of_le lp hb.size
  replace lq := Nat.lt_of_lt_of_le lq hb.size
  replace lo := Nat.lt_of_lt_of_le lo hb.size
  clear hb
  go_wp2_with fail
  have HK := Lib.hid hE
  clear hE
  refine (vcombine_any K HK.out a b c x y z u v t H0.out H1.out H2.out _).mono ?_
  rintro e_ w4 ⟨rfl, hb⟩
  replace HB := Lib.hid (on_below HB.out hb)
  replace p0 := keepc hb p0
  replace p1 := keepc hb p1
  replace p2 := keepc hb p2
  replace q0 := keepc hb q0
  replace q1 := keepc hb q1
  replace q2 := keepc hb q2
  replace o0 := keepc hb o0
  replace o1 := keepc hb o1
  replace o2 := keepc hb o2
  replace fo0 := keepf hb lo fo0
  replace fo1 := keepf hb lo fo1
  replace fo2 := keepf hb lo fo2
  replace lp := Nat.lt_of_lt_of_le lp hb.size
  replace lq := Nat.lt_of_lt_of_le lq hb.size
  replace lo := Nat.lt_of_lt_of_le lo hb.size
  clear hb
  go_wp2_with fail
  have m0 : World.cell? (w4.alloc (.cells #[.int .i64 u, .int .i64 v, .int .i64 t] 157)) ⟨w4.heap.size, 0, none⟩ = some (.int .i64 u) := by simp [go_sem]
  have m1 : World.cell? (w4.alloc (.cells #[.int .i64 u, .int .i64 v, .int .i64 t] 157)) ⟨w4.heap.size, 1, none⟩ = some (.int .i64 v) := by simp [go_sem]
  have m2 : World.cell? (w4.alloc (.cells #[.int .i64 u, .int .i64 v, .int .i64 t] 157)) ⟨w4.heap.size, 2, none⟩ = some (.int .i64 t) := by simp [go_sem]
  have lm : w4.heap.size < (w4.alloc (.cells #[.int .i64 u, .int .i64 v, .int .i64 t] 157)).heap.size := by simp
  have zm : (w4.alloc (.cells #[.int .i64 u, .int .i64 v, .int .i64 t] 157)).heap.size = w4.heap.size + 1 := by simp
  have hb : Below w4.heap.size w4 (w4.alloc (.cells #[.int .i64 u, .int .i64 v, .int .i64 t] 157)) := below_new _ _
  generalize w4.alloc (.cells #[.int .i64 u, .int .i64 v, .int .i64 t] 157) = w5 at *
  replace HB := Lib.hid (on_below HB.out hb)
  replace p0 := keepc hb p0
  replace p1 := keepc hb p1
  replace p2 := keepc hb p2
  replace q0 := keepc hb q0
  replace q1 := keepc hb q1
  replace q2 := keepc hb q2
  replace o0 := keepc hb o0
  replace o1 := keepc hb o1
  replace o2 := keepc hb o2
  replace fo0 := keepf hb lo fo0
  replace fo1 := keepf hb lo fo1
  replace fo2 := keepf hb lo fo2
  replace lp := Nat.lt_of_lt_of_le lp hb.size
  replace lq := Nat.lt_of_lt_of_le lq hb.size
  replace lo := Nat.lt_of_lt_of_le lo hb.size
  clear hb
  generalize w4.heap.size = gm at *
  clear p0 p1 p2 lp q0 q1 q2 lq
  have s0 : World.cell? (w5.alloc (.cells #[.int .i64 u, .int .i64 v, .int .i64 t] 27)) ⟨gm + 1, 0, none⟩ = some (.int .i64 u) := by rw [← zm]; simp [go_sem]
  have s1 : World.cell? (w5.alloc (.cells #[.int .i64 u, .int .i64 v, .int .i64 t] 27)) ⟨gm + 1, 1, none⟩ = some (.int .i64 v) := by rw [← zm]; simp [go_sem]
  have s2 : World.cell? (w5.alloc (.cells #[.int .i64 u, .int .i64 v, .int .i64 t] 27)) ⟨gm + 1, 2, none⟩ = some (.int .i64 t) := by rw [← zm]; simp [go_sem]
  have ls : gm + 1 < (w5.alloc (.cells #[.int .i64 u, .int .i64 v, .int .i64 t] 27)).heap.size := by rw [← zm]; simp
  have hb : Below w5.heap.size w5 (w5.alloc (.cells #[.int .i64 u, .int .i64 v, .int .i64 t] 27)) := below_new _ _
  generalize w5.alloc (.cells #[.int .i64 u, .int .i64 v, .int .i64 t] 27) = w6 at *
  replace HB := Lib.hid (on_below HB.out hb)
  replace o0 := keepc hb o0
  replace o1 := keepc hb o1
  replace o2 := keepc hb o2
  replace m0 := keepc hb m0
  replace m1 := keepc hb m1
  replace m2 := keepc hb m2
  replace fo0 := keepf hb lo fo0
  replace fo1 := keepf hb lo fo1
  replace fo2 := keepf hb lo fo2
  replace lo := Nat.lt_of_lt_of_le lo hb.size
  replace lm := Nat.lt_of_lt_of_le lm hb.size
  clear hb
  clear zm
  have ns : gm < gm + 1 := Nat.lt_succ_self _
  generalize gm + 1 = gs at *
  refine (vvalid_is u v t true HR.out _).mono ?_
  rintro e_ w7 ⟨rfl, hb⟩
  replace HB := Lib.hid (on_below HB.out hb)
  replace o0 := keepc hb o0
  replace o1 := keepc hb o1
  replace o2 := keepc hb o2
  replace m0 := keepc hb m0
  replace m1 := keepc hb m1
  replace m2 := keepc hb m2
  replace s0 := keepc hb s0
  replace s1 := keepc hb s1
  replace s2 := keepc hb s2
  replace fo0 := keepf hb lo fo0
  replace fo1 := keepf hb lo fo1
  replace fo2 := keepf hb lo fo2
  replace lo := Nat.lt_of_lt_of_le lo hb.size
  replace lm := Nat.lt_of_lt_of_le lm hb.size
  replace ls := Nat.lt_of_lt_of_le ls hb.size
  clear hb
  go_wp2_with fail
  refine bodyPost_ret (v := .tuple #[.agg #[.int .i64 u, .int .i64 v, .int .i64 t], .int .i64 0]) (by simp [results, Try.results151, go_sem, o0, o1, o2]) rfl ⟨rfl, ?_⟩
  repeat (refine Below.setCell ?_ (by first | exact Nat.le_refl _ | (simp; done) | (simp; omega) | omega) _)
  exact HB.out
theorem cmb_any (K : FuncId) (hE : ∀ W args, (callFunc K args).run Try.prog W = .ok (.enter K args) W) (a b c x y z u v t U V T E : Int)
    (h : vv a b c = true → vv x y z = true → (∀ W, Calls Try.prog K #[.int .i64 a, .int .i64 x] W fun e w' => e = .returned (.int .i64 u) ∧ W = w') ∧ (∀ W, Calls Try.prog K #[.int .i64 b, .int .i64 y] W fun e w' => e = .returned (.int .i64 v) ∧ W = w') ∧ (∀ W, Calls Try.prog K #[.int .i64 c, .int .i64 z] W fun e w' => e = .returned (.int .i64 t) ∧ W = w'))
    (hEr : sE (vv a b c) (vv x y z) (vv u v t) = E) (hU : kp E u = U) (hV : kp E v = V) (hT : kp E t = T) (w : World) :
    Calls Try.prog 151 #[.agg #[.int .i64 a, .int .i64 b, .int .i64 c], .agg #[.int .i64 x, .int .i64 y, .int .i64 z], .func (.func K) #[] #[]] w fun e w' => e = .returned (.tuple #[.agg #[.int .i64 U, .int .i64 V, .int .i64 T], .int .i64 E]) ∧ Below w.heap.size w w' := by
  subst hU hV hT hEr
  cases hp : vv a b c
  · exact cmb_1 K hE a b c x y z u v t hp w
  · cases hq : vv x y z
    · exact cmb_2 K hE a b c x y z u v t hp hq w
    · obtain ⟨h0, h1, h2⟩ := h hp hq
      cases hr : vv u v t
      · exact cmb_3 K hE a b c x y z u v t hp hq hr h0 h1 h2 w
      · exact cmb_4 K hE a b c x y z u v t hp hq hr h0 h1 h2 w
set_option maxRecDepth 100000 in
set_option maxHeartbeats 2000000 in
theorem add_is (a b c x y z U V T E : Int) (hE : sE (vv a b c) (vv x y z) (vv (a + x) (b + y) (c + z)) = E) (hU : kp E (a + x) = U) (hV : kp E (b + y) = V) (hT : kp E (c + z) = T) (w : World) :
    Calls Try.prog 150 #[.agg #[.int .i64 a, .int .i64 b, .int .i64 c], .agg #[.int .i64 x, .int .i64 y, .int .i64 z]] w fun e w' => e = .returned (.tuple #[.agg #[.int .i64 U, .int .i64 V, .int .i64 T], .int .i64 E]) ∧ Below w.heap.size w w' := by
  have hc : ∀ W, Calls Try.prog 151 #[.agg #[.int .i64 a, .int .i64 b, .int .i64 c], .agg #[.int .i64 x, .int .i64 y, .int .i64 z], .func (.func 179) #[] #[]] W fun e w' => e = .returned (.tuple #[.agg #[.int .i64 U, .int .i64 V, .int .i64 T], .int .i64 E]) ∧ Below W.heap.size W w' := fun W => cmb_any 179 vplus_enter a b c x y z _ _ _ U V T E (fun hp hq => by
    have h1 := vv_iff.1 hp
    have h2 := vv_iff.1 hq
    obtain ⟨⟨_, _⟩, ⟨_, _⟩, ⟨_, _⟩⟩ := h1
    obtain ⟨⟨_, _⟩, ⟨_, _⟩, ⟨_, _⟩⟩ := h2
    exact ⟨vplus_any a x ⟨by omega, by omega⟩, vplus_any b y ⟨by omega, by omega⟩, vplus_any c z ⟨by omega, by omega⟩⟩) hE hU hV hT W
  clear hE hU hV hT
  have HC := Lib.hid hc
  clear hc
  have p0 : World.cell? (((w.alloc (.cells #[.int .i64 a, .int .i64 b, .int .i64 c] 27)).alloc (.cells #[.int .i64 x, .int .i64 y, .int .i64 z] 27)).alloc (.cells #[.int .i64 0, .int .i64 0, .int .i64 0] 27)) ⟨w.heap.size, 0, none⟩ = some (.int .i64 a) := by simp [go_sem]
  have p1 : World.cell? (((w.alloc (.cells #[.int .i64 a, .int .i64 b, .int .i64 c] 27)).alloc (.cells #[.int .i64 x, .int .i64 y, .int .i64 z] 27)).alloc (.cells #[.int .i64 0, .int .i64 0, .int .i64 0] 27)) ⟨w.heap.size, 1, none⟩ = some (.int .i64 b) := by simp [go_sem]
  have p2 : World.cell? (((w.alloc (.cells #[.int .i64 a, .int .i64 b, .int .i64 c] 27)).alloc (.cells #[.int .i64 x, .int .i64 y, .int .i64 z] 27)).alloc (.cells #[.int .i64 0, .int .i64 0, .int .i64 0] 27)) ⟨w.heap.size, 2, none⟩ = some (.int .i64 c) := by simp [go_sem]
  have lp : w.heap.size < (((w.alloc (.cells #[.int .i64 a, .int .i64 b, .int .i64 c] 27)).alloc (.cells #[.int .i64 x, .int .i64 y, .int .i64 z] 27)).alloc (.cells #[.int .i64 0, .int .i64 0, .int .i64 0] 27)).heap.size := by simp <;> omega
  have q0 : World.cell? (((w.alloc (.cells #[.int .i64 a, .int .i64 b, .int .i64 c] 27)).alloc (.cells #[.int .i64 x, .int .i64 y, .int .i64 z] 27)).alloc (.cells #[.int .i64 0, .int .i64 0, .int .i64 0] 27)) ⟨w.heap.size + 1, 0, none⟩ = some (.int .i64 x) := by simp [go_sem]
  have q1 : World.cell? (((w.alloc (.cells #[.int .i64 a, .int .i64 b, .int .i64 c] 27)).alloc (.cells #[.int .i64 x, .int .i64 y, .int .i64 z] 27)).alloc (.cells #[.int .i64 0, .int .i64 0, .int .i64 0] 27)) ⟨w.heap.size + 1, 1, none⟩ = some (.int .i64 y) := by simp [go_sem]
  have q2 : World.cell? (((w.alloc (.cells #[.int .i64 a, .int .i64 b, .int .i64 c] 27)).alloc (.cells #[.int .i64 x, .int .i64 y, .int .i64 z] 27)).alloc (.cells #[.int .i64 0, .int .i64 0, .int .i64 0] 27)) ⟨w.heap.size + 1, 2, none⟩ = some (.int .i64 z) := by simp [go_sem]
  have lq : w.heap.size + 1 < (((w.alloc (.cells #[.int .i64 a, .int .i64 b, .int .i64 c] 27)).alloc (.cells #[.int .i64 x, .int .i64 y, .int .i64 z] 27)).alloc (.cells #[.int .i64 0, .int .i64 0, .int .i64 0] 27)).heap.size := by simp <;> omega
  have o0 : World.cell? (((w.alloc (.cells #[.int .i64 a, .int .i64 b, .int .i64 c] 27)).alloc (.cells #[.int .i64 x, .int .i64 y, .int .i64 z] 27)).alloc (.cells #[.int .i64 0, .int .i64 0, .int .i64 0] 27)) ⟨w.heap.size + 1 + 1, 0, none⟩ = some (.int .i64 0) := by simp [go_sem]
  have fo0 : World.frozen? (((w.alloc (.cells #[.int .i64 a, .int .i64 b, .int .i64 c] 27)).alloc (.cells #[.int .i64 x, .int .i64 y, .int .i64 z] 27)).alloc (.cells #[.int .i64 0, .int .i64 0, .int .i64 0] 27)) ⟨w.heap.size + 1 + 1, 0, none⟩ = false := by simp [go_sem]
  have o1 : World.cell? (((w.alloc (.cells #[.int .i64 a, .int .i64 b, .int .i64 c] 27)).alloc (.cells #[.int .i64 x, .int .i64 y, .int .i64 z] 27)).alloc (.cells #[.int .i64 0, .int .i64 0, .int .i64 0] 27)) ⟨w.heap.size + 1 + 1, 1, none⟩ = some (.int .i64 0) := by simp [go_sem]
  have fo1 : World.frozen? (((w.alloc (.cells #[.int .i64 a, .int .i64 b, .int .i64 c] 27)).alloc (.cells #[.int .i64 x, .int .i64 y, .int .i64 z] 27)).alloc (.cells #[.int .i64 0, .int .i64 0, .int .i64 0] 27)) ⟨w.heap.size + 1 + 1, 1, none⟩ = false := by simp [go_sem]
  have o2 : World.cell? (((w.alloc (.cells #[.int .i64 a, .int .i64 b, .int .i64 c] 27)).alloc (.cells #[.int .i64 x, .int .i64 y, .int .i64 z] 27)).alloc (.cells #[.int .i64 0, .int .i64 0, .int .i64 0] 27)) ⟨w.heap.size + 1 + 1, 2, none⟩ = some (.int .i64 0) := by simp [go_sem]
  have fo2 : World.frozen? (((w.alloc (.cells #[.int .i64 a, .int .i64 b, .int .i64 c] 27)).alloc (.cells #[.int .i64 x, .int .i64 y, .int .i64 z] 27)).alloc (.cells #[.int .i64 0, .int .i64 0, .int .i64 0] 27)) ⟨w.heap.size + 1 + 1, 2, none⟩ = false := by simp [go_sem]
  have lo : w.heap.size + 1 + 1 < (((w.alloc (.cells #[.int .i64 a, .int .i64 b, .int .i64 c] 27)).alloc (.cells #[.int .i64 x, .int .i64 y, .int .i64 z] 27)).alloc (.cells #[.int .i64 0, .int .i64 0, .int .i64 0] 27)).heap.size := by simp <;> omega
  have HB := Lib.hid (show Below w.heap.size w (((w.alloc (.cells #[.int .i64 a, .int .i64 b, .int .i64 c] 27)).alloc (.cells #[.int .i64 x, .int .i64 y, .int .i64 z] 27)).alloc (.cells #[.int .i64 0, .int .i64 0, .int .i64 0] 27)) from ((((Below.refl _ _).alloc (by simp <;> omega) _).alloc (by simp <;> omega) _).alloc (by simp <;> omega) _))
  go_enter Try.func150, Try.ntmps150
  go_wp2_with fail
  generalize ((w.alloc (.cells #[.int .i64 a, .int .i64 b, .int .i64 c] 27)).alloc (.cells #[.int .i64 x, .int .i64 y, .int .i64 z] 27)).alloc (.cells #[.int .i64 0, .int .i64 0, .int .i64 0] 27) = w1 at *
  refine (HC.out _).mono ?_
  rintro e_ w2 ⟨rfl, hb⟩
  replace HB := Lib.hid (on_below HB.out hb)
  replace p0 := keepc hb p0
  replace p1 := keepc hb p1
  replace p2 := keepc hb p2
  replace q0 := keepc hb q0
  replace q1 := keepc hb q1
  replace q2 := keepc hb q2
  replace o0 := keepc hb o0
  replace o1 := keepc hb o1
  replace o2 := keepc hb o2
  replace fo0 := keepf hb lo fo0
  replace fo1 := keepf hb lo fo1
  replace fo2 := keepf hb lo fo2
  replace lp := Nat.lt_of_lt_of_le lp hb.size
  replace lq := Nat.lt_of_lt_of_le lq hb.size
  replace lo := Nat.lt_of_lt_of_le lo hb.size
  clear hb
  go_wp2_with fail
  refine bodyPost_ret (v := .tuple #[.agg #[.int .i64 U, .int .i64 V, .int .i64 T], .int .i64 E]) (by simp [results, Try.results150, go_sem, o0, o1, o2]) rfl ⟨rfl, ?_⟩
  repeat (refine Below.setCell ?_ (by first | exact Nat.le_refl _ | (simp; done) | (simp; omega) | omega) _)
  exact HB.out





end Go.Proofs.Ytgjcmolocoijiaa
