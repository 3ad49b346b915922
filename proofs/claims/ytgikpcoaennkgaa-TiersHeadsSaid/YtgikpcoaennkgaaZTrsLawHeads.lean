/-
  TiersHeads.
-/
import Derived.Test.YtgikpcoaennkgaaZTrsX
import Derived.Test.YtgikpcoaennkgaaRows
import Derived.ProofKit
import Derived.OpenShut
import Derived.Deep.DeepHandedRow
import Derived.Deep.DeepWitnessRowRef
import Derived.MakeChecks
import Derived.Deep.DeepCutAuto
import Derived.Test.YtgikpcoaennkgaaZShpPH
import Derived.Test.YtgikpcoaennkgaaZShpPN
import Derived.Deep.QuietTactic
import Derived.BigQuiet
namespace Go.Proofs.Ytgikpcoaennkgaa.LawHeads
open Go.RowKit Go.Sort
open Go.RowKit (Below)
set_option linter.unusedVariables false
set_option linter.unusedSimpArgs false
attribute [local go_sem] Oper.semAt_some

theorem hdr_zero {p : Pl} {h : Int} (e : HdR p h 0) : Hda p h ∧ Bok (hpt p) (p.ez - 2) (p.ez + h) := by
  rcases e with ⟨_, e⟩ | ⟨_, _, e⟩ | ⟨a, b, _⟩
  · cases e
  · cases e
  · exact ⟨a, b⟩
theorem hd_u (p : Pl) (h E : Int) (hE : HdR p h E) (w : World) : Calls Try.prog 18 #[.agg #[.int .i64 p.id, .int .i64 p.row, .int .i64 p.pos, .int .i64 p.ex, .int .i64 p.ey, .int .i64 p.ez, .int .i64 p.kd], .int .i64 h] w fun e_ w' => ∃ A n C lo hi, e_ = .returned (.tuple #[.agg #[.slice A n C, .int .i64 lo, .int .i64 hi], .int .i64 E]) ∧ Below w.heap.size w w' :=
  (thd_is p h E hE w).mono fun e w' ⟨h1, hb⟩ => by
    rcases h1 with ⟨_, he⟩ | ⟨rfl, g, _, he, _⟩
    · exact ⟨_, _, _, _, _, he, hb⟩
    · exact ⟨_, _, _, _, _, he, hb⟩
theorem hd_g (p : Pl) (h : Int) (hE : HdR p h 0) (w : World) : Calls Try.prog 18 #[.agg #[.int .i64 p.id, .int .i64 p.row, .int .i64 p.pos, .int .i64 p.ex, .int .i64 p.ey, .int .i64 p.ez, .int .i64 p.kd], .int .i64 h] w fun e_ w' => ∃ g, e_ = .returned (.tuple #[.agg #[.slice (some ⟨g, 0, none⟩) 4 4, .int .i64 (p.ez - 2), .int .i64 (p.ez + h)], .int .i64 0]) ∧ SlS w' (some ⟨g, 0, none⟩) (hpt p) ∧ Below w.heap.size w w' :=
  (thd_is p h 0 hE w).mono fun e w' ⟨h1, hb⟩ => by
    rcases h1 with ⟨h0, _⟩ | ⟨_, g, _, he, hs⟩
    · exact absurd rfl h0
    · exact ⟨g, he, hs, hb⟩
theorem hp_in (p : Pl) (h : Int) : InB (hpt p) (p.ez - 2) (p.ez + h) p.ex p.ey p.ez ↔ 0 < h := by
  constructor
  · rintro ⟨_, _, h2⟩; omega
  · intro h0
    refine ⟨fun i hi => four (P := fun i => 0 < crs (px (hpt p) i) (py (hpt p) i) (px (hpt p) (nx 4 i)) (py (hpt p) (nx 4 i)) p.ex p.ey) ?_ ?_ ?_ ?_ i hi, by omega, by omega⟩
    · show 0 < crs (p.ex - 2) (p.ey - 2) (p.ex + 2) (p.ey - 2) p.ex p.ey
      rw [show crs (p.ex - 2) (p.ey - 2) (p.ex + 2) (p.ey - 2) p.ex p.ey = 8 by unfold crs; grind]; decide
    · show 0 < crs (p.ex + 2) (p.ey - 2) (p.ex + 2) (p.ey + 2) p.ex p.ey
      rw [show crs (p.ex + 2) (p.ey - 2) (p.ex + 2) (p.ey + 2) p.ex p.ey = 8 by unfold crs; grind]; decide
    · show 0 < crs (p.ex + 2) (p.ey + 2) (p.ex - 2) (p.ey + 2) p.ex p.ey
      rw [show crs (p.ex + 2) (p.ey + 2) (p.ex - 2) (p.ey + 2) p.ex p.ey = 8 by unfold crs; grind]; decide
    · show 0 < crs (p.ex - 2) (p.ey + 2) (p.ex - 2) (p.ey - 2) p.ex p.ey
      rw [show crs (p.ex - 2) (p.ey + 2) (p.ex - 2) (p.ey - 2) p.ex p.ey = 8 by unfold crs; grind]; decide
theorem par_no (p : Pl) : ¬ Par (hpt p) (hpt p) := by
  rintro ⟨i, hi, h⟩
  revert h
  refine four (P := fun i => ¬ ∀ j, j < (hpt p).length → crs (px (hpt p) i) (py (hpt p) i) (px (hpt p) (nx 4 i)) (py (hpt p) (nx 4 i)) (px (hpt p) j) (py (hpt p) j) ≤ 0) ?_ ?_ ?_ ?_ i hi
  · intro h
    have : crs (p.ex - 2) (p.ey - 2) (p.ex + 2) (p.ey - 2) (p.ex + 2) (p.ey + 2) ≤ 0 := h 2 (show (2 : Nat) < 4 by decide)
    rw [show crs (p.ex - 2) (p.ey - 2) (p.ex + 2) (p.ey - 2) (p.ex + 2) (p.ey + 2) = 16 by unfold crs; grind] at this
    omega
  · intro h
    have : crs (p.ex + 2) (p.ey - 2) (p.ex + 2) (p.ey + 2) (p.ex - 2) (p.ey + 2) ≤ 0 := h 3 (show (3 : Nat) < 4 by decide)
    rw [show crs (p.ex + 2) (p.ey - 2) (p.ex + 2) (p.ey + 2) (p.ex - 2) (p.ey + 2) = 16 by unfold crs; grind] at this
    omega
  · intro h
    have : crs (p.ex + 2) (p.ey + 2) (p.ex - 2) (p.ey + 2) (p.ex - 2) (p.ey - 2) ≤ 0 := h 0 (show (0 : Nat) < 4 by decide)
    rw [show crs (p.ex + 2) (p.ey + 2) (p.ex - 2) (p.ey + 2) (p.ex - 2) (p.ey - 2) = 16 by unfold crs; grind] at this
    omega
  · intro h
    have : crs (p.ex - 2) (p.ey + 2) (p.ex - 2) (p.ey - 2) (p.ex + 2) (p.ey - 2) ≤ 0 := h 1 (show (1 : Nat) < 4 by decide)
    rw [show crs (p.ex - 2) (p.ey + 2) (p.ex - 2) (p.ey - 2) (p.ex + 2) (p.ey - 2) = 16 by unfold crs; grind] at this
    omega
theorem apa_no (p : Pl) {a b : Int} (ha : 0 ≤ a) (hb : 0 ≤ b) : ¬ Apa (hpt p) (p.ez - 2) (p.ez + a) (hpt p) (p.ez - 2) (p.ez + b) := by
  rintro (h | h | h | h)
  · omega
  · omega
  · exact par_no p h
  · exact par_no p h
/-- The corners of a head lie near its eye. -/
theorem hp_near (q : Pl) (j : Nat) (hj : j < (hpt q).length) : (q.ex - 2 ≤ px (hpt q) j ∧ px (hpt q) j ≤ q.ex + 2) ∧ (q.ey - 2 ≤ py (hpt q) j ∧ py (hpt q) j ≤ q.ey + 2) := by
  refine four (P := fun j => (q.ex - 2 ≤ px (hpt q) j ∧ px (hpt q) j ≤ q.ex + 2) ∧ (q.ey - 2 ≤ py (hpt q) j ∧ py (hpt q) j ≤ q.ey + 2)) ?_ ?_ ?_ ?_ j hj
  · show (q.ex - 2 ≤ q.ex - 2 ∧ q.ex - 2 ≤ q.ex + 2) ∧ (q.ey - 2 ≤ q.ey - 2 ∧ q.ey - 2 ≤ q.ey + 2)
    omega
  · show (q.ex - 2 ≤ q.ex + 2 ∧ q.ex + 2 ≤ q.ex + 2) ∧ (q.ey - 2 ≤ q.ey - 2 ∧ q.ey - 2 ≤ q.ey + 2)
    omega
  · show (q.ex - 2 ≤ q.ex + 2 ∧ q.ex + 2 ≤ q.ex + 2) ∧ (q.ey - 2 ≤ q.ey + 2 ∧ q.ey + 2 ≤ q.ey + 2)
    omega
  · show (q.ex - 2 ≤ q.ex - 2 ∧ q.ex - 2 ≤ q.ex + 2) ∧ (q.ey - 2 ≤ q.ey + 2 ∧ q.ey + 2 ≤ q.ey + 2)
    omega
theorem apa_far (p q : Pl) {a b : Int} (h : ¬ Apa (hpt p) (p.ez - 2) (p.ez + a) (hpt q) (q.ez - 2) (q.ez + b)) : (-4 < p.ex - q.ex ∧ p.ex - q.ex < 4) ∧ (-4 < p.ey - q.ey ∧ p.ey - q.ey < 4) := by
  refine ⟨⟨?_, ?_⟩, ?_, ?_⟩
  · refine Decidable.byContradiction fun c => h (.inr (.inr (.inl ⟨1, (show (1 : Nat) < 4 by decide), fun j hj => ?_⟩)))
    obtain ⟨⟨h1, h2⟩, h3, h4⟩ := hp_near q j hj
    show crs (p.ex + 2) (p.ey - 2) (p.ex + 2) (p.ey + 2) _ _ ≤ 0
    rw [show ∀ u v, crs (p.ex + 2) (p.ey - 2) (p.ex + 2) (p.ey + 2) u v = -(4 * (u - (p.ex + 2))) by intro u v; unfold crs; grind]
    omega
  · refine Decidable.byContradiction fun c => h (.inr (.inr (.inl ⟨3, (show (3 : Nat) < 4 by decide), fun j hj => ?_⟩)))
    obtain ⟨⟨h1, h2⟩, h3, h4⟩ := hp_near q j hj
    show crs (p.ex - 2) (p.ey + 2) (p.ex - 2) (p.ey - 2) _ _ ≤ 0
    rw [show ∀ u v, crs (p.ex - 2) (p.ey + 2) (p.ex - 2) (p.ey - 2) u v = 4 * (u - (p.ex - 2)) by intro u v; unfold crs; grind]
    omega
  · refine Decidable.byContradiction fun c => h (.inr (.inr (.inl ⟨2, (show (2 : Nat) < 4 by decide), fun j hj => ?_⟩)))
    obtain ⟨⟨h1, h2⟩, h3, h4⟩ := hp_near q j hj
    show crs (p.ex + 2) (p.ey + 2) (p.ex - 2) (p.ey + 2) _ _ ≤ 0
    rw [show ∀ u v, crs (p.ex + 2) (p.ey + 2) (p.ex - 2) (p.ey + 2) u v = -(4 * (v - (p.ey + 2))) by intro u v; unfold crs; grind]
    omega
  · refine Decidable.byContradiction fun c => h (.inr (.inr (.inl ⟨0, (show (0 : Nat) < 4 by decide), fun j hj => ?_⟩)))
    obtain ⟨⟨h1, h2⟩, h3, h4⟩ := hp_near q j hj
    show crs (p.ex - 2) (p.ey - 2) (p.ex + 2) (p.ey - 2) _ _ ≤ 0
    rw [show ∀ u v, crs (p.ex - 2) (p.ey - 2) (p.ex + 2) (p.ey - 2) u v = 4 * (v - (p.ey - 2)) by intro u v; unfold crs; grind]
    omega
theorem vv_three {x y z : Int} (h : vv x y z = true) : V3 x y z := vv_iff.1 h
theorem hin_is (p : Pl) (one : Int) (e : HdR p one 0) (r : Bool) (hr : r = true ↔ 0 < one) (g : Nat) (w : World) (h : SlS w (some ⟨g, 0, none⟩) (hpt p)) :
    Calls Try.prog 19 #[.agg #[.slice (some ⟨g, 0, none⟩) 4 4, .int .i64 (p.ez - 2), .int .i64 (p.ez + one)], .agg #[.int .i64 p.ex, .int .i64 p.ey, .int .i64 p.ez]] w fun e_ w' => e_ = .returned (.tuple #[.bool r, .int .i64 0]) ∧ Below w.heap.size w w' :=
  pinside_is (some ⟨g, 0, none⟩) 4 (hpt p) (p.ez - 2) (p.ez + one) p.ex p.ey p.ez (show (4 : Nat) ≤ 9223372036854775806 by decide) r 0 (.inl ⟨(hdr_zero e).2, vv_three (hdr_zero e).1.1, rfl, hr.trans (hp_in p one).symm⟩) w h
theorem hap_is (p q : Pl) (one two : Int) (e : HdR p one 0) (f : HdR q two 0) (r : Bool) (hr : r = true ↔ Apa (hpt p) (p.ez - 2) (p.ez + one) (hpt q) (q.ez - 2) (q.ez + two)) (g g2 : Nat) (w : World) (h : SlS w (some ⟨g, 0, none⟩) (hpt p)) (h2 : SlS w (some ⟨g2, 0, none⟩) (hpt q)) :
    Calls Try.prog 20 #[.agg #[.slice (some ⟨g, 0, none⟩) 4 4, .int .i64 (p.ez - 2), .int .i64 (p.ez + one)], .agg #[.slice (some ⟨g2, 0, none⟩) 4 4, .int .i64 (q.ez - 2), .int .i64 (q.ez + two)]] w fun e_ w' => e_ = .returned (.tuple #[.bool r, .int .i64 0]) ∧ Below w.heap.size w w' :=
  papart_is (some ⟨g, 0, none⟩) (some ⟨g2, 0, none⟩) 4 4 (hpt p) (hpt q) (p.ez - 2) (p.ez + one) (q.ez - 2) (q.ez + two) (show (4 : Nat) ≤ 9223372036854775806 by decide) (show (4 : Nat) ≤ 9223372036854775806 by decide) r 0 (.inl ⟨(hdr_zero e).2, (hdr_zero f).2, rfl, hr⟩) w h h2
set_option maxRecDepth 100000 in
set_option maxHeartbeats 4000000 in
theorem hds_f1 (p q : Pl) (one two : Int) (E1 E2 E3 : Int) (e1 : HdR p one E1) (e2 : HdR q two E2) (e3 : HdR p two E3) (h0 : E1 ≠ 0) (w : World) :
    Calls Try.prog 8 #[.agg #[.int .i64 p.id, .int .i64 p.row, .int .i64 p.pos, .int .i64 p.ex, .int .i64 p.ey, .int .i64 p.ez, .int .i64 p.kd], .agg #[.int .i64 q.id, .int .i64 q.row, .int .i64 q.pos, .int .i64 q.ex, .int .i64 q.ey, .int .i64 q.ez, .int .i64 q.kd], .int .i64 one, .int .i64 two] w fun e_ w' => e_ = .returned (.bool true) ∧ Below w.heap.size w w' := by
  have CA := Lib.hid (hd_u p one _ e1)
  have CB := Lib.hid (hd_u q two _ e2)
  have CC := Lib.hid (hd_u p two _ e3)
  have z0 : (E1 != 0) = true := by simp [h0]
  clear e1 e2 e3 h0
  have p0 : World.cell? ((w.alloc (.cells #[.int .i64 (p.id), .int .i64 (p.row), .int .i64 (p.pos), .int .i64 (p.ex), .int .i64 (p.ey), .int .i64 (p.ez), .int .i64 (p.kd)] 28)).alloc (.cells #[.int .i64 (q.id), .int .i64 (q.row), .int .i64 (q.pos), .int .i64 (q.ex), .int .i64 (q.ey), .int .i64 (q.ez), .int .i64 (q.kd)] 28)) ⟨w.heap.size, 0, none⟩ = some (.int .i64 (p.id)) := by simp [go_sem]
  have p1 : World.cell? ((w.alloc (.cells #[.int .i64 (p.id), .int .i64 (p.row), .int .i64 (p.pos), .int .i64 (p.ex), .int .i64 (p.ey), .int .i64 (p.ez), .int .i64 (p.kd)] 28)).alloc (.cells #[.int .i64 (q.id), .int .i64 (q.row), .int .i64 (q.pos), .int .i64 (q.ex), .int .i64 (q.ey), .int .i64 (q.ez), .int .i64 (q.kd)] 28)) ⟨w.heap.size, 1, none⟩ = some (.int .i64 (p.row)) := by simp [go_sem]
  have p2 : World.cell? ((w.alloc (.cells #[.int .i64 (p.id), .int .i64 (p.row), .int .i64 (p.pos), .int .i64 (p.ex), .int .i64 (p.ey), .int .i64 (p.ez), .int .i64 (p.kd)] 28)).alloc (.cells #[.int .i64 (q.id), .int .i64 (q.row), .int .i64 (q.pos), .int .i64 (q.ex), .int .i64 (q.ey), .int .i64 (q.ez), .int .i64 (q.kd)] 28)) ⟨w.heap.size, 2, none⟩ = some (.int .i64 (p.pos)) := by simp [go_sem]
  have p3 : World.cell? ((w.alloc (.cells #[.int .i64 (p.id), .int .i64 (p.row), .int .i64 (p.pos), .int .i64 (p.ex), .int .i64 (p.ey), .int .i64 (p.ez), .int .i64 (p.kd)] 28)).alloc (.cells #[.int .i64 (q.id), .int .i64 (q.row), .int .i64 (q.pos), .int .i64 (q.ex), .int .i64 (q.ey), .int .i64 (q.ez), .int .i64 (q.kd)] 28)) ⟨w.heap.size, 3, none⟩ = some (.int .i64 (p.ex)) := by simp [go_sem]
  have p4 : World.cell? ((w.alloc (.cells #[.int .i64 (p.id), .int .i64 (p.row), .int .i64 (p.pos), .int .i64 (p.ex), .int .i64 (p.ey), .int .i64 (p.ez), .int .i64 (p.kd)] 28)).alloc (.cells #[.int .i64 (q.id), .int .i64 (q.row), .int .i64 (q.pos), .int .i64 (q.ex), .int .i64 (q.ey), .int .i64 (q.ez), .int .i64 (q.kd)] 28)) ⟨w.heap.size, 4, none⟩ = some (.int .i64 (p.ey)) := by simp [go_sem]
  have p5 : World.cell? ((w.alloc (.cells #[.int .i64 (p.id), .int .i64 (p.row), .int .i64 (p.pos), .int .i64 (p.ex), .int .i64 (p.ey), .int .i64 (p.ez), .int .i64 (p.kd)] 28)).alloc (.cells #[.int .i64 (q.id), .int .i64 (q.row), .int .i64 (q.pos), .int .i64 (q.ex), .int .i64 (q.ey), .int .i64 (q.ez), .int .i64 (q.kd)] 28)) ⟨w.heap.size, 5, none⟩ = some (.int .i64 (p.ez)) := by simp [go_sem]
  have p6 : World.cell? ((w.alloc (.cells #[.int .i64 (p.id), .int .i64 (p.row), .int .i64 (p.pos), .int .i64 (p.ex), .int .i64 (p.ey), .int .i64 (p.ez), .int .i64 (p.kd)] 28)).alloc (.cells #[.int .i64 (q.id), .int .i64 (q.row), .int .i64 (q.pos), .int .i64 (q.ex), .int .i64 (q.ey), .int .i64 (q.ez), .int .i64 (q.kd)] 28)) ⟨w.heap.size, 6, none⟩ = some (.int .i64 (p.kd)) := by simp [go_sem]
  have lp : w.heap.size < ((w.alloc (.cells #[.int .i64 (p.id), .int .i64 (p.row), .int .i64 (p.pos), .int .i64 (p.ex), .int .i64 (p.ey), .int .i64 (p.ez), .int .i64 (p.kd)] 28)).alloc (.cells #[.int .i64 (q.id), .int .i64 (q.row), .int .i64 (q.pos), .int .i64 (q.ex), .int .i64 (q.ey), .int .i64 (q.ez), .int .i64 (q.kd)] 28)).heap.size := by simp <;> omega
  have q0 : World.cell? ((w.alloc (.cells #[.int .i64 (p.id), .int .i64 (p.row), .int .i64 (p.pos), .int .i64 (p.ex), .int .i64 (p.ey), .int .i64 (p.ez), .int .i64 (p.kd)] 28)).alloc (.cells #[.int .i64 (q.id), .int .i64 (q.row), .int .i64 (q.pos), .int .i64 (q.ex), .int .i64 (q.ey), .int .i64 (q.ez), .int .i64 (q.kd)] 28)) ⟨w.heap.size + 1, 0, none⟩ = some (.int .i64 (q.id)) := by simp [go_sem]
  have q1 : World.cell? ((w.alloc (.cells #[.int .i64 (p.id), .int .i64 (p.row), .int .i64 (p.pos), .int .i64 (p.ex), .int .i64 (p.ey), .int .i64 (p.ez), .int .i64 (p.kd)] 28)).alloc (.cells #[.int .i64 (q.id), .int .i64 (q.row), .int .i64 (q.pos), .int .i64 (q.ex), .int .i64 (q.ey), .int .i64 (q.ez), .int .i64 (q.kd)] 28)) ⟨w.heap.size + 1, 1, none⟩ = some (.int .i64 (q.row)) := by simp [go_sem]
  have q2 : World.cell? ((w.alloc (.cells #[.int .i64 (p.id), .int .i64 (p.row), .int .i64 (p.pos), .int .i64 (p.ex), .int .i64 (p.ey), .int .i64 (p.ez), .int .i64 (p.kd)] 28)).alloc (.cells #[.int .i64 (q.id), .int .i64 (q.row), .int .i64 (q.pos), .int .i64 (q.ex), .int .i64 (q.ey), .int .i64 (q.ez), .int .i64 (q.kd)] 28)) ⟨w.heap.size + 1, 2, none⟩ = some (.int .i64 (q.pos)) := by simp [go_sem]
  have q3 : World.cell? ((w.alloc (.cells #[.int .i64 (p.id), .int .i64 (p.row), .int .i64 (p.pos), .int .i64 (p.ex), .int .i64 (p.ey), .int .i64 (p.ez), .int .i64 (p.kd)] 28)).alloc (.cells #[.int .i64 (q.id), .int .i64 (q.row), .int .i64 (q.pos), .int .i64 (q.ex), .int .i64 (q.ey), .int .i64 (q.ez), .int .i64 (q.kd)] 28)) ⟨w.heap.size + 1, 3, none⟩ = some (.int .i64 (q.ex)) := by simp [go_sem]
  have q4 : World.cell? ((w.alloc (.cells #[.int .i64 (p.id), .int .i64 (p.row), .int .i64 (p.pos), .int .i64 (p.ex), .int .i64 (p.ey), .int .i64 (p.ez), .int .i64 (p.kd)] 28)).alloc (.cells #[.int .i64 (q.id), .int .i64 (q.row), .int .i64 (q.pos), .int .i64 (q.ex), .int .i64 (q.ey), .int .i64 (q.ez), .int .i64 (q.kd)] 28)) ⟨w.heap.size + 1, 4, none⟩ = some (.int .i64 (q.ey)) := by simp [go_sem]
  have q5 : World.cell? ((w.alloc (.cells #[.int .i64 (p.id), .int .i64 (p.row), .int .i64 (p.pos), .int .i64 (p.ex), .int .i64 (p.ey), .int .i64 (p.ez), .int .i64 (p.kd)] 28)).alloc (.cells #[.int .i64 (q.id), .int .i64 (q.row), .int .i64 (q.pos), .int .i64 (q.ex), .int .i64 (q.ey), .int .i64 (q.ez), .int .i64 (q.kd)] 28)) ⟨w.heap.size + 1, 5, none⟩ = some (.int .i64 (q.ez)) := by simp [go_sem]
  have q6 : World.cell? ((w.alloc (.cells #[.int .i64 (p.id), .int .i64 (p.row), .int .i64 (p.pos), .int .i64 (p.ex), .int .i64 (p.ey), .int .i64 (p.ez), .int .i64 (p.kd)] 28)).alloc (.cells #[.int .i64 (q.id), .int .i64 (q.row), .int .i64 (q.pos), .int .i64 (q.ex), .int .i64 (q.ey), .int .i64 (q.ez), .int .i64 (q.kd)] 28)) ⟨w.heap.size + 1, 6, none⟩ = some (.int .i64 (q.kd)) := by simp [go_sem]
  have lq : w.heap.size + 1 < ((w.alloc (.cells #[.int .i64 (p.id), .int .i64 (p.row), .int .i64 (p.pos), .int .i64 (p.ex), .int .i64 (p.ey), .int .i64 (p.ez), .int .i64 (p.kd)] 28)).alloc (.cells #[.int .i64 (q.id), .int .i64 (q.row), .int .i64 (q.pos), .int .i64 (q.ex), .int .i64 (q.ey), .int .i64 (q.ez), .int .i64 (q.kd)] 28)).heap.size := by simp <;> omega
  have HB := Lib.hid (show Below w.heap.size w ((w.alloc (.cells #[.int .i64 (p.id), .int .i64 (p.row), .int .i64 (p.pos), .int .i64 (p.ex), .int .i64 (p.ey), .int .i64 (p.ez), .int .i64 (p.kd)] 28)).alloc (.cells #[.int .i64 (q.id), .int .i64 (q.row), .int .i64 (q.pos), .int .i64 (q.ex), .int .i64 (q.ey), .int .i64 (q.ez), .int .i64 (q.kd)] 28)) from (((Below.refl _ _).alloc (by simp <;> omega) _).alloc (by simp <;> omega) _))
  go_enter Try.func8, Try.ntmps8
  go_wp2_with fail
  generalize (w.alloc (.cells #[.int .i64 (p.id), .int .i64 (p.row), .int .i64 (p.pos), .int .i64 (p.ex), .int .i64 (p.ey), .int .i64 (p.ez), .int .i64 (p.kd)] 28)).alloc (.cells #[.int .i64 (q.id), .int .i64 (q.row), .int .i64 (q.pos), .int .i64 (q.ex), .int .i64 (q.ey), .int .i64 (q.ez), .int .i64 (q.kd)] 28) = w1 at *
  with_reducible refine (head12_any _).mono ?_
  rintro e_ w2 ⟨rfl, hb⟩
  replace HB := Lib.hid (on_below HB.out hb)
  replace p0 := keepc hb p0
  replace p1 := keepc hb p1
  replace p2 := keepc hb p2
  replace p3 := keepc hb p3
  replace p4 := keepc hb p4
  replace p5 := keepc hb p5
  replace p6 := keepc hb p6
  replace q0 := keepc hb q0
  replace q1 := keepc hb q1
  replace q2 := keepc hb q2
  replace q3 := keepc hb q3
  replace q4 := keepc hb q4
  replace q5 := keepc hb q5
  replace q6 := keepc hb q6
  replace lp := Nat.lt_of_lt_of_le lp hb.size
  replace lq := Nat.lt_of_lt_of_le lq hb.size
  clear hb
  go_wp2_with fail
  with_reducible refine (CA.out _).mono ?_
  rintro e_ w3 ⟨a0, n0, c0, l0, h0, rfl, hb⟩
  replace HB := Lib.hid (on_below HB.out hb)
  replace p0 := keepc hb p0
  replace p1 := keepc hb p1
  replace p2 := keepc hb p2
  replace p3 := keepc hb p3
  replace p4 := keepc hb p4
  replace p5 := keepc hb p5
  replace p6 := keepc hb p6
  replace q0 := keepc hb q0
  replace q1 := keepc hb q1
  replace q2 := keepc hb q2
  replace q3 := keepc hb q3
  replace q4 := keepc hb q4
  replace q5 := keepc hb q5
  replace q6 := keepc hb q6
  replace lp := Nat.lt_of_lt_of_le lp hb.size
  replace lq := Nat.lt_of_lt_of_le lq hb.size
  clear hb
  go_upto_region 3 with fail
  have hb := below_new w3 (.cells #[.slice a0 n0 c0, .int .i64 l0, .int .i64 h0] 47)
  have kx : (w3.alloc (.cells #[.slice a0 n0 c0, .int .i64 l0, .int .i64 h0] 47)).heap[w3.heap.size]? = some (.cells #[.slice a0 n0 c0, .int .i64 l0, .int .i64 h0] 47 (0, 0)) := World.alloc_heap_new _ _
  obtain ⟨x0, x1, x2⟩ := cells3 kx
  have lx := block_lt x0
  clear kx
  generalize w3.alloc (.cells #[.slice a0 n0 c0, .int .i64 l0, .int .i64 h0] 47) = w4 at *
  replace HB := Lib.hid (on_below HB.out hb)
  replace p0 := keepc hb p0
  replace p1 := keepc hb p1
  replace p2 := keepc hb p2
  replace p3 := keepc hb p3
  replace p4 := keepc hb p4
  replace p5 := keepc hb p5
  replace p6 := keepc hb p6
  replace q0 := keepc hb q0
  replace q1 := keepc hb q1
  replace q2 := keepc hb q2
  replace q3 := keepc hb q3
  replace q4 := keepc hb q4
  replace q5 := keepc hb q5
  replace q6 := keepc hb q6
  replace lp := Nat.lt_of_lt_of_le lp hb.size
  replace lq := Nat.lt_of_lt_of_le lq hb.size
  clear hb
  generalize w3.heap.size = gx at *
  go_wp2_with fail
  with_reducible refine (CB.out _).mono ?_
  rintro e_ w5 ⟨a1, n1, c1, l1, h1, rfl, hb⟩
  replace HB := Lib.hid (on_below HB.out hb)
  replace p0 := keepc hb p0
  replace p1 := keepc hb p1
  replace p2 := keepc hb p2
  replace p3 := keepc hb p3
  replace p4 := keepc hb p4
  replace p5 := keepc hb p5
  replace p6 := keepc hb p6
  replace q0 := keepc hb q0
  replace q1 := keepc hb q1
  replace q2 := keepc hb q2
  replace q3 := keepc hb q3
  replace q4 := keepc hb q4
  replace q5 := keepc hb q5
  replace q6 := keepc hb q6
  replace x0 := keepc hb x0
  replace x1 := keepc hb x1
  replace x2 := keepc hb x2
  replace lp := Nat.lt_of_lt_of_le lp hb.size
  replace lq := Nat.lt_of_lt_of_le lq hb.size
  replace lx := Nat.lt_of_lt_of_le lx hb.size
  clear hb
  go_upto_region 4 with fail
  have hb := below_new w5 (.cells #[.slice a1 n1 c1, .int .i64 l1, .int .i64 h1] 47)
  have ky : (w5.alloc (.cells #[.slice a1 n1 c1, .int .i64 l1, .int .i64 h1] 47)).heap[w5.heap.size]? = some (.cells #[.slice a1 n1 c1, .int .i64 l1, .int .i64 h1] 47 (0, 0)) := World.alloc_heap_new _ _
  obtain ⟨y0, y1, y2⟩ := cells3 ky
  have ly := block_lt y0
  clear ky
  generalize w5.alloc (.cells #[.slice a1 n1 c1, .int .i64 l1, .int .i64 h1] 47) = w6 at *
  replace HB := Lib.hid (on_below HB.out hb)
  replace p0 := keepc hb p0
  replace p1 := keepc hb p1
  replace p2 := keepc hb p2
  replace p3 := keepc hb p3
  replace p4 := keepc hb p4
  replace p5 := keepc hb p5
  replace p6 := keepc hb p6
  replace q0 := keepc hb q0
  replace q1 := keepc hb q1
  replace q2 := keepc hb q2
  replace q3 := keepc hb q3
  replace q4 := keepc hb q4
  replace q5 := keepc hb q5
  replace q6 := keepc hb q6
  replace x0 := keepc hb x0
  replace x1 := keepc hb x1
  replace x2 := keepc hb x2
  replace lp := Nat.lt_of_lt_of_le lp hb.size
  replace lq := Nat.lt_of_lt_of_le lq hb.size
  replace lx := Nat.lt_of_lt_of_le lx hb.size
  clear hb
  generalize w5.heap.size = gy at *
  go_wp2_with fail
  with_reducible refine (CC.out _).mono ?_
  rintro e_ w7 ⟨a2, n2, c2, l2, h2, rfl, hb⟩
  replace HB := Lib.hid (on_below HB.out hb)
  replace p0 := keepc hb p0
  replace p1 := keepc hb p1
  replace p2 := keepc hb p2
  replace p3 := keepc hb p3
  replace p4 := keepc hb p4
  replace p5 := keepc hb p5
  replace p6 := keepc hb p6
  replace q0 := keepc hb q0
  replace q1 := keepc hb q1
  replace q2 := keepc hb q2
  replace q3 := keepc hb q3
  replace q4 := keepc hb q4
  replace q5 := keepc hb q5
  replace q6 := keepc hb q6
  replace x0 := keepc hb x0
  replace x1 := keepc hb x1
  replace x2 := keepc hb x2
  replace y0 := keepc hb y0
  replace y1 := keepc hb y1
  replace y2 := keepc hb y2
  replace lp := Nat.lt_of_lt_of_le lp hb.size
  replace lq := Nat.lt_of_lt_of_le lq hb.size
  replace lx := Nat.lt_of_lt_of_le lx hb.size
  replace ly := Nat.lt_of_lt_of_le ly hb.size
  clear hb
  go_upto_region 5 with fail
  have hb := below_new w7 (.cells #[.slice a2 n2 c2, .int .i64 l2, .int .i64 h2] 47)
  have kz : (w7.alloc (.cells #[.slice a2 n2 c2, .int .i64 l2, .int .i64 h2] 47)).heap[w7.heap.size]? = some (.cells #[.slice a2 n2 c2, .int .i64 l2, .int .i64 h2] 47 (0, 0)) := World.alloc_heap_new _ _
  obtain ⟨z0, z1, z2⟩ := cells3 kz
  have lz := block_lt z0
  clear kz
  generalize w7.alloc (.cells #[.slice a2 n2 c2, .int .i64 l2, .int .i64 h2] 47) = w8 at *
  replace HB := Lib.hid (on_below HB.out hb)
  replace p0 := keepc hb p0
  replace p1 := keepc hb p1
  replace p2 := keepc hb p2
  replace p3 := keepc hb p3
  replace p4 := keepc hb p4
  replace p5 := keepc hb p5
  replace p6 := keepc hb p6
  replace q0 := keepc hb q0
  replace q1 := keepc hb q1
  replace q2 := keepc hb q2
  replace q3 := keepc hb q3
  replace q4 := keepc hb q4
  replace q5 := keepc hb q5
  replace q6 := keepc hb q6
  replace x0 := keepc hb x0
  replace x1 := keepc hb x1
  replace x2 := keepc hb x2
  replace y0 := keepc hb y0
  replace y1 := keepc hb y1
  replace y2 := keepc hb y2
  replace lp := Nat.lt_of_lt_of_le lp hb.size
  replace lq := Nat.lt_of_lt_of_le lq hb.size
  replace lx := Nat.lt_of_lt_of_le lx hb.size
  replace ly := Nat.lt_of_lt_of_le ly hb.size
  clear hb
  generalize w7.heap.size = gz at *
  go_wp2_with fail
  go_ret
  exact ⟨rfl, HB.out⟩
set_option maxRecDepth 100000 in
set_option maxHeartbeats 4000000 in
theorem hds_f2 (p q : Pl) (one two : Int) (E2 E3 : Int) (e1 : HdR p one 0) (e2 : HdR q two E2) (e3 : HdR p two E3) (h0 : E2 ≠ 0) (w : World) :
    Calls Try.prog 8 #[.agg #[.int .i64 p.id, .int .i64 p.row, .int .i64 p.pos, .int .i64 p.ex, .int .i64 p.ey, .int .i64 p.ez, .int .i64 p.kd], .agg #[.int .i64 q.id, .int .i64 q.row, .int .i64 q.pos, .int .i64 q.ex, .int .i64 q.ey, .int .i64 q.ez, .int .i64 q.kd], .int .i64 one, .int .i64 two] w fun e_ w' => e_ = .returned (.bool true) ∧ Below w.heap.size w w' := by
  have CA := Lib.hid (hd_u p one _ e1)
  have CB := Lib.hid (hd_u q two _ e2)
  have CC := Lib.hid (hd_u p two _ e3)
  have z0 : (E2 != 0) = true := by simp [h0]
  clear e1 e2 e3 h0
  have p0 : World.cell? ((w.alloc (.cells #[.int .i64 (p.id), .int .i64 (p.row), .int .i64 (p.pos), .int .i64 (p.ex), .int .i64 (p.ey), .int .i64 (p.ez), .int .i64 (p.kd)] 28)).alloc (.cells #[.int .i64 (q.id), .int .i64 (q.row), .int .i64 (q.pos), .int .i64 (q.ex), .int .i64 (q.ey), .int .i64 (q.ez), .int .i64 (q.kd)] 28)) ⟨w.heap.size, 0, none⟩ = some (.int .i64 (p.id)) := by simp [go_sem]
  have p1 : World.cell? ((w.alloc (.cells #[.int .i64 (p.id), .int .i64 (p.row), .int .i64 (p.pos), .int .i64 (p.ex), .int .i64 (p.ey), .int .i64 (p.ez), .int .i64 (p.kd)] 28)).alloc (.cells #[.int .i64 (q.id), .int .i64 (q.row), .int .i64 (q.pos), .int .i64 (q.ex), .int .i64 (q.ey), .int .i64 (q.ez), .int .i64 (q.kd)] 28)) ⟨w.heap.size, 1, none⟩ = some (.int .i64 (p.row)) := by simp [go_sem]
  have p2 : World.cell? ((w.alloc (.cells #[.int .i64 (p.id), .int .i64 (p.row), .int .i64 (p.pos), .int .i64 (p.ex), .int .i64 (p.ey), .int .i64 (p.ez), .int .i64 (p.kd)] 28)).alloc (.cells #[.int .i64 (q.id), .int .i64 (q.row), .int .i64 (q.pos), .int .i64 (q.ex), .int .i64 (q.ey), .int .i64 (q.ez), .int .i64 (q.kd)] 28)) ⟨w.heap.size, 2, none⟩ = some (.int .i64 (p.pos)) := by simp [go_sem]
  have p3 : World.cell? ((w.alloc (.cells #[.int .i64 (p.id), .int .i64 (p.row), .int .i64 (p.pos), .int .i64 (p.ex), .int .i64 (p.ey), .int .i64 (p.ez), .int .i64 (p.kd)] 28)).alloc (.cells #[.int .i64 (q.id), .int .i64 (q.row), .int .i64 (q.pos), .int .i64 (q.ex), .int .i64 (q.ey), .int .i64 (q.ez), .int .i64 (q.kd)] 28)) ⟨w.heap.size, 3, none⟩ = some (.int .i64 (p.ex)) := by simp [go_sem]
  have p4 : World.cell? ((w.alloc (.cells #[.int .i64 (p.id), .int .i64 (p.row), .int .i64 (p.pos), .int .i64 (p.ex), .int .i64 (p.ey), .int .i64 (p.ez), .int .i64 (p.kd)] 28)).alloc (.cells #[.int .i64 (q.id), .int .i64 (q.row), .int .i64 (q.pos), .int .i64 (q.ex), .int .i64 (q.ey), .int .i64 (q.ez), .int .i64 (q.kd)] 28)) ⟨w.heap.size, 4, none⟩ = some (.int .i64 (p.ey)) := by simp [go_sem]
  have p5 : World.cell? ((w.alloc (.cells #[.int .i64 (p.id), .int .i64 (p.row), .int .i64 (p.pos), .int .i64 (p.ex), .int .i64 (p.ey), .int .i64 (p.ez), .int .i64 (p.kd)] 28)).alloc (.cells #[.int .i64 (q.id), .int .i64 (q.row), .int .i64 (q.pos), .int .i64 (q.ex), .int .i64 (q.ey), .int .i64 (q.ez), .int .i64 (q.kd)] 28)) ⟨w.heap.size, 5, none⟩ = some (.int .i64 (p.ez)) := by simp [go_sem]
  have p6 : World.cell? ((w.alloc (.cells #[.int .i64 (p.id), .int .i64 (p.row), .int .i64 (p.pos), .int .i64 (p.ex), .int .i64 (p.ey), .int .i64 (p.ez), .int .i64 (p.kd)] 28)).alloc (.cells #[.int .i64 (q.id), .int .i64 (q.row), .int .i64 (q.pos), .int .i64 (q.ex), .int .i64 (q.ey), .int .i64 (q.ez), .int .i64 (q.kd)] 28)) ⟨w.heap.size, 6, none⟩ = some (.int .i64 (p.kd)) := by simp [go_sem]
  have lp : w.heap.size < ((w.alloc (.cells #[.int .i64 (p.id), .int .i64 (p.row), .int .i64 (p.pos), .int .i64 (p.ex), .int .i64 (p.ey), .int .i64 (p.ez), .int .i64 (p.kd)] 28)).alloc (.cells #[.int .i64 (q.id), .int .i64 (q.row), .int .i64 (q.pos), .int .i64 (q.ex), .int .i64 (q.ey), .int .i64 (q.ez), .int .i64 (q.kd)] 28)).heap.size := by simp <;> omega
  have q0 : World.cell? ((w.alloc (.cells #[.int .i64 (p.id), .int .i64 (p.row), .int .i64 (p.pos), .int .i64 (p.ex), .int .i64 (p.ey), .int .i64 (p.ez), .int .i64 (p.kd)] 28)).alloc (.cells #[.int .i64 (q.id), .int .i64 (q.row), .int .i64 (q.pos), .int .i64 (q.ex), .int .i64 (q.ey), .int .i64 (q.ez), .int .i64 (q.kd)] 28)) ⟨w.heap.size + 1, 0, none⟩ = some (.int .i64 (q.id)) := by simp [go_sem]
  have q1 : World.cell? ((w.alloc (.cells #[.int .i64 (p.id), .int .i64 (p.row), .int .i64 (p.pos), .int .i64 (p.ex), .int .i64 (p.ey), .int .i64 (p.ez), .int .i64 (p.kd)] 28)).alloc (.cells #[.int .i64 (q.id), .int .i64 (q.row), .int .i64 (q.pos), .int .i64 (q.ex), .int .i64 (q.ey), .int .i64 (q.ez), .int .i64 (q.kd)] 28)) ⟨w.heap.size + 1, 1, none⟩ = some (.int .i64 (q.row)) := by simp [go_sem]
  have q2 : World.cell? ((w.alloc (.cells #[.int .i64 (p.id), .int .i64 (p.row), .int .i64 (p.pos), .int .i64 (p.ex), .int .i64 (p.ey), .int .i64 (p.ez), .int .i64 (p.kd)] 28)).alloc (.cells #[.int .i64 (q.id), .int .i64 (q.row), .int .i64 (q.pos), .int .i64 (q.ex), .int .i64 (q.ey), .int .i64 (q.ez), .int .i64 (q.kd)] 28)) ⟨w.heap.size + 1, 2, none⟩ = some (.int .i64 (q.pos)) := by simp [go_sem]
  have q3 : World.cell? ((w.alloc (.cells #[.int .i64 (p.id), .int .i64 (p.row), .int .i64 (p.pos), .int .i64 (p.ex), .int .i64 (p.ey), .int .i64 (p.ez), .int .i64 (p.kd)] 28)).alloc (.cells #[.int .i64 (q.id), .int .i64 (q.row), .int .i64 (q.pos), .int .i64 (q.ex), .int .i64 (q.ey), .int .i64 (q.ez), .int .i64 (q.kd)] 28)) ⟨w.heap.size + 1, 3, none⟩ = some (.int .i64 (q.ex)) := by simp [go_sem]
  have q4 : World.cell? ((w.alloc (.cells #[.int .i64 (p.id), .int .i64 (p.row), .int .i64 (p.pos), .int .i64 (p.ex), .int .i64 (p.ey), .int .i64 (p.ez), .int .i64 (p.kd)] 28)).alloc (.cells #[.int .i64 (q.id), .int .i64 (q.row), .int .i64 (q.pos), .int .i64 (q.ex), .int .i64 (q.ey), .int .i64 (q.ez), .int .i64 (q.kd)] 28)) ⟨w.heap.size + 1, 4, none⟩ = some (.int .i64 (q.ey)) := by simp [go_sem]
  have q5 : World.cell? ((w.alloc (.cells #[.int .i64 (p.id), .int .i64 (p.row), .int .i64 (p.pos), .int .i64 (p.ex), .int .i64 (p.ey), .int .i64 (p.ez), .int .i64 (p.kd)] 28)).alloc (.cells #[.int .i64 (q.id), .int .i64 (q.row), .int .i64 (q.pos), .int .i64 (q.ex), .int .i64 (q.ey), .int .i64 (q.ez), .int .i64 (q.kd)] 28)) ⟨w.heap.size + 1, 5, none⟩ = some (.int .i64 (q.ez)) := by simp [go_sem]
  have q6 : World.cell? ((w.alloc (.cells #[.int .i64 (p.id), .int .i64 (p.row), .int .i64 (p.pos), .int .i64 (p.ex), .int .i64 (p.ey), .int .i64 (p.ez), .int .i64 (p.kd)] 28)).alloc (.cells #[.int .i64 (q.id), .int .i64 (q.row), .int .i64 (q.pos), .int .i64 (q.ex), .int .i64 (q.ey), .int .i64 (q.ez), .int .i64 (q.kd)] 28)) ⟨w.heap.size + 1, 6, none⟩ = some (.int .i64 (q.kd)) := by simp [go_sem]
  have lq : w.heap.size + 1 < ((w.alloc (.cells #[.int .i64 (p.id), .int .i64 (p.row), .int .i64 (p.pos), .int .i64 (p.ex), .int .i64 (p.ey), .int .i64 (p.ez), .int .i64 (p.kd)] 28)).alloc (.cells #[.int .i64 (q.id), .int .i64 (q.row), .int .i64 (q.pos), .int .i64 (q.ex), .int .i64 (q.ey), .int .i64 (q.ez), .int .i64 (q.kd)] 28)).heap.size := by simp <;> omega
  have HB := Lib.hid (show Below w.heap.size w ((w.alloc (.cells #[.int .i64 (p.id), .int .i64 (p.row), .int .i64 (p.pos), .int .i64 (p.ex), .int .i64 (p.ey), .int .i64 (p.ez), .int .i64 (p.kd)] 28)).alloc (.cells #[.int .i64 (q.id), .int .i64 (q.row), .int .i64 (q.pos), .int .i64 (q.ex), .int .i64 (q.ey), .int .i64 (q.ez), .int .i64 (q.kd)] 28)) from (((Below.refl _ _).alloc (by simp <;> omega) _).alloc (by simp <;> omega) _))
  go_enter Try.func8, Try.ntmps8
  go_wp2_with fail
  generalize (w.alloc (.cells #[.int .i64 (p.id), .int .i64 (p.row), .int .i64 (p.pos), .int .i64 (p.ex), .int .i64 (p.ey), .int .i64 (p.ez), .int .i64 (p.kd)] 28)).alloc (.cells #[.int .i64 (q.id), .int .i64 (q.row), .int .i64 (q.pos), .int .i64 (q.ex), .int .i64 (q.ey), .int .i64 (q.ez), .int .i64 (q.kd)] 28) = w1 at *
  with_reducible refine (head12_any _).mono ?_
  rintro e_ w2 ⟨rfl, hb⟩
  replace HB := Lib.hid (on_below HB.out hb)
  replace p0 := keepc hb p0
  replace p1 := keepc hb p1
  replace p2 := keepc hb p2
  replace p3 := keepc hb p3
  replace p4 := keepc hb p4
  replace p5 := keepc hb p5
  replace p6 := keepc hb p6
  replace q0 := keepc hb q0
  replace q1 := keepc hb q1
  replace q2 := keepc hb q2
  replace q3 := keepc hb q3
  replace q4 := keepc hb q4
  replace q5 := keepc hb q5
  replace q6 := keepc hb q6
  replace lp := Nat.lt_of_lt_of_le lp hb.size
  replace lq := Nat.lt_of_lt_of_le lq hb.size
  clear hb
  go_wp2_with fail
  with_reducible refine (CA.out _).mono ?_
  rintro e_ w3 ⟨a0, n0, c0, l0, h0, rfl, hb⟩
  replace HB := Lib.hid (on_below HB.out hb)
  replace p0 := keepc hb p0
  replace p1 := keepc hb p1
  replace p2 := keepc hb p2
  replace p3 := keepc hb p3
  replace p4 := keepc hb p4
  replace p5 := keepc hb p5
  replace p6 := keepc hb p6
  replace q0 := keepc hb q0
  replace q1 := keepc hb q1
  replace q2 := keepc hb q2
  replace q3 := keepc hb q3
  replace q4 := keepc hb q4
  replace q5 := keepc hb q5
  replace q6 := keepc hb q6
  replace lp := Nat.lt_of_lt_of_le lp hb.size
  replace lq := Nat.lt_of_lt_of_le lq hb.size
  clear hb
  go_upto_region 3 with fail
  have hb := below_new w3 (.cells #[.slice a0 n0 c0, .int .i64 l0, .int .i64 h0] 47)
  have kx : (w3.alloc (.cells #[.slice a0 n0 c0, .int .i64 l0, .int .i64 h0] 47)).heap[w3.heap.size]? = some (.cells #[.slice a0 n0 c0, .int .i64 l0, .int .i64 h0] 47 (0, 0)) := World.alloc_heap_new _ _
  obtain ⟨x0, x1, x2⟩ := cells3 kx
  have lx := block_lt x0
  clear kx
  generalize w3.alloc (.cells #[.slice a0 n0 c0, .int .i64 l0, .int .i64 h0] 47) = w4 at *
  replace HB := Lib.hid (on_below HB.out hb)
  replace p0 := keepc hb p0
  replace p1 := keepc hb p1
  replace p2 := keepc hb p2
  replace p3 := keepc hb p3
  replace p4 := keepc hb p4
  replace p5 := keepc hb p5
  replace p6 := keepc hb p6
  replace q0 := keepc hb q0
  replace q1 := keepc hb q1
  replace q2 := keepc hb q2
  replace q3 := keepc hb q3
  replace q4 := keepc hb q4
  replace q5 := keepc hb q5
  replace q6 := keepc hb q6
  replace lp := Nat.lt_of_lt_of_le lp hb.size
  replace lq := Nat.lt_of_lt_of_le lq hb.size
  clear hb
  generalize w3.heap.size = gx at *
  go_wp2_with fail
  with_reducible refine (CB.out _).mono ?_
  rintro e_ w5 ⟨a1, n1, c1, l1, h1, rfl, hb⟩
  replace HB := Lib.hid (on_below HB.out hb)
  replace p0 := keepc hb p0
  replace p1 := keepc hb p1
  replace p2 := keepc hb p2
  replace p3 := keepc hb p3
  replace p4 := keepc hb p4
  replace p5 := keepc hb p5
  replace p6 := keepc hb p6
  replace q0 := keepc hb q0
  replace q1 := keepc hb q1
  replace q2 := keepc hb q2
  replace q3 := keepc hb q3
  replace q4 := keepc hb q4
  replace q5 := keepc hb q5
  replace q6 := keepc hb q6
  replace x0 := keepc hb x0
  replace x1 := keepc hb x1
  replace x2 := keepc hb x2
  replace lp := Nat.lt_of_lt_of_le lp hb.size
  replace lq := Nat.lt_of_lt_of_le lq hb.size
  replace lx := Nat.lt_of_lt_of_le lx hb.size
  clear hb
  go_upto_region 4 with fail
  have hb := below_new w5 (.cells #[.slice a1 n1 c1, .int .i64 l1, .int .i64 h1] 47)
  have ky : (w5.alloc (.cells #[.slice a1 n1 c1, .int .i64 l1, .int .i64 h1] 47)).heap[w5.heap.size]? = some (.cells #[.slice a1 n1 c1, .int .i64 l1, .int .i64 h1] 47 (0, 0)) := World.alloc_heap_new _ _
  obtain ⟨y0, y1, y2⟩ := cells3 ky
  have ly := block_lt y0
  clear ky
  generalize w5.alloc (.cells #[.slice a1 n1 c1, .int .i64 l1, .int .i64 h1] 47) = w6 at *
  replace HB := Lib.hid (on_below HB.out hb)
  replace p0 := keepc hb p0
  replace p1 := keepc hb p1
  replace p2 := keepc hb p2
  replace p3 := keepc hb p3
  replace p4 := keepc hb p4
  replace p5 := keepc hb p5
  replace p6 := keepc hb p6
  replace q0 := keepc hb q0
  replace q1 := keepc hb q1
  replace q2 := keepc hb q2
  replace q3 := keepc hb q3
  replace q4 := keepc hb q4
  replace q5 := keepc hb q5
  replace q6 := keepc hb q6
  replace x0 := keepc hb x0
  replace x1 := keepc hb x1
  replace x2 := keepc hb x2
  replace lp := Nat.lt_of_lt_of_le lp hb.size
  replace lq := Nat.lt_of_lt_of_le lq hb.size
  replace lx := Nat.lt_of_lt_of_le lx hb.size
  clear hb
  generalize w5.heap.size = gy at *
  go_wp2_with fail
  with_reducible refine (CC.out _).mono ?_
  rintro e_ w7 ⟨a2, n2, c2, l2, h2, rfl, hb⟩
  replace HB := Lib.hid (on_below HB.out hb)
  replace p0 := keepc hb p0
  replace p1 := keepc hb p1
  replace p2 := keepc hb p2
  replace p3 := keepc hb p3
  replace p4 := keepc hb p4
  replace p5 := keepc hb p5
  replace p6 := keepc hb p6
  replace q0 := keepc hb q0
  replace q1 := keepc hb q1
  replace q2 := keepc hb q2
  replace q3 := keepc hb q3
  replace q4 := keepc hb q4
  replace q5 := keepc hb q5
  replace q6 := keepc hb q6
  replace x0 := keepc hb x0
  replace x1 := keepc hb x1
  replace x2 := keepc hb x2
  replace y0 := keepc hb y0
  replace y1 := keepc hb y1
  replace y2 := keepc hb y2
  replace lp := Nat.lt_of_lt_of_le lp hb.size
  replace lq := Nat.lt_of_lt_of_le lq hb.size
  replace lx := Nat.lt_of_lt_of_le lx hb.size
  replace ly := Nat.lt_of_lt_of_le ly hb.size
  clear hb
  go_upto_region 5 with fail
  have hb := below_new w7 (.cells #[.slice a2 n2 c2, .int .i64 l2, .int .i64 h2] 47)
  have kz : (w7.alloc (.cells #[.slice a2 n2 c2, .int .i64 l2, .int .i64 h2] 47)).heap[w7.heap.size]? = some (.cells #[.slice a2 n2 c2, .int .i64 l2, .int .i64 h2] 47 (0, 0)) := World.alloc_heap_new _ _
  obtain ⟨z0, z1, z2⟩ := cells3 kz
  have lz := block_lt z0
  clear kz
  generalize w7.alloc (.cells #[.slice a2 n2 c2, .int .i64 l2, .int .i64 h2] 47) = w8 at *
  replace HB := Lib.hid (on_below HB.out hb)
  replace p0 := keepc hb p0
  replace p1 := keepc hb p1
  replace p2 := keepc hb p2
  replace p3 := keepc hb p3
  replace p4 := keepc hb p4
  replace p5 := keepc hb p5
  replace p6 := keepc hb p6
  replace q0 := keepc hb q0
  replace q1 := keepc hb q1
  replace q2 := keepc hb q2
  replace q3 := keepc hb q3
  replace q4 := keepc hb q4
  replace q5 := keepc hb q5
  replace q6 := keepc hb q6
  replace x0 := keepc hb x0
  replace x1 := keepc hb x1
  replace x2 := keepc hb x2
  replace y0 := keepc hb y0
  replace y1 := keepc hb y1
  replace y2 := keepc hb y2
  replace lp := Nat.lt_of_lt_of_le lp hb.size
  replace lq := Nat.lt_of_lt_of_le lq hb.size
  replace lx := Nat.lt_of_lt_of_le lx hb.size
  replace ly := Nat.lt_of_lt_of_le ly hb.size
  clear hb
  generalize w7.heap.size = gz at *
  go_wp2_with fail
  go_ret
  exact ⟨rfl, HB.out⟩
set_option maxRecDepth 100000 in
set_option maxHeartbeats 4000000 in
theorem hds_f3 (p q : Pl) (one two : Int) (E3 : Int) (e1 : HdR p one 0) (e2 : HdR q two 0) (e3 : HdR p two E3) (h0 : E3 ≠ 0) (w : World) :
    Calls Try.prog 8 #[.agg #[.int .i64 p.id, .int .i64 p.row, .int .i64 p.pos, .int .i64 p.ex, .int .i64 p.ey, .int .i64 p.ez, .int .i64 p.kd], .agg #[.int .i64 q.id, .int .i64 q.row, .int .i64 q.pos, .int .i64 q.ex, .int .i64 q.ey, .int .i64 q.ez, .int .i64 q.kd], .int .i64 one, .int .i64 two] w fun e_ w' => e_ = .returned (.bool true) ∧ Below w.heap.size w w' := by
  have CA := Lib.hid (hd_u p one _ e1)
  have CB := Lib.hid (hd_u q two _ e2)
  have CC := Lib.hid (hd_u p two _ e3)
  have z0 : (E3 != 0) = true := by simp [h0]
  clear e1 e2 e3 h0
  have p0 : World.cell? ((w.alloc (.cells #[.int .i64 (p.id), .int .i64 (p.row), .int .i64 (p.pos), .int .i64 (p.ex), .int .i64 (p.ey), .int .i64 (p.ez), .int .i64 (p.kd)] 28)).alloc (.cells #[.int .i64 (q.id), .int .i64 (q.row), .int .i64 (q.pos), .int .i64 (q.ex), .int .i64 (q.ey), .int .i64 (q.ez), .int .i64 (q.kd)] 28)) ⟨w.heap.size, 0, none⟩ = some (.int .i64 (p.id)) := by simp [go_sem]
  have p1 : World.cell? ((w.alloc (.cells #[.int .i64 (p.id), .int .i64 (p.row), .int .i64 (p.pos), .int .i64 (p.ex), .int .i64 (p.ey), .int .i64 (p.ez), .int .i64 (p.kd)] 28)).alloc (.cells #[.int .i64 (q.id), .int .i64 (q.row), .int .i64 (q.pos), .int .i64 (q.ex), .int .i64 (q.ey), .int .i64 (q.ez), .int .i64 (q.kd)] 28)) ⟨w.heap.size, 1, none⟩ = some (.int .i64 (p.row)) := by simp [go_sem]
  have p2 : World.cell? ((w.alloc (.cells #[.int .i64 (p.id), .int .i64 (p.row), .int .i64 (p.pos), .int .i64 (p.ex), .int .i64 (p.ey), .int .i64 (p.ez), .int .i64 (p.kd)] 28)).alloc (.cells #[.int .i64 (q.id), .int .i64 (q.row), .int .i64 (q.pos), .int .i64 (q.ex), .int .i64 (q.ey), .int .i64 (q.ez), .int .i64 (q.kd)] 28)) ⟨w.heap.size, 2, none⟩ = some (.int .i64 (p.pos)) := by simp [go_sem]
  have p3 : World.cell? ((w.alloc (.cells #[.int .i64 (p.id), .int .i64 (p.row), .int .i64 (p.pos), .int .i64 (p.ex), .int .i64 (p.ey), .int .i64 (p.ez), .int .i64 (p.kd)] 28)).alloc (.cells #[.int .i64 (q.id), .int .i64 (q.row), .int .i64 (q.pos), .int .i64 (q.ex), .int .i64 (q.ey), .int .i64 (q.ez), .int .i64 (q.kd)] 28)) ⟨w.heap.size, 3, none⟩ = some (.int .i64 (p.ex)) := by simp [go_sem]
  have p4 : World.cell? ((w.alloc (.cells #[.int .i64 (p.id), .int .i64 (p.row), .int .i64 (p.pos), .int .i64 (p.ex), .int .i64 (p.ey), .int .i64 (p.ez), .int .i64 (p.kd)] 28)).alloc (.cells #[.int .i64 (q.id), .int .i64 (q.row), .int .i64 (q.pos), .int .i64 (q.ex), .int .i64 (q.ey), .int .i64 (q.ez), .int .i64 (q.kd)] 28)) ⟨w.heap.size, 4, none⟩ = some (.int .i64 (p.ey)) := by simp [go_sem]
  have p5 : World.cell? ((w.alloc (.cells #[.int .i64 (p.id), .int .i64 (p.row), .int .i64 (p.pos), .int .i64 (p.ex), .int .i64 (p.ey), .int .i64 (p.ez), .int .i64 (p.kd)] 28)).alloc (.cells #[.int .i64 (q.id), .int .i64 (q.row), .int .i64 (q.pos), .int .i64 (q.ex), .int .i64 (q.ey), .int .i64 (q.ez), .int .i64 (q.kd)] 28)) ⟨w.heap.size, 5, none⟩ = some (.int .i64 (p.ez)) := by simp [go_sem]
  have p6 : World.cell? ((w.alloc (.cells #[.int .i64 (p.id), .int .i64 (p.row), .int .i64 (p.pos), .int .i64 (p.ex), .int .i64 (p.ey), .int .i64 (p.ez), .int .i64 (p.kd)] 28)).alloc (.cells #[.int .i64 (q.id), .int .i64 (q.row), .int .i64 (q.pos), .int .i64 (q.ex), .int .i64 (q.ey), .int .i64 (q.ez), .int .i64 (q.kd)] 28)) ⟨w.heap.size, 6, none⟩ = some (.int .i64 (p.kd)) := by simp [go_sem]
  have lp : w.heap.size < ((w.alloc (.cells #[.int .i64 (p.id), .int .i64 (p.row), .int .i64 (p.pos), .int .i64 (p.ex), .int .i64 (p.ey), .int .i64 (p.ez), .int .i64 (p.kd)] 28)).alloc (.cells #[.int .i64 (q.id), .int .i64 (q.row), .int .i64 (q.pos), .int .i64 (q.ex), .int .i64 (q.ey), .int .i64 (q.ez), .int .i64 (q.kd)] 28)).heap.size := by simp <;> omega
  have q0 : World.cell? ((w.alloc (.cells #[.int .i64 (p.id), .int .i64 (p.row), .int .i64 (p.pos), .int .i64 (p.ex), .int .i64 (p.ey), .int .i64 (p.ez), .int .i64 (p.kd)] 28)).alloc (.cells #[.int .i64 (q.id), .int .i64 (q.row), .int .i64 (q.pos), .int .i64 (q.ex), .int .i64 (q.ey), .int .i64 (q.ez), .int .i64 (q.kd)] 28)) ⟨w.heap.size + 1, 0, none⟩ = some (.int .i64 (q.id)) := by simp [go_sem]
  have q1 : World.cell? ((w.alloc (.cells #[.int .i64 (p.id), .int .i64 (p.row), .int .i64 (p.pos), .int .i64 (p.ex), .int .i64 (p.ey), .int .i64 (p.ez), .int .i64 (p.kd)] 28)).alloc (.cells #[.int .i64 (q.id), .int .i64 (q.row), .int .i64 (q.pos), .int .i64 (q.ex), .int .i64 (q.ey), .int .i64 (q.ez), .int .i64 (q.kd)] 28)) ⟨w.heap.size + 1, 1, none⟩ = some (.int .i64 (q.row)) := by simp [go_sem]
  have q2 : World.cell? ((w.alloc (.cells #[.int .i64 (p.id), .int .i64 (p.row), .int .i64 (p.pos), .int .i64 (p.ex), .int .i64 (p.ey), .int .i64 (p.ez), .int .i64 (p.kd)] 28)).alloc (.cells #[.int .i64 (q.id), .int .i64 (q.row), .int .i64 (q.pos), .int .i64 (q.ex), .int .i64 (q.ey), .int .i64 (q.ez), .int .i64 (q.kd)] 28)) ⟨w.heap.size + 1, 2, none⟩ = some (.int .i64 (q.pos)) := by simp [go_sem]
  have q3 : World.cell? ((w.alloc (.cells #[.int .i64 (p.id), .int .i64 (p.row), .int .i64 (p.pos), .int .i64 (p.ex), .int .i64 (p.ey), .int .i64 (p.ez), .int .i64 (p.kd)] 28)).alloc (.cells #[.int .i64 (q.id), .int .i64 (q.row), .int .i64 (q.pos), .int .i64 (q.ex), .int .i64 (q.ey), .int .i64 (q.ez), .int .i64 (q.kd)] 28)) ⟨w.heap.size + 1, 3, none⟩ = some (.int .i64 (q.ex)) := by simp [go_sem]
  have q4 : World.cell? ((w.alloc (.cells #[.int .i64 (p.id), .int .i64 (p.row), .int .i64 (p.pos), .int .i64 (p.ex), .int .i64 (p.ey), .int .i64 (p.ez), .int .i64 (p.kd)] 28)).alloc (.cells #[.int .i64 (q.id), .int .i64 (q.row), .int .i64 (q.pos), .int .i64 (q.ex), .int .i64 (q.ey), .int .i64 (q.ez), .int .i64 (q.kd)] 28)) ⟨w.heap.size + 1, 4, none⟩ = some (.int .i64 (q.ey)) := by simp [go_sem]
  have q5 : World.cell? ((w.alloc (.cells #[.int .i64 (p.id), .int .i64 (p.row), .int .i64 (p.pos), .int .i64 (p.ex), .int .i64 (p.ey), .int .i64 (p.ez), .int .i64 (p.kd)] 28)).alloc (.cells #[.int .i64 (q.id), .int .i64 (q.row), .int .i64 (q.pos), .int .i64 (q.ex), .int .i64 (q.ey), .int .i64 (q.ez), .int .i64 (q.kd)] 28)) ⟨w.heap.size + 1, 5, none⟩ = some (.int .i64 (q.ez)) := by simp [go_sem]
  have q6 : World.cell? ((w.alloc (.cells #[.int .i64 (p.id), .int .i64 (p.row), .int .i64 (p.pos), .int .i64 (p.ex), .int .i64 (p.ey), .int .i64 (p.ez), .int .i64 (p.kd)] 28)).alloc (.cells #[.int .i64 (q.id), .int .i64 (q.row), .int .i64 (q.pos), .int .i64 (q.ex), .int .i64 (q.ey), .int .i64 (q.ez), .int .i64 (q.kd)] 28)) ⟨w.heap.size + 1, 6, none⟩ = some (.int .i64 (q.kd)) := by simp [go_sem]
  have lq : w.heap.size + 1 < ((w.alloc (.cells #[.int .i64 (p.id), .int .i64 (p.row), .int .i64 (p.pos), .int .i64 (p.ex), .int .i64 (p.ey), .int .i64 (p.ez), .int .i64 (p.kd)] 28)).alloc (.cells #[.int .i64 (q.id), .int .i64 (q.row), .int .i64 (q.pos), .int .i64 (q.ex), .int .i64 (q.ey), .int .i64 (q.ez), .int .i64 (q.kd)] 28)).heap.size := by simp <;> omega
  have HB := Lib.hid (show Below w.heap.size w ((w.alloc (.cells #[.int .i64 (p.id), .int .i64 (p.row), .int .i64 (p.pos), .int .i64 (p.ex), .int .i64 (p.ey), .int .i64 (p.ez), .int .i64 (p.kd)] 28)).alloc (.cells #[.int .i64 (q.id), .int .i64 (q.row), .int .i64 (q.pos), .int .i64 (q.ex), .int .i64 (q.ey), .int .i64 (q.ez), .int .i64 (q.kd)] 28)) from (((Below.refl _ _).alloc (by simp <;> omega) _).alloc (by simp <;> omega) _))
  go_enter Try.func8, Try.ntmps8
  go_wp2_with fail
  generalize (w.alloc (.cells #[.int .i64 (p.id), .int .i64 (p.row), .int .i64 (p.pos), .int .i64 (p.ex), .int .i64 (p.ey), .int .i64 (p.ez), .int .i64 (p.kd)] 28)).alloc (.cells #[.int .i64 (q.id), .int .i64 (q.row), .int .i64 (q.pos), .int .i64 (q.ex), .int .i64 (q.ey), .int .i64 (q.ez), .int .i64 (q.kd)] 28) = w1 at *
  with_reducible refine (head12_any _).mono ?_
  rintro e_ w2 ⟨rfl, hb⟩
  replace HB := Lib.hid (on_below HB.out hb)
  replace p0 := keepc hb p0
  replace p1 := keepc hb p1
  replace p2 := keepc hb p2
  replace p3 := keepc hb p3
  replace p4 := keepc hb p4
  replace p5 := keepc hb p5
  replace p6 := keepc hb p6
  replace q0 := keepc hb q0
  replace q1 := keepc hb q1
  replace q2 := keepc hb q2
  replace q3 := keepc hb q3
  replace q4 := keepc hb q4
  replace q5 := keepc hb q5
  replace q6 := keepc hb q6
  replace lp := Nat.lt_of_lt_of_le lp hb.size
  replace lq := Nat.lt_of_lt_of_le lq hb.size
  clear hb
  go_wp2_with fail
  with_reducible refine (CA.out _).mono ?_
  rintro e_ w3 ⟨a0, n0, c0, l0, h0, rfl, hb⟩
  replace HB := Lib.hid (on_below HB.out hb)
  replace p0 := keepc hb p0
  replace p1 := keepc hb p1
  replace p2 := keepc hb p2
  replace p3 := keepc hb p3
  replace p4 := keepc hb p4
  replace p5 := keepc hb p5
  replace p6 := keepc hb p6
  replace q0 := keepc hb q0
  replace q1 := keepc hb q1
  replace q2 := keepc hb q2
  replace q3 := keepc hb q3
  replace q4 := keepc hb q4
  replace q5 := keepc hb q5
  replace q6 := keepc hb q6
  replace lp := Nat.lt_of_lt_of_le lp hb.size
  replace lq := Nat.lt_of_lt_of_le lq hb.size
  clear hb
  go_upto_region 3 with fail
  have hb := below_new w3 (.cells #[.slice a0 n0 c0, .int .i64 l0, .int .i64 h0] 47)
  have kx : (w3.alloc (.cells #[.slice a0 n0 c0, .int .i64 l0, .int .i64 h0] 47)).heap[w3.heap.size]? = some (.cells #[.slice a0 n0 c0, .int .i64 l0, .int .i64 h0] 47 (0, 0)) := World.alloc_heap_new _ _
  obtain ⟨x0, x1, x2⟩ := cells3 kx
  have lx := block_lt x0
  clear kx
  generalize w3.alloc (.cells #[.slice a0 n0 c0, .int .i64 l0, .int .i64 h0] 47) = w4 at *
  replace HB := Lib.hid (on_below HB.out hb)
  replace p0 := keepc hb p0
  replace p1 := keepc hb p1
  replace p2 := keepc hb p2
  replace p3 := keepc hb p3
  replace p4 := keepc hb p4
  replace p5 := keepc hb p5
  replace p6 := keepc hb p6
  replace q0 := keepc hb q0
  replace q1 := keepc hb q1
  replace q2 := keepc hb q2
  replace q3 := keepc hb q3
  replace q4 := keepc hb q4
  replace q5 := keepc hb q5
  replace q6 := keepc hb q6
  replace lp := Nat.lt_of_lt_of_le lp hb.size
  replace lq := Nat.lt_of_lt_of_le lq hb.size
  clear hb
  generalize w3.heap.size = gx at *
  go_wp2_with fail
  with_reducible refine (CB.out _).mono ?_
  rintro e_ w5 ⟨a1, n1, c1, l1, h1, rfl, hb⟩
  replace HB := Lib.hid (on_below HB.out hb)
  replace p0 := keepc hb p0
  replace p1 := keepc hb p1
  replace p2 := keepc hb p2
  replace p3 := keepc hb p3
  replace p4 := keepc hb p4
  replace p5 := keepc hb p5
  replace p6 := keepc hb p6
  replace q0 := keepc hb q0
  replace q1 := keepc hb q1
  replace q2 := keepc hb q2
  replace q3 := keepc hb q3
  replace q4 := keepc hb q4
  replace q5 := keepc hb q5
  replace q6 := keepc hb q6
  replace x0 := keepc hb x0
  replace x1 := keepc hb x1
  replace x2 := keepc hb x2
  replace lp := Nat.lt_of_lt_of_le lp hb.size
  replace lq := Nat.lt_of_lt_of_le lq hb.size
  replace lx := Nat.lt_of_lt_of_le lx hb.size
  clear hb
  go_upto_region 4 with fail
  have hb := below_new w5 (.cells #[.slice a1 n1 c1, .int .i64 l1, .int .i64 h1] 47)
  have ky : (w5.alloc (.cells #[.slice a1 n1 c1, .int .i64 l1, .int .i64 h1] 47)).heap[w5.heap.size]? = some (.cells #[.slice a1 n1 c1, .int .i64 l1, .int .i64 h1] 47 (0, 0)) := World.alloc_heap_new _ _
  obtain ⟨y0, y1, y2⟩ := cells3 ky
  have ly := block_lt y0
  clear ky
  generalize w5.alloc (.cells #[.slice a1 n1 c1, .int .i64 l1, .int .i64 h1] 47) = w6 at *
  replace HB := Lib.hid (on_below HB.out hb)
  replace p0 := keepc hb p0
  replace p1 := keepc hb p1
  replace p2 := keepc hb p2
  replace p3 := keepc hb p3
  replace p4 := keepc hb p4
  replace p5 := keepc hb p5
  replace p6 := keepc hb p6
  replace q0 := keepc hb q0
  replace q1 := keepc hb q1
  replace q2 := keepc hb q2
  replace q3 := keepc hb q3
  replace q4 := keepc hb q4
  replace q5 := keepc hb q5
  replace q6 := keepc hb q6
  replace x0 := keepc hb x0
  replace x1 := keepc hb x1
  replace x2 := keepc hb x2
  replace lp := Nat.lt_of_lt_of_le lp hb.size
  replace lq := Nat.lt_of_lt_of_le lq hb.size
  replace lx := Nat.lt_of_lt_of_le lx hb.size
  clear hb
  generalize w5.heap.size = gy at *
  go_wp2_with fail
  with_reducible refine (CC.out _).mono ?_
  rintro e_ w7 ⟨a2, n2, c2, l2, h2, rfl, hb⟩
  replace HB := Lib.hid (on_below HB.out hb)
  replace p0 := keepc hb p0
  replace p1 := keepc hb p1
  replace p2 := keepc hb p2
  replace p3 := keepc hb p3
  replace p4 := keepc hb p4
  replace p5 := keepc hb p5
  replace p6 := keepc hb p6
  replace q0 := keepc hb q0
  replace q1 := keepc hb q1
  replace q2 := keepc hb q2
  replace q3 := keepc hb q3
  replace q4 := keepc hb q4
  replace q5 := keepc hb q5
  replace q6 := keepc hb q6
  replace x0 := keepc hb x0
  replace x1 := keepc hb x1
  replace x2 := keepc hb x2
  replace y0 := keepc hb y0
  replace y1 := keepc hb y1
  replace y2 := keepc hb y2
  replace lp := Nat.lt_of_lt_of_le lp hb.size
  replace lq := Nat.lt_of_lt_of_le lq hb.size
  replace lx := Nat.lt_of_lt_of_le lx hb.size
  replace ly := Nat.lt_of_lt_of_le ly hb.size
  clear hb
  go_upto_region 5 with fail
  have hb := below_new w7 (.cells #[.slice a2 n2 c2, .int .i64 l2, .int .i64 h2] 47)
  have kz : (w7.alloc (.cells #[.slice a2 n2 c2, .int .i64 l2, .int .i64 h2] 47)).heap[w7.heap.size]? = some (.cells #[.slice a2 n2 c2, .int .i64 l2, .int .i64 h2] 47 (0, 0)) := World.alloc_heap_new _ _
  obtain ⟨z0, z1, z2⟩ := cells3 kz
  have lz := block_lt z0
  clear kz
  generalize w7.alloc (.cells #[.slice a2 n2 c2, .int .i64 l2, .int .i64 h2] 47) = w8 at *
  replace HB := Lib.hid (on_below HB.out hb)
  replace p0 := keepc hb p0
  replace p1 := keepc hb p1
  replace p2 := keepc hb p2
  replace p3 := keepc hb p3
  replace p4 := keepc hb p4
  replace p5 := keepc hb p5
  replace p6 := keepc hb p6
  replace q0 := keepc hb q0
  replace q1 := keepc hb q1
  replace q2 := keepc hb q2
  replace q3 := keepc hb q3
  replace q4 := keepc hb q4
  replace q5 := keepc hb q5
  replace q6 := keepc hb q6
  replace x0 := keepc hb x0
  replace x1 := keepc hb x1
  replace x2 := keepc hb x2
  replace y0 := keepc hb y0
  replace y1 := keepc hb y1
  replace y2 := keepc hb y2
  replace lp := Nat.lt_of_lt_of_le lp hb.size
  replace lq := Nat.lt_of_lt_of_le lq hb.size
  replace lx := Nat.lt_of_lt_of_le lx hb.size
  replace ly := Nat.lt_of_lt_of_le ly hb.size
  clear hb
  generalize w7.heap.size = gz at *
  go_wp2_with fail
  go_ret
  exact ⟨rfl, HB.out⟩
set_option maxRecDepth 100000 in
set_option maxHeartbeats 4000000 in
theorem hds_00 (p q : Pl) (one two : Int) (e1 : HdR p one 0) (e2 : HdR q two 0) (e3 : HdR p two 0) (hp : ¬ 0 < one) (ha : ¬ Apa (hpt p) (p.ez - 2) (p.ez + one) (hpt q) (q.ez - 2) (q.ez + two)) (w : World) :
    Calls Try.prog 8 #[.agg #[.int .i64 p.id, .int .i64 p.row, .int .i64 p.pos, .int .i64 p.ex, .int .i64 p.ey, .int .i64 p.ez, .int .i64 p.kd], .agg #[.int .i64 q.id, .int .i64 q.row, .int .i64 q.pos, .int .i64 q.ex, .int .i64 q.ey, .int .i64 q.ez, .int .i64 q.kd], .int .i64 one, .int .i64 two] w fun e_ w' => e_ = .returned (.bool true) ∧ Below w.heap.size w w' := by
  have CA := Lib.hid (hd_g p one e1)
  have CB := Lib.hid (hd_g q two e2)
  have CC := Lib.hid (hd_g p two e3)
  have KI := Lib.hid (hin_is p one e1 false (by simp [hp]))
  have KA := Lib.hid (hap_is p q one two e1 e2 false (by simp [ha]))
  have KN := Lib.hid (hap_is p p one two e1 e3 false (iff_of_false (by decide) (apa_no p (hdr_zero e1).1.2.1 (hdr_zero e3).1.2.1)))
  have zp : decide (0 < one) = false := by simp [hp]
  obtain ⟨bx, by_, _⟩ := vv_bd (hdr_zero e1).1.1
  obtain ⟨cx, cy, _⟩ := vv_bd (hdr_zero e2).1.1
  have s0 : IntKind.i64.wrap (p.ex - q.ex) = p.ex - q.ex := IntWalk.i64_in _ ⟨by omega, by omega⟩
  have t0 : wrap64 (p.ex - q.ex) = p.ex - q.ex := IntWalk.wrap64_in _ ⟨by omega, by omega⟩
  have s1 : IntKind.i64.wrap (p.ey - q.ey) = p.ey - q.ey := IntWalk.i64_in _ ⟨by omega, by omega⟩
  have t1 : wrap64 (p.ey - q.ey) = p.ey - q.ey := IntWalk.wrap64_in _ ⟨by omega, by omega⟩
  clear bx by_ cx cy
  obtain ⟨⟨r1, r2⟩, r3, r4⟩ := apa_far p q ha
  have d0 : decide (-4 < p.ex - q.ex) = true := decide_eq_true (by omega)
  have d2 : decide (p.ex - q.ex < 4) = true := decide_eq_true (by omega)
  have d1 : decide (-4 < p.ey - q.ey) = true := decide_eq_true (by omega)
  have d3 : decide (p.ey - q.ey < 4) = true := decide_eq_true (by omega)
  clear r1 r2 r3 r4
  clear e1 e2 e3 hp ha
  have p0 : World.cell? ((w.alloc (.cells #[.int .i64 (p.id), .int .i64 (p.row), .int .i64 (p.pos), .int .i64 (p.ex), .int .i64 (p.ey), .int .i64 (p.ez), .int .i64 (p.kd)] 28)).alloc (.cells #[.int .i64 (q.id), .int .i64 (q.row), .int .i64 (q.pos), .int .i64 (q.ex), .int .i64 (q.ey), .int .i64 (q.ez), .int .i64 (q.kd)] 28)) ⟨w.heap.size, 0, none⟩ = some (.int .i64 (p.id)) := by simp [go_sem]
  have p1 : World.cell? ((w.alloc (.cells #[.int .i64 (p.id), .int .i64 (p.row), .int .i64 (p.pos), .int .i64 (p.ex), .int .i64 (p.ey), .int .i64 (p.ez), .int .i64 (p.kd)] 28)).alloc (.cells #[.int .i64 (q.id), .int .i64 (q.row), .int .i64 (q.pos), .int .i64 (q.ex), .int .i64 (q.ey), .int .i64 (q.ez), .int .i64 (q.kd)] 28)) ⟨w.heap.size, 1, none⟩ = some (.int .i64 (p.row)) := by simp [go_sem]
  have p2 : World.cell? ((w.alloc (.cells #[.int .i64 (p.id), .int .i64 (p.row), .int .i64 (p.pos), .int .i64 (p.ex), .int .i64 (p.ey), .int .i64 (p.ez), .int .i64 (p.kd)] 28)).alloc (.cells #[.int .i64 (q.id), .int .i64 (q.row), .int .i64 (q.pos), .int .i64 (q.ex), .int .i64 (q.ey), .int .i64 (q.ez), .int .i64 (q.kd)] 28)) ⟨w.heap.size, 2, none⟩ = some (.int .i64 (p.pos)) := by simp [go_sem]
  have p3 : World.cell? ((w.alloc (.cells #[.int .i64 (p.id), .int .i64 (p.row), .int .i64 (p.pos), .int .i64 (p.ex), .int .i64 (p.ey), .int .i64 (p.ez), .int .i64 (p.kd)] 28)).alloc (.cells #[.int .i64 (q.id), .int .i64 (q.row), .int .i64 (q.pos), .int .i64 (q.ex), .int .i64 (q.ey), .int .i64 (q.ez), .int .i64 (q.kd)] 28)) ⟨w.heap.size, 3, none⟩ = some (.int .i64 (p.ex)) := by simp [go_sem]
  have p4 : World.cell? ((w.alloc (.cells #[.int .i64 (p.id), .int .i64 (p.row), .int .i64 (p.pos), .int .i64 (p.ex), .int .i64 (p.ey), .int .i64 (p.ez), .int .i64 (p.kd)] 28)).alloc (.cells #[.int .i64 (q.id), .int .i64 (q.row), .int .i64 (q.pos), .int .i64 (q.ex), .int .i64 (q.ey), .int .i64 (q.ez), .int .i64 (q.kd)] 28)) ⟨w.heap.size, 4, none⟩ = some (.int .i64 (p.ey)) := by simp [go_sem]
  have p5 : World.cell? ((w.alloc (.cells #[.int .i64 (p.id), .int .i64 (p.row), .int .i64 (p.pos), .int .i64 (p.ex), .int .i64 (p.ey), .int .i64 (p.ez), .int .i64 (p.kd)] 28)).alloc (.cells #[.int .i64 (q.id), .int .i64 (q.row), .int .i64 (q.pos), .int .i64 (q.ex), .int .i64 (q.ey), .int .i64 (q.ez), .int .i64 (q.kd)] 28)) ⟨w.heap.size, 5, none⟩ = some (.int .i64 (p.ez)) := by simp [go_sem]
  have p6 : World.cell? ((w.alloc (.cells #[.int .i64 (p.id), .int .i64 (p.row), .int .i64 (p.pos), .int .i64 (p.ex), .int .i64 (p.ey), .int .i64 (p.ez), .int .i64 (p.kd)] 28)).alloc (.cells #[.int .i64 (q.id), .int .i64 (q.row), .int .i64 (q.pos), .int .i64 (q.ex), .int .i64 (q.ey), .int .i64 (q.ez), .int .i64 (q.kd)] 28)) ⟨w.heap.size, 6, none⟩ = some (.int .i64 (p.kd)) := by simp [go_sem]
  have lp : w.heap.size < ((w.alloc (.cells #[.int .i64 (p.id), .int .i64 (p.row), .int .i64 (p.pos), .int .i64 (p.ex), .int .i64 (p.ey), .int .i64 (p.ez), .int .i64 (p.kd)] 28)).alloc (.cells #[.int .i64 (q.id), .int .i64 (q.row), .int .i64 (q.pos), .int .i64 (q.ex), .int .i64 (q.ey), .int .i64 (q.ez), .int .i64 (q.kd)] 28)).heap.size := by simp <;> omega
  have q0 : World.cell? ((w.alloc (.cells #[.int .i64 (p.id), .int .i64 (p.row), .int .i64 (p.pos), .int .i64 (p.ex), .int .i64 (p.ey), .int .i64 (p.ez), .int .i64 (p.kd)] 28)).alloc (.cells #[.int .i64 (q.id), .int .i64 (q.row), .int .i64 (q.pos), .int .i64 (q.ex), .int .i64 (q.ey), .int .i64 (q.ez), .int .i64 (q.kd)] 28)) ⟨w.heap.size + 1, 0, none⟩ = some (.int .i64 (q.id)) := by simp [go_sem]
  have q1 : World.cell? ((w.alloc (.cells #[.int .i64 (p.id), .int .i64 (p.row), .int .i64 (p.pos), .int .i64 (p.ex), .int .i64 (p.ey), .int .i64 (p.ez), .int .i64 (p.kd)] 28)).alloc (.cells #[.int .i64 (q.id), .int .i64 (q.row), .int .i64 (q.pos), .int .i64 (q.ex), .int .i64 (q.ey), .int .i64 (q.ez), .int .i64 (q.kd)] 28)) ⟨w.heap.size + 1, 1, none⟩ = some (.int .i64 (q.row)) := by simp [go_sem]
  have q2 : World.cell? ((w.alloc (.cells #[.int .i64 (p.id), .int .i64 (p.row), .int .i64 (p.pos), .int .i64 (p.ex), .int .i64 (p.ey), .int .i64 (p.ez), .int .i64 (p.kd)] 28)).alloc (.cells #[.int .i64 (q.id), .int .i64 (q.row), .int .i64 (q.pos), .int .i64 (q.ex), .int .i64 (q.ey), .int .i64 (q.ez), .int .i64 (q.kd)] 28)) ⟨w.heap.size + 1, 2, none⟩ = some (.int .i64 (q.pos)) := by simp [go_sem]
  have q3 : World.cell? ((w.alloc (.cells #[.int .i64 (p.id), .int .i64 (p.row), .int .i64 (p.pos), .int .i64 (p.ex), .int .i64 (p.ey), .int .i64 (p.ez), .int .i64 (p.kd)] 28)).alloc (.cells #[.int .i64 (q.id), .int .i64 (q.row), .int .i64 (q.pos), .int .i64 (q.ex), .int .i64 (q.ey), .int .i64 (q.ez), .int .i64 (q.kd)] 28)) ⟨w.heap.size + 1, 3, none⟩ = some (.int .i64 (q.ex)) := by simp [go_sem]
  have q4 : World.cell? ((w.alloc (.cells #[.int .i64 (p.id), .int .i64 (p.row), .int .i64 (p.pos), .int .i64 (p.ex), .int .i64 (p.ey), .int .i64 (p.ez), .int .i64 (p.kd)] 28)).alloc (.cells #[.int .i64 (q.id), .int .i64 (q.row), .int .i64 (q.pos), .int .i64 (q.ex), .int .i64 (q.ey), .int .i64 (q.ez), .int .i64 (q.kd)] 28)) ⟨w.heap.size + 1, 4, none⟩ = some (.int .i64 (q.ey)) := by simp [go_sem]
  have q5 : World.cell? ((w.alloc (.cells #[.int .i64 (p.id), .int .i64 (p.row), .int .i64 (p.pos), .int .i64 (p.ex), .int .i64 (p.ey), .int .i64 (p.ez), .int .i64 (p.kd)] 28)).alloc (.cells #[.int .i64 (q.id), .int .i64 (q.row), .int .i64 (q.pos), .int .i64 (q.ex), .int .i64 (q.ey), .int .i64 (q.ez), .int .i64 (q.kd)] 28)) ⟨w.heap.size + 1, 5, none⟩ = some (.int .i64 (q.ez)) := by simp [go_sem]
  have q6 : World.cell? ((w.alloc (.cells #[.int .i64 (p.id), .int .i64 (p.row), .int .i64 (p.pos), .int .i64 (p.ex), .int .i64 (p.ey), .int .i64 (p.ez), .int .i64 (p.kd)] 28)).alloc (.cells #[.int .i64 (q.id), .int .i64 (q.row), .int .i64 (q.pos), .int .i64 (q.ex), .int .i64 (q.ey), .int .i64 (q.ez), .int .i64 (q.kd)] 28)) ⟨w.heap.size + 1, 6, none⟩ = some (.int .i64 (q.kd)) := by simp [go_sem]
  have lq : w.heap.size + 1 < ((w.alloc (.cells #[.int .i64 (p.id), .int .i64 (p.row), .int .i64 (p.pos), .int .i64 (p.ex), .int .i64 (p.ey), .int .i64 (p.ez), .int .i64 (p.kd)] 28)).alloc (.cells #[.int .i64 (q.id), .int .i64 (q.row), .int .i64 (q.pos), .int .i64 (q.ex), .int .i64 (q.ey), .int .i64 (q.ez), .int .i64 (q.kd)] 28)).heap.size := by simp <;> omega
  have HB := Lib.hid (show Below w.heap.size w ((w.alloc (.cells #[.int .i64 (p.id), .int .i64 (p.row), .int .i64 (p.pos), .int .i64 (p.ex), .int .i64 (p.ey), .int .i64 (p.ez), .int .i64 (p.kd)] 28)).alloc (.cells #[.int .i64 (q.id), .int .i64 (q.row), .int .i64 (q.pos), .int .i64 (q.ex), .int .i64 (q.ey), .int .i64 (q.ez), .int .i64 (q.kd)] 28)) from (((Below.refl _ _).alloc (by simp <;> omega) _).alloc (by simp <;> omega) _))
  go_enter Try.func8, Try.ntmps8
  go_wp2_with fail
  generalize (w.alloc (.cells #[.int .i64 (p.id), .int .i64 (p.row), .int .i64 (p.pos), .int .i64 (p.ex), .int .i64 (p.ey), .int .i64 (p.ez), .int .i64 (p.kd)] 28)).alloc (.cells #[.int .i64 (q.id), .int .i64 (q.row), .int .i64 (q.pos), .int .i64 (q.ex), .int .i64 (q.ey), .int .i64 (q.ez), .int .i64 (q.kd)] 28) = w1 at *
  with_reducible refine (head12_any _).mono ?_
  rintro e_ w2 ⟨rfl, hb⟩
  replace HB := Lib.hid (on_below HB.out hb)
  replace p0 := keepc hb p0
  replace p1 := keepc hb p1
  replace p2 := keepc hb p2
  replace p3 := keepc hb p3
  replace p4 := keepc hb p4
  replace p5 := keepc hb p5
  replace p6 := keepc hb p6
  replace q0 := keepc hb q0
  replace q1 := keepc hb q1
  replace q2 := keepc hb q2
  replace q3 := keepc hb q3
  replace q4 := keepc hb q4
  replace q5 := keepc hb q5
  replace q6 := keepc hb q6
  replace lp := Nat.lt_of_lt_of_le lp hb.size
  replace lq := Nat.lt_of_lt_of_le lq hb.size
  clear hb
  go_wp2_with fail
  with_reducible refine (CA.out _).mono ?_
  rintro e_ w3 ⟨g0, rfl, hs0, hb⟩
  replace HB := Lib.hid (on_below HB.out hb)
  replace p0 := keepc hb p0
  replace p1 := keepc hb p1
  replace p2 := keepc hb p2
  replace p3 := keepc hb p3
  replace p4 := keepc hb p4
  replace p5 := keepc hb p5
  replace p6 := keepc hb p6
  replace q0 := keepc hb q0
  replace q1 := keepc hb q1
  replace q2 := keepc hb q2
  replace q3 := keepc hb q3
  replace q4 := keepc hb q4
  replace q5 := keepc hb q5
  replace q6 := keepc hb q6
  replace lp := Nat.lt_of_lt_of_le lp hb.size
  replace lq := Nat.lt_of_lt_of_le lq hb.size
  clear hb
  have HS0 := Lib.hid hs0
  clear hs0
  go_upto_region 3 with fail
  have hb := below_new w3 (.cells #[.slice (some ⟨g0, 0, none⟩) 4 4, .int .i64 (p.ez - 2), .int .i64 (p.ez + one)] 47)
  have kx : (w3.alloc (.cells #[.slice (some ⟨g0, 0, none⟩) 4 4, .int .i64 (p.ez - 2), .int .i64 (p.ez + one)] 47)).heap[w3.heap.size]? = some (.cells #[.slice (some ⟨g0, 0, none⟩) 4 4, .int .i64 (p.ez - 2), .int .i64 (p.ez + one)] 47 (0, 0)) := World.alloc_heap_new _ _
  obtain ⟨x0, x1, x2⟩ := cells3 kx
  have lx := block_lt x0
  clear kx
  generalize w3.alloc (.cells #[.slice (some ⟨g0, 0, none⟩) 4 4, .int .i64 (p.ez - 2), .int .i64 (p.ez + one)] 47) = w4 at *
  replace HB := Lib.hid (on_below HB.out hb)
  replace HS0 := Lib.hid (HS0.out.below hb)
  replace p0 := keepc hb p0
  replace p1 := keepc hb p1
  replace p2 := keepc hb p2
  replace p3 := keepc hb p3
  replace p4 := keepc hb p4
  replace p5 := keepc hb p5
  replace p6 := keepc hb p6
  replace q0 := keepc hb q0
  replace q1 := keepc hb q1
  replace q2 := keepc hb q2
  replace q3 := keepc hb q3
  replace q4 := keepc hb q4
  replace q5 := keepc hb q5
  replace q6 := keepc hb q6
  replace lp := Nat.lt_of_lt_of_le lp hb.size
  replace lq := Nat.lt_of_lt_of_le lq hb.size
  clear hb
  generalize w3.heap.size = gx at *
  go_wp2_with fail
  with_reducible refine (CB.out _).mono ?_
  rintro e_ w5 ⟨g1, rfl, hs1, hb⟩
  replace HB := Lib.hid (on_below HB.out hb)
  replace HS0 := Lib.hid (HS0.out.below hb)
  replace p0 := keepc hb p0
  replace p1 := keepc hb p1
  replace p2 := keepc hb p2
  replace p3 := keepc hb p3
  replace p4 := keepc hb p4
  replace p5 := keepc hb p5
  replace p6 := keepc hb p6
  replace q0 := keepc hb q0
  replace q1 := keepc hb q1
  replace q2 := keepc hb q2
  replace q3 := keepc hb q3
  replace q4 := keepc hb q4
  replace q5 := keepc hb q5
  replace q6 := keepc hb q6
  replace x0 := keepc hb x0
  replace x1 := keepc hb x1
  replace x2 := keepc hb x2
  replace lp := Nat.lt_of_lt_of_le lp hb.size
  replace lq := Nat.lt_of_lt_of_le lq hb.size
  replace lx := Nat.lt_of_lt_of_le lx hb.size
  clear hb
  have HS1 := Lib.hid hs1
  clear hs1
  go_upto_region 4 with fail
  have hb := below_new w5 (.cells #[.slice (some ⟨g1, 0, none⟩) 4 4, .int .i64 (q.ez - 2), .int .i64 (q.ez + two)] 47)
  have ky : (w5.alloc (.cells #[.slice (some ⟨g1, 0, none⟩) 4 4, .int .i64 (q.ez - 2), .int .i64 (q.ez + two)] 47)).heap[w5.heap.size]? = some (.cells #[.slice (some ⟨g1, 0, none⟩) 4 4, .int .i64 (q.ez - 2), .int .i64 (q.ez + two)] 47 (0, 0)) := World.alloc_heap_new _ _
  obtain ⟨y0, y1, y2⟩ := cells3 ky
  have ly := block_lt y0
  clear ky
  generalize w5.alloc (.cells #[.slice (some ⟨g1, 0, none⟩) 4 4, .int .i64 (q.ez - 2), .int .i64 (q.ez + two)] 47) = w6 at *
  replace HB := Lib.hid (on_below HB.out hb)
  replace HS0 := Lib.hid (HS0.out.below hb)
  replace HS1 := Lib.hid (HS1.out.below hb)
  replace p0 := keepc hb p0
  replace p1 := keepc hb p1
  replace p2 := keepc hb p2
  replace p3 := keepc hb p3
  replace p4 := keepc hb p4
  replace p5 := keepc hb p5
  replace p6 := keepc hb p6
  replace q0 := keepc hb q0
  replace q1 := keepc hb q1
  replace q2 := keepc hb q2
  replace q3 := keepc hb q3
  replace q4 := keepc hb q4
  replace q5 := keepc hb q5
  replace q6 := keepc hb q6
  replace x0 := keepc hb x0
  replace x1 := keepc hb x1
  replace x2 := keepc hb x2
  replace lp := Nat.lt_of_lt_of_le lp hb.size
  replace lq := Nat.lt_of_lt_of_le lq hb.size
  replace lx := Nat.lt_of_lt_of_le lx hb.size
  clear hb
  generalize w5.heap.size = gy at *
  go_wp2_with fail
  with_reducible refine (CC.out _).mono ?_
  rintro e_ w7 ⟨g2, rfl, hs2, hb⟩
  replace HB := Lib.hid (on_below HB.out hb)
  replace HS0 := Lib.hid (HS0.out.below hb)
  replace HS1 := Lib.hid (HS1.out.below hb)
  replace p0 := keepc hb p0
  replace p1 := keepc hb p1
  replace p2 := keepc hb p2
  replace p3 := keepc hb p3
  replace p4 := keepc hb p4
  replace p5 := keepc hb p5
  replace p6 := keepc hb p6
  replace q0 := keepc hb q0
  replace q1 := keepc hb q1
  replace q2 := keepc hb q2
  replace q3 := keepc hb q3
  replace q4 := keepc hb q4
  replace q5 := keepc hb q5
  replace q6 := keepc hb q6
  replace x0 := keepc hb x0
  replace x1 := keepc hb x1
  replace x2 := keepc hb x2
  replace y0 := keepc hb y0
  replace y1 := keepc hb y1
  replace y2 := keepc hb y2
  replace lp := Nat.lt_of_lt_of_le lp hb.size
  replace lq := Nat.lt_of_lt_of_le lq hb.size
  replace lx := Nat.lt_of_lt_of_le lx hb.size
  replace ly := Nat.lt_of_lt_of_le ly hb.size
  clear hb
  have HS2 := Lib.hid hs2
  clear hs2
  go_upto_region 5 with fail
  have hb := below_new w7 (.cells #[.slice (some ⟨g2, 0, none⟩) 4 4, .int .i64 (p.ez - 2), .int .i64 (p.ez + two)] 47)
  have kz : (w7.alloc (.cells #[.slice (some ⟨g2, 0, none⟩) 4 4, .int .i64 (p.ez - 2), .int .i64 (p.ez + two)] 47)).heap[w7.heap.size]? = some (.cells #[.slice (some ⟨g2, 0, none⟩) 4 4, .int .i64 (p.ez - 2), .int .i64 (p.ez + two)] 47 (0, 0)) := World.alloc_heap_new _ _
  obtain ⟨z0, z1, z2⟩ := cells3 kz
  have lz := block_lt z0
  clear kz
  generalize w7.alloc (.cells #[.slice (some ⟨g2, 0, none⟩) 4 4, .int .i64 (p.ez - 2), .int .i64 (p.ez + two)] 47) = w8 at *
  replace HB := Lib.hid (on_below HB.out hb)
  replace HS0 := Lib.hid (HS0.out.below hb)
  replace HS1 := Lib.hid (HS1.out.below hb)
  replace HS2 := Lib.hid (HS2.out.below hb)
  replace p0 := keepc hb p0
  replace p1 := keepc hb p1
  replace p2 := keepc hb p2
  replace p3 := keepc hb p3
  replace p4 := keepc hb p4
  replace p5 := keepc hb p5
  replace p6 := keepc hb p6
  replace q0 := keepc hb q0
  replace q1 := keepc hb q1
  replace q2 := keepc hb q2
  replace q3 := keepc hb q3
  replace q4 := keepc hb q4
  replace q5 := keepc hb q5
  replace q6 := keepc hb q6
  replace x0 := keepc hb x0
  replace x1 := keepc hb x1
  replace x2 := keepc hb x2
  replace y0 := keepc hb y0
  replace y1 := keepc hb y1
  replace y2 := keepc hb y2
  replace lp := Nat.lt_of_lt_of_le lp hb.size
  replace lq := Nat.lt_of_lt_of_le lq hb.size
  replace lx := Nat.lt_of_lt_of_le lx hb.size
  replace ly := Nat.lt_of_lt_of_le ly hb.size
  clear hb
  generalize w7.heap.size = gz at *
  go_wp2_with fail
  with_reducible refine (KI.out _ _ HS0.out).mono ?_
  rintro e_ w9 ⟨rfl, hb⟩
  replace HB := Lib.hid (on_below HB.out hb)
  replace HS0 := Lib.hid (HS0.out.below hb)
  replace HS1 := Lib.hid (HS1.out.below hb)
  replace HS2 := Lib.hid (HS2.out.below hb)
  replace p0 := keepc hb p0
  replace p1 := keepc hb p1
  replace p2 := keepc hb p2
  replace p3 := keepc hb p3
  replace p4 := keepc hb p4
  replace p5 := keepc hb p5
  replace p6 := keepc hb p6
  replace q0 := keepc hb q0
  replace q1 := keepc hb q1
  replace q2 := keepc hb q2
  replace q3 := keepc hb q3
  replace q4 := keepc hb q4
  replace q5 := keepc hb q5
  replace q6 := keepc hb q6
  replace x0 := keepc hb x0
  replace x1 := keepc hb x1
  replace x2 := keepc hb x2
  replace y0 := keepc hb y0
  replace y1 := keepc hb y1
  replace y2 := keepc hb y2
  replace z0 := keepc hb z0
  replace z1 := keepc hb z1
  replace z2 := keepc hb z2
  replace lp := Nat.lt_of_lt_of_le lp hb.size
  replace lq := Nat.lt_of_lt_of_le lq hb.size
  replace lx := Nat.lt_of_lt_of_le lx hb.size
  replace ly := Nat.lt_of_lt_of_le ly hb.size
  replace lz := Nat.lt_of_lt_of_le lz hb.size
  clear hb
  go_wp2_with fail
  with_reducible refine (KA.out _ _ _ HS0.out HS1.out).mono ?_
  rintro e_ w10 ⟨rfl, hb⟩
  replace HB := Lib.hid (on_below HB.out hb)
  replace HS0 := Lib.hid (HS0.out.below hb)
  replace HS1 := Lib.hid (HS1.out.below hb)
  replace HS2 := Lib.hid (HS2.out.below hb)
  replace p0 := keepc hb p0
  replace p1 := keepc hb p1
  replace p2 := keepc hb p2
  replace p3 := keepc hb p3
  replace p4 := keepc hb p4
  replace p5 := keepc hb p5
  replace p6 := keepc hb p6
  replace q0 := keepc hb q0
  replace q1 := keepc hb q1
  replace q2 := keepc hb q2
  replace q3 := keepc hb q3
  replace q4 := keepc hb q4
  replace q5 := keepc hb q5
  replace q6 := keepc hb q6
  replace x0 := keepc hb x0
  replace x1 := keepc hb x1
  replace x2 := keepc hb x2
  replace y0 := keepc hb y0
  replace y1 := keepc hb y1
  replace y2 := keepc hb y2
  replace z0 := keepc hb z0
  replace z1 := keepc hb z1
  replace z2 := keepc hb z2
  replace lp := Nat.lt_of_lt_of_le lp hb.size
  replace lq := Nat.lt_of_lt_of_le lq hb.size
  replace lx := Nat.lt_of_lt_of_le lx hb.size
  replace ly := Nat.lt_of_lt_of_le ly hb.size
  replace lz := Nat.lt_of_lt_of_le lz hb.size
  clear hb
  go_wp2_with fail
  with_reducible refine (KN.out _ _ _ HS0.out HS2.out).mono ?_
  rintro e_ w11 ⟨rfl, hb⟩
  replace HB := Lib.hid (on_below HB.out hb)
  replace HS0 := Lib.hid (HS0.out.below hb)
  replace HS1 := Lib.hid (HS1.out.below hb)
  replace HS2 := Lib.hid (HS2.out.below hb)
  replace p0 := keepc hb p0
  replace p1 := keepc hb p1
  replace p2 := keepc hb p2
  replace p3 := keepc hb p3
  replace p4 := keepc hb p4
  replace p5 := keepc hb p5
  replace p6 := keepc hb p6
  replace q0 := keepc hb q0
  replace q1 := keepc hb q1
  replace q2 := keepc hb q2
  replace q3 := keepc hb q3
  replace q4 := keepc hb q4
  replace q5 := keepc hb q5
  replace q6 := keepc hb q6
  replace x0 := keepc hb x0
  replace x1 := keepc hb x1
  replace x2 := keepc hb x2
  replace y0 := keepc hb y0
  replace y1 := keepc hb y1
  replace y2 := keepc hb y2
  replace z0 := keepc hb z0
  replace z1 := keepc hb z1
  replace z2 := keepc hb z2
  replace lp := Nat.lt_of_lt_of_le lp hb.size
  replace lq := Nat.lt_of_lt_of_le lq hb.size
  replace lx := Nat.lt_of_lt_of_le lx hb.size
  replace ly := Nat.lt_of_lt_of_le ly hb.size
  replace lz := Nat.lt_of_lt_of_le lz hb.size
  clear hb
  go_wp2_with fail
  go_quiet (fail)
  have hb : Below w11.heap.size w11 (w11.drewN nq) := below_drewN' (Below.refl _ _) nq
  generalize w11.drewN nq = w12 at *
  replace HB := Lib.hid (on_below HB.out hb)
  replace HS0 := Lib.hid (HS0.out.below hb)
  replace HS1 := Lib.hid (HS1.out.below hb)
  replace HS2 := Lib.hid (HS2.out.below hb)
  replace p0 := keepc hb p0
  replace p1 := keepc hb p1
  replace p2 := keepc hb p2
  replace p3 := keepc hb p3
  replace p4 := keepc hb p4
  replace p5 := keepc hb p5
  replace p6 := keepc hb p6
  replace q0 := keepc hb q0
  replace q1 := keepc hb q1
  replace q2 := keepc hb q2
  replace q3 := keepc hb q3
  replace q4 := keepc hb q4
  replace q5 := keepc hb q5
  replace q6 := keepc hb q6
  replace x0 := keepc hb x0
  replace x1 := keepc hb x1
  replace x2 := keepc hb x2
  replace y0 := keepc hb y0
  replace y1 := keepc hb y1
  replace y2 := keepc hb y2
  replace z0 := keepc hb z0
  replace z1 := keepc hb z1
  replace z2 := keepc hb z2
  replace lp := Nat.lt_of_lt_of_le lp hb.size
  replace lq := Nat.lt_of_lt_of_le lq hb.size
  replace lx := Nat.lt_of_lt_of_le lx hb.size
  replace ly := Nat.lt_of_lt_of_le ly hb.size
  replace lz := Nat.lt_of_lt_of_le lz hb.size
  clear hb
  go_wp2_with fail
  go_ret
  exact ⟨rfl, HB.out⟩
set_option maxRecDepth 100000 in
set_option maxHeartbeats 4000000 in
theorem hds_01 (p q : Pl) (one two : Int) (e1 : HdR p one 0) (e2 : HdR q two 0) (e3 : HdR p two 0) (hp : ¬ 0 < one) (ha : Apa (hpt p) (p.ez - 2) (p.ez + one) (hpt q) (q.ez - 2) (q.ez + two)) (w : World) :
    Calls Try.prog 8 #[.agg #[.int .i64 p.id, .int .i64 p.row, .int .i64 p.pos, .int .i64 p.ex, .int .i64 p.ey, .int .i64 p.ez, .int .i64 p.kd], .agg #[.int .i64 q.id, .int .i64 q.row, .int .i64 q.pos, .int .i64 q.ex, .int .i64 q.ey, .int .i64 q.ez, .int .i64 q.kd], .int .i64 one, .int .i64 two] w fun e_ w' => e_ = .returned (.bool true) ∧ Below w.heap.size w w' := by
  have CA := Lib.hid (hd_g p one e1)
  have CB := Lib.hid (hd_g q two e2)
  have CC := Lib.hid (hd_g p two e3)
  have KI := Lib.hid (hin_is p one e1 false (by simp [hp]))
  have KA := Lib.hid (hap_is p q one two e1 e2 true (by simp [ha]))
  have KN := Lib.hid (hap_is p p one two e1 e3 false (iff_of_false (by decide) (apa_no p (hdr_zero e1).1.2.1 (hdr_zero e3).1.2.1)))
  have zp : decide (0 < one) = false := by simp [hp]
  obtain ⟨bx, by_, _⟩ := vv_bd (hdr_zero e1).1.1
  obtain ⟨cx, cy, _⟩ := vv_bd (hdr_zero e2).1.1
  have s0 : IntKind.i64.wrap (p.ex - q.ex) = p.ex - q.ex := IntWalk.i64_in _ ⟨by omega, by omega⟩
  have t0 : wrap64 (p.ex - q.ex) = p.ex - q.ex := IntWalk.wrap64_in _ ⟨by omega, by omega⟩
  have s1 : IntKind.i64.wrap (p.ey - q.ey) = p.ey - q.ey := IntWalk.i64_in _ ⟨by omega, by omega⟩
  have t1 : wrap64 (p.ey - q.ey) = p.ey - q.ey := IntWalk.wrap64_in _ ⟨by omega, by omega⟩
  clear bx by_ cx cy
  clear e1 e2 e3 hp ha
  have p0 : World.cell? ((w.alloc (.cells #[.int .i64 (p.id), .int .i64 (p.row), .int .i64 (p.pos), .int .i64 (p.ex), .int .i64 (p.ey), .int .i64 (p.ez), .int .i64 (p.kd)] 28)).alloc (.cells #[.int .i64 (q.id), .int .i64 (q.row), .int .i64 (q.pos), .int .i64 (q.ex), .int .i64 (q.ey), .int .i64 (q.ez), .int .i64 (q.kd)] 28)) ⟨w.heap.size, 0, none⟩ = some (.int .i64 (p.id)) := by simp [go_sem]
  have p1 : World.cell? ((w.alloc (.cells #[.int .i64 (p.id), .int .i64 (p.row), .int .i64 (p.pos), .int .i64 (p.ex), .int .i64 (p.ey), .int .i64 (p.ez), .int .i64 (p.kd)] 28)).alloc (.cells #[.int .i64 (q.id), .int .i64 (q.row), .int .i64 (q.pos), .int .i64 (q.ex), .int .i64 (q.ey), .int .i64 (q.ez), .int .i64 (q.kd)] 28)) ⟨w.heap.size, 1, none⟩ = some (.int .i64 (p.row)) := by simp [go_sem]
  have p2 : World.cell? ((w.alloc (.cells #[.int .i64 (p.id), .int .i64 (p.row), .int .i64 (p.pos), .int .i64 (p.ex), .int .i64 (p.ey), .int .i64 (p.ez), .int .i64 (p.kd)] 28)).alloc (.cells #[.int .i64 (q.id), .int .i64 (q.row), .int .i64 (q.pos), .int .i64 (q.ex), .int .i64 (q.ey), .int .i64 (q.ez), .int .i64 (q.kd)] 28)) ⟨w.heap.size, 2, none⟩ = some (.int .i64 (p.pos)) := by simp [go_sem]
  have p3 : World.cell? ((w.alloc (.cells #[.int .i64 (p.id), .int .i64 (p.row), .int .i64 (p.pos), .int .i64 (p.ex), .int .i64 (p.ey), .int .i64 (p.ez), .int .i64 (p.kd)] 28)).alloc (.cells #[.int .i64 (q.id), .int .i64 (q.row), .int .i64 (q.pos), .int .i64 (q.ex), .int .i64 (q.ey), .int .i64 (q.ez), .int .i64 (q.kd)] 28)) ⟨w.heap.size, 3, none⟩ = some (.int .i64 (p.ex)) := by simp [go_sem]
  have p4 : World.cell? ((w.alloc (.cells #[.int .i64 (p.id), .int .i64 (p.row), .int .i64 (p.pos), .int .i64 (p.ex), .int .i64 (p.ey), .int .i64 (p.ez), .int .i64 (p.kd)] 28)).alloc (.cells #[.int .i64 (q.id), .int .i64 (q.row), .int .i64 (q.pos), .int .i64 (q.ex), .int .i64 (q.ey), .int .i64 (q.ez), .int .i64 (q.kd)] 28)) ⟨w.heap.size, 4, none⟩ = some (.int .i64 (p.ey)) := by simp [go_sem]
  have p5 : World.cell? ((w.alloc (.cells #[.int .i64 (p.id), .int .i64 (p.row), .int .i64 (p.pos), .int .i64 (p.ex), .int .i64 (p.ey), .int .i64 (p.ez), .int .i64 (p.kd)] 28)).alloc (.cells #[.int .i64 (q.id), .int .i64 (q.row), .int .i64 (q.pos), .int .i64 (q.ex), .int .i64 (q.ey), .int .i64 (q.ez), .int .i64 (q.kd)] 28)) ⟨w.heap.size, 5, none⟩ = some (.int .i64 (p.ez)) := by simp [go_sem]
  have p6 : World.cell? ((w.alloc (.cells #[.int .i64 (p.id), .int .i64 (p.row), .int .i64 (p.pos), .int .i64 (p.ex), .int .i64 (p.ey), .int .i64 (p.ez), .int .i64 (p.kd)] 28)).alloc (.cells #[.int .i64 (q.id), .int .i64 (q.row), .int .i64 (q.pos), .int .i64 (q.ex), .int .i64 (q.ey), .int .i64 (q.ez), .int .i64 (q.kd)] 28)) ⟨w.heap.size, 6, none⟩ = some (.int .i64 (p.kd)) := by simp [go_sem]
  have lp : w.heap.size < ((w.alloc (.cells #[.int .i64 (p.id), .int .i64 (p.row), .int .i64 (p.pos), .int .i64 (p.ex), .int .i64 (p.ey), .int .i64 (p.ez), .int .i64 (p.kd)] 28)).alloc (.cells #[.int .i64 (q.id), .int .i64 (q.row), .int .i64 (q.pos), .int .i64 (q.ex), .int .i64 (q.ey), .int .i64 (q.ez), .int .i64 (q.kd)] 28)).heap.size := by simp <;> omega
  have q0 : World.cell? ((w.alloc (.cells #[.int .i64 (p.id), .int .i64 (p.row), .int .i64 (p.pos), .int .i64 (p.ex), .int .i64 (p.ey), .int .i64 (p.ez), .int .i64 (p.kd)] 28)).alloc (.cells #[.int .i64 (q.id), .int .i64 (q.row), .int .i64 (q.pos), .int .i64 (q.ex), .int .i64 (q.ey), .int .i64 (q.ez), .int .i64 (q.kd)] 28)) ⟨w.heap.size + 1, 0, none⟩ = some (.int .i64 (q.id)) := by simp [go_sem]
  have q1 : World.cell? ((w.alloc (.cells #[.int .i64 (p.id), .int .i64 (p.row), .int .i64 (p.pos), .int .i64 (p.ex), .int .i64 (p.ey), .int .i64 (p.ez), .int .i64 (p.kd)] 28)).alloc (.cells #[.int .i64 (q.id), .int .i64 (q.row), .int .i64 (q.pos), .int .i64 (q.ex), .int .i64 (q.ey), .int .i64 (q.ez), .int .i64 (q.kd)] 28)) ⟨w.heap.size + 1, 1, none⟩ = some (.int .i64 (q.row)) := by simp [go_sem]
  have q2 : World.cell? ((w.alloc (.cells #[.int .i64 (p.id), .int .i64 (p.row), .int .i64 (p.pos), .int .i64 (p.ex), .int .i64 (p.ey), .int .i64 (p.ez), .int .i64 (p.kd)] 28)).alloc (.cells #[.int .i64 (q.id), .int .i64 (q.row), .int .i64 (q.pos), .int .i64 (q.ex), .int .i64 (q.ey), .int .i64 (q.ez), .int .i64 (q.kd)] 28)) ⟨w.heap.size + 1, 2, none⟩ = some (.int .i64 (q.pos)) := by simp [go_sem]
  have q3 : World.cell? ((w.alloc (.cells #[.int .i64 (p.id), .int .i64 (p.row), .int .i64 (p.pos), .int .i64 (p.ex), .int .i64 (p.ey), .int .i64 (p.ez), .int .i64 (p.kd)] 28)).alloc (.cells #[.int .i64 (q.id), .int .i64 (q.row), .int .i64 (q.pos), .int .i64 (q.ex), .int .i64 (q.ey), .int .i64 (q.ez), .int .i64 (q.kd)] 28)) ⟨w.heap.size + 1, 3, none⟩ = some (.int .i64 (q.ex)) := by simp [go_sem]
  have q4 : World.cell? ((w.alloc (.cells #[.int .i64 (p.id), .int .i64 (p.row), .int .i64 (p.pos), .int .i64 (p.ex), .int .i64 (p.ey), .int .i64 (p.ez), .int .i64 (p.kd)] 28)).alloc (.cells #[.int .i64 (q.id), .int .i64 (q.row), .int .i64 (q.pos), .int .i64 (q.ex), .int .i64 (q.ey), .int .i64 (q.ez), .int .i64 (q.kd)] 28)) ⟨w.heap.size + 1, 4, none⟩ = some (.int .i64 (q.ey)) := by simp [go_sem]
  have q5 : World.cell? ((w.alloc (.cells #[.int .i64 (p.id), .int .i64 (p.row), .int .i64 (p.pos), .int .i64 (p.ex), .int .i64 (p.ey), .int .i64 (p.ez), .int .i64 (p.kd)] 28)).alloc (.cells #[.int .i64 (q.id), .int .i64 (q.row), .int .i64 (q.pos), .int .i64 (q.ex), .int .i64 (q.ey), .int .i64 (q.ez), .int .i64 (q.kd)] 28)) ⟨w.heap.size + 1, 5, none⟩ = some (.int .i64 (q.ez)) := by simp [go_sem]
  have q6 : World.cell? ((w.alloc (.cells #[.int .i64 (p.id), .int .i64 (p.row), .int .i64 (p.pos), .int .i64 (p.ex), .int .i64 (p.ey), .int .i64 (p.ez), .int .i64 (p.kd)] 28)).alloc (.cells #[.int .i64 (q.id), .int .i64 (q.row), .int .i64 (q.pos), .int .i64 (q.ex), .int .i64 (q.ey), .int .i64 (q.ez), .int .i64 (q.kd)] 28)) ⟨w.heap.size + 1, 6, none⟩ = some (.int .i64 (q.kd)) := by simp [go_sem]
  have lq : w.heap.size + 1 < ((w.alloc (.cells #[.int .i64 (p.id), .int .i64 (p.row), .int .i64 (p.pos), .int .i64 (p.ex), .int .i64 (p.ey), .int .i64 (p.ez), .int .i64 (p.kd)] 28)).alloc (.cells #[.int .i64 (q.id), .int .i64 (q.row), .int .i64 (q.pos), .int .i64 (q.ex), .int .i64 (q.ey), .int .i64 (q.ez), .int .i64 (q.kd)] 28)).heap.size := by simp <;> omega
  have HB := Lib.hid (show Below w.heap.size w ((w.alloc (.cells #[.int .i64 (p.id), .int .i64 (p.row), .int .i64 (p.pos), .int .i64 (p.ex), .int .i64 (p.ey), .int .i64 (p.ez), .int .i64 (p.kd)] 28)).alloc (.cells #[.int .i64 (q.id), .int .i64 (q.row), .int .i64 (q.pos), .int .i64 (q.ex), .int .i64 (q.ey), .int .i64 (q.ez), .int .i64 (q.kd)] 28)) from (((Below.refl _ _).alloc (by simp <;> omega) _).alloc (by simp <;> omega) _))
  go_enter Try.func8, Try.ntmps8
  go_wp2_with fail
  generalize (w.alloc (.cells #[.int .i64 (p.id), .int .i64 (p.row), .int .i64 (p.pos), .int .i64 (p.ex), .int .i64 (p.ey), .int .i64 (p.ez), .int .i64 (p.kd)] 28)).alloc (.cells #[.int .i64 (q.id), .int .i64 (q.row), .int .i64 (q.pos), .int .i64 (q.ex), .int .i64 (q.ey), .int .i64 (q.ez), .int .i64 (q.kd)] 28) = w1 at *
  with_reducible refine (head12_any _).mono ?_
  rintro e_ w2 ⟨rfl, hb⟩
  replace HB := Lib.hid (on_below HB.out hb)
  replace p0 := keepc hb p0
  replace p1 := keepc hb p1
  replace p2 := keepc hb p2
  replace p3 := keepc hb p3
  replace p4 := keepc hb p4
  replace p5 := keepc hb p5
  replace p6 := keepc hb p6
  replace q0 := keepc hb q0
  replace q1 := keepc hb q1
  replace q2 := keepc hb q2
  replace q3 := keepc hb q3
  replace q4 := keepc hb q4
  replace q5 := keepc hb q5
  replace q6 := keepc hb q6
  replace lp := Nat.lt_of_lt_of_le lp hb.size
  replace lq := Nat.lt_of_lt_of_le lq hb.size
  clear hb
  go_wp2_with fail
  with_reducible refine (CA.out _).mono ?_
  rintro e_ w3 ⟨g0, rfl, hs0, hb⟩
  replace HB := Lib.hid (on_below HB.out hb)
  replace p0 := keepc hb p0
  replace p1 := keepc hb p1
  replace p2 := keepc hb p2
  replace p3 := keepc hb p3
  replace p4 := keepc hb p4
  replace p5 := keepc hb p5
  replace p6 := keepc hb p6
  replace q0 := keepc hb q0
  replace q1 := keepc hb q1
  replace q2 := keepc hb q2
  replace q3 := keepc hb q3
  replace q4 := keepc hb q4
  replace q5 := keepc hb q5
  replace q6 := keepc hb q6
  replace lp := Nat.lt_of_lt_of_le lp hb.size
  replace lq := Nat.lt_of_lt_of_le lq hb.size
  clear hb
  have HS0 := Lib.hid hs0
  clear hs0
  go_upto_region 3 with fail
  have hb := below_new w3 (.cells #[.slice (some ⟨g0, 0, none⟩) 4 4, .int .i64 (p.ez - 2), .int .i64 (p.ez + one)] 47)
  have kx : (w3.alloc (.cells #[.slice (some ⟨g0, 0, none⟩) 4 4, .int .i64 (p.ez - 2), .int .i64 (p.ez + one)] 47)).heap[w3.heap.size]? = some (.cells #[.slice (some ⟨g0, 0, none⟩) 4 4, .int .i64 (p.ez - 2), .int .i64 (p.ez + one)] 47 (0, 0)) := World.alloc_heap_new _ _
  obtain ⟨x0, x1, x2⟩ := cells3 kx
  have lx := block_lt x0
  clear kx
  generalize w3.alloc (.cells #[.slice (some ⟨g0, 0, none⟩) 4 4, .int .i64 (p.ez - 2), .int .i64 (p.ez + one)] 47) = w4 at *
  replace HB := Lib.hid (on_below HB.out hb)
  replace HS0 := Lib.hid (HS0.out.below hb)
  replace p0 := keepc hb p0
  replace p1 := keepc hb p1
  replace p2 := keepc hb p2
  replace p3 := keepc hb p3
  replace p4 := keepc hb p4
  replace p5 := keepc hb p5
  replace p6 := keepc hb p6
  replace q0 := keepc hb q0
  replace q1 := keepc hb q1
  replace q2 := keepc hb q2
  replace q3 := keepc hb q3
  replace q4 := keepc hb q4
  replace q5 := keepc hb q5
  replace q6 := keepc hb q6
  replace lp := Nat.lt_of_lt_of_le lp hb.size
  replace lq := Nat.lt_of_lt_of_le lq hb.size
  clear hb
  generalize w3.heap.size = gx at *
  go_wp2_with fail
  with_reducible refine (CB.out _).mono ?_
  rintro e_ w5 ⟨g1, rfl, hs1, hb⟩
  replace HB := Lib.hid (on_below HB.out hb)
  replace HS0 := Lib.hid (HS0.out.below hb)
  replace p0 := keepc hb p0
  replace p1 := keepc hb p1
  replace p2 := keepc hb p2
  replace p3 := keepc hb p3
  replace p4 := keepc hb p4
  replace p5 := keepc hb p5
  replace p6 := keepc hb p6
  replace q0 := keepc hb q0
  replace q1 := keepc hb q1
  replace q2 := keepc hb q2
  replace q3 := keepc hb q3
  replace q4 := keepc hb q4
  replace q5 := keepc hb q5
  replace q6 := keepc hb q6
  replace x0 := keepc hb x0
  replace x1 := keepc hb x1
  replace x2 := keepc hb x2
  replace lp := Nat.lt_of_lt_of_le lp hb.size
  replace lq := Nat.lt_of_lt_of_le lq hb.size
  replace lx := Nat.lt_of_lt_of_le lx hb.size
  clear hb
  have HS1 := Lib.hid hs1
  clear hs1
  go_upto_region 4 with fail
  have hb := below_new w5 (.cells #[.slice (some ⟨g1, 0, none⟩) 4 4, .int .i64 (q.ez - 2), .int .i64 (q.ez + two)] 47)
  have ky : (w5.alloc (.cells #[.slice (some ⟨g1, 0, none⟩) 4 4, .int .i64 (q.ez - 2), .int .i64 (q.ez + two)] 47)).heap[w5.heap.size]? = some (.cells #[.slice (some ⟨g1, 0, none⟩) 4 4, .int .i64 (q.ez - 2), .int .i64 (q.ez + two)] 47 (0, 0)) := World.alloc_heap_new _ _
  obtain ⟨y0, y1, y2⟩ := cells3 ky
  have ly := block_lt y0
  clear ky
  generalize w5.alloc (.cells #[.slice (some ⟨g1, 0, none⟩) 4 4, .int .i64 (q.ez - 2), .int .i64 (q.ez + two)] 47) = w6 at *
  replace HB := Lib.hid (on_below HB.out hb)
  replace HS0 := Lib.hid (HS0.out.below hb)
  replace HS1 := Lib.hid (HS1.out.below hb)
  replace p0 := keepc hb p0
  replace p1 := keepc hb p1
  replace p2 := keepc hb p2
  replace p3 := keepc hb p3
  replace p4 := keepc hb p4
  replace p5 := keepc hb p5
  replace p6 := keepc hb p6
  replace q0 := keepc hb q0
  replace q1 := keepc hb q1
  replace q2 := keepc hb q2
  replace q3 := keepc hb q3
  replace q4 := keepc hb q4
  replace q5 := keepc hb q5
  replace q6 := keepc hb q6
  replace x0 := keepc hb x0
  replace x1 := keepc hb x1
  replace x2 := keepc hb x2
  replace lp := Nat.lt_of_lt_of_le lp hb.size
  replace lq := Nat.lt_of_lt_of_le lq hb.size
  replace lx := Nat.lt_of_lt_of_le lx hb.size
  clear hb
  generalize w5.heap.size = gy at *
  go_wp2_with fail
  with_reducible refine (CC.out _).mono ?_
  rintro e_ w7 ⟨g2, rfl, hs2, hb⟩
  replace HB := Lib.hid (on_below HB.out hb)
  replace HS0 := Lib.hid (HS0.out.below hb)
  replace HS1 := Lib.hid (HS1.out.below hb)
  replace p0 := keepc hb p0
  replace p1 := keepc hb p1
  replace p2 := keepc hb p2
  replace p3 := keepc hb p3
  replace p4 := keepc hb p4
  replace p5 := keepc hb p5
  replace p6 := keepc hb p6
  replace q0 := keepc hb q0
  replace q1 := keepc hb q1
  replace q2 := keepc hb q2
  replace q3 := keepc hb q3
  replace q4 := keepc hb q4
  replace q5 := keepc hb q5
  replace q6 := keepc hb q6
  replace x0 := keepc hb x0
  replace x1 := keepc hb x1
  replace x2 := keepc hb x2
  replace y0 := keepc hb y0
  replace y1 := keepc hb y1
  replace y2 := keepc hb y2
  replace lp := Nat.lt_of_lt_of_le lp hb.size
  replace lq := Nat.lt_of_lt_of_le lq hb.size
  replace lx := Nat.lt_of_lt_of_le lx hb.size
  replace ly := Nat.lt_of_lt_of_le ly hb.size
  clear hb
  have HS2 := Lib.hid hs2
  clear hs2
  go_upto_region 5 with fail
  have hb := below_new w7 (.cells #[.slice (some ⟨g2, 0, none⟩) 4 4, .int .i64 (p.ez - 2), .int .i64 (p.ez + two)] 47)
  have kz : (w7.alloc (.cells #[.slice (some ⟨g2, 0, none⟩) 4 4, .int .i64 (p.ez - 2), .int .i64 (p.ez + two)] 47)).heap[w7.heap.size]? = some (.cells #[.slice (some ⟨g2, 0, none⟩) 4 4, .int .i64 (p.ez - 2), .int .i64 (p.ez + two)] 47 (0, 0)) := World.alloc_heap_new _ _
  obtain ⟨z0, z1, z2⟩ := cells3 kz
  have lz := block_lt z0
  clear kz
  generalize w7.alloc (.cells #[.slice (some ⟨g2, 0, none⟩) 4 4, .int .i64 (p.ez - 2), .int .i64 (p.ez + two)] 47) = w8 at *
  replace HB := Lib.hid (on_below HB.out hb)
  replace HS0 := Lib.hid (HS0.out.below hb)
  replace HS1 := Lib.hid (HS1.out.below hb)
  replace HS2 := Lib.hid (HS2.out.below hb)
  replace p0 := keepc hb p0
  replace p1 := keepc hb p1
  replace p2 := keepc hb p2
  replace p3 := keepc hb p3
  replace p4 := keepc hb p4
  replace p5 := keepc hb p5
  replace p6 := keepc hb p6
  replace q0 := keepc hb q0
  replace q1 := keepc hb q1
  replace q2 := keepc hb q2
  replace q3 := keepc hb q3
  replace q4 := keepc hb q4
  replace q5 := keepc hb q5
  replace q6 := keepc hb q6
  replace x0 := keepc hb x0
  replace x1 := keepc hb x1
  replace x2 := keepc hb x2
  replace y0 := keepc hb y0
  replace y1 := keepc hb y1
  replace y2 := keepc hb y2
  replace lp := Nat.lt_of_lt_of_le lp hb.size
  replace lq := Nat.lt_of_lt_of_le lq hb.size
  replace lx := Nat.lt_of_lt_of_le lx hb.size
  replace ly := Nat.lt_of_lt_of_le ly hb.size
  clear hb
  generalize w7.heap.size = gz at *
  go_wp2_with fail
  with_reducible refine (KI.out _ _ HS0.out).mono ?_
  rintro e_ w9 ⟨rfl, hb⟩
  replace HB := Lib.hid (on_below HB.out hb)
  replace HS0 := Lib.hid (HS0.out.below hb)
  replace HS1 := Lib.hid (HS1.out.below hb)
  replace HS2 := Lib.hid (HS2.out.below hb)
  replace p0 := keepc hb p0
  replace p1 := keepc hb p1
  replace p2 := keepc hb p2
  replace p3 := keepc hb p3
  replace p4 := keepc hb p4
  replace p5 := keepc hb p5
  replace p6 := keepc hb p6
  replace q0 := keepc hb q0
  replace q1 := keepc hb q1
  replace q2 := keepc hb q2
  replace q3 := keepc hb q3
  replace q4 := keepc hb q4
  replace q5 := keepc hb q5
  replace q6 := keepc hb q6
  replace x0 := keepc hb x0
  replace x1 := keepc hb x1
  replace x2 := keepc hb x2
  replace y0 := keepc hb y0
  replace y1 := keepc hb y1
  replace y2 := keepc hb y2
  replace z0 := keepc hb z0
  replace z1 := keepc hb z1
  replace z2 := keepc hb z2
  replace lp := Nat.lt_of_lt_of_le lp hb.size
  replace lq := Nat.lt_of_lt_of_le lq hb.size
  replace lx := Nat.lt_of_lt_of_le lx hb.size
  replace ly := Nat.lt_of_lt_of_le ly hb.size
  replace lz := Nat.lt_of_lt_of_le lz hb.size
  clear hb
  go_wp2_with fail
  with_reducible refine (KA.out _ _ _ HS0.out HS1.out).mono ?_
  rintro e_ w10 ⟨rfl, hb⟩
  replace HB := Lib.hid (on_below HB.out hb)
  replace HS0 := Lib.hid (HS0.out.below hb)
  replace HS1 := Lib.hid (HS1.out.below hb)
  replace HS2 := Lib.hid (HS2.out.below hb)
  replace p0 := keepc hb p0
  replace p1 := keepc hb p1
  replace p2 := keepc hb p2
  replace p3 := keepc hb p3
  replace p4 := keepc hb p4
  replace p5 := keepc hb p5
  replace p6 := keepc hb p6
  replace q0 := keepc hb q0
  replace q1 := keepc hb q1
  replace q2 := keepc hb q2
  replace q3 := keepc hb q3
  replace q4 := keepc hb q4
  replace q5 := keepc hb q5
  replace q6 := keepc hb q6
  replace x0 := keepc hb x0
  replace x1 := keepc hb x1
  replace x2 := keepc hb x2
  replace y0 := keepc hb y0
  replace y1 := keepc hb y1
  replace y2 := keepc hb y2
  replace z0 := keepc hb z0
  replace z1 := keepc hb z1
  replace z2 := keepc hb z2
  replace lp := Nat.lt_of_lt_of_le lp hb.size
  replace lq := Nat.lt_of_lt_of_le lq hb.size
  replace lx := Nat.lt_of_lt_of_le lx hb.size
  replace ly := Nat.lt_of_lt_of_le ly hb.size
  replace lz := Nat.lt_of_lt_of_le lz hb.size
  clear hb
  go_wp2_with fail
  with_reducible refine (KN.out _ _ _ HS0.out HS2.out).mono ?_
  rintro e_ w11 ⟨rfl, hb⟩
  replace HB := Lib.hid (on_below HB.out hb)
  replace HS0 := Lib.hid (HS0.out.below hb)
  replace HS1 := Lib.hid (HS1.out.below hb)
  replace HS2 := Lib.hid (HS2.out.below hb)
  replace p0 := keepc hb p0
  replace p1 := keepc hb p1
  replace p2 := keepc hb p2
  replace p3 := keepc hb p3
  replace p4 := keepc hb p4
  replace p5 := keepc hb p5
  replace p6 := keepc hb p6
  replace q0 := keepc hb q0
  replace q1 := keepc hb q1
  replace q2 := keepc hb q2
  replace q3 := keepc hb q3
  replace q4 := keepc hb q4
  replace q5 := keepc hb q5
  replace q6 := keepc hb q6
  replace x0 := keepc hb x0
  replace x1 := keepc hb x1
  replace x2 := keepc hb x2
  replace y0 := keepc hb y0
  replace y1 := keepc hb y1
  replace y2 := keepc hb y2
  replace z0 := keepc hb z0
  replace z1 := keepc hb z1
  replace z2 := keepc hb z2
  replace lp := Nat.lt_of_lt_of_le lp hb.size
  replace lq := Nat.lt_of_lt_of_le lq hb.size
  replace lx := Nat.lt_of_lt_of_le lx hb.size
  replace ly := Nat.lt_of_lt_of_le ly hb.size
  replace lz := Nat.lt_of_lt_of_le lz hb.size
  clear hb
  go_wp2_with fail
  go_quiet (fail)
  have hb : Below w11.heap.size w11 (w11.drewN nq) := below_drewN' (Below.refl _ _) nq
  generalize w11.drewN nq = w12 at *
  replace HB := Lib.hid (on_below HB.out hb)
  replace HS0 := Lib.hid (HS0.out.below hb)
  replace HS1 := Lib.hid (HS1.out.below hb)
  replace HS2 := Lib.hid (HS2.out.below hb)
  replace p0 := keepc hb p0
  replace p1 := keepc hb p1
  replace p2 := keepc hb p2
  replace p3 := keepc hb p3
  replace p4 := keepc hb p4
  replace p5 := keepc hb p5
  replace p6 := keepc hb p6
  replace q0 := keepc hb q0
  replace q1 := keepc hb q1
  replace q2 := keepc hb q2
  replace q3 := keepc hb q3
  replace q4 := keepc hb q4
  replace q5 := keepc hb q5
  replace q6 := keepc hb q6
  replace x0 := keepc hb x0
  replace x1 := keepc hb x1
  replace x2 := keepc hb x2
  replace y0 := keepc hb y0
  replace y1 := keepc hb y1
  replace y2 := keepc hb y2
  replace z0 := keepc hb z0
  replace z1 := keepc hb z1
  replace z2 := keepc hb z2
  replace lp := Nat.lt_of_lt_of_le lp hb.size
  replace lq := Nat.lt_of_lt_of_le lq hb.size
  replace lx := Nat.lt_of_lt_of_le lx hb.size
  replace ly := Nat.lt_of_lt_of_le ly hb.size
  replace lz := Nat.lt_of_lt_of_le lz hb.size
  clear hb
  go_wp2_with fail
  go_ret
  exact ⟨rfl, HB.out⟩
set_option maxRecDepth 100000 in
set_option maxHeartbeats 4000000 in
theorem hds_10 (p q : Pl) (one two : Int) (e1 : HdR p one 0) (e2 : HdR q two 0) (e3 : HdR p two 0) (hp : 0 < one) (ha : ¬ Apa (hpt p) (p.ez - 2) (p.ez + one) (hpt q) (q.ez - 2) (q.ez + two)) (w : World) :
    Calls Try.prog 8 #[.agg #[.int .i64 p.id, .int .i64 p.row, .int .i64 p.pos, .int .i64 p.ex, .int .i64 p.ey, .int .i64 p.ez, .int .i64 p.kd], .agg #[.int .i64 q.id, .int .i64 q.row, .int .i64 q.pos, .int .i64 q.ex, .int .i64 q.ey, .int .i64 q.ez, .int .i64 q.kd], .int .i64 one, .int .i64 two] w fun e_ w' => e_ = .returned (.bool true) ∧ Below w.heap.size w w' := by
  have CA := Lib.hid (hd_g p one e1)
  have CB := Lib.hid (hd_g q two e2)
  have CC := Lib.hid (hd_g p two e3)
  have KI := Lib.hid (hin_is p one e1 true (by simp [hp]))
  have KA := Lib.hid (hap_is p q one two e1 e2 false (by simp [ha]))
  have KN := Lib.hid (hap_is p p one two e1 e3 false (iff_of_false (by decide) (apa_no p (hdr_zero e1).1.2.1 (hdr_zero e3).1.2.1)))
  have zp : decide (0 < one) = true := by simp [hp]
  obtain ⟨bx, by_, _⟩ := vv_bd (hdr_zero e1).1.1
  obtain ⟨cx, cy, _⟩ := vv_bd (hdr_zero e2).1.1
  have s0 : IntKind.i64.wrap (p.ex - q.ex) = p.ex - q.ex := IntWalk.i64_in _ ⟨by omega, by omega⟩
  have t0 : wrap64 (p.ex - q.ex) = p.ex - q.ex := IntWalk.wrap64_in _ ⟨by omega, by omega⟩
  have s1 : IntKind.i64.wrap (p.ey - q.ey) = p.ey - q.ey := IntWalk.i64_in _ ⟨by omega, by omega⟩
  have t1 : wrap64 (p.ey - q.ey) = p.ey - q.ey := IntWalk.wrap64_in _ ⟨by omega, by omega⟩
  clear bx by_ cx cy
  obtain ⟨⟨r1, r2⟩, r3, r4⟩ := apa_far p q ha
  have d0 : decide (-4 < p.ex - q.ex) = true := decide_eq_true (by omega)
  have d2 : decide (p.ex - q.ex < 4) = true := decide_eq_true (by omega)
  have d1 : decide (-4 < p.ey - q.ey) = true := decide_eq_true (by omega)
  have d3 : decide (p.ey - q.ey < 4) = true := decide_eq_true (by omega)
  clear r1 r2 r3 r4
  clear e1 e2 e3 hp ha
  have p0 : World.cell? ((w.alloc (.cells #[.int .i64 (p.id), .int .i64 (p.row), .int .i64 (p.pos), .int .i64 (p.ex), .int .i64 (p.ey), .int .i64 (p.ez), .int .i64 (p.kd)] 28)).alloc (.cells #[.int .i64 (q.id), .int .i64 (q.row), .int .i64 (q.pos), .int .i64 (q.ex), .int .i64 (q.ey), .int .i64 (q.ez), .int .i64 (q.kd)] 28)) ⟨w.heap.size, 0, none⟩ = some (.int .i64 (p.id)) := by simp [go_sem]
  have p1 : World.cell? ((w.alloc (.cells #[.int .i64 (p.id), .int .i64 (p.row), .int .i64 (p.pos), .int .i64 (p.ex), .int .i64 (p.ey), .int .i64 (p.ez), .int .i64 (p.kd)] 28)).alloc (.cells #[.int .i64 (q.id), .int .i64 (q.row), .int .i64 (q.pos), .int .i64 (q.ex), .int .i64 (q.ey), .int .i64 (q.ez), .int .i64 (q.kd)] 28)) ⟨w.heap.size, 1, none⟩ = some (.int .i64 (p.row)) := by simp [go_sem]
  have p2 : World.cell? ((w.alloc (.cells #[.int .i64 (p.id), .int .i64 (p.row), .int .i64 (p.pos), .int .i64 (p.ex), .int .i64 (p.ey), .int .i64 (p.ez), .int .i64 (p.kd)] 28)).alloc (.cells #[.int .i64 (q.id), .int .i64 (q.row), .int .i64 (q.pos), .int .i64 (q.ex), .int .i64 (q.ey), .int .i64 (q.ez), .int .i64 (q.kd)] 28)) ⟨w.heap.size, 2, none⟩ = some (.int .i64 (p.pos)) := by simp [go_sem]
  have p3 : World.cell? ((w.alloc (.cells #[.int .i64 (p.id), .int .i64 (p.row), .int .i64 (p.pos), .int .i64 (p.ex), .int .i64 (p.ey), .int .i64 (p.ez), .int .i64 (p.kd)] 28)).alloc (.cells #[.int .i64 (q.id), .int .i64 (q.row), .int .i64 (q.pos), .int .i64 (q.ex), .int .i64 (q.ey), .int .i64 (q.ez), .int .i64 (q.kd)] 28)) ⟨w.heap.size, 3, none⟩ = some (.int .i64 (p.ex)) := by simp [go_sem]
  have p4 : World.cell? ((w.alloc (.cells #[.int .i64 (p.id), .int .i64 (p.row), .int .i64 (p.pos), .int .i64 (p.ex), .int .i64 (p.ey), .int .i64 (p.ez), .int .i64 (p.kd)] 28)).alloc (.cells #[.int .i64 (q.id), .int .i64 (q.row), .int .i64 (q.pos), .int .i64 (q.ex), .int .i64 (q.ey), .int .i64 (q.ez), .int .i64 (q.kd)] 28)) ⟨w.heap.size, 4, none⟩ = some (.int .i64 (p.ey)) := by simp [go_sem]
  have p5 : World.cell? ((w.alloc (.cells #[.int .i64 (p.id), .int .i64 (p.row), .int .i64 (p.pos), .int .i64 (p.ex), .int .i64 (p.ey), .int .i64 (p.ez), .int .i64 (p.kd)] 28)).alloc (.cells #[.int .i64 (q.id), .int .i64 (q.row), .int .i64 (q.pos), .int .i64 (q.ex), .int .i64 (q.ey), .int .i64 (q.ez), .int .i64 (q.kd)] 28)) ⟨w.heap.size, 5, none⟩ = some (.int .i64 (p.ez)) := by simp [go_sem]
  have p6 : World.cell? ((w.alloc (.cells #[.int .i64 (p.id), .int .i64 (p.row), .int .i64 (p.pos), .int .i64 (p.ex), .int .i64 (p.ey), .int .i64 (p.ez), .int .i64 (p.kd)] 28)).alloc (.cells #[.int .i64 (q.id), .int .i64 (q.row), .int .i64 (q.pos), .int .i64 (q.ex), .int .i64 (q.ey), .int .i64 (q.ez), .int .i64 (q.kd)] 28)) ⟨w.heap.size, 6, none⟩ = some (.int .i64 (p.kd)) := by simp [go_sem]
  have lp : w.heap.size < ((w.alloc (.cells #[.int .i64 (p.id), .int .i64 (p.row), .int .i64 (p.pos), .int .i64 (p.ex), .int .i64 (p.ey), .int .i64 (p.ez), .int .i64 (p.kd)] 28)).alloc (.cells #[.int .i64 (q.id), .int .i64 (q.row), .int .i64 (q.pos), .int .i64 (q.ex), .int .i64 (q.ey), .int .i64 (q.ez), .int .i64 (q.kd)] 28)).heap.size := by simp <;> omega
  have q0 : World.cell? ((w.alloc (.cells #[.int .i64 (p.id), .int .i64 (p.row), .int .i64 (p.pos), .int .i64 (p.ex), .int .i64 (p.ey), .int .i64 (p.ez), .int .i64 (p.kd)] 28)).alloc (.cells #[.int .i64 (q.id), .int .i64 (q.row), .int .i64 (q.pos), .int .i64 (q.ex), .int .i64 (q.ey), .int .i64 (q.ez), .int .i64 (q.kd)] 28)) ⟨w.heap.size + 1, 0, none⟩ = some (.int .i64 (q.id)) := by simp [go_sem]
  have q1 : World.cell? ((w.alloc (.cells #[.int .i64 (p.id), .int .i64 (p.row), .int .i64 (p.pos), .int .i64 (p.ex), .int .i64 (p.ey), .int .i64 (p.ez), .int .i64 (p.kd)] 28)).alloc (.cells #[.int .i64 (q.id), .int .i64 (q.row), .int .i64 (q.pos), .int .i64 (q.ex), .int .i64 (q.ey), .int .i64 (q.ez), .int .i64 (q.kd)] 28)) ⟨w.heap.size + 1, 1, none⟩ = some (.int .i64 (q.row)) := by simp [go_sem]
  have q2 : World.cell? ((w.alloc (.cells #[.int .i64 (p.id), .int .i64 (p.row), .int .i64 (p.pos), .int .i64 (p.ex), .int .i64 (p.ey), .int .i64 (p.ez), .int .i64 (p.kd)] 28)).alloc (.cells #[.int .i64 (q.id), .int .i64 (q.row), .int .i64 (q.pos), .int .i64 (q.ex), .int .i64 (q.ey), .int .i64 (q.ez), .int .i64 (q.kd)] 28)) ⟨w.heap.size + 1, 2, none⟩ = some (.int .i64 (q.pos)) := by simp [go_sem]
  have q3 : World.cell? ((w.alloc (.cells #[.int .i64 (p.id), .int .i64 (p.row), .int .i64 (p.pos), .int .i64 (p.ex), .int .i64 (p.ey), .int .i64 (p.ez), .int .i64 (p.kd)] 28)).alloc (.cells #[.int .i64 (q.id), .int .i64 (q.row), .int .i64 (q.pos), .int .i64 (q.ex), .int .i64 (q.ey), .int .i64 (q.ez), .int .i64 (q.kd)] 28)) ⟨w.heap.size + 1, 3, none⟩ = some (.int .i64 (q.ex)) := by simp [go_sem]
  have q4 : World.cell? ((w.alloc (.cells #[.int .i64 (p.id), .int .i64 (p.row), .int .i64 (p.pos), .int .i64 (p.ex), .int .i64 (p.ey), .int .i64 (p.ez), .int .i64 (p.kd)] 28)).alloc (.cells #[.int .i64 (q.id), .int .i64 (q.row), .int .i64 (q.pos), .int .i64 (q.ex), .int .i64 (q.ey), .int .i64 (q.ez), .int .i64 (q.kd)] 28)) ⟨w.heap.size + 1, 4, none⟩ = some (.int .i64 (q.ey)) := by simp [go_sem]
  have q5 : World.cell? ((w.alloc (.cells #[.int .i64 (p.id), .int .i64 (p.row), .int .i64 (p.pos), .int .i64 (p.ex), .int .i64 (p.ey), .int .i64 (p.ez), .int .i64 (p.kd)] 28)).alloc (.cells #[.int .i64 (q.id), .int .i64 (q.row), .int .i64 (q.pos), .int .i64 (q.ex), .int .i64 (q.ey), .int .i64 (q.ez), .int .i64 (q.kd)] 28)) ⟨w.heap.size + 1, 5, none⟩ = some (.int .i64 (q.ez)) := by simp [go_sem]
  have q6 : World.cell? ((w.alloc (.cells #[.int .i64 (p.id), .int .i64 (p.row), .int .i64 (p.pos), .int .i64 (p.ex), .int .i64 (p.ey), .int .i64 (p.ez), .int .i64 (p.kd)] 28)).alloc (.cells #[.int .i64 (q.id), .int .i64 (q.row), .int .i64 (q.pos), .int .i64 (q.ex), .int .i64 (q.ey), .int .i64 (q.ez), .int .i64 (q.kd)] 28)) ⟨w.heap.size + 1, 6, none⟩ = some (.int .i64 (q.kd)) := by simp [go_sem]
  have lq : w.heap.size + 1 < ((w.alloc (.cells #[.int .i64 (p.id), .int .i64 (p.row), .int .i64 (p.pos), .int .i64 (p.ex), .int .i64 (p.ey), .int .i64 (p.ez), .int .i64 (p.kd)] 28)).alloc (.cells #[.int .i64 (q.id), .int .i64 (q.row), .int .i64 (q.pos), .int .i64 (q.ex), .int .i64 (q.ey), .int .i64 (q.ez), .int .i64 (q.kd)] 28)).heap.size := by simp <;> omega
  have HB := Lib.hid (show Below w.heap.size w ((w.alloc (.cells #[.int .i64 (p.id), .int .i64 (p.row), .int .i64 (p.pos), .int .i64 (p.ex), .int .i64 (p.ey), .int .i64 (p.ez), .int .i64 (p.kd)] 28)).alloc (.cells #[.int .i64 (q.id), .int .i64 (q.row), .int .i64 (q.pos), .int .i64 (q.ex), .int .i64 (q.ey), .int .i64 (q.ez), .int .i64 (q.kd)] 28)) from (((Below.refl _ _).alloc (by simp <;> omega) _).alloc (by simp <;> omega) _))
  go_enter Try.func8, Try.ntmps8
  go_wp2_with fail
  generalize (w.alloc (.cells #[.int .i64 (p.id), .int .i64 (p.row), .int .i64 (p.pos), .int .i64 (p.ex), .int .i64 (p.ey), .int .i64 (p.ez), .int .i64 (p.kd)] 28)).alloc (.cells #[.int .i64 (q.id), .int .i64 (q.row), .int .i64 (q.pos), .int .i64 (q.ex), .int .i64 (q.ey), .int .i64 (q.ez), .int .i64 (q.kd)] 28) = w1 at *
  with_reducible refine (head12_any _).mono ?_
  rintro e_ w2 ⟨rfl, hb⟩
  replace HB := Lib.hid (on_below HB.out hb)
  replace p0 := keepc hb p0
  replace p1 := keepc hb p1
  replace p2 := keepc hb p2
  replace p3 := keepc hb p3
  replace p4 := keepc hb p4
  replace p5 := keepc hb p5
  replace p6 := keepc hb p6
  replace q0 := keepc hb q0
  replace q1 := keepc hb q1
  replace q2 := keepc hb q2
  replace q3 := keepc hb q3
  replace q4 := keepc hb q4
  replace q5 := keepc hb q5
  replace q6 := keepc hb q6
  replace lp := Nat.lt_of_lt_of_le lp hb.size
  replace lq := Nat.lt_of_lt_of_le lq hb.size
  clear hb
  go_wp2_with fail
  with_reducible refine (CA.out _).mono ?_
  rintro e_ w3 ⟨g0, rfl, hs0, hb⟩
  replace HB := Lib.hid (on_below HB.out hb)
  replace p0 := keepc hb p0
  replace p1 := keepc hb p1
  replace p2 := keepc hb p2
  replace p3 := keepc hb p3
  replace p4 := keepc hb p4
  replace p5 := keepc hb p5
  replace p6 := keepc hb p6
  replace q0 := keepc hb q0
  replace q1 := keepc hb q1
  replace q2 := keepc hb q2
  replace q3 := keepc hb q3
  replace q4 := keepc hb q4
  replace q5 := keepc hb q5
  replace q6 := keepc hb q6
  replace lp := Nat.lt_of_lt_of_le lp hb.size
  replace lq := Nat.lt_of_lt_of_le lq hb.size
  clear hb
  have HS0 := Lib.hid hs0
  clear hs0
  go_upto_region 3 with fail
  have hb := below_new w3 (.cells #[.slice (some ⟨g0, 0, none⟩) 4 4, .int .i64 (p.ez - 2), .int .i64 (p.ez + one)] 47)
  have kx : (w3.alloc (.cells #[.slice (some ⟨g0, 0, none⟩) 4 4, .int .i64 (p.ez - 2), .int .i64 (p.ez + one)] 47)).heap[w3.heap.size]? = some (.cells #[.slice (some ⟨g0, 0, none⟩) 4 4, .int .i64 (p.ez - 2), .int .i64 (p.ez + one)] 47 (0, 0)) := World.alloc_heap_new _ _
  obtain ⟨x0, x1, x2⟩ := cells3 kx
  have lx := block_lt x0
  clear kx
  generalize w3.alloc (.cells #[.slice (some ⟨g0, 0, none⟩) 4 4, .int .i64 (p.ez - 2), .int .i64 (p.ez + one)] 47) = w4 at *
  replace HB := Lib.hid (on_below HB.out hb)
  replace HS0 := Lib.hid (HS0.out.below hb)
  replace p0 := keepc hb p0
  replace p1 := keepc hb p1
  replace p2 := keepc hb p2
  replace p3 := keepc hb p3
  replace p4 := keepc hb p4
  replace p5 := keepc hb p5
  replace p6 := keepc hb p6
  replace q0 := keepc hb q0
  replace q1 := keepc hb q1
  replace q2 := keepc hb q2
  replace q3 := keepc hb q3
  replace q4 := keepc hb q4
  replace q5 := keepc hb q5
  replace q6 := keepc hb q6
  replace lp := Nat.lt_of_lt_of_le lp hb.size
  replace lq := Nat.lt_of_lt_of_le lq hb.size
  clear hb
  generalize w3.heap.size = gx at *
  go_wp2_with fail
  with_reducible refine (CB.out _).mono ?_
  rintro e_ w5 ⟨g1, rfl, hs1, hb⟩
  replace HB := Lib.hid (on_below HB.out hb)
  replace HS0 := Lib.hid (HS0.out.below hb)
  replace p0 := keepc hb p0
  replace p1 := keepc hb p1
  replace p2 := keepc hb p2
  replace p3 := keepc hb p3
  replace p4 := keepc hb p4
  replace p5 := keepc hb p5
  replace p6 := keepc hb p6
  replace q0 := keepc hb q0
  replace q1 := keepc hb q1
  replace q2 := keepc hb q2
  replace q3 := keepc hb q3
  replace q4 := keepc hb q4
  replace q5 := keepc hb q5
  replace q6 := keepc hb q6
  replace x0 := keepc hb x0
  replace x1 := keepc hb x1
  replace x2 := keepc hb x2
  replace lp := Nat.lt_of_lt_of_le lp hb.size
  replace lq := Nat.lt_of_lt_of_le lq hb.size
  replace lx := Nat.lt_of_lt_of_le lx hb.size
  clear hb
  have HS1 := Lib.hid hs1
  clear hs1
  go_upto_region 4 with fail
  have hb := below_new w5 (.cells #[.slice (some ⟨g1, 0, none⟩) 4 4, .int .i64 (q.ez - 2), .int .i64 (q.ez + two)] 47)
  have ky : (w5.alloc (.cells #[.slice (some ⟨g1, 0, none⟩) 4 4, .int .i64 (q.ez - 2), .int .i64 (q.ez + two)] 47)).heap[w5.heap.size]? = some (.cells #[.slice (some ⟨g1, 0, none⟩) 4 4, .int .i64 (q.ez - 2), .int .i64 (q.ez + two)] 47 (0, 0)) := World.alloc_heap_new _ _
  obtain ⟨y0, y1, y2⟩ := cells3 ky
  have ly := block_lt y0
  clear ky
  generalize w5.alloc (.cells #[.slice (some ⟨g1, 0, none⟩) 4 4, .int .i64 (q.ez - 2), .int .i64 (q.ez + two)] 47) = w6 at *
  replace HB := Lib.hid (on_below HB.out hb)
  replace HS0 := Lib.hid (HS0.out.below hb)
  replace HS1 := Lib.hid (HS1.out.below hb)
  replace p0 := keepc hb p0
  replace p1 := keepc hb p1
  replace p2 := keepc hb p2
  replace p3 := keepc hb p3
  replace p4 := keepc hb p4
  replace p5 := keepc hb p5
  replace p6 := keepc hb p6
  replace q0 := keepc hb q0
  replace q1 := keepc hb q1
  replace q2 := keepc hb q2
  replace q3 := keepc hb q3
  replace q4 := keepc hb q4
  replace q5 := keepc hb q5
  replace q6 := keepc hb q6
  replace x0 := keepc hb x0
  replace x1 := keepc hb x1
  replace x2 := keepc hb x2
  replace lp := Nat.lt_of_lt_of_le lp hb.size
  replace lq := Nat.lt_of_lt_of_le lq hb.size
  replace lx := Nat.lt_of_lt_of_le lx hb.size
  clear hb
  generalize w5.heap.size = gy at *
  go_wp2_with fail
  with_reducible refine (CC.out _).mono ?_
  rintro e_ w7 ⟨g2, rfl, hs2, hb⟩
  replace HB := Lib.hid (on_below HB.out hb)
  replace HS0 := Lib.hid (HS0.out.below hb)
  replace HS1 := Lib.hid (HS1.out.below hb)
  replace p0 := keepc hb p0
  replace p1 := keepc hb p1
  replace p2 := keepc hb p2
  replace p3 := keepc hb p3
  replace p4 := keepc hb p4
  replace p5 := keepc hb p5
  replace p6 := keepc hb p6
  replace q0 := keepc hb q0
  replace q1 := keepc hb q1
  replace q2 := keepc hb q2
  replace q3 := keepc hb q3
  replace q4 := keepc hb q4
  replace q5 := keepc hb q5
  replace q6 := keepc hb q6
  replace x0 := keepc hb x0
  replace x1 := keepc hb x1
  replace x2 := keepc hb x2
  replace y0 := keepc hb y0
  replace y1 := keepc hb y1
  replace y2 := keepc hb y2
  replace lp := Nat.lt_of_lt_of_le lp hb.size
  replace lq := Nat.lt_of_lt_of_le lq hb.size
  replace lx := Nat.lt_of_lt_of_le lx hb.size
  replace ly := Nat.lt_of_lt_of_le ly hb.size
  clear hb
  have HS2 := Lib.hid hs2
  clear hs2
  go_upto_region 5 with fail
  have hb := below_new w7 (.cells #[.slice (some ⟨g2, 0, none⟩) 4 4, .int .i64 (p.ez - 2), .int .i64 (p.ez + two)] 47)
  have kz : (w7.alloc (.cells #[.slice (some ⟨g2, 0, none⟩) 4 4, .int .i64 (p.ez - 2), .int .i64 (p.ez + two)] 47)).heap[w7.heap.size]? = some (.cells #[.slice (some ⟨g2, 0, none⟩) 4 4, .int .i64 (p.ez - 2), .int .i64 (p.ez + two)] 47 (0, 0)) := World.alloc_heap_new _ _
  obtain ⟨z0, z1, z2⟩ := cells3 kz
  have lz := block_lt z0
  clear kz
  generalize w7.alloc (.cells #[.slice (some ⟨g2, 0, none⟩) 4 4, .int .i64 (p.ez - 2), .int .i64 (p.ez + two)] 47) = w8 at *
  replace HB := Lib.hid (on_below HB.out hb)
  replace HS0 := Lib.hid (HS0.out.below hb)
  replace HS1 := Lib.hid (HS1.out.below hb)
  replace HS2 := Lib.hid (HS2.out.below hb)
  replace p0 := keepc hb p0
  replace p1 := keepc hb p1
  replace p2 := keepc hb p2
  replace p3 := keepc hb p3
  replace p4 := keepc hb p4
  replace p5 := keepc hb p5
  replace p6 := keepc hb p6
  replace q0 := keepc hb q0
  replace q1 := keepc hb q1
  replace q2 := keepc hb q2
  replace q3 := keepc hb q3
  replace q4 := keepc hb q4
  replace q5 := keepc hb q5
  replace q6 := keepc hb q6
  replace x0 := keepc hb x0
  replace x1 := keepc hb x1
  replace x2 := keepc hb x2
  replace y0 := keepc hb y0
  replace y1 := keepc hb y1
  replace y2 := keepc hb y2
  replace lp := Nat.lt_of_lt_of_le lp hb.size
  replace lq := Nat.lt_of_lt_of_le lq hb.size
  replace lx := Nat.lt_of_lt_of_le lx hb.size
  replace ly := Nat.lt_of_lt_of_le ly hb.size
  clear hb
  generalize w7.heap.size = gz at *
  go_wp2_with fail
  with_reducible refine (KI.out _ _ HS0.out).mono ?_
  rintro e_ w9 ⟨rfl, hb⟩
  replace HB := Lib.hid (on_below HB.out hb)
  replace HS0 := Lib.hid (HS0.out.below hb)
  replace HS1 := Lib.hid (HS1.out.below hb)
  replace HS2 := Lib.hid (HS2.out.below hb)
  replace p0 := keepc hb p0
  replace p1 := keepc hb p1
  replace p2 := keepc hb p2
  replace p3 := keepc hb p3
  replace p4 := keepc hb p4
  replace p5 := keepc hb p5
  replace p6 := keepc hb p6
  replace q0 := keepc hb q0
  replace q1 := keepc hb q1
  replace q2 := keepc hb q2
  replace q3 := keepc hb q3
  replace q4 := keepc hb q4
  replace q5 := keepc hb q5
  replace q6 := keepc hb q6
  replace x0 := keepc hb x0
  replace x1 := keepc hb x1
  replace x2 := keepc hb x2
  replace y0 := keepc hb y0
  replace y1 := keepc hb y1
  replace y2 := keepc hb y2
  replace z0 := keepc hb z0
  replace z1 := keepc hb z1
  replace z2 := keepc hb z2
  replace lp := Nat.lt_of_lt_of_le lp hb.size
  replace lq := Nat.lt_of_lt_of_le lq hb.size
  replace lx := Nat.lt_of_lt_of_le lx hb.size
  replace ly := Nat.lt_of_lt_of_le ly hb.size
  replace lz := Nat.lt_of_lt_of_le lz hb.size
  clear hb
  go_wp2_with fail
  with_reducible refine (KA.out _ _ _ HS0.out HS1.out).mono ?_
  rintro e_ w10 ⟨rfl, hb⟩
  replace HB := Lib.hid (on_below HB.out hb)
  replace HS0 := Lib.hid (HS0.out.below hb)
  replace HS1 := Lib.hid (HS1.out.below hb)
  replace HS2 := Lib.hid (HS2.out.below hb)
  replace p0 := keepc hb p0
  replace p1 := keepc hb p1
  replace p2 := keepc hb p2
  replace p3 := keepc hb p3
  replace p4 := keepc hb p4
  replace p5 := keepc hb p5
  replace p6 := keepc hb p6
  replace q0 := keepc hb q0
  replace q1 := keepc hb q1
  replace q2 := keepc hb q2
  replace q3 := keepc hb q3
  replace q4 := keepc hb q4
  replace q5 := keepc hb q5
  replace q6 := keepc hb q6
  replace x0 := keepc hb x0
  replace x1 := keepc hb x1
  replace x2 := keepc hb x2
  replace y0 := keepc hb y0
  replace y1 := keepc hb y1
  replace y2 := keepc hb y2
  replace z0 := keepc hb z0
  replace z1 := keepc hb z1
  replace z2 := keepc hb z2
  replace lp := Nat.lt_of_lt_of_le lp hb.size
  replace lq := Nat.lt_of_lt_of_le lq hb.size
  replace lx := Nat.lt_of_lt_of_le lx hb.size
  replace ly := Nat.lt_of_lt_of_le ly hb.size
  replace lz := Nat.lt_of_lt_of_le lz hb.size
  clear hb
  go_wp2_with fail
  with_reducible refine (KN.out _ _ _ HS0.out HS2.out).mono ?_
  rintro e_ w11 ⟨rfl, hb⟩
  replace HB := Lib.hid (on_below HB.out hb)
  replace HS0 := Lib.hid (HS0.out.below hb)
  replace HS1 := Lib.hid (HS1.out.below hb)
  replace HS2 := Lib.hid (HS2.out.below hb)
  replace p0 := keepc hb p0
  replace p1 := keepc hb p1
  replace p2 := keepc hb p2
  replace p3 := keepc hb p3
  replace p4 := keepc hb p4
  replace p5 := keepc hb p5
  replace p6 := keepc hb p6
  replace q0 := keepc hb q0
  replace q1 := keepc hb q1
  replace q2 := keepc hb q2
  replace q3 := keepc hb q3
  replace q4 := keepc hb q4
  replace q5 := keepc hb q5
  replace q6 := keepc hb q6
  replace x0 := keepc hb x0
  replace x1 := keepc hb x1
  replace x2 := keepc hb x2
  replace y0 := keepc hb y0
  replace y1 := keepc hb y1
  replace y2 := keepc hb y2
  replace z0 := keepc hb z0
  replace z1 := keepc hb z1
  replace z2 := keepc hb z2
  replace lp := Nat.lt_of_lt_of_le lp hb.size
  replace lq := Nat.lt_of_lt_of_le lq hb.size
  replace lx := Nat.lt_of_lt_of_le lx hb.size
  replace ly := Nat.lt_of_lt_of_le ly hb.size
  replace lz := Nat.lt_of_lt_of_le lz hb.size
  clear hb
  go_wp2_with fail
  go_quiet (fail)
  have hb : Below w11.heap.size w11 (w11.drewN nq) := below_drewN' (Below.refl _ _) nq
  generalize w11.drewN nq = w12 at *
  replace HB := Lib.hid (on_below HB.out hb)
  replace HS0 := Lib.hid (HS0.out.below hb)
  replace HS1 := Lib.hid (HS1.out.below hb)
  replace HS2 := Lib.hid (HS2.out.below hb)
  replace p0 := keepc hb p0
  replace p1 := keepc hb p1
  replace p2 := keepc hb p2
  replace p3 := keepc hb p3
  replace p4 := keepc hb p4
  replace p5 := keepc hb p5
  replace p6 := keepc hb p6
  replace q0 := keepc hb q0
  replace q1 := keepc hb q1
  replace q2 := keepc hb q2
  replace q3 := keepc hb q3
  replace q4 := keepc hb q4
  replace q5 := keepc hb q5
  replace q6 := keepc hb q6
  replace x0 := keepc hb x0
  replace x1 := keepc hb x1
  replace x2 := keepc hb x2
  replace y0 := keepc hb y0
  replace y1 := keepc hb y1
  replace y2 := keepc hb y2
  replace z0 := keepc hb z0
  replace z1 := keepc hb z1
  replace z2 := keepc hb z2
  replace lp := Nat.lt_of_lt_of_le lp hb.size
  replace lq := Nat.lt_of_lt_of_le lq hb.size
  replace lx := Nat.lt_of_lt_of_le lx hb.size
  replace ly := Nat.lt_of_lt_of_le ly hb.size
  replace lz := Nat.lt_of_lt_of_le lz hb.size
  clear hb
  go_wp2_with fail
  go_ret
  exact ⟨rfl, HB.out⟩
set_option maxRecDepth 100000 in
set_option maxHeartbeats 4000000 in
theorem hds_11 (p q : Pl) (one two : Int) (e1 : HdR p one 0) (e2 : HdR q two 0) (e3 : HdR p two 0) (hp : 0 < one) (ha : Apa (hpt p) (p.ez - 2) (p.ez + one) (hpt q) (q.ez - 2) (q.ez + two)) (w : World) :
    Calls Try.prog 8 #[.agg #[.int .i64 p.id, .int .i64 p.row, .int .i64 p.pos, .int .i64 p.ex, .int .i64 p.ey, .int .i64 p.ez, .int .i64 p.kd], .agg #[.int .i64 q.id, .int .i64 q.row, .int .i64 q.pos, .int .i64 q.ex, .int .i64 q.ey, .int .i64 q.ez, .int .i64 q.kd], .int .i64 one, .int .i64 two] w fun e_ w' => e_ = .returned (.bool true) ∧ Below w.heap.size w w' := by
  have CA := Lib.hid (hd_g p one e1)
  have CB := Lib.hid (hd_g q two e2)
  have CC := Lib.hid (hd_g p two e3)
  have KI := Lib.hid (hin_is p one e1 true (by simp [hp]))
  have KA := Lib.hid (hap_is p q one two e1 e2 true (by simp [ha]))
  have KN := Lib.hid (hap_is p p one two e1 e3 false (iff_of_false (by decide) (apa_no p (hdr_zero e1).1.2.1 (hdr_zero e3).1.2.1)))
  have zp : decide (0 < one) = true := by simp [hp]
  obtain ⟨bx, by_, _⟩ := vv_bd (hdr_zero e1).1.1
  obtain ⟨cx, cy, _⟩ := vv_bd (hdr_zero e2).1.1
  have s0 : IntKind.i64.wrap (p.ex - q.ex) = p.ex - q.ex := IntWalk.i64_in _ ⟨by omega, by omega⟩
  have t0 : wrap64 (p.ex - q.ex) = p.ex - q.ex := IntWalk.wrap64_in _ ⟨by omega, by omega⟩
  have s1 : IntKind.i64.wrap (p.ey - q.ey) = p.ey - q.ey := IntWalk.i64_in _ ⟨by omega, by omega⟩
  have t1 : wrap64 (p.ey - q.ey) = p.ey - q.ey := IntWalk.wrap64_in _ ⟨by omega, by omega⟩
  clear bx by_ cx cy
  clear e1 e2 e3 hp ha
  have p0 : World.cell? ((w.alloc (.cells #[.int .i64 (p.id), .int .i64 (p.row), .int .i64 (p.pos), .int .i64 (p.ex), .int .i64 (p.ey), .int .i64 (p.ez), .int .i64 (p.kd)] 28)).alloc (.cells #[.int .i64 (q.id), .int .i64 (q.row), .int .i64 (q.pos), .int .i64 (q.ex), .int .i64 (q.ey), .int .i64 (q.ez), .int .i64 (q.kd)] 28)) ⟨w.heap.size, 0, none⟩ = some (.int .i64 (p.id)) := by simp [go_sem]
  have p1 : World.cell? ((w.alloc (.cells #[.int .i64 (p.id), .int .i64 (p.row), .int .i64 (p.pos), .int .i64 (p.ex), .int .i64 (p.ey), .int .i64 (p.ez), .int .i64 (p.kd)] 28)).alloc (.cells #[.int .i64 (q.id), .int .i64 (q.row), .int .i64 (q.pos), .int .i64 (q.ex), .int .i64 (q.ey), .int .i64 (q.ez), .int .i64 (q.kd)] 28)) ⟨w.heap.size, 1, none⟩ = some (.int .i64 (p.row)) := by simp [go_sem]
  have p2 : World.cell? ((w.alloc (.cells #[.int .i64 (p.id), .int .i64 (p.row), .int .i64 (p.pos), .int .i64 (p.ex), .int .i64 (p.ey), .int .i64 (p.ez), .int .i64 (p.kd)] 28)).alloc (.cells #[.int .i64 (q.id), .int .i64 (q.row), .int .i64 (q.pos), .int .i64 (q.ex), .int .i64 (q.ey), .int .i64 (q.ez), .int .i64 (q.kd)] 28)) ⟨w.heap.size, 2, none⟩ = some (.int .i64 (p.pos)) := by simp [go_sem]
  have p3 : World.cell? ((w.alloc (.cells #[.int .i64 (p.id), .int .i64 (p.row), .int .i64 (p.pos), .int .i64 (p.ex), .int .i64 (p.ey), .int .i64 (p.ez), .int .i64 (p.kd)] 28)).alloc (.cells #[.int .i64 (q.id), .int .i64 (q.row), .int .i64 (q.pos), .int .i64 (q.ex), .int .i64 (q.ey), .int .i64 (q.ez), .int .i64 (q.kd)] 28)) ⟨w.heap.size, 3, none⟩ = some (.int .i64 (p.ex)) := by simp [go_sem]
  have p4 : World.cell? ((w.alloc (.cells #[.int .i64 (p.id), .int .i64 (p.row), .int .i64 (p.pos), .int .i64 (p.ex), .int .i64 (p.ey), .int .i64 (p.ez), .int .i64 (p.kd)] 28)).alloc (.cells #[.int .i64 (q.id), .int .i64 (q.row), .int .i64 (q.pos), .int .i64 (q.ex), .int .i64 (q.ey), .int .i64 (q.ez), .int .i64 (q.kd)] 28)) ⟨w.heap.size, 4, none⟩ = some (.int .i64 (p.ey)) := by simp [go_sem]
  have p5 : World.cell? ((w.alloc (.cells #[.int .i64 (p.id), .int .i64 (p.row), .int .i64 (p.pos), .int .i64 (p.ex), .int .i64 (p.ey), .int .i64 (p.ez), .int .i64 (p.kd)] 28)).alloc (.cells #[.int .i64 (q.id), .int .i64 (q.row), .int .i64 (q.pos), .int .i64 (q.ex), .int .i64 (q.ey), .int .i64 (q.ez), .int .i64 (q.kd)] 28)) ⟨w.heap.size, 5, none⟩ = some (.int .i64 (p.ez)) := by simp [go_sem]
  have p6 : World.cell? ((w.alloc (.cells #[.int .i64 (p.id), .int .i64 (p.row), .int .i64 (p.pos), .int .i64 (p.ex), .int .i64 (p.ey), .int .i64 (p.ez), .int .i64 (p.kd)] 28)).alloc (.cells #[.int .i64 (q.id), .int .i64 (q.row), .int .i64 (q.pos), .int .i64 (q.ex), .int .i64 (q.ey), .int .i64 (q.ez), .int .i64 (q.kd)] 28)) ⟨w.heap.size, 6, none⟩ = some (.int .i64 (p.kd)) := by simp [go_sem]
  have lp : w.heap.size < ((w.alloc (.cells #[.int .i64 (p.id), .int .i64 (p.row), .int .i64 (p.pos), .int .i64 (p.ex), .int .i64 (p.ey), .int .i64 (p.ez), .int .i64 (p.kd)] 28)).alloc (.cells #[.int .i64 (q.id), .int .i64 (q.row), .int .i64 (q.pos), .int .i64 (q.ex), .int .i64 (q.ey), .int .i64 (q.ez), .int .i64 (q.kd)] 28)).heap.size := by simp <;> omega
  have q0 : World.cell? ((w.alloc (.cells #[.int .i64 (p.id), .int .i64 (p.row), .int .i64 (p.pos), .int .i64 (p.ex), .int .i64 (p.ey), .int .i64 (p.ez), .int .i64 (p.kd)] 28)).alloc (.cells #[.int .i64 (q.id), .int .i64 (q.row), .int .i64 (q.pos), .int .i64 (q.ex), .int .i64 (q.ey), .int .i64 (q.ez), .int .i64 (q.kd)] 28)) ⟨w.heap.size + 1, 0, none⟩ = some (.int .i64 (q.id)) := by simp [go_sem]
  have q1 : World.cell? ((w.alloc (.cells #[.int .i64 (p.id), .int .i64 (p.row), .int .i64 (p.pos), .int .i64 (p.ex), .int .i64 (p.ey), .int .i64 (p.ez), .int .i64 (p.kd)] 28)).alloc (.cells #[.int .i64 (q.id), .int .i64 (q.row), .int .i64 (q.pos), .int .i64 (q.ex), .int .i64 (q.ey), .int .i64 (q.ez), .int .i64 (q.kd)] 28)) ⟨w.heap.size + 1, 1, none⟩ = some (.int .i64 (q.row)) := by simp [go_sem]
  have q2 : World.cell? ((w.alloc (.cells #[.int .i64 (p.id), .int .i64 (p.row), .int .i64 (p.pos), .int .i64 (p.ex), .int .i64 (p.ey), .int .i64 (p.ez), .int .i64 (p.kd)] 28)).alloc (.cells #[.int .i64 (q.id), .int .i64 (q.row), .int .i64 (q.pos), .int .i64 (q.ex), .int .i64 (q.ey), .int .i64 (q.ez), .int .i64 (q.kd)] 28)) ⟨w.heap.size + 1, 2, none⟩ = some (.int .i64 (q.pos)) := by simp [go_sem]
  have q3 : World.cell? ((w.alloc (.cells #[.int .i64 (p.id), .int .i64 (p.row), .int .i64 (p.pos), .int .i64 (p.ex), .int .i64 (p.ey), .int .i64 (p.ez), .int .i64 (p.kd)] 28)).alloc (.cells #[.int .i64 (q.id), .int .i64 (q.row), .int .i64 (q.pos), .int .i64 (q.ex), .int .i64 (q.ey), .int .i64 (q.ez), .int .i64 (q.kd)] 28)) ⟨w.heap.size + 1, 3, none⟩ = some (.int .i64 (q.ex)) := by simp [go_sem]
  have q4 : World.cell? ((w.alloc (.cells #[.int .i64 (p.id), .int .i64 (p.row), .int .i64 (p.pos), .int .i64 (p.ex), .int .i64 (p.ey), .int .i64 (p.ez), .int .i64 (p.kd)] 28)).alloc (.cells #[.int .i64 (q.id), .int .i64 (q.row), .int .i64 (q.pos), .int .i64 (q.ex), .int .i64 (q.ey), .int .i64 (q.ez), .int .i64 (q.kd)] 28)) ⟨w.heap.size + 1, 4, none⟩ = some (.int .i64 (q.ey)) := by simp [go_sem]
  have q5 : World.cell? ((w.alloc (.cells #[.int .i64 (p.id), .int .i64 (p.row), .int .i64 (p.pos), .int .i64 (p.ex), .int .i64 (p.ey), .int .i64 (p.ez), .int .i64 (p.kd)] 28)).alloc (.cells #[.int .i64 (q.id), .int .i64 (q.row), .int .i64 (q.pos), .int .i64 (q.ex), .int .i64 (q.ey), .int .i64 (q.ez), .int .i64 (q.kd)] 28)) ⟨w.heap.size + 1, 5, none⟩ = some (.int .i64 (q.ez)) := by simp [go_sem]
  have q6 : World.cell? ((w.alloc (.cells #[.int .i64 (p.id), .int .i64 (p.row), .int .i64 (p.pos), .int .i64 (p.ex), .int .i64 (p.ey), .int .i64 (p.ez), .int .i64 (p.kd)] 28)).alloc (.cells #[.int .i64 (q.id), .int .i64 (q.row), .int .i64 (q.pos), .int .i64 (q.ex), .int .i64 (q.ey), .int .i64 (q.ez), .int .i64 (q.kd)] 28)) ⟨w.heap.size + 1, 6, none⟩ = some (.int .i64 (q.kd)) := by simp [go_sem]
  have lq : w.heap.size + 1 < ((w.alloc (.cells #[.int .i64 (p.id), .int .i64 (p.row), .int .i64 (p.pos), .int .i64 (p.ex), .int .i64 (p.ey), .int .i64 (p.ez), .int .i64 (p.kd)] 28)).alloc (.cells #[.int .i64 (q.id), .int .i64 (q.row), .int .i64 (q.pos), .int .i64 (q.ex), .int .i64 (q.ey), .int .i64 (q.ez), .int .i64 (q.kd)] 28)).heap.size := by simp <;> omega
  have HB := Lib.hid (show Below w.heap.size w ((w.alloc (.cells #[.int .i64 (p.id), .int .i64 (p.row), .int .i64 (p.pos), .int .i64 (p.ex), .int .i64 (p.ey), .int .i64 (p.ez), .int .i64 (p.kd)] 28)).alloc (.cells #[.int .i64 (q.id), .int .i64 (q.row), .int .i64 (q.pos), .int .i64 (q.ex), .int .i64 (q.ey), .int .i64 (q.ez), .int .i64 (q.kd)] 28)) from (((Below.refl _ _).alloc (by simp <;> omega) _).alloc (by simp <;> omega) _))
  go_enter Try.func8, Try.ntmps8
  go_wp2_with fail
  generalize (w.alloc (.cells #[.int .i64 (p.id), .int .i64 (p.row), .int .i64 (p.pos), .int .i64 (p.ex), .int .i64 (p.ey), .int .i64 (p.ez), .int .i64 (p.kd)] 28)).alloc (.cells #[.int .i64 (q.id), .int .i64 (q.row), .int .i64 (q.pos), .int .i64 (q.ex), .int .i64 (q.ey), .int .i64 (q.ez), .int .i64 (q.kd)] 28) = w1 at *
  with_reducible refine (head12_any _).mono ?_
  rintro e_ w2 ⟨rfl, hb⟩
  replace HB := Lib.hid (on_below HB.out hb)
  replace p0 := keepc hb p0
  replace p1 := keepc hb p1
  replace p2 := keepc hb p2
  replace p3 := keepc hb p3
  replace p4 := keepc hb p4
  replace p5 := keepc hb p5
  replace p6 := keepc hb p6
  replace q0 := keepc hb q0
  replace q1 := keepc hb q1
  replace q2 := keepc hb q2
  replace q3 := keepc hb q3
  replace q4 := keepc hb q4
  replace q5 := keepc hb q5
  replace q6 := keepc hb q6
  replace lp := Nat.lt_of_lt_of_le lp hb.size
  replace lq := Nat.lt_of_lt_of_le lq hb.size
  clear hb
  go_wp2_with fail
  with_reducible refine (CA.out _).mono ?_
  rintro e_ w3 ⟨g0, rfl, hs0, hb⟩
  replace HB := Lib.hid (on_below HB.out hb)
  replace p0 := keepc hb p0
  replace p1 := keepc hb p1
  replace p2 := keepc hb p2
  replace p3 := keepc hb p3
  replace p4 := keepc hb p4
  replace p5 := keepc hb p5
  replace p6 := keepc hb p6
  replace q0 := keepc hb q0
  replace q1 := keepc hb q1
  replace q2 := keepc hb q2
  replace q3 := keepc hb q3
  replace q4 := keepc hb q4
  replace q5 := keepc hb q5
  replace q6 := keepc hb q6
  replace lp := Nat.lt_of_lt_of_le lp hb.size
  replace lq := Nat.lt_of_lt_of_le lq hb.size
  clear hb
  have HS0 := Lib.hid hs0
  clear hs0
  go_upto_region 3 with fail
  have hb := below_new w3 (.cells #[.slice (some ⟨g0, 0, none⟩) 4 4, .int .i64 (p.ez - 2), .int .i64 (p.ez + one)] 47)
  have kx : (w3.alloc (.cells #[.slice (some ⟨g0, 0, none⟩) 4 4, .int .i64 (p.ez - 2), .int .i64 (p.ez + one)] 47)).heap[w3.heap.size]? = some (.cells #[.slice (some ⟨g0, 0, none⟩) 4 4, .int .i64 (p.ez - 2), .int .i64 (p.ez + one)] 47 (0, 0)) := World.alloc_heap_new _ _
  obtain ⟨x0, x1, x2⟩ := cells3 kx
  have lx := block_lt x0
  clear kx
  generalize w3.alloc (.cells #[.slice (some ⟨g0, 0, none⟩) 4 4, .int .i64 (p.ez - 2), .int .i64 (p.ez + one)] 47) = w4 at *
  replace HB := Lib.hid (on_below HB.out hb)
  replace HS0 := Lib.hid (HS0.out.below hb)
  replace p0 := keepc hb p0
  replace p1 := keepc hb p1
  replace p2 := keepc hb p2
  replace p3 := keepc hb p3
  replace p4 := keepc hb p4
  replace p5 := keepc hb p5
  replace p6 := keepc hb p6
  replace q0 := keepc hb q0
  replace q1 := keepc hb q1
  replace q2 := keepc hb q2
  replace q3 := keepc hb q3
  replace q4 := keepc hb q4
  replace q5 := keepc hb q5
  replace q6 := keepc hb q6
  replace lp := Nat.lt_of_lt_of_le lp hb.size
  replace lq := Nat.lt_of_lt_of_le lq hb.size
  clear hb
  generalize w3.heap.size = gx at *
  go_wp2_with fail
  with_reducible refine (CB.out _).mono ?_
  rintro e_ w5 ⟨g1, rfl, hs1, hb⟩
  replace HB := Lib.hid (on_below HB.out hb)
  replace HS0 := Lib.hid (HS0.out.below hb)
  replace p0 := keepc hb p0
  replace p1 := keepc hb p1
  replace p2 := keepc hb p2
  replace p3 := keepc hb p3
  replace p4 := keepc hb p4
  replace p5 := keepc hb p5
  replace p6 := keepc hb p6
  replace q0 := keepc hb q0
  replace q1 := keepc hb q1
  replace q2 := keepc hb q2
  replace q3 := keepc hb q3
  replace q4 := keepc hb q4
  replace q5 := keepc hb q5
  replace q6 := keepc hb q6
  replace x0 := keepc hb x0
  replace x1 := keepc hb x1
  replace x2 := keepc hb x2
  replace lp := Nat.lt_of_lt_of_le lp hb.size
  replace lq := Nat.lt_of_lt_of_le lq hb.size
  replace lx := Nat.lt_of_lt_of_le lx hb.size
  clear hb
  have HS1 := Lib.hid hs1
  clear hs1
  go_upto_region 4 with fail
  have hb := below_new w5 (.cells #[.slice (some ⟨g1, 0, none⟩) 4 4, .int .i64 (q.ez - 2), .int .i64 (q.ez + two)] 47)
  have ky : (w5.alloc (.cells #[.slice (some ⟨g1, 0, none⟩) 4 4, .int .i64 (q.ez - 2), .int .i64 (q.ez + two)] 47)).heap[w5.heap.size]? = some (.cells #[.slice (some ⟨g1, 0, none⟩) 4 4, .int .i64 (q.ez - 2), .int .i64 (q.ez + two)] 47 (0, 0)) := World.alloc_heap_new _ _
  obtain ⟨y0, y1, y2⟩ := cells3 ky
  have ly := block_lt y0
  clear ky
  generalize w5.alloc (.cells #[.slice (some ⟨g1, 0, none⟩) 4 4, .int .i64 (q.ez - 2), .int .i64 (q.ez + two)] 47) = w6 at *
  replace HB := Lib.hid (on_below HB.out hb)
  replace HS0 := Lib.hid (HS0.out.below hb)
  replace HS1 := Lib.hid (HS1.out.below hb)
  replace p0 := keepc hb p0
  replace p1 := keepc hb p1
  replace p2 := keepc hb p2
  replace p3 := keepc hb p3
  replace p4 := keepc hb p4
  replace p5 := keepc hb p5
  replace p6 := keepc hb p6
  replace q0 := keepc hb q0
  replace q1 := keepc hb q1
  replace q2 := keepc hb q2
  replace q3 := keepc hb q3
  replace q4 := keepc hb q4
  replace q5 := keepc hb q5
  replace q6 := keepc hb q6
  replace x0 := keepc hb x0
  replace x1 := keepc hb x1
  replace x2 := keepc hb x2
  replace lp := Nat.lt_of_lt_of_le lp hb.size
  replace lq := Nat.lt_of_lt_of_le lq hb.size
  replace lx := Nat.lt_of_lt_of_le lx hb.size
  clear hb
  generalize w5.heap.size = gy at *
  go_wp2_with fail
  with_reducible refine (CC.out _).mono ?_
  rintro e_ w7 ⟨g2, rfl, hs2, hb⟩
  replace HB := Lib.hid (on_below HB.out hb)
  replace HS0 := Lib.hid (HS0.out.below hb)
  replace HS1 := Lib.hid (HS1.out.below hb)
  replace p0 := keepc hb p0
  replace p1 := keepc hb p1
  replace p2 := keepc hb p2
  replace p3 := keepc hb p3
  replace p4 := keepc hb p4
  replace p5 := keepc hb p5
  replace p6 := keepc hb p6
  replace q0 := keepc hb q0
  replace q1 := keepc hb q1
  replace q2 := keepc hb q2
  replace q3 := keepc hb q3
  replace q4 := keepc hb q4
  replace q5 := keepc hb q5
  replace q6 := keepc hb q6
  replace x0 := keepc hb x0
  replace x1 := keepc hb x1
  replace x2 := keepc hb x2
  replace y0 := keepc hb y0
  replace y1 := keepc hb y1
  replace y2 := keepc hb y2
  replace lp := Nat.lt_of_lt_of_le lp hb.size
  replace lq := Nat.lt_of_lt_of_le lq hb.size
  replace lx := Nat.lt_of_lt_of_le lx hb.size
  replace ly := Nat.lt_of_lt_of_le ly hb.size
  clear hb
  have HS2 := Lib.hid hs2
  clear hs2
  go_upto_region 5 with fail
  have hb := below_new w7 (.cells #[.slice (some ⟨g2, 0, none⟩) 4 4, .int .i64 (p.ez - 2), .int .i64 (p.ez + two)] 47)
  have kz : (w7.alloc (.cells #[.slice (some ⟨g2, 0, none⟩) 4 4, .int .i64 (p.ez - 2), .int .i64 (p.ez + two)] 47)).heap[w7.heap.size]? = some (.cells #[.slice (some ⟨g2, 0, none⟩) 4 4, .int .i64 (p.ez - 2), .int .i64 (p.ez + two)] 47 (0, 0)) := World.alloc_heap_new _ _
  obtain ⟨z0, z1, z2⟩ := cells3 kz
  have lz := block_lt z0
  clear kz
  generalize w7.alloc (.cells #[.slice (some ⟨g2, 0, none⟩) 4 4, .int .i64 (p.ez - 2), .int .i64 (p.ez + two)] 47) = w8 at *
  replace HB := Lib.hid (on_below HB.out hb)
  replace HS0 := Lib.hid (HS0.out.below hb)
  replace HS1 := Lib.hid (HS1.out.below hb)
  replace HS2 := Lib.hid (HS2.out.below hb)
  replace p0 := keepc hb p0
  replace p1 := keepc hb p1
  replace p2 := keepc hb p2
  replace p3 := keepc hb p3
  replace p4 := keepc hb p4
  replace p5 := keepc hb p5
  replace p6 := keepc hb p6
  replace q0 := keepc hb q0
  replace q1 := keepc hb q1
  replace q2 := keepc hb q2
  replace q3 := keepc hb q3
  replace q4 := keepc hb q4
  replace q5 := keepc hb q5
  replace q6 := keepc hb q6
  replace x0 := keepc hb x0
  replace x1 := keepc hb x1
  replace x2 := keepc hb x2
  replace y0 := keepc hb y0
  replace y1 := keepc hb y1
  replace y2 := keepc hb y2
  replace lp := Nat.lt_of_lt_of_le lp hb.size
  replace lq := Nat.lt_of_lt_of_le lq hb.size
  replace lx := Nat.lt_of_lt_of_le lx hb.size
  replace ly := Nat.lt_of_lt_of_le ly hb.size
  clear hb
  generalize w7.heap.size = gz at *
  go_wp2_with fail
  with_reducible refine (KI.out _ _ HS0.out).mono ?_
  rintro e_ w9 ⟨rfl, hb⟩
  replace HB := Lib.hid (on_below HB.out hb)
  replace HS0 := Lib.hid (HS0.out.below hb)
  replace HS1 := Lib.hid (HS1.out.below hb)
  replace HS2 := Lib.hid (HS2.out.below hb)
  replace p0 := keepc hb p0
  replace p1 := keepc hb p1
  replace p2 := keepc hb p2
  replace p3 := keepc hb p3
  replace p4 := keepc hb p4
  replace p5 := keepc hb p5
  replace p6 := keepc hb p6
  replace q0 := keepc hb q0
  replace q1 := keepc hb q1
  replace q2 := keepc hb q2
  replace q3 := keepc hb q3
  replace q4 := keepc hb q4
  replace q5 := keepc hb q5
  replace q6 := keepc hb q6
  replace x0 := keepc hb x0
  replace x1 := keepc hb x1
  replace x2 := keepc hb x2
  replace y0 := keepc hb y0
  replace y1 := keepc hb y1
  replace y2 := keepc hb y2
  replace z0 := keepc hb z0
  replace z1 := keepc hb z1
  replace z2 := keepc hb z2
  replace lp := Nat.lt_of_lt_of_le lp hb.size
  replace lq := Nat.lt_of_lt_of_le lq hb.size
  replace lx := Nat.lt_of_lt_of_le lx hb.size
  replace ly := Nat.lt_of_lt_of_le ly hb.size
  replace lz := Nat.lt_of_lt_of_le lz hb.size
  clear hb
  go_wp2_with fail
  with_reducible refine (KA.out _ _ _ HS0.out HS1.out).mono ?_
  rintro e_ w10 ⟨rfl, hb⟩
  replace HB := Lib.hid (on_below HB.out hb)
  replace HS0 := Lib.hid (HS0.out.below hb)
  replace HS1 := Lib.hid (HS1.out.below hb)
  replace HS2 := Lib.hid (HS2.out.below hb)
  replace p0 := keepc hb p0
  replace p1 := keepc hb p1
  replace p2 := keepc hb p2
  replace p3 := keepc hb p3
  replace p4 := keepc hb p4
  replace p5 := keepc hb p5
  replace p6 := keepc hb p6
  replace q0 := keepc hb q0
  replace q1 := keepc hb q1
  replace q2 := keepc hb q2
  replace q3 := keepc hb q3
  replace q4 := keepc hb q4
  replace q5 := keepc hb q5
  replace q6 := keepc hb q6
  replace x0 := keepc hb x0
  replace x1 := keepc hb x1
  replace x2 := keepc hb x2
  replace y0 := keepc hb y0
  replace y1 := keepc hb y1
  replace y2 := keepc hb y2
  replace z0 := keepc hb z0
  replace z1 := keepc hb z1
  replace z2 := keepc hb z2
  replace lp := Nat.lt_of_lt_of_le lp hb.size
  replace lq := Nat.lt_of_lt_of_le lq hb.size
  replace lx := Nat.lt_of_lt_of_le lx hb.size
  replace ly := Nat.lt_of_lt_of_le ly hb.size
  replace lz := Nat.lt_of_lt_of_le lz hb.size
  clear hb
  go_wp2_with fail
  with_reducible refine (KN.out _ _ _ HS0.out HS2.out).mono ?_
  rintro e_ w11 ⟨rfl, hb⟩
  replace HB := Lib.hid (on_below HB.out hb)
  replace HS0 := Lib.hid (HS0.out.below hb)
  replace HS1 := Lib.hid (HS1.out.below hb)
  replace HS2 := Lib.hid (HS2.out.below hb)
  replace p0 := keepc hb p0
  replace p1 := keepc hb p1
  replace p2 := keepc hb p2
  replace p3 := keepc hb p3
  replace p4 := keepc hb p4
  replace p5 := keepc hb p5
  replace p6 := keepc hb p6
  replace q0 := keepc hb q0
  replace q1 := keepc hb q1
  replace q2 := keepc hb q2
  replace q3 := keepc hb q3
  replace q4 := keepc hb q4
  replace q5 := keepc hb q5
  replace q6 := keepc hb q6
  replace x0 := keepc hb x0
  replace x1 := keepc hb x1
  replace x2 := keepc hb x2
  replace y0 := keepc hb y0
  replace y1 := keepc hb y1
  replace y2 := keepc hb y2
  replace z0 := keepc hb z0
  replace z1 := keepc hb z1
  replace z2 := keepc hb z2
  replace lp := Nat.lt_of_lt_of_le lp hb.size
  replace lq := Nat.lt_of_lt_of_le lq hb.size
  replace lx := Nat.lt_of_lt_of_le lx hb.size
  replace ly := Nat.lt_of_lt_of_le ly hb.size
  replace lz := Nat.lt_of_lt_of_le lz hb.size
  clear hb
  go_wp2_with fail
  go_quiet (fail)
  have hb : Below w11.heap.size w11 (w11.drewN nq) := below_drewN' (Below.refl _ _) nq
  generalize w11.drewN nq = w12 at *
  replace HB := Lib.hid (on_below HB.out hb)
  replace HS0 := Lib.hid (HS0.out.below hb)
  replace HS1 := Lib.hid (HS1.out.below hb)
  replace HS2 := Lib.hid (HS2.out.below hb)
  replace p0 := keepc hb p0
  replace p1 := keepc hb p1
  replace p2 := keepc hb p2
  replace p3 := keepc hb p3
  replace p4 := keepc hb p4
  replace p5 := keepc hb p5
  replace p6 := keepc hb p6
  replace q0 := keepc hb q0
  replace q1 := keepc hb q1
  replace q2 := keepc hb q2
  replace q3 := keepc hb q3
  replace q4 := keepc hb q4
  replace q5 := keepc hb q5
  replace q6 := keepc hb q6
  replace x0 := keepc hb x0
  replace x1 := keepc hb x1
  replace x2 := keepc hb x2
  replace y0 := keepc hb y0
  replace y1 := keepc hb y1
  replace y2 := keepc hb y2
  replace z0 := keepc hb z0
  replace z1 := keepc hb z1
  replace z2 := keepc hb z2
  replace lp := Nat.lt_of_lt_of_le lp hb.size
  replace lq := Nat.lt_of_lt_of_le lq hb.size
  replace lx := Nat.lt_of_lt_of_le lx hb.size
  replace ly := Nat.lt_of_lt_of_le ly hb.size
  replace lz := Nat.lt_of_lt_of_le lz hb.size
  clear hb
  go_wp2_with fail
  go_ret
  exact ⟨rfl, HB.out⟩
theorem law_any (p : Pl) (fp : Pfit p) (q : Pl) (fq : Pfit q) (one : Int) (i1 : I64 one) (two : Int) (i2 : I64 two) (w : World) :
    Calls Try.prog 8 #[.agg #[.int .i64 p.id, .int .i64 p.row, .int .i64 p.pos, .int .i64 p.ex, .int .i64 p.ey, .int .i64 p.ez, .int .i64 p.kd], .agg #[.int .i64 q.id, .int .i64 q.row, .int .i64 q.pos, .int .i64 q.ex, .int .i64 q.ey, .int .i64 q.ez, .int .i64 q.kd], .int .i64 one, .int .i64 two] w fun e_ w' => e_ = .returned (.bool true) ∧ Below w.heap.size w w' := by
  obtain ⟨E1, e1⟩ := HdR.ex p one
  obtain ⟨E2, e2⟩ := HdR.ex q two
  obtain ⟨E3, e3⟩ := HdR.ex p two
  by_cases z1 : E1 = 0
  rotate_left
  · exact hds_f1 p q one two E1 E2 E3 e1 e2 e3 z1 w
  subst z1
  by_cases z2 : E2 = 0
  rotate_left
  · exact hds_f2 p q one two E2 E3 e1 e2 e3 z2 w
  subst z2
  by_cases z3 : E3 = 0
  rotate_left
  · exact hds_f3 p q one two E3 e1 e2 e3 z3 w
  subst z3
  by_cases hp : 0 < one
  · by_cases ha : Apa (hpt p) (p.ez - 2) (p.ez + one) (hpt q) (q.ez - 2) (q.ez + two)
    · exact hds_11 p q one two e1 e2 e3 hp ha w
    · exact hds_10 p q one two e1 e2 e3 hp ha w
  · by_cases ha : Apa (hpt p) (p.ez - 2) (p.ez + one) (hpt q) (q.ez - 2) (q.ez + two)
    · exact hds_01 p q one two e1 e2 e3 hp ha w
    · exact hds_00 p q one two e1 e2 e3 hp ha w
/-! ### The row -/
open Go.ChangeShapes Go.WideShapes Go.ChangeAt Go.Joins
theorem own : ownKnob Try.prog.godebug = none := by kernel_rfl
noncomputable def laidWorld (os : Os) : World := World.holding Try.prog os ⟨#[], #[], []⟩
theorem laidWorld_met (os : Os) (args : Array Value) : laidMet Try.prog [] ((laidWorld os).forCall (fun _ _ => 0) ⟨#[], args, []⟩).memory :=
  laidMet_of_run' 8 (by kernel_rfl) (by kernel_rfl)

set_option maxRecDepth 100000 in
theorem contract (H : Type) (enc : TypeId × Value → H) (W : World) (base : Nat) (args : Array Value) (ds gs : List (DataW H)) (before : List MemPlace)
    (hval : ∀ (j : Nat) t v, Try.f8.params[j]? = some t → args[j]? = some v → Value.okWide Try.prog W .any base t v)
    (hW : DataW.Whole enc Try.prog Try.f8.params.toList Rows.tiersHeadsSpec.vars false W args.toList ds gs before) :
    Calls Try.prog 8 args W fun e W' => ∃ v, e = .returned v ∧ Rows.tiersHeadsSpec.post enc Try.prog Try.f8 false true false false W args v W' := by
  have hW' := hW
  have hold : ∀ q ∈ before, decide (q.block < W.heap.size) = true := fun q hq => by simpa using hW.lt q hq
  obtain ⟨p, q, hA0, hV, rfl, hfz, hnd⟩ := hW
  have hA : DataW.TrodAll enc Try.prog W 0 (fun _ => true) true Try.f8.params.toList args.toList ds p := hA0
  rw [Try.params8] at hA hval
  obtain ⟨v0, vs0, d0, ds0, p0, q0, hargs, rfl, rfl, h0, r0⟩ := trodAll_cons hA
  obtain ⟨v1, vs1, d1, ds1, p1, q1, rfl, rfl, rfl, h1, r1⟩ := trodAll_cons r0
  obtain ⟨v2, vs2, d2, ds2, p2, q2, rfl, rfl, rfl, h2, r2⟩ := trodAll_cons r1
  obtain ⟨v3, vs3, d3, ds3, p3, q3, rfl, rfl, rfl, h3, r3⟩ := trodAll_cons r2
  obtain ⟨rfl, rfl, rfl⟩ := trodAll_nil r3
  obtain rfl : args = #[v0, v1, v2, v3] := Array.toList_inj.1 hargs
  obtain ⟨rfl, rfl⟩ := trodVars_none hV
  obtain ⟨p, rfl, fp, rfl, shutp⟩ := open_place (hval 0 28 v0 rfl rfl) h0
  obtain ⟨q, rfl, fq, rfl, shutq⟩ := open_place (hval 1 28 v1 rfl rfl) h1
  obtain ⟨one, rfl, rfl, rfl, ione⟩ := open_int Try.underlying3 (hval 2 3 v2 rfl rfl) h2
  obtain ⟨two, rfl, rfl, rfl, itwo⟩ := open_int Try.underlying3 (hval 3 3 v3 rfl rfl) h3
  clear hA0
  refine (law_any p fp q fq one (wf_i ione) two (wf_i itwo) W).mono fun e W' ⟨he, bel⟩ => ?_
  subst he
  exact ⟨_, rfl, _, _, _, [], _, [], hW', trodAll_mk1 (shut_bool Try.underlying4 _), (trodAll_cons_mk (shutp W' (fun b => decide (b < W.heap.size))) (trodAll_cons_mk (shutq W' (fun b => decide (b < W.heap.size))) (trodAll_cons_mk (shut_int Try.underlying3 ione) (trodAll_cons_mk (shut_int Try.underlying3 itwo) trodAll_mk0)))), rfl, bel.frame _, fun h => by cases h⟩

theorem reads (os : Os) {H : Type} (enc : TypeId × Value → H) : ∃ places, DataW.whole enc Try.prog ((laidWorld os).forCall (fun _ _ => 0) ⟨#[], #[.agg #[.int .i64 0, .int .i64 0, .int .i64 0, .int .i64 0, .int .i64 0, .int .i64 0, .int .i64 0], .agg #[.int .i64 0, .int .i64 0, .int .i64 0, .int .i64 0, .int .i64 0, .int .i64 0, .int .i64 0], .int .i64 0, .int .i64 0], []⟩).memory Try.f8.params.toList Rows.tiersHeadsSpec.vars false (#[.agg #[.int .i64 0, .int .i64 0, .int .i64 0, .int .i64 0, .int .i64 0, .int .i64 0, .int .i64 0], .agg #[.int .i64 0, .int .i64 0, .int .i64 0, .int .i64 0, .int .i64 0, .int .i64 0, .int .i64 0], .int .i64 0, .int .i64 0] : Array Value).toList 8 = some ([.agg [.lit (.int .i64 0), .lit (.int .i64 0), .lit (.int .i64 0), .agg [.lit (.int .i64 0), .lit (.int .i64 0), .lit (.int .i64 0)], .lit (.int .i64 0)], .agg [.lit (.int .i64 0), .lit (.int .i64 0), .lit (.int .i64 0), .agg [.lit (.int .i64 0), .lit (.int .i64 0), .lit (.int .i64 0)], .lit (.int .i64 0)], .lit (.int .i64 0), .lit (.int .i64 0)], [], places) :=
  ⟨[], by kernel_rfl⟩

set_option maxRecDepth 100000 in
theorem lifted (os : Os) (started : os.Started) (H : Type) (enc : TypeId × Value → H) (F : Stop.Interp) :
    ReturnsInHanded {} Try.checked os 8 .any ((OpenSpec.ofChange Rows.tiersHeadsSpec).preRow enc Try.prog Try.f8 Rows.tiersHeadsRow.domain false Rows.tiersHeadsRow.laid) (((OpenSpec.ofChange Rows.tiersHeadsSpec).at F).post enc Try.prog Try.f8 false true false false) := by
  obtain ⟨places, hx⟩ := reads os enc
  refine returnsInHanded_of_row (C := Try.checked) (s := OpenSpec.ofChange Rows.tiersHeadsSpec) own started (by kernel_rfl) Try.func8
    (witness_row_atRef (enc := enc) (C := Try.checked) false (laidWorld os) #[.agg #[.int .i64 0, .int .i64 0, .int .i64 0, .int .i64 0, .int .i64 0, .int .i64 0, .int .i64 0], .agg #[.int .i64 0, .int .i64 0, .int .i64 0, .int .i64 0, .int .i64 0, .int .i64 0, .int .i64 0], .int .i64 0, .int .i64 0] rfl (by kernel_rfl) (by kernel_rfl) (by kernel_rfl)
      (OpenSpec.preRow_of_cond 8 hx (by kernel_rfl) (fun k hk => by cases hk) (by kernel_rfl) (laidWorld_met os _))) ?_
  intro W base args ds gs before hval hW _ hcond _ hL hsh _
  exact contract H enc W base args ds gs before hval hW

/-- The statement. -/
theorem said : Rows.TiersHeadsSaid :=
  OpenClaim.holds_of_cond 8 Try.f8 rfl rfl rfl rfl rfl rfl rfl ⟨rfl, rfl, rfl, rfl, rfl⟩ rfl rfl rfl rfl rfl (by kernel_rfl) Try.func8 (by kernel_rfl)
    (of_decide_eq_true (by kernel_rfl)) (by unfold Func.isWrapper; first | (rw [if_pos (by decide +kernel)]; kernel_rfl) | (rw [if_neg (by decide +kernel)]; exact ⟨rfl, rfl⟩))
    (fun os started H enc _ F => by rw [OpenClaim.pre_eq_preRow]; exact lifted os started H enc F)
end Go.Proofs.Ytgikpcoaennkgaa.LawHeads
