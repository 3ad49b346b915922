/-
  Clocks: Order of the package.
-/
import Derived.Test.YtnjhepkfjohdnaaClkG
namespace Go.Proofs.Ytnjhepkfjohdnaa
open Go.RowKit Go.Sort
open Go.RowKit (Below)
set_option linter.unusedVariables false

/-- What Order returns. -/
def oV (s e d r s' e' d' r' : Int) : Int := if rds s e d r = true ∧ rds s' e' d' r' = true then sd (frm s e d r) (unt s e d r) (frm s' e' d' r') (unt s' e' d' r') else 0
def oE (s e d r s' e' d' r' : Int) : Int := if rds s e d r = true ∧ rds s' e' d' r' = true then 0 else 1

theorem orderQ_enter (cap : Array Value) (W : World) : (callFunc 33 cap).run Try.prog W = .ok (.enter 33 cap) W := by simp [go_sem]

/-- One of two. -/
def pick2 (a b : Int) (i : Nat) : Int := if i = 0 then a else b
theorem two_of {W : World} {b : Nat} {s e d r s' e' d' r' : Int} (h0 : W.cell? ⟨b, 0, none⟩ = some (fv s e d r)) (h1 : W.cell? ⟨b, 1, none⟩ = some (fv s' e' d' r')) :
    ∀ i, i < 2 → W.cell? ⟨b, i, none⟩ = some (fv (pick2 s s' i) (pick2 e e' i) (pick2 d d' i) (pick2 r r' i)) := by
  intro i hi
  rcases (by omega : i = 0 ∨ i = 1) with rfl | rfl
  · exact h0
  · exact h1

theorem both_of {P : Nat → Prop} (h0 : P 0) (h1 : P 1) : ∀ i, i < 2 → P i := by
  intro i hi
  rcases (by omega : i = 0 ∨ i = 1) with rfl | rfl
  · exact h0
  · exact h1
theorem first_of {P : Nat → Prop} (h0 : P 0) : ∀ i, i < 1 → P i := by
  intro i hi
  obtain rfl : i = 0 := by omega
  exact h0
/-- Two faces asked which one is ahead. -/
theorem ask_order (s e d r s' e' d' r' : Int) (b g h : Nat) (W : World) (h0 : W.cell? ⟨b, 0, none⟩ = some (fv s e d r)) (h1 : W.cell? ⟨b, 1, none⟩ = some (fv s' e' d' r')) (p : Fo W g s e d r) (q : Fo W h s' e' d' r') :
    Calls Try.prog 30 #[.func (.func 33) #[] #[.pointer (some ⟨g, 0, none⟩), .pointer (some ⟨h, 0, none⟩)], .slice (some ⟨b, 0, none⟩) 2 2] W fun e'' w' => e'' = .returned (.tuple #[.int .i64 (oV s e d r s' e' d' r'), .int .i64 (oE s e d r s' e' d' r')]) ∧ Below W.heap.size W w' := by
  cases hr : rds s e d r with
  | true =>
    cases hr' : rds s' e' d' r' with
    | true =>
      have z := askI_ok 33 #[.pointer (some ⟨g, 0, none⟩), .pointer (some ⟨h, 0, none⟩)] (sd (frm s e d r) (unt s e d r) (frm s' e' d' r') (unt s' e' d' r')) b 2 (pick2 s s') (pick2 e e') (pick2 d d') (pick2 r r') W (by omega) (block_lt h0) (orderQ_enter _) (fun V hV => orderQ g h s e d r s' e' d' r' _ rfl hr hr' V (p.on hV) (q.on hV)) (two_of h0 h1)
        (both_of (P := fun i => rds (pick2 s s' i) (pick2 e e' i) (pick2 d d' i) (pick2 r r' i) = true) hr hr')
      simpa [oV, oE, hr, hr'] using z
    | false =>
      have z := askI_err 33 #[.pointer (some ⟨g, 0, none⟩), .pointer (some ⟨h, 0, none⟩)] b 2 (pick2 s s') (pick2 e e') (pick2 d d') (pick2 r r') W (by omega) (block_lt h0) (two_of h0 h1) 1 (by omega) (first_of (P := fun i => rds (pick2 s s' i) (pick2 e e' i) (pick2 d d' i) (pick2 r r' i) = true) hr) hr'
      simpa [oV, oE, hr, hr'] using z
  | false =>
    have z := askI_err 33 #[.pointer (some ⟨g, 0, none⟩), .pointer (some ⟨h, 0, none⟩)] b 2 (pick2 s s') (pick2 e e') (pick2 d d') (pick2 r r') W (by omega) (block_lt h0) (two_of h0 h1) 0 (by omega) (fun i hi => by omega) hr
    simpa [oV, oE, hr] using z

set_option maxRecDepth 100000 in
set_option maxHeartbeats 800000 in
theorem order_any (s e d r s' e' d' r' : Int) (w : World) :
    Calls Try.prog 17 #[.agg #[.int .i64 s, .int .i64 e, .int .i64 d], .int .i64 r, .agg #[.int .i64 s', .int .i64 e', .int .i64 d'], .int .i64 r'] w fun e'' w' => e'' = .returned (.tuple #[.int .i64 (oV s e d r s' e' d' r'), .int .i64 (oE s e d r s' e' d' r')]) ∧ Below w.heap.size w w' := by
  have hmf : ∀ (fn : Fn) (first cap : Array Value) (w : World), (Instr.makeFunc fn first cap).run Try.prog w = .ok (.func fn first cap) w := fun _ _ _ _ => rfl
  have HA := Lib.hid (ask_order s e d r s' e' d' r')
  generalize oV s e d r s' e' d' r' = V at *
  generalize oE s e d r s' e' d' r' = E at *
  go_enter Try.func17, Try.ntmps17
  go_wp2_with fail
  go_region
  all_goals go_wp2_with fail
  all_goals refine (HA.out _ _ _ _ (by simp [go_sem, fv]) (by simp [go_sem, fv]) (by simp [go_sem, Fo]) (by simp [go_sem, Fo])).mono ?_
  all_goals rintro e' w1 ⟨rfl, hb⟩
  all_goals go_wp2_with fail
  all_goals go_ret2
  all_goals first
    | exact ⟨rfl, ((((((Below.refl _ _).alloc (Nat.le_refl _) _).alloc (by simp; try omega) _).alloc (by simp; try omega) _).alloc (by simp; try omega) _).alloc (by simp; try omega) _).trans (hb.mono (by simp; omega))⟩
    | exact ⟨rfl, (below_drewN' ((((((Below.refl _ _).alloc (Nat.le_refl _) _).alloc (by simp; try omega) _).alloc (by simp; try omega) _).alloc (by simp; try omega) _).alloc (by simp; try omega) _) _).trans (hb.mono (by simp; omega))⟩
    | (trace_state; fail)
end Go.Proofs.Ytnjhepkfjohdnaa
