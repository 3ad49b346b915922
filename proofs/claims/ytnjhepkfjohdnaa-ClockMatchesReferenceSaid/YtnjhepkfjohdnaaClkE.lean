/-
  Clocks: the questions that Passed and Order ask.
-/
import Derived.Test.YtnjhepkfjohdnaaClkD
namespace Go.Proofs.Ytnjhepkfjohdnaa
open Go.RowKit Go.Sort
open Go.RowKit (Below)
set_option linter.unusedVariables false

theorem side_any (s e d r F U : Int) (h : rds s e d r = true) (w : World) :
    Calls Try.prog 32 #[.agg #[.int .i64 s, .int .i64 e, .int .i64 d, .int .i64 r], .agg #[.int .i64 F, .int .i64 U]] w fun e' w' => e' = .returned (.int .i64 (sd (frm s e d r) (unt s e d r) F U)) ∧ Below w.heap.size w w' :=
  side_of s e d r _ _ F U (times_any s e d r h) w

/-- Block g holds two numbers. -/
def Pa (w : World) (g : Nat) (a b : Int) : Prop := w.cell? ⟨g, 0, none⟩ = some (.int .i64 a) ∧ w.cell? ⟨g, 1, none⟩ = some (.int .i64 b)
theorem Pa.on {w w' : World} {g : Nat} {a b : Int} (p : Pa w g a b) (hb : Below w.heap.size w w') : Pa w' g a b :=
  ⟨by rw [hb.cell (block_lt p.1)]; exact p.1, by rw [hb.cell (block_lt p.2)]; exact p.2⟩

set_option maxHeartbeats 400000 in
theorem passQ (g h : Nat) (s e d r F U : Int) (v : Int) (hv : sd (frm s e d r) (unt s e d r) F U = v) (hr : rds s e d r = true) (w : World) (p : Fo w g s e d r) (q : Pa w h F U) :
    Calls Try.prog 31 #[.pointer (some ⟨g, 0, none⟩), .pointer (some ⟨h, 0, none⟩)] w fun e' w' => e' = .returned (.int .i64 v) ∧ Below w.heap.size w w' := by
  have HS : ∀ W, Calls Try.prog 32 #[.agg #[.int .i64 s, .int .i64 e, .int .i64 d, .int .i64 r], .agg #[.int .i64 F, .int .i64 U]] W fun e' w' => e' = .returned (.int .i64 v) ∧ Below W.heap.size W w' := fun W => by rw [← hv]; exact side_any s e d r F U hr W
  have HS := Lib.hid HS
  obtain ⟨p0, p1, p2, p3⟩ := p
  obtain ⟨q0, q1⟩ := q
  clear hv hr
  go_enter Try.func31, Try.ntmps31
  go_wp2_with fail
  refine (HS.out _).mono ?_
  rintro e' w1 ⟨rfl, hb⟩
  go_wp2
  go_ret
  exact ⟨rfl, hb⟩

set_option maxHeartbeats 1000000 in
theorem orderQ (g h : Nat) (s e d r s' e' d' r' : Int) (v : Int) (hv : sd (frm s e d r) (unt s e d r) (frm s' e' d' r') (unt s' e' d' r') = v) (hr : rds s e d r = true) (hr' : rds s' e' d' r' = true) (w : World) (p : Fo w g s e d r) (q : Fo w h s' e' d' r') :
    Calls Try.prog 33 #[.pointer (some ⟨g, 0, none⟩), .pointer (some ⟨h, 0, none⟩)] w fun e' w' => e' = .returned (.int .i64 v) ∧ Below w.heap.size w w' := by
  have HT := times_any s' e' d' r' hr'
  have HS : ∀ W, Calls Try.prog 32 #[.agg #[.int .i64 s, .int .i64 e, .int .i64 d, .int .i64 r], .agg #[.int .i64 (frm s' e' d' r'), .int .i64 (unt s' e' d' r')]] W fun e' w' => e' = .returned (.int .i64 v) ∧ Below W.heap.size W w' := fun W => by rw [← hv]; exact side_any s e d r _ _ hr W
  clear hv hr hr'
  generalize frm s' e' d' r' = F at *
  generalize unt s' e' d' r' = U at *
  have HS := Lib.hid HS
  have HT := Lib.hid HT
  rename_i HS0 HT0
  clear HS0 HT0
  have p' : Fo w.drew g s e d r := p
  have q' : Fo w.drew h s' e' d' r' := q
  obtain ⟨p0, p1, p2, p3⟩ := p
  obtain ⟨q0, q1, q2, q3⟩ := q
  obtain ⟨P0, P1, P2, P3⟩ := p'
  obtain ⟨Q0, Q1, Q2, Q3⟩ := q'
  have D0 : Below w.heap.size w w.drew := (Below.refl _ _).drew
  go_enter Try.func33, Try.ntmps33
  go_wp2_with fail
  go_region_held3 (fun W => W.cell? ⟨g, 0, none⟩ = some (.int .i64 s) ∧ W.cell? ⟨g, 1, none⟩ = some (.int .i64 e) ∧ W.cell? ⟨g, 2, none⟩ = some (.int .i64 d) ∧ W.cell? ⟨g, 3, none⟩ = some (.int .i64 r) ∧ W.cell? ⟨h, 0, none⟩ = some (.int .i64 s') ∧ W.cell? ⟨h, 1, none⟩ = some (.int .i64 e') ∧ W.cell? ⟨h, 2, none⟩ = some (.int .i64 d') ∧ W.cell? ⟨h, 3, none⟩ = some (.int .i64 r') ∧ Below w.heap.size w W)
    (first | assumption | exact ⟨P0, P1, P2, P3, Q0, Q1, Q2, Q3, D0⟩ | (go_split_ands; exact ⟨keepc hb (by assumption), keepc hb (by assumption), keepc hb (by assumption), keepc hb (by assumption), keepc hb (by assumption), keepc hb (by assumption), keepc hb (by assumption), keepc hb (by assumption), (on_same (w := w) (by assumption) hb).1⟩))
    (first | (go_at_call 27; refine (HT.out _).mono ?_; rintro e' w1 ⟨rfl, hb⟩) | (go_at_call 32; refine (HS.out _).mono ?_; rintro e' w1 ⟨rfl, hb⟩))
  all_goals go_split_ands
  all_goals go_wp2
  all_goals go_ret
  all_goals exact ⟨rfl, by assumption⟩
end Go.Proofs.Ytnjhepkfjohdnaa
