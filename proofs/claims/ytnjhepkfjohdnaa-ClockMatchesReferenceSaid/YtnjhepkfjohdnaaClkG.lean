/-
  Clocks: True and Passed of the package.
-/
import Derived.Test.YtnjhepkfjohdnaaClkF
namespace Go.Proofs.Ytnjhepkfjohdnaa
open Go.RowKit Go.Sort
open Go.RowKit (Below)
set_option linter.unusedVariables false

/-- What True returns. -/
def tF (s e d r : Int) : Int := if rds s e d r = true then frm s e d r else 0
def tU (s e d r : Int) : Int := if rds s e d r = true then unt s e d r else 0
def tE (s e d r : Int) : Int := if rds s e d r = true then 0 else 1
/-- What Passed returns. -/
def pV (s e d r t : Int) : Int := if rds s e d r = true then sd (frm s e d r) (unt s e d r) t t else 0

theorem times_enter (cap : Array Value) (W : World) : (callFunc 27 cap).run Try.prog W = .ok (.enter 27 cap) W := by simp [go_sem]
theorem passQ_enter (cap : Array Value) (W : World) : (callFunc 31 cap).run Try.prog W = .ok (.enter 31 cap) W := by simp [go_sem]

theorem one_of {W : World} {b : Nat} {v : Value} (hb : W.cell? ⟨b, 0, none⟩ = some v) : ∀ i, i < 1 → W.cell? ⟨b, i, none⟩ = some v := by
  intro i hi
  obtain rfl : i = 0 := by omega
  exact hb

/-- One face asked for its times. -/
theorem ask_true (s e d r : Int) (b : Nat) (W : World) (hb : W.cell? ⟨b, 0, none⟩ = some (fv s e d r)) :
    Calls Try.prog 26 #[.func (.func 27) #[.agg #[.int .i64 s, .int .i64 e, .int .i64 d, .int .i64 r]] #[], .slice (some ⟨b, 0, none⟩) 1 1] W fun e' w' => e' = .returned (.tuple #[.agg #[.int .i64 (tF s e d r), .int .i64 (tU s e d r)], .int .i64 (tE s e d r)]) ∧ Below W.heap.size W w' := by
  cases h : rds s e d r with
  | true =>
    have q := askS_ok 27 #[.agg #[.int .i64 s, .int .i64 e, .int .i64 d, .int .i64 r]] (frm s e d r) (unt s e d r) b 1 (fun _ => s) (fun _ => e) (fun _ => d) (fun _ => r) W (by omega) (block_lt hb) (times_enter _) (fun V _ => times_any s e d r h V) (one_of hb) (fun _ _ => h)
    simpa [tF, tU, tE, h] using q
  | false =>
    have q := askS_err 27 #[.agg #[.int .i64 s, .int .i64 e, .int .i64 d, .int .i64 r]] b 1 (fun _ => s) (fun _ => e) (fun _ => d) (fun _ => r) W (by omega) (block_lt hb) (one_of hb) 0 (by omega) (fun i hi => by omega) h
    simpa [tF, tU, tE, h] using q

/-- One face asked on which side of a time it is. -/
theorem ask_passed (s e d r t : Int) (b g h : Nat) (W : World) (hb : W.cell? ⟨b, 0, none⟩ = some (fv s e d r)) (p : Fo W g s e d r) (q : Pa W h t t) :
    Calls Try.prog 30 #[.func (.func 31) #[] #[.pointer (some ⟨g, 0, none⟩), .pointer (some ⟨h, 0, none⟩)], .slice (some ⟨b, 0, none⟩) 1 1] W fun e' w' => e' = .returned (.tuple #[.int .i64 (pV s e d r t), .int .i64 (tE s e d r)]) ∧ Below W.heap.size W w' := by
  cases hr : rds s e d r with
  | true =>
    have z := askI_ok 31 #[.pointer (some ⟨g, 0, none⟩), .pointer (some ⟨h, 0, none⟩)] (sd (frm s e d r) (unt s e d r) t t) b 1 (fun _ => s) (fun _ => e) (fun _ => d) (fun _ => r) W (by omega) (block_lt hb) (passQ_enter _) (fun V hV => passQ g h s e d r t t _ rfl hr V (p.on hV) (q.on hV)) (one_of hb) (fun _ _ => hr)
    simpa [pV, tE, hr] using z
  | false =>
    have z := askI_err 31 #[.pointer (some ⟨g, 0, none⟩), .pointer (some ⟨h, 0, none⟩)] b 1 (fun _ => s) (fun _ => e) (fun _ => d) (fun _ => r) W (by omega) (block_lt hb) (one_of hb) 0 (by omega) (fun i hi => by omega) hr
    simpa [pV, tE, hr] using z

set_option maxRecDepth 100000 in
set_option maxHeartbeats 800000 in
theorem true_any (s e d r : Int) (w : World) :
    Calls Try.prog 13 #[.agg #[.int .i64 s, .int .i64 e, .int .i64 d], .int .i64 r] w fun e' w' => e' = .returned (.tuple #[.agg #[.int .i64 (tF s e d r), .int .i64 (tU s e d r)], .int .i64 (tE s e d r)]) ∧ Below w.heap.size w w' := by
  have hmf : ∀ (fn : Fn) (first cap : Array Value) (w : World), (Instr.makeFunc fn first cap).run Try.prog w = .ok (.func fn first cap) w := fun _ _ _ _ => rfl
  have HA := Lib.hid (ask_true s e d r)
  generalize tF s e d r = F at *
  generalize tU s e d r = U at *
  generalize tE s e d r = E at *
  go_enter Try.func13, Try.ntmps13
  go_wp2_with fail
  refine (HA.out _ _ (by simp [go_sem, fv])).mono ?_
  rintro e' w1 ⟨rfl, hb⟩
  obtain ⟨h1, h2⟩ := bcell hb
  have z0 : w1.cell? ⟨w.heap.size + 1, 0, none⟩ = some (.int .i64 0) := by rw [h1 _ _ (by simp <;> omega)]; simp [go_sem]
  have z1 : w1.cell? ⟨w.heap.size + 1, 1, none⟩ = some (.int .i64 0) := by rw [h1 _ _ (by simp <;> omega)]; simp [go_sem]
  have f0 : w1.frozen? ⟨w.heap.size + 1, 0, none⟩ = false := by rw [h2 _ _ (by simp <;> omega)]; simp [go_sem]
  have f1 : w1.frozen? ⟨w.heap.size + 1, 1, none⟩ = false := by rw [h2 _ _ (by simp <;> omega)]; simp [go_sem]
  clear h1 h2
  go_wp2_with fail
  refine bodyPost_ret (v := .tuple #[.agg #[.int .i64 F, .int .i64 U], .int .i64 E]) (by simp [results, Try.results13, go_sem, z0, z1]) rfl ⟨rfl, ?_⟩
  exact (((((((Below.refl _ _).alloc (Nat.le_refl _) _).alloc (by simp) _).alloc (by simp; omega) _).alloc (by simp; omega) _).trans (hb.mono (by simp; omega))).setCell (by simp) _).setCell (by simp) _

set_option maxRecDepth 100000 in
set_option maxHeartbeats 800000 in
theorem passed_any (s e d r t : Int) (w : World) :
    Calls Try.prog 15 #[.agg #[.int .i64 s, .int .i64 e, .int .i64 d], .int .i64 r, .int .i64 t] w fun e' w' => e' = .returned (.tuple #[.int .i64 (pV s e d r t), .int .i64 (tE s e d r)]) ∧ Below w.heap.size w w' := by
  have hmf : ∀ (fn : Fn) (first cap : Array Value) (w : World), (Instr.makeFunc fn first cap).run Try.prog w = .ok (.func fn first cap) w := fun _ _ _ _ => rfl
  have HA := Lib.hid (ask_passed s e d r t)
  generalize pV s e d r t = V at *
  generalize tE s e d r = E at *
  go_enter Try.func15, Try.ntmps15
  go_wp2_with fail
  refine (HA.out _ _ _ _ (by simp [go_sem, fv]) (by simp [go_sem, Fo]) (by simp [go_sem, Pa])).mono ?_
  rintro e' w1 ⟨rfl, hb⟩
  go_wp2_with fail
  go_ret2
  refine ⟨rfl, ?_⟩
  exact (((((Below.refl _ _).alloc (Nat.le_refl _) _).alloc (by simp) _).alloc (by simp; omega) _).alloc (by simp; omega) _).trans (hb.mono (by simp; omega))
end Go.Proofs.Ytnjhepkfjohdnaa
