/-
  The laws' head, their small helpers; clocks and spans that come in.
-/
import Derived.Test.YtnjhepkfjohdnaaClkI
import Derived.Lib.SmallJoins
import Derived.ProofKit
import Derived.OpenShut
namespace Go.Proofs.Ytnjhepkfjohdnaa
open Go.RowKit Go.Sort
open Go.RowKit (Below)
set_option linter.unusedVariables false
set_option linter.unusedSimpArgs false

theorem true_is (s e d r F U E : Int) (hF : tF s e d r = F) (hU : tU s e d r = U) (hE : tE s e d r = E) (w : World) :
    Calls Try.prog 13 #[.agg #[.int .i64 s, .int .i64 e, .int .i64 d], .int .i64 r] w fun e' w' => e' = .returned (.tuple #[.agg #[.int .i64 F, .int .i64 U], .int .i64 E]) ∧ Below w.heap.size w w' := by
  subst hF hU hE; exact true_any s e d r w
theorem passed_is (s e d r t V E : Int) (hV : pV s e d r t = V) (hE : tE s e d r = E) (w : World) :
    Calls Try.prog 15 #[.agg #[.int .i64 s, .int .i64 e, .int .i64 d], .int .i64 r, .int .i64 t] w fun e' w' => e' = .returned (.tuple #[.int .i64 V, .int .i64 E]) ∧ Below w.heap.size w w' := by
  subst hV hE; exact passed_any s e d r t w
theorem order_is (s e d r s' e' d' r' V E : Int) (hV : oV s e d r s' e' d' r' = V) (hE : oE s e d r s' e' d' r' = E) (w : World) :
    Calls Try.prog 17 #[.agg #[.int .i64 s, .int .i64 e, .int .i64 d], .int .i64 r, .agg #[.int .i64 s', .int .i64 e', .int .i64 d'], .int .i64 r'] w fun e'' w' => e'' = .returned (.tuple #[.int .i64 V, .int .i64 E]) ∧ Below w.heap.size w w' := by
  subst hV hE; exact order_any s e d r s' e' d' r' w
theorem set_is (s e d r F U x y z E : Int) (h1 : c1 s e d r F U = x) (h2 : c2 s e d r F U = y) (h3 : c3 s e d r F U = z) (hE : sE s e d r F U = E) (w : World) :
    Calls Try.prog 19 #[.agg #[.int .i64 s, .int .i64 e, .int .i64 d], .int .i64 r, .agg #[.int .i64 F, .int .i64 U]] w fun e' w' => e' = .returned (.tuple #[.agg #[.int .i64 x, .int .i64 y, .int .i64 z], .int .i64 E]) ∧ Below w.heap.size w w' := by
  subst h1 h2 h3 hE; exact set_any s e d r F U w

theorem has_any (F U t : Int) (w : World) :
    Calls Try.prog 22 #[.agg #[.int .i64 F, .int .i64 U], .int .i64 t] w fun e w' => e = .returned (.bool (decide (F ≤ t) && decide (t < U))) ∧ Below w.heap.size w w' := by
  go_enter Try.func22, Try.ntmps22
  go_wp2
  all_goals (go_ret; exact ⟨ret_bool (by rw [Bool.eq_iff_iff]; simp; try omega), (Below.refl _ _).alloc (Nat.le_refl _) _⟩)
theorem has_b (F U t : Int) (b : Bool) (h : (decide (F ≤ t) && decide (t < U)) = b) (w : World) :
    Calls Try.prog 22 #[.agg #[.int .i64 F, .int .i64 U], .int .i64 t] w fun e w' => e = .returned (.bool b) ∧ Below w.heap.size w w' := by subst h; exact has_any F U t w
theorem within_any (n l h : Int) (w : World) :
    Calls Try.prog 23 #[.int .i64 n, .int .i64 l, .int .i64 h] w fun e w' => e = .returned (.bool (decide (l ≤ n) && decide (n ≤ h))) ∧ w = w' := by
  go_enter Try.func23, Try.ntmps23
  go_wp2
  all_goals (go_ret; exact ⟨ret_bool (by rw [Bool.eq_iff_iff]; simp; try omega), rfl⟩)
theorem within_b (n l h : Int) (b : Bool) (hb : (decide (l ≤ n) && decide (n ≤ h)) = b) (w : World) :
    Calls Try.prog 23 #[.int .i64 n, .int .i64 l, .int .i64 h] w fun e w' => e = .returned (.bool b) ∧ w = w' := by subst hb; exact within_any n l h w

set_option maxRecDepth 100000 in
set_option maxHeartbeats 2000000 in
theorem head_any (w : World) :
    Calls Try.prog 10 #[] w fun e w' => e = .returned (.bool true) ∧ Below w.heap.size w w' := by
  go_enter Try.func10, Try.ntmps10
  go_wp2_with fail
  have c0 : World.cell? ((w.alloc (.cells #[.int .i64 100, .int .i64 2, .int .i64 10] 23)).alloc (.cells #[.int .i64 300, .int .i64 1, .int .i64 0] 23)) ⟨w.heap.size, 0, none⟩ = some (.int .i64 100) := by simp [go_sem]
  have c1 : World.cell? ((w.alloc (.cells #[.int .i64 100, .int .i64 2, .int .i64 10] 23)).alloc (.cells #[.int .i64 300, .int .i64 1, .int .i64 0] 23)) ⟨w.heap.size, 1, none⟩ = some (.int .i64 2) := by simp [go_sem]
  have c2 : World.cell? ((w.alloc (.cells #[.int .i64 100, .int .i64 2, .int .i64 10] 23)).alloc (.cells #[.int .i64 300, .int .i64 1, .int .i64 0] 23)) ⟨w.heap.size, 2, none⟩ = some (.int .i64 10) := by simp [go_sem]
  have d0 : World.cell? ((w.alloc (.cells #[.int .i64 100, .int .i64 2, .int .i64 10] 23)).alloc (.cells #[.int .i64 300, .int .i64 1, .int .i64 0] 23)) ⟨w.heap.size + 1, 0, none⟩ = some (.int .i64 300) := by simp [go_sem]
  have d1 : World.cell? ((w.alloc (.cells #[.int .i64 100, .int .i64 2, .int .i64 10] 23)).alloc (.cells #[.int .i64 300, .int .i64 1, .int .i64 0] 23)) ⟨w.heap.size + 1, 1, none⟩ = some (.int .i64 1) := by simp [go_sem]
  have d2 : World.cell? ((w.alloc (.cells #[.int .i64 100, .int .i64 2, .int .i64 10] 23)).alloc (.cells #[.int .i64 300, .int .i64 1, .int .i64 0] 23)) ⟨w.heap.size + 1, 2, none⟩ = some (.int .i64 0) := by simp [go_sem]
  have gc : w.heap.size < ((w.alloc (.cells #[.int .i64 100, .int .i64 2, .int .i64 10] 23)).alloc (.cells #[.int .i64 300, .int .i64 1, .int .i64 0] 23)).heap.size := by simp <;> omega
  have gd : w.heap.size + 1 < ((w.alloc (.cells #[.int .i64 100, .int .i64 2, .int .i64 10] 23)).alloc (.cells #[.int .i64 300, .int .i64 1, .int .i64 0] 23)).heap.size := by simp <;> omega
  have B := Lib.hid (show Below w.heap.size w ((w.alloc (.cells #[.int .i64 100, .int .i64 2, .int .i64 10] 23)).alloc (.cells #[.int .i64 300, .int .i64 1, .int .i64 0] 23)) from (((Below.refl _ _).alloc (by simp; try omega) _).alloc (by simp; try omega) _))
  generalize (w.alloc (.cells #[.int .i64 100, .int .i64 2, .int .i64 10] 23)).alloc (.cells #[.int .i64 300, .int .i64 1, .int .i64 0] 23) = V1 at *
  refine (true_is 100 2 10 350 345 356 0 (by decide) (by decide) (by decide) _).mono ?_
  rintro e' w2 ⟨rfl, hb⟩
  replace B := Lib.hid (on_below B.out hb)
  replace c0 := keepc hb c0
  replace c1 := keepc hb c1
  replace c2 := keepc hb c2
  replace d0 := keepc hb d0
  replace d1 := keepc hb d1
  replace d2 := keepc hb d2
  replace gc := Nat.lt_of_lt_of_le gc hb.size
  replace gd := Nat.lt_of_lt_of_le gd hb.size
  clear hb
  go_wp2_with fail
  have s0 : World.cell? (w2.alloc (.cells #[.int .i64 345, .int .i64 356] 25)) ⟨w2.heap.size, 0, none⟩ = some (.int .i64 345) := by simp [go_sem]
  have s1 : World.cell? (w2.alloc (.cells #[.int .i64 345, .int .i64 356] 25)) ⟨w2.heap.size, 1, none⟩ = some (.int .i64 356) := by simp [go_sem]
  have gs : w2.heap.size < (w2.alloc (.cells #[.int .i64 345, .int .i64 356] 25)).heap.size := by simp <;> omega
  have hb : Below w2.heap.size w2 (w2.alloc (.cells #[.int .i64 345, .int .i64 356] 25)) := ((Below.refl _ _).alloc (by simp; try omega) _)
  generalize w2.alloc (.cells #[.int .i64 345, .int .i64 356] 25) = V3 at *
  replace B := Lib.hid (on_below B.out hb)
  replace c0 := keepc hb c0
  replace c1 := keepc hb c1
  replace c2 := keepc hb c2
  replace d0 := keepc hb d0
  replace d1 := keepc hb d1
  replace d2 := keepc hb d2
  replace gc := Nat.lt_of_lt_of_le gc hb.size
  replace gd := Nat.lt_of_lt_of_le gd hb.size
  clear hb
  refine (passed_is 100 2 10 350 345 1 0 (by decide) (by decide) _).mono ?_
  rintro e' w4 ⟨rfl, hb⟩
  replace B := Lib.hid (on_below B.out hb)
  replace c0 := keepc hb c0
  replace c1 := keepc hb c1
  replace c2 := keepc hb c2
  replace d0 := keepc hb d0
  replace d1 := keepc hb d1
  replace d2 := keepc hb d2
  replace s0 := keepc hb s0
  replace s1 := keepc hb s1
  replace gc := Nat.lt_of_lt_of_le gc hb.size
  replace gd := Nat.lt_of_lt_of_le gd hb.size
  replace gs := Nat.lt_of_lt_of_le gs hb.size
  clear hb
  go_wp2_with fail
  refine (passed_is 100 2 10 350 346 0 0 (by decide) (by decide) _).mono ?_
  rintro e' w5 ⟨rfl, hb⟩
  replace B := Lib.hid (on_below B.out hb)
  replace c0 := keepc hb c0
  replace c1 := keepc hb c1
  replace c2 := keepc hb c2
  replace d0 := keepc hb d0
  replace d1 := keepc hb d1
  replace d2 := keepc hb d2
  replace s0 := keepc hb s0
  replace s1 := keepc hb s1
  replace gc := Nat.lt_of_lt_of_le gc hb.size
  replace gd := Nat.lt_of_lt_of_le gd hb.size
  replace gs := Nat.lt_of_lt_of_le gs hb.size
  clear hb
  go_wp2_with fail
  refine (passed_is 100 2 10 350 356 (-1) 0 (by decide) (by decide) _).mono ?_
  rintro e' w6 ⟨rfl, hb⟩
  replace B := Lib.hid (on_below B.out hb)
  replace c0 := keepc hb c0
  replace c1 := keepc hb c1
  replace c2 := keepc hb c2
  replace d0 := keepc hb d0
  replace d1 := keepc hb d1
  replace d2 := keepc hb d2
  replace s0 := keepc hb s0
  replace s1 := keepc hb s1
  replace gc := Nat.lt_of_lt_of_le gc hb.size
  replace gd := Nat.lt_of_lt_of_le gd hb.size
  replace gs := Nat.lt_of_lt_of_le gs hb.size
  clear hb
  go_wp2_with fail
  refine (order_is 100 2 10 350 300 1 0 357 (-1) 0 (by decide) (by decide) _).mono ?_
  rintro e' w7 ⟨rfl, hb⟩
  replace B := Lib.hid (on_below B.out hb)
  replace c0 := keepc hb c0
  replace c1 := keepc hb c1
  replace c2 := keepc hb c2
  replace d0 := keepc hb d0
  replace d1 := keepc hb d1
  replace d2 := keepc hb d2
  replace s0 := keepc hb s0
  replace s1 := keepc hb s1
  replace gc := Nat.lt_of_lt_of_le gc hb.size
  replace gd := Nat.lt_of_lt_of_le gd hb.size
  replace gs := Nat.lt_of_lt_of_le gs hb.size
  clear hb
  go_wp2_with fail
  refine (order_is 100 2 10 350 300 1 0 356 0 0 (by decide) (by decide) _).mono ?_
  rintro e' w8 ⟨rfl, hb⟩
  replace B := Lib.hid (on_below B.out hb)
  replace c0 := keepc hb c0
  replace c1 := keepc hb c1
  replace c2 := keepc hb c2
  replace d0 := keepc hb d0
  replace d1 := keepc hb d1
  replace d2 := keepc hb d2
  replace s0 := keepc hb s0
  replace s1 := keepc hb s1
  replace gc := Nat.lt_of_lt_of_le gc hb.size
  replace gd := Nat.lt_of_lt_of_le gd hb.size
  replace gs := Nat.lt_of_lt_of_le gs hb.size
  clear hb
  go_wp2_with fail
  clear d0
  clear d1
  clear d2
  clear gd
  refine (set_is 100 2 10 400 395 402 400 5 10 0 (by decide) (by decide) (by decide) (by decide) _).mono ?_
  rintro e' w9 ⟨rfl, hb⟩
  replace B := Lib.hid (on_below B.out hb)
  replace c0 := keepc hb c0
  replace c1 := keepc hb c1
  replace c2 := keepc hb c2
  replace s0 := keepc hb s0
  replace s1 := keepc hb s1
  replace gc := Nat.lt_of_lt_of_le gc hb.size
  replace gs := Nat.lt_of_lt_of_le gs hb.size
  clear hb
  go_wp2_with fail
  have p0 : World.cell? (w9.alloc (.cells #[.int .i64 400, .int .i64 5, .int .i64 10] 23)) ⟨w9.heap.size, 0, none⟩ = some (.int .i64 400) := by simp [go_sem]
  have p1 : World.cell? (w9.alloc (.cells #[.int .i64 400, .int .i64 5, .int .i64 10] 23)) ⟨w9.heap.size, 1, none⟩ = some (.int .i64 5) := by simp [go_sem]
  have p2 : World.cell? (w9.alloc (.cells #[.int .i64 400, .int .i64 5, .int .i64 10] 23)) ⟨w9.heap.size, 2, none⟩ = some (.int .i64 10) := by simp [go_sem]
  have gp : w9.heap.size < (w9.alloc (.cells #[.int .i64 400, .int .i64 5, .int .i64 10] 23)).heap.size := by simp <;> omega
  have hb : Below w9.heap.size w9 (w9.alloc (.cells #[.int .i64 400, .int .i64 5, .int .i64 10] 23)) := ((Below.refl _ _).alloc (by simp; try omega) _)
  generalize w9.alloc (.cells #[.int .i64 400, .int .i64 5, .int .i64 10] 23) = V10 at *
  replace B := Lib.hid (on_below B.out hb)
  replace c0 := keepc hb c0
  replace c1 := keepc hb c1
  replace c2 := keepc hb c2
  replace s0 := keepc hb s0
  replace s1 := keepc hb s1
  replace gc := Nat.lt_of_lt_of_le gc hb.size
  replace gs := Nat.lt_of_lt_of_le gs hb.size
  clear hb
  refine (true_is 100 2 10 99 0 0 1 (by decide) (by decide) (by decide) _).mono ?_
  rintro e' w11 ⟨rfl, hb⟩
  replace B := Lib.hid (on_below B.out hb)
  replace c0 := keepc hb c0
  replace c1 := keepc hb c1
  replace c2 := keepc hb c2
  replace s0 := keepc hb s0
  replace s1 := keepc hb s1
  replace p0 := keepc hb p0
  replace p1 := keepc hb p1
  replace p2 := keepc hb p2
  replace gc := Nat.lt_of_lt_of_le gc hb.size
  replace gs := Nat.lt_of_lt_of_le gs hb.size
  replace gp := Nat.lt_of_lt_of_le gp hb.size
  clear hb
  go_wp2_with fail
  have q0 : World.cell? (w11.alloc (.cells #[.int .i64 0, .int .i64 0] 25)) ⟨w11.heap.size, 0, none⟩ = some (.int .i64 0) := by simp [go_sem]
  have q1 : World.cell? (w11.alloc (.cells #[.int .i64 0, .int .i64 0] 25)) ⟨w11.heap.size, 1, none⟩ = some (.int .i64 0) := by simp [go_sem]
  have gq : w11.heap.size < (w11.alloc (.cells #[.int .i64 0, .int .i64 0] 25)).heap.size := by simp <;> omega
  have hb : Below w11.heap.size w11 (w11.alloc (.cells #[.int .i64 0, .int .i64 0] 25)) := ((Below.refl _ _).alloc (by simp; try omega) _)
  generalize w11.alloc (.cells #[.int .i64 0, .int .i64 0] 25) = V12 at *
  replace B := Lib.hid (on_below B.out hb)
  replace c0 := keepc hb c0
  replace c1 := keepc hb c1
  replace c2 := keepc hb c2
  replace s0 := keepc hb s0
  replace s1 := keepc hb s1
  replace p0 := keepc hb p0
  replace p1 := keepc hb p1
  replace p2 := keepc hb p2
  replace gc := Nat.lt_of_lt_of_le gc hb.size
  replace gs := Nat.lt_of_lt_of_le gs hb.size
  replace gp := Nat.lt_of_lt_of_le gp hb.size
  clear hb
  clear q0
  clear q1
  clear gq
  refine (set_is 100 2 10 2000 999 1000 0 0 0 3 (by decide) (by decide) (by decide) (by decide) _).mono ?_
  rintro e' w13 ⟨rfl, hb⟩
  replace B := Lib.hid (on_below B.out hb)
  replace c0 := keepc hb c0
  replace c1 := keepc hb c1
  replace c2 := keepc hb c2
  replace s0 := keepc hb s0
  replace s1 := keepc hb s1
  replace p0 := keepc hb p0
  replace p1 := keepc hb p1
  replace p2 := keepc hb p2
  replace gc := Nat.lt_of_lt_of_le gc hb.size
  replace gs := Nat.lt_of_lt_of_le gs hb.size
  replace gp := Nat.lt_of_lt_of_le gp hb.size
  clear hb
  go_wp2_with fail
  have q0 : World.cell? (w13.alloc (.cells #[.int .i64 0, .int .i64 0, .int .i64 0] 23)) ⟨w13.heap.size, 0, none⟩ = some (.int .i64 0) := by simp [go_sem]
  have q1 : World.cell? (w13.alloc (.cells #[.int .i64 0, .int .i64 0, .int .i64 0] 23)) ⟨w13.heap.size, 1, none⟩ = some (.int .i64 0) := by simp [go_sem]
  have q2 : World.cell? (w13.alloc (.cells #[.int .i64 0, .int .i64 0, .int .i64 0] 23)) ⟨w13.heap.size, 2, none⟩ = some (.int .i64 0) := by simp [go_sem]
  have gq : w13.heap.size < (w13.alloc (.cells #[.int .i64 0, .int .i64 0, .int .i64 0] 23)).heap.size := by simp <;> omega
  have hb : Below w13.heap.size w13 (w13.alloc (.cells #[.int .i64 0, .int .i64 0, .int .i64 0] 23)) := ((Below.refl _ _).alloc (by simp; try omega) _)
  generalize w13.alloc (.cells #[.int .i64 0, .int .i64 0, .int .i64 0] 23) = V14 at *
  replace B := Lib.hid (on_below B.out hb)
  replace c0 := keepc hb c0
  replace c1 := keepc hb c1
  replace c2 := keepc hb c2
  replace s0 := keepc hb s0
  replace s1 := keepc hb s1
  replace p0 := keepc hb p0
  replace p1 := keepc hb p1
  replace p2 := keepc hb p2
  replace gc := Nat.lt_of_lt_of_le gc hb.size
  replace gs := Nat.lt_of_lt_of_le gs hb.size
  replace gp := Nat.lt_of_lt_of_le gp hb.size
  clear hb
  clear q0
  clear q1
  clear q2
  clear gq
  refine (valid_b 100 2 10 true (by decide) _).mono ?_
  rintro e' w15 ⟨rfl, hb⟩
  replace B := Lib.hid (on_below B.out hb)
  replace c0 := keepc hb c0
  replace c1 := keepc hb c1
  replace c2 := keepc hb c2
  replace s0 := keepc hb s0
  replace s1 := keepc hb s1
  replace p0 := keepc hb p0
  replace p1 := keepc hb p1
  replace p2 := keepc hb p2
  replace gc := Nat.lt_of_lt_of_le gc hb.size
  replace gs := Nat.lt_of_lt_of_le gs hb.size
  replace gp := Nat.lt_of_lt_of_le gp hb.size
  clear hb
  go_wp2_with fail
  refine (valid_b 0 (-1) 0 false (by decide) _).mono ?_
  rintro e' w16 ⟨rfl, hb⟩
  replace B := Lib.hid (on_below B.out hb)
  replace c0 := keepc hb c0
  replace c1 := keepc hb c1
  replace c2 := keepc hb c2
  replace s0 := keepc hb s0
  replace s1 := keepc hb s1
  replace p0 := keepc hb p0
  replace p1 := keepc hb p1
  replace p2 := keepc hb p2
  replace gc := Nat.lt_of_lt_of_le gc hb.size
  replace gs := Nat.lt_of_lt_of_le gs hb.size
  replace gp := Nat.lt_of_lt_of_le gp hb.size
  clear hb
  go_wp2_with fail
  all_goals go_ret
  all_goals exact ⟨rfl, B.out⟩

section
open Go.ChangeShapes Go.WideShapes Go.ChangeAt Go.Joins
theorem cellsSpan : Try.prog.cellsOf 25 = 2 := by kernel_rfl
theorem cellsClock : Try.prog.cellsOf 23 = 3 := by kernel_rfl
variable {H : Type} {enc : TypeId × Value → H}
set_option maxRecDepth 100000 in
theorem open_span {W : World} {base : Nat} {sp : Nat → Bool} {held : Bool} {v : Value} {d : DataW H} {p : List MemPlace} (hv : Value.okWide Try.prog W .any base 25 v) (h : DataW.Trod enc Try.prog W 0 sp held 25 v d p) :
    ∃ a b : Int, v = .agg #[.int .i64 a, .int .i64 b] ∧ d = .agg [.lit (.int .i64 a), .lit (.int .i64 b)] ∧ p = [] ∧ (Lit.int .i64 a).wf = true ∧ (Lit.int .i64 b).wf = true := by
  obtain ⟨c0, c1, y0, y1, m, rfl, rfl, rfl, hy0, hy1⟩ := open_agg2 Try.underlying25 (by kernel_rfl) cellsSpan hv h
  obtain ⟨a, e0, rfl, wa⟩ := DataW.trod_int Try.underlying3 hy0
  obtain ⟨b, e1, rfl, wb⟩ := DataW.trod_int Try.underlying3 hy1
  simp at e0 e1
  subst e0 e1
  exact ⟨a, b, rfl, rfl, rfl, wa, wb⟩
set_option maxRecDepth 100000 in
theorem shut_span {W : World} {sp : Nat → Bool} {held : Bool} {a b : Int} (wa : (Lit.int .i64 a).wf = true) (wb : (Lit.int .i64 b).wf = true) :
    DataW.Trod enc Try.prog W 0 sp held 25 (.agg #[.int .i64 a, .int .i64 b]) (.agg [.lit (.int .i64 a), .lit (.int .i64 b)]) [] :=
  shut_agg2 (y0 := (.lit (.int .i64 a), [])) (y1 := (.lit (.int .i64 b), [])) Try.underlying25 (by kernel_rfl) cellsSpan ⟨1, by simp [DataW.trod, Try.underlying3, wa]⟩ ⟨1, by simp [DataW.trod, Try.underlying3, wb]⟩
set_option maxRecDepth 100000 in
theorem open_clock {W : World} {base : Nat} {sp : Nat → Bool} {held : Bool} {v : Value} {d : DataW H} {p : List MemPlace} (hv : Value.okWide Try.prog W .any base 23 v) (h : DataW.Trod enc Try.prog W 0 sp held 23 v d p) :
    ∃ a b c : Int, v = .agg #[.int .i64 a, .int .i64 b, .int .i64 c] ∧ d = .agg [.lit (.int .i64 a), .lit (.int .i64 b), .lit (.int .i64 c)] ∧ p = [] ∧ (Lit.int .i64 a).wf = true ∧ (Lit.int .i64 b).wf = true ∧ (Lit.int .i64 c).wf = true := by
  obtain ⟨c0, c1, c2, y0, y1, y2, m, rfl, rfl, rfl, hy0, hy1, hy2⟩ := open_agg3 Try.underlying23 (by kernel_rfl) cellsClock hv h
  obtain ⟨a, e0, rfl, wa⟩ := DataW.trod_int Try.underlying3 hy0
  obtain ⟨b, e1, rfl, wb⟩ := DataW.trod_int Try.underlying3 hy1
  obtain ⟨c, e2, rfl, wc⟩ := DataW.trod_int Try.underlying3 hy2
  simp at e0 e1 e2
  subst e0 e1 e2
  exact ⟨a, b, c, rfl, rfl, rfl, wa, wb, wc⟩
set_option maxRecDepth 100000 in
theorem shut_clock {W : World} {sp : Nat → Bool} {held : Bool} {a b c : Int} (wa : (Lit.int .i64 a).wf = true) (wb : (Lit.int .i64 b).wf = true) (wc : (Lit.int .i64 c).wf = true) :
    DataW.Trod enc Try.prog W 0 sp held 23 (.agg #[.int .i64 a, .int .i64 b, .int .i64 c]) (.agg [.lit (.int .i64 a), .lit (.int .i64 b), .lit (.int .i64 c)]) [] :=
  shut_agg3 (y0 := (.lit (.int .i64 a), [])) (y1 := (.lit (.int .i64 b), [])) (y2 := (.lit (.int .i64 c), [])) Try.underlying23 (by kernel_rfl) cellsClock ⟨1, by simp [DataW.trod, Try.underlying3, wa]⟩ ⟨1, by simp [DataW.trod, Try.underlying3, wb]⟩ ⟨1, by simp [DataW.trod, Try.underlying3, wc]⟩
end
end Go.Proofs.Ytnjhepkfjohdnaa
