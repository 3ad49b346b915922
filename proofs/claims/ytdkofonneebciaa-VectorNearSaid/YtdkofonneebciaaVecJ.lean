/-
  The head of the laws; vectors, points and rational numbers that come in.
-/
import Derived.Test.YtdkofonneebciaaVecGN
import Derived.Lib.SmallJoins
import Derived.ProofKit
import Derived.OpenShut
namespace Go.Proofs.Ytdkofonneebciaa
open Go.RowKit Go.Sort
open Go.RowKit (Below)
set_option linter.unusedVariables false
set_option linter.unusedSimpArgs false

set_option maxRecDepth 100000 in
set_option maxHeartbeats 2000000 in
theorem head_any (w : World) :
    Calls Try.prog 9 #[] w fun e_ w' => e_ = .returned (.bool true) ∧ Below w.heap.size w w' := by
  have HB := Lib.hid (show Below w.heap.size w (w) from (Below.refl _ _))
  go_enter Try.func9, Try.ntmps9
  go_wp2_with fail
  refine (add_is 1 2 3 4 (-2) 0 5 0 3 0 (by decide) (by decide) (by decide) (by decide) _).mono ?_
  rintro e_ w1 ⟨rfl, hb⟩
  replace HB := Lib.hid (on_below HB.out hb)
  clear hb
  go_wp2_with fail
  have a0 : World.cell? (w1.alloc (.cells #[.int .i64 5, .int .i64 0, .int .i64 3] 23)) ⟨w1.heap.size, 0, none⟩ = some (.int .i64 5) := by simp [go_sem]
  have a1 : World.cell? (w1.alloc (.cells #[.int .i64 5, .int .i64 0, .int .i64 3] 23)) ⟨w1.heap.size, 1, none⟩ = some (.int .i64 0) := by simp [go_sem]
  have a2 : World.cell? (w1.alloc (.cells #[.int .i64 5, .int .i64 0, .int .i64 3] 23)) ⟨w1.heap.size, 2, none⟩ = some (.int .i64 3) := by simp [go_sem]
  have la : w1.heap.size < (w1.alloc (.cells #[.int .i64 5, .int .i64 0, .int .i64 3] 23)).heap.size := by simp
  have hb : Below w1.heap.size w1 (w1.alloc (.cells #[.int .i64 5, .int .i64 0, .int .i64 3] 23)) := below_new _ _
  generalize w1.alloc (.cells #[.int .i64 5, .int .i64 0, .int .i64 3] 23) = w2 at *
  replace HB := Lib.hid (on_below HB.out hb)
  clear hb
  generalize w1.heap.size = ga at *
  refine (add_is 2000 0 0 1 0 0 0 0 0 3 (by decide) (by decide) (by decide) (by decide) _).mono ?_
  rintro e_ w3 ⟨rfl, hb⟩
  replace HB := Lib.hid (on_below HB.out hb)
  replace a0 := keepc hb a0
  replace a1 := keepc hb a1
  replace a2 := keepc hb a2
  replace la := Nat.lt_of_lt_of_le la hb.size
  clear hb
  go_wp2_with fail
  have b0 : World.cell? (w3.alloc (.cells #[.int .i64 0, .int .i64 0, .int .i64 0] 23)) ⟨w3.heap.size, 0, none⟩ = some (.int .i64 0) := by simp [go_sem]
  have b1 : World.cell? (w3.alloc (.cells #[.int .i64 0, .int .i64 0, .int .i64 0] 23)) ⟨w3.heap.size, 1, none⟩ = some (.int .i64 0) := by simp [go_sem]
  have b2 : World.cell? (w3.alloc (.cells #[.int .i64 0, .int .i64 0, .int .i64 0] 23)) ⟨w3.heap.size, 2, none⟩ = some (.int .i64 0) := by simp [go_sem]
  have lb : w3.heap.size < (w3.alloc (.cells #[.int .i64 0, .int .i64 0, .int .i64 0] 23)).heap.size := by simp
  have hb : Below w3.heap.size w3 (w3.alloc (.cells #[.int .i64 0, .int .i64 0, .int .i64 0] 23)) := below_new _ _
  generalize w3.alloc (.cells #[.int .i64 0, .int .i64 0, .int .i64 0] 23) = w4 at *
  replace HB := Lib.hid (on_below HB.out hb)
  replace a0 := keepc hb a0
  replace a1 := keepc hb a1
  replace a2 := keepc hb a2
  replace la := Nat.lt_of_lt_of_le la hb.size
  clear hb
  generalize w3.heap.size = gb at *
  clear b0 b1 b2 lb
  refine (sub_is 1 0 0 0 2 0 1 (-2) 0 0 (by decide) (by decide) (by decide) (by decide) _).mono ?_
  rintro e_ w5 ⟨rfl, hb⟩
  replace HB := Lib.hid (on_below HB.out hb)
  replace a0 := keepc hb a0
  replace a1 := keepc hb a1
  replace a2 := keepc hb a2
  replace la := Nat.lt_of_lt_of_le la hb.size
  clear hb
  go_wp2_with fail
  have d0 : World.cell? (w5.alloc (.cells #[.int .i64 1, .int .i64 (-2), .int .i64 0] 23)) ⟨w5.heap.size, 0, none⟩ = some (.int .i64 1) := by simp [go_sem]
  have d1 : World.cell? (w5.alloc (.cells #[.int .i64 1, .int .i64 (-2), .int .i64 0] 23)) ⟨w5.heap.size, 1, none⟩ = some (.int .i64 (-2)) := by simp [go_sem]
  have d2 : World.cell? (w5.alloc (.cells #[.int .i64 1, .int .i64 (-2), .int .i64 0] 23)) ⟨w5.heap.size, 2, none⟩ = some (.int .i64 0) := by simp [go_sem]
  have ld : w5.heap.size < (w5.alloc (.cells #[.int .i64 1, .int .i64 (-2), .int .i64 0] 23)).heap.size := by simp
  have hb : Below w5.heap.size w5 (w5.alloc (.cells #[.int .i64 1, .int .i64 (-2), .int .i64 0] 23)) := below_new _ _
  generalize w5.alloc (.cells #[.int .i64 1, .int .i64 (-2), .int .i64 0] 23) = w6 at *
  replace HB := Lib.hid (on_below HB.out hb)
  replace a0 := keepc hb a0
  replace a1 := keepc hb a1
  replace a2 := keepc hb a2
  replace la := Nat.lt_of_lt_of_le la hb.size
  clear hb
  generalize w5.heap.size = gd at *
  refine (dot_is 1 2 3 4 (-5) 6 12 0 (by decide) (by decide) _).mono ?_
  rintro e_ w7 ⟨rfl, hb⟩
  replace HB := Lib.hid (on_below HB.out hb)
  replace a0 := keepc hb a0
  replace a1 := keepc hb a1
  replace a2 := keepc hb a2
  replace d0 := keepc hb d0
  replace d1 := keepc hb d1
  replace d2 := keepc hb d2
  replace la := Nat.lt_of_lt_of_le la hb.size
  replace ld := Nat.lt_of_lt_of_le ld hb.size
  clear hb
  go_wp2_with fail
  refine (turn_is 0 0 4 0 4 1 1 0 (by decide) (by decide) _).mono ?_
  rintro e_ w8 ⟨rfl, hb⟩
  replace HB := Lib.hid (on_below HB.out hb)
  replace a0 := keepc hb a0
  replace a1 := keepc hb a1
  replace a2 := keepc hb a2
  replace d0 := keepc hb d0
  replace d1 := keepc hb d1
  replace d2 := keepc hb d2
  replace la := Nat.lt_of_lt_of_le la hb.size
  replace ld := Nat.lt_of_lt_of_le ld hb.size
  clear hb
  go_wp2_with fail
  refine (turn_is 0 0 4 0 4 (-1) (-1) 0 (by decide) (by decide) _).mono ?_
  rintro e_ w9 ⟨rfl, hb⟩
  replace HB := Lib.hid (on_below HB.out hb)
  replace a0 := keepc hb a0
  replace a1 := keepc hb a1
  replace a2 := keepc hb a2
  replace d0 := keepc hb d0
  replace d1 := keepc hb d1
  replace d2 := keepc hb d2
  replace la := Nat.lt_of_lt_of_le la hb.size
  replace ld := Nat.lt_of_lt_of_le ld hb.size
  clear hb
  go_wp2_with fail
  refine (near_is 1 0 0 1 1 0 1 2 0 true ⟨by omega, by omega⟩ ⟨by omega, by omega⟩ (by decide) (by decide) _).mono ?_
  rintro e_ w10 ⟨rfl, hb⟩
  replace HB := Lib.hid (on_below HB.out hb)
  replace a0 := keepc hb a0
  replace a1 := keepc hb a1
  replace a2 := keepc hb a2
  replace d0 := keepc hb d0
  replace d1 := keepc hb d1
  replace d2 := keepc hb d2
  replace la := Nat.lt_of_lt_of_le la hb.size
  replace ld := Nat.lt_of_lt_of_le ld hb.size
  clear hb
  go_wp2_with fail
  refine (near_is 1 0 0 1 1 0 51 100 0 false ⟨by omega, by omega⟩ ⟨by omega, by omega⟩ (by decide) (by decide) _).mono ?_
  rintro e_ w11 ⟨rfl, hb⟩
  replace HB := Lib.hid (on_below HB.out hb)
  replace a0 := keepc hb a0
  replace a1 := keepc hb a1
  replace a2 := keepc hb a2
  replace d0 := keepc hb d0
  replace d1 := keepc hb d1
  replace d2 := keepc hb d2
  replace la := Nat.lt_of_lt_of_le la hb.size
  replace ld := Nat.lt_of_lt_of_le ld hb.size
  clear hb
  go_wp2_with fail
  refine (near_is 0 0 0 1 0 0 0 1 1 false ⟨by omega, by omega⟩ ⟨by omega, by omega⟩ (by decide) (by decide) _).mono ?_
  rintro e_ w12 ⟨rfl, hb⟩
  replace HB := Lib.hid (on_below HB.out hb)
  replace a0 := keepc hb a0
  replace a1 := keepc hb a1
  replace a2 := keepc hb a2
  replace d0 := keepc hb d0
  replace d1 := keepc hb d1
  replace d2 := keepc hb d2
  replace la := Nat.lt_of_lt_of_le la hb.size
  replace ld := Nat.lt_of_lt_of_le ld hb.size
  clear hb
  have ea := fun W => vec_eq (a := 5) (b := 0) (c := 3) (x := 5) (y := 0) (z := 3) (r := true) (by decide) W
  have ed := fun W => vec_eq (a := 1) (b := -2) (c := 0) (x := 1) (y := -2) (z := 0) (r := true) (by decide) W
  go_wp2_with fail
  refine (valid_is 5 0 3 true (by decide) _).mono ?_
  rintro e_ w13 ⟨rfl, hb⟩
  replace HB := Lib.hid (on_below HB.out hb)
  replace a0 := keepc hb a0
  replace a1 := keepc hb a1
  replace a2 := keepc hb a2
  replace d0 := keepc hb d0
  replace d1 := keepc hb d1
  replace d2 := keepc hb d2
  replace la := Nat.lt_of_lt_of_le la hb.size
  replace ld := Nat.lt_of_lt_of_le ld hb.size
  clear hb
  go_wp2_with fail
  refine (valid_is 0 0 (-2001) false (by decide) _).mono ?_
  rintro e_ w14 ⟨rfl, hb⟩
  replace HB := Lib.hid (on_below HB.out hb)
  replace a0 := keepc hb a0
  replace a1 := keepc hb a1
  replace a2 := keepc hb a2
  replace d0 := keepc hb d0
  replace d1 := keepc hb d1
  replace d2 := keepc hb d2
  replace la := Nat.lt_of_lt_of_le la hb.size
  replace ld := Nat.lt_of_lt_of_le ld hb.size
  clear hb
  go_wp2_with fail
  go_ret
  exact ⟨rfl, HB.out⟩
theorem wf_i {x : Int} (h : (Lit.int .i64 x).wf = true) : I64 x := by
  have e1 : IntKind.i64.min = -9223372036854775808 := rfl
  have e2 : IntKind.i64.max = 9223372036854775807 := rfl
  simp [Lit.wf, e1, e2] at h
  exact h
section
open Go.ChangeShapes Go.WideShapes Go.ChangeAt Go.Joins
theorem cells_vec : Try.prog.cellsOf 23 = 3 := by kernel_rfl
theorem cells_point : Try.prog.cellsOf 25 = 2 := by kernel_rfl
theorem cells_rat : Try.prog.cellsOf 27 = 2 := by kernel_rfl
variable {H : Type} {enc : TypeId × Value → H}
set_option maxRecDepth 100000 in
theorem open_vec {W : World} {base : Nat} {sp : Nat → Bool} {held : Bool} {v : Value} {d : DataW H} {p : List MemPlace} (hv : Value.okWide Try.prog W .any base 23 v) (h : DataW.Trod enc Try.prog W 0 sp held 23 v d p) :
    ∃ a b c : Int, v = .agg #[.int .i64 a, .int .i64 b, .int .i64 c] ∧ d = .agg [.lit (.int .i64 a), .lit (.int .i64 b), .lit (.int .i64 c)] ∧ p = [] ∧ (Lit.int .i64 a).wf = true ∧ (Lit.int .i64 b).wf = true ∧ (Lit.int .i64 c).wf = true := by
  obtain ⟨c0, c1, c2, y0, y1, y2, m, rfl, rfl, rfl, hy0, hy1, hy2⟩ := open_agg3 Try.underlying23 (by kernel_rfl) cells_vec hv h
  obtain ⟨a, e0, rfl, wa⟩ := DataW.trod_int Try.underlying3 hy0
  obtain ⟨b, e1, rfl, wb⟩ := DataW.trod_int Try.underlying3 hy1
  obtain ⟨c, e2, rfl, wc⟩ := DataW.trod_int Try.underlying3 hy2
  simp at e0 e1 e2
  subst e0 e1 e2
  exact ⟨a, b, c, rfl, rfl, rfl, wa, wb, wc⟩
set_option maxRecDepth 100000 in
theorem shut_vec {W : World} {sp : Nat → Bool} {held : Bool} {a b c : Int} (wa : (Lit.int .i64 a).wf = true) (wb : (Lit.int .i64 b).wf = true) (wc : (Lit.int .i64 c).wf = true) :
    DataW.Trod enc Try.prog W 0 sp held 23 (.agg #[.int .i64 a, .int .i64 b, .int .i64 c]) (.agg [.lit (.int .i64 a), .lit (.int .i64 b), .lit (.int .i64 c)]) [] :=
  shut_agg3 (y0 := (.lit (.int .i64 a), [])) (y1 := (.lit (.int .i64 b), [])) (y2 := (.lit (.int .i64 c), [])) Try.underlying23 (by kernel_rfl) cells_vec ⟨1, by simp [DataW.trod, Try.underlying3, wa]⟩ ⟨1, by simp [DataW.trod, Try.underlying3, wb]⟩ ⟨1, by simp [DataW.trod, Try.underlying3, wc]⟩
set_option maxRecDepth 100000 in
theorem open_point {W : World} {base : Nat} {sp : Nat → Bool} {held : Bool} {v : Value} {d : DataW H} {p : List MemPlace} (hv : Value.okWide Try.prog W .any base 25 v) (h : DataW.Trod enc Try.prog W 0 sp held 25 v d p) :
    ∃ a b : Int, v = .agg #[.int .i64 a, .int .i64 b] ∧ d = .agg [.lit (.int .i64 a), .lit (.int .i64 b)] ∧ p = [] ∧ (Lit.int .i64 a).wf = true ∧ (Lit.int .i64 b).wf = true := by
  obtain ⟨c0, c1, y0, y1, m, rfl, rfl, rfl, hy0, hy1⟩ := open_agg2 Try.underlying25 (by kernel_rfl) cells_point hv h
  obtain ⟨a, e0, rfl, wa⟩ := DataW.trod_int Try.underlying3 hy0
  obtain ⟨b, e1, rfl, wb⟩ := DataW.trod_int Try.underlying3 hy1
  simp at e0 e1
  subst e0 e1
  exact ⟨a, b, rfl, rfl, rfl, wa, wb⟩
set_option maxRecDepth 100000 in
theorem shut_point {W : World} {sp : Nat → Bool} {held : Bool} {a b : Int} (wa : (Lit.int .i64 a).wf = true) (wb : (Lit.int .i64 b).wf = true) :
    DataW.Trod enc Try.prog W 0 sp held 25 (.agg #[.int .i64 a, .int .i64 b]) (.agg [.lit (.int .i64 a), .lit (.int .i64 b)]) [] :=
  shut_agg2 (y0 := (.lit (.int .i64 a), [])) (y1 := (.lit (.int .i64 b), [])) Try.underlying25 (by kernel_rfl) cells_point ⟨1, by simp [DataW.trod, Try.underlying3, wa]⟩ ⟨1, by simp [DataW.trod, Try.underlying3, wb]⟩
set_option maxRecDepth 100000 in
theorem open_rat {W : World} {base : Nat} {sp : Nat → Bool} {held : Bool} {v : Value} {d : DataW H} {p : List MemPlace} (hv : Value.okWide Try.prog W .any base 27 v) (h : DataW.Trod enc Try.prog W 0 sp held 27 v d p) :
    ∃ a b : Int, v = .agg #[.int .i64 a, .int .i64 b] ∧ d = .agg [.lit (.int .i64 a), .lit (.int .i64 b)] ∧ p = [] ∧ (Lit.int .i64 a).wf = true ∧ (Lit.int .i64 b).wf = true := by
  obtain ⟨c0, c1, y0, y1, m, rfl, rfl, rfl, hy0, hy1⟩ := open_agg2 Try.underlying27 (by kernel_rfl) cells_rat hv h
  obtain ⟨a, e0, rfl, wa⟩ := DataW.trod_int Try.underlying3 hy0
  obtain ⟨b, e1, rfl, wb⟩ := DataW.trod_int Try.underlying3 hy1
  simp at e0 e1
  subst e0 e1
  exact ⟨a, b, rfl, rfl, rfl, wa, wb⟩
set_option maxRecDepth 100000 in
theorem shut_rat {W : World} {sp : Nat → Bool} {held : Bool} {a b : Int} (wa : (Lit.int .i64 a).wf = true) (wb : (Lit.int .i64 b).wf = true) :
    DataW.Trod enc Try.prog W 0 sp held 27 (.agg #[.int .i64 a, .int .i64 b]) (.agg [.lit (.int .i64 a), .lit (.int .i64 b)]) [] :=
  shut_agg2 (y0 := (.lit (.int .i64 a), [])) (y1 := (.lit (.int .i64 b), [])) Try.underlying27 (by kernel_rfl) cells_rat ⟨1, by simp [DataW.trod, Try.underlying3, wa]⟩ ⟨1, by simp [DataW.trod, Try.underlying3, wb]⟩
end
end Go.Proofs.Ytdkofonneebciaa
