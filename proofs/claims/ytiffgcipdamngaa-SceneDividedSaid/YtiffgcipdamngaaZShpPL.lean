/-
  Package shape: Clip.
-/
import Derived.Test.YtiffgcipdamngaaZShpPH
import Derived.Test.YtiffgcipdamngaaZShpPK
import Derived.Test.YtiffgcipdamngaaZGenQ
import Derived.Laws.EntriesVeiled
namespace Go.Proofs.Ytiffgcipdamngaa
open Go.RowKit Go.Sort Go.Shelf
open Go.RowKit (Below)
set_option linter.unusedVariables false
set_option linter.unusedSimpArgs false

attribute [local go_sem] Oper.semAt_some
theorem allocs5 (W : World) (o0 o1 o2 o3 o4 : Obj) {V : World} (hV : ((((W.alloc o0).alloc o1).alloc o2).alloc o3).alloc o4 = V) :
    Below W.heap.size W V ∧ V.heap.size = W.heap.size + 5 ∧ V.heap[W.heap.size]? = some o0 ∧ V.heap[W.heap.size + 1]? = some o1 ∧ V.heap[W.heap.size + 2]? = some o2 ∧ V.heap[W.heap.size + 3]? = some o3 ∧ V.heap[W.heap.size + 4]? = some o4 := by
  obtain ⟨U, hU⟩ : ∃ U, (((W.alloc o0).alloc o1).alloc o2).alloc o3 = U := ⟨_, rfl⟩
  obtain ⟨h1, h2, h3, h4, h5, h6⟩ := allocs4 W o0 o1 o2 o3 hU
  rw [hU] at hV
  subst hV
  refine ⟨h1.alloc h1.size _, by simp; omega, blk_new h3 _, blk_new h4 _, blk_new h5 _, blk_new h6 _, ?_⟩
  rw [← h2]; exact World.alloc_heap_new U o4
/-- Clip's own blocks: the way's ends, the results. -/
structure Ci (g : Nat) (a b c d e f : Int) (w0 W : World) : Prop where
  q : W.heap[g + 1]? = some (.cells #[.int .i64 a, .int .i64 b, .int .i64 c] 27 (0, 0))
  s : W.heap[g + 2]? = some (.cells #[.int .i64 d, .int .i64 e, .int .i64 f] 27 (0, 0))
  x : Lr W (g + 3) 0 0
  y : Lr W (g + 4) 0 0
  bel : Below w0.heap.size w0 W
section
variable {g : Nat} {a b c d e f : Int} {w0 W W' : World}
theorem Ci.on (h : Ci g a b c d e f w0 W) (hb : Below W.heap.size W W') : Ci g a b c d e f w0 W' := ⟨blk_on h.q hb, blk_on h.s hb, h.x.on hb, h.y.on hb, on_below h.bel hb⟩
theorem Ci.row {row : Option Nat} (h : Ci g a b c d e f w0 W) (hg : W.grownBy W' row) (hr : ∀ r, row = some r → w0.heap.size ≤ r ∧ ∃ o : Obj, W.heap[r]? = some o ∧ o.isCells = false) : Ci g a b c d e f w0 W' :=
  ⟨blk_row h.q hg (fun r e => (hr r e).2), blk_row h.s hg (fun r e => (hr r e).2), blk_row h.x hg (fun r e => (hr r e).2), blk_row h.y hg (fun r e => (hr r e).2), h.bel.grown hg h.bel.size (fun j e => (hr j e).1)⟩
end
/-- Between two sides: besides, the number 0, the closure, and the two bounds. -/
structure Cs (g gz gf gl gh : Nat) (a b c d e f : Int) (w0 : World) (s : Rg) (W : World) : Prop where
  i : Ci g a b c d e f w0 W
  z : Lr W gz 0 1
  f : Boxed W gf 141 (.func (.func 87) #[] #[.pointer (some ⟨gl, 0, none⟩), .pointer (some ⟨gh, 0, none⟩)])
  l : Lr W gl s.ln s.ld
  h : Lr W gh s.hn s.hd
section
variable {g gz gf gl gh : Nat} {a b c d e f : Int} {w0 W W' : World} {s S : Rg}
theorem Cs.on (h : Cs g gz gf gl gh a b c d e f w0 s W) (hb : Below W.heap.size W W') : Cs g gz gf gl gh a b c d e f w0 s W' := ⟨h.i.on hb, h.z.on hb, blk_on h.f hb, h.l.on hb, h.h.on hb⟩
theorem Cs.row {row : Option Nat} (h : Cs g gz gf gl gh a b c d e f w0 s W) (hg : W.grownBy W' row) (hr : ∀ r, row = some r → w0.heap.size ≤ r ∧ ∃ o : Obj, W.heap[r]? = some o ∧ o.isCells = false) : Cs g gz gf gl gh a b c d e f w0 s W' :=
  ⟨h.i.row hg hr, blk_row h.z hg (fun r e => (hr r e).2), blk_row h.f hg (fun r e => (hr r e).2), blk_row h.l hg (fun r e => (hr r e).2), blk_row h.h hg (fun r e => (hr r e).2)⟩
theorem Cs.own {B : Nat} {s : Nat → Rg} (hB : w0.heap.size ≤ B) : OwnFrom B (fun k W => Cs g gz gf gl gh a b c d e f w0 (s k) W) :=
  fun k W W' row h hg hr => h.row hg (fun r e => ⟨Nat.le_trans hB (hr r e).1, (hr r e).2⟩)
/-- Behind the closure. -/
theorem Cs.nar (h : Cs g gz gf gl gh a b c d e f w0 s W) (n : Nar w0.heap.size gl gh S W W') (k1 : g + 4 < gl) (k2 : g + 4 < gh) (k3 : gz < gl) (k4 : gz < gh) (k5 : gl < gf) (k6 : gh < gf) : Cs g gz gf gl gh a b c d e f w0 S W' := by
  have keep : ∀ {j : Nat} {o : Obj}, W.heap[j]? = some o → j ≠ gl → j ≠ gh → W'.heap[j]? = some o := fun ho h1 h2 => by rw [n.o _ h1 h2 (Array.getElem?_eq_some_iff.1 ho).1]; exact ho
  exact ⟨⟨keep h.i.q (by omega) (by omega), keep h.i.s (by omega) (by omega), keep h.i.x (by omega) (by omega), keep h.i.y (by omega) (by omega), h.i.bel.trans n.z.bel⟩, keep h.z (by omega) (by omega), keep h.f (by omega) (by omega), n.l, n.h⟩
end
theorem sgn_nn {x y : Int} : decide (0 ≤ sgn x y) = decide (y ≤ x) := by
  unfold sgn
  by_cases h1 : x < y
  · have : ¬ y ≤ x := by omega
    simp [h1, this]
  · rw [if_neg h1]
    have : y ≤ x := by omega
    by_cases h2 : y < x <;> simp [h2, this]
/-- Behind the stores of the results. -/
def FinQ (T : Array Value) (D g : Nat) (n1 d1 n2 d2 : Int) (w0 : World) : Exit → Act → World → Prop
  | .normal, a, V => a = { tmps := T, defers := [{ target := .collected D, args := #[] }] } ∧ Lr V (g + 3) n1 d1 ∧ Lr V (g + 4) n2 d2 ∧ Below w0.heap.size w0 V ∧ V.heap[D]? = some (.deferred (some []))
  | _, _, _ => False
/-- Behind the making of the two bounds. -/
def Two4 (T : Nat → Nat → Array Value) (w5 : World) : Exit → Act → World → Prop
  | .normal, a, V => ∃ gl gh, a = { tmps := T gl gh, defers := [] } ∧ gl ≠ gh ∧ w5.heap.size ≤ gl ∧ w5.heap.size ≤ gh ∧ Lr V gl 0 1 ∧ Lr V gh 1 1 ∧ Below w5.heap.size w5 V
  | _, _, _ => False
theorem made2 (W : World) (o0 o1 : Obj) : ((W.alloc o0).alloc o1).heap[W.heap.size]? = some o0 ∧ ((W.alloc o0).alloc o1).heap[W.heap.size + 1]? = some o1 ∧ Below W.heap.size W ((W.alloc o0).alloc o1) := by
  refine ⟨blk_new (World.alloc_heap_new W _) _, ?_, ((Below.refl _ W).alloc (Nat.le_refl _) _).alloc (by simp) _⟩
  have := World.alloc_heap_new (W.alloc o0) o1; rwa [World.size_alloc] at this
set_option maxRecDepth 100000 in
set_option maxHeartbeats 4000000 in
theorem pc_1 (A : Option Addr) (C : Nat) (xs : List (Int × Int)) (lo hi a b c d e f : Int) (hlx : xs.length ≤ 9223372036854775806) (hra : false = true ↔ Bok xs lo hi) (w : World) (hl : SlS w A xs) :
    Calls Try.prog 84 #[.agg #[.slice A xs.length C, .int .i64 lo, .int .i64 hi], .agg #[.int .i64 a, .int .i64 b, .int .i64 c], .agg #[.int .i64 d, .int .i64 e, .int .i64 f]] w fun e_ w' => e_ = .returned (.tuple #[.agg #[.int .i64 0, .int .i64 0], .agg #[.int .i64 0, .int .i64 0], .bool false, .int .i64 1]) ∧ Below w.heap.size w w' := by
  have CA := Lib.hid (fun W (h : SlS W A xs) => pvalid_is A C xs lo hi hlx false hra W h)
  have HL := Lib.hid hl
  clear hra hl
  refine (callsIn_wide (n := 8)).1 ?_
  refine callsIn_of_wp_marks Try.func84 rfl trivial ?_ rfl
  simp only [Try.ntmps84, List.size_toArray, List.length_cons, List.length_nil, Nat.reduceAdd, Nat.reduceSub, Array.replicate_succ, Array.replicate_zero, List.push_toArray, List.append_toArray, List.nil_append, List.cons_append]
  have hmx : Try.prog.follows .mixedOrders = true := by kernel_rfl
  gi_wp2_with fail
  obtain ⟨w1, hw1⟩ : ∃ V, ((((w.alloc (.cells #[.slice A xs.length C, .int .i64 lo, .int .i64 hi] 46)).alloc (.cells #[.int .i64 a, .int .i64 b, .int .i64 c] 27)).alloc (.cells #[.int .i64 d, .int .i64 e, .int .i64 f] 27)).alloc (.cells #[.int .i64 0, .int .i64 0] 32)).alloc (.cells #[.int .i64 0, .int .i64 0] 32) = V := ⟨_, rfl⟩
  obtain ⟨hb1, hs1, q0, q1, q2, q3, q4⟩ := allocs5 _ _ _ _ _ _ hw1
  have HI := Lib.hid (show Ci w.heap.size a b c d e f w w1 from ⟨q1, q2, q3, q4, hb1⟩)
  have HQ := Lib.hid q0
  have HL1 := Lib.hid (HL.out.below hb1)
  simp only [World.size_alloc, Nat.add_assoc, Nat.reduceAdd]
  rw [hw1]
  clear hw1 hb1 q0 q1 q2 q3 q4 hs1
  refine ⟨trivial, (callsIn_wide.2 (CA.out w1 HL1.out)).mono ?_⟩
  rintro e_ w2 ⟨rfl, hb⟩
  replace HI := Lib.hid (HI.out.on hb)
  replace HQ := Lib.hid (blk_on HQ.out hb)
  clear hb HL1 CA
  have d0 := (cells3 HI.out.q).1
  have d1 := (cells3 HI.out.q).2.1
  have d2 := (cells3 HI.out.q).2.2
  have t0 := (cells3 HI.out.s).1
  have t1 := (cells3 HI.out.s).2.1
  have t2 := (cells3 HI.out.s).2.2
  have x0 := (two_cells HI.out.x).1
  have x1 := (two_cells HI.out.x).2.1
  have xf0 := (two_cells HI.out.x).2.2.1
  have xf1 := (two_cells HI.out.x).2.2.2
  have y0 := (two_cells HI.out.y).1
  have y1 := (two_cells HI.out.y).2.1
  have yf0 := (two_cells HI.out.y).2.2.1
  have yf1 := (two_cells HI.out.y).2.2.2
  gi_wp2
  refine ⟨trivial, ?_⟩
  gi_wp2
  refine ⟨trivial, ?_⟩
  gi_wp2
  exact ⟨.tuple #[.agg #[.int .i64 0, .int .i64 0], .agg #[.int .i64 0, .int .i64 0], .bool false, .int .i64 1], by simp [results, Try.results84, go_sem, x0, x1, y0, y1], rfl, by
    (repeat (refine Below.setCell ?_ (by simp) _))
    exact HI.out.bel⟩
set_option maxRecDepth 100000 in
set_option maxHeartbeats 4000000 in
theorem pc_2 (A : Option Addr) (C : Nat) (xs : List (Int × Int)) (lo hi a b c d e f : Int) (hlx : xs.length ≤ 9223372036854775806) (hra : true = true ↔ Bok xs lo hi) (h1 : vv a b c = false) (w : World) (hl : SlS w A xs) :
    Calls Try.prog 84 #[.agg #[.slice A xs.length C, .int .i64 lo, .int .i64 hi], .agg #[.int .i64 a, .int .i64 b, .int .i64 c], .agg #[.int .i64 d, .int .i64 e, .int .i64 f]] w fun e_ w' => e_ = .returned (.tuple #[.agg #[.int .i64 0, .int .i64 0], .agg #[.int .i64 0, .int .i64 0], .bool false, .int .i64 1]) ∧ Below w.heap.size w w' := by
  have CA := Lib.hid (fun W (h : SlS W A xs) => pvalid_is A C xs lo hi hlx true hra W h)
  have HL := Lib.hid hl
  clear hra hl
  refine (callsIn_wide (n := 8)).1 ?_
  refine callsIn_of_wp_marks Try.func84 rfl trivial ?_ rfl
  simp only [Try.ntmps84, List.size_toArray, List.length_cons, List.length_nil, Nat.reduceAdd, Nat.reduceSub, Array.replicate_succ, Array.replicate_zero, List.push_toArray, List.append_toArray, List.nil_append, List.cons_append]
  have hmx : Try.prog.follows .mixedOrders = true := by kernel_rfl
  gi_wp2_with fail
  obtain ⟨w1, hw1⟩ : ∃ V, ((((w.alloc (.cells #[.slice A xs.length C, .int .i64 lo, .int .i64 hi] 46)).alloc (.cells #[.int .i64 a, .int .i64 b, .int .i64 c] 27)).alloc (.cells #[.int .i64 d, .int .i64 e, .int .i64 f] 27)).alloc (.cells #[.int .i64 0, .int .i64 0] 32)).alloc (.cells #[.int .i64 0, .int .i64 0] 32) = V := ⟨_, rfl⟩
  obtain ⟨hb1, hs1, q0, q1, q2, q3, q4⟩ := allocs5 _ _ _ _ _ _ hw1
  have HI := Lib.hid (show Ci w.heap.size a b c d e f w w1 from ⟨q1, q2, q3, q4, hb1⟩)
  have HQ := Lib.hid q0
  have HL1 := Lib.hid (HL.out.below hb1)
  simp only [World.size_alloc, Nat.add_assoc, Nat.reduceAdd]
  rw [hw1]
  clear hw1 hb1 q0 q1 q2 q3 q4 hs1
  refine ⟨trivial, (callsIn_wide.2 (CA.out w1 HL1.out)).mono ?_⟩
  rintro e_ w2 ⟨rfl, hb⟩
  replace HI := Lib.hid (HI.out.on hb)
  replace HQ := Lib.hid (blk_on HQ.out hb)
  clear hb HL1 CA
  have d0 := (cells3 HI.out.q).1
  have d1 := (cells3 HI.out.q).2.1
  have d2 := (cells3 HI.out.q).2.2
  have t0 := (cells3 HI.out.s).1
  have t1 := (cells3 HI.out.s).2.1
  have t2 := (cells3 HI.out.s).2.2
  gi_wp2_with fail
  refine ⟨trivial, (callsIn_wide.2 (vvalid_is a b c false h1 w2)).mono ?_⟩
  rintro e_ w3 ⟨rfl, hb⟩
  replace HI := Lib.hid (HI.out.on hb)
  replace HQ := Lib.hid (blk_on HQ.out hb)
  clear hb d0 d1 d2 t0 t1 t2
  have d0 := (cells3 HI.out.q).1
  have d1 := (cells3 HI.out.q).2.1
  have d2 := (cells3 HI.out.q).2.2
  have t0 := (cells3 HI.out.s).1
  have t1 := (cells3 HI.out.s).2.1
  have t2 := (cells3 HI.out.s).2.2
  have x0 := (two_cells HI.out.x).1
  have x1 := (two_cells HI.out.x).2.1
  have xf0 := (two_cells HI.out.x).2.2.1
  have xf1 := (two_cells HI.out.x).2.2.2
  have y0 := (two_cells HI.out.y).1
  have y1 := (two_cells HI.out.y).2.1
  have yf0 := (two_cells HI.out.y).2.2.1
  have yf1 := (two_cells HI.out.y).2.2.2
  gi_wp2
  refine ⟨trivial, ?_⟩
  gi_wp2
  exact ⟨.tuple #[.agg #[.int .i64 0, .int .i64 0], .agg #[.int .i64 0, .int .i64 0], .bool false, .int .i64 1], by simp [results, Try.results84, go_sem, x0, x1, y0, y1], rfl, by
    (repeat (refine Below.setCell ?_ (by simp) _))
    exact HI.out.bel⟩
set_option maxRecDepth 100000 in
set_option maxHeartbeats 4000000 in
theorem pc_3 (A : Option Addr) (C : Nat) (xs : List (Int × Int)) (lo hi a b c d e f : Int) (hlx : xs.length ≤ 9223372036854775806) (hra : true = true ↔ Bok xs lo hi) (h1 : vv a b c = true) (h2 : vv d e f = false) (w : World) (hl : SlS w A xs) :
    Calls Try.prog 84 #[.agg #[.slice A xs.length C, .int .i64 lo, .int .i64 hi], .agg #[.int .i64 a, .int .i64 b, .int .i64 c], .agg #[.int .i64 d, .int .i64 e, .int .i64 f]] w fun e_ w' => e_ = .returned (.tuple #[.agg #[.int .i64 0, .int .i64 0], .agg #[.int .i64 0, .int .i64 0], .bool false, .int .i64 1]) ∧ Below w.heap.size w w' := by
  have CA := Lib.hid (fun W (h : SlS W A xs) => pvalid_is A C xs lo hi hlx true hra W h)
  have HL := Lib.hid hl
  clear hra hl
  refine (callsIn_wide (n := 8)).1 ?_
  refine callsIn_of_wp_marks Try.func84 rfl trivial ?_ rfl
  simp only [Try.ntmps84, List.size_toArray, List.length_cons, List.length_nil, Nat.reduceAdd, Nat.reduceSub, Array.replicate_succ, Array.replicate_zero, List.push_toArray, List.append_toArray, List.nil_append, List.cons_append]
  have hmx : Try.prog.follows .mixedOrders = true := by kernel_rfl
  gi_wp2_with fail
  obtain ⟨w1, hw1⟩ : ∃ V, ((((w.alloc (.cells #[.slice A xs.length C, .int .i64 lo, .int .i64 hi] 46)).alloc (.cells #[.int .i64 a, .int .i64 b, .int .i64 c] 27)).alloc (.cells #[.int .i64 d, .int .i64 e, .int .i64 f] 27)).alloc (.cells #[.int .i64 0, .int .i64 0] 32)).alloc (.cells #[.int .i64 0, .int .i64 0] 32) = V := ⟨_, rfl⟩
  obtain ⟨hb1, hs1, q0, q1, q2, q3, q4⟩ := allocs5 _ _ _ _ _ _ hw1
  have HI := Lib.hid (show Ci w.heap.size a b c d e f w w1 from ⟨q1, q2, q3, q4, hb1⟩)
  have HQ := Lib.hid q0
  have HL1 := Lib.hid (HL.out.below hb1)
  simp only [World.size_alloc, Nat.add_assoc, Nat.reduceAdd]
  rw [hw1]
  clear hw1 hb1 q0 q1 q2 q3 q4 hs1
  refine ⟨trivial, (callsIn_wide.2 (CA.out w1 HL1.out)).mono ?_⟩
  rintro e_ w2 ⟨rfl, hb⟩
  replace HI := Lib.hid (HI.out.on hb)
  replace HQ := Lib.hid (blk_on HQ.out hb)
  clear hb HL1 CA
  have d0 := (cells3 HI.out.q).1
  have d1 := (cells3 HI.out.q).2.1
  have d2 := (cells3 HI.out.q).2.2
  have t0 := (cells3 HI.out.s).1
  have t1 := (cells3 HI.out.s).2.1
  have t2 := (cells3 HI.out.s).2.2
  gi_wp2_with fail
  refine ⟨trivial, (callsIn_wide.2 (vvalid_is a b c true h1 w2)).mono ?_⟩
  rintro e_ w3 ⟨rfl, hb⟩
  replace HI := Lib.hid (HI.out.on hb)
  replace HQ := Lib.hid (blk_on HQ.out hb)
  clear hb d0 d1 d2 t0 t1 t2
  have d0 := (cells3 HI.out.q).1
  have d1 := (cells3 HI.out.q).2.1
  have d2 := (cells3 HI.out.q).2.2
  have t0 := (cells3 HI.out.s).1
  have t1 := (cells3 HI.out.s).2.1
  have t2 := (cells3 HI.out.s).2.2
  gi_wp2_with fail
  refine ⟨trivial, (callsIn_wide.2 (vvalid_is d e f false h2 w3)).mono ?_⟩
  rintro e_ w4 ⟨rfl, hb⟩
  replace HI := Lib.hid (HI.out.on hb)
  replace HQ := Lib.hid (blk_on HQ.out hb)
  clear hb d0 d1 d2 t0 t1 t2
  have d0 := (cells3 HI.out.q).1
  have d1 := (cells3 HI.out.q).2.1
  have d2 := (cells3 HI.out.q).2.2
  have t0 := (cells3 HI.out.s).1
  have t1 := (cells3 HI.out.s).2.1
  have t2 := (cells3 HI.out.s).2.2
  have x0 := (two_cells HI.out.x).1
  have x1 := (two_cells HI.out.x).2.1
  have xf0 := (two_cells HI.out.x).2.2.1
  have xf1 := (two_cells HI.out.x).2.2.2
  have y0 := (two_cells HI.out.y).1
  have y1 := (two_cells HI.out.y).2.1
  have yf0 := (two_cells HI.out.y).2.2.1
  have yf1 := (two_cells HI.out.y).2.2.2
  gi_wp2
  exact ⟨.tuple #[.agg #[.int .i64 0, .int .i64 0], .agg #[.int .i64 0, .int .i64 0], .bool false, .int .i64 1], by simp [results, Try.results84, go_sem, x0, x1, y0, y1], rfl, by
    (repeat (refine Below.setCell ?_ (by simp) _))
    exact HI.out.bel⟩
set_option maxRecDepth 100000 in
set_option maxHeartbeats 4000000 in
theorem pc_4 (A : Option Addr) (C : Nat) (xs : List (Int × Int)) (lo hi a b c d e f : Int) (hlx : xs.length ≤ 9223372036854775806) (hra : true = true ↔ Bok xs lo hi) (h1 : vv a b c = true) (h2 : vv d e f = true) (he : a = d ∧ b = e ∧ c = f) (w : World) (hl : SlS w A xs) :
    Calls Try.prog 84 #[.agg #[.slice A xs.length C, .int .i64 lo, .int .i64 hi], .agg #[.int .i64 a, .int .i64 b, .int .i64 c], .agg #[.int .i64 d, .int .i64 e, .int .i64 f]] w fun e_ w' => e_ = .returned (.tuple #[.agg #[.int .i64 0, .int .i64 0], .agg #[.int .i64 0, .int .i64 0], .bool false, .int .i64 1]) ∧ Below w.heap.size w w' := by
  have heq := fun W => vec_eq (a := a) (b := b) (c := c) (x := d) (y := e) (z := f) (r := true) (decide_eq_true he) W
  clear he
  have CA := Lib.hid (fun W (h : SlS W A xs) => pvalid_is A C xs lo hi hlx true hra W h)
  have HL := Lib.hid hl
  clear hra hl
  refine (callsIn_wide (n := 8)).1 ?_
  refine callsIn_of_wp_marks Try.func84 rfl trivial ?_ rfl
  simp only [Try.ntmps84, List.size_toArray, List.length_cons, List.length_nil, Nat.reduceAdd, Nat.reduceSub, Array.replicate_succ, Array.replicate_zero, List.push_toArray, List.append_toArray, List.nil_append, List.cons_append]
  have hmx : Try.prog.follows .mixedOrders = true := by kernel_rfl
  gi_wp2_with fail
  obtain ⟨w1, hw1⟩ : ∃ V, ((((w.alloc (.cells #[.slice A xs.length C, .int .i64 lo, .int .i64 hi] 46)).alloc (.cells #[.int .i64 a, .int .i64 b, .int .i64 c] 27)).alloc (.cells #[.int .i64 d, .int .i64 e, .int .i64 f] 27)).alloc (.cells #[.int .i64 0, .int .i64 0] 32)).alloc (.cells #[.int .i64 0, .int .i64 0] 32) = V := ⟨_, rfl⟩
  obtain ⟨hb1, hs1, q0, q1, q2, q3, q4⟩ := allocs5 _ _ _ _ _ _ hw1
  have HI := Lib.hid (show Ci w.heap.size a b c d e f w w1 from ⟨q1, q2, q3, q4, hb1⟩)
  have HQ := Lib.hid q0
  have HL1 := Lib.hid (HL.out.below hb1)
  simp only [World.size_alloc, Nat.add_assoc, Nat.reduceAdd]
  rw [hw1]
  clear hw1 hb1 q0 q1 q2 q3 q4 hs1
  refine ⟨trivial, (callsIn_wide.2 (CA.out w1 HL1.out)).mono ?_⟩
  rintro e_ w2 ⟨rfl, hb⟩
  replace HI := Lib.hid (HI.out.on hb)
  replace HQ := Lib.hid (blk_on HQ.out hb)
  clear hb HL1 CA
  have d0 := (cells3 HI.out.q).1
  have d1 := (cells3 HI.out.q).2.1
  have d2 := (cells3 HI.out.q).2.2
  have t0 := (cells3 HI.out.s).1
  have t1 := (cells3 HI.out.s).2.1
  have t2 := (cells3 HI.out.s).2.2
  gi_wp2_with fail
  refine ⟨trivial, (callsIn_wide.2 (vvalid_is a b c true h1 w2)).mono ?_⟩
  rintro e_ w3 ⟨rfl, hb⟩
  replace HI := Lib.hid (HI.out.on hb)
  replace HQ := Lib.hid (blk_on HQ.out hb)
  clear hb d0 d1 d2 t0 t1 t2
  have d0 := (cells3 HI.out.q).1
  have d1 := (cells3 HI.out.q).2.1
  have d2 := (cells3 HI.out.q).2.2
  have t0 := (cells3 HI.out.s).1
  have t1 := (cells3 HI.out.s).2.1
  have t2 := (cells3 HI.out.s).2.2
  gi_wp2_with fail
  refine ⟨trivial, (callsIn_wide.2 (vvalid_is d e f true h2 w3)).mono ?_⟩
  rintro e_ w4 ⟨rfl, hb⟩
  replace HI := Lib.hid (HI.out.on hb)
  replace HQ := Lib.hid (blk_on HQ.out hb)
  clear hb d0 d1 d2 t0 t1 t2
  have d0 := (cells3 HI.out.q).1
  have d1 := (cells3 HI.out.q).2.1
  have d2 := (cells3 HI.out.q).2.2
  have t0 := (cells3 HI.out.s).1
  have t1 := (cells3 HI.out.s).2.1
  have t2 := (cells3 HI.out.s).2.2
  have x0 := (two_cells HI.out.x).1
  have x1 := (two_cells HI.out.x).2.1
  have xf0 := (two_cells HI.out.x).2.2.1
  have xf1 := (two_cells HI.out.x).2.2.2
  have y0 := (two_cells HI.out.y).1
  have y1 := (two_cells HI.out.y).2.1
  have yf0 := (two_cells HI.out.y).2.2.1
  have yf1 := (two_cells HI.out.y).2.2.2
  gi_wp2
  exact ⟨.tuple #[.agg #[.int .i64 0, .int .i64 0], .agg #[.int .i64 0, .int .i64 0], .bool false, .int .i64 1], by simp [results, Try.results84, go_sem, x0, x1, y0, y1], rfl, by
    (repeat (refine Below.setCell ?_ (by simp) _))
    exact HI.out.bel⟩
theorem two_rats (W : World) : Below W.heap.size W ((W.alloc (.cells #[.int .i64 0, .int .i64 1] 32)).alloc (.cells #[.int .i64 1, .int .i64 1] 32)) := ((Below.refl _ _).alloc (Nat.le_refl _) _).alloc (by simp) _
theorem lr_two (W : World) : Lr ((W.alloc (.cells #[.int .i64 0, .int .i64 1] 32)).alloc (.cells #[.int .i64 1, .int .i64 1] 32)) (W.heap.size + 1) 1 1 := by
  have := World.alloc_heap_new (W.alloc (.cells #[.int .i64 0, .int .i64 1] 32)) (.cells #[.int .i64 1, .int .i64 1] 32); rwa [World.size_alloc] at this
set_option maxRecDepth 100000 in
set_option maxHeartbeats 4000000 in
theorem pc_5 (A : Option Addr) (C : Nat) (xs : List (Int × Int)) (lo hi a b c d e f : Int) (hlx : xs.length ≤ 9223372036854775806) (hra : true = true ↔ Bok xs lo hi) (h1 : vv a b c = true) (h2 : vv d e f = true) (he : ¬ (a = d ∧ b = e ∧ c = f)) (R : Cln) (hR : clres (clp r0 (cnd xs lo hi a b c d e f)) = R) (w : World) (hl : SlS w A xs) :
    Calls Try.prog 84 #[.agg #[.slice A xs.length C, .int .i64 lo, .int .i64 hi], .agg #[.int .i64 a, .int .i64 b, .int .i64 c], .agg #[.int .i64 d, .int .i64 e, .int .i64 f]] w fun e_ w' => e_ = .returned (.tuple #[.agg #[.int .i64 R.a, .int .i64 R.b], .agg #[.int .i64 R.c, .int .i64 R.d], .bool R.h, .int .i64 0]) ∧ Below w.heap.size w w' := by
  have heq := fun W => vec_eq (a := a) (b := b) (c := c) (x := d) (y := e) (z := f) (r := false) (decide_eq_false he) W
  have BA := Lib.hid (hra.1 rfl)
  have VA := Lib.hid (vv_iff.1 h1)
  have VB := Lib.hid (vv_iff.1 h2)
  have HR := Lib.hid hR
  clear he hR
  have CA := Lib.hid (fun W (h : SlS W A xs) => pvalid_is A C xs lo hi hlx true hra W h)
  have HL := Lib.hid hl
  clear hra hl
  refine (callsIn_wide (n := 8)).1 ?_
  refine callsIn_of_wp_marks Try.func84 rfl trivial ?_ rfl
  simp only [Try.ntmps84, List.size_toArray, List.length_cons, List.length_nil, Nat.reduceAdd, Nat.reduceSub, Array.replicate_succ, Array.replicate_zero, List.push_toArray, List.append_toArray, List.nil_append, List.cons_append]
  have hmx : Try.prog.follows .mixedOrders = true := by kernel_rfl
  gi_wp2_with fail
  obtain ⟨w1, hw1⟩ : ∃ V, ((((w.alloc (.cells #[.slice A xs.length C, .int .i64 lo, .int .i64 hi] 46)).alloc (.cells #[.int .i64 a, .int .i64 b, .int .i64 c] 27)).alloc (.cells #[.int .i64 d, .int .i64 e, .int .i64 f] 27)).alloc (.cells #[.int .i64 0, .int .i64 0] 32)).alloc (.cells #[.int .i64 0, .int .i64 0] 32) = V := ⟨_, rfl⟩
  obtain ⟨hb1, hs1, q0, q1, q2, q3, q4⟩ := allocs5 _ _ _ _ _ _ hw1
  have HI := Lib.hid (show Ci w.heap.size a b c d e f w w1 from ⟨q1, q2, q3, q4, hb1⟩)
  have HQ := Lib.hid q0
  have HL1 := Lib.hid (HL.out.below hb1)
  simp only [World.size_alloc, Nat.add_assoc, Nat.reduceAdd]
  rw [hw1]
  clear hw1 hb1 q0 q1 q2 q3 q4 hs1
  refine ⟨trivial, (callsIn_wide.2 (CA.out w1 HL1.out)).mono ?_⟩
  rintro e_ w2 ⟨rfl, hb⟩
  replace HI := Lib.hid (HI.out.on hb)
  replace HQ := Lib.hid (blk_on HQ.out hb)
  clear hb HL1 CA
  have d0 := (cells3 HI.out.q).1
  have d1 := (cells3 HI.out.q).2.1
  have d2 := (cells3 HI.out.q).2.2
  have t0 := (cells3 HI.out.s).1
  have t1 := (cells3 HI.out.s).2.1
  have t2 := (cells3 HI.out.s).2.2
  gi_wp2_with fail
  refine ⟨trivial, (callsIn_wide.2 (vvalid_is a b c true h1 w2)).mono ?_⟩
  rintro e_ w3 ⟨rfl, hb⟩
  replace HI := Lib.hid (HI.out.on hb)
  replace HQ := Lib.hid (blk_on HQ.out hb)
  clear hb d0 d1 d2 t0 t1 t2
  have d0 := (cells3 HI.out.q).1
  have d1 := (cells3 HI.out.q).2.1
  have d2 := (cells3 HI.out.q).2.2
  have t0 := (cells3 HI.out.s).1
  have t1 := (cells3 HI.out.s).2.1
  have t2 := (cells3 HI.out.s).2.2
  gi_wp2_with fail
  refine ⟨trivial, (callsIn_wide.2 (vvalid_is d e f true h2 w3)).mono ?_⟩
  rintro e_ w4 ⟨rfl, hb⟩
  replace HI := Lib.hid (HI.out.on hb)
  replace HQ := Lib.hid (blk_on HQ.out hb)
  clear hb d0 d1 d2 t0 t1 t2
  have d0 := (cells3 HI.out.q).1
  have d1 := (cells3 HI.out.q).2.1
  have d2 := (cells3 HI.out.q).2.2
  have t0 := (cells3 HI.out.s).1
  have t1 := (cells3 HI.out.s).2.1
  have t2 := (cells3 HI.out.s).2.2
  gi_wp2_with fail
  have hgz4 : w.heap.size + 4 < w4.heap.size := HI.out.y.lt
  have hb5 := two_rats w4
  have HZ := Lib.hid (show Lr _ w4.heap.size 0 1 from (blk_new (World.alloc_heap_new w4 (.cells #[.int .i64 0, .int .i64 1] 32)) (.cells #[.int .i64 1, .int .i64 1] 32)))
  have HO := Lib.hid (lr_two w4)
  replace HI := Lib.hid (HI.out.on hb5)
  replace HQ := Lib.hid (blk_on HQ.out hb5)
  clear hb5 d0 d1 d2 t0 t1 t2 heq
  generalize (w4.alloc (.cells #[.int .i64 0, .int .i64 1] 32)).alloc (.cells #[.int .i64 1, .int .i64 1] 32) = w5 at *
  have hz0 := (two_cells HZ.out).1
  have hz1 := (two_cells HZ.out).2.1
  have ho0 := (two_cells HO.out).1
  have ho1 := (two_cells HO.out).2.1
  have lz : w4.heap.size < w5.heap.size := HZ.out.lt
  have lo1 : w4.heap.size + 1 < w5.heap.size := HO.out.lt
  generalize hgz : w4.heap.size = gz at *
  generalize hg1 : gz + 1 = g1 at *
  clear hgz hg1 w4
  refine wpIn_mono (Q := Two4 (fun gl gh => #[.agg #[.slice A xs.length C, .int .i64 lo, .int .i64 hi], .agg #[.int .i64 a, .int .i64 b, .int .i64 c], .agg #[.int .i64 d, .int .i64 e, .int .i64 f], .pointer (some ⟨w.heap.size, 0, none⟩), .pointer (some ⟨w.heap.size + 1, 0, none⟩), .pointer (some ⟨w.heap.size + 2, 0, none⟩), .pointer (some ⟨w.heap.size + 3, 0, none⟩), .pointer (some ⟨w.heap.size + 4, 0, none⟩), .bool false, .int .i64 0, .pointer (some ⟨gz, 0, none⟩), .pointer (some ⟨g1, 0, none⟩), .pointer (some ⟨gl, 0, none⟩), .pointer (some ⟨gh, 0, none⟩), undef, undef, .agg #[.slice A xs.length C, .int .i64 lo, .int .i64 hi], .bool true, .bool false, .bool false, .agg #[.int .i64 a, .int .i64 b, .int .i64 c], .bool true, .bool false, .bool false, .bool false, .agg #[.int .i64 d, .int .i64 e, .int .i64 f], .bool true, .bool false, .bool false, .bool false, .agg #[.int .i64 a, .int .i64 b, .int .i64 c], .agg #[.int .i64 d, .int .i64 e, .int .i64 f], .bool false, .bool false, undef, undef, .agg #[.int .i64 0, .int .i64 1], .agg #[.int .i64 1, .int .i64 1], .agg #[.int .i64 0, .int .i64 1], .agg #[.int .i64 1, .int .i64 1], undef, undef, undef, undef, undef, undef, undef, undef, undef, undef, undef, undef, undef, undef, undef, undef, undef, undef, undef, undef]) w5) (wpIn_wide.2 ?reg) ?_
  case reg =>
    refine wp_region_held_drew (S := fun V => V.cell? ⟨gz, 0, none⟩ = some (.int .i64 0) ∧ V.cell? ⟨gz, 1, none⟩ = some (.int .i64 1) ∧ V.cell? ⟨g1, 0, none⟩ = some (.int .i64 1) ∧ V.cell? ⟨g1, 1, none⟩ = some (.int .i64 1)) (by kernel_rfl) ⟨hz0, hz1, ho0, ho1⟩ fun HL_ => ?_
    refine wpAnyH_take (i := 0) (v := .agg #[.int .i64 0, .int .i64 1]) rfl (by kernel_rfl) (by kernel_rfl) (by kernel_rfl) (fun _ _ _ h => h) (Or.inl ⟨by kernel_rfl, ?_⟩) HL_ ?_
    · rintro Wl ⟨s0, s1, s2, s3⟩
      go_simp
    simp only [Act.put, List.getElem_toArray, List.getElem_cons_succ, List.getElem_cons_zero, List.setIfInBounds_toArray, List.set_cons_zero, List.set_cons_succ]
    refine wpAnyH_take (i := 1) (v := .agg #[.int .i64 1, .int .i64 1]) rfl (by kernel_rfl) (by kernel_rfl) (by kernel_rfl) (fun _ _ _ h => h) (Or.inl ⟨by kernel_rfl, ?_⟩) HL_ ?_
    · rintro Wl ⟨s0, s1, s2, s3⟩
      go_simp
    simp only [Act.put, List.getElem_toArray, List.getElem_cons_succ, List.getElem_cons_zero, List.setIfInBounds_toArray, List.set_cons_zero, List.set_cons_succ]
    have kp : ∀ {W : World}, Below w5.heap.size w5 W → W.cell? ⟨gz, 0, none⟩ = some (.int .i64 0) ∧ W.cell? ⟨gz, 1, none⟩ = some (.int .i64 1) ∧ W.cell? ⟨g1, 0, none⟩ = some (.int .i64 1) ∧ W.cell? ⟨g1, 1, none⟩ = some (.int .i64 1) := fun h => ⟨keepc h hz0, keepc h hz1, keepc h ho0, keepc h ho1⟩
    have hA : ∀ o, Below w5.heap.size w5 (w5.alloc o).drew := fun o => ((Below.refl _ _).alloc (Nat.le_refl _) _).drew
    have hAA : ∀ o o', Below w5.heap.size w5 ((w5.alloc o).alloc o').drew := fun o o' => (((Below.refl _ _).alloc (Nat.le_refl _) _).alloc (by simp) _).drew
    clear HL_ hz0 hz1 ho0 ho1
    refine wpAnyH_ready (rs := [2, 3]) (by kernel_rfl) (by simp) ?_
    refine AllReadyH.cons (o := _) rfl (fun K hK => ?_) (AllReadyH.cons (o := _) rfl (fun K hK => ?_) AllReadyH.nil)
    · go_simp
      refine hK.out _ _ (kp (hA _)) fun HL_ => ?_
      clear hK K
      refine wpAnyH_ready (rs := [3]) (by kernel_rfl) (by simp) ?_
      refine AllReadyH.cons (o := _) rfl (fun K hK => ?_) AllReadyH.nil
      go_simp
      refine hK.out _ _ (kp (hAA _ _)) fun HL_ => ?_
      clear hK K
      refine wpAnyH_ready (rs := [4]) (by kernel_rfl) (by simp) ?_
      refine AllReadyH.cons (o := _) rfl (fun K hK => ?_) AllReadyH.nil
      go_simp
      refine hK.out _ _ (kp (hAA _ _)) fun HL_ => ?_
      clear hK K
      refine wpAnyH_ready (rs := [5]) (by kernel_rfl) (by simp) ?_
      refine AllReadyH.cons (o := _) rfl (fun K hK => ?_) AllReadyH.nil
      go_simp
      refine hK.out _ _ (kp (hAA _ _)) fun HL_ => ?_
      clear hK K
      refine wpAnyH_done (by kernel_rfl) ?_ _
      obtain ⟨m1, m2, m3⟩ := made2 w5 (.cells #[.int .i64 0, .int .i64 1] 32) (.cells #[.int .i64 1, .int .i64 1] 32)
      exact ⟨w5.heap.size, w5.heap.size + 1, rfl, by omega, by omega, by omega, m1, m2, m3.drew⟩
    · go_simp
      refine hK.out _ _ (kp (hA _)) fun HL_ => ?_
      clear hK K
      refine wpAnyH_ready (rs := [2]) (by kernel_rfl) (by simp) ?_
      refine AllReadyH.cons (o := _) rfl (fun K hK => ?_) AllReadyH.nil
      go_simp
      refine hK.out _ _ (kp (hAA _ _)) fun HL_ => ?_
      clear hK K
      refine wpAnyH_ready (rs := [4]) (by kernel_rfl) (by simp) ?_
      refine AllReadyH.cons (o := _) rfl (fun K hK => ?_) AllReadyH.nil
      go_simp
      refine hK.out _ _ (kp (hAA _ _)) fun HL_ => ?_
      clear hK K
      refine wpAnyH_ready (rs := [5]) (by kernel_rfl) (by simp) ?_
      refine AllReadyH.cons (o := _) rfl (fun K hK => ?_) AllReadyH.nil
      go_simp
      refine hK.out _ _ (kp (hAA _ _)) fun HL_ => ?_
      clear hK K
      refine wpAnyH_done (by kernel_rfl) ?_ _
      obtain ⟨m1, m2, m3⟩ := made2 w5 (.cells #[.int .i64 1, .int .i64 1] 32) (.cells #[.int .i64 0, .int .i64 1] 32)
      exact ⟨w5.heap.size + 1, w5.heap.size, rfl, by omega, by omega, by omega, m2, m1, m3.drew⟩
  rintro e_ a_ V hp
  cases e_ with
  | normal =>
    obtain ⟨gl, gh, rfl, ne, lgl, lgh, hL, hH, hb⟩ := hp
    have hsz5 : w.heap.size + 4 < w5.heap.size := HI.out.y.lt
    replace HI := Lib.hid (HI.out.on hb)
    replace HQ := Lib.hid (blk_on HQ.out hb)
    replace HZ := Lib.hid (HZ.out.on hb)
    have HLl := Lib.hid hL
    have HLh := Lib.hid hH
    have c0 := (cells3 HQ.out).1
    have c1 := (cells3 HQ.out).2.1
    have c2 := (cells3 HQ.out).2.2
    have lb0 : w.heap.size < V.heap.size := block_lt c0
    have hmf : ∀ (fn : Fn) (first cap : Array Value) (w : World), (Instr.makeFunc fn first cap).run Try.prog w = .ok (.func fn first cap) w := fun _ _ _ _ => rfl
    clear hz0 hz1 ho0 ho1 HO hb hL hH
    gi_wp2_with fail
    have hbf := below_new V (.cells #[.func (.func 87) #[] #[.pointer (some ⟨gl, 0, none⟩), .pointer (some ⟨gh, 0, none⟩)]] 141)
    have HC := Lib.hid (show Cs w.heap.size gz V.heap.size gl gh a b c d e f w r0 _ from ⟨HI.out.on hbf, HZ.out.on hbf, Boxed.new V _ _, HLl.out.on hbf, HLh.out.on hbf⟩)
    have hlf : gl < V.heap.size := HLl.out.lt
    have hhf : gh < V.heap.size := HLh.out.lt
    clear HI HZ HLl HLh HQ c0 c1 c2
    generalize V.alloc (.cells #[.func (.func 87) #[] #[.pointer (some ⟨gl, 0, none⟩), .pointer (some ⟨gh, 0, none⟩)]] 141) = w6 at *
    clear hbf
    generalize V.heap.size = gf at *
    clear V
    refine ⟨trivial, (callsIn_wide.2 (sides_any A xs.length C lo hi w6)).mono ?_⟩
    rintro e_ w7 ⟨rfl, hw7⟩
    have hb : Below w6.heap.size w6 w7 := by rw [hw7]; exact below_new _ _
    have HBX := Lib.hid (show w7.heap[w6.heap.size]? = some (.cells #[.slice A xs.length C, .int .i64 lo, .int .i64 hi] 46 (0, 0)) by rw [hw7]; exact World.alloc_heap_new _ _)
    replace HC := Lib.hid (HC.out.on hb)
    clear hw7 hb
    generalize w6.heap.size = g7 at *
    clear w6
    have HSQ := Lib.hid (sides_seq 7 (by omega) g7 A C xs lo hi hlx (fun j hj => bok_co BA.out hj) BA.out.zl BA.out.zh w w7 HL.out HC.out.i.bel HBX.out)
    have hsz : w.heap.size + 4 < w7.heap.size := HC.out.i.y.lt
    gi_wp2_with fail
    refine range_n (gf := 93) (lb := #[.pointer (some ⟨g7, 0, none⟩)]) rfl sides_enter HSQ.out (Below.refl _ _) (fun k args W e => by obtain ⟨f, caps, e, _⟩ := e; rw [e]; rfl) Kz.trans (fun W l o o' hl h1 h2 => Kz.put o' (by omega) h1 h2)
      (fun k W => Cs w.heap.size gz gf gl gh a b c d e f w (pst xs lo hi a b c d e f k) W) (fun _ _ => False) (Cs.own (by omega)) (fun _ _ _ _ h _ _ => h) HC.out ?round ?done ?stop
    case round =>
      rintro l k args W hl hk hI ⟨f_, caps, rfl, hen, hdep⟩
      have HN := Lib.hid hI
      have HD := Lib.hid hdep
      clear hI hdep HSQ HC
      have hsW : w.heap.size ≤ W.heap.size := HN.out.i.bel.size
      gi_wp2
      refine ⟨KeepsFrom.refl _ _, Kz.refl _, ?_⟩
      rintro o Wb ho hc hsome hg hoth
      have hrow : ∀ r, some l = some r → w.heap.size ≤ r ∧ ∃ o : Obj, W.heap[r]? = some o ∧ o.isCells = false := fun r e => by cases e; exact ⟨by omega, o, ho, hc⟩
      have HK := Lib.hid (show Kz w.heap.size 32 W Wb from (Kz.refl W).row hsW hg hrow)
      replace HN := Lib.hid (HN.out.row hg hrow)
      clear ho hc hsome hg hoth hrow
      obtain ⟨s1, hs1⟩ : ∃ s, dep xs lo hi k a b c = s := ⟨_, rfl⟩
      obtain ⟨s2, hs2⟩ : ∃ s, dep xs lo hi k d e f = s := ⟨_, rfl⟩
      have HS1 := Lib.hid hs1
      have HS2 := Lib.hid hs2
      have hd1 := dep_bd BA.out VA.out k
      have hd2 := dep_bd BA.out VB.out k
      rw [hs1] at hd1
      rw [hs2] at hd2
      clear hs1 hs2
      have HP := Lib.hid (show pnar s1 s2 (pst xs lo hi a b c d e f k) = pst xs lo hi a b c d e f (k + 1) by rw [← HS1.out, ← HS2.out]; rfl)
      have HV := Lib.hid (pst_vok BA.out VA.out VB.out k)
      have HSE := Lib.hid (show pst xs lo hi a b c d e f (k + 1) = pst xs lo hi a b c d e f (k + 1) from rfl)
      obtain ⟨S, hS⟩ : ∃ S, pst xs lo hi a b c d e f (k + 1) = S := ⟨_, rfl⟩
      replace HSE := Lib.hid hS
      rw [hS] at HP
      clear hS
      generalize pst xs lo hi a b c d e f k = s at *
      gi_wp2_with fail
      have sc : ∀ {V : World} {r : Rg}, Cs w.heap.size gz gf gl gh a b c d e f w r V → V.cell? ⟨gf, 0, none⟩ = some (.func (.func 87) #[] #[.pointer (some ⟨gl, 0, none⟩), .pointer (some ⟨gh, 0, none⟩)]) ∧ V.cell? ⟨w.heap.size + 1, 0, none⟩ = some (.int .i64 a) ∧ V.cell? ⟨w.heap.size + 1, 1, none⟩ = some (.int .i64 b) ∧ V.cell? ⟨w.heap.size + 1, 2, none⟩ = some (.int .i64 c) ∧ V.cell? ⟨w.heap.size + 2, 0, none⟩ = some (.int .i64 d) ∧ V.cell? ⟨w.heap.size + 2, 1, none⟩ = some (.int .i64 e) ∧ V.cell? ⟨w.heap.size + 2, 2, none⟩ = some (.int .i64 f) := fun h => ⟨h.f.cell, (cells3 h.i.q).1, (cells3 h.i.q).2.1, (cells3 h.i.q).2.2, (cells3 h.i.s).1, (cells3 h.i.s).2.1, (cells3 h.i.s).2.2⟩
      refine region_round (S := fun V => V.cell? ⟨gf, 0, none⟩ = some (.func (.func 87) #[] #[.pointer (some ⟨gl, 0, none⟩), .pointer (some ⟨gh, 0, none⟩)]) ∧ V.cell? ⟨w.heap.size + 1, 0, none⟩ = some (.int .i64 a) ∧ V.cell? ⟨w.heap.size + 1, 1, none⟩ = some (.int .i64 b) ∧ V.cell? ⟨w.heap.size + 1, 2, none⟩ = some (.int .i64 c) ∧ V.cell? ⟨w.heap.size + 2, 0, none⟩ = some (.int .i64 d) ∧ V.cell? ⟨w.heap.size + 2, 1, none⟩ = some (.int .i64 e) ∧ V.cell? ⟨w.heap.size + 2, 2, none⟩ = some (.int .i64 f)) hmx (by kernel_rfl) (by rintro ⟨a, w, h⟩; exact h) (sc (HN.out.row (grown_drew Wb) (by rintro r e; cases e))) fun HL_ => ?_
      refine wpAnyH_take (i := 0) (v := .func (.func 87) #[] #[.pointer (some ⟨gl, 0, none⟩), .pointer (some ⟨gh, 0, none⟩)]) rfl (by kernel_rfl) (by kernel_rfl) (by kernel_rfl) (fun _ _ _ h => h) (Or.inl ⟨by kernel_rfl, ?_⟩) HL_ ?_
      · rintro Wl ⟨s0, s1, s2, s3, s4, s5, s6⟩
        go_simp
      simp only [Act.put, List.getElem_toArray, List.getElem_cons_succ, List.getElem_cons_zero, List.setIfInBounds_toArray, List.set_cons_zero, List.set_cons_succ]
      refine wpAnyH_take (i := 1) (v := .func (.func f_) #[] caps) rfl (by kernel_rfl) (by kernel_rfl) (by kernel_rfl) (fun _ _ _ h => h) (Or.inl ⟨by kernel_rfl, ?_⟩) HL_ ?_
      · rintro Wl ⟨s0, s1, s2, s3, s4, s5, s6⟩
        go_simp
      simp only [Act.put, List.getElem_toArray, List.getElem_cons_succ, List.getElem_cons_zero, List.setIfInBounds_toArray, List.set_cons_zero, List.set_cons_succ]
      refine wpAnyH_take (i := 2) (v := .agg #[.int .i64 a, .int .i64 b, .int .i64 c]) rfl (by kernel_rfl) (by kernel_rfl) (by kernel_rfl) (fun _ _ _ h => h) (Or.inl ⟨by kernel_rfl, ?_⟩) HL_ ?_
      · rintro Wl ⟨s0, s1, s2, s3, s4, s5, s6⟩
        go_simp
      simp only [Act.put, List.getElem_toArray, List.getElem_cons_succ, List.getElem_cons_zero, List.setIfInBounds_toArray, List.set_cons_zero, List.set_cons_succ]
      refine wpAnyH_take (i := 4) (v := .func (.func f_) #[] caps) rfl (by kernel_rfl) (by kernel_rfl) (by kernel_rfl) (fun _ _ _ h => h) (Or.inl ⟨by kernel_rfl, ?_⟩) HL_ ?_
      · rintro Wl ⟨s0, s1, s2, s3, s4, s5, s6⟩
        go_simp
      simp only [Act.put, List.getElem_toArray, List.getElem_cons_succ, List.getElem_cons_zero, List.setIfInBounds_toArray, List.set_cons_zero, List.set_cons_succ]
      refine wpAnyH_take (i := 5) (v := .agg #[.int .i64 d, .int .i64 e, .int .i64 f]) rfl (by kernel_rfl) (by kernel_rfl) (by kernel_rfl) (fun _ _ _ h => h) (Or.inl ⟨by kernel_rfl, ?_⟩) HL_ ?_
      · rintro Wl ⟨s0, s1, s2, s3, s4, s5, s6⟩
        go_simp
      simp only [Act.put, List.getElem_toArray, List.getElem_cons_succ, List.getElem_cons_zero, List.setIfInBounds_toArray, List.set_cons_zero, List.set_cons_succ]
      refine wpAnyH_ready (rs := [3]) (by kernel_rfl) (by simp) ?_
      refine AllReadyH.cons (o := _) rfl (fun K hK => ?_) AllReadyH.nil
      go_simp
      with_reducible refine (HD.out Wb.drew a b c s1 HK.out.drew VA.out HS1.out).mono ?_
      rintro e_ W3 ⟨rfl, hb⟩
      have hb3 : Below Wb.heap.size Wb W3 := undrew_b hb
      have HN3 := Lib.hid (HN.out.on hb3)
      have HK3 := Lib.hid (Kz.trans HK.out (Kz.of (b := w.heap.size) (T := 32) hb3 HN.out.i.bel.size))
      refine hK.out _ _ (sc HN3.out) fun HL_ => ?_
      clear hK K hb
      refine wpAnyH_ready (rs := [6]) (by kernel_rfl) (by simp) ?_
      refine AllReadyH.cons (o := _) rfl (fun K hK => ?_) AllReadyH.nil
      go_simp
      with_reducible refine (HD.out W3 d e f s2 HK3.out VB.out HS2.out).mono ?_
      rintro e_ W4 ⟨rfl, hb⟩
      have hb4 : Below Wb.heap.size Wb W4 := on_below hb3 hb
      have HN4 := Lib.hid (HN.out.on hb4)
      refine hK.out _ _ (sc HN4.out) fun HL_ => ?_
      clear hK K hb hb3 HN3 HK3
      refine wpAnyH_ready (rs := [7]) (by kernel_rfl) (by simp) ?_
      refine AllReadyH.cons (o := _) rfl (fun K hK => ?_) AllReadyH.nil
      go_simp
      with_reducible refine (narrow_is w.heap.size gl gh (by omega) (by omega) ne s1 s2 ⟨by omega, by omega⟩ ⟨by omega, by omega⟩ s HV.out S HP.out W4 HN4.out.i.bel.size HN4.out.l HN4.out.h).mono ?_
      rintro e_ W5 ⟨rfl, hn⟩
      have HN5 := Lib.hid (HN4.out.nar hn (by omega) (by omega) (by omega) (by omega) hlf hhf)
      have HF5 := Lib.hid (((keeps_of (B := w7.heap.size) hb4)).trans (hn.k.from _))
      have HK5 := Lib.hid (Kz.trans (Kz.of (b := w.heap.size) (T := 32) hb4 HN.out.i.bel.size) hn.z)
      refine hK.out _ _ (sc HN5.out) fun HL_ => ?_
      clear hK K hb4 hn HN4 HL_
      refine wpAnyH_done (by kernel_rfl) ?_ _
      clear HN HD HV HP HS1 HS2 hd1 hd2 sc
      gi_wp2
      exact ⟨HF5.out, HK5.out, by show Cs w.heap.size gz gf gl gh a b c d e f w (pst xs lo hi a b c d e f (k + 1)) W5; rw [HSE.out]; exact HN5.out⟩
    case done =>
      rintro D V hD hI hK
      have HRS := Lib.hid (clres_p (pst_end BA.out VA.out VB.out))
      have HV := Lib.hid (pst_vok BA.out VA.out VB.out (xs.length + 2))
      generalize pst xs lo hi a b c d e f (xs.length + 2) = s at *
      rw [HR.out] at HRS
      have l0 := (two_cells hI.l).1
      have l1 := (two_cells hI.l).2.1
      have m0 := (two_cells hI.h).1
      have m1 := (two_cells hI.h).2.1
      have HI := Lib.hid hI
      have HK := Lib.hid hK
      clear hI hK HSQ HC HBX
      have HCP := Lib.hid (cparts_is s.ln s.ld s.hn s.hd _ HV.out.1 HV.out.2 rfl V)
      have HQ := Lib.hid (sgn_nn (x := s.ln * s.hd) (y := s.hn * s.ld))
      generalize sgn (s.ln * s.hd) (s.hn * s.ld) = q at *
      by_cases hc : s.ln * s.hd < s.hn * s.ld
      · rw [if_pos hc] at HRS
        have hR := HRS.out
        subst hR
        have hq2 : decide (0 ≤ q) = false := by rw [HQ.out]; exact decide_eq_false (by omega)
        clear HRS hc
        gi_wp2_with fail
        refine ⟨trivial, (callsIn_wide.2 HCP.out).mono ?_⟩
        rintro e_ V2 ⟨rfl, hb⟩
        replace HI := Lib.hid (HI.out.on hb)
        replace HK := Lib.hid (blk_on HK.out hb)
        clear hb HCP l0 l1 m0 m1
        gi_wp2_with fail
        refine wpIn_mono (Q := FinQ (#[.agg #[.slice A xs.length C, .int .i64 lo, .int .i64 hi], .agg #[.int .i64 a, .int .i64 b, .int .i64 c], .agg #[.int .i64 d, .int .i64 e, .int .i64 f], .pointer (some ⟨w.heap.size, 0, none⟩), .pointer (some ⟨w.heap.size + 1, 0, none⟩), .pointer (some ⟨w.heap.size + 2, 0, none⟩), .pointer (some ⟨w.heap.size + 3, 0, none⟩), .pointer (some ⟨w.heap.size + 4, 0, none⟩), .bool true, .int .i64 0, .pointer (some ⟨gz, 0, none⟩), .pointer (some ⟨g1, 0, none⟩), .pointer (some ⟨gl, 0, none⟩), .pointer (some ⟨gh, 0, none⟩), .pointer (some ⟨gf, 0, none⟩), undef, .agg #[.slice A xs.length C, .int .i64 lo, .int .i64 hi], .bool true, .bool false, .bool false, .agg #[.int .i64 a, .int .i64 b, .int .i64 c], .bool true, .bool false, .bool false, .bool false, .agg #[.int .i64 d, .int .i64 e, .int .i64 f], .bool true, .bool false, .bool false, .bool false, .agg #[.int .i64 a, .int .i64 b, .int .i64 c], .agg #[.int .i64 d, .int .i64 e, .int .i64 f], .bool false, .bool false, undef, undef, .agg #[.int .i64 0, .int .i64 1], .agg #[.int .i64 1, .int .i64 1], .agg #[.int .i64 0, .int .i64 1], .agg #[.int .i64 1, .int .i64 1], .func (.func 87) #[] #[.pointer (some ⟨gl, 0, none⟩), .pointer (some ⟨gh, 0, none⟩)], .agg #[.slice A xs.length C, .int .i64 lo, .int .i64 hi], .func (.func 93) #[] #[.pointer (some ⟨g7, 0, none⟩)], undef, undef, undef, undef, undef, undef, undef, undef, undef, .agg #[.int .i64 s.ln, .int .i64 s.ld], .agg #[.int .i64 s.hn, .int .i64 s.hd], .int .i64 q, .bool false, undef, undef, .agg #[.int .i64 s.ln, .int .i64 s.ld], .agg #[.int .i64 s.hn, .int .i64 s.hd]]) D w.heap.size s.ln s.ld s.hn s.hd w) (wpIn_wide.2 ?ry) ?_
        · skip
          have q1 : Lr V2 gl s.ln s.ld ∧ Lr V2 gh s.hn s.hd := ⟨HI.out.l, HI.out.h⟩
          have X0 : Lr V2 (w.heap.size + 3) 0 0 := HI.out.i.x
          have Y0 : Lr V2 (w.heap.size + 4) 0 0 := HI.out.i.y
          have BL0 : Below w.heap.size w V2 := HI.out.i.bel
          have D0 : V2.heap[D]? = some (.deferred (some [])) := HK.out
          have fx0 := (two_cells X0).1
          have fx1 := (two_cells X0).2.1
          have fx2 := (two_cells X0).2.2.1
          have fx3 := (two_cells X0).2.2.2
          have fy0 := (two_cells Y0).1
          have fy1 := (two_cells Y0).2.1
          have fy2 := (two_cells Y0).2.2.1
          have fy3 := (two_cells Y0).2.2.2
          have ngz : gl ≠ w.heap.size + 3 ∧ gl ≠ w.heap.size + 4 ∧ gh ≠ w.heap.size + 3 ∧ gh ≠ w.heap.size + 4 := ⟨by omega, by omega, by omega, by omega⟩
          have NG := Lib.hid ngz
          clear ngz
          refine wp_region_held_drew (S := fun V => Lr V gl s.ln s.ld ∧ Lr V gh s.hn s.hd) (by kernel_rfl) ⟨q1.1, q1.2⟩ fun HL_ => ?_
          refine wpAnyH_take (i := 0) (v := .agg #[.int .i64 s.ln, .int .i64 s.ld]) rfl (by kernel_rfl) (by kernel_rfl) (by kernel_rfl) (fun _ _ _ h => h) (Or.inl ⟨by kernel_rfl, ?_⟩) HL_ ?_
          · rintro Wl ⟨u1, u2⟩
            obtain ⟨s0, s1, -, -⟩ := two_cells u1
            obtain ⟨s2, s3, -, -⟩ := two_cells u2
            go_simp
          simp only [Act.put, List.getElem_toArray, List.getElem_cons_succ, List.getElem_cons_zero, List.setIfInBounds_toArray, List.set_cons_zero, List.set_cons_succ]
          refine wpAnyH_take (i := 1) (v := .agg #[.int .i64 s.hn, .int .i64 s.hd]) rfl (by kernel_rfl) (by kernel_rfl) (by kernel_rfl) (fun _ _ _ h => h) (Or.inl ⟨by kernel_rfl, ?_⟩) HL_ ?_
          · rintro Wl ⟨u1, u2⟩
            obtain ⟨s0, s1, -, -⟩ := two_cells u1
            obtain ⟨s2, s3, -, -⟩ := two_cells u2
            go_simp
          simp only [Act.put, List.getElem_toArray, List.getElem_cons_succ, List.getElem_cons_zero, List.setIfInBounds_toArray, List.set_cons_zero, List.set_cons_succ]
          refine wpAnyH_ready (rs := [2]) (by kernel_rfl) (by simp) ?_
          refine AllReadyH.cons (o := _) rfl (fun K hK => ?_) AllReadyH.nil
          go_simp
          refine hK.out _ _ ?_ fun HL_ => ?_
          · exact ⟨q1.1.far NG.out.1 _ _, q1.2.far NG.out.2.2.1 _ _⟩
          clear hK K
          refine wpAnyH_ready (rs := [3]) (by kernel_rfl) (by simp) ?_
          refine AllReadyH.cons (o := _) rfl (fun K hK => ?_) AllReadyH.nil
          go_simp
          refine hK.out _ _ ?_ fun HL_ => ?_
          · exact ⟨(q1.1.far NG.out.1 _ _).far NG.out.2.1 _ _, (q1.2.far NG.out.2.2.1 _ _).far NG.out.2.2.2 _ _⟩
          clear hK K
          refine wpAnyH_take (i := 4) (v := .bool true) rfl (by kernel_rfl) (by kernel_rfl) (by kernel_rfl) (fun _ _ _ h => h) (Or.inl ⟨by kernel_rfl, ?_⟩) HL_ ?_
          · rintro Wl ⟨u1, u2⟩
            obtain ⟨s0, s1, -, -⟩ := two_cells u1
            obtain ⟨s2, s3, -, -⟩ := two_cells u2
            go_simp
          simp only [Act.put, List.getElem_toArray, List.getElem_cons_succ, List.getElem_cons_zero, List.setIfInBounds_toArray, List.set_cons_zero, List.set_cons_succ]
          refine wpAnyH_take (i := 5) (v := .int .i64 0) rfl (by kernel_rfl) (by kernel_rfl) (by kernel_rfl) (fun _ _ _ h => h) (Or.inl ⟨by kernel_rfl, ?_⟩) HL_ ?_
          · rintro Wl ⟨u1, u2⟩
            obtain ⟨s0, s1, -, -⟩ := two_cells u1
            obtain ⟨s2, s3, -, -⟩ := two_cells u2
            go_simp
          simp only [Act.put, List.getElem_toArray, List.getElem_cons_succ, List.getElem_cons_zero, List.setIfInBounds_toArray, List.set_cons_zero, List.set_cons_succ]
          refine wpAnyH_done (by kernel_rfl) ?_ _
          refine ⟨rfl, (X0.put _ _).far (by omega) _ _, (Y0.far (by omega) _ _).put _ _, ?_, ?_⟩
          · exact ((((BL0.setCell (by simp) _).setCell (by simp) _).setCell (by simp) _).setCell (by simp) _).drew
          · exact (KeepsOthers.setCell _ _ _).same _ _ ((KeepsOthers.setCell _ _ _).same _ _ ((KeepsOthers.setCell _ _ _).same _ _ ((KeepsOthers.setCell _ _ _).same _ _ D0 rfl) rfl) rfl) rfl
        rintro e_ a_ V3 hp
        cases e_ with
        | normal =>
          obtain ⟨rfl, x1, x2, hbl, hD3⟩ := hp
          have y1 := blk_row x1 (grownBy_putObj' V3 D (.deferred none)) (row_one hD3 rfl)
          have y2 := blk_row x2 (grownBy_putObj' V3 D (.deferred none)) (row_one hD3 rfl)
          have z1 := two_cells y1
          have z2 := two_cells y2
          obtain ⟨z3, z4, -, -⟩ := z1
          obtain ⟨z5, z6, -, -⟩ := z2
          have HF := Lib.hid (show Below w.heap.size w (V3.putObj D (.deferred none)) from hbl.grown (grownBy_putObj' V3 D _) hbl.size (fun k e => by cases e; omega))
          clear x1 x2 y1 y2 hbl
          gi_wp2
          refine ⟨by simp, .inl ⟨_, _, rfl, run_takeDeferred hD3, ?_⟩⟩
          exact ⟨.tuple #[.agg #[.int .i64 s.ln, .int .i64 s.ld], .agg #[.int .i64 s.hn, .int .i64 s.hd], .bool true, .int .i64 0], by simp [results, Try.results84, go_sem, z3, z4, z5, z6], rfl, HF.out⟩
        | exit _ => exact hp.elim
        | goto _ => exact hp.elim
        | ret => exact hp.elim
        | panic _ => exact hp.elim
        | outgrown => exact hp.elim
      · rw [if_neg hc] at HRS
        have hR := HRS.out
        subst hR
        have hq2 : decide (0 ≤ q) = true := by rw [HQ.out]; exact decide_eq_true (by omega)
        clear HRS hc
        gi_wp2_with fail
        refine ⟨trivial, (callsIn_wide.2 HCP.out).mono ?_⟩
        rintro e_ V2 ⟨rfl, hb⟩
        replace HI := Lib.hid (HI.out.on hb)
        replace HK := Lib.hid (blk_on HK.out hb)
        clear hb HCP l0 l1 m0 m1
        gi_wp2_with fail
        refine wpIn_mono (Q := FinQ (#[.agg #[.slice A xs.length C, .int .i64 lo, .int .i64 hi], .agg #[.int .i64 a, .int .i64 b, .int .i64 c], .agg #[.int .i64 d, .int .i64 e, .int .i64 f], .pointer (some ⟨w.heap.size, 0, none⟩), .pointer (some ⟨w.heap.size + 1, 0, none⟩), .pointer (some ⟨w.heap.size + 2, 0, none⟩), .pointer (some ⟨w.heap.size + 3, 0, none⟩), .pointer (some ⟨w.heap.size + 4, 0, none⟩), .bool false, .int .i64 0, .pointer (some ⟨gz, 0, none⟩), .pointer (some ⟨g1, 0, none⟩), .pointer (some ⟨gl, 0, none⟩), .pointer (some ⟨gh, 0, none⟩), .pointer (some ⟨gf, 0, none⟩), undef, .agg #[.slice A xs.length C, .int .i64 lo, .int .i64 hi], .bool true, .bool false, .bool false, .agg #[.int .i64 a, .int .i64 b, .int .i64 c], .bool true, .bool false, .bool false, .bool false, .agg #[.int .i64 d, .int .i64 e, .int .i64 f], .bool true, .bool false, .bool false, .bool false, .agg #[.int .i64 a, .int .i64 b, .int .i64 c], .agg #[.int .i64 d, .int .i64 e, .int .i64 f], .bool false, .bool false, undef, undef, .agg #[.int .i64 0, .int .i64 1], .agg #[.int .i64 1, .int .i64 1], .agg #[.int .i64 0, .int .i64 1], .agg #[.int .i64 1, .int .i64 1], .func (.func 87) #[] #[.pointer (some ⟨gl, 0, none⟩), .pointer (some ⟨gh, 0, none⟩)], .agg #[.slice A xs.length C, .int .i64 lo, .int .i64 hi], .func (.func 93) #[] #[.pointer (some ⟨g7, 0, none⟩)], undef, undef, undef, undef, undef, undef, undef, undef, undef, .agg #[.int .i64 s.ln, .int .i64 s.ld], .agg #[.int .i64 s.hn, .int .i64 s.hd], .int .i64 q, .bool true, .agg #[.int .i64 0, .int .i64 1], .agg #[.int .i64 0, .int .i64 1], undef, undef]) D w.heap.size 0 1 0 1 w) (wpIn_wide.2 ?rn) ?_
        · skip
          have q1 : Lr V2 gz 0 1 ∧ Lr V2 gz 0 1 := ⟨HI.out.z, HI.out.z⟩
          have X0 : Lr V2 (w.heap.size + 3) 0 0 := HI.out.i.x
          have Y0 : Lr V2 (w.heap.size + 4) 0 0 := HI.out.i.y
          have BL0 : Below w.heap.size w V2 := HI.out.i.bel
          have D0 : V2.heap[D]? = some (.deferred (some [])) := HK.out
          have fx0 := (two_cells X0).1
          have fx1 := (two_cells X0).2.1
          have fx2 := (two_cells X0).2.2.1
          have fx3 := (two_cells X0).2.2.2
          have fy0 := (two_cells Y0).1
          have fy1 := (two_cells Y0).2.1
          have fy2 := (two_cells Y0).2.2.1
          have fy3 := (two_cells Y0).2.2.2
          have ngz : gz ≠ w.heap.size + 3 ∧ gz ≠ w.heap.size + 4 ∧ gz ≠ w.heap.size + 3 ∧ gz ≠ w.heap.size + 4 := ⟨by omega, by omega, by omega, by omega⟩
          have NG := Lib.hid ngz
          clear ngz
          refine wp_region_held_drew (S := fun V => Lr V gz 0 1 ∧ Lr V gz 0 1) (by kernel_rfl) ⟨q1.1, q1.2⟩ fun HL_ => ?_
          refine wpAnyH_take (i := 0) (v := .agg #[.int .i64 0, .int .i64 1]) rfl (by kernel_rfl) (by kernel_rfl) (by kernel_rfl) (fun _ _ _ h => h) (Or.inl ⟨by kernel_rfl, ?_⟩) HL_ ?_
          · rintro Wl ⟨u1, u2⟩
            obtain ⟨s0, s1, -, -⟩ := two_cells u1
            obtain ⟨s2, s3, -, -⟩ := two_cells u2
            go_simp
          simp only [Act.put, List.getElem_toArray, List.getElem_cons_succ, List.getElem_cons_zero, List.setIfInBounds_toArray, List.set_cons_zero, List.set_cons_succ]
          refine wpAnyH_take (i := 1) (v := .agg #[.int .i64 0, .int .i64 1]) rfl (by kernel_rfl) (by kernel_rfl) (by kernel_rfl) (fun _ _ _ h => h) (Or.inl ⟨by kernel_rfl, ?_⟩) HL_ ?_
          · rintro Wl ⟨u1, u2⟩
            obtain ⟨s0, s1, -, -⟩ := two_cells u1
            obtain ⟨s2, s3, -, -⟩ := two_cells u2
            go_simp
          simp only [Act.put, List.getElem_toArray, List.getElem_cons_succ, List.getElem_cons_zero, List.setIfInBounds_toArray, List.set_cons_zero, List.set_cons_succ]
          refine wpAnyH_ready (rs := [2]) (by kernel_rfl) (by simp) ?_
          refine AllReadyH.cons (o := _) rfl (fun K hK => ?_) AllReadyH.nil
          go_simp
          refine hK.out _ _ ?_ fun HL_ => ?_
          · exact ⟨q1.1.far NG.out.1 _ _, q1.2.far NG.out.2.2.1 _ _⟩
          clear hK K
          refine wpAnyH_ready (rs := [3]) (by kernel_rfl) (by simp) ?_
          refine AllReadyH.cons (o := _) rfl (fun K hK => ?_) AllReadyH.nil
          go_simp
          refine hK.out _ _ ?_ fun HL_ => ?_
          · exact ⟨(q1.1.far NG.out.1 _ _).far NG.out.2.1 _ _, (q1.2.far NG.out.2.2.1 _ _).far NG.out.2.2.2 _ _⟩
          clear hK K
          refine wpAnyH_take (i := 4) (v := .bool false) rfl (by kernel_rfl) (by kernel_rfl) (by kernel_rfl) (fun _ _ _ h => h) (Or.inl ⟨by kernel_rfl, ?_⟩) HL_ ?_
          · rintro Wl ⟨u1, u2⟩
            obtain ⟨s0, s1, -, -⟩ := two_cells u1
            obtain ⟨s2, s3, -, -⟩ := two_cells u2
            go_simp
          simp only [Act.put, List.getElem_toArray, List.getElem_cons_succ, List.getElem_cons_zero, List.setIfInBounds_toArray, List.set_cons_zero, List.set_cons_succ]
          refine wpAnyH_take (i := 5) (v := .int .i64 0) rfl (by kernel_rfl) (by kernel_rfl) (by kernel_rfl) (fun _ _ _ h => h) (Or.inl ⟨by kernel_rfl, ?_⟩) HL_ ?_
          · rintro Wl ⟨u1, u2⟩
            obtain ⟨s0, s1, -, -⟩ := two_cells u1
            obtain ⟨s2, s3, -, -⟩ := two_cells u2
            go_simp
          simp only [Act.put, List.getElem_toArray, List.getElem_cons_succ, List.getElem_cons_zero, List.setIfInBounds_toArray, List.set_cons_zero, List.set_cons_succ]
          refine wpAnyH_done (by kernel_rfl) ?_ _
          refine ⟨rfl, (X0.put _ _).far (by omega) _ _, (Y0.far (by omega) _ _).put _ _, ?_, ?_⟩
          · exact ((((BL0.setCell (by simp) _).setCell (by simp) _).setCell (by simp) _).setCell (by simp) _).drew
          · exact (KeepsOthers.setCell _ _ _).same _ _ ((KeepsOthers.setCell _ _ _).same _ _ ((KeepsOthers.setCell _ _ _).same _ _ ((KeepsOthers.setCell _ _ _).same _ _ D0 rfl) rfl) rfl) rfl
        rintro e_ a_ V3 hp
        cases e_ with
        | normal =>
          obtain ⟨rfl, x1, x2, hbl, hD3⟩ := hp
          have y1 := blk_row x1 (grownBy_putObj' V3 D (.deferred none)) (row_one hD3 rfl)
          have y2 := blk_row x2 (grownBy_putObj' V3 D (.deferred none)) (row_one hD3 rfl)
          have z1 := two_cells y1
          have z2 := two_cells y2
          obtain ⟨z3, z4, -, -⟩ := z1
          obtain ⟨z5, z6, -, -⟩ := z2
          have HF := Lib.hid (show Below w.heap.size w (V3.putObj D (.deferred none)) from hbl.grown (grownBy_putObj' V3 D _) hbl.size (fun k e => by cases e; omega))
          clear x1 x2 y1 y2 hbl
          gi_wp2
          refine ⟨by simp, .inl ⟨_, _, rfl, run_takeDeferred hD3, ?_⟩⟩
          exact ⟨.tuple #[.agg #[.int .i64 0, .int .i64 1], .agg #[.int .i64 0, .int .i64 1], .bool false, .int .i64 0], by simp [results, Try.results84, go_sem, z3, z4, z5, z6], rfl, HF.out⟩
        | exit _ => exact hp.elim
        | goto _ => exact hp.elim
        | ret => exact hp.elim
        | panic _ => exact hp.elim
        | outgrown => exact hp.elim
    case stop =>
      rintro D k V hD hk hI hK
      exact hI.elim
  | exit _ => exact hp.elim
  | goto _ => exact hp.elim
  | ret => exact hp.elim
  | panic _ => exact hp.elim
  | outgrown => exact hp.elim
end Go.Proofs.Ytiffgcipdamngaa
