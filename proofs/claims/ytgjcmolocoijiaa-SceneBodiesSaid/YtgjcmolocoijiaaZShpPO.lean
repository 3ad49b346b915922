/-
  Package shape: Move.
-/
import Derived.Test.YtgjcmolocoijiaaZShpPG
import Derived.Test.YtgjcmolocoijiaaZShpPK
import Derived.Test.YtgjcmolocoijiaaZShpPS
import Derived.Laws.CopyRow
import Derived.Laws.CopyOwn
import Derived.Laws.MakeOwn
import Derived.StillTailTactics
import Derived.Deep.SlicePairs
namespace Go.Proofs.Ytgjcmolocoijiaa
open Go.RowKit Go.Sort
open Go.RowKit (Below)
set_option linter.unusedVariables false
set_option linter.unusedSimpArgs false

set_option maxRecDepth 100000 in
/-- A copy of pairs over the whole of a row. -/
theorem copy_two (w : World) (ty : TypeId) (g n C D : Nat) (a : Addr) (cur : Array Value) (t : TypeId) (cs : List Value)
    (hg : w.heap[g]? = some (.cells cur t (0, 0))) (hn : cs.length = n * 2) (hs : cur.size = n * 2) (hsrc : ∀ j u, cs[j]? = some u → w.cell? (a.add j) = some u) (h1 : ∀ u ∈ cs, u.oneCell' = true) :
    (Builtin.copy_ #[57, 57] ty #[.slice (some ⟨g, 0, none⟩) n C, .slice (some a) n D]).run Try.prog w = .ok (goInt n) (w.setRow g cs.toArray) := by
  have hl := run_loadCells_list (P := Try.prog) w a cs hsrc
  have hst := run_storeCells_at Try.prog g 0 t cs 0 cur w hg (by omega) h1
  rw [show (cur.toList.take (0 + 0) ++ cs ++ cur.toList.drop (0 + 0 + cs.length)).toArray = cs.toArray by
    rw [List.drop_of_length_le (by simp; omega)]; simp] at hst
  obtain ⟨i, hi, hsz⟩ : ∃ i, Try.prog.info? 67 = some i ∧ i.size = 2 := ⟨_, rfl, rfl⟩
  rw [hn] at hl
  simp [Builtin.copy_, run_underlying Try.underlying57, Builtin.lenOf, Builtin.firstCells, sizeOf, typeInfo, hi, hsz, hl, hst]
def zc (n : Nat) : Array Value := madeCells #[.int .i64 0, .int .i64 0] (n * 2)
theorem zc_size (n : Nat) : (zc n).size = n * 2 := size_madeCells _ _
set_option maxRecDepth 100000 in
theorem mk_two (n : Nat) (hn : n ≤ 1000) (w : World) : (Instr.makeSlice 57 (.int .i64 n) (.int .i64 n)).run Try.prog w = .ok (.slice (some ⟨w.heap.size, 0, none⟩) n n) (w.alloc (.cells (zc n) 67)) := by
  obtain ⟨i, hi, hsz, hz, hb⟩ : ∃ i, Try.prog.info? 67 = some i ∧ i.size = 2 ∧ i.zero = some (.agg #[.int .i64 0, .int .i64 0]) ∧ i.bytes = 16 := ⟨_, rfl, rfl, rfl, rfl⟩
  have hr := run_make (P := Try.prog) w 57 67 i _ Try.underlying57 hi hz .i64 .i64 n n (by omega) (Int.le_refl _) (by rw [hb]; omega) (by omega)
  rw [hsz] at hr
  simp only [Int.toNat_natCast] at hr
  exact hr
set_option maxRecDepth 100000 in
set_option maxHeartbeats 2000000 in
theorem pm_1 (A : Option Addr) (C : Nat) (xs : List (Int × Int)) (lo hi x y z : Int) (hlx : xs.length ≤ 9223372036854775806) (hra : false = true ↔ Bok xs lo hi) (w : World) (hl : SlS w A xs) :
    Calls Try.prog 55 #[.agg #[.slice A xs.length C, .int .i64 lo, .int .i64 hi], .agg #[.int .i64 x, .int .i64 y, .int .i64 z]] w fun e_ w' => e_ = .returned (.tuple #[.agg #[.slice none 0 0, .int .i64 0, .int .i64 0], .int .i64 1]) ∧ Below w.heap.size w w' := by
  have CA := Lib.hid (fun W (h : SlS W A xs) => pvalid_is A C xs lo hi hlx false hra W h)
  clear hra
  have HL := Lib.hid hl
  clear hl
  have p0 : World.cell? (((w.alloc (.cells #[.slice A xs.length C, .int .i64 lo, .int .i64 hi] 59)).alloc (.cells #[.int .i64 x, .int .i64 y, .int .i64 z] 27)).alloc (.cells #[.slice none 0 0, .int .i64 0, .int .i64 0] 59)) ⟨w.heap.size, 0, none⟩ = some (.slice A xs.length C) := by simp [go_sem]
  have p1 : World.cell? (((w.alloc (.cells #[.slice A xs.length C, .int .i64 lo, .int .i64 hi] 59)).alloc (.cells #[.int .i64 x, .int .i64 y, .int .i64 z] 27)).alloc (.cells #[.slice none 0 0, .int .i64 0, .int .i64 0] 59)) ⟨w.heap.size, 1, none⟩ = some (.int .i64 lo) := by simp [go_sem]
  have p2 : World.cell? (((w.alloc (.cells #[.slice A xs.length C, .int .i64 lo, .int .i64 hi] 59)).alloc (.cells #[.int .i64 x, .int .i64 y, .int .i64 z] 27)).alloc (.cells #[.slice none 0 0, .int .i64 0, .int .i64 0] 59)) ⟨w.heap.size, 2, none⟩ = some (.int .i64 hi) := by simp [go_sem]
  have lp : w.heap.size < (((w.alloc (.cells #[.slice A xs.length C, .int .i64 lo, .int .i64 hi] 59)).alloc (.cells #[.int .i64 x, .int .i64 y, .int .i64 z] 27)).alloc (.cells #[.slice none 0 0, .int .i64 0, .int .i64 0] 59)).heap.size := by simp <;> omega
  have q0 : World.cell? (((w.alloc (.cells #[.slice A xs.length C, .int .i64 lo, .int .i64 hi] 59)).alloc (.cells #[.int .i64 x, .int .i64 y, .int .i64 z] 27)).alloc (.cells #[.slice none 0 0, .int .i64 0, .int .i64 0] 59)) ⟨w.heap.size + 1, 0, none⟩ = some (.int .i64 x) := by simp [go_sem]
  have q1 : World.cell? (((w.alloc (.cells #[.slice A xs.length C, .int .i64 lo, .int .i64 hi] 59)).alloc (.cells #[.int .i64 x, .int .i64 y, .int .i64 z] 27)).alloc (.cells #[.slice none 0 0, .int .i64 0, .int .i64 0] 59)) ⟨w.heap.size + 1, 1, none⟩ = some (.int .i64 y) := by simp [go_sem]
  have q2 : World.cell? (((w.alloc (.cells #[.slice A xs.length C, .int .i64 lo, .int .i64 hi] 59)).alloc (.cells #[.int .i64 x, .int .i64 y, .int .i64 z] 27)).alloc (.cells #[.slice none 0 0, .int .i64 0, .int .i64 0] 59)) ⟨w.heap.size + 1, 2, none⟩ = some (.int .i64 z) := by simp [go_sem]
  have lq : w.heap.size + 1 < (((w.alloc (.cells #[.slice A xs.length C, .int .i64 lo, .int .i64 hi] 59)).alloc (.cells #[.int .i64 x, .int .i64 y, .int .i64 z] 27)).alloc (.cells #[.slice none 0 0, .int .i64 0, .int .i64 0] 59)).heap.size := by simp <;> omega
  have u0 : World.cell? (((w.alloc (.cells #[.slice A xs.length C, .int .i64 lo, .int .i64 hi] 59)).alloc (.cells #[.int .i64 x, .int .i64 y, .int .i64 z] 27)).alloc (.cells #[.slice none 0 0, .int .i64 0, .int .i64 0] 59)) ⟨w.heap.size + 1 + 1, 0, none⟩ = some (.slice none 0 0) := by simp [go_sem]
  have fu0 : World.frozen? (((w.alloc (.cells #[.slice A xs.length C, .int .i64 lo, .int .i64 hi] 59)).alloc (.cells #[.int .i64 x, .int .i64 y, .int .i64 z] 27)).alloc (.cells #[.slice none 0 0, .int .i64 0, .int .i64 0] 59)) ⟨w.heap.size + 1 + 1, 0, none⟩ = false := by simp [go_sem]
  have u1 : World.cell? (((w.alloc (.cells #[.slice A xs.length C, .int .i64 lo, .int .i64 hi] 59)).alloc (.cells #[.int .i64 x, .int .i64 y, .int .i64 z] 27)).alloc (.cells #[.slice none 0 0, .int .i64 0, .int .i64 0] 59)) ⟨w.heap.size + 1 + 1, 1, none⟩ = some (.int .i64 0) := by simp [go_sem]
  have fu1 : World.frozen? (((w.alloc (.cells #[.slice A xs.length C, .int .i64 lo, .int .i64 hi] 59)).alloc (.cells #[.int .i64 x, .int .i64 y, .int .i64 z] 27)).alloc (.cells #[.slice none 0 0, .int .i64 0, .int .i64 0] 59)) ⟨w.heap.size + 1 + 1, 1, none⟩ = false := by simp [go_sem]
  have u2 : World.cell? (((w.alloc (.cells #[.slice A xs.length C, .int .i64 lo, .int .i64 hi] 59)).alloc (.cells #[.int .i64 x, .int .i64 y, .int .i64 z] 27)).alloc (.cells #[.slice none 0 0, .int .i64 0, .int .i64 0] 59)) ⟨w.heap.size + 1 + 1, 2, none⟩ = some (.int .i64 0) := by simp [go_sem]
  have fu2 : World.frozen? (((w.alloc (.cells #[.slice A xs.length C, .int .i64 lo, .int .i64 hi] 59)).alloc (.cells #[.int .i64 x, .int .i64 y, .int .i64 z] 27)).alloc (.cells #[.slice none 0 0, .int .i64 0, .int .i64 0] 59)) ⟨w.heap.size + 1 + 1, 2, none⟩ = false := by simp [go_sem]
  have lu : w.heap.size + 1 + 1 < (((w.alloc (.cells #[.slice A xs.length C, .int .i64 lo, .int .i64 hi] 59)).alloc (.cells #[.int .i64 x, .int .i64 y, .int .i64 z] 27)).alloc (.cells #[.slice none 0 0, .int .i64 0, .int .i64 0] 59)).heap.size := by simp <;> omega
  have HB := Lib.hid (show Below w.heap.size w (((w.alloc (.cells #[.slice A xs.length C, .int .i64 lo, .int .i64 hi] 59)).alloc (.cells #[.int .i64 x, .int .i64 y, .int .i64 z] 27)).alloc (.cells #[.slice none 0 0, .int .i64 0, .int .i64 0] 59)) from ((((Below.refl _ _).alloc (by simp <;> omega) _).alloc (by simp <;> omega) _).alloc (by simp <;> omega) _))
  go_enter Try.func55, Try.ntmps55
  go_upto_region 1 with fail
  generalize ((w.alloc (.cells #[.slice A xs.length C, .int .i64 lo, .int .i64 hi] 59)).alloc (.cells #[.int .i64 x, .int .i64 y, .int .i64 z] 27)).alloc (.cells #[.slice none 0 0, .int .i64 0, .int .i64 0] 59) = w1 at *
  replace HL := Lib.hid (HL.out.below HB.out)
  go_wp2_with fail
  with_reducible refine (CA.out _ HL.out).mono ?_
  rintro e_ w2 ⟨rfl, hb⟩
  replace HB := Lib.hid (on_below HB.out hb)
  replace HL := Lib.hid (HL.out.below hb)
  replace p0 := keepc hb p0
  replace p1 := keepc hb p1
  replace p2 := keepc hb p2
  replace q0 := keepc hb q0
  replace q1 := keepc hb q1
  replace q2 := keepc hb q2
  replace u0 := keepc hb u0
  replace u1 := keepc hb u1
  replace u2 := keepc hb u2
  replace fu0 := keepf hb lu fu0
  replace fu1 := keepf hb lu fu1
  replace fu2 := keepf hb lu fu2
  replace lp := Nat.lt_of_lt_of_le lp hb.size
  replace lq := Nat.lt_of_lt_of_le lq hb.size
  replace lu := Nat.lt_of_lt_of_le lu hb.size
  clear hb
  go_wp2_with fail
  refine bodyPost_ret (v := .tuple #[.agg #[.slice none 0 0, .int .i64 0, .int .i64 0], .int .i64 1]) (by simp [results, Try.results55, go_sem, u0, u1, u2]) rfl ⟨rfl, ?_⟩
  (repeat (refine Below.setCell ?_ (by simp <;> omega) _))
  exact HB.out
set_option maxRecDepth 100000 in
set_option maxHeartbeats 2000000 in
theorem pm_2 (A : Option Addr) (C : Nat) (xs : List (Int × Int)) (lo hi x y z : Int) (hlx : xs.length ≤ 9223372036854775806) (hra : true = true ↔ Bok xs lo hi) (hv : vv x y z = false) (w : World) (hl : SlS w A xs) :
    Calls Try.prog 55 #[.agg #[.slice A xs.length C, .int .i64 lo, .int .i64 hi], .agg #[.int .i64 x, .int .i64 y, .int .i64 z]] w fun e_ w' => e_ = .returned (.tuple #[.agg #[.slice none 0 0, .int .i64 0, .int .i64 0], .int .i64 1]) ∧ Below w.heap.size w w' := by
  have CA := Lib.hid (fun W (h : SlS W A xs) => pvalid_is A C xs lo hi hlx true hra W h)
  clear hra
  have HL := Lib.hid hl
  clear hl
  have p0 : World.cell? (((w.alloc (.cells #[.slice A xs.length C, .int .i64 lo, .int .i64 hi] 59)).alloc (.cells #[.int .i64 x, .int .i64 y, .int .i64 z] 27)).alloc (.cells #[.slice none 0 0, .int .i64 0, .int .i64 0] 59)) ⟨w.heap.size, 0, none⟩ = some (.slice A xs.length C) := by simp [go_sem]
  have p1 : World.cell? (((w.alloc (.cells #[.slice A xs.length C, .int .i64 lo, .int .i64 hi] 59)).alloc (.cells #[.int .i64 x, .int .i64 y, .int .i64 z] 27)).alloc (.cells #[.slice none 0 0, .int .i64 0, .int .i64 0] 59)) ⟨w.heap.size, 1, none⟩ = some (.int .i64 lo) := by simp [go_sem]
  have p2 : World.cell? (((w.alloc (.cells #[.slice A xs.length C, .int .i64 lo, .int .i64 hi] 59)).alloc (.cells #[.int .i64 x, .int .i64 y, .int .i64 z] 27)).alloc (.cells #[.slice none 0 0, .int .i64 0, .int .i64 0] 59)) ⟨w.heap.size, 2, none⟩ = some (.int .i64 hi) := by simp [go_sem]
  have lp : w.heap.size < (((w.alloc (.cells #[.slice A xs.length C, .int .i64 lo, .int .i64 hi] 59)).alloc (.cells #[.int .i64 x, .int .i64 y, .int .i64 z] 27)).alloc (.cells #[.slice none 0 0, .int .i64 0, .int .i64 0] 59)).heap.size := by simp <;> omega
  have q0 : World.cell? (((w.alloc (.cells #[.slice A xs.length C, .int .i64 lo, .int .i64 hi] 59)).alloc (.cells #[.int .i64 x, .int .i64 y, .int .i64 z] 27)).alloc (.cells #[.slice none 0 0, .int .i64 0, .int .i64 0] 59)) ⟨w.heap.size + 1, 0, none⟩ = some (.int .i64 x) := by simp [go_sem]
  have q1 : World.cell? (((w.alloc (.cells #[.slice A xs.length C, .int .i64 lo, .int .i64 hi] 59)).alloc (.cells #[.int .i64 x, .int .i64 y, .int .i64 z] 27)).alloc (.cells #[.slice none 0 0, .int .i64 0, .int .i64 0] 59)) ⟨w.heap.size + 1, 1, none⟩ = some (.int .i64 y) := by simp [go_sem]
  have q2 : World.cell? (((w.alloc (.cells #[.slice A xs.length C, .int .i64 lo, .int .i64 hi] 59)).alloc (.cells #[.int .i64 x, .int .i64 y, .int .i64 z] 27)).alloc (.cells #[.slice none 0 0, .int .i64 0, .int .i64 0] 59)) ⟨w.heap.size + 1, 2, none⟩ = some (.int .i64 z) := by simp [go_sem]
  have lq : w.heap.size + 1 < (((w.alloc (.cells #[.slice A xs.length C, .int .i64 lo, .int .i64 hi] 59)).alloc (.cells #[.int .i64 x, .int .i64 y, .int .i64 z] 27)).alloc (.cells #[.slice none 0 0, .int .i64 0, .int .i64 0] 59)).heap.size := by simp <;> omega
  have u0 : World.cell? (((w.alloc (.cells #[.slice A xs.length C, .int .i64 lo, .int .i64 hi] 59)).alloc (.cells #[.int .i64 x, .int .i64 y, .int .i64 z] 27)).alloc (.cells #[.slice none 0 0, .int .i64 0, .int .i64 0] 59)) ⟨w.heap.size + 1 + 1, 0, none⟩ = some (.slice none 0 0) := by simp [go_sem]
  have fu0 : World.frozen? (((w.alloc (.cells #[.slice A xs.length C, .int .i64 lo, .int .i64 hi] 59)).alloc (.cells #[.int .i64 x, .int .i64 y, .int .i64 z] 27)).alloc (.cells #[.slice none 0 0, .int .i64 0, .int .i64 0] 59)) ⟨w.heap.size + 1 + 1, 0, none⟩ = false := by simp [go_sem]
  have u1 : World.cell? (((w.alloc (.cells #[.slice A xs.length C, .int .i64 lo, .int .i64 hi] 59)).alloc (.cells #[.int .i64 x, .int .i64 y, .int .i64 z] 27)).alloc (.cells #[.slice none 0 0, .int .i64 0, .int .i64 0] 59)) ⟨w.heap.size + 1 + 1, 1, none⟩ = some (.int .i64 0) := by simp [go_sem]
  have fu1 : World.frozen? (((w.alloc (.cells #[.slice A xs.length C, .int .i64 lo, .int .i64 hi] 59)).alloc (.cells #[.int .i64 x, .int .i64 y, .int .i64 z] 27)).alloc (.cells #[.slice none 0 0, .int .i64 0, .int .i64 0] 59)) ⟨w.heap.size + 1 + 1, 1, none⟩ = false := by simp [go_sem]
  have u2 : World.cell? (((w.alloc (.cells #[.slice A xs.length C, .int .i64 lo, .int .i64 hi] 59)).alloc (.cells #[.int .i64 x, .int .i64 y, .int .i64 z] 27)).alloc (.cells #[.slice none 0 0, .int .i64 0, .int .i64 0] 59)) ⟨w.heap.size + 1 + 1, 2, none⟩ = some (.int .i64 0) := by simp [go_sem]
  have fu2 : World.frozen? (((w.alloc (.cells #[.slice A xs.length C, .int .i64 lo, .int .i64 hi] 59)).alloc (.cells #[.int .i64 x, .int .i64 y, .int .i64 z] 27)).alloc (.cells #[.slice none 0 0, .int .i64 0, .int .i64 0] 59)) ⟨w.heap.size + 1 + 1, 2, none⟩ = false := by simp [go_sem]
  have lu : w.heap.size + 1 + 1 < (((w.alloc (.cells #[.slice A xs.length C, .int .i64 lo, .int .i64 hi] 59)).alloc (.cells #[.int .i64 x, .int .i64 y, .int .i64 z] 27)).alloc (.cells #[.slice none 0 0, .int .i64 0, .int .i64 0] 59)).heap.size := by simp <;> omega
  have HB := Lib.hid (show Below w.heap.size w (((w.alloc (.cells #[.slice A xs.length C, .int .i64 lo, .int .i64 hi] 59)).alloc (.cells #[.int .i64 x, .int .i64 y, .int .i64 z] 27)).alloc (.cells #[.slice none 0 0, .int .i64 0, .int .i64 0] 59)) from ((((Below.refl _ _).alloc (by simp <;> omega) _).alloc (by simp <;> omega) _).alloc (by simp <;> omega) _))
  go_enter Try.func55, Try.ntmps55
  go_upto_region 1 with fail
  generalize ((w.alloc (.cells #[.slice A xs.length C, .int .i64 lo, .int .i64 hi] 59)).alloc (.cells #[.int .i64 x, .int .i64 y, .int .i64 z] 27)).alloc (.cells #[.slice none 0 0, .int .i64 0, .int .i64 0] 59) = w1 at *
  replace HL := Lib.hid (HL.out.below HB.out)
  go_wp2_with fail
  with_reducible refine (CA.out _ HL.out).mono ?_
  rintro e_ w2 ⟨rfl, hb⟩
  replace HB := Lib.hid (on_below HB.out hb)
  replace HL := Lib.hid (HL.out.below hb)
  replace p0 := keepc hb p0
  replace p1 := keepc hb p1
  replace p2 := keepc hb p2
  replace q0 := keepc hb q0
  replace q1 := keepc hb q1
  replace q2 := keepc hb q2
  replace u0 := keepc hb u0
  replace u1 := keepc hb u1
  replace u2 := keepc hb u2
  replace fu0 := keepf hb lu fu0
  replace fu1 := keepf hb lu fu1
  replace fu2 := keepf hb lu fu2
  replace lp := Nat.lt_of_lt_of_le lp hb.size
  replace lq := Nat.lt_of_lt_of_le lq hb.size
  replace lu := Nat.lt_of_lt_of_le lu hb.size
  clear hb
  go_wp2_with fail
  with_reducible refine (vvalid_is x y z false hv _).mono ?_
  rintro e_ w3 ⟨rfl, hb⟩
  replace HB := Lib.hid (on_below HB.out hb)
  replace HL := Lib.hid (HL.out.below hb)
  replace p0 := keepc hb p0
  replace p1 := keepc hb p1
  replace p2 := keepc hb p2
  replace q0 := keepc hb q0
  replace q1 := keepc hb q1
  replace q2 := keepc hb q2
  replace u0 := keepc hb u0
  replace u1 := keepc hb u1
  replace u2 := keepc hb u2
  replace fu0 := keepf hb lu fu0
  replace fu1 := keepf hb lu fu1
  replace fu2 := keepf hb lu fu2
  replace lp := Nat.lt_of_lt_of_le lp hb.size
  replace lq := Nat.lt_of_lt_of_le lq hb.size
  replace lu := Nat.lt_of_lt_of_le lu hb.size
  clear hb
  go_wp2_with fail
  refine bodyPost_ret (v := .tuple #[.agg #[.slice none 0 0, .int .i64 0, .int .i64 0], .int .i64 1]) (by simp [results, Try.results55, go_sem, u0, u1, u2]) rfl ⟨rfl, ?_⟩
  (repeat (refine Below.setCell ?_ (by simp <;> omega) _))
  exact HB.out
theorem flatV_cons (s : Int × Int) (r : List (Int × Int)) : flatV (s :: r) = .int .i64 s.1 :: .int .i64 s.2 :: flatV r := by simp [flatV]
theorem flatV_set0 : ∀ (L : List (Int × Int)) (k : Nat) (X : Int), k < L.length → (flatV L).set (k * 2) (.int .i64 X) = flatV (L.set k (X, (gdS L k).2))
  | [], _, _, h => absurd h (Nat.not_lt_zero _)
  | s :: r, 0, X, _ => by simp [flatV_cons, gdS]
  | s :: r, k + 1, X, h => by
    have ih := flatV_set0 r k X (by simpa using h)
    have g : gdS (s :: r) (k + 1) = gdS r k := by simp [gdS]
    rw [flatV_cons, show (k + 1) * 2 = k * 2 + 1 + 1 by omega, List.set_cons_succ, List.set_cons_succ, ih, g, List.set_cons_succ, flatV_cons]
theorem flatV_set1 : ∀ (L : List (Int × Int)) (k : Nat) (Y : Int), k < L.length → (flatV L).set (k * 2 + 1) (.int .i64 Y) = flatV (L.set k ((gdS L k).1, Y))
  | [], _, _, h => absurd h (Nat.not_lt_zero _)
  | s :: r, 0, Y, _ => by simp [flatV_cons, gdS]
  | s :: r, k + 1, Y, h => by
    have ih := flatV_set1 r k Y (by simpa using h)
    have g : gdS (s :: r) (k + 1) = gdS r k := by simp [gdS]
    rw [flatV_cons, show (k + 1) * 2 + 1 = k * 2 + 1 + 1 + 1 by omega, List.set_cons_succ, List.set_cons_succ, ih, g, List.set_cons_succ, flatV_cons]
theorem gdS_set {L : List (Int × Int)} {k j : Nat} {p : Int × Int} (hk : k < L.length) : gdS (L.set k p) j = if j = k then p else gdS L j := by
  unfold gdS
  rw [List.getD_eq_getElem?_getD, List.getD_eq_getElem?_getD, List.getElem?_set]
  by_cases e : j = k
  · subst e; simp [hk]
  · rw [if_neg (fun h => e h.symm), if_neg e]
/-- The corners when k of them have been moved. -/
def mvk (xs : List (Int × Int)) (x y : Int) : Nat → List (Int × Int)
  | 0 => xs
  | k + 1 => (mvk xs x y k).set k ((gdS (mvk xs x y k) k).1 + x, (gdS (mvk xs x y k) k).2 + y)
theorem mvk_len (xs : List (Int × Int)) (x y : Int) : ∀ k, (mvk xs x y k).length = xs.length
  | 0 => rfl
  | k + 1 => by show ((mvk xs x y k).set k _).length = _; rw [List.length_set, mvk_len xs x y k]
theorem mvk_at {xs : List (Int × Int)} {x y : Int} {j : Nat} : ∀ k, k ≤ xs.length → gdS (mvk xs x y k) j = if j < k then ((gdS xs j).1 + x, (gdS xs j).2 + y) else gdS xs j
  | 0, _ => by rw [if_neg (Nat.not_lt_zero j)]; rfl
  | k + 1, hk => by
    have ih := mvk_at (xs := xs) (x := x) (y := y) (j := j) k (by omega)
    have ik := mvk_at (xs := xs) (x := x) (y := y) (j := k) k (by omega)
    rw [if_neg (Nat.lt_irrefl k)] at ik
    show gdS ((mvk xs x y k).set k _) j = _
    rw [gdS_set (by rw [mvk_len]; omega), ik, ih]
    by_cases e : j = k
    · subst e; rw [if_pos rfl, if_pos (Nat.lt_succ_self j)]
    · rw [if_neg e]
      by_cases l : j < k
      · rw [if_pos l, if_pos (by omega)]
      · rw [if_neg l, if_neg (by omega)]
theorem mvk_end (xs : List (Int × Int)) (x y : Int) : mvk xs x y xs.length = mv xs x y := by
  apply List.ext_getElem (by rw [mvk_len, mv_len])
  intro i h1 h2
  have h3 : i < xs.length := by rw [mvk_len] at h1; exact h1
  rw [← gdS_at h1, mvk_at _ (Nat.le_refl _), if_pos h3, gdS_at h3]
  simp [mv]
/-- Move's blocks: by, the result, the corners, the body that is moved. -/
structure Mo (g gb gt n : Nat) (x y z l h : Int) (w0 : World) (L : List (Int × Int)) (W : World) : Prop where
  q0 : W.cell? ⟨g + 1, 0, none⟩ = some (.int .i64 x)
  q1 : W.cell? ⟨g + 1, 1, none⟩ = some (.int .i64 y)
  u0 : W.cell? ⟨g + 1 + 1, 0, none⟩ = some (.slice none 0 0)
  u1 : W.cell? ⟨g + 1 + 1, 1, none⟩ = some (.int .i64 0)
  u2 : W.cell? ⟨g + 1 + 1, 2, none⟩ = some (.int .i64 0)
  f0 : W.frozen? ⟨g + 1 + 1, 0, none⟩ = false
  f1 : W.frozen? ⟨g + 1 + 1, 1, none⟩ = false
  f2 : W.frozen? ⟨g + 1 + 1, 2, none⟩ = false
  b : W.heap[gb]? = some (.cells (flatV L).toArray 67 (0, 0))
  t : W.heap[gt]? = some (.cells #[.slice (some ⟨gb, 0, none⟩) n n, .int .i64 l, .int .i64 h] 59 (0, 0))
  bel : Below w0.heap.size w0 W
section
variable {g gb gt n : Nat} {x y z l h : Int} {w0 W W' : World} {L L' : List (Int × Int)}
theorem Mo.at (m : Mo g gb gt n x y z l h w0 L W) (h0 : w0.heap.size ≤ gb) (h1 : g + 1 ≠ gb) (h2 : g + 1 + 1 ≠ gb) (h3 : gt ≠ gb) (i : Nat) (u : Value) (e : ((flatV L).toArray.setIfInBounds i u) = (flatV L').toArray) : Mo g gb gt n x y z l h w0 L' (W.setCell ⟨gb, i, none⟩ u) := by
  have s1 : (W.setCell ⟨gb, i, none⟩ u).heap[g + 1]? = W.heap[g + 1]? := Below.heap_setCell W ⟨gb, i, none⟩ u _ h1
  have s2 : (W.setCell ⟨gb, i, none⟩ u).heap[g + 1 + 1]? = W.heap[g + 1 + 1]? := Below.heap_setCell W ⟨gb, i, none⟩ u _ h2
  refine ⟨?_, ?_, ?_, ?_, ?_, ?_, ?_, ?_, ?_, ?_, m.bel.setCell h0 _⟩
  · rw [World.cell?_of_block (a := ⟨g + 1, 0, none⟩) s1]; exact m.q0
  · rw [World.cell?_of_block (a := ⟨g + 1, 1, none⟩) s1]; exact m.q1
  · rw [World.cell?_of_block (a := ⟨g + 1 + 1, 0, none⟩) s2]; exact m.u0
  · rw [World.cell?_of_block (a := ⟨g + 1 + 1, 1, none⟩) s2]; exact m.u1
  · rw [World.cell?_of_block (a := ⟨g + 1 + 1, 2, none⟩) s2]; exact m.u2
  · rw [World.frozen?_of_block (a := ⟨g + 1 + 1, 0, none⟩) s2]; exact m.f0
  · rw [World.frozen?_of_block (a := ⟨g + 1 + 1, 1, none⟩) s2]; exact m.f1
  · rw [World.frozen?_of_block (a := ⟨g + 1 + 1, 2, none⟩) s2]; exact m.f2
  · rw [set_cells m.b, e]
  · rw [Below.heap_setCell W ⟨gb, i, none⟩ u _ h3]; exact m.t
theorem Mo.setx (m : Mo g gb gt n x y z l h w0 L W) (h0 : w0.heap.size ≤ gb) (h1 : g + 1 ≠ gb) (h2 : g + 1 + 1 ≠ gb) (h3 : gt ≠ gb) {k : Nat} (hk : k < L.length) (X : Int) : Mo g gb gt n x y z l h w0 (L.set k (X, (gdS L k).2)) (W.setCell ⟨gb, k * 2, none⟩ (.int .i64 X)) :=
  m.at h0 h1 h2 h3 _ _ (by rw [List.setIfInBounds_toArray, flatV_set0 L k X hk])
theorem Mo.sety (m : Mo g gb gt n x y z l h w0 L W) (h0 : w0.heap.size ≤ gb) (h1 : g + 1 ≠ gb) (h2 : g + 1 + 1 ≠ gb) (h3 : gt ≠ gb) {k : Nat} (hk : k < L.length) (Y : Int) : Mo g gb gt n x y z l h w0 (L.set k ((gdS L k).1, Y)) (W.setCell ⟨gb, k * 2 + 1, none⟩ (.int .i64 Y)) :=
  m.at h0 h1 h2 h3 _ _ (by rw [List.setIfInBounds_toArray, flatV_set1 L k Y hk])
theorem Mo.sl (m : Mo g gb gt n x y z l h w0 L W) : SlS W (some ⟨gb, 0, none⟩) L := fun k hk => by
  obtain ⟨e1, e2⟩ := flatV_at hk
  exact ⟨gb, 0, rfl, by simp [World.cell?, m.b, e1], by simp [World.cell?, m.b, e2]⟩
theorem Mo.fz (m : Mo g gb gt n x y z l h w0 L W) (i : Nat) : W.frozen? ⟨gb, i, none⟩ = false := by simp [World.frozen?, m.b]
theorem Mo.drew (m : Mo g gb gt n x y z l h w0 L W) : Mo g gb gt n x y z l h w0 L W.drew := ⟨m.q0, m.q1, m.u0, m.u1, m.u2, m.f0, m.f1, m.f2, m.b, m.t, m.bel.drew⟩
end
/-- A slice's pairs as a list of cells. -/
theorem slS_cells {w : World} {b o : Nat} {xs : List (Int × Int)} (h : SlS w (some ⟨b, o, none⟩) xs) (j : Nat) (u : Value) (hu : (flatV xs)[j]? = some u) : w.cell? ((⟨b, o, none⟩ : Addr).add j) = some u := by
  have hj : j < xs.length * 2 := by rw [← flatV_len]; exact (List.getElem?_eq_some_iff.1 hu).1
  have hk : j / 2 < xs.length := by omega
  obtain ⟨c1, c2⟩ := sl_two h hk
  obtain ⟨e1, e2⟩ := flatV_at hk
  have ea : (⟨b, o, none⟩ : Addr).add j = ⟨b, o + j, none⟩ := add_plain b o j
  rw [ea]
  by_cases p : j % 2 = 0
  · have e : j = j / 2 * 2 := by omega
    rw [← e] at e1 c1
    rw [e1] at hu
    rw [c1, hu]
  · have e : j = j / 2 * 2 + 1 := by omega
    rw [← e] at e2
    rw [show o + j / 2 * 2 + 1 = o + j by omega] at c2
    rw [e2] at hu
    rw [c2, hu]
theorem flat_one (xs : List (Int × Int)) : ∀ u ∈ flatV xs, u.oneCell' = true := by
  intro u hu
  unfold flatV at hu
  obtain ⟨s, _, h⟩ := List.mem_flatMap.1 hu
  simp only [List.mem_cons, List.not_mem_nil, or_false] at h
  rcases h with rfl | rfl <;> rfl
theorem slS_of_cells {W : World} {g : Nat} {L : List (Int × Int)} (h : W.heap[g]? = some (.cells (flatV L).toArray 67 (0, 0))) : SlS W (some ⟨g, 0, none⟩) L := fun k hk => by
  obtain ⟨e1, e2⟩ := flatV_at hk
  exact ⟨g, 0, rfl, by simp [World.cell?, h, e1], by simp [World.cell?, h, e2]⟩
theorem blk_keep {W W' : World} {b : Nat} {o : Obj} (h : W.heap[b]? = some o) (hb : Below W.heap.size W W') : W'.heap[b]? = some o := by rw [hb.block b (Array.getElem?_eq_some_iff.1 h).1]; exact h
theorem wrp1 {e : Int} (h : -9000 ≤ e ∧ e ≤ 9000) : IntKind.i64.wrap e = e := IntWalk.i64_in _ ⟨by omega, by omega⟩
theorem wrp2 {e : Int} (h : -9000 ≤ e ∧ e ≤ 9000) : wrap64 e = e := IntWalk.wrap64_in _ ⟨by omega, by omega⟩
/-- Behind the making of the body that is moved. -/
def Mk3 (T : Nat → Nat → Array Value) (n : Nat) (l h : Int) (w1 : World) : Exit → Act → World → Prop
  | .normal, a, V => ∃ gb gt, a = { tmps := T gb gt, defers := [] } ∧ gt ≠ gb ∧ w1.heap.size ≤ gb ∧ w1.heap.size ≤ gt ∧ V.heap[gb]? = some (.cells (zc n) 67 (0, 0)) ∧ V.heap[gt]? = some (.cells #[.slice (some ⟨gb, 0, none⟩) n n, .int .i64 l, .int .i64 h] 59 (0, 0)) ∧ Below w1.heap.size w1 V
  | _, _, _ => False
theorem new2 (W : World) (o0 o1 : Obj) : ((W.alloc o0).alloc o1).heap[W.heap.size]? = some o0 ∧ ((W.alloc o0).alloc o1).heap[W.heap.size + 1]? = some o1 ∧ Below W.heap.size W ((W.alloc o0).alloc o1) := by
  refine ⟨(Below.heap_alloc _ _ _ (by simp)).trans (World.alloc_heap_new W _), ?_, ((Below.refl _ W).alloc (Nat.le_refl _) _).alloc (by simp) _⟩
  have := World.alloc_heap_new (W.alloc o0) o1; rwa [World.size_alloc] at this
/-- What Move answers for a valid body and vector. -/
def PmQ (r : Bool) (xs : List (Int × Int)) (x y l h : Int) (w : World) (e_ : Ending) (w' : World) : Prop :=
  (r = true → ∃ g C, e_ = .returned (.tuple #[.agg #[.slice (some ⟨g, 0, none⟩) xs.length C, .int .i64 l, .int .i64 h], .int .i64 0]) ∧ xs.length ≤ C ∧ C ≤ 9223372036854775807 ∧ SlS w' (some ⟨g, 0, none⟩) (mv xs x y)) ∧
  (r = false → e_ = .returned (.tuple #[.agg #[.slice none 0 0, .int .i64 0, .int .i64 0], .int .i64 3])) ∧ Below w.heap.size w w'
set_option maxRecDepth 100000 in
set_option maxHeartbeats 4000000 in
theorem pm_3 (b0 o0 C : Nat) (xs : List (Int × Int)) (lo hi x y z : Int) (hlx : xs.length ≤ 9223372036854775806) (hra : true = true ↔ Bok xs lo hi) (hv : vv x y z = true) (r : Bool) (hr : r = true ↔ Bok (mv xs x y) (lo + z) (hi + z)) (w : World) (hl : SlS w (some ⟨b0, o0, none⟩) xs) :
    Calls Try.prog 55 #[.agg #[.slice (some ⟨b0, o0, none⟩) xs.length C, .int .i64 lo, .int .i64 hi], .agg #[.int .i64 x, .int .i64 y, .int .i64 z]] w fun e_ w' => PmQ r xs x y (lo + z) (hi + z) w e_ w' := by
  have BA := Lib.hid (hra.1 rfl)
  have VA := Lib.hid (vv_iff.1 hv)
  have HR := Lib.hid hr
  clear hr
  have CA := Lib.hid (fun W (h : SlS W (some ⟨b0, o0, none⟩) xs) => pvalid_is (some ⟨b0, o0, none⟩) C xs lo hi hlx true hra W h)
  clear hra
  have HL := Lib.hid hl
  clear hl
  have p0 : World.cell? (((w.alloc (.cells #[.slice (some ⟨b0, o0, none⟩) xs.length C, .int .i64 lo, .int .i64 hi] 59)).alloc (.cells #[.int .i64 x, .int .i64 y, .int .i64 z] 27)).alloc (.cells #[.slice none 0 0, .int .i64 0, .int .i64 0] 59)) ⟨w.heap.size, 0, none⟩ = some (.slice (some ⟨b0, o0, none⟩) xs.length C) := by simp [go_sem]
  have p1 : World.cell? (((w.alloc (.cells #[.slice (some ⟨b0, o0, none⟩) xs.length C, .int .i64 lo, .int .i64 hi] 59)).alloc (.cells #[.int .i64 x, .int .i64 y, .int .i64 z] 27)).alloc (.cells #[.slice none 0 0, .int .i64 0, .int .i64 0] 59)) ⟨w.heap.size, 1, none⟩ = some (.int .i64 lo) := by simp [go_sem]
  have p2 : World.cell? (((w.alloc (.cells #[.slice (some ⟨b0, o0, none⟩) xs.length C, .int .i64 lo, .int .i64 hi] 59)).alloc (.cells #[.int .i64 x, .int .i64 y, .int .i64 z] 27)).alloc (.cells #[.slice none 0 0, .int .i64 0, .int .i64 0] 59)) ⟨w.heap.size, 2, none⟩ = some (.int .i64 hi) := by simp [go_sem]
  have lp : w.heap.size < (((w.alloc (.cells #[.slice (some ⟨b0, o0, none⟩) xs.length C, .int .i64 lo, .int .i64 hi] 59)).alloc (.cells #[.int .i64 x, .int .i64 y, .int .i64 z] 27)).alloc (.cells #[.slice none 0 0, .int .i64 0, .int .i64 0] 59)).heap.size := by simp <;> omega
  have q0 : World.cell? (((w.alloc (.cells #[.slice (some ⟨b0, o0, none⟩) xs.length C, .int .i64 lo, .int .i64 hi] 59)).alloc (.cells #[.int .i64 x, .int .i64 y, .int .i64 z] 27)).alloc (.cells #[.slice none 0 0, .int .i64 0, .int .i64 0] 59)) ⟨w.heap.size + 1, 0, none⟩ = some (.int .i64 x) := by simp [go_sem]
  have q1 : World.cell? (((w.alloc (.cells #[.slice (some ⟨b0, o0, none⟩) xs.length C, .int .i64 lo, .int .i64 hi] 59)).alloc (.cells #[.int .i64 x, .int .i64 y, .int .i64 z] 27)).alloc (.cells #[.slice none 0 0, .int .i64 0, .int .i64 0] 59)) ⟨w.heap.size + 1, 1, none⟩ = some (.int .i64 y) := by simp [go_sem]
  have q2 : World.cell? (((w.alloc (.cells #[.slice (some ⟨b0, o0, none⟩) xs.length C, .int .i64 lo, .int .i64 hi] 59)).alloc (.cells #[.int .i64 x, .int .i64 y, .int .i64 z] 27)).alloc (.cells #[.slice none 0 0, .int .i64 0, .int .i64 0] 59)) ⟨w.heap.size + 1, 2, none⟩ = some (.int .i64 z) := by simp [go_sem]
  have lq : w.heap.size + 1 < (((w.alloc (.cells #[.slice (some ⟨b0, o0, none⟩) xs.length C, .int .i64 lo, .int .i64 hi] 59)).alloc (.cells #[.int .i64 x, .int .i64 y, .int .i64 z] 27)).alloc (.cells #[.slice none 0 0, .int .i64 0, .int .i64 0] 59)).heap.size := by simp <;> omega
  have u0 : World.cell? (((w.alloc (.cells #[.slice (some ⟨b0, o0, none⟩) xs.length C, .int .i64 lo, .int .i64 hi] 59)).alloc (.cells #[.int .i64 x, .int .i64 y, .int .i64 z] 27)).alloc (.cells #[.slice none 0 0, .int .i64 0, .int .i64 0] 59)) ⟨w.heap.size + 1 + 1, 0, none⟩ = some (.slice none 0 0) := by simp [go_sem]
  have fu0 : World.frozen? (((w.alloc (.cells #[.slice (some ⟨b0, o0, none⟩) xs.length C, .int .i64 lo, .int .i64 hi] 59)).alloc (.cells #[.int .i64 x, .int .i64 y, .int .i64 z] 27)).alloc (.cells #[.slice none 0 0, .int .i64 0, .int .i64 0] 59)) ⟨w.heap.size + 1 + 1, 0, none⟩ = false := by simp [go_sem]
  have u1 : World.cell? (((w.alloc (.cells #[.slice (some ⟨b0, o0, none⟩) xs.length C, .int .i64 lo, .int .i64 hi] 59)).alloc (.cells #[.int .i64 x, .int .i64 y, .int .i64 z] 27)).alloc (.cells #[.slice none 0 0, .int .i64 0, .int .i64 0] 59)) ⟨w.heap.size + 1 + 1, 1, none⟩ = some (.int .i64 0) := by simp [go_sem]
  have fu1 : World.frozen? (((w.alloc (.cells #[.slice (some ⟨b0, o0, none⟩) xs.length C, .int .i64 lo, .int .i64 hi] 59)).alloc (.cells #[.int .i64 x, .int .i64 y, .int .i64 z] 27)).alloc (.cells #[.slice none 0 0, .int .i64 0, .int .i64 0] 59)) ⟨w.heap.size + 1 + 1, 1, none⟩ = false := by simp [go_sem]
  have u2 : World.cell? (((w.alloc (.cells #[.slice (some ⟨b0, o0, none⟩) xs.length C, .int .i64 lo, .int .i64 hi] 59)).alloc (.cells #[.int .i64 x, .int .i64 y, .int .i64 z] 27)).alloc (.cells #[.slice none 0 0, .int .i64 0, .int .i64 0] 59)) ⟨w.heap.size + 1 + 1, 2, none⟩ = some (.int .i64 0) := by simp [go_sem]
  have fu2 : World.frozen? (((w.alloc (.cells #[.slice (some ⟨b0, o0, none⟩) xs.length C, .int .i64 lo, .int .i64 hi] 59)).alloc (.cells #[.int .i64 x, .int .i64 y, .int .i64 z] 27)).alloc (.cells #[.slice none 0 0, .int .i64 0, .int .i64 0] 59)) ⟨w.heap.size + 1 + 1, 2, none⟩ = false := by simp [go_sem]
  have lu : w.heap.size + 1 + 1 < (((w.alloc (.cells #[.slice (some ⟨b0, o0, none⟩) xs.length C, .int .i64 lo, .int .i64 hi] 59)).alloc (.cells #[.int .i64 x, .int .i64 y, .int .i64 z] 27)).alloc (.cells #[.slice none 0 0, .int .i64 0, .int .i64 0] 59)).heap.size := by simp <;> omega
  have HB := Lib.hid (show Below w.heap.size w (((w.alloc (.cells #[.slice (some ⟨b0, o0, none⟩) xs.length C, .int .i64 lo, .int .i64 hi] 59)).alloc (.cells #[.int .i64 x, .int .i64 y, .int .i64 z] 27)).alloc (.cells #[.slice none 0 0, .int .i64 0, .int .i64 0] 59)) from ((((Below.refl _ _).alloc (by simp <;> omega) _).alloc (by simp <;> omega) _).alloc (by simp <;> omega) _))
  go_enter Try.func55, Try.ntmps55
  go_upto_region 1 with fail
  generalize ((w.alloc (.cells #[.slice (some ⟨b0, o0, none⟩) xs.length C, .int .i64 lo, .int .i64 hi] 59)).alloc (.cells #[.int .i64 x, .int .i64 y, .int .i64 z] 27)).alloc (.cells #[.slice none 0 0, .int .i64 0, .int .i64 0] 59) = w1 at *
  replace HL := Lib.hid (HL.out.below HB.out)
  go_wp2_with fail
  with_reducible refine (CA.out _ HL.out).mono ?_
  rintro e_ w2 ⟨rfl, hb⟩
  replace HB := Lib.hid (on_below HB.out hb)
  replace HL := Lib.hid (HL.out.below hb)
  replace p0 := keepc hb p0
  replace p1 := keepc hb p1
  replace p2 := keepc hb p2
  replace q0 := keepc hb q0
  replace q1 := keepc hb q1
  replace q2 := keepc hb q2
  replace u0 := keepc hb u0
  replace u1 := keepc hb u1
  replace u2 := keepc hb u2
  replace fu0 := keepf hb lu fu0
  replace fu1 := keepf hb lu fu1
  replace fu2 := keepf hb lu fu2
  replace lp := Nat.lt_of_lt_of_le lp hb.size
  replace lq := Nat.lt_of_lt_of_le lq hb.size
  replace lu := Nat.lt_of_lt_of_le lu hb.size
  clear hb
  go_wp2_with fail
  with_reducible refine (vvalid_is x y z true hv _).mono ?_
  rintro e_ w3 ⟨rfl, hb⟩
  replace HB := Lib.hid (on_below HB.out hb)
  replace HL := Lib.hid (HL.out.below hb)
  replace p0 := keepc hb p0
  replace p1 := keepc hb p1
  replace p2 := keepc hb p2
  replace q0 := keepc hb q0
  replace q1 := keepc hb q1
  replace q2 := keepc hb q2
  replace u0 := keepc hb u0
  replace u1 := keepc hb u1
  replace u2 := keepc hb u2
  replace fu0 := keepf hb lu fu0
  replace fu1 := keepf hb lu fu1
  replace fu2 := keepf hb lu fu2
  replace lp := Nat.lt_of_lt_of_le lp hb.size
  replace lq := Nat.lt_of_lt_of_le lq hb.size
  replace lu := Nat.lt_of_lt_of_le lu hb.size
  clear hb
  go_wp2_with fail
  have zb : (-2000 ≤ lo ∧ lo ≤ 2000) ∧ (-2000 ≤ hi ∧ hi ≤ 2000) ∧ (-2000 ≤ x ∧ x ≤ 2000) ∧ (-2000 ≤ y ∧ y ≤ 2000) ∧ (-2000 ≤ z ∧ z ≤ 2000) := ⟨BA.out.zl, BA.out.zh, VA.out.x, VA.out.y, VA.out.z⟩
  obtain ⟨zb1, zb2, zb3, zb4, zb5⟩ := zb
  have n8 := BA.out.n8
  have n3 := BA.out.n3
  clear hlx
  have wf0 : IntKind.i64.wrap (lo + z) = lo + z := IntWalk.i64_in _ ⟨by omega, by omega⟩
  have wg0 : wrap64 (lo + z) = lo + z := IntWalk.wrap64_in _ ⟨by omega, by omega⟩
  have wf1 : IntKind.i64.wrap (hi + z) = hi + z := IntWalk.i64_in _ ⟨by omega, by omega⟩
  have wg1 : wrap64 (hi + z) = hi + z := IntWalk.wrap64_in _ ⟨by omega, by omega⟩
  have hmk := fun W => mk_two xs.length (by omega) W
  refine wp_mono (Q := Mk3 (fun gb gt => #[.agg #[.slice (some ⟨b0, o0, none⟩) xs.length C, .int .i64 lo, .int .i64 hi], .agg #[.int .i64 x, .int .i64 y, .int .i64 z], .pointer (some ⟨w.heap.size, 0, none⟩), .pointer (some ⟨w.heap.size + 1, 0, none⟩), .pointer (some ⟨w.heap.size + 1 + 1, 0, none⟩), .int .i64 0, .pointer (some ⟨gt, 0, none⟩), undef, .agg #[.slice (some ⟨b0, o0, none⟩) xs.length C, .int .i64 lo, .int .i64 hi], .bool true, .bool false, .bool false, .agg #[.int .i64 x, .int .i64 y, .int .i64 z], .bool true, .bool false, .bool false, undef, .pointer (some ⟨w.heap.size, 0, none⟩), .slice (some ⟨b0, o0, none⟩) xs.length C, .int .i64 xs.length, .slice (some ⟨gb, 0, none⟩) xs.length xs.length, .pointer (some ⟨w.heap.size, 1, none⟩), .int .i64 lo, .pointer (some ⟨w.heap.size + 1, 2, none⟩), .int .i64 z, .int .i64 (lo + z), .pointer (some ⟨w.heap.size, 2, none⟩), .int .i64 hi, .pointer (some ⟨w.heap.size + 1, 2, none⟩), .int .i64 z, .int .i64 (hi + z), .agg #[.slice (some ⟨gb, 0, none⟩) xs.length xs.length, .int .i64 (lo + z), .int .i64 (hi + z)], undef, undef, undef, undef, undef, undef, undef, undef, undef, undef, undef, undef, undef, undef, undef, undef, undef, undef, undef, undef, undef, undef, undef, undef, undef, undef, undef, undef, undef, undef, undef, undef, undef, undef, undef, undef, undef, undef, undef]) xs.length (lo + z) (hi + z) w3) ?_ ?_
  · have kp : ∀ {W : World}, Below w3.heap.size w3 W → W.cell? ⟨w.heap.size, 0, none⟩ = some (.slice (some ⟨b0, o0, none⟩) xs.length C) ∧ W.cell? ⟨w.heap.size, 1, none⟩ = some (.int .i64 lo) ∧ W.cell? ⟨w.heap.size, 2, none⟩ = some (.int .i64 hi) ∧ W.cell? ⟨w.heap.size + 1, 0, none⟩ = some (.int .i64 x) ∧ W.cell? ⟨w.heap.size + 1, 1, none⟩ = some (.int .i64 y) ∧ W.cell? ⟨w.heap.size + 1, 2, none⟩ = some (.int .i64 z) := fun h => ⟨keepc h p0, keepc h p1, keepc h p2, keepc h q0, keepc h q1, keepc h q2⟩
    have hA : ∀ o, Below w3.heap.size w3 (w3.alloc o).drew := fun o => ((Below.refl _ _).alloc (Nat.le_refl _) _).drew
    have hAA : ∀ o o', Below w3.heap.size w3 ((w3.alloc o).alloc o').drew := fun o o' => (((Below.refl _ _).alloc (Nat.le_refl _) _).alloc (by simp) _).drew
    refine wp_region_held_drew (S := fun V => V.cell? ⟨w.heap.size, 0, none⟩ = some (.slice (some ⟨b0, o0, none⟩) xs.length C) ∧ V.cell? ⟨w.heap.size, 1, none⟩ = some (.int .i64 lo) ∧ V.cell? ⟨w.heap.size, 2, none⟩ = some (.int .i64 hi) ∧ V.cell? ⟨w.heap.size + 1, 0, none⟩ = some (.int .i64 x) ∧ V.cell? ⟨w.heap.size + 1, 1, none⟩ = some (.int .i64 y) ∧ V.cell? ⟨w.heap.size + 1, 2, none⟩ = some (.int .i64 z)) (by kernel_rfl) (kp (Below.refl _ _).drew) fun HL_ => ?_
    refine wpAnyH_take (i := 0) (v := .pointer (some ⟨w.heap.size, 0, none⟩)) rfl (by kernel_rfl) (by kernel_rfl) (by kernel_rfl) (fun _ _ _ h => h) (Or.inl ⟨by kernel_rfl, ?_⟩) HL_ ?_
    · rintro Wl ⟨s0, s1, s2, s3, s4, s5⟩
      go_simp
    simp only [Act.put, List.getElem_toArray, List.getElem_cons_succ, List.getElem_cons_zero, List.setIfInBounds_toArray, List.set_cons_zero, List.set_cons_succ]
    refine wpAnyH_take (i := 1) (v := .slice (some ⟨b0, o0, none⟩) xs.length C) rfl (by kernel_rfl) (by kernel_rfl) (by kernel_rfl) (fun _ _ _ h => h) (Or.inl ⟨by kernel_rfl, ?_⟩) HL_ ?_
    · rintro Wl ⟨s0, s1, s2, s3, s4, s5⟩
      go_simp
    simp only [Act.put, List.getElem_toArray, List.getElem_cons_succ, List.getElem_cons_zero, List.setIfInBounds_toArray, List.set_cons_zero, List.set_cons_succ]
    refine wpAnyH_take (i := 2) (v := .int .i64 xs.length) rfl (by kernel_rfl) (by kernel_rfl) (by kernel_rfl) (fun _ _ _ h => h) (Or.inl ⟨by kernel_rfl, ?_⟩) HL_ ?_
    · rintro Wl ⟨s0, s1, s2, s3, s4, s5⟩
      go_simp
    simp only [Act.put, List.getElem_toArray, List.getElem_cons_succ, List.getElem_cons_zero, List.setIfInBounds_toArray, List.set_cons_zero, List.set_cons_succ]
    refine wpAnyH_take (i := 4) (v := .pointer (some ⟨w.heap.size, 1, none⟩)) rfl (by kernel_rfl) (by kernel_rfl) (by kernel_rfl) (fun _ _ _ h => h) (Or.inl ⟨by kernel_rfl, ?_⟩) HL_ ?_
    · rintro Wl ⟨s0, s1, s2, s3, s4, s5⟩
      go_simp
    simp only [Act.put, List.getElem_toArray, List.getElem_cons_succ, List.getElem_cons_zero, List.setIfInBounds_toArray, List.set_cons_zero, List.set_cons_succ]
    refine wpAnyH_take (i := 5) (v := .int .i64 lo) rfl (by kernel_rfl) (by kernel_rfl) (by kernel_rfl) (fun _ _ _ h => h) (Or.inl ⟨by kernel_rfl, ?_⟩) HL_ ?_
    · rintro Wl ⟨s0, s1, s2, s3, s4, s5⟩
      go_simp
    simp only [Act.put, List.getElem_toArray, List.getElem_cons_succ, List.getElem_cons_zero, List.setIfInBounds_toArray, List.set_cons_zero, List.set_cons_succ]
    refine wpAnyH_take (i := 6) (v := .pointer (some ⟨w.heap.size + 1, 2, none⟩)) rfl (by kernel_rfl) (by kernel_rfl) (by kernel_rfl) (fun _ _ _ h => h) (Or.inl ⟨by kernel_rfl, ?_⟩) HL_ ?_
    · rintro Wl ⟨s0, s1, s2, s3, s4, s5⟩
      go_simp
    simp only [Act.put, List.getElem_toArray, List.getElem_cons_succ, List.getElem_cons_zero, List.setIfInBounds_toArray, List.set_cons_zero, List.set_cons_succ]
    refine wpAnyH_take (i := 7) (v := .int .i64 z) rfl (by kernel_rfl) (by kernel_rfl) (by kernel_rfl) (fun _ _ _ h => h) (Or.inl ⟨by kernel_rfl, ?_⟩) HL_ ?_
    · rintro Wl ⟨s0, s1, s2, s3, s4, s5⟩
      go_simp
    simp only [Act.put, List.getElem_toArray, List.getElem_cons_succ, List.getElem_cons_zero, List.setIfInBounds_toArray, List.set_cons_zero, List.set_cons_succ]
    refine wpAnyH_take (i := 8) (v := .int .i64 (lo + z)) rfl (by kernel_rfl) (by kernel_rfl) (by kernel_rfl) (fun _ _ _ h => h) (Or.inl ⟨by kernel_rfl, ?_⟩) HL_ ?_
    · rintro Wl ⟨s0, s1, s2, s3, s4, s5⟩
      go_simp
    simp only [Act.put, List.getElem_toArray, List.getElem_cons_succ, List.getElem_cons_zero, List.setIfInBounds_toArray, List.set_cons_zero, List.set_cons_succ]
    refine wpAnyH_take (i := 9) (v := .pointer (some ⟨w.heap.size, 2, none⟩)) rfl (by kernel_rfl) (by kernel_rfl) (by kernel_rfl) (fun _ _ _ h => h) (Or.inl ⟨by kernel_rfl, ?_⟩) HL_ ?_
    · rintro Wl ⟨s0, s1, s2, s3, s4, s5⟩
      go_simp
    simp only [Act.put, List.getElem_toArray, List.getElem_cons_succ, List.getElem_cons_zero, List.setIfInBounds_toArray, List.set_cons_zero, List.set_cons_succ]
    refine wpAnyH_take (i := 10) (v := .int .i64 hi) rfl (by kernel_rfl) (by kernel_rfl) (by kernel_rfl) (fun _ _ _ h => h) (Or.inl ⟨by kernel_rfl, ?_⟩) HL_ ?_
    · rintro Wl ⟨s0, s1, s2, s3, s4, s5⟩
      go_simp
    simp only [Act.put, List.getElem_toArray, List.getElem_cons_succ, List.getElem_cons_zero, List.setIfInBounds_toArray, List.set_cons_zero, List.set_cons_succ]
    refine wpAnyH_take (i := 11) (v := .pointer (some ⟨w.heap.size + 1, 2, none⟩)) rfl (by kernel_rfl) (by kernel_rfl) (by kernel_rfl) (fun _ _ _ h => h) (Or.inl ⟨by kernel_rfl, ?_⟩) HL_ ?_
    · rintro Wl ⟨s0, s1, s2, s3, s4, s5⟩
      go_simp
    simp only [Act.put, List.getElem_toArray, List.getElem_cons_succ, List.getElem_cons_zero, List.setIfInBounds_toArray, List.set_cons_zero, List.set_cons_succ]
    refine wpAnyH_take (i := 12) (v := .int .i64 z) rfl (by kernel_rfl) (by kernel_rfl) (by kernel_rfl) (fun _ _ _ h => h) (Or.inl ⟨by kernel_rfl, ?_⟩) HL_ ?_
    · rintro Wl ⟨s0, s1, s2, s3, s4, s5⟩
      go_simp
    simp only [Act.put, List.getElem_toArray, List.getElem_cons_succ, List.getElem_cons_zero, List.setIfInBounds_toArray, List.set_cons_zero, List.set_cons_succ]
    refine wpAnyH_take (i := 13) (v := .int .i64 (hi + z)) rfl (by kernel_rfl) (by kernel_rfl) (by kernel_rfl) (fun _ _ _ h => h) (Or.inl ⟨by kernel_rfl, ?_⟩) HL_ ?_
    · rintro Wl ⟨s0, s1, s2, s3, s4, s5⟩
      go_simp
    simp only [Act.put, List.getElem_toArray, List.getElem_cons_succ, List.getElem_cons_zero, List.setIfInBounds_toArray, List.set_cons_zero, List.set_cons_succ]
    clear HL_ p0 p1 p2 q0 q1 q2 u0 u1 u2 fu0 fu1 fu2
    refine wpAnyH_ready (rs := [3, 15]) (by kernel_rfl) (by simp) ?_
    refine AllReadyH.cons (o := _) rfl (fun K hK => ?_) (AllReadyH.cons (o := _) rfl (fun K hK => ?_) AllReadyH.nil)
    · go_simp
      refine hK.out _ _ (kp (hA _)) fun HL_ => ?_
      clear hK K
      refine wpAnyH_take (i := 14) (v := .agg #[.slice (some ⟨w3.heap.size, 0, none⟩) xs.length xs.length, .int .i64 (lo + z), .int .i64 (hi + z)]) rfl (by kernel_rfl) (by kernel_rfl) (by kernel_rfl) (fun _ _ _ h => h) (Or.inl ⟨by kernel_rfl, ?_⟩) HL_ ?_
      · rintro Wl ⟨s0, s1, s2, s3, s4, s5⟩
        go_simp
      simp only [Act.put, List.getElem_toArray, List.getElem_cons_succ, List.getElem_cons_zero, List.setIfInBounds_toArray, List.set_cons_zero, List.set_cons_succ]
      refine wpAnyH_ready (rs := [15]) (by kernel_rfl) (by simp) ?_
      refine AllReadyH.cons (o := _) rfl (fun K hK => ?_) AllReadyH.nil
      go_simp
      refine hK.out _ _ (kp (hAA _ _)) fun HL_ => ?_
      clear hK K
      refine wpAnyH_ready (rs := [16]) (by kernel_rfl) (by simp) ?_
      refine AllReadyH.cons (o := _) rfl (fun K hK => ?_) AllReadyH.nil
      go_simp
      refine hK.out _ _ (kp (hAA _ _)) fun HL_ => ?_
      clear hK K
      refine wpAnyH_done (by kernel_rfl) ?_ _
      obtain ⟨m1, m2, m3⟩ := new2 w3 (.cells (zc xs.length) 67) (.cells #[.slice (some ⟨w3.heap.size, 0, none⟩) xs.length xs.length, .int .i64 (lo + z), .int .i64 (hi + z)] 59)
      exact ⟨w3.heap.size, w3.heap.size + 1, rfl, by omega, by omega, by omega, m1, m2, m3.drew⟩
    · go_simp
      refine hK.out _ _ (kp (hA _)) fun HL_ => ?_
      clear hK K
      refine wpAnyH_ready (rs := [3]) (by kernel_rfl) (by simp) ?_
      refine AllReadyH.cons (o := _) rfl (fun K hK => ?_) AllReadyH.nil
      go_simp
      refine hK.out _ _ (kp (hAA _ _)) fun HL_ => ?_
      clear hK K
      refine wpAnyH_take (i := 14) (v := .agg #[.slice (some ⟨w3.heap.size + 1, 0, none⟩) xs.length xs.length, .int .i64 (lo + z), .int .i64 (hi + z)]) rfl (by kernel_rfl) (by kernel_rfl) (by kernel_rfl) (fun _ _ _ h => h) (Or.inl ⟨by kernel_rfl, ?_⟩) HL_ ?_
      · rintro Wl ⟨s0, s1, s2, s3, s4, s5⟩
        go_simp
      simp only [Act.put, List.getElem_toArray, List.getElem_cons_succ, List.getElem_cons_zero, List.setIfInBounds_toArray, List.set_cons_zero, List.set_cons_succ]
      refine wpAnyH_ready (rs := [16]) (by kernel_rfl) (by simp) ?_
      refine AllReadyH.cons (o := _) rfl (fun K hK => ?_) AllReadyH.nil
      go_simp
      refine hK.out _ _ (kp (hAA _ _)) fun HL_ => ?_
      clear hK K
      refine wpAnyH_done (by kernel_rfl) ?_ _
      obtain ⟨m1, m2, m3⟩ := new2 w3 (.cells #[.slice (some ⟨w3.heap.size + 1, 0, none⟩) xs.length xs.length, .int .i64 (lo + z), .int .i64 (hi + z)] 59) (.cells (zc xs.length) 67)
      exact ⟨w3.heap.size + 1, w3.heap.size, rfl, by omega, by omega, by omega, m2, m1, m3.drew⟩
  rintro e_ a_ V hp
  cases e_ with
  | normal =>
    obtain ⟨gb, gt, rfl, ne, lgb, lgt, hgb, hgt, hb⟩ := hp
    dsimp only
    replace p0 := keepc hb p0
    replace p1 := keepc hb p1
    replace p2 := keepc hb p2
    replace q0 := keepc hb q0
    replace q1 := keepc hb q1
    replace q2 := keepc hb q2
    replace u0 := keepc hb u0
    replace u1 := keepc hb u1
    replace u2 := keepc hb u2
    replace fu0 := keepf hb lu fu0
    replace fu1 := keepf hb lu fu1
    replace fu2 := keepf hb lu fu2
    have HLV := Lib.hid (HL.out.below hb)
    replace HB := Lib.hid (on_below HB.out hb)
    have hsz : w3.heap.size ≤ V.heap.size := hb.size
    have lgtV : gt < V.heap.size := (Array.getElem?_eq_some_iff.1 hgt).1
    have hcp := fun ty => copy_two V ty gb xs.length xs.length C ⟨b0, o0, none⟩ (zc xs.length) 67 (flatV xs) hgb (flatV_len xs) (zc_size _) (slS_cells HLV.out) (flat_one xs)
    have hgi : goInt xs.length = .int .i64 xs.length := rfl
    rw [hgi] at hcp
    have ht0 := (cells3 hgt).1
    have ht0s : (V.setRow gb (flatV xs).toArray).cell? ⟨gt, 0, none⟩ = some (.slice (some ⟨gb, 0, none⟩) xs.length xs.length) := by rw [cell_setRow_other _ _ _ _ ne]; exact ht0
    have HM := Lib.hid (show Mo w.heap.size gb gt xs.length x y z (lo + z) (hi + z) w xs (V.setRow gb (flatV xs).toArray) from by
      have s1 : (V.setRow gb (flatV xs).toArray).heap[w.heap.size + 1]? = V.heap[w.heap.size + 1]? := setRow_other _ _ _ _ (by omega)
      have s2 : (V.setRow gb (flatV xs).toArray).heap[w.heap.size + 1 + 1]? = V.heap[w.heap.size + 1 + 1]? := setRow_other _ _ _ _ (by omega)
      refine ⟨?_, ?_, ?_, ?_, ?_, ?_, ?_, ?_, setRow_heap _ _ _ _ _ _ hgb, by rw [setRow_other _ _ _ _ ne]; exact hgt, below_setRow HB.out (by omega) _⟩
      · rw [World.cell?_of_block (a := ⟨w.heap.size + 1, 0, none⟩) s1]; exact q0
      · rw [World.cell?_of_block (a := ⟨w.heap.size + 1, 1, none⟩) s1]; exact q1
      · rw [World.cell?_of_block (a := ⟨w.heap.size + 1 + 1, 0, none⟩) s2]; exact u0
      · rw [World.cell?_of_block (a := ⟨w.heap.size + 1 + 1, 1, none⟩) s2]; exact u1
      · rw [World.cell?_of_block (a := ⟨w.heap.size + 1 + 1, 2, none⟩) s2]; exact u2
      · rw [World.frozen?_of_block (a := ⟨w.heap.size + 1 + 1, 0, none⟩) s2]; exact fu0
      · rw [World.frozen?_of_block (a := ⟨w.heap.size + 1 + 1, 1, none⟩) s2]; exact fu1
      · rw [World.frozen?_of_block (a := ⟨w.heap.size + 1 + 1, 2, none⟩) s2]; exact fu2
      )
    clear hgb hgt hb HLV hgi
    go_wp2_with fail
    clear hcp ht0 p0 p1 p2 q0 q1 q2 u0 u1 u2 fu0 fu1 fu2 ht0s hmk
    generalize V.setRow gb (flatV xs).toArray = V2 at *
    have HN := Lib.hid (show w.heap.size ≤ gb ∧ w.heap.size + 1 ≠ gb ∧ w.heap.size + 1 + 1 ≠ gb from ⟨by omega, by omega, by omega⟩)
    go_loopw [40] (fun i wr => ∃ k : Nat, k ≤ xs.length ∧ i = .int .i64 k ∧ Hid (Mo w.heap.size gb gt xs.length x y z (lo + z) (hi + z) w (mvk xs x y k) wr)) (fun i _ => xs.length - (intOf i).toNat)
    case atStart => exact ⟨0, Nat.zero_le _, rfl, HM.out⟩
    case round =>
      obtain ⟨k, hk, rfl, HK⟩ := hrel
      clear HM
      by_cases hlt : k < xs.length
      · have hml := mvk_len xs x y k
        have hlt2 : k < (mvk xs x y k).length := by rw [hml]; exact hlt
        have he := mvk_at (xs := xs) (x := x) (y := y) (j := k) k hk
        rw [if_neg (Nat.lt_irrefl k)] at he
        have hb1 : co (gdS xs k).1 := BA.out.rx k hlt
        have hb2 : co (gdS xs k).2 := BA.out.ry k hlt
        obtain ⟨e0, e1⟩ := sl_two HK.out.sl hlt2
        rw [Nat.zero_add] at e0 e1
        rw [he] at e0 e1
        skip
        have HX := Lib.hid (HK.out.setx HN.out.1 HN.out.2.1 HN.out.2.2 ne hlt2 ((gdS xs k).1 + x))
        have HE := Lib.hid he
        have HY := Lib.hid (fun (W : World) (m : Mo w.heap.size gb gt xs.length x y z (lo + z) (hi + z) w ((mvk xs x y k).set k ((gdS xs k).1 + x, (gdS xs k).2)) W) => show Mo w.heap.size gb gt xs.length x y z (lo + z) (hi + z) w (mvk xs x y (k + 1)) (W.setCell ⟨gb, k * 2 + 1, none⟩ (.int .i64 ((gdS xs k).2 + y))) from by
          have h := m.sety HN.out.1 HN.out.2.1 HN.out.2.2 ne (k := k) (by rw [List.length_set]; exact hlt2) ((gdS xs k).2 + y)
          rw [gdS_set hlt2, if_pos rfl, List.set_set] at h
          have e : mvk xs x y (k + 1) = (mvk xs x y k).set k ((gdS xs k).1 + x, (gdS xs k).2 + y) := by show (mvk xs x y k).set k _ = _; rw [HE.out]
          rw [e]; exact h)
        rw [he] at HX
        clear he hml hlt2
        unfold co at hb1 hb2
        generalize (gdS xs k).1 = a at *
        generalize (gdS xs k).2 = b at *
        have z1_ : -9000 ≤ a + x ∧ a + x ≤ 9000 := by omega
        have z2_ : -9000 ≤ b + y ∧ b + y ≤ 9000 := by omega
        have z3_ : -9000 ≤ (k : Int) ∧ (k : Int) ≤ 9000 := by omega
        have z4_ : -9000 ≤ (k : Int) + 1 ∧ (k : Int) + 1 ≤ 9000 := by omega
        have z5_ : xs.length - (k + 1) < xs.length - k := by omega
        have vf0 : IntKind.i64.wrap (a + x) = a + x := wrp1 z1_
        have vf1 : IntKind.i64.wrap (b + y) = b + y := wrp1 z2_
        have vf2 : IntKind.i64.wrap ((k : Int)) = (k : Int) := wrp1 z3_
        have vf3 : IntKind.i64.wrap ((k : Int) + 1) = (k : Int) + 1 := wrp1 z4_
        have vg0 : wrap64 (a + x) = a + x := wrp2 z1_
        have vg1 : wrap64 (b + y) = b + y := wrp2 z2_
        have vg2 : wrap64 ((k : Int)) = (k : Int) := wrp2 z3_
        have vg3 : wrap64 ((k : Int) + 1) = (k : Int) + 1 := wrp2 z4_
        clear z1_ z2_ z3_ z4_
        have q0 := HK.out.q0
        have q1 := HK.out.q1
        have t0 := (cells3 HK.out.t).1
        have g0 := HK.out.fz (k * 2)
        have g1 := HK.out.fz (k * 2 + 1)
        have hi1 : (k : Int) < xs.length := Int.ofNat_lt.2 hlt
        go_wp2_with fail
        have HKd := Lib.hid HK.out.drew
        have HXd := Lib.hid HX.out.drew
        clear HX
        replace q0 := HKd.out.q0
        replace t0 := (cells3 HKd.out.t).1
        replace g0 := HKd.out.fz (k * 2)
        replace e0 : wr.drew.cell? ⟨gb, k * 2, none⟩ = some (.int .i64 a) := e0
        have tx0 := (cells3 HXd.out.t).1
        have qx0 := HXd.out.q0
        clear HKd q1 g1 e1
        refine wp_region_held_drew (S := fun V => V.cell? ⟨gt, 0, none⟩ = some (.slice (some ⟨gb, 0, none⟩) xs.length xs.length) ∧ V.cell? ⟨w.heap.size + 1, 0, none⟩ = some (.int .i64 x)) (by kernel_rfl) ⟨t0, q0⟩ fun HL_ => ?_
        refine wpAnyH_take (i := 0) (v := .pointer (some ⟨gt, 0, none⟩)) rfl (by kernel_rfl) (by kernel_rfl) (by kernel_rfl) (fun _ _ _ h => h) (Or.inl ⟨by kernel_rfl, ?_⟩) HL_ ?_
        · rintro Wl ⟨s0, s1⟩
          go_simp
        simp only [Act.put, List.getElem_toArray, List.getElem_cons_succ, List.getElem_cons_zero, List.setIfInBounds_toArray, List.set_cons_zero, List.set_cons_succ]
        refine wpAnyH_take (i := 1) (v := .slice (some ⟨gb, 0, none⟩) xs.length xs.length) rfl (by kernel_rfl) (by kernel_rfl) (by kernel_rfl) (fun _ _ _ h => h) (Or.inl ⟨by kernel_rfl, ?_⟩) HL_ ?_
        · rintro Wl ⟨s0, s1⟩
          go_simp
        simp only [Act.put, List.getElem_toArray, List.getElem_cons_succ, List.getElem_cons_zero, List.setIfInBounds_toArray, List.set_cons_zero, List.set_cons_succ]
        refine wpAnyH_take (i := 2) (v := .int .i64 k) rfl (by kernel_rfl) (by kernel_rfl) (by kernel_rfl) (fun _ _ _ h => h) (Or.inl ⟨by kernel_rfl, ?_⟩) HL_ ?_
        · rintro Wl ⟨s0, s1⟩
          go_simp
        simp only [Act.put, List.getElem_toArray, List.getElem_cons_succ, List.getElem_cons_zero, List.setIfInBounds_toArray, List.set_cons_zero, List.set_cons_succ]
        refine wpAnyH_take (i := 3) (v := .pointer (some ⟨gb, k * 2, none⟩)) rfl (by kernel_rfl) (by kernel_rfl) (by kernel_rfl) (fun _ _ _ h => h) (Or.inl ⟨by kernel_rfl, ?_⟩) HL_ ?_
        · rintro Wl ⟨s0, s1⟩
          go_simp
        simp only [Act.put, List.getElem_toArray, List.getElem_cons_succ, List.getElem_cons_zero, List.setIfInBounds_toArray, List.set_cons_zero, List.set_cons_succ]
        refine wpAnyH_take (i := 4) (v := .pointer (some ⟨gb, k * 2, none⟩)) rfl (by kernel_rfl) (by kernel_rfl) (by kernel_rfl) (fun _ _ _ h => h) (Or.inl ⟨by kernel_rfl, ?_⟩) HL_ ?_
        · rintro Wl ⟨s0, s1⟩
          go_simp
        simp only [Act.put, List.getElem_toArray, List.getElem_cons_succ, List.getElem_cons_zero, List.setIfInBounds_toArray, List.set_cons_zero, List.set_cons_succ]
        refine wpAnyH_take (i := 6) (v := .pointer (some ⟨w.heap.size + 1, 0, none⟩)) rfl (by kernel_rfl) (by kernel_rfl) (by kernel_rfl) (fun _ _ _ h => h) (Or.inl ⟨by kernel_rfl, ?_⟩) HL_ ?_
        · rintro Wl ⟨s0, s1⟩
          go_simp
        simp only [Act.put, List.getElem_toArray, List.getElem_cons_succ, List.getElem_cons_zero, List.setIfInBounds_toArray, List.set_cons_zero, List.set_cons_succ]
        refine wpAnyH_take (i := 7) (v := .int .i64 x) rfl (by kernel_rfl) (by kernel_rfl) (by kernel_rfl) (fun _ _ _ h => h) (Or.inl ⟨by kernel_rfl, ?_⟩) HL_ ?_
        · rintro Wl ⟨s0, s1⟩
          go_simp
        simp only [Act.put, List.getElem_toArray, List.getElem_cons_succ, List.getElem_cons_zero, List.setIfInBounds_toArray, List.set_cons_zero, List.set_cons_succ]
        refine wpAnyH_ready (rs := [5]) (by kernel_rfl) (by simp) ?_
        refine AllReadyH.cons (o := _) rfl (fun K hK => ?_) AllReadyH.nil
        go_simp
        refine hK.out _ _ ⟨t0, q0⟩ fun HL_ => ?_
        clear hK K
        refine wpAnyH_take (i := 8) (v := .int .i64 (a + x)) rfl (by kernel_rfl) (by kernel_rfl) (by kernel_rfl) (fun _ _ _ h => h) (Or.inl ⟨by kernel_rfl, ?_⟩) HL_ ?_
        · rintro Wl ⟨s0, s1⟩
          go_simp
        simp only [Act.put, List.getElem_toArray, List.getElem_cons_succ, List.getElem_cons_zero, List.setIfInBounds_toArray, List.set_cons_zero, List.set_cons_succ]
        refine wpAnyH_take (i := 9) (v := .pointer (some ⟨gb, k * 2, none⟩)) rfl (by kernel_rfl) (by kernel_rfl) (by kernel_rfl) (fun _ _ _ h => h) (Or.inl ⟨by kernel_rfl, ?_⟩) HL_ ?_
        · rintro Wl ⟨s0, s1⟩
          go_simp
        simp only [Act.put, List.getElem_toArray, List.getElem_cons_succ, List.getElem_cons_zero, List.setIfInBounds_toArray, List.set_cons_zero, List.set_cons_succ]
        refine wpAnyH_take (i := 10) (v := .pointer (some ⟨gb, k * 2, none⟩)) rfl (by kernel_rfl) (by kernel_rfl) (by kernel_rfl) (fun _ _ _ h => h) (Or.inl ⟨by kernel_rfl, ?_⟩) HL_ ?_
        · rintro Wl ⟨s0, s1⟩
          go_simp
        simp only [Act.put, List.getElem_toArray, List.getElem_cons_succ, List.getElem_cons_zero, List.setIfInBounds_toArray, List.set_cons_zero, List.set_cons_succ]
        refine wpAnyH_ready (rs := [11]) (by kernel_rfl) (by simp) ?_
        refine AllReadyH.cons (o := _) rfl (fun K hK => ?_) AllReadyH.nil
        go_simp
        refine hK.out _ _ ⟨tx0, qx0⟩ fun HL_ => ?_
        clear hK K HL_
        refine wpAnyH_done (by kernel_rfl) ?_ _
        clear t0 q0 e0 g0 tx0 qx0 HL_
        go_wp2_with fail
        have HXe := Lib.hid HXd.out.drew
        have e1 := (sl_two HXe.out.sl (k := k) (by rw [List.length_set, mvk_len]; exact hlt)).2
        rw [Nat.zero_add, gdS_set (by rw [mvk_len]; exact hlt), if_pos rfl] at e1
        generalize (wr.setCell { block := gb, off := k * 2 } (Value.int IntKind.i64 (a + x))).drew = wd at *
        have t0 := (cells3 HXe.out.t).1
        have q1 := HXe.out.q1
        have g1 := HXe.out.fz (k * 2 + 1)
        replace HY := Lib.hid (HY.out _ HXe.out)
        have ty0 := (cells3 HY.out.t).1
        have qy0 := HY.out.q1
        clear HXd HXe HK
        refine wp_region_held_drew (S := fun V => V.cell? ⟨gt, 0, none⟩ = some (.slice (some ⟨gb, 0, none⟩) xs.length xs.length) ∧ V.cell? ⟨w.heap.size + 1, 1, none⟩ = some (.int .i64 y)) (by kernel_rfl) ⟨t0, q1⟩ fun HL_ => ?_
        refine wpAnyH_take (i := 0) (v := .pointer (some ⟨gt, 0, none⟩)) rfl (by kernel_rfl) (by kernel_rfl) (by kernel_rfl) (fun _ _ _ h => h) (Or.inl ⟨by kernel_rfl, ?_⟩) HL_ ?_
        · rintro Wl ⟨s0, s1⟩
          go_simp
        simp only [Act.put, List.getElem_toArray, List.getElem_cons_succ, List.getElem_cons_zero, List.setIfInBounds_toArray, List.set_cons_zero, List.set_cons_succ]
        refine wpAnyH_take (i := 1) (v := .slice (some ⟨gb, 0, none⟩) xs.length xs.length) rfl (by kernel_rfl) (by kernel_rfl) (by kernel_rfl) (fun _ _ _ h => h) (Or.inl ⟨by kernel_rfl, ?_⟩) HL_ ?_
        · rintro Wl ⟨s0, s1⟩
          go_simp
        simp only [Act.put, List.getElem_toArray, List.getElem_cons_succ, List.getElem_cons_zero, List.setIfInBounds_toArray, List.set_cons_zero, List.set_cons_succ]
        refine wpAnyH_take (i := 2) (v := .int .i64 k) rfl (by kernel_rfl) (by kernel_rfl) (by kernel_rfl) (fun _ _ _ h => h) (Or.inl ⟨by kernel_rfl, ?_⟩) HL_ ?_
        · rintro Wl ⟨s0, s1⟩
          go_simp
        simp only [Act.put, List.getElem_toArray, List.getElem_cons_succ, List.getElem_cons_zero, List.setIfInBounds_toArray, List.set_cons_zero, List.set_cons_succ]
        refine wpAnyH_take (i := 3) (v := .pointer (some ⟨gb, k * 2, none⟩)) rfl (by kernel_rfl) (by kernel_rfl) (by kernel_rfl) (fun _ _ _ h => h) (Or.inl ⟨by kernel_rfl, ?_⟩) HL_ ?_
        · rintro Wl ⟨s0, s1⟩
          go_simp
        simp only [Act.put, List.getElem_toArray, List.getElem_cons_succ, List.getElem_cons_zero, List.setIfInBounds_toArray, List.set_cons_zero, List.set_cons_succ]
        refine wpAnyH_take (i := 4) (v := .pointer (some ⟨gb, k * 2 + 1, none⟩)) rfl (by kernel_rfl) (by kernel_rfl) (by kernel_rfl) (fun _ _ _ h => h) (Or.inl ⟨by kernel_rfl, ?_⟩) HL_ ?_
        · rintro Wl ⟨s0, s1⟩
          go_simp
        simp only [Act.put, List.getElem_toArray, List.getElem_cons_succ, List.getElem_cons_zero, List.setIfInBounds_toArray, List.set_cons_zero, List.set_cons_succ]
        refine wpAnyH_take (i := 6) (v := .pointer (some ⟨w.heap.size + 1, 1, none⟩)) rfl (by kernel_rfl) (by kernel_rfl) (by kernel_rfl) (fun _ _ _ h => h) (Or.inl ⟨by kernel_rfl, ?_⟩) HL_ ?_
        · rintro Wl ⟨s0, s1⟩
          go_simp
        simp only [Act.put, List.getElem_toArray, List.getElem_cons_succ, List.getElem_cons_zero, List.setIfInBounds_toArray, List.set_cons_zero, List.set_cons_succ]
        refine wpAnyH_take (i := 7) (v := .int .i64 y) rfl (by kernel_rfl) (by kernel_rfl) (by kernel_rfl) (fun _ _ _ h => h) (Or.inl ⟨by kernel_rfl, ?_⟩) HL_ ?_
        · rintro Wl ⟨s0, s1⟩
          go_simp
        simp only [Act.put, List.getElem_toArray, List.getElem_cons_succ, List.getElem_cons_zero, List.setIfInBounds_toArray, List.set_cons_zero, List.set_cons_succ]
        refine wpAnyH_ready (rs := [5]) (by kernel_rfl) (by simp) ?_
        refine AllReadyH.cons (o := _) rfl (fun K hK => ?_) AllReadyH.nil
        go_simp
        refine hK.out _ _ ⟨t0, q1⟩ fun HL_ => ?_
        clear hK K
        refine wpAnyH_take (i := 8) (v := .int .i64 (b + y)) rfl (by kernel_rfl) (by kernel_rfl) (by kernel_rfl) (fun _ _ _ h => h) (Or.inl ⟨by kernel_rfl, ?_⟩) HL_ ?_
        · rintro Wl ⟨s0, s1⟩
          go_simp
        simp only [Act.put, List.getElem_toArray, List.getElem_cons_succ, List.getElem_cons_zero, List.setIfInBounds_toArray, List.set_cons_zero, List.set_cons_succ]
        refine wpAnyH_take (i := 9) (v := .pointer (some ⟨gb, k * 2, none⟩)) rfl (by kernel_rfl) (by kernel_rfl) (by kernel_rfl) (fun _ _ _ h => h) (Or.inl ⟨by kernel_rfl, ?_⟩) HL_ ?_
        · rintro Wl ⟨s0, s1⟩
          go_simp
        simp only [Act.put, List.getElem_toArray, List.getElem_cons_succ, List.getElem_cons_zero, List.setIfInBounds_toArray, List.set_cons_zero, List.set_cons_succ]
        refine wpAnyH_take (i := 10) (v := .pointer (some ⟨gb, k * 2 + 1, none⟩)) rfl (by kernel_rfl) (by kernel_rfl) (by kernel_rfl) (fun _ _ _ h => h) (Or.inl ⟨by kernel_rfl, ?_⟩) HL_ ?_
        · rintro Wl ⟨s0, s1⟩
          go_simp
        simp only [Act.put, List.getElem_toArray, List.getElem_cons_succ, List.getElem_cons_zero, List.setIfInBounds_toArray, List.set_cons_zero, List.set_cons_succ]
        refine wpAnyH_ready (rs := [11]) (by kernel_rfl) (by simp) ?_
        refine AllReadyH.cons (o := _) rfl (fun K hK => ?_) AllReadyH.nil
        go_simp
        refine hK.out _ _ ⟨ty0, qy0⟩ fun HL_ => ?_
        clear hK K HL_
        refine wpAnyH_done (by kernel_rfl) ?_ _
        clear t0 q1 e1 g1 ty0 qy0 HL_
        go_wp2_with fail
        go_roundw
        case rel => exact ⟨k + 1, hlt, int_of (by first | exact vf3 | exact vg3 | simp [vf3, vg3]), HY⟩
        case measure => simp [intOf, vf3, vg3]; clear vf0 vf1 vf2 vf3 vg0 vg1 vg2 vg3 wf0 wf1 wg0 wg1; omega
      · have hke : k = xs.length := Nat.le_antisymm hk (Nat.le_of_not_lt hlt)
        subst hke
        rw [mvk_end] at HK
        have CB := fun W (h : SlS W (some ⟨gb, 0, none⟩) (mv xs x y)) => pvalid_is (some ⟨gb, 0, none⟩) xs.length (mv xs x y) (lo + z) (hi + z) (by rw [mv_len]; omega) r HR.out W h
        simp only [mv_len] at CB
        replace CB := Lib.hid CB
        have t0 := (cells3 HK.out.t).1
        have t1 := (cells3 HK.out.t).2.1
        have t2 := (cells3 HK.out.t).2.2
        skip
        go_wp2_with fail
        with_reducible refine (CB.out _ HK.out.sl).mono ?_
        rintro e_ wz ⟨rfl, hb⟩
        replace t0 := keepc hb t0
        replace t1 := keepc hb t1
        replace t2 := keepc hb t2
        have u0 := keepc hb HK.out.u0
        have u1 := keepc hb HK.out.u1
        have u2 := keepc hb HK.out.u2
        have fu0 := keepf hb (block_lt HK.out.u0) HK.out.f0
        have fu1 := keepf hb (block_lt HK.out.u0) HK.out.f1
        have fu2 := keepf hb (block_lt HK.out.u0) HK.out.f2
        have HS := Lib.hid (HK.out.sl.below hb)
        have HB2 := Lib.hid (on_below HK.out.bel hb)
        have HBK := Lib.hid (blk_keep HK.out.b hb)
        clear hb HK CB
        cases r
        · go_wp2_with fail
          refine bodyPost_ret (v := .tuple #[.agg #[.slice none 0 0, .int .i64 0, .int .i64 0], .int .i64 3]) (by simp [results, Try.results55, go_sem, u0, u1, u2]) rfl ⟨fun h => (Bool.noConfusion h), fun _ => rfl, ?_⟩
          (repeat (refine Below.setCell ?_ (by simp <;> omega) _))
          exact HB2.out
        · go_wp2_with fail
          refine bodyPost_ret (v := .tuple #[.agg #[.slice (some ⟨gb, 0, none⟩) xs.length xs.length, .int .i64 (lo + z), .int .i64 (hi + z)], .int .i64 0]) (by simp [results, Try.results55, go_sem, u0, u1, u2]) rfl ⟨fun _ => ⟨gb, xs.length, rfl, Nat.le_refl _, by omega, ?_⟩, fun h => (Bool.noConfusion h), ?_⟩
          · exact slS_of_cells (by rw [Below.heap_setCell _ ⟨w.heap.size + 1 + 1, 2, none⟩ _ _ HN.out.2.2.symm, Below.heap_setCell _ ⟨w.heap.size + 1 + 1, 1, none⟩ _ _ HN.out.2.2.symm, Below.heap_setCell _ ⟨w.heap.size + 1 + 1, 0, none⟩ _ _ HN.out.2.2.symm]; exact HBK.out)
          · (repeat (refine Below.setCell ?_ (by simp <;> omega) _))
            exact HB2.out
  | exit _ => exact hp.elim
  | goto _ => exact hp.elim
  | ret => exact hp.elim
  | panic _ => exact hp.elim
  | outgrown => exact hp.elim
/-- What Move answers: a moved body, or an error. -/
def MvQ (xs : List (Int × Int)) (lo hi x y z : Int) (E : Int) (w : World) (e_ : Ending) (w' : World) : Prop :=
  (E = 0 → ∃ g C, e_ = .returned (.tuple #[.agg #[.slice (some ⟨g, 0, none⟩) xs.length C, .int .i64 (lo + z), .int .i64 (hi + z)], .int .i64 0]) ∧ xs.length ≤ C ∧ C ≤ 9223372036854775807 ∧ SlS w' (some ⟨g, 0, none⟩) (mv xs x y)) ∧
  (E ≠ 0 → e_ = .returned (.tuple #[.agg #[.slice none 0 0, .int .i64 0, .int .i64 0], .int .i64 E])) ∧ Below w.heap.size w w'
/-- Which error Move answers. -/
def MvE (xs : List (Int × Int)) (lo hi x y z : Int) (E : Int) : Prop :=
  (¬ (Bok xs lo hi ∧ V3 x y z) ∧ E = 1) ∨ (Bok xs lo hi ∧ V3 x y z ∧ ((Bok (mv xs x y) (lo + z) (hi + z) ∧ E = 0) ∨ (¬ Bok (mv xs x y) (lo + z) (hi + z) ∧ E = 3)))
theorem pmove_is (A : Option Addr) (C : Nat) (xs : List (Int × Int)) (lo hi x y z : Int) (hlx : xs.length ≤ 9223372036854775806) (E : Int) (hE : MvE xs lo hi x y z E) (w : World) (hl : SlS w A xs) :
    Calls Try.prog 55 #[.agg #[.slice A xs.length C, .int .i64 lo, .int .i64 hi], .agg #[.int .i64 x, .int .i64 y, .int .i64 z]] w fun e_ w' => MvQ xs lo hi x y z E w e_ w' := by
  rcases hE with ⟨h, rfl⟩ | ⟨hb, hv, h⟩
  · by_cases hb : Bok xs lo hi
    · have hv : vv x y z = false := by
        cases hh : vv x y z
        · rfl
        · exact absurd ⟨hb, vv_iff.1 hh⟩ h
      refine (pm_2 A C xs lo hi x y z hlx (by simp [hb]) hv w hl).mono ?_
      rintro e_ w' ⟨rfl, hw⟩
      exact ⟨fun h => absurd h (by decide), fun _ => rfl, hw⟩
    · refine (pm_1 A C xs lo hi x y z hlx (by simp [hb]) w hl).mono ?_
      rintro e_ w' ⟨rfl, hw⟩
      exact ⟨fun h => absurd h (by decide), fun _ => rfl, hw⟩
  · have hpos : 0 < xs.length := by have := hb.n3; omega
    obtain ⟨b0, o0, rfl, _, _⟩ := hl 0 hpos
    rcases h with ⟨hm, rfl⟩ | ⟨hm, rfl⟩
    · refine (pm_3 b0 o0 C xs lo hi x y z hlx (by simp [hb]) (vv_iff.2 hv) true (by simp [hm]) w hl).mono ?_
      rintro e_ w' ⟨h1, h2, hw⟩
      exact ⟨fun _ => h1 rfl, fun h => absurd rfl h, hw⟩
    · refine (pm_3 b0 o0 C xs lo hi x y z hlx (by simp [hb]) (vv_iff.2 hv) false (by simp [hm]) w hl).mono ?_
      rintro e_ w' ⟨h1, h2, hw⟩
      exact ⟨fun h => absurd h (by decide), fun _ => h2 rfl, hw⟩
end Go.Proofs.Ytgjcmolocoijiaa
