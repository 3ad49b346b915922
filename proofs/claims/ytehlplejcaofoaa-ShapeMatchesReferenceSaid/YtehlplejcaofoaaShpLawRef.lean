/-
  ShapeMatchesReference.
-/
import Derived.Test.YtehlplejcaofoaaShpY
import Derived.Test.YtehlplejcaofoaaShpQC
import Derived.Test.YtehlplejcaofoaaShpQP
import Derived.Test.YtehlplejcaofoaaShpPN
import Derived.Test.YtehlplejcaofoaaRows
import Derived.ProofKit
import Derived.OpenShut
import Derived.Deep.DeepHandedRow
import Derived.Deep.DeepWitnessRowRef
import Derived.MakeChecks
import Derived.Deep.DeepCutAuto
namespace Go.Proofs.Ytehlplejcaofoaa.LawRef
open Go.RowKit Go.Sort
open Go.RowKit (Below)
set_option linter.unusedVariables false
set_option linter.unusedSimpArgs false

theorem pmv_ok (A : Option Addr) (C : Nat) (ys ms : List (Int × Int)) (lo hi x y z l h : Int) (hly : ys.length ≤ 9223372036854775806) (hb : Bok ys lo hi) (hv : V3 x y z) (hm : Bok ms l h) (em : mv ys x y = ms) (el : lo + z = l) (eh : hi + z = h) (w : World) (hl : SlS w A ys) :
    Calls Try.prog 20 #[.agg #[.slice A ys.length C, .int .i64 lo, .int .i64 hi], .agg #[.int .i64 x, .int .i64 y, .int .i64 z]] w fun e_ w' => ∃ g C', e_ = .returned (.tuple #[.agg #[.slice (some ⟨g, 0, none⟩) ms.length C', .int .i64 l, .int .i64 h], .int .i64 0]) ∧ SlS w' (some ⟨g, 0, none⟩) ms ∧ Below w.heap.size w w' := by
  subst em el eh
  refine (pmove_is A C ys lo hi x y z hly 0 (Or.inr ⟨hb, hv, Or.inl ⟨hm, rfl⟩⟩) w hl).mono ?_
  rintro e_ w' ⟨h1, _, hw⟩
  obtain ⟨g, C', rfl, _, _, hs⟩ := h1 rfl
  exact ⟨g, C', by rw [mv_len], hs, hw⟩
theorem pmv_no (A : Option Addr) (C : Nat) (ys : List (Int × Int)) (lo hi x y z E : Int) (hly : ys.length ≤ 9223372036854775806) (hE : MvE ys lo hi x y z E) (hn : E ≠ 0) (w : World) (hl : SlS w A ys) :
    Calls Try.prog 20 #[.agg #[.slice A ys.length C, .int .i64 lo, .int .i64 hi], .agg #[.int .i64 x, .int .i64 y, .int .i64 z]] w fun e_ w' => e_ = .returned (.tuple #[.agg #[.slice none 0 0, .int .i64 0, .int .i64 0], .int .i64 E]) ∧ Below w.heap.size w w' :=
  (pmove_is A C ys lo hi x y z hly E hE w hl).mono fun e_ w' ⟨_, h2, hw⟩ => ⟨h2 hn, hw⟩
theorem qmv_ok (A : Option Addr) (C : Nat) (ys ms : List (Int × Int)) (lo hi x y z l h : Int) (hly : ys.length ≤ 9223372036854775806) (hb : Bok ys lo hi) (hv : V3 x y z) (hm : Bok ms l h) (em : mv ys x y = ms) (el : lo + z = l) (eh : hi + z = h) (w : World) (hl : SlS w A ys) :
    Calls Try.prog 21 #[.agg #[.slice A ys.length C, .int .i64 lo, .int .i64 hi], .agg #[.int .i64 x, .int .i64 y, .int .i64 z]] w fun e_ w' => ∃ g C', e_ = .returned (.tuple #[.agg #[.slice (some ⟨g, 0, none⟩) ms.length C', .int .i64 l, .int .i64 h], .int .i64 0]) ∧ SlS w' (some ⟨g, 0, none⟩) ms ∧ Below w.heap.size w w' := by
  subst em el eh
  refine (qmove_is A C ys lo hi x y z hly 0 (Or.inr ⟨hb, hv, Or.inl ⟨hm, rfl⟩⟩) w hl).mono ?_
  rintro e_ w' ⟨h1, _, hw⟩
  obtain ⟨g, C', rfl, _, _, hs⟩ := h1 rfl
  exact ⟨g, C', by rw [mv_len], hs, hw⟩
theorem qmv_no (A : Option Addr) (C : Nat) (ys : List (Int × Int)) (lo hi x y z E : Int) (hly : ys.length ≤ 9223372036854775806) (hE : MvE ys lo hi x y z E) (hn : E ≠ 0) (w : World) (hl : SlS w A ys) :
    Calls Try.prog 21 #[.agg #[.slice A ys.length C, .int .i64 lo, .int .i64 hi], .agg #[.int .i64 x, .int .i64 y, .int .i64 z]] w fun e_ w' => e_ = .returned (.tuple #[.agg #[.slice none 0 0, .int .i64 0, .int .i64 0], .int .i64 E]) ∧ Below w.heap.size w w' :=
  (qmove_is A C ys lo hi x y z hly E hE w hl).mono fun e_ w' ⟨_, h2, hw⟩ => ⟨h2 hn, hw⟩
set_option maxRecDepth 100000 in
set_option maxHeartbeats 8000000 in
theorem ref_0 (A B : Option Addr) (C D : Nat) (xs ys us zs : List (Int × Int)) (la ha lb hb a b c x y z : Int) (hy : xs.take 20 = ys) (hly : ys.length ≤ 9223372036854775806) (hu : us.take 20 = zs) (hlz : zs.length ≤ 9223372036854775806) (r v s : Bool) (EI EC EA : Int) (R : Cln) (h1 : (Bok ys la ha ∧ V3 a b c ∧ (EI : Int) = 0 ∧ (r = true ↔ InB ys la ha a b c)) ∨ (¬ (Bok ys la ha ∧ V3 a b c) ∧ (EI : Int) = 1 ∧ r = false)) (h2 : v = true ↔ Bok ys la ha) (h4 : ClR ys la ha a b c x y z R EC) (h5 : (Bok ys la ha ∧ Bok zs lb hb ∧ (EA : Int) = 0 ∧ (s = true ↔ Apa ys la ha zs lb hb)) ∨ (¬ (Bok ys la ha ∧ Bok zs lb hb) ∧ (EA : Int) = 1 ∧ s = false)) (E : Int) (hn : E ≠ 0) (h3 : MvE ys la ha x y z E) (w : World) (hl : Lp w A C xs) (hl2 : Lp w B D us) (hm : SlS w A ys) (hm2 : SlS w B zs) :
    Calls Try.prog 3 #[.agg #[.slice A xs.length C, .int .i64 la, .int .i64 ha], .agg #[.slice B us.length D, .int .i64 lb, .int .i64 hb], .agg #[.int .i64 a, .int .i64 b, .int .i64 c], .agg #[.int .i64 x, .int .i64 y, .int .i64 z]] w fun e_ w' => e_ = .returned (.bool true) ∧ Below w.heap.size w w' := by
  have HL := Lib.hid hl
  clear hl
  have HM := Lib.hid hm
  clear hm
  have HL2 := Lib.hid hl2
  clear hl2
  have HM2 := Lib.hid hm2
  clear hm2
  have C1 := Lib.hid (fun W (h : SlS W A ys) => pinside_is A C ys la ha a b c hly r EI h1 W h)
  have C2 := Lib.hid (fun W (h : SlS W A ys) => qinside_is A C ys la ha a b c (by omega) r EI h1 W h)
  have C3 := Lib.hid (fun W (h : SlS W A ys) => pvalid_is A C ys la ha hly v h2 W h)
  have C4 := Lib.hid (fun W (h : SlS W A ys) => qvalid_is A C ys la ha (by omega) v h2 W h)
  have C5 := Lib.hid (fun W (h : SlS W A ys) => pclip_is A C ys la ha a b c x y z hly R EC h4 W h)
  have C6 := Lib.hid (fun W (h : SlS W A ys) => qclip_is A C ys la ha a b c x y z (by omega) R EC h4 W h)
  have C7 := Lib.hid (fun W (h : SlS W A ys) (k : SlS W B zs) => papart_is A B C D ys zs la ha lb hb hly hlz s EA h5 W h k)
  have C8 := Lib.hid (fun W (h : SlS W A ys) (k : SlS W B zs) => qapart_is A B C D ys zs la ha lb hb (by omega) (by omega) s EA h5 W h k)
  have C9 := Lib.hid (fun W (h : SlS W A ys) => pmv_no A C ys la ha x y z E hly h3 hn W h)
  have CA := Lib.hid (fun W (h : SlS W A ys) => qmv_no A C ys la ha x y z E hly h3 hn W h)
  clear h3 hn
  have eqc : (EC == EC) = true := by simp
  have eqa : (EA == EA) = true := by simp
  have eqh : (R.h == R.h) = true := by simp
  have eqs : (s == s) = true := by simp
  have eqe : (E == E) = true := by simp
  have er1 := fun W => rat_eq (a := R.a) (b := R.b) (x := R.a) (y := R.b) (r := true) (by simp) W
  have er2 := fun W => rat_eq (a := R.c) (b := R.d) (x := R.c) (y := R.d) (r := true) (by simp) W
  clear h1 h2 h4 h5
  go_enter Try.func3, Try.ntmps3
  go_wp2_with fail
  obtain ⟨w1, hw1⟩ : ∃ V, ((((w.alloc (.cells #[.slice A xs.length C, .int .i64 la, .int .i64 ha] 24)).alloc (.cells #[.slice B us.length D, .int .i64 lb, .int .i64 hb] 24)).alloc (.cells #[.int .i64 a, .int .i64 b, .int .i64 c] 26)).alloc (.cells #[.int .i64 x, .int .i64 y, .int .i64 z] 26)) = V := ⟨_, rfl⟩
  obtain ⟨hB_, km, kn, kp, kq⟩ := boxes4 _ _ _ _ _ hw1
  rw [hw1]
  clear hw1
  have HB := Lib.hid hB_
  clear hB_
  have m0 := (cells3 km).1
  have m1 := (cells3 km).2.1
  have m2 := (cells3 km).2.2
  have lm := block_lt m0
  have n0 := (cells3 kn).1
  have n1 := (cells3 kn).2.1
  have n2 := (cells3 kn).2.2
  have ln := block_lt n0
  have p0 := (cells3 kp).1
  have p1 := (cells3 kp).2.1
  have p2 := (cells3 kp).2.2
  have lp := block_lt p0
  have q0 := (cells3 kq).1
  have q1 := (cells3 kq).2.1
  have q2 := (cells3 kq).2.2
  have lq := block_lt q0
  with_reducible refine (head_any _).mono ?_
  rintro e_ w2 ⟨rfl, hb⟩
  replace HB := Lib.hid (on_below HB.out hb)
  replace m0 := keepc hb m0
  replace m1 := keepc hb m1
  replace m2 := keepc hb m2
  replace n0 := keepc hb n0
  replace n1 := keepc hb n1
  replace n2 := keepc hb n2
  replace p0 := keepc hb p0
  replace p1 := keepc hb p1
  replace p2 := keepc hb p2
  replace q0 := keepc hb q0
  replace q1 := keepc hb q1
  replace q2 := keepc hb q2
  replace km := blk_on km hb
  replace kn := blk_on kn hb
  replace kp := blk_on kp hb
  replace kq := blk_on kq hb
  replace lm := Nat.lt_of_lt_of_le lm hb.size
  replace ln := Nat.lt_of_lt_of_le ln hb.size
  replace lp := Nat.lt_of_lt_of_le lp hb.size
  replace lq := Nat.lt_of_lt_of_le lq hb.size
  clear hb
  go_wp2_with fail
  have CF := Lib.hid (fun W (h : Lp W A C xs) => few_is A C xs la ha W h)
  rw [hy] at CF
  with_reducible refine (CF.out _ (HL.out.below HB.out)).mono ?_
  rintro e_ w3 ⟨rfl, hb⟩
  replace HB := Lib.hid (on_below HB.out hb)
  replace m0 := keepc hb m0
  replace m1 := keepc hb m1
  replace m2 := keepc hb m2
  replace n0 := keepc hb n0
  replace n1 := keepc hb n1
  replace n2 := keepc hb n2
  replace p0 := keepc hb p0
  replace p1 := keepc hb p1
  replace p2 := keepc hb p2
  replace q0 := keepc hb q0
  replace q1 := keepc hb q1
  replace q2 := keepc hb q2
  replace km := blk_on km hb
  replace kn := blk_on kn hb
  replace kp := blk_on kp hb
  replace kq := blk_on kq hb
  replace lm := Nat.lt_of_lt_of_le lm hb.size
  replace ln := Nat.lt_of_lt_of_le ln hb.size
  replace lp := Nat.lt_of_lt_of_le lp hb.size
  replace lq := Nat.lt_of_lt_of_le lq hb.size
  clear hb
  have fm0 : World.frozen? w3 ⟨w.heap.size, 0, none⟩ = false := by simp [World.frozen?, km]
  have fm1 : World.frozen? w3 ⟨w.heap.size, 1, none⟩ = false := by simp [World.frozen?, km]
  have fm2 : World.frozen? w3 ⟨w.heap.size, 2, none⟩ = false := by simp [World.frozen?, km]
  go_wp2_with fail
  clear CF fm0 fm1 fm2 m0 m1 m2 n0 n1 n2 p0 p1 p2 q0 q1 q2 lm ln lp lq
  replace km : (((w3.setCell ⟨w.heap.size, 0, none⟩ (.slice A ys.length C)).setCell ⟨w.heap.size, 1, none⟩ (.int .i64 la)).setCell ⟨w.heap.size, 2, none⟩ (.int .i64 ha)).heap[w.heap.size]? = some (.cells #[.slice A ys.length C, .int .i64 la, .int .i64 ha] 24 (0, 0)) := set_cells (set_cells (set_cells km 0 _) 1 _) 2 _
  replace kn : (((w3.setCell ⟨w.heap.size, 0, none⟩ (.slice A ys.length C)).setCell ⟨w.heap.size, 1, none⟩ (.int .i64 la)).setCell ⟨w.heap.size, 2, none⟩ (.int .i64 ha)).heap[w.heap.size + 1]? = _ := blk_far (blk_far (blk_far kn (by omega)) (by omega)) (by omega)
  replace kp : (((w3.setCell ⟨w.heap.size, 0, none⟩ (.slice A ys.length C)).setCell ⟨w.heap.size, 1, none⟩ (.int .i64 la)).setCell ⟨w.heap.size, 2, none⟩ (.int .i64 ha)).heap[w.heap.size + 1 + 1]? = _ := blk_far (blk_far (blk_far kp (by omega)) (by omega)) (by omega)
  replace kq : (((w3.setCell ⟨w.heap.size, 0, none⟩ (.slice A ys.length C)).setCell ⟨w.heap.size, 1, none⟩ (.int .i64 la)).setCell ⟨w.heap.size, 2, none⟩ (.int .i64 ha)).heap[w.heap.size + 1 + 1 + 1]? = _ := blk_far (blk_far (blk_far kq (by omega)) (by omega)) (by omega)
  replace HB := Lib.hid (show Below w.heap.size w (((w3.setCell ⟨w.heap.size, 0, none⟩ (.slice A ys.length C)).setCell ⟨w.heap.size, 1, none⟩ (.int .i64 la)).setCell ⟨w.heap.size, 2, none⟩ (.int .i64 ha)) from ((HB.out.setCell (by simp <;> omega) _).setCell (by simp <;> omega) _).setCell (by simp <;> omega) _)
  generalize (((w3.setCell ⟨w.heap.size, 0, none⟩ (.slice A ys.length C)).setCell ⟨w.heap.size, 1, none⟩ (.int .i64 la)).setCell ⟨w.heap.size, 2, none⟩ (.int .i64 ha)) = w4 at *
  have m0 := (cells3 km).1
  have m1 := (cells3 km).2.1
  have m2 := (cells3 km).2.2
  have lm := block_lt m0
  have n0 := (cells3 kn).1
  have n1 := (cells3 kn).2.1
  have n2 := (cells3 kn).2.2
  have ln := block_lt n0
  have p0 := (cells3 kp).1
  have p1 := (cells3 kp).2.1
  have p2 := (cells3 kp).2.2
  have lp := block_lt p0
  have q0 := (cells3 kq).1
  have q1 := (cells3 kq).2.1
  have q2 := (cells3 kq).2.2
  have lq := block_lt q0
  go_wp2_with fail
  have CF := Lib.hid (fun W (h : Lp W B D us) => few_is B D us lb hb W h)
  rw [hu] at CF
  with_reducible refine (CF.out _ (HL2.out.below HB.out)).mono ?_
  rintro e_ w5 ⟨rfl, hb⟩
  replace HB := Lib.hid (on_below HB.out hb)
  replace m0 := keepc hb m0
  replace m1 := keepc hb m1
  replace m2 := keepc hb m2
  replace n0 := keepc hb n0
  replace n1 := keepc hb n1
  replace n2 := keepc hb n2
  replace p0 := keepc hb p0
  replace p1 := keepc hb p1
  replace p2 := keepc hb p2
  replace q0 := keepc hb q0
  replace q1 := keepc hb q1
  replace q2 := keepc hb q2
  replace km := blk_on km hb
  replace kn := blk_on kn hb
  replace kp := blk_on kp hb
  replace kq := blk_on kq hb
  replace lm := Nat.lt_of_lt_of_le lm hb.size
  replace ln := Nat.lt_of_lt_of_le ln hb.size
  replace lp := Nat.lt_of_lt_of_le lp hb.size
  replace lq := Nat.lt_of_lt_of_le lq hb.size
  clear hb
  have fn0 : World.frozen? w5 ⟨w.heap.size + 1, 0, none⟩ = false := by simp [World.frozen?, kn]
  have fn1 : World.frozen? w5 ⟨w.heap.size + 1, 1, none⟩ = false := by simp [World.frozen?, kn]
  have fn2 : World.frozen? w5 ⟨w.heap.size + 1, 2, none⟩ = false := by simp [World.frozen?, kn]
  go_wp2_with fail
  clear CF fn0 fn1 fn2 m0 m1 m2 n0 n1 n2 p0 p1 p2 q0 q1 q2 lm ln lp lq
  replace kn : (((w5.setCell ⟨w.heap.size + 1, 0, none⟩ (.slice B zs.length D)).setCell ⟨w.heap.size + 1, 1, none⟩ (.int .i64 lb)).setCell ⟨w.heap.size + 1, 2, none⟩ (.int .i64 hb)).heap[w.heap.size + 1]? = some (.cells #[.slice B zs.length D, .int .i64 lb, .int .i64 hb] 24 (0, 0)) := set_cells (set_cells (set_cells kn 0 _) 1 _) 2 _
  replace km : (((w5.setCell ⟨w.heap.size + 1, 0, none⟩ (.slice B zs.length D)).setCell ⟨w.heap.size + 1, 1, none⟩ (.int .i64 lb)).setCell ⟨w.heap.size + 1, 2, none⟩ (.int .i64 hb)).heap[w.heap.size]? = _ := blk_far (blk_far (blk_far km (by omega)) (by omega)) (by omega)
  replace kp : (((w5.setCell ⟨w.heap.size + 1, 0, none⟩ (.slice B zs.length D)).setCell ⟨w.heap.size + 1, 1, none⟩ (.int .i64 lb)).setCell ⟨w.heap.size + 1, 2, none⟩ (.int .i64 hb)).heap[w.heap.size + 1 + 1]? = _ := blk_far (blk_far (blk_far kp (by omega)) (by omega)) (by omega)
  replace kq : (((w5.setCell ⟨w.heap.size + 1, 0, none⟩ (.slice B zs.length D)).setCell ⟨w.heap.size + 1, 1, none⟩ (.int .i64 lb)).setCell ⟨w.heap.size + 1, 2, none⟩ (.int .i64 hb)).heap[w.heap.size + 1 + 1 + 1]? = _ := blk_far (blk_far (blk_far kq (by omega)) (by omega)) (by omega)
  replace HB := Lib.hid (show Below w.heap.size w (((w5.setCell ⟨w.heap.size + 1, 0, none⟩ (.slice B zs.length D)).setCell ⟨w.heap.size + 1, 1, none⟩ (.int .i64 lb)).setCell ⟨w.heap.size + 1, 2, none⟩ (.int .i64 hb)) from ((HB.out.setCell (by simp <;> omega) _).setCell (by simp <;> omega) _).setCell (by simp <;> omega) _)
  generalize (((w5.setCell ⟨w.heap.size + 1, 0, none⟩ (.slice B zs.length D)).setCell ⟨w.heap.size + 1, 1, none⟩ (.int .i64 lb)).setCell ⟨w.heap.size + 1, 2, none⟩ (.int .i64 hb)) = w6 at *
  have m0 := (cells3 km).1
  have m1 := (cells3 km).2.1
  have m2 := (cells3 km).2.2
  have lm := block_lt m0
  have n0 := (cells3 kn).1
  have n1 := (cells3 kn).2.1
  have n2 := (cells3 kn).2.2
  have ln := block_lt n0
  have p0 := (cells3 kp).1
  have p1 := (cells3 kp).2.1
  have p2 := (cells3 kp).2.2
  have lp := block_lt p0
  have q0 := (cells3 kq).1
  have q1 := (cells3 kq).2.1
  have q2 := (cells3 kq).2.2
  have lq := block_lt q0
  go_wp2_with fail
  with_reducible refine (C1.out _ (HM.out.below HB.out)).mono ?_
  rintro e_ w7 ⟨rfl, hb⟩
  replace HB := Lib.hid (on_below HB.out hb)
  replace m0 := keepc hb m0
  replace m1 := keepc hb m1
  replace m2 := keepc hb m2
  replace n0 := keepc hb n0
  replace n1 := keepc hb n1
  replace n2 := keepc hb n2
  replace p0 := keepc hb p0
  replace p1 := keepc hb p1
  replace p2 := keepc hb p2
  replace q0 := keepc hb q0
  replace q1 := keepc hb q1
  replace q2 := keepc hb q2
  replace km := blk_on km hb
  replace kn := blk_on kn hb
  replace kp := blk_on kp hb
  replace kq := blk_on kq hb
  replace lm := Nat.lt_of_lt_of_le lm hb.size
  replace ln := Nat.lt_of_lt_of_le ln hb.size
  replace lp := Nat.lt_of_lt_of_le lp hb.size
  replace lq := Nat.lt_of_lt_of_le lq hb.size
  clear hb
  go_wp2_with fail
  with_reducible refine (C2.out _ (HM.out.below HB.out)).mono ?_
  rintro e_ w8 ⟨rfl, hb⟩
  replace HB := Lib.hid (on_below HB.out hb)
  replace m0 := keepc hb m0
  replace m1 := keepc hb m1
  replace m2 := keepc hb m2
  replace n0 := keepc hb n0
  replace n1 := keepc hb n1
  replace n2 := keepc hb n2
  replace p0 := keepc hb p0
  replace p1 := keepc hb p1
  replace p2 := keepc hb p2
  replace q0 := keepc hb q0
  replace q1 := keepc hb q1
  replace q2 := keepc hb q2
  replace km := blk_on km hb
  replace kn := blk_on kn hb
  replace kp := blk_on kp hb
  replace kq := blk_on kq hb
  replace lm := Nat.lt_of_lt_of_le lm hb.size
  replace ln := Nat.lt_of_lt_of_le ln hb.size
  replace lp := Nat.lt_of_lt_of_le lp hb.size
  replace lq := Nat.lt_of_lt_of_le lq hb.size
  clear hb
  go_wp2_with fail
  have K3 := Lib.hid (fun W (h : Below w8.heap.size w8 W) => C3.out W (HM.out.below (on_below HB.out h)))
  have K4 := Lib.hid (fun W (h : Below w8.heap.size w8 W) => C4.out W (HM.out.below (on_below HB.out h)))
  have eqi : (EI == EI) = true := by simp
  have eqr : (r == r) = true := by simp
  have eqv : (v == v) = true := by simp
  have kp : ∀ {W : World}, Below w8.heap.size w8 W → W.cell? ⟨w.heap.size, 0, none⟩ = some (.slice A ys.length C) ∧ W.cell? ⟨w.heap.size, 1, none⟩ = some (.int .i64 la) ∧ W.cell? ⟨w.heap.size, 2, none⟩ = some (.int .i64 ha) ∧ Below w8.heap.size w8 W := fun h => ⟨keepc h m0, keepc h m1, keepc h m2, h⟩
  go_region_held3 (fun W => W.cell? ⟨w.heap.size, 0, none⟩ = some (.slice A ys.length C) ∧ W.cell? ⟨w.heap.size, 1, none⟩ = some (.int .i64 la) ∧ W.cell? ⟨w.heap.size, 2, none⟩ = some (.int .i64 ha) ∧ Below w8.heap.size w8 W)
    (first | assumption | exact kp (Below.refl _ _).drew | (go_split_ands; refine kp ?_; (first | (refine on_below ?_ hb; assumption) | assumption)))
    (first | (go_at_call 18; (with_reducible refine (K3.out _ ?_).mono ?_); (first | exact (Below.refl _ _).drew | (go_split_ands; assumption)); rintro e' wh ⟨rfl, hb⟩) | (go_at_call 19; (with_reducible refine (K4.out _ ?_).mono ?_); (first | exact (Below.refl _ _).drew | (go_split_ands; assumption)); rintro e' wh ⟨rfl, hb⟩))
  go_split_ands
  have hB : Below w8.heap.size w8 wh := by assumption
  have hb := hB
  clear hB kp
  replace HB := Lib.hid (on_below HB.out hb)
  replace m0 := keepc hb m0
  replace m1 := keepc hb m1
  replace m2 := keepc hb m2
  replace n0 := keepc hb n0
  replace n1 := keepc hb n1
  replace n2 := keepc hb n2
  replace p0 := keepc hb p0
  replace p1 := keepc hb p1
  replace p2 := keepc hb p2
  replace q0 := keepc hb q0
  replace q1 := keepc hb q1
  replace q2 := keepc hb q2
  replace km := blk_on km hb
  replace kn := blk_on kn hb
  replace kp := blk_on kp hb
  replace kq := blk_on kq hb
  replace lm := Nat.lt_of_lt_of_le lm hb.size
  replace ln := Nat.lt_of_lt_of_le ln hb.size
  replace lp := Nat.lt_of_lt_of_le lp hb.size
  replace lq := Nat.lt_of_lt_of_le lq hb.size
  clear hb
  go_wp2_with fail
  clear K3 K4
  with_reducible refine (C9.out _ (HM.out.below HB.out)).mono ?_
  rintro e_ w9 ⟨rfl, hb⟩
  replace HB := Lib.hid (on_below HB.out hb)
  replace m0 := keepc hb m0
  replace m1 := keepc hb m1
  replace m2 := keepc hb m2
  replace n0 := keepc hb n0
  replace n1 := keepc hb n1
  replace n2 := keepc hb n2
  replace p0 := keepc hb p0
  replace p1 := keepc hb p1
  replace p2 := keepc hb p2
  replace q0 := keepc hb q0
  replace q1 := keepc hb q1
  replace q2 := keepc hb q2
  replace km := blk_on km hb
  replace kn := blk_on kn hb
  replace kp := blk_on kp hb
  replace kq := blk_on kq hb
  replace lm := Nat.lt_of_lt_of_le lm hb.size
  replace ln := Nat.lt_of_lt_of_le ln hb.size
  replace lp := Nat.lt_of_lt_of_le lp hb.size
  replace lq := Nat.lt_of_lt_of_le lq hb.size
  clear hb
  go_wp2_with fail
  have c0 : World.cell? (w9.alloc (.cells #[.slice none 0 0, .int .i64 0, .int .i64 0] 24)) ⟨w9.heap.size, 0, none⟩ = some (.slice none 0 0) := by simp [go_sem]
  have c1 : World.cell? (w9.alloc (.cells #[.slice none 0 0, .int .i64 0, .int .i64 0] 24)) ⟨w9.heap.size, 1, none⟩ = some (.int .i64 0) := by simp [go_sem]
  have c2 : World.cell? (w9.alloc (.cells #[.slice none 0 0, .int .i64 0, .int .i64 0] 24)) ⟨w9.heap.size, 2, none⟩ = some (.int .i64 0) := by simp [go_sem]
  have lc : w9.heap.size < (w9.alloc (.cells #[.slice none 0 0, .int .i64 0, .int .i64 0] 24)).heap.size := by simp
  have hb : Below w9.heap.size w9 (w9.alloc (.cells #[.slice none 0 0, .int .i64 0, .int .i64 0] 24)) := below_new _ _
  generalize w9.alloc (.cells #[.slice none 0 0, .int .i64 0, .int .i64 0] 24) = w10 at *
  replace HB := Lib.hid (on_below HB.out hb)
  replace m0 := keepc hb m0
  replace m1 := keepc hb m1
  replace m2 := keepc hb m2
  replace n0 := keepc hb n0
  replace n1 := keepc hb n1
  replace n2 := keepc hb n2
  replace p0 := keepc hb p0
  replace p1 := keepc hb p1
  replace p2 := keepc hb p2
  replace q0 := keepc hb q0
  replace q1 := keepc hb q1
  replace q2 := keepc hb q2
  replace km := blk_on km hb
  replace kn := blk_on kn hb
  replace kp := blk_on kp hb
  replace kq := blk_on kq hb
  replace lm := Nat.lt_of_lt_of_le lm hb.size
  replace ln := Nat.lt_of_lt_of_le ln hb.size
  replace lp := Nat.lt_of_lt_of_le lp hb.size
  replace lq := Nat.lt_of_lt_of_le lq hb.size
  clear hb
  generalize w9.heap.size = gc at *
  go_wp2_with fail
  with_reducible refine (CA.out _ (HM.out.below HB.out)).mono ?_
  rintro e_ w11 ⟨rfl, hb⟩
  replace HB := Lib.hid (on_below HB.out hb)
  replace m0 := keepc hb m0
  replace m1 := keepc hb m1
  replace m2 := keepc hb m2
  replace n0 := keepc hb n0
  replace n1 := keepc hb n1
  replace n2 := keepc hb n2
  replace p0 := keepc hb p0
  replace p1 := keepc hb p1
  replace p2 := keepc hb p2
  replace q0 := keepc hb q0
  replace q1 := keepc hb q1
  replace q2 := keepc hb q2
  replace c0 := keepc hb c0
  replace c1 := keepc hb c1
  replace c2 := keepc hb c2
  replace km := blk_on km hb
  replace kn := blk_on kn hb
  replace kp := blk_on kp hb
  replace kq := blk_on kq hb
  replace lm := Nat.lt_of_lt_of_le lm hb.size
  replace ln := Nat.lt_of_lt_of_le ln hb.size
  replace lp := Nat.lt_of_lt_of_le lp hb.size
  replace lq := Nat.lt_of_lt_of_le lq hb.size
  replace lc := Nat.lt_of_lt_of_le lc hb.size
  clear hb
  go_wp2_with fail
  have d0 : World.cell? (w11.alloc (.cells #[.slice none 0 0, .int .i64 0, .int .i64 0] 24)) ⟨w11.heap.size, 0, none⟩ = some (.slice none 0 0) := by simp [go_sem]
  have d1 : World.cell? (w11.alloc (.cells #[.slice none 0 0, .int .i64 0, .int .i64 0] 24)) ⟨w11.heap.size, 1, none⟩ = some (.int .i64 0) := by simp [go_sem]
  have d2 : World.cell? (w11.alloc (.cells #[.slice none 0 0, .int .i64 0, .int .i64 0] 24)) ⟨w11.heap.size, 2, none⟩ = some (.int .i64 0) := by simp [go_sem]
  have ld : w11.heap.size < (w11.alloc (.cells #[.slice none 0 0, .int .i64 0, .int .i64 0] 24)).heap.size := by simp
  have hb : Below w11.heap.size w11 (w11.alloc (.cells #[.slice none 0 0, .int .i64 0, .int .i64 0] 24)) := below_new _ _
  generalize w11.alloc (.cells #[.slice none 0 0, .int .i64 0, .int .i64 0] 24) = w12 at *
  replace HB := Lib.hid (on_below HB.out hb)
  replace m0 := keepc hb m0
  replace m1 := keepc hb m1
  replace m2 := keepc hb m2
  replace n0 := keepc hb n0
  replace n1 := keepc hb n1
  replace n2 := keepc hb n2
  replace p0 := keepc hb p0
  replace p1 := keepc hb p1
  replace p2 := keepc hb p2
  replace q0 := keepc hb q0
  replace q1 := keepc hb q1
  replace q2 := keepc hb q2
  replace c0 := keepc hb c0
  replace c1 := keepc hb c1
  replace c2 := keepc hb c2
  replace km := blk_on km hb
  replace kn := blk_on kn hb
  replace kp := blk_on kp hb
  replace kq := blk_on kq hb
  replace lm := Nat.lt_of_lt_of_le lm hb.size
  replace ln := Nat.lt_of_lt_of_le ln hb.size
  replace lp := Nat.lt_of_lt_of_le lp hb.size
  replace lq := Nat.lt_of_lt_of_le lq hb.size
  replace lc := Nat.lt_of_lt_of_le lc hb.size
  clear hb
  generalize w11.heap.size = gd at *
  go_wp2_with fail
  clear C9 CA
  have KS := Lib.hid (show ∀ W, Calls Try.prog 22 #[.agg #[.slice none 0 0, .int .i64 0, .int .i64 0], .agg #[.slice none 0 0, .int .i64 0, .int .i64 0]] W fun e_ w' => e_ = .returned (.bool true) ∧ Below W.heap.size W w' from fun W => qsame_is none none 0 0 [] [] 0 0 0 0 (by simp) (by simp) true (by simp) W (fun k hk => absurd hk (by simp)) (fun k hk => absurd hk (by simp)))
  with_reducible refine (KS.out _).mono ?_
  rintro e_ w13 ⟨rfl, hb⟩
  replace HB := Lib.hid (on_below HB.out hb)
  replace m0 := keepc hb m0
  replace m1 := keepc hb m1
  replace m2 := keepc hb m2
  replace n0 := keepc hb n0
  replace n1 := keepc hb n1
  replace n2 := keepc hb n2
  replace p0 := keepc hb p0
  replace p1 := keepc hb p1
  replace p2 := keepc hb p2
  replace q0 := keepc hb q0
  replace q1 := keepc hb q1
  replace q2 := keepc hb q2
  replace c0 := keepc hb c0
  replace c1 := keepc hb c1
  replace c2 := keepc hb c2
  replace d0 := keepc hb d0
  replace d1 := keepc hb d1
  replace d2 := keepc hb d2
  replace km := blk_on km hb
  replace kn := blk_on kn hb
  replace kp := blk_on kp hb
  replace kq := blk_on kq hb
  replace lm := Nat.lt_of_lt_of_le lm hb.size
  replace ln := Nat.lt_of_lt_of_le ln hb.size
  replace lp := Nat.lt_of_lt_of_le lp hb.size
  replace lq := Nat.lt_of_lt_of_le lq hb.size
  replace lc := Nat.lt_of_lt_of_le lc hb.size
  replace ld := Nat.lt_of_lt_of_le ld hb.size
  clear hb
  go_wp2_with fail
  clear KS
  with_reducible refine (C5.out _ (HM.out.below HB.out)).mono ?_
  rintro e_ w14 ⟨rfl, hb⟩
  replace HB := Lib.hid (on_below HB.out hb)
  replace m0 := keepc hb m0
  replace m1 := keepc hb m1
  replace m2 := keepc hb m2
  replace n0 := keepc hb n0
  replace n1 := keepc hb n1
  replace n2 := keepc hb n2
  replace p0 := keepc hb p0
  replace p1 := keepc hb p1
  replace p2 := keepc hb p2
  replace q0 := keepc hb q0
  replace q1 := keepc hb q1
  replace q2 := keepc hb q2
  replace c0 := keepc hb c0
  replace c1 := keepc hb c1
  replace c2 := keepc hb c2
  replace d0 := keepc hb d0
  replace d1 := keepc hb d1
  replace d2 := keepc hb d2
  replace km := blk_on km hb
  replace kn := blk_on kn hb
  replace kp := blk_on kp hb
  replace kq := blk_on kq hb
  replace lm := Nat.lt_of_lt_of_le lm hb.size
  replace ln := Nat.lt_of_lt_of_le ln hb.size
  replace lp := Nat.lt_of_lt_of_le lp hb.size
  replace lq := Nat.lt_of_lt_of_le lq hb.size
  replace lc := Nat.lt_of_lt_of_le lc hb.size
  replace ld := Nat.lt_of_lt_of_le ld hb.size
  clear hb
  go_wp2_with fail
  have e0 : World.cell? (w14.alloc (.cells #[.int .i64 (R.a), .int .i64 (R.b)] 37)) ⟨w14.heap.size, 0, none⟩ = some (.int .i64 (R.a)) := by simp [go_sem]
  have e1 : World.cell? (w14.alloc (.cells #[.int .i64 (R.a), .int .i64 (R.b)] 37)) ⟨w14.heap.size, 1, none⟩ = some (.int .i64 (R.b)) := by simp [go_sem]
  have le : w14.heap.size < (w14.alloc (.cells #[.int .i64 (R.a), .int .i64 (R.b)] 37)).heap.size := by simp
  have ze : (w14.alloc (.cells #[.int .i64 (R.a), .int .i64 (R.b)] 37)).heap.size = w14.heap.size + 1 := by simp
  have hb : Below w14.heap.size w14 (w14.alloc (.cells #[.int .i64 (R.a), .int .i64 (R.b)] 37)) := below_new _ _
  generalize w14.alloc (.cells #[.int .i64 (R.a), .int .i64 (R.b)] 37) = w15 at *
  replace HB := Lib.hid (on_below HB.out hb)
  replace m0 := keepc hb m0
  replace m1 := keepc hb m1
  replace m2 := keepc hb m2
  replace n0 := keepc hb n0
  replace n1 := keepc hb n1
  replace n2 := keepc hb n2
  replace p0 := keepc hb p0
  replace p1 := keepc hb p1
  replace p2 := keepc hb p2
  replace q0 := keepc hb q0
  replace q1 := keepc hb q1
  replace q2 := keepc hb q2
  replace c0 := keepc hb c0
  replace c1 := keepc hb c1
  replace c2 := keepc hb c2
  replace d0 := keepc hb d0
  replace d1 := keepc hb d1
  replace d2 := keepc hb d2
  replace km := blk_on km hb
  replace kn := blk_on kn hb
  replace kp := blk_on kp hb
  replace kq := blk_on kq hb
  replace lm := Nat.lt_of_lt_of_le lm hb.size
  replace ln := Nat.lt_of_lt_of_le ln hb.size
  replace lp := Nat.lt_of_lt_of_le lp hb.size
  replace lq := Nat.lt_of_lt_of_le lq hb.size
  replace lc := Nat.lt_of_lt_of_le lc hb.size
  replace ld := Nat.lt_of_lt_of_le ld hb.size
  clear hb
  generalize w14.heap.size = ge at *
  go_wp2_with fail
  have f0 : World.cell? (w15.alloc (.cells #[.int .i64 (R.c), .int .i64 (R.d)] 37)) ⟨ge + 1, 0, none⟩ = some (.int .i64 (R.c)) := by rw [← ze]; simp [go_sem]
  have f1 : World.cell? (w15.alloc (.cells #[.int .i64 (R.c), .int .i64 (R.d)] 37)) ⟨ge + 1, 1, none⟩ = some (.int .i64 (R.d)) := by rw [← ze]; simp [go_sem]
  have lf : ge + 1 < (w15.alloc (.cells #[.int .i64 (R.c), .int .i64 (R.d)] 37)).heap.size := by rw [← ze]; simp
  have hb : Below w15.heap.size w15 (w15.alloc (.cells #[.int .i64 (R.c), .int .i64 (R.d)] 37)) := below_new _ _
  generalize w15.alloc (.cells #[.int .i64 (R.c), .int .i64 (R.d)] 37) = w16 at *
  replace HB := Lib.hid (on_below HB.out hb)
  replace m0 := keepc hb m0
  replace m1 := keepc hb m1
  replace m2 := keepc hb m2
  replace n0 := keepc hb n0
  replace n1 := keepc hb n1
  replace n2 := keepc hb n2
  replace p0 := keepc hb p0
  replace p1 := keepc hb p1
  replace p2 := keepc hb p2
  replace q0 := keepc hb q0
  replace q1 := keepc hb q1
  replace q2 := keepc hb q2
  replace c0 := keepc hb c0
  replace c1 := keepc hb c1
  replace c2 := keepc hb c2
  replace d0 := keepc hb d0
  replace d1 := keepc hb d1
  replace d2 := keepc hb d2
  replace e0 := keepc hb e0
  replace e1 := keepc hb e1
  replace km := blk_on km hb
  replace kn := blk_on kn hb
  replace kp := blk_on kp hb
  replace kq := blk_on kq hb
  replace lm := Nat.lt_of_lt_of_le lm hb.size
  replace ln := Nat.lt_of_lt_of_le ln hb.size
  replace lp := Nat.lt_of_lt_of_le lp hb.size
  replace lq := Nat.lt_of_lt_of_le lq hb.size
  replace lc := Nat.lt_of_lt_of_le lc hb.size
  replace ld := Nat.lt_of_lt_of_le ld hb.size
  replace le := Nat.lt_of_lt_of_le le hb.size
  clear hb
  clear ze
  have nf : ge < ge + 1 := Nat.lt_succ_self _
  generalize ge + 1 = gf at *
  go_wp2_with fail
  with_reducible refine (C6.out _ (HM.out.below HB.out)).mono ?_
  rintro e_ w17 ⟨rfl, hb⟩
  replace HB := Lib.hid (on_below HB.out hb)
  replace m0 := keepc hb m0
  replace m1 := keepc hb m1
  replace m2 := keepc hb m2
  replace n0 := keepc hb n0
  replace n1 := keepc hb n1
  replace n2 := keepc hb n2
  replace p0 := keepc hb p0
  replace p1 := keepc hb p1
  replace p2 := keepc hb p2
  replace q0 := keepc hb q0
  replace q1 := keepc hb q1
  replace q2 := keepc hb q2
  replace c0 := keepc hb c0
  replace c1 := keepc hb c1
  replace c2 := keepc hb c2
  replace d0 := keepc hb d0
  replace d1 := keepc hb d1
  replace d2 := keepc hb d2
  replace e0 := keepc hb e0
  replace e1 := keepc hb e1
  replace f0 := keepc hb f0
  replace f1 := keepc hb f1
  replace km := blk_on km hb
  replace kn := blk_on kn hb
  replace kp := blk_on kp hb
  replace kq := blk_on kq hb
  replace lm := Nat.lt_of_lt_of_le lm hb.size
  replace ln := Nat.lt_of_lt_of_le ln hb.size
  replace lp := Nat.lt_of_lt_of_le lp hb.size
  replace lq := Nat.lt_of_lt_of_le lq hb.size
  replace lc := Nat.lt_of_lt_of_le lc hb.size
  replace ld := Nat.lt_of_lt_of_le ld hb.size
  replace le := Nat.lt_of_lt_of_le le hb.size
  replace lf := Nat.lt_of_lt_of_le lf hb.size
  clear hb
  go_wp2_with fail
  have o0 : World.cell? (w17.alloc (.cells #[.int .i64 (R.a), .int .i64 (R.b)] 37)) ⟨w17.heap.size, 0, none⟩ = some (.int .i64 (R.a)) := by simp [go_sem]
  have o1 : World.cell? (w17.alloc (.cells #[.int .i64 (R.a), .int .i64 (R.b)] 37)) ⟨w17.heap.size, 1, none⟩ = some (.int .i64 (R.b)) := by simp [go_sem]
  have lo : w17.heap.size < (w17.alloc (.cells #[.int .i64 (R.a), .int .i64 (R.b)] 37)).heap.size := by simp
  have zo : (w17.alloc (.cells #[.int .i64 (R.a), .int .i64 (R.b)] 37)).heap.size = w17.heap.size + 1 := by simp
  have hb : Below w17.heap.size w17 (w17.alloc (.cells #[.int .i64 (R.a), .int .i64 (R.b)] 37)) := below_new _ _
  generalize w17.alloc (.cells #[.int .i64 (R.a), .int .i64 (R.b)] 37) = w18 at *
  replace HB := Lib.hid (on_below HB.out hb)
  replace m0 := keepc hb m0
  replace m1 := keepc hb m1
  replace m2 := keepc hb m2
  replace n0 := keepc hb n0
  replace n1 := keepc hb n1
  replace n2 := keepc hb n2
  replace p0 := keepc hb p0
  replace p1 := keepc hb p1
  replace p2 := keepc hb p2
  replace q0 := keepc hb q0
  replace q1 := keepc hb q1
  replace q2 := keepc hb q2
  replace c0 := keepc hb c0
  replace c1 := keepc hb c1
  replace c2 := keepc hb c2
  replace d0 := keepc hb d0
  replace d1 := keepc hb d1
  replace d2 := keepc hb d2
  replace e0 := keepc hb e0
  replace e1 := keepc hb e1
  replace f0 := keepc hb f0
  replace f1 := keepc hb f1
  replace km := blk_on km hb
  replace kn := blk_on kn hb
  replace kp := blk_on kp hb
  replace kq := blk_on kq hb
  replace lm := Nat.lt_of_lt_of_le lm hb.size
  replace ln := Nat.lt_of_lt_of_le ln hb.size
  replace lp := Nat.lt_of_lt_of_le lp hb.size
  replace lq := Nat.lt_of_lt_of_le lq hb.size
  replace lc := Nat.lt_of_lt_of_le lc hb.size
  replace ld := Nat.lt_of_lt_of_le ld hb.size
  replace le := Nat.lt_of_lt_of_le le hb.size
  replace lf := Nat.lt_of_lt_of_le lf hb.size
  clear hb
  generalize w17.heap.size = go at *
  go_wp2_with fail
  have u0 : World.cell? (w18.alloc (.cells #[.int .i64 (R.c), .int .i64 (R.d)] 37)) ⟨go + 1, 0, none⟩ = some (.int .i64 (R.c)) := by rw [← zo]; simp [go_sem]
  have u1 : World.cell? (w18.alloc (.cells #[.int .i64 (R.c), .int .i64 (R.d)] 37)) ⟨go + 1, 1, none⟩ = some (.int .i64 (R.d)) := by rw [← zo]; simp [go_sem]
  have lu : go + 1 < (w18.alloc (.cells #[.int .i64 (R.c), .int .i64 (R.d)] 37)).heap.size := by rw [← zo]; simp
  have hb : Below w18.heap.size w18 (w18.alloc (.cells #[.int .i64 (R.c), .int .i64 (R.d)] 37)) := below_new _ _
  generalize w18.alloc (.cells #[.int .i64 (R.c), .int .i64 (R.d)] 37) = w19 at *
  replace HB := Lib.hid (on_below HB.out hb)
  replace m0 := keepc hb m0
  replace m1 := keepc hb m1
  replace m2 := keepc hb m2
  replace n0 := keepc hb n0
  replace n1 := keepc hb n1
  replace n2 := keepc hb n2
  replace p0 := keepc hb p0
  replace p1 := keepc hb p1
  replace p2 := keepc hb p2
  replace q0 := keepc hb q0
  replace q1 := keepc hb q1
  replace q2 := keepc hb q2
  replace c0 := keepc hb c0
  replace c1 := keepc hb c1
  replace c2 := keepc hb c2
  replace d0 := keepc hb d0
  replace d1 := keepc hb d1
  replace d2 := keepc hb d2
  replace e0 := keepc hb e0
  replace e1 := keepc hb e1
  replace f0 := keepc hb f0
  replace f1 := keepc hb f1
  replace o0 := keepc hb o0
  replace o1 := keepc hb o1
  replace km := blk_on km hb
  replace kn := blk_on kn hb
  replace kp := blk_on kp hb
  replace kq := blk_on kq hb
  replace lm := Nat.lt_of_lt_of_le lm hb.size
  replace ln := Nat.lt_of_lt_of_le ln hb.size
  replace lp := Nat.lt_of_lt_of_le lp hb.size
  replace lq := Nat.lt_of_lt_of_le lq hb.size
  replace lc := Nat.lt_of_lt_of_le lc hb.size
  replace ld := Nat.lt_of_lt_of_le ld hb.size
  replace le := Nat.lt_of_lt_of_le le hb.size
  replace lf := Nat.lt_of_lt_of_le lf hb.size
  replace lo := Nat.lt_of_lt_of_le lo hb.size
  clear hb
  clear zo
  have nu : go < go + 1 := Nat.lt_succ_self _
  generalize go + 1 = gu at *
  go_wp2_with fail
  with_reducible refine (C7.out _ (HM.out.below HB.out) (HM2.out.below HB.out)).mono ?_
  rintro e_ w20 ⟨rfl, hb⟩
  replace HB := Lib.hid (on_below HB.out hb)
  replace m0 := keepc hb m0
  replace m1 := keepc hb m1
  replace m2 := keepc hb m2
  replace n0 := keepc hb n0
  replace n1 := keepc hb n1
  replace n2 := keepc hb n2
  replace p0 := keepc hb p0
  replace p1 := keepc hb p1
  replace p2 := keepc hb p2
  replace q0 := keepc hb q0
  replace q1 := keepc hb q1
  replace q2 := keepc hb q2
  replace c0 := keepc hb c0
  replace c1 := keepc hb c1
  replace c2 := keepc hb c2
  replace d0 := keepc hb d0
  replace d1 := keepc hb d1
  replace d2 := keepc hb d2
  replace e0 := keepc hb e0
  replace e1 := keepc hb e1
  replace f0 := keepc hb f0
  replace f1 := keepc hb f1
  replace o0 := keepc hb o0
  replace o1 := keepc hb o1
  replace u0 := keepc hb u0
  replace u1 := keepc hb u1
  replace km := blk_on km hb
  replace kn := blk_on kn hb
  replace kp := blk_on kp hb
  replace kq := blk_on kq hb
  replace lm := Nat.lt_of_lt_of_le lm hb.size
  replace ln := Nat.lt_of_lt_of_le ln hb.size
  replace lp := Nat.lt_of_lt_of_le lp hb.size
  replace lq := Nat.lt_of_lt_of_le lq hb.size
  replace lc := Nat.lt_of_lt_of_le lc hb.size
  replace ld := Nat.lt_of_lt_of_le ld hb.size
  replace le := Nat.lt_of_lt_of_le le hb.size
  replace lf := Nat.lt_of_lt_of_le lf hb.size
  replace lo := Nat.lt_of_lt_of_le lo hb.size
  replace lu := Nat.lt_of_lt_of_le lu hb.size
  clear hb
  go_wp2_with fail
  with_reducible refine (C8.out _ (HM.out.below HB.out) (HM2.out.below HB.out)).mono ?_
  rintro e_ w21 ⟨rfl, hb⟩
  replace HB := Lib.hid (on_below HB.out hb)
  replace m0 := keepc hb m0
  replace m1 := keepc hb m1
  replace m2 := keepc hb m2
  replace n0 := keepc hb n0
  replace n1 := keepc hb n1
  replace n2 := keepc hb n2
  replace p0 := keepc hb p0
  replace p1 := keepc hb p1
  replace p2 := keepc hb p2
  replace q0 := keepc hb q0
  replace q1 := keepc hb q1
  replace q2 := keepc hb q2
  replace c0 := keepc hb c0
  replace c1 := keepc hb c1
  replace c2 := keepc hb c2
  replace d0 := keepc hb d0
  replace d1 := keepc hb d1
  replace d2 := keepc hb d2
  replace e0 := keepc hb e0
  replace e1 := keepc hb e1
  replace f0 := keepc hb f0
  replace f1 := keepc hb f1
  replace o0 := keepc hb o0
  replace o1 := keepc hb o1
  replace u0 := keepc hb u0
  replace u1 := keepc hb u1
  replace km := blk_on km hb
  replace kn := blk_on kn hb
  replace kp := blk_on kp hb
  replace kq := blk_on kq hb
  replace lm := Nat.lt_of_lt_of_le lm hb.size
  replace ln := Nat.lt_of_lt_of_le ln hb.size
  replace lp := Nat.lt_of_lt_of_le lp hb.size
  replace lq := Nat.lt_of_lt_of_le lq hb.size
  replace lc := Nat.lt_of_lt_of_le lc hb.size
  replace ld := Nat.lt_of_lt_of_le ld hb.size
  replace le := Nat.lt_of_lt_of_le le hb.size
  replace lf := Nat.lt_of_lt_of_le lf hb.size
  replace lo := Nat.lt_of_lt_of_le lo hb.size
  replace lu := Nat.lt_of_lt_of_le lu hb.size
  clear hb
  go_wp2_with fail
  go_ret
  exact ⟨rfl, HB.out⟩
set_option maxRecDepth 100000 in
set_option maxHeartbeats 8000000 in
theorem ref_1 (A B : Option Addr) (C D : Nat) (xs ys us zs : List (Int × Int)) (la ha lb hb a b c x y z : Int) (hy : xs.take 20 = ys) (hly : ys.length ≤ 9223372036854775806) (hu : us.take 20 = zs) (hlz : zs.length ≤ 9223372036854775806) (r v s : Bool) (EI EC EA : Int) (R : Cln) (h1 : (Bok ys la ha ∧ V3 a b c ∧ (EI : Int) = 0 ∧ (r = true ↔ InB ys la ha a b c)) ∨ (¬ (Bok ys la ha ∧ V3 a b c) ∧ (EI : Int) = 1 ∧ r = false)) (h2 : v = true ↔ Bok ys la ha) (h4 : ClR ys la ha a b c x y z R EC) (h5 : (Bok ys la ha ∧ Bok zs lb hb ∧ (EA : Int) = 0 ∧ (s = true ↔ Apa ys la ha zs lb hb)) ∨ (¬ (Bok ys la ha ∧ Bok zs lb hb) ∧ (EA : Int) = 1 ∧ s = false)) (ms : List (Int × Int)) (l h : Int) (hb1 : Bok ys la ha) (hv : V3 x y z) (hm1 : Bok ms l h) (em : mv ys x y = ms) (el : la + z = l) (eh : ha + z = h) (hlm : ms.length ≤ 9223372036854775806) (w : World) (hl : Lp w A C xs) (hl2 : Lp w B D us) (hm : SlS w A ys) (hm2 : SlS w B zs) :
    Calls Try.prog 3 #[.agg #[.slice A xs.length C, .int .i64 la, .int .i64 ha], .agg #[.slice B us.length D, .int .i64 lb, .int .i64 hb], .agg #[.int .i64 a, .int .i64 b, .int .i64 c], .agg #[.int .i64 x, .int .i64 y, .int .i64 z]] w fun e_ w' => e_ = .returned (.bool true) ∧ Below w.heap.size w w' := by
  have HL := Lib.hid hl
  clear hl
  have HM := Lib.hid hm
  clear hm
  have HL2 := Lib.hid hl2
  clear hl2
  have HM2 := Lib.hid hm2
  clear hm2
  have C1 := Lib.hid (fun W (h : SlS W A ys) => pinside_is A C ys la ha a b c hly r EI h1 W h)
  have C2 := Lib.hid (fun W (h : SlS W A ys) => qinside_is A C ys la ha a b c (by omega) r EI h1 W h)
  have C3 := Lib.hid (fun W (h : SlS W A ys) => pvalid_is A C ys la ha hly v h2 W h)
  have C4 := Lib.hid (fun W (h : SlS W A ys) => qvalid_is A C ys la ha (by omega) v h2 W h)
  have C5 := Lib.hid (fun W (h : SlS W A ys) => pclip_is A C ys la ha a b c x y z hly R EC h4 W h)
  have C6 := Lib.hid (fun W (h : SlS W A ys) => qclip_is A C ys la ha a b c x y z (by omega) R EC h4 W h)
  have C7 := Lib.hid (fun W (h : SlS W A ys) (k : SlS W B zs) => papart_is A B C D ys zs la ha lb hb hly hlz s EA h5 W h k)
  have C8 := Lib.hid (fun W (h : SlS W A ys) (k : SlS W B zs) => qapart_is A B C D ys zs la ha lb hb (by omega) (by omega) s EA h5 W h k)
  have C9 := Lib.hid (fun W (k : SlS W A ys) => pmv_ok A C ys ms la ha x y z l h hly hb1 hv hm1 em el eh W k)
  have CA := Lib.hid (fun W (k : SlS W A ys) => qmv_ok A C ys ms la ha x y z l h hly hb1 hv hm1 em el eh W k)
  clear hb1 hv hm1 em el eh
  have eqc : (EC == EC) = true := by simp
  have eqa : (EA == EA) = true := by simp
  have eqh : (R.h == R.h) = true := by simp
  have eqs : (s == s) = true := by simp
  have er1 := fun W => rat_eq (a := R.a) (b := R.b) (x := R.a) (y := R.b) (r := true) (by simp) W
  have er2 := fun W => rat_eq (a := R.c) (b := R.d) (x := R.c) (y := R.d) (r := true) (by simp) W
  clear h1 h2 h4 h5
  go_enter Try.func3, Try.ntmps3
  go_wp2_with fail
  obtain ⟨w1, hw1⟩ : ∃ V, ((((w.alloc (.cells #[.slice A xs.length C, .int .i64 la, .int .i64 ha] 24)).alloc (.cells #[.slice B us.length D, .int .i64 lb, .int .i64 hb] 24)).alloc (.cells #[.int .i64 a, .int .i64 b, .int .i64 c] 26)).alloc (.cells #[.int .i64 x, .int .i64 y, .int .i64 z] 26)) = V := ⟨_, rfl⟩
  obtain ⟨hB_, km, kn, kp, kq⟩ := boxes4 _ _ _ _ _ hw1
  rw [hw1]
  clear hw1
  have HB := Lib.hid hB_
  clear hB_
  have m0 := (cells3 km).1
  have m1 := (cells3 km).2.1
  have m2 := (cells3 km).2.2
  have lm := block_lt m0
  have n0 := (cells3 kn).1
  have n1 := (cells3 kn).2.1
  have n2 := (cells3 kn).2.2
  have ln := block_lt n0
  have p0 := (cells3 kp).1
  have p1 := (cells3 kp).2.1
  have p2 := (cells3 kp).2.2
  have lp := block_lt p0
  have q0 := (cells3 kq).1
  have q1 := (cells3 kq).2.1
  have q2 := (cells3 kq).2.2
  have lq := block_lt q0
  with_reducible refine (head_any _).mono ?_
  rintro e_ w2 ⟨rfl, hb⟩
  replace HB := Lib.hid (on_below HB.out hb)
  replace m0 := keepc hb m0
  replace m1 := keepc hb m1
  replace m2 := keepc hb m2
  replace n0 := keepc hb n0
  replace n1 := keepc hb n1
  replace n2 := keepc hb n2
  replace p0 := keepc hb p0
  replace p1 := keepc hb p1
  replace p2 := keepc hb p2
  replace q0 := keepc hb q0
  replace q1 := keepc hb q1
  replace q2 := keepc hb q2
  replace km := blk_on km hb
  replace kn := blk_on kn hb
  replace kp := blk_on kp hb
  replace kq := blk_on kq hb
  replace lm := Nat.lt_of_lt_of_le lm hb.size
  replace ln := Nat.lt_of_lt_of_le ln hb.size
  replace lp := Nat.lt_of_lt_of_le lp hb.size
  replace lq := Nat.lt_of_lt_of_le lq hb.size
  clear hb
  go_wp2_with fail
  have CF := Lib.hid (fun W (h : Lp W A C xs) => few_is A C xs la ha W h)
  rw [hy] at CF
  with_reducible refine (CF.out _ (HL.out.below HB.out)).mono ?_
  rintro e_ w3 ⟨rfl, hb⟩
  replace HB := Lib.hid (on_below HB.out hb)
  replace m0 := keepc hb m0
  replace m1 := keepc hb m1
  replace m2 := keepc hb m2
  replace n0 := keepc hb n0
  replace n1 := keepc hb n1
  replace n2 := keepc hb n2
  replace p0 := keepc hb p0
  replace p1 := keepc hb p1
  replace p2 := keepc hb p2
  replace q0 := keepc hb q0
  replace q1 := keepc hb q1
  replace q2 := keepc hb q2
  replace km := blk_on km hb
  replace kn := blk_on kn hb
  replace kp := blk_on kp hb
  replace kq := blk_on kq hb
  replace lm := Nat.lt_of_lt_of_le lm hb.size
  replace ln := Nat.lt_of_lt_of_le ln hb.size
  replace lp := Nat.lt_of_lt_of_le lp hb.size
  replace lq := Nat.lt_of_lt_of_le lq hb.size
  clear hb
  have fm0 : World.frozen? w3 ⟨w.heap.size, 0, none⟩ = false := by simp [World.frozen?, km]
  have fm1 : World.frozen? w3 ⟨w.heap.size, 1, none⟩ = false := by simp [World.frozen?, km]
  have fm2 : World.frozen? w3 ⟨w.heap.size, 2, none⟩ = false := by simp [World.frozen?, km]
  go_wp2_with fail
  clear CF fm0 fm1 fm2 m0 m1 m2 n0 n1 n2 p0 p1 p2 q0 q1 q2 lm ln lp lq
  replace km : (((w3.setCell ⟨w.heap.size, 0, none⟩ (.slice A ys.length C)).setCell ⟨w.heap.size, 1, none⟩ (.int .i64 la)).setCell ⟨w.heap.size, 2, none⟩ (.int .i64 ha)).heap[w.heap.size]? = some (.cells #[.slice A ys.length C, .int .i64 la, .int .i64 ha] 24 (0, 0)) := set_cells (set_cells (set_cells km 0 _) 1 _) 2 _
  replace kn : (((w3.setCell ⟨w.heap.size, 0, none⟩ (.slice A ys.length C)).setCell ⟨w.heap.size, 1, none⟩ (.int .i64 la)).setCell ⟨w.heap.size, 2, none⟩ (.int .i64 ha)).heap[w.heap.size + 1]? = _ := blk_far (blk_far (blk_far kn (by omega)) (by omega)) (by omega)
  replace kp : (((w3.setCell ⟨w.heap.size, 0, none⟩ (.slice A ys.length C)).setCell ⟨w.heap.size, 1, none⟩ (.int .i64 la)).setCell ⟨w.heap.size, 2, none⟩ (.int .i64 ha)).heap[w.heap.size + 1 + 1]? = _ := blk_far (blk_far (blk_far kp (by omega)) (by omega)) (by omega)
  replace kq : (((w3.setCell ⟨w.heap.size, 0, none⟩ (.slice A ys.length C)).setCell ⟨w.heap.size, 1, none⟩ (.int .i64 la)).setCell ⟨w.heap.size, 2, none⟩ (.int .i64 ha)).heap[w.heap.size + 1 + 1 + 1]? = _ := blk_far (blk_far (blk_far kq (by omega)) (by omega)) (by omega)
  replace HB := Lib.hid (show Below w.heap.size w (((w3.setCell ⟨w.heap.size, 0, none⟩ (.slice A ys.length C)).setCell ⟨w.heap.size, 1, none⟩ (.int .i64 la)).setCell ⟨w.heap.size, 2, none⟩ (.int .i64 ha)) from ((HB.out.setCell (by simp <;> omega) _).setCell (by simp <;> omega) _).setCell (by simp <;> omega) _)
  generalize (((w3.setCell ⟨w.heap.size, 0, none⟩ (.slice A ys.length C)).setCell ⟨w.heap.size, 1, none⟩ (.int .i64 la)).setCell ⟨w.heap.size, 2, none⟩ (.int .i64 ha)) = w4 at *
  have m0 := (cells3 km).1
  have m1 := (cells3 km).2.1
  have m2 := (cells3 km).2.2
  have lm := block_lt m0
  have n0 := (cells3 kn).1
  have n1 := (cells3 kn).2.1
  have n2 := (cells3 kn).2.2
  have ln := block_lt n0
  have p0 := (cells3 kp).1
  have p1 := (cells3 kp).2.1
  have p2 := (cells3 kp).2.2
  have lp := block_lt p0
  have q0 := (cells3 kq).1
  have q1 := (cells3 kq).2.1
  have q2 := (cells3 kq).2.2
  have lq := block_lt q0
  go_wp2_with fail
  have CF := Lib.hid (fun W (h : Lp W B D us) => few_is B D us lb hb W h)
  rw [hu] at CF
  with_reducible refine (CF.out _ (HL2.out.below HB.out)).mono ?_
  rintro e_ w5 ⟨rfl, hb⟩
  replace HB := Lib.hid (on_below HB.out hb)
  replace m0 := keepc hb m0
  replace m1 := keepc hb m1
  replace m2 := keepc hb m2
  replace n0 := keepc hb n0
  replace n1 := keepc hb n1
  replace n2 := keepc hb n2
  replace p0 := keepc hb p0
  replace p1 := keepc hb p1
  replace p2 := keepc hb p2
  replace q0 := keepc hb q0
  replace q1 := keepc hb q1
  replace q2 := keepc hb q2
  replace km := blk_on km hb
  replace kn := blk_on kn hb
  replace kp := blk_on kp hb
  replace kq := blk_on kq hb
  replace lm := Nat.lt_of_lt_of_le lm hb.size
  replace ln := Nat.lt_of_lt_of_le ln hb.size
  replace lp := Nat.lt_of_lt_of_le lp hb.size
  replace lq := Nat.lt_of_lt_of_le lq hb.size
  clear hb
  have fn0 : World.frozen? w5 ⟨w.heap.size + 1, 0, none⟩ = false := by simp [World.frozen?, kn]
  have fn1 : World.frozen? w5 ⟨w.heap.size + 1, 1, none⟩ = false := by simp [World.frozen?, kn]
  have fn2 : World.frozen? w5 ⟨w.heap.size + 1, 2, none⟩ = false := by simp [World.frozen?, kn]
  go_wp2_with fail
  clear CF fn0 fn1 fn2 m0 m1 m2 n0 n1 n2 p0 p1 p2 q0 q1 q2 lm ln lp lq
  replace kn : (((w5.setCell ⟨w.heap.size + 1, 0, none⟩ (.slice B zs.length D)).setCell ⟨w.heap.size + 1, 1, none⟩ (.int .i64 lb)).setCell ⟨w.heap.size + 1, 2, none⟩ (.int .i64 hb)).heap[w.heap.size + 1]? = some (.cells #[.slice B zs.length D, .int .i64 lb, .int .i64 hb] 24 (0, 0)) := set_cells (set_cells (set_cells kn 0 _) 1 _) 2 _
  replace km : (((w5.setCell ⟨w.heap.size + 1, 0, none⟩ (.slice B zs.length D)).setCell ⟨w.heap.size + 1, 1, none⟩ (.int .i64 lb)).setCell ⟨w.heap.size + 1, 2, none⟩ (.int .i64 hb)).heap[w.heap.size]? = _ := blk_far (blk_far (blk_far km (by omega)) (by omega)) (by omega)
  replace kp : (((w5.setCell ⟨w.heap.size + 1, 0, none⟩ (.slice B zs.length D)).setCell ⟨w.heap.size + 1, 1, none⟩ (.int .i64 lb)).setCell ⟨w.heap.size + 1, 2, none⟩ (.int .i64 hb)).heap[w.heap.size + 1 + 1]? = _ := blk_far (blk_far (blk_far kp (by omega)) (by omega)) (by omega)
  replace kq : (((w5.setCell ⟨w.heap.size + 1, 0, none⟩ (.slice B zs.length D)).setCell ⟨w.heap.size + 1, 1, none⟩ (.int .i64 lb)).setCell ⟨w.heap.size + 1, 2, none⟩ (.int .i64 hb)).heap[w.heap.size + 1 + 1 + 1]? = _ := blk_far (blk_far (blk_far kq (by omega)) (by omega)) (by omega)
  replace HB := Lib.hid (show Below w.heap.size w (((w5.setCell ⟨w.heap.size + 1, 0, none⟩ (.slice B zs.length D)).setCell ⟨w.heap.size + 1, 1, none⟩ (.int .i64 lb)).setCell ⟨w.heap.size + 1, 2, none⟩ (.int .i64 hb)) from ((HB.out.setCell (by simp <;> omega) _).setCell (by simp <;> omega) _).setCell (by simp <;> omega) _)
  generalize (((w5.setCell ⟨w.heap.size + 1, 0, none⟩ (.slice B zs.length D)).setCell ⟨w.heap.size + 1, 1, none⟩ (.int .i64 lb)).setCell ⟨w.heap.size + 1, 2, none⟩ (.int .i64 hb)) = w6 at *
  have m0 := (cells3 km).1
  have m1 := (cells3 km).2.1
  have m2 := (cells3 km).2.2
  have lm := block_lt m0
  have n0 := (cells3 kn).1
  have n1 := (cells3 kn).2.1
  have n2 := (cells3 kn).2.2
  have ln := block_lt n0
  have p0 := (cells3 kp).1
  have p1 := (cells3 kp).2.1
  have p2 := (cells3 kp).2.2
  have lp := block_lt p0
  have q0 := (cells3 kq).1
  have q1 := (cells3 kq).2.1
  have q2 := (cells3 kq).2.2
  have lq := block_lt q0
  go_wp2_with fail
  with_reducible refine (C1.out _ (HM.out.below HB.out)).mono ?_
  rintro e_ w7 ⟨rfl, hb⟩
  replace HB := Lib.hid (on_below HB.out hb)
  replace m0 := keepc hb m0
  replace m1 := keepc hb m1
  replace m2 := keepc hb m2
  replace n0 := keepc hb n0
  replace n1 := keepc hb n1
  replace n2 := keepc hb n2
  replace p0 := keepc hb p0
  replace p1 := keepc hb p1
  replace p2 := keepc hb p2
  replace q0 := keepc hb q0
  replace q1 := keepc hb q1
  replace q2 := keepc hb q2
  replace km := blk_on km hb
  replace kn := blk_on kn hb
  replace kp := blk_on kp hb
  replace kq := blk_on kq hb
  replace lm := Nat.lt_of_lt_of_le lm hb.size
  replace ln := Nat.lt_of_lt_of_le ln hb.size
  replace lp := Nat.lt_of_lt_of_le lp hb.size
  replace lq := Nat.lt_of_lt_of_le lq hb.size
  clear hb
  go_wp2_with fail
  with_reducible refine (C2.out _ (HM.out.below HB.out)).mono ?_
  rintro e_ w8 ⟨rfl, hb⟩
  replace HB := Lib.hid (on_below HB.out hb)
  replace m0 := keepc hb m0
  replace m1 := keepc hb m1
  replace m2 := keepc hb m2
  replace n0 := keepc hb n0
  replace n1 := keepc hb n1
  replace n2 := keepc hb n2
  replace p0 := keepc hb p0
  replace p1 := keepc hb p1
  replace p2 := keepc hb p2
  replace q0 := keepc hb q0
  replace q1 := keepc hb q1
  replace q2 := keepc hb q2
  replace km := blk_on km hb
  replace kn := blk_on kn hb
  replace kp := blk_on kp hb
  replace kq := blk_on kq hb
  replace lm := Nat.lt_of_lt_of_le lm hb.size
  replace ln := Nat.lt_of_lt_of_le ln hb.size
  replace lp := Nat.lt_of_lt_of_le lp hb.size
  replace lq := Nat.lt_of_lt_of_le lq hb.size
  clear hb
  go_wp2_with fail
  have K3 := Lib.hid (fun W (h : Below w8.heap.size w8 W) => C3.out W (HM.out.below (on_below HB.out h)))
  have K4 := Lib.hid (fun W (h : Below w8.heap.size w8 W) => C4.out W (HM.out.below (on_below HB.out h)))
  have eqi : (EI == EI) = true := by simp
  have eqr : (r == r) = true := by simp
  have eqv : (v == v) = true := by simp
  have kp : ∀ {W : World}, Below w8.heap.size w8 W → W.cell? ⟨w.heap.size, 0, none⟩ = some (.slice A ys.length C) ∧ W.cell? ⟨w.heap.size, 1, none⟩ = some (.int .i64 la) ∧ W.cell? ⟨w.heap.size, 2, none⟩ = some (.int .i64 ha) ∧ Below w8.heap.size w8 W := fun h => ⟨keepc h m0, keepc h m1, keepc h m2, h⟩
  go_region_held3 (fun W => W.cell? ⟨w.heap.size, 0, none⟩ = some (.slice A ys.length C) ∧ W.cell? ⟨w.heap.size, 1, none⟩ = some (.int .i64 la) ∧ W.cell? ⟨w.heap.size, 2, none⟩ = some (.int .i64 ha) ∧ Below w8.heap.size w8 W)
    (first | assumption | exact kp (Below.refl _ _).drew | (go_split_ands; refine kp ?_; (first | (refine on_below ?_ hb; assumption) | assumption)))
    (first | (go_at_call 18; (with_reducible refine (K3.out _ ?_).mono ?_); (first | exact (Below.refl _ _).drew | (go_split_ands; assumption)); rintro e' wh ⟨rfl, hb⟩) | (go_at_call 19; (with_reducible refine (K4.out _ ?_).mono ?_); (first | exact (Below.refl _ _).drew | (go_split_ands; assumption)); rintro e' wh ⟨rfl, hb⟩))
  go_split_ands
  have hB : Below w8.heap.size w8 wh := by assumption
  have hb := hB
  clear hB kp
  replace HB := Lib.hid (on_below HB.out hb)
  replace m0 := keepc hb m0
  replace m1 := keepc hb m1
  replace m2 := keepc hb m2
  replace n0 := keepc hb n0
  replace n1 := keepc hb n1
  replace n2 := keepc hb n2
  replace p0 := keepc hb p0
  replace p1 := keepc hb p1
  replace p2 := keepc hb p2
  replace q0 := keepc hb q0
  replace q1 := keepc hb q1
  replace q2 := keepc hb q2
  replace km := blk_on km hb
  replace kn := blk_on kn hb
  replace kp := blk_on kp hb
  replace kq := blk_on kq hb
  replace lm := Nat.lt_of_lt_of_le lm hb.size
  replace ln := Nat.lt_of_lt_of_le ln hb.size
  replace lp := Nat.lt_of_lt_of_le lp hb.size
  replace lq := Nat.lt_of_lt_of_le lq hb.size
  clear hb
  go_wp2_with fail
  clear K3 K4
  with_reducible refine (C9.out _ (HM.out.below HB.out)).mono ?_
  rintro e_ w9 ⟨g, G, rfl, hs, hb⟩
  replace HB := Lib.hid (on_below HB.out hb)
  replace m0 := keepc hb m0
  replace m1 := keepc hb m1
  replace m2 := keepc hb m2
  replace n0 := keepc hb n0
  replace n1 := keepc hb n1
  replace n2 := keepc hb n2
  replace p0 := keepc hb p0
  replace p1 := keepc hb p1
  replace p2 := keepc hb p2
  replace q0 := keepc hb q0
  replace q1 := keepc hb q1
  replace q2 := keepc hb q2
  replace km := blk_on km hb
  replace kn := blk_on kn hb
  replace kp := blk_on kp hb
  replace kq := blk_on kq hb
  replace lm := Nat.lt_of_lt_of_le lm hb.size
  replace ln := Nat.lt_of_lt_of_le ln hb.size
  replace lp := Nat.lt_of_lt_of_le lp hb.size
  replace lq := Nat.lt_of_lt_of_le lq hb.size
  clear hb
  have HS := Lib.hid hs
  clear hs
  go_wp2_with fail
  have c0 : World.cell? (w9.alloc (.cells #[.slice (some ⟨g, 0, none⟩) ms.length G, .int .i64 l, .int .i64 h] 24)) ⟨w9.heap.size, 0, none⟩ = some (.slice (some ⟨g, 0, none⟩) ms.length G) := by simp [go_sem]
  have c1 : World.cell? (w9.alloc (.cells #[.slice (some ⟨g, 0, none⟩) ms.length G, .int .i64 l, .int .i64 h] 24)) ⟨w9.heap.size, 1, none⟩ = some (.int .i64 l) := by simp [go_sem]
  have c2 : World.cell? (w9.alloc (.cells #[.slice (some ⟨g, 0, none⟩) ms.length G, .int .i64 l, .int .i64 h] 24)) ⟨w9.heap.size, 2, none⟩ = some (.int .i64 h) := by simp [go_sem]
  have lc : w9.heap.size < (w9.alloc (.cells #[.slice (some ⟨g, 0, none⟩) ms.length G, .int .i64 l, .int .i64 h] 24)).heap.size := by simp
  have hb : Below w9.heap.size w9 (w9.alloc (.cells #[.slice (some ⟨g, 0, none⟩) ms.length G, .int .i64 l, .int .i64 h] 24)) := below_new _ _
  generalize w9.alloc (.cells #[.slice (some ⟨g, 0, none⟩) ms.length G, .int .i64 l, .int .i64 h] 24) = w10 at *
  replace HB := Lib.hid (on_below HB.out hb)
  replace HS := Lib.hid (HS.out.below hb)
  replace m0 := keepc hb m0
  replace m1 := keepc hb m1
  replace m2 := keepc hb m2
  replace n0 := keepc hb n0
  replace n1 := keepc hb n1
  replace n2 := keepc hb n2
  replace p0 := keepc hb p0
  replace p1 := keepc hb p1
  replace p2 := keepc hb p2
  replace q0 := keepc hb q0
  replace q1 := keepc hb q1
  replace q2 := keepc hb q2
  replace km := blk_on km hb
  replace kn := blk_on kn hb
  replace kp := blk_on kp hb
  replace kq := blk_on kq hb
  replace lm := Nat.lt_of_lt_of_le lm hb.size
  replace ln := Nat.lt_of_lt_of_le ln hb.size
  replace lp := Nat.lt_of_lt_of_le lp hb.size
  replace lq := Nat.lt_of_lt_of_le lq hb.size
  clear hb
  generalize w9.heap.size = gc at *
  go_wp2_with fail
  with_reducible refine (CA.out _ (HM.out.below HB.out)).mono ?_
  rintro e_ w11 ⟨k, K, rfl, hs, hb⟩
  replace HB := Lib.hid (on_below HB.out hb)
  replace HS := Lib.hid (HS.out.below hb)
  replace m0 := keepc hb m0
  replace m1 := keepc hb m1
  replace m2 := keepc hb m2
  replace n0 := keepc hb n0
  replace n1 := keepc hb n1
  replace n2 := keepc hb n2
  replace p0 := keepc hb p0
  replace p1 := keepc hb p1
  replace p2 := keepc hb p2
  replace q0 := keepc hb q0
  replace q1 := keepc hb q1
  replace q2 := keepc hb q2
  replace c0 := keepc hb c0
  replace c1 := keepc hb c1
  replace c2 := keepc hb c2
  replace km := blk_on km hb
  replace kn := blk_on kn hb
  replace kp := blk_on kp hb
  replace kq := blk_on kq hb
  replace lm := Nat.lt_of_lt_of_le lm hb.size
  replace ln := Nat.lt_of_lt_of_le ln hb.size
  replace lp := Nat.lt_of_lt_of_le lp hb.size
  replace lq := Nat.lt_of_lt_of_le lq hb.size
  replace lc := Nat.lt_of_lt_of_le lc hb.size
  clear hb
  have HT := Lib.hid hs
  clear hs
  go_wp2_with fail
  have d0 : World.cell? (w11.alloc (.cells #[.slice (some ⟨k, 0, none⟩) ms.length K, .int .i64 l, .int .i64 h] 24)) ⟨w11.heap.size, 0, none⟩ = some (.slice (some ⟨k, 0, none⟩) ms.length K) := by simp [go_sem]
  have d1 : World.cell? (w11.alloc (.cells #[.slice (some ⟨k, 0, none⟩) ms.length K, .int .i64 l, .int .i64 h] 24)) ⟨w11.heap.size, 1, none⟩ = some (.int .i64 l) := by simp [go_sem]
  have d2 : World.cell? (w11.alloc (.cells #[.slice (some ⟨k, 0, none⟩) ms.length K, .int .i64 l, .int .i64 h] 24)) ⟨w11.heap.size, 2, none⟩ = some (.int .i64 h) := by simp [go_sem]
  have ld : w11.heap.size < (w11.alloc (.cells #[.slice (some ⟨k, 0, none⟩) ms.length K, .int .i64 l, .int .i64 h] 24)).heap.size := by simp
  have hb : Below w11.heap.size w11 (w11.alloc (.cells #[.slice (some ⟨k, 0, none⟩) ms.length K, .int .i64 l, .int .i64 h] 24)) := below_new _ _
  generalize w11.alloc (.cells #[.slice (some ⟨k, 0, none⟩) ms.length K, .int .i64 l, .int .i64 h] 24) = w12 at *
  replace HB := Lib.hid (on_below HB.out hb)
  replace HS := Lib.hid (HS.out.below hb)
  replace HT := Lib.hid (HT.out.below hb)
  replace m0 := keepc hb m0
  replace m1 := keepc hb m1
  replace m2 := keepc hb m2
  replace n0 := keepc hb n0
  replace n1 := keepc hb n1
  replace n2 := keepc hb n2
  replace p0 := keepc hb p0
  replace p1 := keepc hb p1
  replace p2 := keepc hb p2
  replace q0 := keepc hb q0
  replace q1 := keepc hb q1
  replace q2 := keepc hb q2
  replace c0 := keepc hb c0
  replace c1 := keepc hb c1
  replace c2 := keepc hb c2
  replace km := blk_on km hb
  replace kn := blk_on kn hb
  replace kp := blk_on kp hb
  replace kq := blk_on kq hb
  replace lm := Nat.lt_of_lt_of_le lm hb.size
  replace ln := Nat.lt_of_lt_of_le ln hb.size
  replace lp := Nat.lt_of_lt_of_le lp hb.size
  replace lq := Nat.lt_of_lt_of_le lq hb.size
  replace lc := Nat.lt_of_lt_of_le lc hb.size
  clear hb
  generalize w11.heap.size = gd at *
  go_wp2_with fail
  clear C9 CA
  with_reducible refine (qsame_is (some ⟨g, 0, none⟩) (some ⟨k, 0, none⟩) G K ms ms l h l h (by omega) (by omega) true (by simp) _ HS.out HT.out).mono ?_
  rintro e_ w13 ⟨rfl, hb⟩
  replace HB := Lib.hid (on_below HB.out hb)
  replace HS := Lib.hid (HS.out.below hb)
  replace HT := Lib.hid (HT.out.below hb)
  replace m0 := keepc hb m0
  replace m1 := keepc hb m1
  replace m2 := keepc hb m2
  replace n0 := keepc hb n0
  replace n1 := keepc hb n1
  replace n2 := keepc hb n2
  replace p0 := keepc hb p0
  replace p1 := keepc hb p1
  replace p2 := keepc hb p2
  replace q0 := keepc hb q0
  replace q1 := keepc hb q1
  replace q2 := keepc hb q2
  replace c0 := keepc hb c0
  replace c1 := keepc hb c1
  replace c2 := keepc hb c2
  replace d0 := keepc hb d0
  replace d1 := keepc hb d1
  replace d2 := keepc hb d2
  replace km := blk_on km hb
  replace kn := blk_on kn hb
  replace kp := blk_on kp hb
  replace kq := blk_on kq hb
  replace lm := Nat.lt_of_lt_of_le lm hb.size
  replace ln := Nat.lt_of_lt_of_le ln hb.size
  replace lp := Nat.lt_of_lt_of_le lp hb.size
  replace lq := Nat.lt_of_lt_of_le lq hb.size
  replace lc := Nat.lt_of_lt_of_le lc hb.size
  replace ld := Nat.lt_of_lt_of_le ld hb.size
  clear hb
  go_wp2_with fail
  with_reducible refine (C5.out _ (HM.out.below HB.out)).mono ?_
  rintro e_ w14 ⟨rfl, hb⟩
  replace HB := Lib.hid (on_below HB.out hb)
  replace HS := Lib.hid (HS.out.below hb)
  replace HT := Lib.hid (HT.out.below hb)
  replace m0 := keepc hb m0
  replace m1 := keepc hb m1
  replace m2 := keepc hb m2
  replace n0 := keepc hb n0
  replace n1 := keepc hb n1
  replace n2 := keepc hb n2
  replace p0 := keepc hb p0
  replace p1 := keepc hb p1
  replace p2 := keepc hb p2
  replace q0 := keepc hb q0
  replace q1 := keepc hb q1
  replace q2 := keepc hb q2
  replace c0 := keepc hb c0
  replace c1 := keepc hb c1
  replace c2 := keepc hb c2
  replace d0 := keepc hb d0
  replace d1 := keepc hb d1
  replace d2 := keepc hb d2
  replace km := blk_on km hb
  replace kn := blk_on kn hb
  replace kp := blk_on kp hb
  replace kq := blk_on kq hb
  replace lm := Nat.lt_of_lt_of_le lm hb.size
  replace ln := Nat.lt_of_lt_of_le ln hb.size
  replace lp := Nat.lt_of_lt_of_le lp hb.size
  replace lq := Nat.lt_of_lt_of_le lq hb.size
  replace lc := Nat.lt_of_lt_of_le lc hb.size
  replace ld := Nat.lt_of_lt_of_le ld hb.size
  clear hb
  go_wp2_with fail
  have e0 : World.cell? (w14.alloc (.cells #[.int .i64 (R.a), .int .i64 (R.b)] 37)) ⟨w14.heap.size, 0, none⟩ = some (.int .i64 (R.a)) := by simp [go_sem]
  have e1 : World.cell? (w14.alloc (.cells #[.int .i64 (R.a), .int .i64 (R.b)] 37)) ⟨w14.heap.size, 1, none⟩ = some (.int .i64 (R.b)) := by simp [go_sem]
  have le : w14.heap.size < (w14.alloc (.cells #[.int .i64 (R.a), .int .i64 (R.b)] 37)).heap.size := by simp
  have ze : (w14.alloc (.cells #[.int .i64 (R.a), .int .i64 (R.b)] 37)).heap.size = w14.heap.size + 1 := by simp
  have hb : Below w14.heap.size w14 (w14.alloc (.cells #[.int .i64 (R.a), .int .i64 (R.b)] 37)) := below_new _ _
  generalize w14.alloc (.cells #[.int .i64 (R.a), .int .i64 (R.b)] 37) = w15 at *
  replace HB := Lib.hid (on_below HB.out hb)
  replace HS := Lib.hid (HS.out.below hb)
  replace HT := Lib.hid (HT.out.below hb)
  replace m0 := keepc hb m0
  replace m1 := keepc hb m1
  replace m2 := keepc hb m2
  replace n0 := keepc hb n0
  replace n1 := keepc hb n1
  replace n2 := keepc hb n2
  replace p0 := keepc hb p0
  replace p1 := keepc hb p1
  replace p2 := keepc hb p2
  replace q0 := keepc hb q0
  replace q1 := keepc hb q1
  replace q2 := keepc hb q2
  replace c0 := keepc hb c0
  replace c1 := keepc hb c1
  replace c2 := keepc hb c2
  replace d0 := keepc hb d0
  replace d1 := keepc hb d1
  replace d2 := keepc hb d2
  replace km := blk_on km hb
  replace kn := blk_on kn hb
  replace kp := blk_on kp hb
  replace kq := blk_on kq hb
  replace lm := Nat.lt_of_lt_of_le lm hb.size
  replace ln := Nat.lt_of_lt_of_le ln hb.size
  replace lp := Nat.lt_of_lt_of_le lp hb.size
  replace lq := Nat.lt_of_lt_of_le lq hb.size
  replace lc := Nat.lt_of_lt_of_le lc hb.size
  replace ld := Nat.lt_of_lt_of_le ld hb.size
  clear hb
  generalize w14.heap.size = ge at *
  go_wp2_with fail
  have f0 : World.cell? (w15.alloc (.cells #[.int .i64 (R.c), .int .i64 (R.d)] 37)) ⟨ge + 1, 0, none⟩ = some (.int .i64 (R.c)) := by rw [← ze]; simp [go_sem]
  have f1 : World.cell? (w15.alloc (.cells #[.int .i64 (R.c), .int .i64 (R.d)] 37)) ⟨ge + 1, 1, none⟩ = some (.int .i64 (R.d)) := by rw [← ze]; simp [go_sem]
  have lf : ge + 1 < (w15.alloc (.cells #[.int .i64 (R.c), .int .i64 (R.d)] 37)).heap.size := by rw [← ze]; simp
  have hb : Below w15.heap.size w15 (w15.alloc (.cells #[.int .i64 (R.c), .int .i64 (R.d)] 37)) := below_new _ _
  generalize w15.alloc (.cells #[.int .i64 (R.c), .int .i64 (R.d)] 37) = w16 at *
  replace HB := Lib.hid (on_below HB.out hb)
  replace HS := Lib.hid (HS.out.below hb)
  replace HT := Lib.hid (HT.out.below hb)
  replace m0 := keepc hb m0
  replace m1 := keepc hb m1
  replace m2 := keepc hb m2
  replace n0 := keepc hb n0
  replace n1 := keepc hb n1
  replace n2 := keepc hb n2
  replace p0 := keepc hb p0
  replace p1 := keepc hb p1
  replace p2 := keepc hb p2
  replace q0 := keepc hb q0
  replace q1 := keepc hb q1
  replace q2 := keepc hb q2
  replace c0 := keepc hb c0
  replace c1 := keepc hb c1
  replace c2 := keepc hb c2
  replace d0 := keepc hb d0
  replace d1 := keepc hb d1
  replace d2 := keepc hb d2
  replace e0 := keepc hb e0
  replace e1 := keepc hb e1
  replace km := blk_on km hb
  replace kn := blk_on kn hb
  replace kp := blk_on kp hb
  replace kq := blk_on kq hb
  replace lm := Nat.lt_of_lt_of_le lm hb.size
  replace ln := Nat.lt_of_lt_of_le ln hb.size
  replace lp := Nat.lt_of_lt_of_le lp hb.size
  replace lq := Nat.lt_of_lt_of_le lq hb.size
  replace lc := Nat.lt_of_lt_of_le lc hb.size
  replace ld := Nat.lt_of_lt_of_le ld hb.size
  replace le := Nat.lt_of_lt_of_le le hb.size
  clear hb
  clear ze
  have nf : ge < ge + 1 := Nat.lt_succ_self _
  generalize ge + 1 = gf at *
  go_wp2_with fail
  with_reducible refine (C6.out _ (HM.out.below HB.out)).mono ?_
  rintro e_ w17 ⟨rfl, hb⟩
  replace HB := Lib.hid (on_below HB.out hb)
  replace HS := Lib.hid (HS.out.below hb)
  replace HT := Lib.hid (HT.out.below hb)
  replace m0 := keepc hb m0
  replace m1 := keepc hb m1
  replace m2 := keepc hb m2
  replace n0 := keepc hb n0
  replace n1 := keepc hb n1
  replace n2 := keepc hb n2
  replace p0 := keepc hb p0
  replace p1 := keepc hb p1
  replace p2 := keepc hb p2
  replace q0 := keepc hb q0
  replace q1 := keepc hb q1
  replace q2 := keepc hb q2
  replace c0 := keepc hb c0
  replace c1 := keepc hb c1
  replace c2 := keepc hb c2
  replace d0 := keepc hb d0
  replace d1 := keepc hb d1
  replace d2 := keepc hb d2
  replace e0 := keepc hb e0
  replace e1 := keepc hb e1
  replace f0 := keepc hb f0
  replace f1 := keepc hb f1
  replace km := blk_on km hb
  replace kn := blk_on kn hb
  replace kp := blk_on kp hb
  replace kq := blk_on kq hb
  replace lm := Nat.lt_of_lt_of_le lm hb.size
  replace ln := Nat.lt_of_lt_of_le ln hb.size
  replace lp := Nat.lt_of_lt_of_le lp hb.size
  replace lq := Nat.lt_of_lt_of_le lq hb.size
  replace lc := Nat.lt_of_lt_of_le lc hb.size
  replace ld := Nat.lt_of_lt_of_le ld hb.size
  replace le := Nat.lt_of_lt_of_le le hb.size
  replace lf := Nat.lt_of_lt_of_le lf hb.size
  clear hb
  go_wp2_with fail
  have o0 : World.cell? (w17.alloc (.cells #[.int .i64 (R.a), .int .i64 (R.b)] 37)) ⟨w17.heap.size, 0, none⟩ = some (.int .i64 (R.a)) := by simp [go_sem]
  have o1 : World.cell? (w17.alloc (.cells #[.int .i64 (R.a), .int .i64 (R.b)] 37)) ⟨w17.heap.size, 1, none⟩ = some (.int .i64 (R.b)) := by simp [go_sem]
  have lo : w17.heap.size < (w17.alloc (.cells #[.int .i64 (R.a), .int .i64 (R.b)] 37)).heap.size := by simp
  have zo : (w17.alloc (.cells #[.int .i64 (R.a), .int .i64 (R.b)] 37)).heap.size = w17.heap.size + 1 := by simp
  have hb : Below w17.heap.size w17 (w17.alloc (.cells #[.int .i64 (R.a), .int .i64 (R.b)] 37)) := below_new _ _
  generalize w17.alloc (.cells #[.int .i64 (R.a), .int .i64 (R.b)] 37) = w18 at *
  replace HB := Lib.hid (on_below HB.out hb)
  replace HS := Lib.hid (HS.out.below hb)
  replace HT := Lib.hid (HT.out.below hb)
  replace m0 := keepc hb m0
  replace m1 := keepc hb m1
  replace m2 := keepc hb m2
  replace n0 := keepc hb n0
  replace n1 := keepc hb n1
  replace n2 := keepc hb n2
  replace p0 := keepc hb p0
  replace p1 := keepc hb p1
  replace p2 := keepc hb p2
  replace q0 := keepc hb q0
  replace q1 := keepc hb q1
  replace q2 := keepc hb q2
  replace c0 := keepc hb c0
  replace c1 := keepc hb c1
  replace c2 := keepc hb c2
  replace d0 := keepc hb d0
  replace d1 := keepc hb d1
  replace d2 := keepc hb d2
  replace e0 := keepc hb e0
  replace e1 := keepc hb e1
  replace f0 := keepc hb f0
  replace f1 := keepc hb f1
  replace km := blk_on km hb
  replace kn := blk_on kn hb
  replace kp := blk_on kp hb
  replace kq := blk_on kq hb
  replace lm := Nat.lt_of_lt_of_le lm hb.size
  replace ln := Nat.lt_of_lt_of_le ln hb.size
  replace lp := Nat.lt_of_lt_of_le lp hb.size
  replace lq := Nat.lt_of_lt_of_le lq hb.size
  replace lc := Nat.lt_of_lt_of_le lc hb.size
  replace ld := Nat.lt_of_lt_of_le ld hb.size
  replace le := Nat.lt_of_lt_of_le le hb.size
  replace lf := Nat.lt_of_lt_of_le lf hb.size
  clear hb
  generalize w17.heap.size = go at *
  go_wp2_with fail
  have u0 : World.cell? (w18.alloc (.cells #[.int .i64 (R.c), .int .i64 (R.d)] 37)) ⟨go + 1, 0, none⟩ = some (.int .i64 (R.c)) := by rw [← zo]; simp [go_sem]
  have u1 : World.cell? (w18.alloc (.cells #[.int .i64 (R.c), .int .i64 (R.d)] 37)) ⟨go + 1, 1, none⟩ = some (.int .i64 (R.d)) := by rw [← zo]; simp [go_sem]
  have lu : go + 1 < (w18.alloc (.cells #[.int .i64 (R.c), .int .i64 (R.d)] 37)).heap.size := by rw [← zo]; simp
  have hb : Below w18.heap.size w18 (w18.alloc (.cells #[.int .i64 (R.c), .int .i64 (R.d)] 37)) := below_new _ _
  generalize w18.alloc (.cells #[.int .i64 (R.c), .int .i64 (R.d)] 37) = w19 at *
  replace HB := Lib.hid (on_below HB.out hb)
  replace HS := Lib.hid (HS.out.below hb)
  replace HT := Lib.hid (HT.out.below hb)
  replace m0 := keepc hb m0
  replace m1 := keepc hb m1
  replace m2 := keepc hb m2
  replace n0 := keepc hb n0
  replace n1 := keepc hb n1
  replace n2 := keepc hb n2
  replace p0 := keepc hb p0
  replace p1 := keepc hb p1
  replace p2 := keepc hb p2
  replace q0 := keepc hb q0
  replace q1 := keepc hb q1
  replace q2 := keepc hb q2
  replace c0 := keepc hb c0
  replace c1 := keepc hb c1
  replace c2 := keepc hb c2
  replace d0 := keepc hb d0
  replace d1 := keepc hb d1
  replace d2 := keepc hb d2
  replace e0 := keepc hb e0
  replace e1 := keepc hb e1
  replace f0 := keepc hb f0
  replace f1 := keepc hb f1
  replace o0 := keepc hb o0
  replace o1 := keepc hb o1
  replace km := blk_on km hb
  replace kn := blk_on kn hb
  replace kp := blk_on kp hb
  replace kq := blk_on kq hb
  replace lm := Nat.lt_of_lt_of_le lm hb.size
  replace ln := Nat.lt_of_lt_of_le ln hb.size
  replace lp := Nat.lt_of_lt_of_le lp hb.size
  replace lq := Nat.lt_of_lt_of_le lq hb.size
  replace lc := Nat.lt_of_lt_of_le lc hb.size
  replace ld := Nat.lt_of_lt_of_le ld hb.size
  replace le := Nat.lt_of_lt_of_le le hb.size
  replace lf := Nat.lt_of_lt_of_le lf hb.size
  replace lo := Nat.lt_of_lt_of_le lo hb.size
  clear hb
  clear zo
  have nu : go < go + 1 := Nat.lt_succ_self _
  generalize go + 1 = gu at *
  go_wp2_with fail
  with_reducible refine (C7.out _ (HM.out.below HB.out) (HM2.out.below HB.out)).mono ?_
  rintro e_ w20 ⟨rfl, hb⟩
  replace HB := Lib.hid (on_below HB.out hb)
  replace HS := Lib.hid (HS.out.below hb)
  replace HT := Lib.hid (HT.out.below hb)
  replace m0 := keepc hb m0
  replace m1 := keepc hb m1
  replace m2 := keepc hb m2
  replace n0 := keepc hb n0
  replace n1 := keepc hb n1
  replace n2 := keepc hb n2
  replace p0 := keepc hb p0
  replace p1 := keepc hb p1
  replace p2 := keepc hb p2
  replace q0 := keepc hb q0
  replace q1 := keepc hb q1
  replace q2 := keepc hb q2
  replace c0 := keepc hb c0
  replace c1 := keepc hb c1
  replace c2 := keepc hb c2
  replace d0 := keepc hb d0
  replace d1 := keepc hb d1
  replace d2 := keepc hb d2
  replace e0 := keepc hb e0
  replace e1 := keepc hb e1
  replace f0 := keepc hb f0
  replace f1 := keepc hb f1
  replace o0 := keepc hb o0
  replace o1 := keepc hb o1
  replace u0 := keepc hb u0
  replace u1 := keepc hb u1
  replace km := blk_on km hb
  replace kn := blk_on kn hb
  replace kp := blk_on kp hb
  replace kq := blk_on kq hb
  replace lm := Nat.lt_of_lt_of_le lm hb.size
  replace ln := Nat.lt_of_lt_of_le ln hb.size
  replace lp := Nat.lt_of_lt_of_le lp hb.size
  replace lq := Nat.lt_of_lt_of_le lq hb.size
  replace lc := Nat.lt_of_lt_of_le lc hb.size
  replace ld := Nat.lt_of_lt_of_le ld hb.size
  replace le := Nat.lt_of_lt_of_le le hb.size
  replace lf := Nat.lt_of_lt_of_le lf hb.size
  replace lo := Nat.lt_of_lt_of_le lo hb.size
  replace lu := Nat.lt_of_lt_of_le lu hb.size
  clear hb
  go_wp2_with fail
  with_reducible refine (C8.out _ (HM.out.below HB.out) (HM2.out.below HB.out)).mono ?_
  rintro e_ w21 ⟨rfl, hb⟩
  replace HB := Lib.hid (on_below HB.out hb)
  replace HS := Lib.hid (HS.out.below hb)
  replace HT := Lib.hid (HT.out.below hb)
  replace m0 := keepc hb m0
  replace m1 := keepc hb m1
  replace m2 := keepc hb m2
  replace n0 := keepc hb n0
  replace n1 := keepc hb n1
  replace n2 := keepc hb n2
  replace p0 := keepc hb p0
  replace p1 := keepc hb p1
  replace p2 := keepc hb p2
  replace q0 := keepc hb q0
  replace q1 := keepc hb q1
  replace q2 := keepc hb q2
  replace c0 := keepc hb c0
  replace c1 := keepc hb c1
  replace c2 := keepc hb c2
  replace d0 := keepc hb d0
  replace d1 := keepc hb d1
  replace d2 := keepc hb d2
  replace e0 := keepc hb e0
  replace e1 := keepc hb e1
  replace f0 := keepc hb f0
  replace f1 := keepc hb f1
  replace o0 := keepc hb o0
  replace o1 := keepc hb o1
  replace u0 := keepc hb u0
  replace u1 := keepc hb u1
  replace km := blk_on km hb
  replace kn := blk_on kn hb
  replace kp := blk_on kp hb
  replace kq := blk_on kq hb
  replace lm := Nat.lt_of_lt_of_le lm hb.size
  replace ln := Nat.lt_of_lt_of_le ln hb.size
  replace lp := Nat.lt_of_lt_of_le lp hb.size
  replace lq := Nat.lt_of_lt_of_le lq hb.size
  replace lc := Nat.lt_of_lt_of_le lc hb.size
  replace ld := Nat.lt_of_lt_of_le ld hb.size
  replace le := Nat.lt_of_lt_of_le le hb.size
  replace lf := Nat.lt_of_lt_of_le lf hb.size
  replace lo := Nat.lt_of_lt_of_le lo hb.size
  replace lu := Nat.lt_of_lt_of_le lu hb.size
  clear hb
  go_wp2_with fail
  go_ret
  exact ⟨rfl, HB.out⟩
theorem law_any (aA : Option Addr) (aC : Nat) (a : List (Int × Int)) (al ah : Int) (bA : Option Addr) (bC : Nat) (b : List (Int × Int)) (bl bh vx vy vz yx yy yz : Int) (w : World) (la : Lp w aA aC a) (lb : Lp w bA bC b) :
    Calls Try.prog 3 #[.agg #[.slice aA a.length aC, .int .i64 al, .int .i64 ah], .agg #[.slice bA b.length bC, .int .i64 bl, .int .i64 bh], .agg #[.int .i64 vx, .int .i64 vy, .int .i64 vz], .agg #[.int .i64 yx, .int .i64 yy, .int .i64 yz]] w fun e_ w' => e_ = .returned (.bool true) ∧ Below w.heap.size w w' := by
  have hm : SlS w aA (a.take 20) := (la.take 20).sl
  have hm2 : SlS w bA (b.take 20) := (lb.take 20).sl
  have hly : (a.take 20).length ≤ 9223372036854775806 := by rw [List.length_take]; omega
  have hlz : (b.take 20).length ≤ 9223372036854775806 := by rw [List.length_take]; omega
  obtain ⟨v, hv⟩ := bool_of (Bok (a.take 20) al ah)
  obtain ⟨r, EI, h1⟩ : ∃ (r : Bool) (EI : Int), (Bok (a.take 20) al ah ∧ V3 vx vy vz ∧ (EI : Int) = 0 ∧ (r = true ↔ InB (a.take 20) al ah vx vy vz)) ∨ (¬ (Bok (a.take 20) al ah ∧ V3 vx vy vz) ∧ (EI : Int) = 1 ∧ r = false) := by
    by_cases k : Bok (a.take 20) al ah ∧ V3 vx vy vz
    · obtain ⟨r, hr⟩ := bool_of (InB (a.take 20) al ah vx vy vz)
      exact ⟨r, 0, Or.inl ⟨k.1, k.2, rfl, hr⟩⟩
    · exact ⟨false, 1, Or.inr ⟨k, rfl, rfl⟩⟩
  obtain ⟨s, EA, h5⟩ : ∃ (s : Bool) (EA : Int), (Bok (a.take 20) al ah ∧ Bok (b.take 20) bl bh ∧ (EA : Int) = 0 ∧ (s = true ↔ Apa (a.take 20) al ah (b.take 20) bl bh)) ∨ (¬ (Bok (a.take 20) al ah ∧ Bok (b.take 20) bl bh) ∧ (EA : Int) = 1 ∧ s = false) := by
    by_cases k : Bok (a.take 20) al ah ∧ Bok (b.take 20) bl bh
    · obtain ⟨s, hs⟩ := bool_of (Apa (a.take 20) al ah (b.take 20) bl bh)
      exact ⟨s, 0, Or.inl ⟨k.1, k.2, rfl, hs⟩⟩
    · exact ⟨false, 1, Or.inr ⟨k, rfl, rfl⟩⟩
  obtain ⟨R, EC, h4⟩ : ∃ (R : Cln) (EC : Int), ClR (a.take 20) al ah vx vy vz yx yy yz R EC := by
    by_cases k : Bok (a.take 20) al ah ∧ V3 vx vy vz ∧ V3 yx yy yz ∧ ¬ (vx = yx ∧ vy = yy ∧ vz = yz)
    · exact ⟨_, 0, Or.inr ⟨k.1, k.2.1, k.2.2.1, k.2.2.2, rfl, rfl⟩⟩
    · exact ⟨_, 1, Or.inl ⟨k, rfl, rfl⟩⟩
  by_cases k1 : Bok (a.take 20) al ah ∧ V3 yx yy yz
  · by_cases k2 : Bok (mv (a.take 20) yx yy) (al + yz) (ah + yz)
    · exact ref_1 aA bA aC bC a (a.take 20) b (b.take 20) al ah bl bh vx vy vz yx yy yz rfl hly rfl hlz r v s EI EC EA R h1 hv h4 h5 (mv (a.take 20) yx yy) (al + yz) (ah + yz) k1.1 k1.2 k2 rfl rfl rfl (by rw [mv_len]; exact hly) w la lb hm hm2
    · exact ref_0 aA bA aC bC a (a.take 20) b (b.take 20) al ah bl bh vx vy vz yx yy yz rfl hly rfl hlz r v s EI EC EA R h1 hv h4 h5 3 (by decide) (Or.inr ⟨k1.1, k1.2, Or.inr ⟨k2, rfl⟩⟩) w la lb hm hm2
  · exact ref_0 aA bA aC bC a (a.take 20) b (b.take 20) al ah bl bh vx vy vz yx yy yz rfl hly rfl hlz r v s EI EC EA R h1 hv h4 h5 1 (by decide) (Or.inl ⟨k1, rfl⟩) w la lb hm hm2
/-! ### The row -/
open Go.ChangeShapes Go.WideShapes Go.ChangeAt Go.Joins
theorem u8_in {x : Int} (h : (Lit.int .u8 x).wf = true) : 0 ≤ x ∧ x ≤ 255 := by
  have e1 : IntKind.u8.min = 0 := rfl
  have e2 : IntKind.u8.max = 255 := rfl
  simp [Lit.wf, e1, e2] at h
  exact h
theorem own : ownKnob Try.prog.godebug = none := by kernel_rfl
noncomputable def laidWorld (os : Os) : World := World.holding Try.prog os ⟨#[], #[], []⟩
theorem laidWorld_met (os : Os) (args : Array Value) : laidMet Try.prog [] ((laidWorld os).forCall (fun _ _ => 0) ⟨#[], args, []⟩).memory :=
  laidMet_of_run' 8 (by kernel_rfl) (by kernel_rfl)

set_option maxRecDepth 100000 in
theorem contract (H : Type) (enc : TypeId × Value → H) (W : World) (base : Nat) (args : Array Value) (ds gs : List (DataW H)) (before : List MemPlace)
    (hval : ∀ (j : Nat) t v, Try.f3.params[j]? = some t → args[j]? = some v → Value.okWide Try.prog W .any base t v)
    (hW : DataW.Whole enc Try.prog Try.f3.params.toList Rows.shapeMatchesReferenceSpec.vars false W args.toList ds gs before) :
    Calls Try.prog 3 args W fun e W' => ∃ v, e = .returned v ∧ Rows.shapeMatchesReferenceSpec.post enc Try.prog Try.f3 false true false false W args v W' := by
  have hW' := hW
  have hold : ∀ q ∈ before, decide (q.block < W.heap.size) = true := fun q hq => by simpa using hW.lt q hq
  obtain ⟨p, q, hA0, hV, rfl, hfz, hnd⟩ := hW
  have hA : DataW.TrodAll enc Try.prog W 0 (fun _ => true) true Try.f3.params.toList args.toList ds p := hA0
  rw [Try.params3] at hA hval
  obtain ⟨v0, vs0, d0, ds0, p0, q0, hargs, rfl, rfl, h0, r0⟩ := trodAll_cons hA
  obtain ⟨v1, vs1, d1, ds1, p1, q1, rfl, rfl, rfl, h1, r1⟩ := trodAll_cons r0
  obtain ⟨v2, vs2, d2, ds2, p2, q2, rfl, rfl, rfl, h2, r2⟩ := trodAll_cons r1
  obtain ⟨v3, vs3, d3, ds3, p3, q3, rfl, rfl, rfl, h3, r3⟩ := trodAll_cons r2
  obtain ⟨rfl, rfl, rfl⟩ := trodAll_nil r3
  obtain rfl : args = #[v0, v1, v2, v3] := Array.toList_inj.1 hargs
  obtain ⟨rfl, rfl⟩ := trodVars_none hV
  obtain ⟨aA, aC, a, al, ah, rfl, la, ja, ial, iah, shuta⟩ := open_body (hval 0 24 v0 rfl rfl) h0
  obtain ⟨bA, bC, b, bl, bh, rfl, lb, jb, ibl, ibh, shutb⟩ := open_body (hval 1 24 v1 rfl rfl) h1
  obtain ⟨vx, vy, vz, rfl, rfl, rfl, ivx, ivy, ivz⟩ := open_vec (hval 2 26 v2 rfl rfl) h2
  obtain ⟨yx, yy, yz, rfl, rfl, rfl, iyx, iyy, iyz⟩ := open_vec (hval 3 26 v3 rfl rfl) h3
  clear hA0
  refine (law_any aA aC a al ah bA bC b bl bh vx vy vz yx yy yz W la lb).mono fun e W' ⟨he, bel⟩ => ?_
  subst he
  exact ⟨_, rfl, _, _, _, [], _, [], hW', trodAll_mk1 (shut_bool Try.underlying4 _), (trodAll_cons_mk (shuta W' (fun b => decide (b < W.heap.size)) bel (fun q hq => hold q (by simp [hq]))) (trodAll_cons_mk (shutb W' (fun b => decide (b < W.heap.size)) bel (fun q hq => hold q (by simp [hq]))) (trodAll_cons_mk (shut_vec ivx ivy ivz) (trodAll_cons_mk (shut_vec iyx iyy iyz) trodAll_mk0)))), rfl, bel.frame _, fun h => by cases h⟩

theorem reads (os : Os) {H : Type} (enc : TypeId × Value → H) : ∃ places, DataW.whole enc Try.prog ((laidWorld os).forCall (fun _ _ => 0) ⟨#[], #[.agg #[.slice none 0 0, .int .i64 0, .int .i64 0], .agg #[.slice none 0 0, .int .i64 0, .int .i64 0], .agg #[.int .i64 0, .int .i64 0, .int .i64 0], .agg #[.int .i64 0, .int .i64 0, .int .i64 0]], []⟩).memory Try.f3.params.toList Rows.shapeMatchesReferenceSpec.vars false (#[.agg #[.slice none 0 0, .int .i64 0, .int .i64 0], .agg #[.slice none 0 0, .int .i64 0, .int .i64 0], .agg #[.int .i64 0, .int .i64 0, .int .i64 0], .agg #[.int .i64 0, .int .i64 0, .int .i64 0]] : Array Value).toList 8 = some ([.agg [.nil, .lit (.int .i64 0), .lit (.int .i64 0)], .agg [.nil, .lit (.int .i64 0), .lit (.int .i64 0)], .agg [.lit (.int .i64 0), .lit (.int .i64 0), .lit (.int .i64 0)], .agg [.lit (.int .i64 0), .lit (.int .i64 0), .lit (.int .i64 0)]], [], places) :=
  ⟨[], by kernel_rfl⟩

set_option maxRecDepth 100000 in
theorem lifted (os : Os) (started : os.Started) (H : Type) (enc : TypeId × Value → H) (F : Stop.Interp) :
    ReturnsInHanded {} Try.checked os 3 .any ((OpenSpec.ofChange Rows.shapeMatchesReferenceSpec).preRow enc Try.prog Try.f3 Rows.shapeMatchesReferenceRow.domain false Rows.shapeMatchesReferenceRow.laid) (((OpenSpec.ofChange Rows.shapeMatchesReferenceSpec).at F).post enc Try.prog Try.f3 false true false false) := by
  obtain ⟨places, hx⟩ := reads os enc
  refine returnsInHanded_of_row (C := Try.checked) (s := OpenSpec.ofChange Rows.shapeMatchesReferenceSpec) own started (by kernel_rfl) Try.func3
    (witness_row_atRef (enc := enc) (C := Try.checked) false (laidWorld os) #[.agg #[.slice none 0 0, .int .i64 0, .int .i64 0], .agg #[.slice none 0 0, .int .i64 0, .int .i64 0], .agg #[.int .i64 0, .int .i64 0, .int .i64 0], .agg #[.int .i64 0, .int .i64 0, .int .i64 0]] rfl (by kernel_rfl) (by kernel_rfl) (by kernel_rfl)
      (OpenSpec.preRow_of_cond 8 hx (by kernel_rfl) (fun k hk => by cases hk) (by kernel_rfl) (laidWorld_met os _))) ?_
  intro W base args ds gs before hval hW _ hcond _ hL hsh _
  exact contract H enc W base args ds gs before hval hW

/-- The statement. -/
theorem said : Rows.ShapeMatchesReferenceSaid :=
  OpenClaim.holds_of_cond 3 Try.f3 rfl rfl rfl rfl rfl rfl rfl ⟨rfl, rfl, rfl, rfl, rfl⟩ rfl rfl rfl rfl rfl (by kernel_rfl) Try.func3 (by kernel_rfl)
    (of_decide_eq_true (by kernel_rfl)) (by unfold Func.isWrapper; first | (rw [if_pos (by decide +kernel)]; kernel_rfl) | (rw [if_neg (by decide +kernel)]; exact ⟨rfl, rfl⟩))
    (fun os started H enc _ F => by rw [OpenClaim.pre_eq_preRow]; exact lifted os started H enc F)
end Go.Proofs.Ytehlplejcaofoaa.LawRef
