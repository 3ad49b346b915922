/-
  ShapePoints: the walk.
-/
import Derived.Test.YtagokcjbeaddiaaShpY
import Derived.Test.YtagokcjbeaddiaaShpG
import Derived.Test.YtagokcjbeaddiaaShpD
namespace Go.Proofs.Ytagokcjbeaddiaa.LawPoints
open Go.RowKit Go.Sort
open Go.RowKit (Below)
set_option linter.unusedVariables false
set_option linter.unusedSimpArgs false

theorem clr_ok {ys : List (Int × Int)} {lo hi a b c x y z : Int} {R : Cln} (h : ClR ys lo hi a b c x y z R 0) : (-32000000 ≤ R.a ∧ R.a ≤ 32000000) ∧ (1 ≤ R.b ∧ R.b ≤ 32000000) ∧ (-32000000 ≤ R.c ∧ R.c ≤ 32000000) ∧ (1 ≤ R.d ∧ R.d ≤ 32000000) := by
  rcases h with ⟨_, h, _⟩ | ⟨hb, h1, h2, _, _, rfl⟩
  · exact absurd h (by decide)
  · have k := clp_ok (m := 32000000) (C := cnd ys lo hi a b c x y z) (r := r0) ⟨by decide, by decide, by decide, by decide⟩ (cnd_bd hb h1 h2)
    have l1 := k.l
    have l2 := k.ld
    have l3 := k.h
    have l4 := k.hd
    unfold clres
    split
    · refine ⟨?_, ?_, ?_, ?_⟩ <;> (simp only; omega)
    · refine ⟨?_, ?_, ?_, ?_⟩ <;> (simp only; omega)
set_option maxRecDepth 100000 in
set_option maxHeartbeats 4000000 in
theorem pts_1 (A : Option Addr) (C : Nat) (xs ys : List (Int × Int)) (lo hi a b c d e f n : Int) (hn : 0 ≤ n ∧ n ≤ 255) (hy : xs.take 20 = ys) (hly : ys.length ≤ 9223372036854775806) (h1 : false = true ↔ Bok ys lo hi) (w : World) (hl : Lp w A C xs) (hm : SlS w A ys) :
    Calls Try.prog 5 #[.agg #[.slice A xs.length C, .int .i64 lo, .int .i64 hi], .agg #[.int .i64 a, .int .i64 b, .int .i64 c], .agg #[.int .i64 d, .int .i64 e, .int .i64 f], .int .u8 n] w fun e_ w' => e_ = .returned (.bool true) ∧ Below w.heap.size w w' := by
  have HL := Lib.hid hl
  clear hl
  have HM := Lib.hid hm
  clear hm
  have C1 := Lib.hid (fun W (h : SlS W A ys) => qvalid_is A C ys lo hi (by omega) false h1 W h)
  clear h1
  obtain ⟨hn1, hn2⟩ := hn
  go_enter Try.func5, Try.ntmps5
  go_wp2_with fail
  obtain ⟨w1, hw1⟩ : ∃ V, (((w.alloc (.cells #[.slice A xs.length C, .int .i64 lo, .int .i64 hi] 24)).alloc (.cells #[.int .i64 a, .int .i64 b, .int .i64 c] 26)).alloc (.cells #[.int .i64 d, .int .i64 e, .int .i64 f] 26)) = V := ⟨_, rfl⟩
  obtain ⟨hB_, kb, kp, kq⟩ := boxes3 _ _ _ _ hw1
  rw [hw1]
  clear hw1
  have HB := Lib.hid hB_
  clear hB_
  have b0 := (cells3 kb).1
  have b1 := (cells3 kb).2.1
  have b2 := (cells3 kb).2.2
  have p0 := (cells3 kp).1
  have p1 := (cells3 kp).2.1
  have p2 := (cells3 kp).2.2
  have q0 := (cells3 kq).1
  have q1 := (cells3 kq).2.1
  have q2 := (cells3 kq).2.2
  with_reducible refine (head_any _).mono ?_
  rintro e_ w2 ⟨rfl, hb⟩
  replace HB := Lib.hid (on_below HB.out hb)
  replace b0 := keepc hb b0
  replace b1 := keepc hb b1
  replace b2 := keepc hb b2
  replace p0 := keepc hb p0
  replace p1 := keepc hb p1
  replace p2 := keepc hb p2
  replace q0 := keepc hb q0
  replace q1 := keepc hb q1
  replace q2 := keepc hb q2
  replace kb := blk_on kb hb
  replace kp := blk_on kp hb
  replace kq := blk_on kq hb
  clear hb
  go_wp2_with fail
  have CF := Lib.hid (fun W (h : Lp W A C xs) => few_is A C xs lo hi W h)
  rw [hy] at CF
  with_reducible refine (CF.out _ (HL.out.below HB.out)).mono ?_
  rintro e_ w3 ⟨rfl, hb⟩
  replace HB := Lib.hid (on_below HB.out hb)
  replace b0 := keepc hb b0
  replace b1 := keepc hb b1
  replace b2 := keepc hb b2
  replace p0 := keepc hb p0
  replace p1 := keepc hb p1
  replace p2 := keepc hb p2
  replace q0 := keepc hb q0
  replace q1 := keepc hb q1
  replace q2 := keepc hb q2
  replace kb := blk_on kb hb
  replace kp := blk_on kp hb
  replace kq := blk_on kq hb
  clear hb
  have fb0 : World.frozen? w3 ⟨w.heap.size, 0, none⟩ = false := by simp [World.frozen?, kb]
  have fb1 : World.frozen? w3 ⟨w.heap.size, 1, none⟩ = false := by simp [World.frozen?, kb]
  have fb2 : World.frozen? w3 ⟨w.heap.size, 2, none⟩ = false := by simp [World.frozen?, kb]
  go_wp2_with fail
  clear CF fb0 fb1 fb2 b0 b1 b2 p0 p1 p2 q0 q1 q2
  replace kb : (((w3.setCell ⟨w.heap.size, 0, none⟩ (.slice A ys.length C)).setCell ⟨w.heap.size, 1, none⟩ (.int .i64 lo)).setCell ⟨w.heap.size, 2, none⟩ (.int .i64 hi)).heap[w.heap.size]? = some (.cells #[.slice A ys.length C, .int .i64 lo, .int .i64 hi] 24 (0, 0)) := set_cells (set_cells (set_cells kb 0 _) 1 _) 2 _
  replace kp : (((w3.setCell ⟨w.heap.size, 0, none⟩ (.slice A ys.length C)).setCell ⟨w.heap.size, 1, none⟩ (.int .i64 lo)).setCell ⟨w.heap.size, 2, none⟩ (.int .i64 hi)).heap[w.heap.size + 1]? = _ := blk_far (blk_far (blk_far kp (by omega)) (by omega)) (by omega)
  replace kq : (((w3.setCell ⟨w.heap.size, 0, none⟩ (.slice A ys.length C)).setCell ⟨w.heap.size, 1, none⟩ (.int .i64 lo)).setCell ⟨w.heap.size, 2, none⟩ (.int .i64 hi)).heap[w.heap.size + 1 + 1]? = _ := blk_far (blk_far (blk_far kq (by omega)) (by omega)) (by omega)
  replace HB := Lib.hid (show Below w.heap.size w (((w3.setCell ⟨w.heap.size, 0, none⟩ (.slice A ys.length C)).setCell ⟨w.heap.size, 1, none⟩ (.int .i64 lo)).setCell ⟨w.heap.size, 2, none⟩ (.int .i64 hi)) from ((HB.out.setCell (by simp <;> omega) _).setCell (by simp <;> omega) _).setCell (by simp <;> omega) _)
  generalize (((w3.setCell ⟨w.heap.size, 0, none⟩ (.slice A ys.length C)).setCell ⟨w.heap.size, 1, none⟩ (.int .i64 lo)).setCell ⟨w.heap.size, 2, none⟩ (.int .i64 hi)) = w4 at *
  have b0 := (cells3 kb).1
  have b1 := (cells3 kb).2.1
  have b2 := (cells3 kb).2.2
  have p0 := (cells3 kp).1
  have p1 := (cells3 kp).2.1
  have p2 := (cells3 kp).2.2
  have q0 := (cells3 kq).1
  have q1 := (cells3 kq).2.1
  have q2 := (cells3 kq).2.2
  go_wp2_with fail
  with_reducible refine (C1.out _ (HM.out.below HB.out)).mono ?_
  rintro e_ w5 ⟨rfl, hb⟩
  replace HB := Lib.hid (on_below HB.out hb)
  replace b0 := keepc hb b0
  replace b1 := keepc hb b1
  replace b2 := keepc hb b2
  replace p0 := keepc hb p0
  replace p1 := keepc hb p1
  replace p2 := keepc hb p2
  replace q0 := keepc hb q0
  replace q1 := keepc hb q1
  replace q2 := keepc hb q2
  replace kb := blk_on kb hb
  replace kp := blk_on kp hb
  replace kq := blk_on kq hb
  clear hb
  go_wp2_with fail
  go_ret
  exact ⟨rfl, HB.out⟩
set_option maxRecDepth 100000 in
set_option maxHeartbeats 4000000 in
theorem pts_2 (A : Option Addr) (C : Nat) (xs ys : List (Int × Int)) (lo hi a b c d e f n : Int) (hn : 0 ≤ n ∧ n ≤ 255) (hy : xs.take 20 = ys) (hly : ys.length ≤ 9223372036854775806) (h1 : true = true ↔ Bok ys lo hi) (h2 : vv a b c = false) (w : World) (hl : Lp w A C xs) (hm : SlS w A ys) :
    Calls Try.prog 5 #[.agg #[.slice A xs.length C, .int .i64 lo, .int .i64 hi], .agg #[.int .i64 a, .int .i64 b, .int .i64 c], .agg #[.int .i64 d, .int .i64 e, .int .i64 f], .int .u8 n] w fun e_ w' => e_ = .returned (.bool true) ∧ Below w.heap.size w w' := by
  have HL := Lib.hid hl
  clear hl
  have HM := Lib.hid hm
  clear hm
  have C1 := Lib.hid (fun W (h : SlS W A ys) => qvalid_is A C ys lo hi (by omega) true h1 W h)
  clear h1
  obtain ⟨hn1, hn2⟩ := hn
  go_enter Try.func5, Try.ntmps5
  go_wp2_with fail
  obtain ⟨w1, hw1⟩ : ∃ V, (((w.alloc (.cells #[.slice A xs.length C, .int .i64 lo, .int .i64 hi] 24)).alloc (.cells #[.int .i64 a, .int .i64 b, .int .i64 c] 26)).alloc (.cells #[.int .i64 d, .int .i64 e, .int .i64 f] 26)) = V := ⟨_, rfl⟩
  obtain ⟨hB_, kb, kp, kq⟩ := boxes3 _ _ _ _ hw1
  rw [hw1]
  clear hw1
  have HB := Lib.hid hB_
  clear hB_
  have b0 := (cells3 kb).1
  have b1 := (cells3 kb).2.1
  have b2 := (cells3 kb).2.2
  have p0 := (cells3 kp).1
  have p1 := (cells3 kp).2.1
  have p2 := (cells3 kp).2.2
  have q0 := (cells3 kq).1
  have q1 := (cells3 kq).2.1
  have q2 := (cells3 kq).2.2
  with_reducible refine (head_any _).mono ?_
  rintro e_ w2 ⟨rfl, hb⟩
  replace HB := Lib.hid (on_below HB.out hb)
  replace b0 := keepc hb b0
  replace b1 := keepc hb b1
  replace b2 := keepc hb b2
  replace p0 := keepc hb p0
  replace p1 := keepc hb p1
  replace p2 := keepc hb p2
  replace q0 := keepc hb q0
  replace q1 := keepc hb q1
  replace q2 := keepc hb q2
  replace kb := blk_on kb hb
  replace kp := blk_on kp hb
  replace kq := blk_on kq hb
  clear hb
  go_wp2_with fail
  have CF := Lib.hid (fun W (h : Lp W A C xs) => few_is A C xs lo hi W h)
  rw [hy] at CF
  with_reducible refine (CF.out _ (HL.out.below HB.out)).mono ?_
  rintro e_ w3 ⟨rfl, hb⟩
  replace HB := Lib.hid (on_below HB.out hb)
  replace b0 := keepc hb b0
  replace b1 := keepc hb b1
  replace b2 := keepc hb b2
  replace p0 := keepc hb p0
  replace p1 := keepc hb p1
  replace p2 := keepc hb p2
  replace q0 := keepc hb q0
  replace q1 := keepc hb q1
  replace q2 := keepc hb q2
  replace kb := blk_on kb hb
  replace kp := blk_on kp hb
  replace kq := blk_on kq hb
  clear hb
  have fb0 : World.frozen? w3 ⟨w.heap.size, 0, none⟩ = false := by simp [World.frozen?, kb]
  have fb1 : World.frozen? w3 ⟨w.heap.size, 1, none⟩ = false := by simp [World.frozen?, kb]
  have fb2 : World.frozen? w3 ⟨w.heap.size, 2, none⟩ = false := by simp [World.frozen?, kb]
  go_wp2_with fail
  clear CF fb0 fb1 fb2 b0 b1 b2 p0 p1 p2 q0 q1 q2
  replace kb : (((w3.setCell ⟨w.heap.size, 0, none⟩ (.slice A ys.length C)).setCell ⟨w.heap.size, 1, none⟩ (.int .i64 lo)).setCell ⟨w.heap.size, 2, none⟩ (.int .i64 hi)).heap[w.heap.size]? = some (.cells #[.slice A ys.length C, .int .i64 lo, .int .i64 hi] 24 (0, 0)) := set_cells (set_cells (set_cells kb 0 _) 1 _) 2 _
  replace kp : (((w3.setCell ⟨w.heap.size, 0, none⟩ (.slice A ys.length C)).setCell ⟨w.heap.size, 1, none⟩ (.int .i64 lo)).setCell ⟨w.heap.size, 2, none⟩ (.int .i64 hi)).heap[w.heap.size + 1]? = _ := blk_far (blk_far (blk_far kp (by omega)) (by omega)) (by omega)
  replace kq : (((w3.setCell ⟨w.heap.size, 0, none⟩ (.slice A ys.length C)).setCell ⟨w.heap.size, 1, none⟩ (.int .i64 lo)).setCell ⟨w.heap.size, 2, none⟩ (.int .i64 hi)).heap[w.heap.size + 1 + 1]? = _ := blk_far (blk_far (blk_far kq (by omega)) (by omega)) (by omega)
  replace HB := Lib.hid (show Below w.heap.size w (((w3.setCell ⟨w.heap.size, 0, none⟩ (.slice A ys.length C)).setCell ⟨w.heap.size, 1, none⟩ (.int .i64 lo)).setCell ⟨w.heap.size, 2, none⟩ (.int .i64 hi)) from ((HB.out.setCell (by simp <;> omega) _).setCell (by simp <;> omega) _).setCell (by simp <;> omega) _)
  generalize (((w3.setCell ⟨w.heap.size, 0, none⟩ (.slice A ys.length C)).setCell ⟨w.heap.size, 1, none⟩ (.int .i64 lo)).setCell ⟨w.heap.size, 2, none⟩ (.int .i64 hi)) = w4 at *
  have b0 := (cells3 kb).1
  have b1 := (cells3 kb).2.1
  have b2 := (cells3 kb).2.2
  have p0 := (cells3 kp).1
  have p1 := (cells3 kp).2.1
  have p2 := (cells3 kp).2.2
  have q0 := (cells3 kq).1
  have q1 := (cells3 kq).2.1
  have q2 := (cells3 kq).2.2
  go_wp2_with fail
  with_reducible refine (C1.out _ (HM.out.below HB.out)).mono ?_
  rintro e_ w5 ⟨rfl, hb⟩
  replace HB := Lib.hid (on_below HB.out hb)
  replace b0 := keepc hb b0
  replace b1 := keepc hb b1
  replace b2 := keepc hb b2
  replace p0 := keepc hb p0
  replace p1 := keepc hb p1
  replace p2 := keepc hb p2
  replace q0 := keepc hb q0
  replace q1 := keepc hb q1
  replace q2 := keepc hb q2
  replace kb := blk_on kb hb
  replace kp := blk_on kp hb
  replace kq := blk_on kq hb
  clear hb
  go_wp2_with fail
  with_reducible refine (qpoint_is a b c false h2 _).mono ?_
  rintro e_ w6 ⟨rfl, hb⟩
  replace HB := Lib.hid (on_below HB.out hb)
  replace b0 := keepc hb b0
  replace b1 := keepc hb b1
  replace b2 := keepc hb b2
  replace p0 := keepc hb p0
  replace p1 := keepc hb p1
  replace p2 := keepc hb p2
  replace q0 := keepc hb q0
  replace q1 := keepc hb q1
  replace q2 := keepc hb q2
  replace kb := blk_on kb hb
  replace kp := blk_on kp hb
  replace kq := blk_on kq hb
  clear hb
  go_wp2_with fail
  go_ret
  exact ⟨rfl, HB.out⟩
set_option maxRecDepth 100000 in
set_option maxHeartbeats 4000000 in
theorem pts_3 (A : Option Addr) (C : Nat) (xs ys : List (Int × Int)) (lo hi a b c d e f n : Int) (hn : 0 ≤ n ∧ n ≤ 255) (hy : xs.take 20 = ys) (hly : ys.length ≤ 9223372036854775806) (h1 : true = true ↔ Bok ys lo hi) (h2 : vv a b c = true) (h3 : vv d e f = false) (w : World) (hl : Lp w A C xs) (hm : SlS w A ys) :
    Calls Try.prog 5 #[.agg #[.slice A xs.length C, .int .i64 lo, .int .i64 hi], .agg #[.int .i64 a, .int .i64 b, .int .i64 c], .agg #[.int .i64 d, .int .i64 e, .int .i64 f], .int .u8 n] w fun e_ w' => e_ = .returned (.bool true) ∧ Below w.heap.size w w' := by
  have HL := Lib.hid hl
  clear hl
  have HM := Lib.hid hm
  clear hm
  have C1 := Lib.hid (fun W (h : SlS W A ys) => qvalid_is A C ys lo hi (by omega) true h1 W h)
  clear h1
  obtain ⟨hn1, hn2⟩ := hn
  go_enter Try.func5, Try.ntmps5
  go_wp2_with fail
  obtain ⟨w1, hw1⟩ : ∃ V, (((w.alloc (.cells #[.slice A xs.length C, .int .i64 lo, .int .i64 hi] 24)).alloc (.cells #[.int .i64 a, .int .i64 b, .int .i64 c] 26)).alloc (.cells #[.int .i64 d, .int .i64 e, .int .i64 f] 26)) = V := ⟨_, rfl⟩
  obtain ⟨hB_, kb, kp, kq⟩ := boxes3 _ _ _ _ hw1
  rw [hw1]
  clear hw1
  have HB := Lib.hid hB_
  clear hB_
  have b0 := (cells3 kb).1
  have b1 := (cells3 kb).2.1
  have b2 := (cells3 kb).2.2
  have p0 := (cells3 kp).1
  have p1 := (cells3 kp).2.1
  have p2 := (cells3 kp).2.2
  have q0 := (cells3 kq).1
  have q1 := (cells3 kq).2.1
  have q2 := (cells3 kq).2.2
  with_reducible refine (head_any _).mono ?_
  rintro e_ w2 ⟨rfl, hb⟩
  replace HB := Lib.hid (on_below HB.out hb)
  replace b0 := keepc hb b0
  replace b1 := keepc hb b1
  replace b2 := keepc hb b2
  replace p0 := keepc hb p0
  replace p1 := keepc hb p1
  replace p2 := keepc hb p2
  replace q0 := keepc hb q0
  replace q1 := keepc hb q1
  replace q2 := keepc hb q2
  replace kb := blk_on kb hb
  replace kp := blk_on kp hb
  replace kq := blk_on kq hb
  clear hb
  go_wp2_with fail
  have CF := Lib.hid (fun W (h : Lp W A C xs) => few_is A C xs lo hi W h)
  rw [hy] at CF
  with_reducible refine (CF.out _ (HL.out.below HB.out)).mono ?_
  rintro e_ w3 ⟨rfl, hb⟩
  replace HB := Lib.hid (on_below HB.out hb)
  replace b0 := keepc hb b0
  replace b1 := keepc hb b1
  replace b2 := keepc hb b2
  replace p0 := keepc hb p0
  replace p1 := keepc hb p1
  replace p2 := keepc hb p2
  replace q0 := keepc hb q0
  replace q1 := keepc hb q1
  replace q2 := keepc hb q2
  replace kb := blk_on kb hb
  replace kp := blk_on kp hb
  replace kq := blk_on kq hb
  clear hb
  have fb0 : World.frozen? w3 ⟨w.heap.size, 0, none⟩ = false := by simp [World.frozen?, kb]
  have fb1 : World.frozen? w3 ⟨w.heap.size, 1, none⟩ = false := by simp [World.frozen?, kb]
  have fb2 : World.frozen? w3 ⟨w.heap.size, 2, none⟩ = false := by simp [World.frozen?, kb]
  go_wp2_with fail
  clear CF fb0 fb1 fb2 b0 b1 b2 p0 p1 p2 q0 q1 q2
  replace kb : (((w3.setCell ⟨w.heap.size, 0, none⟩ (.slice A ys.length C)).setCell ⟨w.heap.size, 1, none⟩ (.int .i64 lo)).setCell ⟨w.heap.size, 2, none⟩ (.int .i64 hi)).heap[w.heap.size]? = some (.cells #[.slice A ys.length C, .int .i64 lo, .int .i64 hi] 24 (0, 0)) := set_cells (set_cells (set_cells kb 0 _) 1 _) 2 _
  replace kp : (((w3.setCell ⟨w.heap.size, 0, none⟩ (.slice A ys.length C)).setCell ⟨w.heap.size, 1, none⟩ (.int .i64 lo)).setCell ⟨w.heap.size, 2, none⟩ (.int .i64 hi)).heap[w.heap.size + 1]? = _ := blk_far (blk_far (blk_far kp (by omega)) (by omega)) (by omega)
  replace kq : (((w3.setCell ⟨w.heap.size, 0, none⟩ (.slice A ys.length C)).setCell ⟨w.heap.size, 1, none⟩ (.int .i64 lo)).setCell ⟨w.heap.size, 2, none⟩ (.int .i64 hi)).heap[w.heap.size + 1 + 1]? = _ := blk_far (blk_far (blk_far kq (by omega)) (by omega)) (by omega)
  replace HB := Lib.hid (show Below w.heap.size w (((w3.setCell ⟨w.heap.size, 0, none⟩ (.slice A ys.length C)).setCell ⟨w.heap.size, 1, none⟩ (.int .i64 lo)).setCell ⟨w.heap.size, 2, none⟩ (.int .i64 hi)) from ((HB.out.setCell (by simp <;> omega) _).setCell (by simp <;> omega) _).setCell (by simp <;> omega) _)
  generalize (((w3.setCell ⟨w.heap.size, 0, none⟩ (.slice A ys.length C)).setCell ⟨w.heap.size, 1, none⟩ (.int .i64 lo)).setCell ⟨w.heap.size, 2, none⟩ (.int .i64 hi)) = w4 at *
  have b0 := (cells3 kb).1
  have b1 := (cells3 kb).2.1
  have b2 := (cells3 kb).2.2
  have p0 := (cells3 kp).1
  have p1 := (cells3 kp).2.1
  have p2 := (cells3 kp).2.2
  have q0 := (cells3 kq).1
  have q1 := (cells3 kq).2.1
  have q2 := (cells3 kq).2.2
  go_wp2_with fail
  with_reducible refine (C1.out _ (HM.out.below HB.out)).mono ?_
  rintro e_ w5 ⟨rfl, hb⟩
  replace HB := Lib.hid (on_below HB.out hb)
  replace b0 := keepc hb b0
  replace b1 := keepc hb b1
  replace b2 := keepc hb b2
  replace p0 := keepc hb p0
  replace p1 := keepc hb p1
  replace p2 := keepc hb p2
  replace q0 := keepc hb q0
  replace q1 := keepc hb q1
  replace q2 := keepc hb q2
  replace kb := blk_on kb hb
  replace kp := blk_on kp hb
  replace kq := blk_on kq hb
  clear hb
  go_wp2_with fail
  with_reducible refine (qpoint_is a b c true h2 _).mono ?_
  rintro e_ w6 ⟨rfl, hb⟩
  replace HB := Lib.hid (on_below HB.out hb)
  replace b0 := keepc hb b0
  replace b1 := keepc hb b1
  replace b2 := keepc hb b2
  replace p0 := keepc hb p0
  replace p1 := keepc hb p1
  replace p2 := keepc hb p2
  replace q0 := keepc hb q0
  replace q1 := keepc hb q1
  replace q2 := keepc hb q2
  replace kb := blk_on kb hb
  replace kp := blk_on kp hb
  replace kq := blk_on kq hb
  clear hb
  go_wp2_with fail
  with_reducible refine (qpoint_is d e f false h3 _).mono ?_
  rintro e_ w7 ⟨rfl, hb⟩
  replace HB := Lib.hid (on_below HB.out hb)
  replace b0 := keepc hb b0
  replace b1 := keepc hb b1
  replace b2 := keepc hb b2
  replace p0 := keepc hb p0
  replace p1 := keepc hb p1
  replace p2 := keepc hb p2
  replace q0 := keepc hb q0
  replace q1 := keepc hb q1
  replace q2 := keepc hb q2
  replace kb := blk_on kb hb
  replace kp := blk_on kp hb
  replace kq := blk_on kq hb
  clear hb
  go_wp2_with fail
  go_ret
  exact ⟨rfl, HB.out⟩
set_option maxRecDepth 100000 in
set_option maxHeartbeats 4000000 in
theorem pts_4 (A : Option Addr) (C : Nat) (xs ys : List (Int × Int)) (lo hi a b c d e f n : Int) (hn : 0 ≤ n ∧ n ≤ 255) (hy : xs.take 20 = ys) (hly : ys.length ≤ 9223372036854775806) (h1 : true = true ↔ Bok ys lo hi) (h2 : vv a b c = true) (h3 : vv d e f = true) (hz : d = 0 ∧ e = 0 ∧ f = 0) (w : World) (hl : Lp w A C xs) (hm : SlS w A ys) :
    Calls Try.prog 5 #[.agg #[.slice A xs.length C, .int .i64 lo, .int .i64 hi], .agg #[.int .i64 a, .int .i64 b, .int .i64 c], .agg #[.int .i64 d, .int .i64 e, .int .i64 f], .int .u8 n] w fun e_ w' => e_ = .returned (.bool true) ∧ Below w.heap.size w w' := by
  have HL := Lib.hid hl
  clear hl
  have HM := Lib.hid hm
  clear hm
  have C1 := Lib.hid (fun W (h : SlS W A ys) => qvalid_is A C ys lo hi (by omega) true h1 W h)
  clear h1
  obtain ⟨hn1, hn2⟩ := hn
  have eq_ := fun W => vec_eq (a := d) (b := e) (c := f) (x := 0) (y := 0) (z := 0) (r := true) (decide_eq_true hz) W
  clear hz
  go_enter Try.func5, Try.ntmps5
  go_wp2_with fail
  obtain ⟨w1, hw1⟩ : ∃ V, (((w.alloc (.cells #[.slice A xs.length C, .int .i64 lo, .int .i64 hi] 24)).alloc (.cells #[.int .i64 a, .int .i64 b, .int .i64 c] 26)).alloc (.cells #[.int .i64 d, .int .i64 e, .int .i64 f] 26)) = V := ⟨_, rfl⟩
  obtain ⟨hB_, kb, kp, kq⟩ := boxes3 _ _ _ _ hw1
  rw [hw1]
  clear hw1
  have HB := Lib.hid hB_
  clear hB_
  have b0 := (cells3 kb).1
  have b1 := (cells3 kb).2.1
  have b2 := (cells3 kb).2.2
  have p0 := (cells3 kp).1
  have p1 := (cells3 kp).2.1
  have p2 := (cells3 kp).2.2
  have q0 := (cells3 kq).1
  have q1 := (cells3 kq).2.1
  have q2 := (cells3 kq).2.2
  with_reducible refine (head_any _).mono ?_
  rintro e_ w2 ⟨rfl, hb⟩
  replace HB := Lib.hid (on_below HB.out hb)
  replace b0 := keepc hb b0
  replace b1 := keepc hb b1
  replace b2 := keepc hb b2
  replace p0 := keepc hb p0
  replace p1 := keepc hb p1
  replace p2 := keepc hb p2
  replace q0 := keepc hb q0
  replace q1 := keepc hb q1
  replace q2 := keepc hb q2
  replace kb := blk_on kb hb
  replace kp := blk_on kp hb
  replace kq := blk_on kq hb
  clear hb
  go_wp2_with fail
  have CF := Lib.hid (fun W (h : Lp W A C xs) => few_is A C xs lo hi W h)
  rw [hy] at CF
  with_reducible refine (CF.out _ (HL.out.below HB.out)).mono ?_
  rintro e_ w3 ⟨rfl, hb⟩
  replace HB := Lib.hid (on_below HB.out hb)
  replace b0 := keepc hb b0
  replace b1 := keepc hb b1
  replace b2 := keepc hb b2
  replace p0 := keepc hb p0
  replace p1 := keepc hb p1
  replace p2 := keepc hb p2
  replace q0 := keepc hb q0
  replace q1 := keepc hb q1
  replace q2 := keepc hb q2
  replace kb := blk_on kb hb
  replace kp := blk_on kp hb
  replace kq := blk_on kq hb
  clear hb
  have fb0 : World.frozen? w3 ⟨w.heap.size, 0, none⟩ = false := by simp [World.frozen?, kb]
  have fb1 : World.frozen? w3 ⟨w.heap.size, 1, none⟩ = false := by simp [World.frozen?, kb]
  have fb2 : World.frozen? w3 ⟨w.heap.size, 2, none⟩ = false := by simp [World.frozen?, kb]
  go_wp2_with fail
  clear CF fb0 fb1 fb2 b0 b1 b2 p0 p1 p2 q0 q1 q2
  replace kb : (((w3.setCell ⟨w.heap.size, 0, none⟩ (.slice A ys.length C)).setCell ⟨w.heap.size, 1, none⟩ (.int .i64 lo)).setCell ⟨w.heap.size, 2, none⟩ (.int .i64 hi)).heap[w.heap.size]? = some (.cells #[.slice A ys.length C, .int .i64 lo, .int .i64 hi] 24 (0, 0)) := set_cells (set_cells (set_cells kb 0 _) 1 _) 2 _
  replace kp : (((w3.setCell ⟨w.heap.size, 0, none⟩ (.slice A ys.length C)).setCell ⟨w.heap.size, 1, none⟩ (.int .i64 lo)).setCell ⟨w.heap.size, 2, none⟩ (.int .i64 hi)).heap[w.heap.size + 1]? = _ := blk_far (blk_far (blk_far kp (by omega)) (by omega)) (by omega)
  replace kq : (((w3.setCell ⟨w.heap.size, 0, none⟩ (.slice A ys.length C)).setCell ⟨w.heap.size, 1, none⟩ (.int .i64 lo)).setCell ⟨w.heap.size, 2, none⟩ (.int .i64 hi)).heap[w.heap.size + 1 + 1]? = _ := blk_far (blk_far (blk_far kq (by omega)) (by omega)) (by omega)
  replace HB := Lib.hid (show Below w.heap.size w (((w3.setCell ⟨w.heap.size, 0, none⟩ (.slice A ys.length C)).setCell ⟨w.heap.size, 1, none⟩ (.int .i64 lo)).setCell ⟨w.heap.size, 2, none⟩ (.int .i64 hi)) from ((HB.out.setCell (by simp <;> omega) _).setCell (by simp <;> omega) _).setCell (by simp <;> omega) _)
  generalize (((w3.setCell ⟨w.heap.size, 0, none⟩ (.slice A ys.length C)).setCell ⟨w.heap.size, 1, none⟩ (.int .i64 lo)).setCell ⟨w.heap.size, 2, none⟩ (.int .i64 hi)) = w4 at *
  have b0 := (cells3 kb).1
  have b1 := (cells3 kb).2.1
  have b2 := (cells3 kb).2.2
  have p0 := (cells3 kp).1
  have p1 := (cells3 kp).2.1
  have p2 := (cells3 kp).2.2
  have q0 := (cells3 kq).1
  have q1 := (cells3 kq).2.1
  have q2 := (cells3 kq).2.2
  go_wp2_with fail
  with_reducible refine (C1.out _ (HM.out.below HB.out)).mono ?_
  rintro e_ w5 ⟨rfl, hb⟩
  replace HB := Lib.hid (on_below HB.out hb)
  replace b0 := keepc hb b0
  replace b1 := keepc hb b1
  replace b2 := keepc hb b2
  replace p0 := keepc hb p0
  replace p1 := keepc hb p1
  replace p2 := keepc hb p2
  replace q0 := keepc hb q0
  replace q1 := keepc hb q1
  replace q2 := keepc hb q2
  replace kb := blk_on kb hb
  replace kp := blk_on kp hb
  replace kq := blk_on kq hb
  clear hb
  go_wp2_with fail
  with_reducible refine (qpoint_is a b c true h2 _).mono ?_
  rintro e_ w6 ⟨rfl, hb⟩
  replace HB := Lib.hid (on_below HB.out hb)
  replace b0 := keepc hb b0
  replace b1 := keepc hb b1
  replace b2 := keepc hb b2
  replace p0 := keepc hb p0
  replace p1 := keepc hb p1
  replace p2 := keepc hb p2
  replace q0 := keepc hb q0
  replace q1 := keepc hb q1
  replace q2 := keepc hb q2
  replace kb := blk_on kb hb
  replace kp := blk_on kp hb
  replace kq := blk_on kq hb
  clear hb
  go_wp2_with fail
  with_reducible refine (qpoint_is d e f true h3 _).mono ?_
  rintro e_ w7 ⟨rfl, hb⟩
  replace HB := Lib.hid (on_below HB.out hb)
  replace b0 := keepc hb b0
  replace b1 := keepc hb b1
  replace b2 := keepc hb b2
  replace p0 := keepc hb p0
  replace p1 := keepc hb p1
  replace p2 := keepc hb p2
  replace q0 := keepc hb q0
  replace q1 := keepc hb q1
  replace q2 := keepc hb q2
  replace kb := blk_on kb hb
  replace kp := blk_on kp hb
  replace kq := blk_on kq hb
  clear hb
  go_wp2_with fail
  go_ret
  exact ⟨rfl, HB.out⟩
set_option maxRecDepth 100000 in
set_option maxHeartbeats 4000000 in
theorem pts_5 (A : Option Addr) (C : Nat) (xs ys : List (Int × Int)) (lo hi a b c d e f n : Int) (hn : 0 ≤ n ∧ n ≤ 255) (hy : xs.take 20 = ys) (hly : ys.length ≤ 9223372036854775806) (h1 : true = true ↔ Bok ys lo hi) (h2 : vv a b c = true) (h3 : vv d e f = true) (hz : ¬ (d = 0 ∧ e = 0 ∧ f = 0)) (h4 : vv (a + (2 + n % 31) * d) (b + (2 + n % 31) * e) (c + (2 + n % 31) * f) = false) (w : World) (hl : Lp w A C xs) (hm : SlS w A ys) :
    Calls Try.prog 5 #[.agg #[.slice A xs.length C, .int .i64 lo, .int .i64 hi], .agg #[.int .i64 a, .int .i64 b, .int .i64 c], .agg #[.int .i64 d, .int .i64 e, .int .i64 f], .int .u8 n] w fun e_ w' => e_ = .returned (.bool true) ∧ Below w.heap.size w w' := by
  have HL := Lib.hid hl
  clear hl
  have HM := Lib.hid hm
  clear hm
  have C1 := Lib.hid (fun W (h : SlS W A ys) => qvalid_is A C ys lo hi (by omega) true h1 W h)
  clear h1
  obtain ⟨hn1, hn2⟩ := hn
  go_enter Try.func5, Try.ntmps5
  go_wp2_with fail
  obtain ⟨w1, hw1⟩ : ∃ V, (((w.alloc (.cells #[.slice A xs.length C, .int .i64 lo, .int .i64 hi] 24)).alloc (.cells #[.int .i64 a, .int .i64 b, .int .i64 c] 26)).alloc (.cells #[.int .i64 d, .int .i64 e, .int .i64 f] 26)) = V := ⟨_, rfl⟩
  obtain ⟨hB_, kb, kp, kq⟩ := boxes3 _ _ _ _ hw1
  rw [hw1]
  clear hw1
  have HB := Lib.hid hB_
  clear hB_
  have b0 := (cells3 kb).1
  have b1 := (cells3 kb).2.1
  have b2 := (cells3 kb).2.2
  have p0 := (cells3 kp).1
  have p1 := (cells3 kp).2.1
  have p2 := (cells3 kp).2.2
  have q0 := (cells3 kq).1
  have q1 := (cells3 kq).2.1
  have q2 := (cells3 kq).2.2
  with_reducible refine (head_any _).mono ?_
  rintro e_ w2 ⟨rfl, hb⟩
  replace HB := Lib.hid (on_below HB.out hb)
  replace b0 := keepc hb b0
  replace b1 := keepc hb b1
  replace b2 := keepc hb b2
  replace p0 := keepc hb p0
  replace p1 := keepc hb p1
  replace p2 := keepc hb p2
  replace q0 := keepc hb q0
  replace q1 := keepc hb q1
  replace q2 := keepc hb q2
  replace kb := blk_on kb hb
  replace kp := blk_on kp hb
  replace kq := blk_on kq hb
  clear hb
  go_wp2_with fail
  have CF := Lib.hid (fun W (h : Lp W A C xs) => few_is A C xs lo hi W h)
  rw [hy] at CF
  with_reducible refine (CF.out _ (HL.out.below HB.out)).mono ?_
  rintro e_ w3 ⟨rfl, hb⟩
  replace HB := Lib.hid (on_below HB.out hb)
  replace b0 := keepc hb b0
  replace b1 := keepc hb b1
  replace b2 := keepc hb b2
  replace p0 := keepc hb p0
  replace p1 := keepc hb p1
  replace p2 := keepc hb p2
  replace q0 := keepc hb q0
  replace q1 := keepc hb q1
  replace q2 := keepc hb q2
  replace kb := blk_on kb hb
  replace kp := blk_on kp hb
  replace kq := blk_on kq hb
  clear hb
  have fb0 : World.frozen? w3 ⟨w.heap.size, 0, none⟩ = false := by simp [World.frozen?, kb]
  have fb1 : World.frozen? w3 ⟨w.heap.size, 1, none⟩ = false := by simp [World.frozen?, kb]
  have fb2 : World.frozen? w3 ⟨w.heap.size, 2, none⟩ = false := by simp [World.frozen?, kb]
  go_wp2_with fail
  clear CF fb0 fb1 fb2 b0 b1 b2 p0 p1 p2 q0 q1 q2
  replace kb : (((w3.setCell ⟨w.heap.size, 0, none⟩ (.slice A ys.length C)).setCell ⟨w.heap.size, 1, none⟩ (.int .i64 lo)).setCell ⟨w.heap.size, 2, none⟩ (.int .i64 hi)).heap[w.heap.size]? = some (.cells #[.slice A ys.length C, .int .i64 lo, .int .i64 hi] 24 (0, 0)) := set_cells (set_cells (set_cells kb 0 _) 1 _) 2 _
  replace kp : (((w3.setCell ⟨w.heap.size, 0, none⟩ (.slice A ys.length C)).setCell ⟨w.heap.size, 1, none⟩ (.int .i64 lo)).setCell ⟨w.heap.size, 2, none⟩ (.int .i64 hi)).heap[w.heap.size + 1]? = _ := blk_far (blk_far (blk_far kp (by omega)) (by omega)) (by omega)
  replace kq : (((w3.setCell ⟨w.heap.size, 0, none⟩ (.slice A ys.length C)).setCell ⟨w.heap.size, 1, none⟩ (.int .i64 lo)).setCell ⟨w.heap.size, 2, none⟩ (.int .i64 hi)).heap[w.heap.size + 1 + 1]? = _ := blk_far (blk_far (blk_far kq (by omega)) (by omega)) (by omega)
  replace HB := Lib.hid (show Below w.heap.size w (((w3.setCell ⟨w.heap.size, 0, none⟩ (.slice A ys.length C)).setCell ⟨w.heap.size, 1, none⟩ (.int .i64 lo)).setCell ⟨w.heap.size, 2, none⟩ (.int .i64 hi)) from ((HB.out.setCell (by simp <;> omega) _).setCell (by simp <;> omega) _).setCell (by simp <;> omega) _)
  generalize (((w3.setCell ⟨w.heap.size, 0, none⟩ (.slice A ys.length C)).setCell ⟨w.heap.size, 1, none⟩ (.int .i64 lo)).setCell ⟨w.heap.size, 2, none⟩ (.int .i64 hi)) = w4 at *
  have b0 := (cells3 kb).1
  have b1 := (cells3 kb).2.1
  have b2 := (cells3 kb).2.2
  have p0 := (cells3 kp).1
  have p1 := (cells3 kp).2.1
  have p2 := (cells3 kp).2.2
  have q0 := (cells3 kq).1
  have q1 := (cells3 kq).2.1
  have q2 := (cells3 kq).2.2
  go_wp2_with fail
  with_reducible refine (C1.out _ (HM.out.below HB.out)).mono ?_
  rintro e_ w5 ⟨rfl, hb⟩
  replace HB := Lib.hid (on_below HB.out hb)
  replace b0 := keepc hb b0
  replace b1 := keepc hb b1
  replace b2 := keepc hb b2
  replace p0 := keepc hb p0
  replace p1 := keepc hb p1
  replace p2 := keepc hb p2
  replace q0 := keepc hb q0
  replace q1 := keepc hb q1
  replace q2 := keepc hb q2
  replace kb := blk_on kb hb
  replace kp := blk_on kp hb
  replace kq := blk_on kq hb
  clear hb
  go_wp2_with fail
  with_reducible refine (qpoint_is a b c true h2 _).mono ?_
  rintro e_ w6 ⟨rfl, hb⟩
  replace HB := Lib.hid (on_below HB.out hb)
  replace b0 := keepc hb b0
  replace b1 := keepc hb b1
  replace b2 := keepc hb b2
  replace p0 := keepc hb p0
  replace p1 := keepc hb p1
  replace p2 := keepc hb p2
  replace q0 := keepc hb q0
  replace q1 := keepc hb q1
  replace q2 := keepc hb q2
  replace kb := blk_on kb hb
  replace kp := blk_on kp hb
  replace kq := blk_on kq hb
  clear hb
  go_wp2_with fail
  have eq_ := fun W => vec_eq (a := d) (b := e) (c := f) (x := 0) (y := 0) (z := 0) (r := false) (decide_eq_false hz) W
  clear hz
  with_reducible refine (qpoint_is d e f true h3 _).mono ?_
  rintro e_ w7 ⟨rfl, hb⟩
  replace HB := Lib.hid (on_below HB.out hb)
  replace b0 := keepc hb b0
  replace b1 := keepc hb b1
  replace b2 := keepc hb b2
  replace p0 := keepc hb p0
  replace p1 := keepc hb p1
  replace p2 := keepc hb p2
  replace q0 := keepc hb q0
  replace q1 := keepc hb q1
  replace q2 := keepc hb q2
  replace kb := blk_on kb hb
  replace kp := blk_on kp hb
  replace kq := blk_on kq hb
  clear hb
  go_wp2_with fail
  have HK := Lib.hid (show 2 ≤ (2 + n % 31) ∧ (2 + n % 31) ≤ 32 from by omega)
  generalize (2 + n % 31) = K at *
  with_reducible refine (along_is a b c d e f K (vv_iff.1 h2) (vv_iff.1 h3) (by have := HK.out; omega) _).mono ?_
  rintro e_ w8 ⟨rfl, hb⟩
  replace HB := Lib.hid (on_below HB.out hb)
  replace b0 := keepc hb b0
  replace b1 := keepc hb b1
  replace b2 := keepc hb b2
  replace p0 := keepc hb p0
  replace p1 := keepc hb p1
  replace p2 := keepc hb p2
  replace q0 := keepc hb q0
  replace q1 := keepc hb q1
  replace q2 := keepc hb q2
  replace kb := blk_on kb hb
  replace kp := blk_on kp hb
  replace kq := blk_on kq hb
  clear hb
  go_wp2_with fail
  have m0 : World.cell? (w8.alloc (.cells #[.int .i64 (a + K * d), .int .i64 (b + K * e), .int .i64 (c + K * f)] 26)) ⟨w8.heap.size, 0, none⟩ = some (.int .i64 (a + K * d)) := by simp [go_sem]
  have m1 : World.cell? (w8.alloc (.cells #[.int .i64 (a + K * d), .int .i64 (b + K * e), .int .i64 (c + K * f)] 26)) ⟨w8.heap.size, 1, none⟩ = some (.int .i64 (b + K * e)) := by simp [go_sem]
  have m2 : World.cell? (w8.alloc (.cells #[.int .i64 (a + K * d), .int .i64 (b + K * e), .int .i64 (c + K * f)] 26)) ⟨w8.heap.size, 2, none⟩ = some (.int .i64 (c + K * f)) := by simp [go_sem]
  have lm : w8.heap.size < (w8.alloc (.cells #[.int .i64 (a + K * d), .int .i64 (b + K * e), .int .i64 (c + K * f)] 26)).heap.size := by simp
  have hb : Below w8.heap.size w8 (w8.alloc (.cells #[.int .i64 (a + K * d), .int .i64 (b + K * e), .int .i64 (c + K * f)] 26)) := below_new _ _
  generalize w8.alloc (.cells #[.int .i64 (a + K * d), .int .i64 (b + K * e), .int .i64 (c + K * f)] 26) = w9 at *
  replace HB := Lib.hid (on_below HB.out hb)
  replace b0 := keepc hb b0
  replace b1 := keepc hb b1
  replace b2 := keepc hb b2
  replace p0 := keepc hb p0
  replace p1 := keepc hb p1
  replace p2 := keepc hb p2
  replace q0 := keepc hb q0
  replace q1 := keepc hb q1
  replace q2 := keepc hb q2
  replace kb := blk_on kb hb
  replace kp := blk_on kp hb
  replace kq := blk_on kq hb
  clear hb
  generalize w8.heap.size = gm at *
  with_reducible refine (qpoint_is (a + K * d) (b + K * e) (c + K * f) false h4 _).mono ?_
  rintro e_ w10 ⟨rfl, hb⟩
  replace HB := Lib.hid (on_below HB.out hb)
  replace b0 := keepc hb b0
  replace b1 := keepc hb b1
  replace b2 := keepc hb b2
  replace p0 := keepc hb p0
  replace p1 := keepc hb p1
  replace p2 := keepc hb p2
  replace q0 := keepc hb q0
  replace q1 := keepc hb q1
  replace q2 := keepc hb q2
  replace m0 := keepc hb m0
  replace m1 := keepc hb m1
  replace m2 := keepc hb m2
  replace kb := blk_on kb hb
  replace kp := blk_on kp hb
  replace kq := blk_on kq hb
  clear hb
  go_wp2_with fail
  go_ret
  exact ⟨rfl, HB.out⟩
theorem rok0 : Rok 32000000 r0 := ⟨by decide, by decide, by decide, by decide⟩
theorem clr_mem {ys : List (Int × Int)} {lo hi a b c d e f K j : Int} {R : Cln} (h : ClR ys lo hi a b c (a + K * d) (b + K * e) (c + K * f) R 0) (h0 : 0 < j) (hj : j < K) : InB ys lo hi (a + j * d) (b + j * e) (c + j * f) ↔ R.h = true ∧ R.a * K < j * R.b ∧ j * R.d < R.c * K := by
  have hK : 0 < K := by omega
  rcases h with ⟨_, h, _⟩ | ⟨hb, h1, h2, _, _, rfl⟩
  · exact absurd h (by decide)
  · have bd := cnd_bd hb h1 h2
    have k := clp_ok (m := 32000000) (r := r0) rok0 bd
    have m := mem_clp (m := 32000000) (n := j) (d := K) hK (r := r0) rok0 bd
    have s := cnd_step (L := ys) (lo := lo) (hi := hi) (fx := a) (fy := b) (fz := c) (sx := d) (sy := e) (sz := f) (k := K) (i := j) hK
    have m0 : mem r0 j K := ⟨rfl, by show 0 * K < j * 1; omega, by show j * 1 < 1 * K; omega⟩
    rw [← s]
    have eqm : (∀ c_ ∈ cnd ys lo hi a b c (a + K * d) (b + K * e) (c + K * f), 0 < c_.1 * K + c_.2 * j) ↔ mem (clp r0 (cnd ys lo hi a b c (a + K * d) (b + K * e) (c + K * f))) j K := by rw [m]; exact ⟨fun h => ⟨m0, h⟩, fun h => h.2⟩
    rw [eqm]
    clear eqm m s
    generalize clp r0 (cnd ys lo hi a b c (a + K * d) (b + K * e) (c + K * f)) = r at *
    unfold clres
    by_cases hh : hitB r = true
    · rw [if_pos hh]
      have he : r.e = false := by unfold hitB at hh; revert hh; cases r.e <;> simp
      unfold mem
      simp [he]
    · rw [if_neg hh]
      exact ⟨fun q => absurd (hit_mem k hK q) hh, fun q => absurd q.1 (by decide)⟩
theorem way_in {a d K j : Int} (h0 : 0 ≤ j) (hj : j ≤ K) (h1 : co a) (h2 : co (a + K * d)) : co (a + j * d) := by
  unfold co at *
  rcases Int.le_total 0 d with g | g
  · have m1 := Int.mul_le_mul_of_nonneg_right hj g
    have m2 := Int.mul_nonneg h0 g
    omega
  · have m1 := Int.mul_le_mul_of_nonpos_right hj g
    have m2 := Int.mul_nonpos_of_nonneg_of_nonpos h0 g
    omega
set_option maxRecDepth 100000 in
set_option maxHeartbeats 4000000 in
theorem pts_6 (A : Option Addr) (C : Nat) (xs ys : List (Int × Int)) (lo hi a b c d e f n : Int) (hn : 0 ≤ n ∧ n ≤ 255) (hy : xs.take 20 = ys) (hly : ys.length ≤ 9223372036854775806) (h1 : true = true ↔ Bok ys lo hi) (h2 : vv a b c = true) (h3 : vv d e f = true) (hz : ¬ (d = 0 ∧ e = 0 ∧ f = 0)) (h4 : vv (a + (2 + n % 31) * d) (b + (2 + n % 31) * e) (c + (2 + n % 31) * f) = true) (ra rb rc rd : Int) (rh : Bool) (hR : ClR ys lo hi a b c (a + (2 + n % 31) * d) (b + (2 + n % 31) * e) (c + (2 + n % 31) * f) ⟨ra, rb, rc, rd, rh⟩ 0) (hs1 : ra < 0) (hs2 : rc < 0) (hbok : Bok ys lo hi) (w : World) (hl : Lp w A C xs) (hm : SlS w A ys) :
    Calls Try.prog 5 #[.agg #[.slice A xs.length C, .int .i64 lo, .int .i64 hi], .agg #[.int .i64 a, .int .i64 b, .int .i64 c], .agg #[.int .i64 d, .int .i64 e, .int .i64 f], .int .u8 n] w fun e_ w' => e_ = .returned (.bool true) ∧ Below w.heap.size w w' := by
  have HL := Lib.hid hl
  clear hl
  have HM := Lib.hid hm
  clear hm
  have C1 := Lib.hid (fun W (h : SlS W A ys) => qvalid_is A C ys lo hi (by omega) true h1 W h)
  clear h1
  obtain ⟨hn1, hn2⟩ := hn
  go_enter Try.func5, Try.ntmps5
  go_wp2_with fail
  obtain ⟨w1, hw1⟩ : ∃ V, (((w.alloc (.cells #[.slice A xs.length C, .int .i64 lo, .int .i64 hi] 24)).alloc (.cells #[.int .i64 a, .int .i64 b, .int .i64 c] 26)).alloc (.cells #[.int .i64 d, .int .i64 e, .int .i64 f] 26)) = V := ⟨_, rfl⟩
  obtain ⟨hB_, kb, kp, kq⟩ := boxes3 _ _ _ _ hw1
  rw [hw1]
  clear hw1
  have HB := Lib.hid hB_
  clear hB_
  have b0 := (cells3 kb).1
  have b1 := (cells3 kb).2.1
  have b2 := (cells3 kb).2.2
  have p0 := (cells3 kp).1
  have p1 := (cells3 kp).2.1
  have p2 := (cells3 kp).2.2
  have q0 := (cells3 kq).1
  have q1 := (cells3 kq).2.1
  have q2 := (cells3 kq).2.2
  with_reducible refine (head_any _).mono ?_
  rintro e_ w2 ⟨rfl, hb⟩
  replace HB := Lib.hid (on_below HB.out hb)
  replace b0 := keepc hb b0
  replace b1 := keepc hb b1
  replace b2 := keepc hb b2
  replace p0 := keepc hb p0
  replace p1 := keepc hb p1
  replace p2 := keepc hb p2
  replace q0 := keepc hb q0
  replace q1 := keepc hb q1
  replace q2 := keepc hb q2
  replace kb := blk_on kb hb
  replace kp := blk_on kp hb
  replace kq := blk_on kq hb
  clear hb
  go_wp2_with fail
  have CF := Lib.hid (fun W (h : Lp W A C xs) => few_is A C xs lo hi W h)
  rw [hy] at CF
  with_reducible refine (CF.out _ (HL.out.below HB.out)).mono ?_
  rintro e_ w3 ⟨rfl, hb⟩
  replace HB := Lib.hid (on_below HB.out hb)
  replace b0 := keepc hb b0
  replace b1 := keepc hb b1
  replace b2 := keepc hb b2
  replace p0 := keepc hb p0
  replace p1 := keepc hb p1
  replace p2 := keepc hb p2
  replace q0 := keepc hb q0
  replace q1 := keepc hb q1
  replace q2 := keepc hb q2
  replace kb := blk_on kb hb
  replace kp := blk_on kp hb
  replace kq := blk_on kq hb
  clear hb
  have fb0 : World.frozen? w3 ⟨w.heap.size, 0, none⟩ = false := by simp [World.frozen?, kb]
  have fb1 : World.frozen? w3 ⟨w.heap.size, 1, none⟩ = false := by simp [World.frozen?, kb]
  have fb2 : World.frozen? w3 ⟨w.heap.size, 2, none⟩ = false := by simp [World.frozen?, kb]
  go_wp2_with fail
  clear CF fb0 fb1 fb2 b0 b1 b2 p0 p1 p2 q0 q1 q2
  replace kb : (((w3.setCell ⟨w.heap.size, 0, none⟩ (.slice A ys.length C)).setCell ⟨w.heap.size, 1, none⟩ (.int .i64 lo)).setCell ⟨w.heap.size, 2, none⟩ (.int .i64 hi)).heap[w.heap.size]? = some (.cells #[.slice A ys.length C, .int .i64 lo, .int .i64 hi] 24 (0, 0)) := set_cells (set_cells (set_cells kb 0 _) 1 _) 2 _
  replace kp : (((w3.setCell ⟨w.heap.size, 0, none⟩ (.slice A ys.length C)).setCell ⟨w.heap.size, 1, none⟩ (.int .i64 lo)).setCell ⟨w.heap.size, 2, none⟩ (.int .i64 hi)).heap[w.heap.size + 1]? = _ := blk_far (blk_far (blk_far kp (by omega)) (by omega)) (by omega)
  replace kq : (((w3.setCell ⟨w.heap.size, 0, none⟩ (.slice A ys.length C)).setCell ⟨w.heap.size, 1, none⟩ (.int .i64 lo)).setCell ⟨w.heap.size, 2, none⟩ (.int .i64 hi)).heap[w.heap.size + 1 + 1]? = _ := blk_far (blk_far (blk_far kq (by omega)) (by omega)) (by omega)
  replace HB := Lib.hid (show Below w.heap.size w (((w3.setCell ⟨w.heap.size, 0, none⟩ (.slice A ys.length C)).setCell ⟨w.heap.size, 1, none⟩ (.int .i64 lo)).setCell ⟨w.heap.size, 2, none⟩ (.int .i64 hi)) from ((HB.out.setCell (by simp <;> omega) _).setCell (by simp <;> omega) _).setCell (by simp <;> omega) _)
  generalize (((w3.setCell ⟨w.heap.size, 0, none⟩ (.slice A ys.length C)).setCell ⟨w.heap.size, 1, none⟩ (.int .i64 lo)).setCell ⟨w.heap.size, 2, none⟩ (.int .i64 hi)) = w4 at *
  have b0 := (cells3 kb).1
  have b1 := (cells3 kb).2.1
  have b2 := (cells3 kb).2.2
  have p0 := (cells3 kp).1
  have p1 := (cells3 kp).2.1
  have p2 := (cells3 kp).2.2
  have q0 := (cells3 kq).1
  have q1 := (cells3 kq).2.1
  have q2 := (cells3 kq).2.2
  go_wp2_with fail
  with_reducible refine (C1.out _ (HM.out.below HB.out)).mono ?_
  rintro e_ w5 ⟨rfl, hb⟩
  replace HB := Lib.hid (on_below HB.out hb)
  replace b0 := keepc hb b0
  replace b1 := keepc hb b1
  replace b2 := keepc hb b2
  replace p0 := keepc hb p0
  replace p1 := keepc hb p1
  replace p2 := keepc hb p2
  replace q0 := keepc hb q0
  replace q1 := keepc hb q1
  replace q2 := keepc hb q2
  replace kb := blk_on kb hb
  replace kp := blk_on kp hb
  replace kq := blk_on kq hb
  clear hb
  go_wp2_with fail
  with_reducible refine (qpoint_is a b c true h2 _).mono ?_
  rintro e_ w6 ⟨rfl, hb⟩
  replace HB := Lib.hid (on_below HB.out hb)
  replace b0 := keepc hb b0
  replace b1 := keepc hb b1
  replace b2 := keepc hb b2
  replace p0 := keepc hb p0
  replace p1 := keepc hb p1
  replace p2 := keepc hb p2
  replace q0 := keepc hb q0
  replace q1 := keepc hb q1
  replace q2 := keepc hb q2
  replace kb := blk_on kb hb
  replace kp := blk_on kp hb
  replace kq := blk_on kq hb
  clear hb
  go_wp2_with fail
  have eq_ := fun W => vec_eq (a := d) (b := e) (c := f) (x := 0) (y := 0) (z := 0) (r := false) (decide_eq_false hz) W
  clear hz
  with_reducible refine (qpoint_is d e f true h3 _).mono ?_
  rintro e_ w7 ⟨rfl, hb⟩
  replace HB := Lib.hid (on_below HB.out hb)
  replace b0 := keepc hb b0
  replace b1 := keepc hb b1
  replace b2 := keepc hb b2
  replace p0 := keepc hb p0
  replace p1 := keepc hb p1
  replace p2 := keepc hb p2
  replace q0 := keepc hb q0
  replace q1 := keepc hb q1
  replace q2 := keepc hb q2
  replace kb := blk_on kb hb
  replace kp := blk_on kp hb
  replace kq := blk_on kq hb
  clear hb
  go_wp2_with fail
  have HK := Lib.hid (show 2 ≤ (2 + n % 31) ∧ (2 + n % 31) ≤ 32 from by omega)
  generalize (2 + n % 31) = K at *
  with_reducible refine (along_is a b c d e f K (vv_iff.1 h2) (vv_iff.1 h3) (by have := HK.out; omega) _).mono ?_
  rintro e_ w8 ⟨rfl, hb⟩
  replace HB := Lib.hid (on_below HB.out hb)
  replace b0 := keepc hb b0
  replace b1 := keepc hb b1
  replace b2 := keepc hb b2
  replace p0 := keepc hb p0
  replace p1 := keepc hb p1
  replace p2 := keepc hb p2
  replace q0 := keepc hb q0
  replace q1 := keepc hb q1
  replace q2 := keepc hb q2
  replace kb := blk_on kb hb
  replace kp := blk_on kp hb
  replace kq := blk_on kq hb
  clear hb
  go_wp2_with fail
  have m0 : World.cell? (w8.alloc (.cells #[.int .i64 (a + K * d), .int .i64 (b + K * e), .int .i64 (c + K * f)] 26)) ⟨w8.heap.size, 0, none⟩ = some (.int .i64 (a + K * d)) := by simp [go_sem]
  have m1 : World.cell? (w8.alloc (.cells #[.int .i64 (a + K * d), .int .i64 (b + K * e), .int .i64 (c + K * f)] 26)) ⟨w8.heap.size, 1, none⟩ = some (.int .i64 (b + K * e)) := by simp [go_sem]
  have m2 : World.cell? (w8.alloc (.cells #[.int .i64 (a + K * d), .int .i64 (b + K * e), .int .i64 (c + K * f)] 26)) ⟨w8.heap.size, 2, none⟩ = some (.int .i64 (c + K * f)) := by simp [go_sem]
  have lm : w8.heap.size < (w8.alloc (.cells #[.int .i64 (a + K * d), .int .i64 (b + K * e), .int .i64 (c + K * f)] 26)).heap.size := by simp
  have hb : Below w8.heap.size w8 (w8.alloc (.cells #[.int .i64 (a + K * d), .int .i64 (b + K * e), .int .i64 (c + K * f)] 26)) := below_new _ _
  generalize w8.alloc (.cells #[.int .i64 (a + K * d), .int .i64 (b + K * e), .int .i64 (c + K * f)] 26) = w9 at *
  replace HB := Lib.hid (on_below HB.out hb)
  replace b0 := keepc hb b0
  replace b1 := keepc hb b1
  replace b2 := keepc hb b2
  replace p0 := keepc hb p0
  replace p1 := keepc hb p1
  replace p2 := keepc hb p2
  replace q0 := keepc hb q0
  replace q1 := keepc hb q1
  replace q2 := keepc hb q2
  replace kb := blk_on kb hb
  replace kp := blk_on kp hb
  replace kq := blk_on kq hb
  clear hb
  generalize w8.heap.size = gm at *
  with_reducible refine (qpoint_is (a + K * d) (b + K * e) (c + K * f) true h4 _).mono ?_
  rintro e_ w10 ⟨rfl, hb⟩
  replace HB := Lib.hid (on_below HB.out hb)
  replace b0 := keepc hb b0
  replace b1 := keepc hb b1
  replace b2 := keepc hb b2
  replace p0 := keepc hb p0
  replace p1 := keepc hb p1
  replace p2 := keepc hb p2
  replace q0 := keepc hb q0
  replace q1 := keepc hb q1
  replace q2 := keepc hb q2
  replace m0 := keepc hb m0
  replace m1 := keepc hb m1
  replace m2 := keepc hb m2
  replace kb := blk_on kb hb
  replace kp := blk_on kp hb
  replace kq := blk_on kq hb
  clear hb
  go_wp2_with fail
  have BR := clr_ok hR
  simp only at BR
  have BK := Lib.hid hbok
  clear hbok
  have HR := Lib.hid (fun j (h0 : 0 < j) (h1 : j < K) => clr_mem (j := j) hR h0 h1)
  with_reducible refine (pclip_is A C ys lo hi a b c _ _ _ hly ⟨ra, rb, rc, rd, rh⟩ 0 hR _ (HM.out.below HB.out)).mono ?_
  rintro e_ w11 ⟨rfl, hb⟩
  replace HB := Lib.hid (on_below HB.out hb)
  replace b0 := keepc hb b0
  replace b1 := keepc hb b1
  replace b2 := keepc hb b2
  replace p0 := keepc hb p0
  replace p1 := keepc hb p1
  replace p2 := keepc hb p2
  replace q0 := keepc hb q0
  replace q1 := keepc hb q1
  replace q2 := keepc hb q2
  replace m0 := keepc hb m0
  replace m1 := keepc hb m1
  replace m2 := keepc hb m2
  replace kb := blk_on kb hb
  replace kp := blk_on kp hb
  replace kq := blk_on kq hb
  clear hb
  clear hR
  obtain ⟨⟨a1, a2⟩, ⟨a3, a4⟩, ⟨a5, a6⟩, a7, a8⟩ := BR
  have hk1 := HK.out.1
  have hk2 := HK.out.2
  have n0 : wrap64 (-ra) = -ra := IntWalk.wrap64_in _ ⟨by omega, by omega⟩
  have m0_ : IntKind.i64.wrap (-ra) = -ra := IntWalk.i64_in _ ⟨by omega, by omega⟩
  have z0 : ra < -ra := by omega
  have y0 : -ra ≤ 1000000000 := by omega
  have n1 : wrap64 (-rc) = -rc := IntWalk.wrap64_in _ ⟨by omega, by omega⟩
  have m1_ : IntKind.i64.wrap (-rc) = -rc := IntWalk.i64_in _ ⟨by omega, by omega⟩
  have z1 : rc < -rc := by omega
  have y1 : -rc ≤ 1000000000 := by omega
  have x1 : rb ≤ 1000000000 := by omega
  have x2 : rd ≤ 1000000000 := by omega
  have x3 : (1 : Int) < K := by omega
  clear m0 m1 m2 lm
  go_wp2_with fail
  have u0 : World.cell? (w11.alloc (.cells #[.int .i64 ra, .int .i64 rb] 37)) ⟨w11.heap.size, 0, none⟩ = some (.int .i64 ra) := by simp [go_sem]
  have u1 : World.cell? (w11.alloc (.cells #[.int .i64 ra, .int .i64 rb] 37)) ⟨w11.heap.size, 1, none⟩ = some (.int .i64 rb) := by simp [go_sem]
  have lu : w11.heap.size < (w11.alloc (.cells #[.int .i64 ra, .int .i64 rb] 37)).heap.size := by simp
  have zu : (w11.alloc (.cells #[.int .i64 ra, .int .i64 rb] 37)).heap.size = w11.heap.size + 1 := by simp
  have hb : Below w11.heap.size w11 (w11.alloc (.cells #[.int .i64 ra, .int .i64 rb] 37)) := below_new _ _
  generalize w11.alloc (.cells #[.int .i64 ra, .int .i64 rb] 37) = w12 at *
  replace HB := Lib.hid (on_below HB.out hb)
  replace b0 := keepc hb b0
  replace b1 := keepc hb b1
  replace b2 := keepc hb b2
  replace p0 := keepc hb p0
  replace p1 := keepc hb p1
  replace p2 := keepc hb p2
  replace q0 := keepc hb q0
  replace q1 := keepc hb q1
  replace q2 := keepc hb q2
  replace kb := blk_on kb hb
  replace kp := blk_on kp hb
  replace kq := blk_on kq hb
  clear hb
  generalize w11.heap.size = gu at *
  have v0 : World.cell? (w12.alloc (.cells #[.int .i64 rc, .int .i64 rd] 37)) ⟨gu + 1, 0, none⟩ = some (.int .i64 rc) := by rw [← zu]; simp [go_sem]
  have v1 : World.cell? (w12.alloc (.cells #[.int .i64 rc, .int .i64 rd] 37)) ⟨gu + 1, 1, none⟩ = some (.int .i64 rd) := by rw [← zu]; simp [go_sem]
  have lv : gu + 1 < (w12.alloc (.cells #[.int .i64 rc, .int .i64 rd] 37)).heap.size := by rw [← zu]; simp
  have hb : Below w12.heap.size w12 (w12.alloc (.cells #[.int .i64 rc, .int .i64 rd] 37)) := below_new _ _
  generalize w12.alloc (.cells #[.int .i64 rc, .int .i64 rd] 37) = w13 at *
  replace HB := Lib.hid (on_below HB.out hb)
  replace b0 := keepc hb b0
  replace b1 := keepc hb b1
  replace b2 := keepc hb b2
  replace p0 := keepc hb p0
  replace p1 := keepc hb p1
  replace p2 := keepc hb p2
  replace q0 := keepc hb q0
  replace q1 := keepc hb q1
  replace q2 := keepc hb q2
  replace u0 := keepc hb u0
  replace u1 := keepc hb u1
  replace kb := blk_on kb hb
  replace kp := blk_on kp hb
  replace kq := blk_on kq hb
  clear hb
  clear zu
  have nv : gu < gu + 1 := Nat.lt_succ_self _
  generalize gu + 1 = gv at *
  clear n0 n1 m0_ m1_ z0 z1 y0 y1 x1 x2 x3 kb kp kq
  go_loopw [16] (fun i wr => ∃ j : Int, (1 ≤ j ∧ j ≤ K) ∧ i = .int .i64 j ∧ Hid (Below w13.heap.size w13 wr)) (fun i _ => (K - intOf i).toNat)
  case atStart => exact ⟨1, ⟨by omega, by omega⟩, rfl, Below.refl _ _⟩
  case round =>
    obtain ⟨j, ⟨hj1, hj2⟩, rfl, HW⟩ := hrel
    replace b0 := keepc HW.out b0
    replace b1 := keepc HW.out b1
    replace b2 := keepc HW.out b2
    replace p0 := keepc HW.out p0
    replace p1 := keepc HW.out p1
    replace p2 := keepc HW.out p2
    replace q0 := keepc HW.out q0
    replace q1 := keepc HW.out q1
    replace q2 := keepc HW.out q2
    replace u0 := keepc HW.out u0
    replace u1 := keepc HW.out u1
    replace v0 := keepc HW.out v0
    replace v1 := keepc HW.out v1
    have HB2 := Lib.hid (on_below HB.out HW.out)
    by_cases hlt : j < K
    · have hv : V3 (a + j * d) (b + j * e) (c + j * f) := by
        have q1 := vv_iff.1 h2
        have q2 := vv_iff.1 h4
        exact ⟨way_in (by omega) hj2 q1.x q2.x, way_in (by omega) hj2 q1.y q2.y, way_in (by omega) hj2 q1.z q2.z⟩
      obtain ⟨r, hr⟩ := bool_of (InB ys lo hi (a + j * d) (b + j * e) (c + j * f))
      have HI := Lib.hid (fun W (h : SlS W A ys) => pinside_is A C ys lo hi (a + j * d) (b + j * e) (c + j * f) hly r 0 (Or.inl ⟨BK.out, hv, rfl, hr⟩) W h)
      have HA := Lib.hid (fun W => along_is a b c d e f j (vv_iff.1 h2) (vv_iff.1 h3) ⟨by omega, by omega⟩ W)
      have hkey := HR.out j (by omega) hlt
      rw [← hr] at hkey
      clear hr hv
      have HK2 := Lib.hid hkey
      clear hkey
      have wj : IntKind.i64.wrap (j + 1) = j + 1 := IntWalk.i64_in _ ⟨by omega, by omega⟩
      have wj2 : wrap64 (j + 1) = j + 1 := IntWalk.wrap64_in _ ⟨by omega, by omega⟩
      have b0_ := mul_co (m := 32000000) (k := 32) (a := ra) (b := K) ⟨by omega, by omega⟩ ⟨by omega, by omega⟩
      have e0_ : IntKind.i64.wrap (ra * K) = ra * K := IntWalk.i64_in _ ⟨by omega, by omega⟩
      have g0_ : wrap64 (ra * K) = ra * K := IntWalk.wrap64_in _ ⟨by omega, by omega⟩
      have b1_ := mul_co (m := 32) (k := 32000000) (a := j) (b := rb) ⟨by omega, by omega⟩ ⟨by omega, by omega⟩
      have e1_ : IntKind.i64.wrap (j * rb) = j * rb := IntWalk.i64_in _ ⟨by omega, by omega⟩
      have g1_ : wrap64 (j * rb) = j * rb := IntWalk.wrap64_in _ ⟨by omega, by omega⟩
      have b2_ := mul_co (m := 32) (k := 32000000) (a := j) (b := rd) ⟨by omega, by omega⟩ ⟨by omega, by omega⟩
      have e2_ : IntKind.i64.wrap (j * rd) = j * rd := IntWalk.i64_in _ ⟨by omega, by omega⟩
      have g2_ : wrap64 (j * rd) = j * rd := IntWalk.wrap64_in _ ⟨by omega, by omega⟩
      have b3_ := mul_co (m := 32000000) (k := 32) (a := rc) (b := K) ⟨by omega, by omega⟩ ⟨by omega, by omega⟩
      have e3_ : IntKind.i64.wrap (rc * K) = rc * K := IntWalk.i64_in _ ⟨by omega, by omega⟩
      have g3_ : wrap64 (rc * K) = rc * K := IntWalk.wrap64_in _ ⟨by omega, by omega⟩
      clear b0_ b1_ b2_ b3_
      go_wp2_with fail
      have sc : ∀ {V : World}, Below wr.heap.size wr V → V.cell? ⟨w.heap.size, 0, none⟩ = some (.slice A ys.length C) ∧ V.cell? ⟨w.heap.size, 1, none⟩ = some (.int .i64 lo) ∧ V.cell? ⟨w.heap.size, 2, none⟩ = some (.int .i64 hi) ∧ V.cell? ⟨w.heap.size + 1, 0, none⟩ = some (.int .i64 a) ∧ V.cell? ⟨w.heap.size + 1, 1, none⟩ = some (.int .i64 b) ∧ V.cell? ⟨w.heap.size + 1, 2, none⟩ = some (.int .i64 c) ∧ V.cell? ⟨w.heap.size + 1 + 1, 0, none⟩ = some (.int .i64 d) ∧ V.cell? ⟨w.heap.size + 1 + 1, 1, none⟩ = some (.int .i64 e) ∧ V.cell? ⟨w.heap.size + 1 + 1, 2, none⟩ = some (.int .i64 f) := fun h => ⟨keepc h b0, keepc h b1, keepc h b2, keepc h p0, keepc h p1, keepc h p2, keepc h q0, keepc h q1, keepc h q2⟩
      refine wp_region_held_drew (S := fun V => V.cell? ⟨w.heap.size, 0, none⟩ = some (.slice A ys.length C) ∧ V.cell? ⟨w.heap.size, 1, none⟩ = some (.int .i64 lo) ∧ V.cell? ⟨w.heap.size, 2, none⟩ = some (.int .i64 hi) ∧ V.cell? ⟨w.heap.size + 1, 0, none⟩ = some (.int .i64 a) ∧ V.cell? ⟨w.heap.size + 1, 1, none⟩ = some (.int .i64 b) ∧ V.cell? ⟨w.heap.size + 1, 2, none⟩ = some (.int .i64 c) ∧ V.cell? ⟨w.heap.size + 1 + 1, 0, none⟩ = some (.int .i64 d) ∧ V.cell? ⟨w.heap.size + 1 + 1, 1, none⟩ = some (.int .i64 e) ∧ V.cell? ⟨w.heap.size + 1 + 1, 2, none⟩ = some (.int .i64 f)) (by kernel_rfl) (sc (Below.refl _ _).drew) fun HL_ => ?_
      have hb0 : Below wr.heap.size wr wr.drew := (Below.refl _ _).drew
      refine wpAnyH_take (i := 0) (v := .agg #[.slice A ys.length C, .int .i64 lo, .int .i64 hi]) rfl (by kernel_rfl) (by kernel_rfl) (by kernel_rfl) (fun _ _ _ h => h) (Or.inl ⟨by kernel_rfl, ?_⟩) HL_ ?_
      · rintro Wl ⟨s0, s1, s2, s3, s4, s5, s6, s7, s8⟩
        go_simp
      simp only [Act.put, List.getElem_toArray, List.getElem_cons_succ, List.getElem_cons_zero, List.setIfInBounds_toArray, List.set_cons_zero, List.set_cons_succ]
      refine wpAnyH_take (i := 1) (v := .agg #[.int .i64 a, .int .i64 b, .int .i64 c]) rfl (by kernel_rfl) (by kernel_rfl) (by kernel_rfl) (fun _ _ _ h => h) (Or.inl ⟨by kernel_rfl, ?_⟩) HL_ ?_
      · rintro Wl ⟨s0, s1, s2, s3, s4, s5, s6, s7, s8⟩
        go_simp
      simp only [Act.put, List.getElem_toArray, List.getElem_cons_succ, List.getElem_cons_zero, List.setIfInBounds_toArray, List.set_cons_zero, List.set_cons_succ]
      refine wpAnyH_take (i := 2) (v := .agg #[.int .i64 d, .int .i64 e, .int .i64 f]) rfl (by kernel_rfl) (by kernel_rfl) (by kernel_rfl) (fun _ _ _ h => h) (Or.inl ⟨by kernel_rfl, ?_⟩) HL_ ?_
      · rintro Wl ⟨s0, s1, s2, s3, s4, s5, s6, s7, s8⟩
        go_simp
      simp only [Act.put, List.getElem_toArray, List.getElem_cons_succ, List.getElem_cons_zero, List.setIfInBounds_toArray, List.set_cons_zero, List.set_cons_succ]
      refine wpAnyH_take (i := 3) (v := .int .i64 j) rfl (by kernel_rfl) (by kernel_rfl) (by kernel_rfl) (fun _ _ _ h => h) (Or.inl ⟨by kernel_rfl, ?_⟩) HL_ ?_
      · rintro Wl ⟨s0, s1, s2, s3, s4, s5, s6, s7, s8⟩
        go_simp
      simp only [Act.put, List.getElem_toArray, List.getElem_cons_succ, List.getElem_cons_zero, List.setIfInBounds_toArray, List.set_cons_zero, List.set_cons_succ]
      refine wpAnyH_ready (rs := [4]) (by kernel_rfl) (by simp) ?_
      refine AllReadyH.cons (o := _) rfl (fun K_ hK => ?_) AllReadyH.nil
      go_simp
      with_reducible refine (HA.out _).mono ?_
      rintro e_ x4 ⟨rfl, hb⟩
      replace hb0 := on_below hb0 hb
      clear hb
      refine hK.out _ _ (sc hb0) fun HL_ => ?_
      clear hK K_
      refine wpAnyH_ready (rs := [5]) (by kernel_rfl) (by simp) ?_
      refine AllReadyH.cons (o := _) rfl (fun K_ hK => ?_) AllReadyH.nil
      go_simp
      with_reducible refine (HI.out _ (HM.out.below (on_below HB2.out hb0))).mono ?_
      rintro e_ x5 ⟨rfl, hb⟩
      replace hb0 := on_below hb0 hb
      clear hb
      refine hK.out _ _ (sc hb0) fun HL_ => ?_
      clear hK K_
      refine wpAnyH_take (i := 6) (v := .tuple #[.bool r, .int .i64 0]) rfl (by kernel_rfl) (by kernel_rfl) (by kernel_rfl) (fun _ _ _ h => h) (Or.inl ⟨by kernel_rfl, ?_⟩) HL_ ?_
      · rintro Wl ⟨s0, s1, s2, s3, s4, s5, s6, s7, s8⟩
        go_simp
      simp only [Act.put, List.getElem_toArray, List.getElem_cons_succ, List.getElem_cons_zero, List.setIfInBounds_toArray, List.set_cons_zero, List.set_cons_succ]
      refine wpAnyH_take (i := 7) (v := .bool r) rfl (by kernel_rfl) (by kernel_rfl) (by kernel_rfl) (fun _ _ _ h => h) (Or.inl ⟨by kernel_rfl, ?_⟩) HL_ ?_
      · rintro Wl ⟨s0, s1, s2, s3, s4, s5, s6, s7, s8⟩
        go_simp
      simp only [Act.put, List.getElem_toArray, List.getElem_cons_succ, List.getElem_cons_zero, List.setIfInBounds_toArray, List.set_cons_zero, List.set_cons_succ]
      refine wpAnyH_take (i := 8) (v := .int .i64 0) rfl (by kernel_rfl) (by kernel_rfl) (by kernel_rfl) (fun _ _ _ h => h) (Or.inl ⟨by kernel_rfl, ?_⟩) HL_ ?_
      · rintro Wl ⟨s0, s1, s2, s3, s4, s5, s6, s7, s8⟩
        go_simp
      simp only [Act.put, List.getElem_toArray, List.getElem_cons_succ, List.getElem_cons_zero, List.setIfInBounds_toArray, List.set_cons_zero, List.set_cons_succ]
      refine wpAnyH_take (i := 9) (v := .bool r) rfl (by kernel_rfl) (by kernel_rfl) (by kernel_rfl) (fun _ _ _ h => h) (Or.inl ⟨by kernel_rfl, ?_⟩) HL_ ?_
      · rintro Wl ⟨s0, s1, s2, s3, s4, s5, s6, s7, s8⟩
        go_simp
      simp only [Act.put, List.getElem_toArray, List.getElem_cons_succ, List.getElem_cons_zero, List.setIfInBounds_toArray, List.set_cons_zero, List.set_cons_succ]
      refine wpAnyH_take (i := 10) (v := .int .i64 0) rfl (by kernel_rfl) (by kernel_rfl) (by kernel_rfl) (fun _ _ _ h => h) (Or.inl ⟨by kernel_rfl, ?_⟩) HL_ ?_
      · rintro Wl ⟨s0, s1, s2, s3, s4, s5, s6, s7, s8⟩
        go_simp
      simp only [Act.put, List.getElem_toArray, List.getElem_cons_succ, List.getElem_cons_zero, List.setIfInBounds_toArray, List.set_cons_zero, List.set_cons_succ]
      refine wpAnyH_done (by kernel_rfl) ?_ _
      clear sc HL_ HI HA
      replace b0 := keepc hb0 b0
      replace b1 := keepc hb0 b1
      replace b2 := keepc hb0 b2
      replace p0 := keepc hb0 p0
      replace p1 := keepc hb0 p1
      replace p2 := keepc hb0 p2
      replace q0 := keepc hb0 q0
      replace q1 := keepc hb0 q1
      replace q2 := keepc hb0 q2
      replace u0 := keepc hb0 u0
      replace u1 := keepc hb0 u1
      replace v0 := keepc hb0 v0
      replace v1 := keepc hb0 v1
      have HW2 := Lib.hid (on_below HW.out hb0)
      clear hb0 HB2 HW
      cases rh
      · have hrf : r = false := by cases r with | false => rfl | true => exact absurd (HK2.out.1 rfl).1 (by decide)
        subst hrf
        clear HK2
        go_wp2_with fail
        go_roundw
        case rel => exact ⟨j + 1, ⟨by omega, by omega⟩, int_of (by first | exact wj | exact wj2 | simp [wj, wj2]), HW2⟩
        case measure => simp [intOf, wj, wj2]; clear e0_ e1_ e2_ e3_ g0_ g1_ g2_ g3_ wj wj2; omega
      · by_cases c1 : ra * K < j * rb
        · by_cases c2 : j * rd < rc * K
          · have hrt : r = true := HK2.out.2 ⟨rfl, c1, c2⟩
            subst hrt
            clear HK2
            go_wp2_with fail
            go_roundw
            case rel => exact ⟨j + 1, ⟨by omega, by omega⟩, int_of (by first | exact wj | exact wj2 | simp [wj, wj2]), HW2⟩
            case measure => simp [intOf, wj, wj2]; clear e0_ e1_ e2_ e3_ g0_ g1_ g2_ g3_ wj wj2; omega
          · have hrf : r = false := by cases r with | false => rfl | true => exact absurd (HK2.out.1 rfl).2.2 c2
            subst hrf
            clear HK2
            go_wp2_with fail
            go_roundw
            case rel => exact ⟨j + 1, ⟨by omega, by omega⟩, int_of (by first | exact wj | exact wj2 | simp [wj, wj2]), HW2⟩
            case measure => simp [intOf, wj, wj2]; clear e0_ e1_ e2_ e3_ g0_ g1_ g2_ g3_ wj wj2; omega
        · have hrf : r = false := by cases r with | false => rfl | true => exact absurd (HK2.out.1 rfl).2.1 c1
          subst hrf
          clear HK2
          go_wp2_with fail
          go_roundw
          case rel => exact ⟨j + 1, ⟨by omega, by omega⟩, int_of (by first | exact wj | exact wj2 | simp [wj, wj2]), HW2⟩
          case measure => simp [intOf, wj, wj2]; clear e0_ e1_ e2_ e3_ g0_ g1_ g2_ g3_ wj wj2; omega
    · go_wp2_with fail
      go_ret
      exact ⟨rfl, HB2.out⟩
set_option maxRecDepth 100000 in
set_option maxHeartbeats 4000000 in
theorem pts_7 (A : Option Addr) (C : Nat) (xs ys : List (Int × Int)) (lo hi a b c d e f n : Int) (hn : 0 ≤ n ∧ n ≤ 255) (hy : xs.take 20 = ys) (hly : ys.length ≤ 9223372036854775806) (h1 : true = true ↔ Bok ys lo hi) (h2 : vv a b c = true) (h3 : vv d e f = true) (hz : ¬ (d = 0 ∧ e = 0 ∧ f = 0)) (h4 : vv (a + (2 + n % 31) * d) (b + (2 + n % 31) * e) (c + (2 + n % 31) * f) = true) (ra rb rc rd : Int) (rh : Bool) (hR : ClR ys lo hi a b c (a + (2 + n % 31) * d) (b + (2 + n % 31) * e) (c + (2 + n % 31) * f) ⟨ra, rb, rc, rd, rh⟩ 0) (hs1 : ra < 0) (hs2 : 0 ≤ rc) (hbok : Bok ys lo hi) (w : World) (hl : Lp w A C xs) (hm : SlS w A ys) :
    Calls Try.prog 5 #[.agg #[.slice A xs.length C, .int .i64 lo, .int .i64 hi], .agg #[.int .i64 a, .int .i64 b, .int .i64 c], .agg #[.int .i64 d, .int .i64 e, .int .i64 f], .int .u8 n] w fun e_ w' => e_ = .returned (.bool true) ∧ Below w.heap.size w w' := by
  have HL := Lib.hid hl
  clear hl
  have HM := Lib.hid hm
  clear hm
  have C1 := Lib.hid (fun W (h : SlS W A ys) => qvalid_is A C ys lo hi (by omega) true h1 W h)
  clear h1
  obtain ⟨hn1, hn2⟩ := hn
  go_enter Try.func5, Try.ntmps5
  go_wp2_with fail
  obtain ⟨w1, hw1⟩ : ∃ V, (((w.alloc (.cells #[.slice A xs.length C, .int .i64 lo, .int .i64 hi] 24)).alloc (.cells #[.int .i64 a, .int .i64 b, .int .i64 c] 26)).alloc (.cells #[.int .i64 d, .int .i64 e, .int .i64 f] 26)) = V := ⟨_, rfl⟩
  obtain ⟨hB_, kb, kp, kq⟩ := boxes3 _ _ _ _ hw1
  rw [hw1]
  clear hw1
  have HB := Lib.hid hB_
  clear hB_
  have b0 := (cells3 kb).1
  have b1 := (cells3 kb).2.1
  have b2 := (cells3 kb).2.2
  have p0 := (cells3 kp).1
  have p1 := (cells3 kp).2.1
  have p2 := (cells3 kp).2.2
  have q0 := (cells3 kq).1
  have q1 := (cells3 kq).2.1
  have q2 := (cells3 kq).2.2
  with_reducible refine (head_any _).mono ?_
  rintro e_ w2 ⟨rfl, hb⟩
  replace HB := Lib.hid (on_below HB.out hb)
  replace b0 := keepc hb b0
  replace b1 := keepc hb b1
  replace b2 := keepc hb b2
  replace p0 := keepc hb p0
  replace p1 := keepc hb p1
  replace p2 := keepc hb p2
  replace q0 := keepc hb q0
  replace q1 := keepc hb q1
  replace q2 := keepc hb q2
  replace kb := blk_on kb hb
  replace kp := blk_on kp hb
  replace kq := blk_on kq hb
  clear hb
  go_wp2_with fail
  have CF := Lib.hid (fun W (h : Lp W A C xs) => few_is A C xs lo hi W h)
  rw [hy] at CF
  with_reducible refine (CF.out _ (HL.out.below HB.out)).mono ?_
  rintro e_ w3 ⟨rfl, hb⟩
  replace HB := Lib.hid (on_below HB.out hb)
  replace b0 := keepc hb b0
  replace b1 := keepc hb b1
  replace b2 := keepc hb b2
  replace p0 := keepc hb p0
  replace p1 := keepc hb p1
  replace p2 := keepc hb p2
  replace q0 := keepc hb q0
  replace q1 := keepc hb q1
  replace q2 := keepc hb q2
  replace kb := blk_on kb hb
  replace kp := blk_on kp hb
  replace kq := blk_on kq hb
  clear hb
  have fb0 : World.frozen? w3 ⟨w.heap.size, 0, none⟩ = false := by simp [World.frozen?, kb]
  have fb1 : World.frozen? w3 ⟨w.heap.size, 1, none⟩ = false := by simp [World.frozen?, kb]
  have fb2 : World.frozen? w3 ⟨w.heap.size, 2, none⟩ = false := by simp [World.frozen?, kb]
  go_wp2_with fail
  clear CF fb0 fb1 fb2 b0 b1 b2 p0 p1 p2 q0 q1 q2
  replace kb : (((w3.setCell ⟨w.heap.size, 0, none⟩ (.slice A ys.length C)).setCell ⟨w.heap.size, 1, none⟩ (.int .i64 lo)).setCell ⟨w.heap.size, 2, none⟩ (.int .i64 hi)).heap[w.heap.size]? = some (.cells #[.slice A ys.length C, .int .i64 lo, .int .i64 hi] 24 (0, 0)) := set_cells (set_cells (set_cells kb 0 _) 1 _) 2 _
  replace kp : (((w3.setCell ⟨w.heap.size, 0, none⟩ (.slice A ys.length C)).setCell ⟨w.heap.size, 1, none⟩ (.int .i64 lo)).setCell ⟨w.heap.size, 2, none⟩ (.int .i64 hi)).heap[w.heap.size + 1]? = _ := blk_far (blk_far (blk_far kp (by omega)) (by omega)) (by omega)
  replace kq : (((w3.setCell ⟨w.heap.size, 0, none⟩ (.slice A ys.length C)).setCell ⟨w.heap.size, 1, none⟩ (.int .i64 lo)).setCell ⟨w.heap.size, 2, none⟩ (.int .i64 hi)).heap[w.heap.size + 1 + 1]? = _ := blk_far (blk_far (blk_far kq (by omega)) (by omega)) (by omega)
  replace HB := Lib.hid (show Below w.heap.size w (((w3.setCell ⟨w.heap.size, 0, none⟩ (.slice A ys.length C)).setCell ⟨w.heap.size, 1, none⟩ (.int .i64 lo)).setCell ⟨w.heap.size, 2, none⟩ (.int .i64 hi)) from ((HB.out.setCell (by simp <;> omega) _).setCell (by simp <;> omega) _).setCell (by simp <;> omega) _)
  generalize (((w3.setCell ⟨w.heap.size, 0, none⟩ (.slice A ys.length C)).setCell ⟨w.heap.size, 1, none⟩ (.int .i64 lo)).setCell ⟨w.heap.size, 2, none⟩ (.int .i64 hi)) = w4 at *
  have b0 := (cells3 kb).1
  have b1 := (cells3 kb).2.1
  have b2 := (cells3 kb).2.2
  have p0 := (cells3 kp).1
  have p1 := (cells3 kp).2.1
  have p2 := (cells3 kp).2.2
  have q0 := (cells3 kq).1
  have q1 := (cells3 kq).2.1
  have q2 := (cells3 kq).2.2
  go_wp2_with fail
  with_reducible refine (C1.out _ (HM.out.below HB.out)).mono ?_
  rintro e_ w5 ⟨rfl, hb⟩
  replace HB := Lib.hid (on_below HB.out hb)
  replace b0 := keepc hb b0
  replace b1 := keepc hb b1
  replace b2 := keepc hb b2
  replace p0 := keepc hb p0
  replace p1 := keepc hb p1
  replace p2 := keepc hb p2
  replace q0 := keepc hb q0
  replace q1 := keepc hb q1
  replace q2 := keepc hb q2
  replace kb := blk_on kb hb
  replace kp := blk_on kp hb
  replace kq := blk_on kq hb
  clear hb
  go_wp2_with fail
  with_reducible refine (qpoint_is a b c true h2 _).mono ?_
  rintro e_ w6 ⟨rfl, hb⟩
  replace HB := Lib.hid (on_below HB.out hb)
  replace b0 := keepc hb b0
  replace b1 := keepc hb b1
  replace b2 := keepc hb b2
  replace p0 := keepc hb p0
  replace p1 := keepc hb p1
  replace p2 := keepc hb p2
  replace q0 := keepc hb q0
  replace q1 := keepc hb q1
  replace q2 := keepc hb q2
  replace kb := blk_on kb hb
  replace kp := blk_on kp hb
  replace kq := blk_on kq hb
  clear hb
  go_wp2_with fail
  have eq_ := fun W => vec_eq (a := d) (b := e) (c := f) (x := 0) (y := 0) (z := 0) (r := false) (decide_eq_false hz) W
  clear hz
  with_reducible refine (qpoint_is d e f true h3 _).mono ?_
  rintro e_ w7 ⟨rfl, hb⟩
  replace HB := Lib.hid (on_below HB.out hb)
  replace b0 := keepc hb b0
  replace b1 := keepc hb b1
  replace b2 := keepc hb b2
  replace p0 := keepc hb p0
  replace p1 := keepc hb p1
  replace p2 := keepc hb p2
  replace q0 := keepc hb q0
  replace q1 := keepc hb q1
  replace q2 := keepc hb q2
  replace kb := blk_on kb hb
  replace kp := blk_on kp hb
  replace kq := blk_on kq hb
  clear hb
  go_wp2_with fail
  have HK := Lib.hid (show 2 ≤ (2 + n % 31) ∧ (2 + n % 31) ≤ 32 from by omega)
  generalize (2 + n % 31) = K at *
  with_reducible refine (along_is a b c d e f K (vv_iff.1 h2) (vv_iff.1 h3) (by have := HK.out; omega) _).mono ?_
  rintro e_ w8 ⟨rfl, hb⟩
  replace HB := Lib.hid (on_below HB.out hb)
  replace b0 := keepc hb b0
  replace b1 := keepc hb b1
  replace b2 := keepc hb b2
  replace p0 := keepc hb p0
  replace p1 := keepc hb p1
  replace p2 := keepc hb p2
  replace q0 := keepc hb q0
  replace q1 := keepc hb q1
  replace q2 := keepc hb q2
  replace kb := blk_on kb hb
  replace kp := blk_on kp hb
  replace kq := blk_on kq hb
  clear hb
  go_wp2_with fail
  have m0 : World.cell? (w8.alloc (.cells #[.int .i64 (a + K * d), .int .i64 (b + K * e), .int .i64 (c + K * f)] 26)) ⟨w8.heap.size, 0, none⟩ = some (.int .i64 (a + K * d)) := by simp [go_sem]
  have m1 : World.cell? (w8.alloc (.cells #[.int .i64 (a + K * d), .int .i64 (b + K * e), .int .i64 (c + K * f)] 26)) ⟨w8.heap.size, 1, none⟩ = some (.int .i64 (b + K * e)) := by simp [go_sem]
  have m2 : World.cell? (w8.alloc (.cells #[.int .i64 (a + K * d), .int .i64 (b + K * e), .int .i64 (c + K * f)] 26)) ⟨w8.heap.size, 2, none⟩ = some (.int .i64 (c + K * f)) := by simp [go_sem]
  have lm : w8.heap.size < (w8.alloc (.cells #[.int .i64 (a + K * d), .int .i64 (b + K * e), .int .i64 (c + K * f)] 26)).heap.size := by simp
  have hb : Below w8.heap.size w8 (w8.alloc (.cells #[.int .i64 (a + K * d), .int .i64 (b + K * e), .int .i64 (c + K * f)] 26)) := below_new _ _
  generalize w8.alloc (.cells #[.int .i64 (a + K * d), .int .i64 (b + K * e), .int .i64 (c + K * f)] 26) = w9 at *
  replace HB := Lib.hid (on_below HB.out hb)
  replace b0 := keepc hb b0
  replace b1 := keepc hb b1
  replace b2 := keepc hb b2
  replace p0 := keepc hb p0
  replace p1 := keepc hb p1
  replace p2 := keepc hb p2
  replace q0 := keepc hb q0
  replace q1 := keepc hb q1
  replace q2 := keepc hb q2
  replace kb := blk_on kb hb
  replace kp := blk_on kp hb
  replace kq := blk_on kq hb
  clear hb
  generalize w8.heap.size = gm at *
  with_reducible refine (qpoint_is (a + K * d) (b + K * e) (c + K * f) true h4 _).mono ?_
  rintro e_ w10 ⟨rfl, hb⟩
  replace HB := Lib.hid (on_below HB.out hb)
  replace b0 := keepc hb b0
  replace b1 := keepc hb b1
  replace b2 := keepc hb b2
  replace p0 := keepc hb p0
  replace p1 := keepc hb p1
  replace p2 := keepc hb p2
  replace q0 := keepc hb q0
  replace q1 := keepc hb q1
  replace q2 := keepc hb q2
  replace m0 := keepc hb m0
  replace m1 := keepc hb m1
  replace m2 := keepc hb m2
  replace kb := blk_on kb hb
  replace kp := blk_on kp hb
  replace kq := blk_on kq hb
  clear hb
  go_wp2_with fail
  have BR := clr_ok hR
  simp only at BR
  have BK := Lib.hid hbok
  clear hbok
  have HR := Lib.hid (fun j (h0 : 0 < j) (h1 : j < K) => clr_mem (j := j) hR h0 h1)
  with_reducible refine (pclip_is A C ys lo hi a b c _ _ _ hly ⟨ra, rb, rc, rd, rh⟩ 0 hR _ (HM.out.below HB.out)).mono ?_
  rintro e_ w11 ⟨rfl, hb⟩
  replace HB := Lib.hid (on_below HB.out hb)
  replace b0 := keepc hb b0
  replace b1 := keepc hb b1
  replace b2 := keepc hb b2
  replace p0 := keepc hb p0
  replace p1 := keepc hb p1
  replace p2 := keepc hb p2
  replace q0 := keepc hb q0
  replace q1 := keepc hb q1
  replace q2 := keepc hb q2
  replace m0 := keepc hb m0
  replace m1 := keepc hb m1
  replace m2 := keepc hb m2
  replace kb := blk_on kb hb
  replace kp := blk_on kp hb
  replace kq := blk_on kq hb
  clear hb
  clear hR
  obtain ⟨⟨a1, a2⟩, ⟨a3, a4⟩, ⟨a5, a6⟩, a7, a8⟩ := BR
  have hk1 := HK.out.1
  have hk2 := HK.out.2
  have n0 : wrap64 (-ra) = -ra := IntWalk.wrap64_in _ ⟨by omega, by omega⟩
  have m0_ : IntKind.i64.wrap (-ra) = -ra := IntWalk.i64_in _ ⟨by omega, by omega⟩
  have z0 : ra < -ra := by omega
  have y0 : -ra ≤ 1000000000 := by omega
  have n1 : wrap64 (-rc) = -rc := IntWalk.wrap64_in _ ⟨by omega, by omega⟩
  have m1_ : IntKind.i64.wrap (-rc) = -rc := IntWalk.i64_in _ ⟨by omega, by omega⟩
  have z1 : -rc ≤ rc := by omega
  have y1 : rc ≤ 1000000000 := by omega
  have x1 : rb ≤ 1000000000 := by omega
  have x2 : rd ≤ 1000000000 := by omega
  have x3 : (1 : Int) < K := by omega
  clear m0 m1 m2 lm
  go_wp2_with fail
  have u0 : World.cell? (w11.alloc (.cells #[.int .i64 ra, .int .i64 rb] 37)) ⟨w11.heap.size, 0, none⟩ = some (.int .i64 ra) := by simp [go_sem]
  have u1 : World.cell? (w11.alloc (.cells #[.int .i64 ra, .int .i64 rb] 37)) ⟨w11.heap.size, 1, none⟩ = some (.int .i64 rb) := by simp [go_sem]
  have lu : w11.heap.size < (w11.alloc (.cells #[.int .i64 ra, .int .i64 rb] 37)).heap.size := by simp
  have zu : (w11.alloc (.cells #[.int .i64 ra, .int .i64 rb] 37)).heap.size = w11.heap.size + 1 := by simp
  have hb : Below w11.heap.size w11 (w11.alloc (.cells #[.int .i64 ra, .int .i64 rb] 37)) := below_new _ _
  generalize w11.alloc (.cells #[.int .i64 ra, .int .i64 rb] 37) = w12 at *
  replace HB := Lib.hid (on_below HB.out hb)
  replace b0 := keepc hb b0
  replace b1 := keepc hb b1
  replace b2 := keepc hb b2
  replace p0 := keepc hb p0
  replace p1 := keepc hb p1
  replace p2 := keepc hb p2
  replace q0 := keepc hb q0
  replace q1 := keepc hb q1
  replace q2 := keepc hb q2
  replace kb := blk_on kb hb
  replace kp := blk_on kp hb
  replace kq := blk_on kq hb
  clear hb
  generalize w11.heap.size = gu at *
  have v0 : World.cell? (w12.alloc (.cells #[.int .i64 rc, .int .i64 rd] 37)) ⟨gu + 1, 0, none⟩ = some (.int .i64 rc) := by rw [← zu]; simp [go_sem]
  have v1 : World.cell? (w12.alloc (.cells #[.int .i64 rc, .int .i64 rd] 37)) ⟨gu + 1, 1, none⟩ = some (.int .i64 rd) := by rw [← zu]; simp [go_sem]
  have lv : gu + 1 < (w12.alloc (.cells #[.int .i64 rc, .int .i64 rd] 37)).heap.size := by rw [← zu]; simp
  have hb : Below w12.heap.size w12 (w12.alloc (.cells #[.int .i64 rc, .int .i64 rd] 37)) := below_new _ _
  generalize w12.alloc (.cells #[.int .i64 rc, .int .i64 rd] 37) = w13 at *
  replace HB := Lib.hid (on_below HB.out hb)
  replace b0 := keepc hb b0
  replace b1 := keepc hb b1
  replace b2 := keepc hb b2
  replace p0 := keepc hb p0
  replace p1 := keepc hb p1
  replace p2 := keepc hb p2
  replace q0 := keepc hb q0
  replace q1 := keepc hb q1
  replace q2 := keepc hb q2
  replace u0 := keepc hb u0
  replace u1 := keepc hb u1
  replace kb := blk_on kb hb
  replace kp := blk_on kp hb
  replace kq := blk_on kq hb
  clear hb
  clear zu
  have nv : gu < gu + 1 := Nat.lt_succ_self _
  generalize gu + 1 = gv at *
  clear n0 n1 m0_ m1_ z0 z1 y0 y1 x1 x2 x3 kb kp kq
  go_loopw [16] (fun i wr => ∃ j : Int, (1 ≤ j ∧ j ≤ K) ∧ i = .int .i64 j ∧ Hid (Below w13.heap.size w13 wr)) (fun i _ => (K - intOf i).toNat)
  case atStart => exact ⟨1, ⟨by omega, by omega⟩, rfl, Below.refl _ _⟩
  case round =>
    obtain ⟨j, ⟨hj1, hj2⟩, rfl, HW⟩ := hrel
    replace b0 := keepc HW.out b0
    replace b1 := keepc HW.out b1
    replace b2 := keepc HW.out b2
    replace p0 := keepc HW.out p0
    replace p1 := keepc HW.out p1
    replace p2 := keepc HW.out p2
    replace q0 := keepc HW.out q0
    replace q1 := keepc HW.out q1
    replace q2 := keepc HW.out q2
    replace u0 := keepc HW.out u0
    replace u1 := keepc HW.out u1
    replace v0 := keepc HW.out v0
    replace v1 := keepc HW.out v1
    have HB2 := Lib.hid (on_below HB.out HW.out)
    by_cases hlt : j < K
    · have hv : V3 (a + j * d) (b + j * e) (c + j * f) := by
        have q1 := vv_iff.1 h2
        have q2 := vv_iff.1 h4
        exact ⟨way_in (by omega) hj2 q1.x q2.x, way_in (by omega) hj2 q1.y q2.y, way_in (by omega) hj2 q1.z q2.z⟩
      obtain ⟨r, hr⟩ := bool_of (InB ys lo hi (a + j * d) (b + j * e) (c + j * f))
      have HI := Lib.hid (fun W (h : SlS W A ys) => pinside_is A C ys lo hi (a + j * d) (b + j * e) (c + j * f) hly r 0 (Or.inl ⟨BK.out, hv, rfl, hr⟩) W h)
      have HA := Lib.hid (fun W => along_is a b c d e f j (vv_iff.1 h2) (vv_iff.1 h3) ⟨by omega, by omega⟩ W)
      have hkey := HR.out j (by omega) hlt
      rw [← hr] at hkey
      clear hr hv
      have HK2 := Lib.hid hkey
      clear hkey
      have wj : IntKind.i64.wrap (j + 1) = j + 1 := IntWalk.i64_in _ ⟨by omega, by omega⟩
      have wj2 : wrap64 (j + 1) = j + 1 := IntWalk.wrap64_in _ ⟨by omega, by omega⟩
      have b0_ := mul_co (m := 32000000) (k := 32) (a := ra) (b := K) ⟨by omega, by omega⟩ ⟨by omega, by omega⟩
      have e0_ : IntKind.i64.wrap (ra * K) = ra * K := IntWalk.i64_in _ ⟨by omega, by omega⟩
      have g0_ : wrap64 (ra * K) = ra * K := IntWalk.wrap64_in _ ⟨by omega, by omega⟩
      have b1_ := mul_co (m := 32) (k := 32000000) (a := j) (b := rb) ⟨by omega, by omega⟩ ⟨by omega, by omega⟩
      have e1_ : IntKind.i64.wrap (j * rb) = j * rb := IntWalk.i64_in _ ⟨by omega, by omega⟩
      have g1_ : wrap64 (j * rb) = j * rb := IntWalk.wrap64_in _ ⟨by omega, by omega⟩
      have b2_ := mul_co (m := 32) (k := 32000000) (a := j) (b := rd) ⟨by omega, by omega⟩ ⟨by omega, by omega⟩
      have e2_ : IntKind.i64.wrap (j * rd) = j * rd := IntWalk.i64_in _ ⟨by omega, by omega⟩
      have g2_ : wrap64 (j * rd) = j * rd := IntWalk.wrap64_in _ ⟨by omega, by omega⟩
      have b3_ := mul_co (m := 32000000) (k := 32) (a := rc) (b := K) ⟨by omega, by omega⟩ ⟨by omega, by omega⟩
      have e3_ : IntKind.i64.wrap (rc * K) = rc * K := IntWalk.i64_in _ ⟨by omega, by omega⟩
      have g3_ : wrap64 (rc * K) = rc * K := IntWalk.wrap64_in _ ⟨by omega, by omega⟩
      clear b0_ b1_ b2_ b3_
      go_wp2_with fail
      have sc : ∀ {V : World}, Below wr.heap.size wr V → V.cell? ⟨w.heap.size, 0, none⟩ = some (.slice A ys.length C) ∧ V.cell? ⟨w.heap.size, 1, none⟩ = some (.int .i64 lo) ∧ V.cell? ⟨w.heap.size, 2, none⟩ = some (.int .i64 hi) ∧ V.cell? ⟨w.heap.size + 1, 0, none⟩ = some (.int .i64 a) ∧ V.cell? ⟨w.heap.size + 1, 1, none⟩ = some (.int .i64 b) ∧ V.cell? ⟨w.heap.size + 1, 2, none⟩ = some (.int .i64 c) ∧ V.cell? ⟨w.heap.size + 1 + 1, 0, none⟩ = some (.int .i64 d) ∧ V.cell? ⟨w.heap.size + 1 + 1, 1, none⟩ = some (.int .i64 e) ∧ V.cell? ⟨w.heap.size + 1 + 1, 2, none⟩ = some (.int .i64 f) := fun h => ⟨keepc h b0, keepc h b1, keepc h b2, keepc h p0, keepc h p1, keepc h p2, keepc h q0, keepc h q1, keepc h q2⟩
      refine wp_region_held_drew (S := fun V => V.cell? ⟨w.heap.size, 0, none⟩ = some (.slice A ys.length C) ∧ V.cell? ⟨w.heap.size, 1, none⟩ = some (.int .i64 lo) ∧ V.cell? ⟨w.heap.size, 2, none⟩ = some (.int .i64 hi) ∧ V.cell? ⟨w.heap.size + 1, 0, none⟩ = some (.int .i64 a) ∧ V.cell? ⟨w.heap.size + 1, 1, none⟩ = some (.int .i64 b) ∧ V.cell? ⟨w.heap.size + 1, 2, none⟩ = some (.int .i64 c) ∧ V.cell? ⟨w.heap.size + 1 + 1, 0, none⟩ = some (.int .i64 d) ∧ V.cell? ⟨w.heap.size + 1 + 1, 1, none⟩ = some (.int .i64 e) ∧ V.cell? ⟨w.heap.size + 1 + 1, 2, none⟩ = some (.int .i64 f)) (by kernel_rfl) (sc (Below.refl _ _).drew) fun HL_ => ?_
      have hb0 : Below wr.heap.size wr wr.drew := (Below.refl _ _).drew
      refine wpAnyH_take (i := 0) (v := .agg #[.slice A ys.length C, .int .i64 lo, .int .i64 hi]) rfl (by kernel_rfl) (by kernel_rfl) (by kernel_rfl) (fun _ _ _ h => h) (Or.inl ⟨by kernel_rfl, ?_⟩) HL_ ?_
      · rintro Wl ⟨s0, s1, s2, s3, s4, s5, s6, s7, s8⟩
        go_simp
      simp only [Act.put, List.getElem_toArray, List.getElem_cons_succ, List.getElem_cons_zero, List.setIfInBounds_toArray, List.set_cons_zero, List.set_cons_succ]
      refine wpAnyH_take (i := 1) (v := .agg #[.int .i64 a, .int .i64 b, .int .i64 c]) rfl (by kernel_rfl) (by kernel_rfl) (by kernel_rfl) (fun _ _ _ h => h) (Or.inl ⟨by kernel_rfl, ?_⟩) HL_ ?_
      · rintro Wl ⟨s0, s1, s2, s3, s4, s5, s6, s7, s8⟩
        go_simp
      simp only [Act.put, List.getElem_toArray, List.getElem_cons_succ, List.getElem_cons_zero, List.setIfInBounds_toArray, List.set_cons_zero, List.set_cons_succ]
      refine wpAnyH_take (i := 2) (v := .agg #[.int .i64 d, .int .i64 e, .int .i64 f]) rfl (by kernel_rfl) (by kernel_rfl) (by kernel_rfl) (fun _ _ _ h => h) (Or.inl ⟨by kernel_rfl, ?_⟩) HL_ ?_
      · rintro Wl ⟨s0, s1, s2, s3, s4, s5, s6, s7, s8⟩
        go_simp
      simp only [Act.put, List.getElem_toArray, List.getElem_cons_succ, List.getElem_cons_zero, List.setIfInBounds_toArray, List.set_cons_zero, List.set_cons_succ]
      refine wpAnyH_take (i := 3) (v := .int .i64 j) rfl (by kernel_rfl) (by kernel_rfl) (by kernel_rfl) (fun _ _ _ h => h) (Or.inl ⟨by kernel_rfl, ?_⟩) HL_ ?_
      · rintro Wl ⟨s0, s1, s2, s3, s4, s5, s6, s7, s8⟩
        go_simp
      simp only [Act.put, List.getElem_toArray, List.getElem_cons_succ, List.getElem_cons_zero, List.setIfInBounds_toArray, List.set_cons_zero, List.set_cons_succ]
      refine wpAnyH_ready (rs := [4]) (by kernel_rfl) (by simp) ?_
      refine AllReadyH.cons (o := _) rfl (fun K_ hK => ?_) AllReadyH.nil
      go_simp
      with_reducible refine (HA.out _).mono ?_
      rintro e_ x4 ⟨rfl, hb⟩
      replace hb0 := on_below hb0 hb
      clear hb
      refine hK.out _ _ (sc hb0) fun HL_ => ?_
      clear hK K_
      refine wpAnyH_ready (rs := [5]) (by kernel_rfl) (by simp) ?_
      refine AllReadyH.cons (o := _) rfl (fun K_ hK => ?_) AllReadyH.nil
      go_simp
      with_reducible refine (HI.out _ (HM.out.below (on_below HB2.out hb0))).mono ?_
      rintro e_ x5 ⟨rfl, hb⟩
      replace hb0 := on_below hb0 hb
      clear hb
      refine hK.out _ _ (sc hb0) fun HL_ => ?_
      clear hK K_
      refine wpAnyH_take (i := 6) (v := .tuple #[.bool r, .int .i64 0]) rfl (by kernel_rfl) (by kernel_rfl) (by kernel_rfl) (fun _ _ _ h => h) (Or.inl ⟨by kernel_rfl, ?_⟩) HL_ ?_
      · rintro Wl ⟨s0, s1, s2, s3, s4, s5, s6, s7, s8⟩
        go_simp
      simp only [Act.put, List.getElem_toArray, List.getElem_cons_succ, List.getElem_cons_zero, List.setIfInBounds_toArray, List.set_cons_zero, List.set_cons_succ]
      refine wpAnyH_take (i := 7) (v := .bool r) rfl (by kernel_rfl) (by kernel_rfl) (by kernel_rfl) (fun _ _ _ h => h) (Or.inl ⟨by kernel_rfl, ?_⟩) HL_ ?_
      · rintro Wl ⟨s0, s1, s2, s3, s4, s5, s6, s7, s8⟩
        go_simp
      simp only [Act.put, List.getElem_toArray, List.getElem_cons_succ, List.getElem_cons_zero, List.setIfInBounds_toArray, List.set_cons_zero, List.set_cons_succ]
      refine wpAnyH_take (i := 8) (v := .int .i64 0) rfl (by kernel_rfl) (by kernel_rfl) (by kernel_rfl) (fun _ _ _ h => h) (Or.inl ⟨by kernel_rfl, ?_⟩) HL_ ?_
      · rintro Wl ⟨s0, s1, s2, s3, s4, s5, s6, s7, s8⟩
        go_simp
      simp only [Act.put, List.getElem_toArray, List.getElem_cons_succ, List.getElem_cons_zero, List.setIfInBounds_toArray, List.set_cons_zero, List.set_cons_succ]
      refine wpAnyH_take (i := 9) (v := .bool r) rfl (by kernel_rfl) (by kernel_rfl) (by kernel_rfl) (fun _ _ _ h => h) (Or.inl ⟨by kernel_rfl, ?_⟩) HL_ ?_
      · rintro Wl ⟨s0, s1, s2, s3, s4, s5, s6, s7, s8⟩
        go_simp
      simp only [Act.put, List.getElem_toArray, List.getElem_cons_succ, List.getElem_cons_zero, List.setIfInBounds_toArray, List.set_cons_zero, List.set_cons_succ]
      refine wpAnyH_take (i := 10) (v := .int .i64 0) rfl (by kernel_rfl) (by kernel_rfl) (by kernel_rfl) (fun _ _ _ h => h) (Or.inl ⟨by kernel_rfl, ?_⟩) HL_ ?_
      · rintro Wl ⟨s0, s1, s2, s3, s4, s5, s6, s7, s8⟩
        go_simp
      simp only [Act.put, List.getElem_toArray, List.getElem_cons_succ, List.getElem_cons_zero, List.setIfInBounds_toArray, List.set_cons_zero, List.set_cons_succ]
      refine wpAnyH_done (by kernel_rfl) ?_ _
      clear sc HL_ HI HA
      replace b0 := keepc hb0 b0
      replace b1 := keepc hb0 b1
      replace b2 := keepc hb0 b2
      replace p0 := keepc hb0 p0
      replace p1 := keepc hb0 p1
      replace p2 := keepc hb0 p2
      replace q0 := keepc hb0 q0
      replace q1 := keepc hb0 q1
      replace q2 := keepc hb0 q2
      replace u0 := keepc hb0 u0
      replace u1 := keepc hb0 u1
      replace v0 := keepc hb0 v0
      replace v1 := keepc hb0 v1
      have HW2 := Lib.hid (on_below HW.out hb0)
      clear hb0 HB2 HW
      cases rh
      · have hrf : r = false := by cases r with | false => rfl | true => exact absurd (HK2.out.1 rfl).1 (by decide)
        subst hrf
        clear HK2
        go_wp2_with fail
        go_roundw
        case rel => exact ⟨j + 1, ⟨by omega, by omega⟩, int_of (by first | exact wj | exact wj2 | simp [wj, wj2]), HW2⟩
        case measure => simp [intOf, wj, wj2]; clear e0_ e1_ e2_ e3_ g0_ g1_ g2_ g3_ wj wj2; omega
      · by_cases c1 : ra * K < j * rb
        · by_cases c2 : j * rd < rc * K
          · have hrt : r = true := HK2.out.2 ⟨rfl, c1, c2⟩
            subst hrt
            clear HK2
            go_wp2_with fail
            go_roundw
            case rel => exact ⟨j + 1, ⟨by omega, by omega⟩, int_of (by first | exact wj | exact wj2 | simp [wj, wj2]), HW2⟩
            case measure => simp [intOf, wj, wj2]; clear e0_ e1_ e2_ e3_ g0_ g1_ g2_ g3_ wj wj2; omega
          · have hrf : r = false := by cases r with | false => rfl | true => exact absurd (HK2.out.1 rfl).2.2 c2
            subst hrf
            clear HK2
            go_wp2_with fail
            go_roundw
            case rel => exact ⟨j + 1, ⟨by omega, by omega⟩, int_of (by first | exact wj | exact wj2 | simp [wj, wj2]), HW2⟩
            case measure => simp [intOf, wj, wj2]; clear e0_ e1_ e2_ e3_ g0_ g1_ g2_ g3_ wj wj2; omega
        · have hrf : r = false := by cases r with | false => rfl | true => exact absurd (HK2.out.1 rfl).2.1 c1
          subst hrf
          clear HK2
          go_wp2_with fail
          go_roundw
          case rel => exact ⟨j + 1, ⟨by omega, by omega⟩, int_of (by first | exact wj | exact wj2 | simp [wj, wj2]), HW2⟩
          case measure => simp [intOf, wj, wj2]; clear e0_ e1_ e2_ e3_ g0_ g1_ g2_ g3_ wj wj2; omega
    · go_wp2_with fail
      go_ret
      exact ⟨rfl, HB2.out⟩
set_option maxRecDepth 100000 in
set_option maxHeartbeats 4000000 in
theorem pts_8 (A : Option Addr) (C : Nat) (xs ys : List (Int × Int)) (lo hi a b c d e f n : Int) (hn : 0 ≤ n ∧ n ≤ 255) (hy : xs.take 20 = ys) (hly : ys.length ≤ 9223372036854775806) (h1 : true = true ↔ Bok ys lo hi) (h2 : vv a b c = true) (h3 : vv d e f = true) (hz : ¬ (d = 0 ∧ e = 0 ∧ f = 0)) (h4 : vv (a + (2 + n % 31) * d) (b + (2 + n % 31) * e) (c + (2 + n % 31) * f) = true) (ra rb rc rd : Int) (rh : Bool) (hR : ClR ys lo hi a b c (a + (2 + n % 31) * d) (b + (2 + n % 31) * e) (c + (2 + n % 31) * f) ⟨ra, rb, rc, rd, rh⟩ 0) (hs1 : 0 ≤ ra) (hs2 : rc < 0) (hbok : Bok ys lo hi) (w : World) (hl : Lp w A C xs) (hm : SlS w A ys) :
    Calls Try.prog 5 #[.agg #[.slice A xs.length C, .int .i64 lo, .int .i64 hi], .agg #[.int .i64 a, .int .i64 b, .int .i64 c], .agg #[.int .i64 d, .int .i64 e, .int .i64 f], .int .u8 n] w fun e_ w' => e_ = .returned (.bool true) ∧ Below w.heap.size w w' := by
  have HL := Lib.hid hl
  clear hl
  have HM := Lib.hid hm
  clear hm
  have C1 := Lib.hid (fun W (h : SlS W A ys) => qvalid_is A C ys lo hi (by omega) true h1 W h)
  clear h1
  obtain ⟨hn1, hn2⟩ := hn
  go_enter Try.func5, Try.ntmps5
  go_wp2_with fail
  obtain ⟨w1, hw1⟩ : ∃ V, (((w.alloc (.cells #[.slice A xs.length C, .int .i64 lo, .int .i64 hi] 24)).alloc (.cells #[.int .i64 a, .int .i64 b, .int .i64 c] 26)).alloc (.cells #[.int .i64 d, .int .i64 e, .int .i64 f] 26)) = V := ⟨_, rfl⟩
  obtain ⟨hB_, kb, kp, kq⟩ := boxes3 _ _ _ _ hw1
  rw [hw1]
  clear hw1
  have HB := Lib.hid hB_
  clear hB_
  have b0 := (cells3 kb).1
  have b1 := (cells3 kb).2.1
  have b2 := (cells3 kb).2.2
  have p0 := (cells3 kp).1
  have p1 := (cells3 kp).2.1
  have p2 := (cells3 kp).2.2
  have q0 := (cells3 kq).1
  have q1 := (cells3 kq).2.1
  have q2 := (cells3 kq).2.2
  with_reducible refine (head_any _).mono ?_
  rintro e_ w2 ⟨rfl, hb⟩
  replace HB := Lib.hid (on_below HB.out hb)
  replace b0 := keepc hb b0
  replace b1 := keepc hb b1
  replace b2 := keepc hb b2
  replace p0 := keepc hb p0
  replace p1 := keepc hb p1
  replace p2 := keepc hb p2
  replace q0 := keepc hb q0
  replace q1 := keepc hb q1
  replace q2 := keepc hb q2
  replace kb := blk_on kb hb
  replace kp := blk_on kp hb
  replace kq := blk_on kq hb
  clear hb
  go_wp2_with fail
  have CF := Lib.hid (fun W (h : Lp W A C xs) => few_is A C xs lo hi W h)
  rw [hy] at CF
  with_reducible refine (CF.out _ (HL.out.below HB.out)).mono ?_
  rintro e_ w3 ⟨rfl, hb⟩
  replace HB := Lib.hid (on_below HB.out hb)
  replace b0 := keepc hb b0
  replace b1 := keepc hb b1
  replace b2 := keepc hb b2
  replace p0 := keepc hb p0
  replace p1 := keepc hb p1
  replace p2 := keepc hb p2
  replace q0 := keepc hb q0
  replace q1 := keepc hb q1
  replace q2 := keepc hb q2
  replace kb := blk_on kb hb
  replace kp := blk_on kp hb
  replace kq := blk_on kq hb
  clear hb
  have fb0 : World.frozen? w3 ⟨w.heap.size, 0, none⟩ = false := by simp [World.frozen?, kb]
  have fb1 : World.frozen? w3 ⟨w.heap.size, 1, none⟩ = false := by simp [World.frozen?, kb]
  have fb2 : World.frozen? w3 ⟨w.heap.size, 2, none⟩ = false := by simp [World.frozen?, kb]
  go_wp2_with fail
  clear CF fb0 fb1 fb2 b0 b1 b2 p0 p1 p2 q0 q1 q2
  replace kb : (((w3.setCell ⟨w.heap.size, 0, none⟩ (.slice A ys.length C)).setCell ⟨w.heap.size, 1, none⟩ (.int .i64 lo)).setCell ⟨w.heap.size, 2, none⟩ (.int .i64 hi)).heap[w.heap.size]? = some (.cells #[.slice A ys.length C, .int .i64 lo, .int .i64 hi] 24 (0, 0)) := set_cells (set_cells (set_cells kb 0 _) 1 _) 2 _
  replace kp : (((w3.setCell ⟨w.heap.size, 0, none⟩ (.slice A ys.length C)).setCell ⟨w.heap.size, 1, none⟩ (.int .i64 lo)).setCell ⟨w.heap.size, 2, none⟩ (.int .i64 hi)).heap[w.heap.size + 1]? = _ := blk_far (blk_far (blk_far kp (by omega)) (by omega)) (by omega)
  replace kq : (((w3.setCell ⟨w.heap.size, 0, none⟩ (.slice A ys.length C)).setCell ⟨w.heap.size, 1, none⟩ (.int .i64 lo)).setCell ⟨w.heap.size, 2, none⟩ (.int .i64 hi)).heap[w.heap.size + 1 + 1]? = _ := blk_far (blk_far (blk_far kq (by omega)) (by omega)) (by omega)
  replace HB := Lib.hid (show Below w.heap.size w (((w3.setCell ⟨w.heap.size, 0, none⟩ (.slice A ys.length C)).setCell ⟨w.heap.size, 1, none⟩ (.int .i64 lo)).setCell ⟨w.heap.size, 2, none⟩ (.int .i64 hi)) from ((HB.out.setCell (by simp <;> omega) _).setCell (by simp <;> omega) _).setCell (by simp <;> omega) _)
  generalize (((w3.setCell ⟨w.heap.size, 0, none⟩ (.slice A ys.length C)).setCell ⟨w.heap.size, 1, none⟩ (.int .i64 lo)).setCell ⟨w.heap.size, 2, none⟩ (.int .i64 hi)) = w4 at *
  have b0 := (cells3 kb).1
  have b1 := (cells3 kb).2.1
  have b2 := (cells3 kb).2.2
  have p0 := (cells3 kp).1
  have p1 := (cells3 kp).2.1
  have p2 := (cells3 kp).2.2
  have q0 := (cells3 kq).1
  have q1 := (cells3 kq).2.1
  have q2 := (cells3 kq).2.2
  go_wp2_with fail
  with_reducible refine (C1.out _ (HM.out.below HB.out)).mono ?_
  rintro e_ w5 ⟨rfl, hb⟩
  replace HB := Lib.hid (on_below HB.out hb)
  replace b0 := keepc hb b0
  replace b1 := keepc hb b1
  replace b2 := keepc hb b2
  replace p0 := keepc hb p0
  replace p1 := keepc hb p1
  replace p2 := keepc hb p2
  replace q0 := keepc hb q0
  replace q1 := keepc hb q1
  replace q2 := keepc hb q2
  replace kb := blk_on kb hb
  replace kp := blk_on kp hb
  replace kq := blk_on kq hb
  clear hb
  go_wp2_with fail
  with_reducible refine (qpoint_is a b c true h2 _).mono ?_
  rintro e_ w6 ⟨rfl, hb⟩
  replace HB := Lib.hid (on_below HB.out hb)
  replace b0 := keepc hb b0
  replace b1 := keepc hb b1
  replace b2 := keepc hb b2
  replace p0 := keepc hb p0
  replace p1 := keepc hb p1
  replace p2 := keepc hb p2
  replace q0 := keepc hb q0
  replace q1 := keepc hb q1
  replace q2 := keepc hb q2
  replace kb := blk_on kb hb
  replace kp := blk_on kp hb
  replace kq := blk_on kq hb
  clear hb
  go_wp2_with fail
  have eq_ := fun W => vec_eq (a := d) (b := e) (c := f) (x := 0) (y := 0) (z := 0) (r := false) (decide_eq_false hz) W
  clear hz
  with_reducible refine (qpoint_is d e f true h3 _).mono ?_
  rintro e_ w7 ⟨rfl, hb⟩
  replace HB := Lib.hid (on_below HB.out hb)
  replace b0 := keepc hb b0
  replace b1 := keepc hb b1
  replace b2 := keepc hb b2
  replace p0 := keepc hb p0
  replace p1 := keepc hb p1
  replace p2 := keepc hb p2
  replace q0 := keepc hb q0
  replace q1 := keepc hb q1
  replace q2 := keepc hb q2
  replace kb := blk_on kb hb
  replace kp := blk_on kp hb
  replace kq := blk_on kq hb
  clear hb
  go_wp2_with fail
  have HK := Lib.hid (show 2 ≤ (2 + n % 31) ∧ (2 + n % 31) ≤ 32 from by omega)
  generalize (2 + n % 31) = K at *
  with_reducible refine (along_is a b c d e f K (vv_iff.1 h2) (vv_iff.1 h3) (by have := HK.out; omega) _).mono ?_
  rintro e_ w8 ⟨rfl, hb⟩
  replace HB := Lib.hid (on_below HB.out hb)
  replace b0 := keepc hb b0
  replace b1 := keepc hb b1
  replace b2 := keepc hb b2
  replace p0 := keepc hb p0
  replace p1 := keepc hb p1
  replace p2 := keepc hb p2
  replace q0 := keepc hb q0
  replace q1 := keepc hb q1
  replace q2 := keepc hb q2
  replace kb := blk_on kb hb
  replace kp := blk_on kp hb
  replace kq := blk_on kq hb
  clear hb
  go_wp2_with fail
  have m0 : World.cell? (w8.alloc (.cells #[.int .i64 (a + K * d), .int .i64 (b + K * e), .int .i64 (c + K * f)] 26)) ⟨w8.heap.size, 0, none⟩ = some (.int .i64 (a + K * d)) := by simp [go_sem]
  have m1 : World.cell? (w8.alloc (.cells #[.int .i64 (a + K * d), .int .i64 (b + K * e), .int .i64 (c + K * f)] 26)) ⟨w8.heap.size, 1, none⟩ = some (.int .i64 (b + K * e)) := by simp [go_sem]
  have m2 : World.cell? (w8.alloc (.cells #[.int .i64 (a + K * d), .int .i64 (b + K * e), .int .i64 (c + K * f)] 26)) ⟨w8.heap.size, 2, none⟩ = some (.int .i64 (c + K * f)) := by simp [go_sem]
  have lm : w8.heap.size < (w8.alloc (.cells #[.int .i64 (a + K * d), .int .i64 (b + K * e), .int .i64 (c + K * f)] 26)).heap.size := by simp
  have hb : Below w8.heap.size w8 (w8.alloc (.cells #[.int .i64 (a + K * d), .int .i64 (b + K * e), .int .i64 (c + K * f)] 26)) := below_new _ _
  generalize w8.alloc (.cells #[.int .i64 (a + K * d), .int .i64 (b + K * e), .int .i64 (c + K * f)] 26) = w9 at *
  replace HB := Lib.hid (on_below HB.out hb)
  replace b0 := keepc hb b0
  replace b1 := keepc hb b1
  replace b2 := keepc hb b2
  replace p0 := keepc hb p0
  replace p1 := keepc hb p1
  replace p2 := keepc hb p2
  replace q0 := keepc hb q0
  replace q1 := keepc hb q1
  replace q2 := keepc hb q2
  replace kb := blk_on kb hb
  replace kp := blk_on kp hb
  replace kq := blk_on kq hb
  clear hb
  generalize w8.heap.size = gm at *
  with_reducible refine (qpoint_is (a + K * d) (b + K * e) (c + K * f) true h4 _).mono ?_
  rintro e_ w10 ⟨rfl, hb⟩
  replace HB := Lib.hid (on_below HB.out hb)
  replace b0 := keepc hb b0
  replace b1 := keepc hb b1
  replace b2 := keepc hb b2
  replace p0 := keepc hb p0
  replace p1 := keepc hb p1
  replace p2 := keepc hb p2
  replace q0 := keepc hb q0
  replace q1 := keepc hb q1
  replace q2 := keepc hb q2
  replace m0 := keepc hb m0
  replace m1 := keepc hb m1
  replace m2 := keepc hb m2
  replace kb := blk_on kb hb
  replace kp := blk_on kp hb
  replace kq := blk_on kq hb
  clear hb
  go_wp2_with fail
  have BR := clr_ok hR
  simp only at BR
  have BK := Lib.hid hbok
  clear hbok
  have HR := Lib.hid (fun j (h0 : 0 < j) (h1 : j < K) => clr_mem (j := j) hR h0 h1)
  with_reducible refine (pclip_is A C ys lo hi a b c _ _ _ hly ⟨ra, rb, rc, rd, rh⟩ 0 hR _ (HM.out.below HB.out)).mono ?_
  rintro e_ w11 ⟨rfl, hb⟩
  replace HB := Lib.hid (on_below HB.out hb)
  replace b0 := keepc hb b0
  replace b1 := keepc hb b1
  replace b2 := keepc hb b2
  replace p0 := keepc hb p0
  replace p1 := keepc hb p1
  replace p2 := keepc hb p2
  replace q0 := keepc hb q0
  replace q1 := keepc hb q1
  replace q2 := keepc hb q2
  replace m0 := keepc hb m0
  replace m1 := keepc hb m1
  replace m2 := keepc hb m2
  replace kb := blk_on kb hb
  replace kp := blk_on kp hb
  replace kq := blk_on kq hb
  clear hb
  clear hR
  obtain ⟨⟨a1, a2⟩, ⟨a3, a4⟩, ⟨a5, a6⟩, a7, a8⟩ := BR
  have hk1 := HK.out.1
  have hk2 := HK.out.2
  have n0 : wrap64 (-ra) = -ra := IntWalk.wrap64_in _ ⟨by omega, by omega⟩
  have m0_ : IntKind.i64.wrap (-ra) = -ra := IntWalk.i64_in _ ⟨by omega, by omega⟩
  have z0 : -ra ≤ ra := by omega
  have y0 : ra ≤ 1000000000 := by omega
  have n1 : wrap64 (-rc) = -rc := IntWalk.wrap64_in _ ⟨by omega, by omega⟩
  have m1_ : IntKind.i64.wrap (-rc) = -rc := IntWalk.i64_in _ ⟨by omega, by omega⟩
  have z1 : rc < -rc := by omega
  have y1 : -rc ≤ 1000000000 := by omega
  have x1 : rb ≤ 1000000000 := by omega
  have x2 : rd ≤ 1000000000 := by omega
  have x3 : (1 : Int) < K := by omega
  clear m0 m1 m2 lm
  go_wp2_with fail
  have u0 : World.cell? (w11.alloc (.cells #[.int .i64 ra, .int .i64 rb] 37)) ⟨w11.heap.size, 0, none⟩ = some (.int .i64 ra) := by simp [go_sem]
  have u1 : World.cell? (w11.alloc (.cells #[.int .i64 ra, .int .i64 rb] 37)) ⟨w11.heap.size, 1, none⟩ = some (.int .i64 rb) := by simp [go_sem]
  have lu : w11.heap.size < (w11.alloc (.cells #[.int .i64 ra, .int .i64 rb] 37)).heap.size := by simp
  have zu : (w11.alloc (.cells #[.int .i64 ra, .int .i64 rb] 37)).heap.size = w11.heap.size + 1 := by simp
  have hb : Below w11.heap.size w11 (w11.alloc (.cells #[.int .i64 ra, .int .i64 rb] 37)) := below_new _ _
  generalize w11.alloc (.cells #[.int .i64 ra, .int .i64 rb] 37) = w12 at *
  replace HB := Lib.hid (on_below HB.out hb)
  replace b0 := keepc hb b0
  replace b1 := keepc hb b1
  replace b2 := keepc hb b2
  replace p0 := keepc hb p0
  replace p1 := keepc hb p1
  replace p2 := keepc hb p2
  replace q0 := keepc hb q0
  replace q1 := keepc hb q1
  replace q2 := keepc hb q2
  replace kb := blk_on kb hb
  replace kp := blk_on kp hb
  replace kq := blk_on kq hb
  clear hb
  generalize w11.heap.size = gu at *
  have v0 : World.cell? (w12.alloc (.cells #[.int .i64 rc, .int .i64 rd] 37)) ⟨gu + 1, 0, none⟩ = some (.int .i64 rc) := by rw [← zu]; simp [go_sem]
  have v1 : World.cell? (w12.alloc (.cells #[.int .i64 rc, .int .i64 rd] 37)) ⟨gu + 1, 1, none⟩ = some (.int .i64 rd) := by rw [← zu]; simp [go_sem]
  have lv : gu + 1 < (w12.alloc (.cells #[.int .i64 rc, .int .i64 rd] 37)).heap.size := by rw [← zu]; simp
  have hb : Below w12.heap.size w12 (w12.alloc (.cells #[.int .i64 rc, .int .i64 rd] 37)) := below_new _ _
  generalize w12.alloc (.cells #[.int .i64 rc, .int .i64 rd] 37) = w13 at *
  replace HB := Lib.hid (on_below HB.out hb)
  replace b0 := keepc hb b0
  replace b1 := keepc hb b1
  replace b2 := keepc hb b2
  replace p0 := keepc hb p0
  replace p1 := keepc hb p1
  replace p2 := keepc hb p2
  replace q0 := keepc hb q0
  replace q1 := keepc hb q1
  replace q2 := keepc hb q2
  replace u0 := keepc hb u0
  replace u1 := keepc hb u1
  replace kb := blk_on kb hb
  replace kp := blk_on kp hb
  replace kq := blk_on kq hb
  clear hb
  clear zu
  have nv : gu < gu + 1 := Nat.lt_succ_self _
  generalize gu + 1 = gv at *
  clear n0 n1 m0_ m1_ z0 z1 y0 y1 x1 x2 x3 kb kp kq
  go_loopw [16] (fun i wr => ∃ j : Int, (1 ≤ j ∧ j ≤ K) ∧ i = .int .i64 j ∧ Hid (Below w13.heap.size w13 wr)) (fun i _ => (K - intOf i).toNat)
  case atStart => exact ⟨1, ⟨by omega, by omega⟩, rfl, Below.refl _ _⟩
  case round =>
    obtain ⟨j, ⟨hj1, hj2⟩, rfl, HW⟩ := hrel
    replace b0 := keepc HW.out b0
    replace b1 := keepc HW.out b1
    replace b2 := keepc HW.out b2
    replace p0 := keepc HW.out p0
    replace p1 := keepc HW.out p1
    replace p2 := keepc HW.out p2
    replace q0 := keepc HW.out q0
    replace q1 := keepc HW.out q1
    replace q2 := keepc HW.out q2
    replace u0 := keepc HW.out u0
    replace u1 := keepc HW.out u1
    replace v0 := keepc HW.out v0
    replace v1 := keepc HW.out v1
    have HB2 := Lib.hid (on_below HB.out HW.out)
    by_cases hlt : j < K
    · have hv : V3 (a + j * d) (b + j * e) (c + j * f) := by
        have q1 := vv_iff.1 h2
        have q2 := vv_iff.1 h4
        exact ⟨way_in (by omega) hj2 q1.x q2.x, way_in (by omega) hj2 q1.y q2.y, way_in (by omega) hj2 q1.z q2.z⟩
      obtain ⟨r, hr⟩ := bool_of (InB ys lo hi (a + j * d) (b + j * e) (c + j * f))
      have HI := Lib.hid (fun W (h : SlS W A ys) => pinside_is A C ys lo hi (a + j * d) (b + j * e) (c + j * f) hly r 0 (Or.inl ⟨BK.out, hv, rfl, hr⟩) W h)
      have HA := Lib.hid (fun W => along_is a b c d e f j (vv_iff.1 h2) (vv_iff.1 h3) ⟨by omega, by omega⟩ W)
      have hkey := HR.out j (by omega) hlt
      rw [← hr] at hkey
      clear hr hv
      have HK2 := Lib.hid hkey
      clear hkey
      have wj : IntKind.i64.wrap (j + 1) = j + 1 := IntWalk.i64_in _ ⟨by omega, by omega⟩
      have wj2 : wrap64 (j + 1) = j + 1 := IntWalk.wrap64_in _ ⟨by omega, by omega⟩
      have b0_ := mul_co (m := 32000000) (k := 32) (a := ra) (b := K) ⟨by omega, by omega⟩ ⟨by omega, by omega⟩
      have e0_ : IntKind.i64.wrap (ra * K) = ra * K := IntWalk.i64_in _ ⟨by omega, by omega⟩
      have g0_ : wrap64 (ra * K) = ra * K := IntWalk.wrap64_in _ ⟨by omega, by omega⟩
      have b1_ := mul_co (m := 32) (k := 32000000) (a := j) (b := rb) ⟨by omega, by omega⟩ ⟨by omega, by omega⟩
      have e1_ : IntKind.i64.wrap (j * rb) = j * rb := IntWalk.i64_in _ ⟨by omega, by omega⟩
      have g1_ : wrap64 (j * rb) = j * rb := IntWalk.wrap64_in _ ⟨by omega, by omega⟩
      have b2_ := mul_co (m := 32) (k := 32000000) (a := j) (b := rd) ⟨by omega, by omega⟩ ⟨by omega, by omega⟩
      have e2_ : IntKind.i64.wrap (j * rd) = j * rd := IntWalk.i64_in _ ⟨by omega, by omega⟩
      have g2_ : wrap64 (j * rd) = j * rd := IntWalk.wrap64_in _ ⟨by omega, by omega⟩
      have b3_ := mul_co (m := 32000000) (k := 32) (a := rc) (b := K) ⟨by omega, by omega⟩ ⟨by omega, by omega⟩
      have e3_ : IntKind.i64.wrap (rc * K) = rc * K := IntWalk.i64_in _ ⟨by omega, by omega⟩
      have g3_ : wrap64 (rc * K) = rc * K := IntWalk.wrap64_in _ ⟨by omega, by omega⟩
      clear b0_ b1_ b2_ b3_
      go_wp2_with fail
      have sc : ∀ {V : World}, Below wr.heap.size wr V → V.cell? ⟨w.heap.size, 0, none⟩ = some (.slice A ys.length C) ∧ V.cell? ⟨w.heap.size, 1, none⟩ = some (.int .i64 lo) ∧ V.cell? ⟨w.heap.size, 2, none⟩ = some (.int .i64 hi) ∧ V.cell? ⟨w.heap.size + 1, 0, none⟩ = some (.int .i64 a) ∧ V.cell? ⟨w.heap.size + 1, 1, none⟩ = some (.int .i64 b) ∧ V.cell? ⟨w.heap.size + 1, 2, none⟩ = some (.int .i64 c) ∧ V.cell? ⟨w.heap.size + 1 + 1, 0, none⟩ = some (.int .i64 d) ∧ V.cell? ⟨w.heap.size + 1 + 1, 1, none⟩ = some (.int .i64 e) ∧ V.cell? ⟨w.heap.size + 1 + 1, 2, none⟩ = some (.int .i64 f) := fun h => ⟨keepc h b0, keepc h b1, keepc h b2, keepc h p0, keepc h p1, keepc h p2, keepc h q0, keepc h q1, keepc h q2⟩
      refine wp_region_held_drew (S := fun V => V.cell? ⟨w.heap.size, 0, none⟩ = some (.slice A ys.length C) ∧ V.cell? ⟨w.heap.size, 1, none⟩ = some (.int .i64 lo) ∧ V.cell? ⟨w.heap.size, 2, none⟩ = some (.int .i64 hi) ∧ V.cell? ⟨w.heap.size + 1, 0, none⟩ = some (.int .i64 a) ∧ V.cell? ⟨w.heap.size + 1, 1, none⟩ = some (.int .i64 b) ∧ V.cell? ⟨w.heap.size + 1, 2, none⟩ = some (.int .i64 c) ∧ V.cell? ⟨w.heap.size + 1 + 1, 0, none⟩ = some (.int .i64 d) ∧ V.cell? ⟨w.heap.size + 1 + 1, 1, none⟩ = some (.int .i64 e) ∧ V.cell? ⟨w.heap.size + 1 + 1, 2, none⟩ = some (.int .i64 f)) (by kernel_rfl) (sc (Below.refl _ _).drew) fun HL_ => ?_
      have hb0 : Below wr.heap.size wr wr.drew := (Below.refl _ _).drew
      refine wpAnyH_take (i := 0) (v := .agg #[.slice A ys.length C, .int .i64 lo, .int .i64 hi]) rfl (by kernel_rfl) (by kernel_rfl) (by kernel_rfl) (fun _ _ _ h => h) (Or.inl ⟨by kernel_rfl, ?_⟩) HL_ ?_
      · rintro Wl ⟨s0, s1, s2, s3, s4, s5, s6, s7, s8⟩
        go_simp
      simp only [Act.put, List.getElem_toArray, List.getElem_cons_succ, List.getElem_cons_zero, List.setIfInBounds_toArray, List.set_cons_zero, List.set_cons_succ]
      refine wpAnyH_take (i := 1) (v := .agg #[.int .i64 a, .int .i64 b, .int .i64 c]) rfl (by kernel_rfl) (by kernel_rfl) (by kernel_rfl) (fun _ _ _ h => h) (Or.inl ⟨by kernel_rfl, ?_⟩) HL_ ?_
      · rintro Wl ⟨s0, s1, s2, s3, s4, s5, s6, s7, s8⟩
        go_simp
      simp only [Act.put, List.getElem_toArray, List.getElem_cons_succ, List.getElem_cons_zero, List.setIfInBounds_toArray, List.set_cons_zero, List.set_cons_succ]
      refine wpAnyH_take (i := 2) (v := .agg #[.int .i64 d, .int .i64 e, .int .i64 f]) rfl (by kernel_rfl) (by kernel_rfl) (by kernel_rfl) (fun _ _ _ h => h) (Or.inl ⟨by kernel_rfl, ?_⟩) HL_ ?_
      · rintro Wl ⟨s0, s1, s2, s3, s4, s5, s6, s7, s8⟩
        go_simp
      simp only [Act.put, List.getElem_toArray, List.getElem_cons_succ, List.getElem_cons_zero, List.setIfInBounds_toArray, List.set_cons_zero, List.set_cons_succ]
      refine wpAnyH_take (i := 3) (v := .int .i64 j) rfl (by kernel_rfl) (by kernel_rfl) (by kernel_rfl) (fun _ _ _ h => h) (Or.inl ⟨by kernel_rfl, ?_⟩) HL_ ?_
      · rintro Wl ⟨s0, s1, s2, s3, s4, s5, s6, s7, s8⟩
        go_simp
      simp only [Act.put, List.getElem_toArray, List.getElem_cons_succ, List.getElem_cons_zero, List.setIfInBounds_toArray, List.set_cons_zero, List.set_cons_succ]
      refine wpAnyH_ready (rs := [4]) (by kernel_rfl) (by simp) ?_
      refine AllReadyH.cons (o := _) rfl (fun K_ hK => ?_) AllReadyH.nil
      go_simp
      with_reducible refine (HA.out _).mono ?_
      rintro e_ x4 ⟨rfl, hb⟩
      replace hb0 := on_below hb0 hb
      clear hb
      refine hK.out _ _ (sc hb0) fun HL_ => ?_
      clear hK K_
      refine wpAnyH_ready (rs := [5]) (by kernel_rfl) (by simp) ?_
      refine AllReadyH.cons (o := _) rfl (fun K_ hK => ?_) AllReadyH.nil
      go_simp
      with_reducible refine (HI.out _ (HM.out.below (on_below HB2.out hb0))).mono ?_
      rintro e_ x5 ⟨rfl, hb⟩
      replace hb0 := on_below hb0 hb
      clear hb
      refine hK.out _ _ (sc hb0) fun HL_ => ?_
      clear hK K_
      refine wpAnyH_take (i := 6) (v := .tuple #[.bool r, .int .i64 0]) rfl (by kernel_rfl) (by kernel_rfl) (by kernel_rfl) (fun _ _ _ h => h) (Or.inl ⟨by kernel_rfl, ?_⟩) HL_ ?_
      · rintro Wl ⟨s0, s1, s2, s3, s4, s5, s6, s7, s8⟩
        go_simp
      simp only [Act.put, List.getElem_toArray, List.getElem_cons_succ, List.getElem_cons_zero, List.setIfInBounds_toArray, List.set_cons_zero, List.set_cons_succ]
      refine wpAnyH_take (i := 7) (v := .bool r) rfl (by kernel_rfl) (by kernel_rfl) (by kernel_rfl) (fun _ _ _ h => h) (Or.inl ⟨by kernel_rfl, ?_⟩) HL_ ?_
      · rintro Wl ⟨s0, s1, s2, s3, s4, s5, s6, s7, s8⟩
        go_simp
      simp only [Act.put, List.getElem_toArray, List.getElem_cons_succ, List.getElem_cons_zero, List.setIfInBounds_toArray, List.set_cons_zero, List.set_cons_succ]
      refine wpAnyH_take (i := 8) (v := .int .i64 0) rfl (by kernel_rfl) (by kernel_rfl) (by kernel_rfl) (fun _ _ _ h => h) (Or.inl ⟨by kernel_rfl, ?_⟩) HL_ ?_
      · rintro Wl ⟨s0, s1, s2, s3, s4, s5, s6, s7, s8⟩
        go_simp
      simp only [Act.put, List.getElem_toArray, List.getElem_cons_succ, List.getElem_cons_zero, List.setIfInBounds_toArray, List.set_cons_zero, List.set_cons_succ]
      refine wpAnyH_take (i := 9) (v := .bool r) rfl (by kernel_rfl) (by kernel_rfl) (by kernel_rfl) (fun _ _ _ h => h) (Or.inl ⟨by kernel_rfl, ?_⟩) HL_ ?_
      · rintro Wl ⟨s0, s1, s2, s3, s4, s5, s6, s7, s8⟩
        go_simp
      simp only [Act.put, List.getElem_toArray, List.getElem_cons_succ, List.getElem_cons_zero, List.setIfInBounds_toArray, List.set_cons_zero, List.set_cons_succ]
      refine wpAnyH_take (i := 10) (v := .int .i64 0) rfl (by kernel_rfl) (by kernel_rfl) (by kernel_rfl) (fun _ _ _ h => h) (Or.inl ⟨by kernel_rfl, ?_⟩) HL_ ?_
      · rintro Wl ⟨s0, s1, s2, s3, s4, s5, s6, s7, s8⟩
        go_simp
      simp only [Act.put, List.getElem_toArray, List.getElem_cons_succ, List.getElem_cons_zero, List.setIfInBounds_toArray, List.set_cons_zero, List.set_cons_succ]
      refine wpAnyH_done (by kernel_rfl) ?_ _
      clear sc HL_ HI HA
      replace b0 := keepc hb0 b0
      replace b1 := keepc hb0 b1
      replace b2 := keepc hb0 b2
      replace p0 := keepc hb0 p0
      replace p1 := keepc hb0 p1
      replace p2 := keepc hb0 p2
      replace q0 := keepc hb0 q0
      replace q1 := keepc hb0 q1
      replace q2 := keepc hb0 q2
      replace u0 := keepc hb0 u0
      replace u1 := keepc hb0 u1
      replace v0 := keepc hb0 v0
      replace v1 := keepc hb0 v1
      have HW2 := Lib.hid (on_below HW.out hb0)
      clear hb0 HB2 HW
      cases rh
      · have hrf : r = false := by cases r with | false => rfl | true => exact absurd (HK2.out.1 rfl).1 (by decide)
        subst hrf
        clear HK2
        go_wp2_with fail
        go_roundw
        case rel => exact ⟨j + 1, ⟨by omega, by omega⟩, int_of (by first | exact wj | exact wj2 | simp [wj, wj2]), HW2⟩
        case measure => simp [intOf, wj, wj2]; clear e0_ e1_ e2_ e3_ g0_ g1_ g2_ g3_ wj wj2; omega
      · by_cases c1 : ra * K < j * rb
        · by_cases c2 : j * rd < rc * K
          · have hrt : r = true := HK2.out.2 ⟨rfl, c1, c2⟩
            subst hrt
            clear HK2
            go_wp2_with fail
            go_roundw
            case rel => exact ⟨j + 1, ⟨by omega, by omega⟩, int_of (by first | exact wj | exact wj2 | simp [wj, wj2]), HW2⟩
            case measure => simp [intOf, wj, wj2]; clear e0_ e1_ e2_ e3_ g0_ g1_ g2_ g3_ wj wj2; omega
          · have hrf : r = false := by cases r with | false => rfl | true => exact absurd (HK2.out.1 rfl).2.2 c2
            subst hrf
            clear HK2
            go_wp2_with fail
            go_roundw
            case rel => exact ⟨j + 1, ⟨by omega, by omega⟩, int_of (by first | exact wj | exact wj2 | simp [wj, wj2]), HW2⟩
            case measure => simp [intOf, wj, wj2]; clear e0_ e1_ e2_ e3_ g0_ g1_ g2_ g3_ wj wj2; omega
        · have hrf : r = false := by cases r with | false => rfl | true => exact absurd (HK2.out.1 rfl).2.1 c1
          subst hrf
          clear HK2
          go_wp2_with fail
          go_roundw
          case rel => exact ⟨j + 1, ⟨by omega, by omega⟩, int_of (by first | exact wj | exact wj2 | simp [wj, wj2]), HW2⟩
          case measure => simp [intOf, wj, wj2]; clear e0_ e1_ e2_ e3_ g0_ g1_ g2_ g3_ wj wj2; omega
    · go_wp2_with fail
      go_ret
      exact ⟨rfl, HB2.out⟩
set_option maxRecDepth 100000 in
set_option maxHeartbeats 4000000 in
theorem pts_9 (A : Option Addr) (C : Nat) (xs ys : List (Int × Int)) (lo hi a b c d e f n : Int) (hn : 0 ≤ n ∧ n ≤ 255) (hy : xs.take 20 = ys) (hly : ys.length ≤ 9223372036854775806) (h1 : true = true ↔ Bok ys lo hi) (h2 : vv a b c = true) (h3 : vv d e f = true) (hz : ¬ (d = 0 ∧ e = 0 ∧ f = 0)) (h4 : vv (a + (2 + n % 31) * d) (b + (2 + n % 31) * e) (c + (2 + n % 31) * f) = true) (ra rb rc rd : Int) (rh : Bool) (hR : ClR ys lo hi a b c (a + (2 + n % 31) * d) (b + (2 + n % 31) * e) (c + (2 + n % 31) * f) ⟨ra, rb, rc, rd, rh⟩ 0) (hs1 : 0 ≤ ra) (hs2 : 0 ≤ rc) (hbok : Bok ys lo hi) (w : World) (hl : Lp w A C xs) (hm : SlS w A ys) :
    Calls Try.prog 5 #[.agg #[.slice A xs.length C, .int .i64 lo, .int .i64 hi], .agg #[.int .i64 a, .int .i64 b, .int .i64 c], .agg #[.int .i64 d, .int .i64 e, .int .i64 f], .int .u8 n] w fun e_ w' => e_ = .returned (.bool true) ∧ Below w.heap.size w w' := by
  have HL := Lib.hid hl
  clear hl
  have HM := Lib.hid hm
  clear hm
  have C1 := Lib.hid (fun W (h : SlS W A ys) => qvalid_is A C ys lo hi (by omega) true h1 W h)
  clear h1
  obtain ⟨hn1, hn2⟩ := hn
  go_enter Try.func5, Try.ntmps5
  go_wp2_with fail
  obtain ⟨w1, hw1⟩ : ∃ V, (((w.alloc (.cells #[.slice A xs.length C, .int .i64 lo, .int .i64 hi] 24)).alloc (.cells #[.int .i64 a, .int .i64 b, .int .i64 c] 26)).alloc (.cells #[.int .i64 d, .int .i64 e, .int .i64 f] 26)) = V := ⟨_, rfl⟩
  obtain ⟨hB_, kb, kp, kq⟩ := boxes3 _ _ _ _ hw1
  rw [hw1]
  clear hw1
  have HB := Lib.hid hB_
  clear hB_
  have b0 := (cells3 kb).1
  have b1 := (cells3 kb).2.1
  have b2 := (cells3 kb).2.2
  have p0 := (cells3 kp).1
  have p1 := (cells3 kp).2.1
  have p2 := (cells3 kp).2.2
  have q0 := (cells3 kq).1
  have q1 := (cells3 kq).2.1
  have q2 := (cells3 kq).2.2
  with_reducible refine (head_any _).mono ?_
  rintro e_ w2 ⟨rfl, hb⟩
  replace HB := Lib.hid (on_below HB.out hb)
  replace b0 := keepc hb b0
  replace b1 := keepc hb b1
  replace b2 := keepc hb b2
  replace p0 := keepc hb p0
  replace p1 := keepc hb p1
  replace p2 := keepc hb p2
  replace q0 := keepc hb q0
  replace q1 := keepc hb q1
  replace q2 := keepc hb q2
  replace kb := blk_on kb hb
  replace kp := blk_on kp hb
  replace kq := blk_on kq hb
  clear hb
  go_wp2_with fail
  have CF := Lib.hid (fun W (h : Lp W A C xs) => few_is A C xs lo hi W h)
  rw [hy] at CF
  with_reducible refine (CF.out _ (HL.out.below HB.out)).mono ?_
  rintro e_ w3 ⟨rfl, hb⟩
  replace HB := Lib.hid (on_below HB.out hb)
  replace b0 := keepc hb b0
  replace b1 := keepc hb b1
  replace b2 := keepc hb b2
  replace p0 := keepc hb p0
  replace p1 := keepc hb p1
  replace p2 := keepc hb p2
  replace q0 := keepc hb q0
  replace q1 := keepc hb q1
  replace q2 := keepc hb q2
  replace kb := blk_on kb hb
  replace kp := blk_on kp hb
  replace kq := blk_on kq hb
  clear hb
  have fb0 : World.frozen? w3 ⟨w.heap.size, 0, none⟩ = false := by simp [World.frozen?, kb]
  have fb1 : World.frozen? w3 ⟨w.heap.size, 1, none⟩ = false := by simp [World.frozen?, kb]
  have fb2 : World.frozen? w3 ⟨w.heap.size, 2, none⟩ = false := by simp [World.frozen?, kb]
  go_wp2_with fail
  clear CF fb0 fb1 fb2 b0 b1 b2 p0 p1 p2 q0 q1 q2
  replace kb : (((w3.setCell ⟨w.heap.size, 0, none⟩ (.slice A ys.length C)).setCell ⟨w.heap.size, 1, none⟩ (.int .i64 lo)).setCell ⟨w.heap.size, 2, none⟩ (.int .i64 hi)).heap[w.heap.size]? = some (.cells #[.slice A ys.length C, .int .i64 lo, .int .i64 hi] 24 (0, 0)) := set_cells (set_cells (set_cells kb 0 _) 1 _) 2 _
  replace kp : (((w3.setCell ⟨w.heap.size, 0, none⟩ (.slice A ys.length C)).setCell ⟨w.heap.size, 1, none⟩ (.int .i64 lo)).setCell ⟨w.heap.size, 2, none⟩ (.int .i64 hi)).heap[w.heap.size + 1]? = _ := blk_far (blk_far (blk_far kp (by omega)) (by omega)) (by omega)
  replace kq : (((w3.setCell ⟨w.heap.size, 0, none⟩ (.slice A ys.length C)).setCell ⟨w.heap.size, 1, none⟩ (.int .i64 lo)).setCell ⟨w.heap.size, 2, none⟩ (.int .i64 hi)).heap[w.heap.size + 1 + 1]? = _ := blk_far (blk_far (blk_far kq (by omega)) (by omega)) (by omega)
  replace HB := Lib.hid (show Below w.heap.size w (((w3.setCell ⟨w.heap.size, 0, none⟩ (.slice A ys.length C)).setCell ⟨w.heap.size, 1, none⟩ (.int .i64 lo)).setCell ⟨w.heap.size, 2, none⟩ (.int .i64 hi)) from ((HB.out.setCell (by simp <;> omega) _).setCell (by simp <;> omega) _).setCell (by simp <;> omega) _)
  generalize (((w3.setCell ⟨w.heap.size, 0, none⟩ (.slice A ys.length C)).setCell ⟨w.heap.size, 1, none⟩ (.int .i64 lo)).setCell ⟨w.heap.size, 2, none⟩ (.int .i64 hi)) = w4 at *
  have b0 := (cells3 kb).1
  have b1 := (cells3 kb).2.1
  have b2 := (cells3 kb).2.2
  have p0 := (cells3 kp).1
  have p1 := (cells3 kp).2.1
  have p2 := (cells3 kp).2.2
  have q0 := (cells3 kq).1
  have q1 := (cells3 kq).2.1
  have q2 := (cells3 kq).2.2
  go_wp2_with fail
  with_reducible refine (C1.out _ (HM.out.below HB.out)).mono ?_
  rintro e_ w5 ⟨rfl, hb⟩
  replace HB := Lib.hid (on_below HB.out hb)
  replace b0 := keepc hb b0
  replace b1 := keepc hb b1
  replace b2 := keepc hb b2
  replace p0 := keepc hb p0
  replace p1 := keepc hb p1
  replace p2 := keepc hb p2
  replace q0 := keepc hb q0
  replace q1 := keepc hb q1
  replace q2 := keepc hb q2
  replace kb := blk_on kb hb
  replace kp := blk_on kp hb
  replace kq := blk_on kq hb
  clear hb
  go_wp2_with fail
  with_reducible refine (qpoint_is a b c true h2 _).mono ?_
  rintro e_ w6 ⟨rfl, hb⟩
  replace HB := Lib.hid (on_below HB.out hb)
  replace b0 := keepc hb b0
  replace b1 := keepc hb b1
  replace b2 := keepc hb b2
  replace p0 := keepc hb p0
  replace p1 := keepc hb p1
  replace p2 := keepc hb p2
  replace q0 := keepc hb q0
  replace q1 := keepc hb q1
  replace q2 := keepc hb q2
  replace kb := blk_on kb hb
  replace kp := blk_on kp hb
  replace kq := blk_on kq hb
  clear hb
  go_wp2_with fail
  have eq_ := fun W => vec_eq (a := d) (b := e) (c := f) (x := 0) (y := 0) (z := 0) (r := false) (decide_eq_false hz) W
  clear hz
  with_reducible refine (qpoint_is d e f true h3 _).mono ?_
  rintro e_ w7 ⟨rfl, hb⟩
  replace HB := Lib.hid (on_below HB.out hb)
  replace b0 := keepc hb b0
  replace b1 := keepc hb b1
  replace b2 := keepc hb b2
  replace p0 := keepc hb p0
  replace p1 := keepc hb p1
  replace p2 := keepc hb p2
  replace q0 := keepc hb q0
  replace q1 := keepc hb q1
  replace q2 := keepc hb q2
  replace kb := blk_on kb hb
  replace kp := blk_on kp hb
  replace kq := blk_on kq hb
  clear hb
  go_wp2_with fail
  have HK := Lib.hid (show 2 ≤ (2 + n % 31) ∧ (2 + n % 31) ≤ 32 from by omega)
  generalize (2 + n % 31) = K at *
  with_reducible refine (along_is a b c d e f K (vv_iff.1 h2) (vv_iff.1 h3) (by have := HK.out; omega) _).mono ?_
  rintro e_ w8 ⟨rfl, hb⟩
  replace HB := Lib.hid (on_below HB.out hb)
  replace b0 := keepc hb b0
  replace b1 := keepc hb b1
  replace b2 := keepc hb b2
  replace p0 := keepc hb p0
  replace p1 := keepc hb p1
  replace p2 := keepc hb p2
  replace q0 := keepc hb q0
  replace q1 := keepc hb q1
  replace q2 := keepc hb q2
  replace kb := blk_on kb hb
  replace kp := blk_on kp hb
  replace kq := blk_on kq hb
  clear hb
  go_wp2_with fail
  have m0 : World.cell? (w8.alloc (.cells #[.int .i64 (a + K * d), .int .i64 (b + K * e), .int .i64 (c + K * f)] 26)) ⟨w8.heap.size, 0, none⟩ = some (.int .i64 (a + K * d)) := by simp [go_sem]
  have m1 : World.cell? (w8.alloc (.cells #[.int .i64 (a + K * d), .int .i64 (b + K * e), .int .i64 (c + K * f)] 26)) ⟨w8.heap.size, 1, none⟩ = some (.int .i64 (b + K * e)) := by simp [go_sem]
  have m2 : World.cell? (w8.alloc (.cells #[.int .i64 (a + K * d), .int .i64 (b + K * e), .int .i64 (c + K * f)] 26)) ⟨w8.heap.size, 2, none⟩ = some (.int .i64 (c + K * f)) := by simp [go_sem]
  have lm : w8.heap.size < (w8.alloc (.cells #[.int .i64 (a + K * d), .int .i64 (b + K * e), .int .i64 (c + K * f)] 26)).heap.size := by simp
  have hb : Below w8.heap.size w8 (w8.alloc (.cells #[.int .i64 (a + K * d), .int .i64 (b + K * e), .int .i64 (c + K * f)] 26)) := below_new _ _
  generalize w8.alloc (.cells #[.int .i64 (a + K * d), .int .i64 (b + K * e), .int .i64 (c + K * f)] 26) = w9 at *
  replace HB := Lib.hid (on_below HB.out hb)
  replace b0 := keepc hb b0
  replace b1 := keepc hb b1
  replace b2 := keepc hb b2
  replace p0 := keepc hb p0
  replace p1 := keepc hb p1
  replace p2 := keepc hb p2
  replace q0 := keepc hb q0
  replace q1 := keepc hb q1
  replace q2 := keepc hb q2
  replace kb := blk_on kb hb
  replace kp := blk_on kp hb
  replace kq := blk_on kq hb
  clear hb
  generalize w8.heap.size = gm at *
  with_reducible refine (qpoint_is (a + K * d) (b + K * e) (c + K * f) true h4 _).mono ?_
  rintro e_ w10 ⟨rfl, hb⟩
  replace HB := Lib.hid (on_below HB.out hb)
  replace b0 := keepc hb b0
  replace b1 := keepc hb b1
  replace b2 := keepc hb b2
  replace p0 := keepc hb p0
  replace p1 := keepc hb p1
  replace p2 := keepc hb p2
  replace q0 := keepc hb q0
  replace q1 := keepc hb q1
  replace q2 := keepc hb q2
  replace m0 := keepc hb m0
  replace m1 := keepc hb m1
  replace m2 := keepc hb m2
  replace kb := blk_on kb hb
  replace kp := blk_on kp hb
  replace kq := blk_on kq hb
  clear hb
  go_wp2_with fail
  have BR := clr_ok hR
  simp only at BR
  have BK := Lib.hid hbok
  clear hbok
  have HR := Lib.hid (fun j (h0 : 0 < j) (h1 : j < K) => clr_mem (j := j) hR h0 h1)
  with_reducible refine (pclip_is A C ys lo hi a b c _ _ _ hly ⟨ra, rb, rc, rd, rh⟩ 0 hR _ (HM.out.below HB.out)).mono ?_
  rintro e_ w11 ⟨rfl, hb⟩
  replace HB := Lib.hid (on_below HB.out hb)
  replace b0 := keepc hb b0
  replace b1 := keepc hb b1
  replace b2 := keepc hb b2
  replace p0 := keepc hb p0
  replace p1 := keepc hb p1
  replace p2 := keepc hb p2
  replace q0 := keepc hb q0
  replace q1 := keepc hb q1
  replace q2 := keepc hb q2
  replace m0 := keepc hb m0
  replace m1 := keepc hb m1
  replace m2 := keepc hb m2
  replace kb := blk_on kb hb
  replace kp := blk_on kp hb
  replace kq := blk_on kq hb
  clear hb
  clear hR
  obtain ⟨⟨a1, a2⟩, ⟨a3, a4⟩, ⟨a5, a6⟩, a7, a8⟩ := BR
  have hk1 := HK.out.1
  have hk2 := HK.out.2
  have n0 : wrap64 (-ra) = -ra := IntWalk.wrap64_in _ ⟨by omega, by omega⟩
  have m0_ : IntKind.i64.wrap (-ra) = -ra := IntWalk.i64_in _ ⟨by omega, by omega⟩
  have z0 : -ra ≤ ra := by omega
  have y0 : ra ≤ 1000000000 := by omega
  have n1 : wrap64 (-rc) = -rc := IntWalk.wrap64_in _ ⟨by omega, by omega⟩
  have m1_ : IntKind.i64.wrap (-rc) = -rc := IntWalk.i64_in _ ⟨by omega, by omega⟩
  have z1 : -rc ≤ rc := by omega
  have y1 : rc ≤ 1000000000 := by omega
  have x1 : rb ≤ 1000000000 := by omega
  have x2 : rd ≤ 1000000000 := by omega
  have x3 : (1 : Int) < K := by omega
  clear m0 m1 m2 lm
  go_wp2_with fail
  have u0 : World.cell? (w11.alloc (.cells #[.int .i64 ra, .int .i64 rb] 37)) ⟨w11.heap.size, 0, none⟩ = some (.int .i64 ra) := by simp [go_sem]
  have u1 : World.cell? (w11.alloc (.cells #[.int .i64 ra, .int .i64 rb] 37)) ⟨w11.heap.size, 1, none⟩ = some (.int .i64 rb) := by simp [go_sem]
  have lu : w11.heap.size < (w11.alloc (.cells #[.int .i64 ra, .int .i64 rb] 37)).heap.size := by simp
  have zu : (w11.alloc (.cells #[.int .i64 ra, .int .i64 rb] 37)).heap.size = w11.heap.size + 1 := by simp
  have hb : Below w11.heap.size w11 (w11.alloc (.cells #[.int .i64 ra, .int .i64 rb] 37)) := below_new _ _
  generalize w11.alloc (.cells #[.int .i64 ra, .int .i64 rb] 37) = w12 at *
  replace HB := Lib.hid (on_below HB.out hb)
  replace b0 := keepc hb b0
  replace b1 := keepc hb b1
  replace b2 := keepc hb b2
  replace p0 := keepc hb p0
  replace p1 := keepc hb p1
  replace p2 := keepc hb p2
  replace q0 := keepc hb q0
  replace q1 := keepc hb q1
  replace q2 := keepc hb q2
  replace kb := blk_on kb hb
  replace kp := blk_on kp hb
  replace kq := blk_on kq hb
  clear hb
  generalize w11.heap.size = gu at *
  have v0 : World.cell? (w12.alloc (.cells #[.int .i64 rc, .int .i64 rd] 37)) ⟨gu + 1, 0, none⟩ = some (.int .i64 rc) := by rw [← zu]; simp [go_sem]
  have v1 : World.cell? (w12.alloc (.cells #[.int .i64 rc, .int .i64 rd] 37)) ⟨gu + 1, 1, none⟩ = some (.int .i64 rd) := by rw [← zu]; simp [go_sem]
  have lv : gu + 1 < (w12.alloc (.cells #[.int .i64 rc, .int .i64 rd] 37)).heap.size := by rw [← zu]; simp
  have hb : Below w12.heap.size w12 (w12.alloc (.cells #[.int .i64 rc, .int .i64 rd] 37)) := below_new _ _
  generalize w12.alloc (.cells #[.int .i64 rc, .int .i64 rd] 37) = w13 at *
  replace HB := Lib.hid (on_below HB.out hb)
  replace b0 := keepc hb b0
  replace b1 := keepc hb b1
  replace b2 := keepc hb b2
  replace p0 := keepc hb p0
  replace p1 := keepc hb p1
  replace p2 := keepc hb p2
  replace q0 := keepc hb q0
  replace q1 := keepc hb q1
  replace q2 := keepc hb q2
  replace u0 := keepc hb u0
  replace u1 := keepc hb u1
  replace kb := blk_on kb hb
  replace kp := blk_on kp hb
  replace kq := blk_on kq hb
  clear hb
  clear zu
  have nv : gu < gu + 1 := Nat.lt_succ_self _
  generalize gu + 1 = gv at *
  clear n0 n1 m0_ m1_ z0 z1 y0 y1 x1 x2 x3 kb kp kq
  go_loopw [16] (fun i wr => ∃ j : Int, (1 ≤ j ∧ j ≤ K) ∧ i = .int .i64 j ∧ Hid (Below w13.heap.size w13 wr)) (fun i _ => (K - intOf i).toNat)
  case atStart => exact ⟨1, ⟨by omega, by omega⟩, rfl, Below.refl _ _⟩
  case round =>
    obtain ⟨j, ⟨hj1, hj2⟩, rfl, HW⟩ := hrel
    replace b0 := keepc HW.out b0
    replace b1 := keepc HW.out b1
    replace b2 := keepc HW.out b2
    replace p0 := keepc HW.out p0
    replace p1 := keepc HW.out p1
    replace p2 := keepc HW.out p2
    replace q0 := keepc HW.out q0
    replace q1 := keepc HW.out q1
    replace q2 := keepc HW.out q2
    replace u0 := keepc HW.out u0
    replace u1 := keepc HW.out u1
    replace v0 := keepc HW.out v0
    replace v1 := keepc HW.out v1
    have HB2 := Lib.hid (on_below HB.out HW.out)
    by_cases hlt : j < K
    · have hv : V3 (a + j * d) (b + j * e) (c + j * f) := by
        have q1 := vv_iff.1 h2
        have q2 := vv_iff.1 h4
        exact ⟨way_in (by omega) hj2 q1.x q2.x, way_in (by omega) hj2 q1.y q2.y, way_in (by omega) hj2 q1.z q2.z⟩
      obtain ⟨r, hr⟩ := bool_of (InB ys lo hi (a + j * d) (b + j * e) (c + j * f))
      have HI := Lib.hid (fun W (h : SlS W A ys) => pinside_is A C ys lo hi (a + j * d) (b + j * e) (c + j * f) hly r 0 (Or.inl ⟨BK.out, hv, rfl, hr⟩) W h)
      have HA := Lib.hid (fun W => along_is a b c d e f j (vv_iff.1 h2) (vv_iff.1 h3) ⟨by omega, by omega⟩ W)
      have hkey := HR.out j (by omega) hlt
      rw [← hr] at hkey
      clear hr hv
      have HK2 := Lib.hid hkey
      clear hkey
      have wj : IntKind.i64.wrap (j + 1) = j + 1 := IntWalk.i64_in _ ⟨by omega, by omega⟩
      have wj2 : wrap64 (j + 1) = j + 1 := IntWalk.wrap64_in _ ⟨by omega, by omega⟩
      have b0_ := mul_co (m := 32000000) (k := 32) (a := ra) (b := K) ⟨by omega, by omega⟩ ⟨by omega, by omega⟩
      have e0_ : IntKind.i64.wrap (ra * K) = ra * K := IntWalk.i64_in _ ⟨by omega, by omega⟩
      have g0_ : wrap64 (ra * K) = ra * K := IntWalk.wrap64_in _ ⟨by omega, by omega⟩
      have b1_ := mul_co (m := 32) (k := 32000000) (a := j) (b := rb) ⟨by omega, by omega⟩ ⟨by omega, by omega⟩
      have e1_ : IntKind.i64.wrap (j * rb) = j * rb := IntWalk.i64_in _ ⟨by omega, by omega⟩
      have g1_ : wrap64 (j * rb) = j * rb := IntWalk.wrap64_in _ ⟨by omega, by omega⟩
      have b2_ := mul_co (m := 32) (k := 32000000) (a := j) (b := rd) ⟨by omega, by omega⟩ ⟨by omega, by omega⟩
      have e2_ : IntKind.i64.wrap (j * rd) = j * rd := IntWalk.i64_in _ ⟨by omega, by omega⟩
      have g2_ : wrap64 (j * rd) = j * rd := IntWalk.wrap64_in _ ⟨by omega, by omega⟩
      have b3_ := mul_co (m := 32000000) (k := 32) (a := rc) (b := K) ⟨by omega, by omega⟩ ⟨by omega, by omega⟩
      have e3_ : IntKind.i64.wrap (rc * K) = rc * K := IntWalk.i64_in _ ⟨by omega, by omega⟩
      have g3_ : wrap64 (rc * K) = rc * K := IntWalk.wrap64_in _ ⟨by omega, by omega⟩
      clear b0_ b1_ b2_ b3_
      go_wp2_with fail
      have sc : ∀ {V : World}, Below wr.heap.size wr V → V.cell? ⟨w.heap.size, 0, none⟩ = some (.slice A ys.length C) ∧ V.cell? ⟨w.heap.size, 1, none⟩ = some (.int .i64 lo) ∧ V.cell? ⟨w.heap.size, 2, none⟩ = some (.int .i64 hi) ∧ V.cell? ⟨w.heap.size + 1, 0, none⟩ = some (.int .i64 a) ∧ V.cell? ⟨w.heap.size + 1, 1, none⟩ = some (.int .i64 b) ∧ V.cell? ⟨w.heap.size + 1, 2, none⟩ = some (.int .i64 c) ∧ V.cell? ⟨w.heap.size + 1 + 1, 0, none⟩ = some (.int .i64 d) ∧ V.cell? ⟨w.heap.size + 1 + 1, 1, none⟩ = some (.int .i64 e) ∧ V.cell? ⟨w.heap.size + 1 + 1, 2, none⟩ = some (.int .i64 f) := fun h => ⟨keepc h b0, keepc h b1, keepc h b2, keepc h p0, keepc h p1, keepc h p2, keepc h q0, keepc h q1, keepc h q2⟩
      refine wp_region_held_drew (S := fun V => V.cell? ⟨w.heap.size, 0, none⟩ = some (.slice A ys.length C) ∧ V.cell? ⟨w.heap.size, 1, none⟩ = some (.int .i64 lo) ∧ V.cell? ⟨w.heap.size, 2, none⟩ = some (.int .i64 hi) ∧ V.cell? ⟨w.heap.size + 1, 0, none⟩ = some (.int .i64 a) ∧ V.cell? ⟨w.heap.size + 1, 1, none⟩ = some (.int .i64 b) ∧ V.cell? ⟨w.heap.size + 1, 2, none⟩ = some (.int .i64 c) ∧ V.cell? ⟨w.heap.size + 1 + 1, 0, none⟩ = some (.int .i64 d) ∧ V.cell? ⟨w.heap.size + 1 + 1, 1, none⟩ = some (.int .i64 e) ∧ V.cell? ⟨w.heap.size + 1 + 1, 2, none⟩ = some (.int .i64 f)) (by kernel_rfl) (sc (Below.refl _ _).drew) fun HL_ => ?_
      have hb0 : Below wr.heap.size wr wr.drew := (Below.refl _ _).drew
      refine wpAnyH_take (i := 0) (v := .agg #[.slice A ys.length C, .int .i64 lo, .int .i64 hi]) rfl (by kernel_rfl) (by kernel_rfl) (by kernel_rfl) (fun _ _ _ h => h) (Or.inl ⟨by kernel_rfl, ?_⟩) HL_ ?_
      · rintro Wl ⟨s0, s1, s2, s3, s4, s5, s6, s7, s8⟩
        go_simp
      simp only [Act.put, List.getElem_toArray, List.getElem_cons_succ, List.getElem_cons_zero, List.setIfInBounds_toArray, List.set_cons_zero, List.set_cons_succ]
      refine wpAnyH_take (i := 1) (v := .agg #[.int .i64 a, .int .i64 b, .int .i64 c]) rfl (by kernel_rfl) (by kernel_rfl) (by kernel_rfl) (fun _ _ _ h => h) (Or.inl ⟨by kernel_rfl, ?_⟩) HL_ ?_
      · rintro Wl ⟨s0, s1, s2, s3, s4, s5, s6, s7, s8⟩
        go_simp
      simp only [Act.put, List.getElem_toArray, List.getElem_cons_succ, List.getElem_cons_zero, List.setIfInBounds_toArray, List.set_cons_zero, List.set_cons_succ]
      refine wpAnyH_take (i := 2) (v := .agg #[.int .i64 d, .int .i64 e, .int .i64 f]) rfl (by kernel_rfl) (by kernel_rfl) (by kernel_rfl) (fun _ _ _ h => h) (Or.inl ⟨by kernel_rfl, ?_⟩) HL_ ?_
      · rintro Wl ⟨s0, s1, s2, s3, s4, s5, s6, s7, s8⟩
        go_simp
      simp only [Act.put, List.getElem_toArray, List.getElem_cons_succ, List.getElem_cons_zero, List.setIfInBounds_toArray, List.set_cons_zero, List.set_cons_succ]
      refine wpAnyH_take (i := 3) (v := .int .i64 j) rfl (by kernel_rfl) (by kernel_rfl) (by kernel_rfl) (fun _ _ _ h => h) (Or.inl ⟨by kernel_rfl, ?_⟩) HL_ ?_
      · rintro Wl ⟨s0, s1, s2, s3, s4, s5, s6, s7, s8⟩
        go_simp
      simp only [Act.put, List.getElem_toArray, List.getElem_cons_succ, List.getElem_cons_zero, List.setIfInBounds_toArray, List.set_cons_zero, List.set_cons_succ]
      refine wpAnyH_ready (rs := [4]) (by kernel_rfl) (by simp) ?_
      refine AllReadyH.cons (o := _) rfl (fun K_ hK => ?_) AllReadyH.nil
      go_simp
      with_reducible refine (HA.out _).mono ?_
      rintro e_ x4 ⟨rfl, hb⟩
      replace hb0 := on_below hb0 hb
      clear hb
      refine hK.out _ _ (sc hb0) fun HL_ => ?_
      clear hK K_
      refine wpAnyH_ready (rs := [5]) (by kernel_rfl) (by simp) ?_
      refine AllReadyH.cons (o := _) rfl (fun K_ hK => ?_) AllReadyH.nil
      go_simp
      with_reducible refine (HI.out _ (HM.out.below (on_below HB2.out hb0))).mono ?_
      rintro e_ x5 ⟨rfl, hb⟩
      replace hb0 := on_below hb0 hb
      clear hb
      refine hK.out _ _ (sc hb0) fun HL_ => ?_
      clear hK K_
      refine wpAnyH_take (i := 6) (v := .tuple #[.bool r, .int .i64 0]) rfl (by kernel_rfl) (by kernel_rfl) (by kernel_rfl) (fun _ _ _ h => h) (Or.inl ⟨by kernel_rfl, ?_⟩) HL_ ?_
      · rintro Wl ⟨s0, s1, s2, s3, s4, s5, s6, s7, s8⟩
        go_simp
      simp only [Act.put, List.getElem_toArray, List.getElem_cons_succ, List.getElem_cons_zero, List.setIfInBounds_toArray, List.set_cons_zero, List.set_cons_succ]
      refine wpAnyH_take (i := 7) (v := .bool r) rfl (by kernel_rfl) (by kernel_rfl) (by kernel_rfl) (fun _ _ _ h => h) (Or.inl ⟨by kernel_rfl, ?_⟩) HL_ ?_
      · rintro Wl ⟨s0, s1, s2, s3, s4, s5, s6, s7, s8⟩
        go_simp
      simp only [Act.put, List.getElem_toArray, List.getElem_cons_succ, List.getElem_cons_zero, List.setIfInBounds_toArray, List.set_cons_zero, List.set_cons_succ]
      refine wpAnyH_take (i := 8) (v := .int .i64 0) rfl (by kernel_rfl) (by kernel_rfl) (by kernel_rfl) (fun _ _ _ h => h) (Or.inl ⟨by kernel_rfl, ?_⟩) HL_ ?_
      · rintro Wl ⟨s0, s1, s2, s3, s4, s5, s6, s7, s8⟩
        go_simp
      simp only [Act.put, List.getElem_toArray, List.getElem_cons_succ, List.getElem_cons_zero, List.setIfInBounds_toArray, List.set_cons_zero, List.set_cons_succ]
      refine wpAnyH_take (i := 9) (v := .bool r) rfl (by kernel_rfl) (by kernel_rfl) (by kernel_rfl) (fun _ _ _ h => h) (Or.inl ⟨by kernel_rfl, ?_⟩) HL_ ?_
      · rintro Wl ⟨s0, s1, s2, s3, s4, s5, s6, s7, s8⟩
        go_simp
      simp only [Act.put, List.getElem_toArray, List.getElem_cons_succ, List.getElem_cons_zero, List.setIfInBounds_toArray, List.set_cons_zero, List.set_cons_succ]
      refine wpAnyH_take (i := 10) (v := .int .i64 0) rfl (by kernel_rfl) (by kernel_rfl) (by kernel_rfl) (fun _ _ _ h => h) (Or.inl ⟨by kernel_rfl, ?_⟩) HL_ ?_
      · rintro Wl ⟨s0, s1, s2, s3, s4, s5, s6, s7, s8⟩
        go_simp
      simp only [Act.put, List.getElem_toArray, List.getElem_cons_succ, List.getElem_cons_zero, List.setIfInBounds_toArray, List.set_cons_zero, List.set_cons_succ]
      refine wpAnyH_done (by kernel_rfl) ?_ _
      clear sc HL_ HI HA
      replace b0 := keepc hb0 b0
      replace b1 := keepc hb0 b1
      replace b2 := keepc hb0 b2
      replace p0 := keepc hb0 p0
      replace p1 := keepc hb0 p1
      replace p2 := keepc hb0 p2
      replace q0 := keepc hb0 q0
      replace q1 := keepc hb0 q1
      replace q2 := keepc hb0 q2
      replace u0 := keepc hb0 u0
      replace u1 := keepc hb0 u1
      replace v0 := keepc hb0 v0
      replace v1 := keepc hb0 v1
      have HW2 := Lib.hid (on_below HW.out hb0)
      clear hb0 HB2 HW
      cases rh
      · have hrf : r = false := by cases r with | false => rfl | true => exact absurd (HK2.out.1 rfl).1 (by decide)
        subst hrf
        clear HK2
        go_wp2_with fail
        go_roundw
        case rel => exact ⟨j + 1, ⟨by omega, by omega⟩, int_of (by first | exact wj | exact wj2 | simp [wj, wj2]), HW2⟩
        case measure => simp [intOf, wj, wj2]; clear e0_ e1_ e2_ e3_ g0_ g1_ g2_ g3_ wj wj2; omega
      · by_cases c1 : ra * K < j * rb
        · by_cases c2 : j * rd < rc * K
          · have hrt : r = true := HK2.out.2 ⟨rfl, c1, c2⟩
            subst hrt
            clear HK2
            go_wp2_with fail
            go_roundw
            case rel => exact ⟨j + 1, ⟨by omega, by omega⟩, int_of (by first | exact wj | exact wj2 | simp [wj, wj2]), HW2⟩
            case measure => simp [intOf, wj, wj2]; clear e0_ e1_ e2_ e3_ g0_ g1_ g2_ g3_ wj wj2; omega
          · have hrf : r = false := by cases r with | false => rfl | true => exact absurd (HK2.out.1 rfl).2.2 c2
            subst hrf
            clear HK2
            go_wp2_with fail
            go_roundw
            case rel => exact ⟨j + 1, ⟨by omega, by omega⟩, int_of (by first | exact wj | exact wj2 | simp [wj, wj2]), HW2⟩
            case measure => simp [intOf, wj, wj2]; clear e0_ e1_ e2_ e3_ g0_ g1_ g2_ g3_ wj wj2; omega
        · have hrf : r = false := by cases r with | false => rfl | true => exact absurd (HK2.out.1 rfl).2.1 c1
          subst hrf
          clear HK2
          go_wp2_with fail
          go_roundw
          case rel => exact ⟨j + 1, ⟨by omega, by omega⟩, int_of (by first | exact wj | exact wj2 | simp [wj, wj2]), HW2⟩
          case measure => simp [intOf, wj, wj2]; clear e0_ e1_ e2_ e3_ g0_ g1_ g2_ g3_ wj wj2; omega
    · go_wp2_with fail
      go_ret
      exact ⟨rfl, HB2.out⟩
end Go.Proofs.Ytagokcjbeaddiaa.LawPoints
