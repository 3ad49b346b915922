/-
  The reference of layer 8: quotient, narrow.
-/
import Derived.Test.YtjjimbaogpmbmaaShpD
import Derived.Deep.RegionHeld3
namespace Go.Proofs.Ytjjimbaogpmbmaa
open Go.RowKit Go.Sort
open Go.RowKit (Below)
set_option linter.unusedVariables false
set_option linter.unusedSimpArgs false

theorem qgcd_is (x y g : Int) (hx : 0 ≤ x ∧ x ≤ 9223372036854775807) (hy : 0 ≤ y ∧ y ≤ 9223372036854775807) (hg : gq x y = g) (w : World) :
    Calls Try.prog 151 #[.int .i64 x, .int .i64 y] w fun e w' => e = .returned (.int .i64 g) ∧ w = w' := by
  subst hg
  obtain ⟨m, rfl⟩ := Int.eq_ofNat_of_zero_le hx.1
  obtain ⟨n, rfl⟩ := Int.eq_ofNat_of_zero_le hy.1
  exact qgcd_any m n w (by omega) (by omega)
theorem gq_le {a b : Int} (h : 0 < b) : gq a b ≤ b := by
  have := Int.le_of_dvd h (gq_dvd2 a b)
  exact this
theorem tdiv_qN {a b : Int} (h : 0 < b) : a.tdiv (gq a b) = qN a b := Int.tdiv_eq_ediv_of_dvd (gq_dvd1 a b)
theorem tdiv_qD {a b : Int} (h : 0 < b) : b.tdiv (gq a b) = qD a b := Int.tdiv_eq_ediv_of_dvd (gq_dvd2 a b)
set_option maxRecDepth 100000 in
set_option maxHeartbeats 2000000 in
theorem qquo_p (a b : Int) (ha : 0 ≤ a) (ba : -100000000 ≤ a ∧ a ≤ 100000000) (hb : 0 < b) (bb : b ≤ 100000000) (w : World) :
    Calls Try.prog 150 #[.int .i64 a, .int .i64 b] w fun e_ w' => e_ = .returned (.agg #[.int .i64 (qN a b), .int .i64 (qD a b)]) ∧ Below w.heap.size w w' := by
  have hg := gq_pos (a := a) hb
  have hl := gq_le (a := a) hb
  have q1 := tdiv_qN (a := a) hb
  have q2 := tdiv_qD (a := a) hb
  obtain ⟨p1, p2, p3⟩ := q_bd (a := a) (m := 100000000) hb ba bb
  have HG := Lib.hid (fun W => qgcd_is (a) b (gq a b) ⟨by omega, by omega⟩ ⟨by omega, by omega⟩ rfl W)
  generalize gq a b = g at *
  generalize hu : qN a b = u at *
  generalize hv : qD a b = v at *
  clear hu hv
  have f1 : IntKind.i64.wrap (a.tdiv g) = u := by rw [q1]; exact IntWalk.i64_in _ ⟨by omega, by omega⟩
  have f2 : IntKind.i64.wrap (b.tdiv g) = v := by rw [q2]; exact IntWalk.i64_in _ ⟨by omega, by omega⟩
  have f3 : wrap64 (a.tdiv g) = u := by rw [q1]; exact IntWalk.wrap64_in _ ⟨by omega, by omega⟩
  have f4 : wrap64 (b.tdiv g) = v := by rw [q2]; exact IntWalk.wrap64_in _ ⟨by omega, by omega⟩
  have ng : ¬ g = 0 := by omega
  have ng2 : (g == 0) = false := by rw [beq_eq_false_iff_ne]; exact ng
  clear p1 p2 p3 q1 q2
  have o0 : World.cell? (w.alloc (.cells #[.int .i64 0, .int .i64 0] 39)) ⟨w.heap.size, 0, none⟩ = some (.int .i64 0) := by simp [go_sem]
  have fo0 : World.frozen? (w.alloc (.cells #[.int .i64 0, .int .i64 0] 39)) ⟨w.heap.size, 0, none⟩ = false := by simp [go_sem]
  have o1 : World.cell? (w.alloc (.cells #[.int .i64 0, .int .i64 0] 39)) ⟨w.heap.size, 1, none⟩ = some (.int .i64 0) := by simp [go_sem]
  have fo1 : World.frozen? (w.alloc (.cells #[.int .i64 0, .int .i64 0] 39)) ⟨w.heap.size, 1, none⟩ = false := by simp [go_sem]
  have lo : w.heap.size < (w.alloc (.cells #[.int .i64 0, .int .i64 0] 39)).heap.size := by simp <;> omega
  have HB := Lib.hid (show Below w.heap.size w (w.alloc (.cells #[.int .i64 0, .int .i64 0] 39)) from ((Below.refl _ _).alloc (by simp <;> omega) _))
  go_enter Try.func150, Try.ntmps150
  go_wp2_with fail
  generalize w.alloc (.cells #[.int .i64 0, .int .i64 0] 39) = w1 at *
  refine (HG.out _).mono ?_
  rintro e_ wq ⟨rfl, hw⟩
  subst hw
  go_wp2_with fail
  go_region
  all_goals (try go_wp2_with fail)
  all_goals refine bodyPost_ret (v := .agg #[.int .i64 u, .int .i64 v]) (by simp [results, Try.results150, go_sem, o0, o1]) rfl ⟨rfl, ?_⟩
  all_goals (repeat (first | (refine Below.setCell ?_ (by first | exact Nat.le_refl _ | (simp; done) | (simp; omega) | omega) _) | (refine Below.drew ?_) | (refine below_drewN' ?_ _)))
  all_goals exact HB.out
set_option maxRecDepth 100000 in
set_option maxHeartbeats 2000000 in
theorem qquo_n (a b : Int) (ha : a < 0) (ba : -100000000 ≤ a ∧ a ≤ 100000000) (hb : 0 < b) (bb : b ≤ 100000000) (w : World) :
    Calls Try.prog 150 #[.int .i64 a, .int .i64 b] w fun e_ w' => e_ = .returned (.agg #[.int .i64 (qN a b), .int .i64 (qD a b)]) ∧ Below w.heap.size w w' := by
  have hg := gq_pos (a := a) hb
  have hl := gq_le (a := a) hb
  have q1 := tdiv_qN (a := a) hb
  have q2 := tdiv_qD (a := a) hb
  obtain ⟨p1, p2, p3⟩ := q_bd (a := a) (m := 100000000) hb ba bb
  have HG := Lib.hid (fun W => qgcd_is (-a) b (gq a b) ⟨by omega, by omega⟩ ⟨by omega, by omega⟩ (gq_neg a b) W)
  generalize gq a b = g at *
  generalize hu : qN a b = u at *
  generalize hv : qD a b = v at *
  clear hu hv
  have f1 : IntKind.i64.wrap (a.tdiv g) = u := by rw [q1]; exact IntWalk.i64_in _ ⟨by omega, by omega⟩
  have f2 : IntKind.i64.wrap (b.tdiv g) = v := by rw [q2]; exact IntWalk.i64_in _ ⟨by omega, by omega⟩
  have f3 : wrap64 (a.tdiv g) = u := by rw [q1]; exact IntWalk.wrap64_in _ ⟨by omega, by omega⟩
  have f4 : wrap64 (b.tdiv g) = v := by rw [q2]; exact IntWalk.wrap64_in _ ⟨by omega, by omega⟩
  have ng : ¬ g = 0 := by omega
  have ng2 : (g == 0) = false := by rw [beq_eq_false_iff_ne]; exact ng
  clear p1 p2 p3 q1 q2
  have o0 : World.cell? (w.alloc (.cells #[.int .i64 0, .int .i64 0] 39)) ⟨w.heap.size, 0, none⟩ = some (.int .i64 0) := by simp [go_sem]
  have fo0 : World.frozen? (w.alloc (.cells #[.int .i64 0, .int .i64 0] 39)) ⟨w.heap.size, 0, none⟩ = false := by simp [go_sem]
  have o1 : World.cell? (w.alloc (.cells #[.int .i64 0, .int .i64 0] 39)) ⟨w.heap.size, 1, none⟩ = some (.int .i64 0) := by simp [go_sem]
  have fo1 : World.frozen? (w.alloc (.cells #[.int .i64 0, .int .i64 0] 39)) ⟨w.heap.size, 1, none⟩ = false := by simp [go_sem]
  have lo : w.heap.size < (w.alloc (.cells #[.int .i64 0, .int .i64 0] 39)).heap.size := by simp <;> omega
  have HB := Lib.hid (show Below w.heap.size w (w.alloc (.cells #[.int .i64 0, .int .i64 0] 39)) from ((Below.refl _ _).alloc (by simp <;> omega) _))
  go_enter Try.func150, Try.ntmps150
  go_wp2_with fail
  generalize w.alloc (.cells #[.int .i64 0, .int .i64 0] 39) = w1 at *
  refine (HG.out _).mono ?_
  rintro e_ wq ⟨rfl, hw⟩
  subst hw
  go_wp2_with fail
  go_region
  all_goals (try go_wp2_with fail)
  all_goals refine bodyPost_ret (v := .agg #[.int .i64 u, .int .i64 v]) (by simp [results, Try.results150, go_sem, o0, o1]) rfl ⟨rfl, ?_⟩
  all_goals (repeat (first | (refine Below.setCell ?_ (by first | exact Nat.le_refl _ | (simp; done) | (simp; omega) | omega) _) | (refine Below.drew ?_) | (refine below_drewN' ?_ _)))
  all_goals exact HB.out
theorem qquo_is (a b u v : Int) (ba : -100000000 ≤ a ∧ a ≤ 100000000) (hb : 0 < b) (bb : b ≤ 100000000) (hu : qN a b = u) (hv : qD a b = v) (w : World) :
    Calls Try.prog 150 #[.int .i64 a, .int .i64 b] w fun e_ w' => e_ = .returned (.agg #[.int .i64 u, .int .i64 v]) ∧ Below w.heap.size w w' := by
  subst hu hv
  rcases Int.lt_or_le a 0 with h | h
  · exact qquo_n a b h ba hb bb w
  · exact qquo_p a b h ba hb bb w
/-- A range, as a value. -/
def rgv (r : Rg) : Value := .agg #[.int .i64 r.ln, .int .i64 r.ld, .int .i64 r.hn, .int .i64 r.hd, .bool r.e]
set_option maxRecDepth 100000 in
set_option maxHeartbeats 2000000 in
theorem nar_0t (ln ld hn hd a : Int) (e : Bool) (ha : a ≤ 0) (w : World) :
    Calls Try.prog 148 #[.agg #[.int .i64 ln, .int .i64 ld, .int .i64 hn, .int .i64 hd, .bool e], .int .i64 a, .int .i64 0] w fun e_ w' => e_ = .returned (.agg #[.int .i64 ln, .int .i64 ld, .int .i64 hn, .int .i64 hd, .bool true]) ∧ Below w.heap.size w w' := by
  have p0 : World.cell? ((w.alloc (.cells #[.int .i64 ln, .int .i64 ld, .int .i64 hn, .int .i64 hd, .bool e] 175)).alloc (.cells #[.int .i64 0, .int .i64 0, .int .i64 0, .int .i64 0, .bool false] 175)) ⟨w.heap.size, 0, none⟩ = some (.int .i64 ln) := by simp [go_sem]
  have fp0 : World.frozen? ((w.alloc (.cells #[.int .i64 ln, .int .i64 ld, .int .i64 hn, .int .i64 hd, .bool e] 175)).alloc (.cells #[.int .i64 0, .int .i64 0, .int .i64 0, .int .i64 0, .bool false] 175)) ⟨w.heap.size, 0, none⟩ = false := by simp [go_sem]
  have p1 : World.cell? ((w.alloc (.cells #[.int .i64 ln, .int .i64 ld, .int .i64 hn, .int .i64 hd, .bool e] 175)).alloc (.cells #[.int .i64 0, .int .i64 0, .int .i64 0, .int .i64 0, .bool false] 175)) ⟨w.heap.size, 1, none⟩ = some (.int .i64 ld) := by simp [go_sem]
  have fp1 : World.frozen? ((w.alloc (.cells #[.int .i64 ln, .int .i64 ld, .int .i64 hn, .int .i64 hd, .bool e] 175)).alloc (.cells #[.int .i64 0, .int .i64 0, .int .i64 0, .int .i64 0, .bool false] 175)) ⟨w.heap.size, 1, none⟩ = false := by simp [go_sem]
  have p2 : World.cell? ((w.alloc (.cells #[.int .i64 ln, .int .i64 ld, .int .i64 hn, .int .i64 hd, .bool e] 175)).alloc (.cells #[.int .i64 0, .int .i64 0, .int .i64 0, .int .i64 0, .bool false] 175)) ⟨w.heap.size, 2, none⟩ = some (.int .i64 hn) := by simp [go_sem]
  have fp2 : World.frozen? ((w.alloc (.cells #[.int .i64 ln, .int .i64 ld, .int .i64 hn, .int .i64 hd, .bool e] 175)).alloc (.cells #[.int .i64 0, .int .i64 0, .int .i64 0, .int .i64 0, .bool false] 175)) ⟨w.heap.size, 2, none⟩ = false := by simp [go_sem]
  have p3 : World.cell? ((w.alloc (.cells #[.int .i64 ln, .int .i64 ld, .int .i64 hn, .int .i64 hd, .bool e] 175)).alloc (.cells #[.int .i64 0, .int .i64 0, .int .i64 0, .int .i64 0, .bool false] 175)) ⟨w.heap.size, 3, none⟩ = some (.int .i64 hd) := by simp [go_sem]
  have fp3 : World.frozen? ((w.alloc (.cells #[.int .i64 ln, .int .i64 ld, .int .i64 hn, .int .i64 hd, .bool e] 175)).alloc (.cells #[.int .i64 0, .int .i64 0, .int .i64 0, .int .i64 0, .bool false] 175)) ⟨w.heap.size, 3, none⟩ = false := by simp [go_sem]
  have p4 : World.cell? ((w.alloc (.cells #[.int .i64 ln, .int .i64 ld, .int .i64 hn, .int .i64 hd, .bool e] 175)).alloc (.cells #[.int .i64 0, .int .i64 0, .int .i64 0, .int .i64 0, .bool false] 175)) ⟨w.heap.size, 4, none⟩ = some (.bool e) := by simp [go_sem]
  have fp4 : World.frozen? ((w.alloc (.cells #[.int .i64 ln, .int .i64 ld, .int .i64 hn, .int .i64 hd, .bool e] 175)).alloc (.cells #[.int .i64 0, .int .i64 0, .int .i64 0, .int .i64 0, .bool false] 175)) ⟨w.heap.size, 4, none⟩ = false := by simp [go_sem]
  have lp : w.heap.size < ((w.alloc (.cells #[.int .i64 ln, .int .i64 ld, .int .i64 hn, .int .i64 hd, .bool e] 175)).alloc (.cells #[.int .i64 0, .int .i64 0, .int .i64 0, .int .i64 0, .bool false] 175)).heap.size := by simp <;> omega
  have o0 : World.cell? ((w.alloc (.cells #[.int .i64 ln, .int .i64 ld, .int .i64 hn, .int .i64 hd, .bool e] 175)).alloc (.cells #[.int .i64 0, .int .i64 0, .int .i64 0, .int .i64 0, .bool false] 175)) ⟨w.heap.size + 1, 0, none⟩ = some (.int .i64 0) := by simp [go_sem]
  have fo0 : World.frozen? ((w.alloc (.cells #[.int .i64 ln, .int .i64 ld, .int .i64 hn, .int .i64 hd, .bool e] 175)).alloc (.cells #[.int .i64 0, .int .i64 0, .int .i64 0, .int .i64 0, .bool false] 175)) ⟨w.heap.size + 1, 0, none⟩ = false := by simp [go_sem]
  have o1 : World.cell? ((w.alloc (.cells #[.int .i64 ln, .int .i64 ld, .int .i64 hn, .int .i64 hd, .bool e] 175)).alloc (.cells #[.int .i64 0, .int .i64 0, .int .i64 0, .int .i64 0, .bool false] 175)) ⟨w.heap.size + 1, 1, none⟩ = some (.int .i64 0) := by simp [go_sem]
  have fo1 : World.frozen? ((w.alloc (.cells #[.int .i64 ln, .int .i64 ld, .int .i64 hn, .int .i64 hd, .bool e] 175)).alloc (.cells #[.int .i64 0, .int .i64 0, .int .i64 0, .int .i64 0, .bool false] 175)) ⟨w.heap.size + 1, 1, none⟩ = false := by simp [go_sem]
  have o2 : World.cell? ((w.alloc (.cells #[.int .i64 ln, .int .i64 ld, .int .i64 hn, .int .i64 hd, .bool e] 175)).alloc (.cells #[.int .i64 0, .int .i64 0, .int .i64 0, .int .i64 0, .bool false] 175)) ⟨w.heap.size + 1, 2, none⟩ = some (.int .i64 0) := by simp [go_sem]
  have fo2 : World.frozen? ((w.alloc (.cells #[.int .i64 ln, .int .i64 ld, .int .i64 hn, .int .i64 hd, .bool e] 175)).alloc (.cells #[.int .i64 0, .int .i64 0, .int .i64 0, .int .i64 0, .bool false] 175)) ⟨w.heap.size + 1, 2, none⟩ = false := by simp [go_sem]
  have o3 : World.cell? ((w.alloc (.cells #[.int .i64 ln, .int .i64 ld, .int .i64 hn, .int .i64 hd, .bool e] 175)).alloc (.cells #[.int .i64 0, .int .i64 0, .int .i64 0, .int .i64 0, .bool false] 175)) ⟨w.heap.size + 1, 3, none⟩ = some (.int .i64 0) := by simp [go_sem]
  have fo3 : World.frozen? ((w.alloc (.cells #[.int .i64 ln, .int .i64 ld, .int .i64 hn, .int .i64 hd, .bool e] 175)).alloc (.cells #[.int .i64 0, .int .i64 0, .int .i64 0, .int .i64 0, .bool false] 175)) ⟨w.heap.size + 1, 3, none⟩ = false := by simp [go_sem]
  have o4 : World.cell? ((w.alloc (.cells #[.int .i64 ln, .int .i64 ld, .int .i64 hn, .int .i64 hd, .bool e] 175)).alloc (.cells #[.int .i64 0, .int .i64 0, .int .i64 0, .int .i64 0, .bool false] 175)) ⟨w.heap.size + 1, 4, none⟩ = some (.bool false) := by simp [go_sem]
  have fo4 : World.frozen? ((w.alloc (.cells #[.int .i64 ln, .int .i64 ld, .int .i64 hn, .int .i64 hd, .bool e] 175)).alloc (.cells #[.int .i64 0, .int .i64 0, .int .i64 0, .int .i64 0, .bool false] 175)) ⟨w.heap.size + 1, 4, none⟩ = false := by simp [go_sem]
  have lo : w.heap.size + 1 < ((w.alloc (.cells #[.int .i64 ln, .int .i64 ld, .int .i64 hn, .int .i64 hd, .bool e] 175)).alloc (.cells #[.int .i64 0, .int .i64 0, .int .i64 0, .int .i64 0, .bool false] 175)).heap.size := by simp <;> omega
  have HB := Lib.hid (show Below w.heap.size w ((w.alloc (.cells #[.int .i64 ln, .int .i64 ld, .int .i64 hn, .int .i64 hd, .bool e] 175)).alloc (.cells #[.int .i64 0, .int .i64 0, .int .i64 0, .int .i64 0, .bool false] 175)) from (((Below.refl _ _).alloc (by simp <;> omega) _).alloc (by simp <;> omega) _))
  go_enter Try.func148, Try.ntmps148
  go_upto_region 1 with fail
  generalize (w.alloc (.cells #[.int .i64 ln, .int .i64 ld, .int .i64 hn, .int .i64 hd, .bool e] 175)).alloc (.cells #[.int .i64 0, .int .i64 0, .int .i64 0, .int .i64 0, .bool false] 175) = w1 at *
  all_goals cases e
  all_goals go_wp2_with fail
  all_goals refine bodyPost_ret (v := .agg #[.int .i64 ln, .int .i64 ld, .int .i64 hn, .int .i64 hd, .bool true]) (by simp [results, Try.results148, go_sem, o0, o1, o2, o3, o4, p0, p1, p2, p3, p4]) rfl ⟨rfl, ?_⟩
  all_goals (repeat (first | (refine Below.setCell ?_ (by first | exact Nat.le_refl _ | (simp; done) | (simp; omega) | omega) _) | (with_reducible refine on_below ?_ (below_new _ _))))
  all_goals exact HB.out
set_option maxRecDepth 100000 in
set_option maxHeartbeats 2000000 in
theorem nar_0f (ln ld hn hd a : Int) (e : Bool) (ha : ¬ a ≤ 0) (w : World) :
    Calls Try.prog 148 #[.agg #[.int .i64 ln, .int .i64 ld, .int .i64 hn, .int .i64 hd, .bool e], .int .i64 a, .int .i64 0] w fun e_ w' => e_ = .returned (.agg #[.int .i64 ln, .int .i64 ld, .int .i64 hn, .int .i64 hd, .bool e]) ∧ Below w.heap.size w w' := by
  have p0 : World.cell? ((w.alloc (.cells #[.int .i64 ln, .int .i64 ld, .int .i64 hn, .int .i64 hd, .bool e] 175)).alloc (.cells #[.int .i64 0, .int .i64 0, .int .i64 0, .int .i64 0, .bool false] 175)) ⟨w.heap.size, 0, none⟩ = some (.int .i64 ln) := by simp [go_sem]
  have fp0 : World.frozen? ((w.alloc (.cells #[.int .i64 ln, .int .i64 ld, .int .i64 hn, .int .i64 hd, .bool e] 175)).alloc (.cells #[.int .i64 0, .int .i64 0, .int .i64 0, .int .i64 0, .bool false] 175)) ⟨w.heap.size, 0, none⟩ = false := by simp [go_sem]
  have p1 : World.cell? ((w.alloc (.cells #[.int .i64 ln, .int .i64 ld, .int .i64 hn, .int .i64 hd, .bool e] 175)).alloc (.cells #[.int .i64 0, .int .i64 0, .int .i64 0, .int .i64 0, .bool false] 175)) ⟨w.heap.size, 1, none⟩ = some (.int .i64 ld) := by simp [go_sem]
  have fp1 : World.frozen? ((w.alloc (.cells #[.int .i64 ln, .int .i64 ld, .int .i64 hn, .int .i64 hd, .bool e] 175)).alloc (.cells #[.int .i64 0, .int .i64 0, .int .i64 0, .int .i64 0, .bool false] 175)) ⟨w.heap.size, 1, none⟩ = false := by simp [go_sem]
  have p2 : World.cell? ((w.alloc (.cells #[.int .i64 ln, .int .i64 ld, .int .i64 hn, .int .i64 hd, .bool e] 175)).alloc (.cells #[.int .i64 0, .int .i64 0, .int .i64 0, .int .i64 0, .bool false] 175)) ⟨w.heap.size, 2, none⟩ = some (.int .i64 hn) := by simp [go_sem]
  have fp2 : World.frozen? ((w.alloc (.cells #[.int .i64 ln, .int .i64 ld, .int .i64 hn, .int .i64 hd, .bool e] 175)).alloc (.cells #[.int .i64 0, .int .i64 0, .int .i64 0, .int .i64 0, .bool false] 175)) ⟨w.heap.size, 2, none⟩ = false := by simp [go_sem]
  have p3 : World.cell? ((w.alloc (.cells #[.int .i64 ln, .int .i64 ld, .int .i64 hn, .int .i64 hd, .bool e] 175)).alloc (.cells #[.int .i64 0, .int .i64 0, .int .i64 0, .int .i64 0, .bool false] 175)) ⟨w.heap.size, 3, none⟩ = some (.int .i64 hd) := by simp [go_sem]
  have fp3 : World.frozen? ((w.alloc (.cells #[.int .i64 ln, .int .i64 ld, .int .i64 hn, .int .i64 hd, .bool e] 175)).alloc (.cells #[.int .i64 0, .int .i64 0, .int .i64 0, .int .i64 0, .bool false] 175)) ⟨w.heap.size, 3, none⟩ = false := by simp [go_sem]
  have p4 : World.cell? ((w.alloc (.cells #[.int .i64 ln, .int .i64 ld, .int .i64 hn, .int .i64 hd, .bool e] 175)).alloc (.cells #[.int .i64 0, .int .i64 0, .int .i64 0, .int .i64 0, .bool false] 175)) ⟨w.heap.size, 4, none⟩ = some (.bool e) := by simp [go_sem]
  have fp4 : World.frozen? ((w.alloc (.cells #[.int .i64 ln, .int .i64 ld, .int .i64 hn, .int .i64 hd, .bool e] 175)).alloc (.cells #[.int .i64 0, .int .i64 0, .int .i64 0, .int .i64 0, .bool false] 175)) ⟨w.heap.size, 4, none⟩ = false := by simp [go_sem]
  have lp : w.heap.size < ((w.alloc (.cells #[.int .i64 ln, .int .i64 ld, .int .i64 hn, .int .i64 hd, .bool e] 175)).alloc (.cells #[.int .i64 0, .int .i64 0, .int .i64 0, .int .i64 0, .bool false] 175)).heap.size := by simp <;> omega
  have o0 : World.cell? ((w.alloc (.cells #[.int .i64 ln, .int .i64 ld, .int .i64 hn, .int .i64 hd, .bool e] 175)).alloc (.cells #[.int .i64 0, .int .i64 0, .int .i64 0, .int .i64 0, .bool false] 175)) ⟨w.heap.size + 1, 0, none⟩ = some (.int .i64 0) := by simp [go_sem]
  have fo0 : World.frozen? ((w.alloc (.cells #[.int .i64 ln, .int .i64 ld, .int .i64 hn, .int .i64 hd, .bool e] 175)).alloc (.cells #[.int .i64 0, .int .i64 0, .int .i64 0, .int .i64 0, .bool false] 175)) ⟨w.heap.size + 1, 0, none⟩ = false := by simp [go_sem]
  have o1 : World.cell? ((w.alloc (.cells #[.int .i64 ln, .int .i64 ld, .int .i64 hn, .int .i64 hd, .bool e] 175)).alloc (.cells #[.int .i64 0, .int .i64 0, .int .i64 0, .int .i64 0, .bool false] 175)) ⟨w.heap.size + 1, 1, none⟩ = some (.int .i64 0) := by simp [go_sem]
  have fo1 : World.frozen? ((w.alloc (.cells #[.int .i64 ln, .int .i64 ld, .int .i64 hn, .int .i64 hd, .bool e] 175)).alloc (.cells #[.int .i64 0, .int .i64 0, .int .i64 0, .int .i64 0, .bool false] 175)) ⟨w.heap.size + 1, 1, none⟩ = false := by simp [go_sem]
  have o2 : World.cell? ((w.alloc (.cells #[.int .i64 ln, .int .i64 ld, .int .i64 hn, .int .i64 hd, .bool e] 175)).alloc (.cells #[.int .i64 0, .int .i64 0, .int .i64 0, .int .i64 0, .bool false] 175)) ⟨w.heap.size + 1, 2, none⟩ = some (.int .i64 0) := by simp [go_sem]
  have fo2 : World.frozen? ((w.alloc (.cells #[.int .i64 ln, .int .i64 ld, .int .i64 hn, .int .i64 hd, .bool e] 175)).alloc (.cells #[.int .i64 0, .int .i64 0, .int .i64 0, .int .i64 0, .bool false] 175)) ⟨w.heap.size + 1, 2, none⟩ = false := by simp [go_sem]
  have o3 : World.cell? ((w.alloc (.cells #[.int .i64 ln, .int .i64 ld, .int .i64 hn, .int .i64 hd, .bool e] 175)).alloc (.cells #[.int .i64 0, .int .i64 0, .int .i64 0, .int .i64 0, .bool false] 175)) ⟨w.heap.size + 1, 3, none⟩ = some (.int .i64 0) := by simp [go_sem]
  have fo3 : World.frozen? ((w.alloc (.cells #[.int .i64 ln, .int .i64 ld, .int .i64 hn, .int .i64 hd, .bool e] 175)).alloc (.cells #[.int .i64 0, .int .i64 0, .int .i64 0, .int .i64 0, .bool false] 175)) ⟨w.heap.size + 1, 3, none⟩ = false := by simp [go_sem]
  have o4 : World.cell? ((w.alloc (.cells #[.int .i64 ln, .int .i64 ld, .int .i64 hn, .int .i64 hd, .bool e] 175)).alloc (.cells #[.int .i64 0, .int .i64 0, .int .i64 0, .int .i64 0, .bool false] 175)) ⟨w.heap.size + 1, 4, none⟩ = some (.bool false) := by simp [go_sem]
  have fo4 : World.frozen? ((w.alloc (.cells #[.int .i64 ln, .int .i64 ld, .int .i64 hn, .int .i64 hd, .bool e] 175)).alloc (.cells #[.int .i64 0, .int .i64 0, .int .i64 0, .int .i64 0, .bool false] 175)) ⟨w.heap.size + 1, 4, none⟩ = false := by simp [go_sem]
  have lo : w.heap.size + 1 < ((w.alloc (.cells #[.int .i64 ln, .int .i64 ld, .int .i64 hn, .int .i64 hd, .bool e] 175)).alloc (.cells #[.int .i64 0, .int .i64 0, .int .i64 0, .int .i64 0, .bool false] 175)).heap.size := by simp <;> omega
  have HB := Lib.hid (show Below w.heap.size w ((w.alloc (.cells #[.int .i64 ln, .int .i64 ld, .int .i64 hn, .int .i64 hd, .bool e] 175)).alloc (.cells #[.int .i64 0, .int .i64 0, .int .i64 0, .int .i64 0, .bool false] 175)) from (((Below.refl _ _).alloc (by simp <;> omega) _).alloc (by simp <;> omega) _))
  go_enter Try.func148, Try.ntmps148
  go_upto_region 1 with fail
  generalize (w.alloc (.cells #[.int .i64 ln, .int .i64 ld, .int .i64 hn, .int .i64 hd, .bool e] 175)).alloc (.cells #[.int .i64 0, .int .i64 0, .int .i64 0, .int .i64 0, .bool false] 175) = w1 at *
  all_goals cases e
  all_goals go_wp2_with fail
  all_goals refine bodyPost_ret (v := .agg #[.int .i64 ln, .int .i64 ld, .int .i64 hn, .int .i64 hd, .bool _]) (by simp [results, Try.results148, go_sem, o0, o1, o2, o3, o4, p0, p1, p2, p3, p4]) rfl ⟨rfl, ?_⟩
  all_goals (repeat (first | (refine Below.setCell ?_ (by first | exact Nat.le_refl _ | (simp; done) | (simp; omega) | omega) _) | (with_reducible refine on_below ?_ (below_new _ _))))
  all_goals exact HB.out
set_option maxRecDepth 100000 in
set_option maxHeartbeats 2000000 in
theorem nar_pt (ln ld hn hd a b : Int) (e : Bool) (k : Rok 100000000 ⟨ln, ld, hn, hd, e⟩) (ba : -100000000 ≤ a ∧ a ≤ 100000000) (bb : -100000000 ≤ b ∧ b ≤ 100000000) (hb : 0 < b) (u v : Int) (hu : qN (-a) b = u) (hv : qD (-a) b = v) (hc : (ln * v < u * ld)) (w : World) :
    Calls Try.prog 148 #[.agg #[.int .i64 ln, .int .i64 ld, .int .i64 hn, .int .i64 hd, .bool e], .int .i64 a, .int .i64 b] w fun e_ w' => e_ = .returned (.agg #[.int .i64 u, .int .i64 v, .int .i64 hn, .int .i64 hd, .bool e]) ∧ Below w.heap.size w w' := by
  obtain ⟨l1, l2, l3, l4⟩ := k
  simp only at l1 l2 l3 l4
  have hq := q_bd (a := -a) (b := b) (m := 100000000) (by omega) (by omega) (by omega)
  rw [hu, hv] at hq
  have HQ := Lib.hid (fun W => qquo_is (-a) b u v (by omega) (by omega) (by omega) hu hv W)
  have HL := Lib.hid (fun W => qless_is ln ld u v true (decide_eq_true hc) (by omega) (by omega) (by omega) (by omega) W)
  clear hu hv hc l1 l2 l3 l4 hq
  have p0 : World.cell? ((w.alloc (.cells #[.int .i64 ln, .int .i64 ld, .int .i64 hn, .int .i64 hd, .bool e] 175)).alloc (.cells #[.int .i64 0, .int .i64 0, .int .i64 0, .int .i64 0, .bool false] 175)) ⟨w.heap.size, 0, none⟩ = some (.int .i64 ln) := by simp [go_sem]
  have fp0 : World.frozen? ((w.alloc (.cells #[.int .i64 ln, .int .i64 ld, .int .i64 hn, .int .i64 hd, .bool e] 175)).alloc (.cells #[.int .i64 0, .int .i64 0, .int .i64 0, .int .i64 0, .bool false] 175)) ⟨w.heap.size, 0, none⟩ = false := by simp [go_sem]
  have p1 : World.cell? ((w.alloc (.cells #[.int .i64 ln, .int .i64 ld, .int .i64 hn, .int .i64 hd, .bool e] 175)).alloc (.cells #[.int .i64 0, .int .i64 0, .int .i64 0, .int .i64 0, .bool false] 175)) ⟨w.heap.size, 1, none⟩ = some (.int .i64 ld) := by simp [go_sem]
  have fp1 : World.frozen? ((w.alloc (.cells #[.int .i64 ln, .int .i64 ld, .int .i64 hn, .int .i64 hd, .bool e] 175)).alloc (.cells #[.int .i64 0, .int .i64 0, .int .i64 0, .int .i64 0, .bool false] 175)) ⟨w.heap.size, 1, none⟩ = false := by simp [go_sem]
  have p2 : World.cell? ((w.alloc (.cells #[.int .i64 ln, .int .i64 ld, .int .i64 hn, .int .i64 hd, .bool e] 175)).alloc (.cells #[.int .i64 0, .int .i64 0, .int .i64 0, .int .i64 0, .bool false] 175)) ⟨w.heap.size, 2, none⟩ = some (.int .i64 hn) := by simp [go_sem]
  have fp2 : World.frozen? ((w.alloc (.cells #[.int .i64 ln, .int .i64 ld, .int .i64 hn, .int .i64 hd, .bool e] 175)).alloc (.cells #[.int .i64 0, .int .i64 0, .int .i64 0, .int .i64 0, .bool false] 175)) ⟨w.heap.size, 2, none⟩ = false := by simp [go_sem]
  have p3 : World.cell? ((w.alloc (.cells #[.int .i64 ln, .int .i64 ld, .int .i64 hn, .int .i64 hd, .bool e] 175)).alloc (.cells #[.int .i64 0, .int .i64 0, .int .i64 0, .int .i64 0, .bool false] 175)) ⟨w.heap.size, 3, none⟩ = some (.int .i64 hd) := by simp [go_sem]
  have fp3 : World.frozen? ((w.alloc (.cells #[.int .i64 ln, .int .i64 ld, .int .i64 hn, .int .i64 hd, .bool e] 175)).alloc (.cells #[.int .i64 0, .int .i64 0, .int .i64 0, .int .i64 0, .bool false] 175)) ⟨w.heap.size, 3, none⟩ = false := by simp [go_sem]
  have p4 : World.cell? ((w.alloc (.cells #[.int .i64 ln, .int .i64 ld, .int .i64 hn, .int .i64 hd, .bool e] 175)).alloc (.cells #[.int .i64 0, .int .i64 0, .int .i64 0, .int .i64 0, .bool false] 175)) ⟨w.heap.size, 4, none⟩ = some (.bool e) := by simp [go_sem]
  have fp4 : World.frozen? ((w.alloc (.cells #[.int .i64 ln, .int .i64 ld, .int .i64 hn, .int .i64 hd, .bool e] 175)).alloc (.cells #[.int .i64 0, .int .i64 0, .int .i64 0, .int .i64 0, .bool false] 175)) ⟨w.heap.size, 4, none⟩ = false := by simp [go_sem]
  have lp : w.heap.size < ((w.alloc (.cells #[.int .i64 ln, .int .i64 ld, .int .i64 hn, .int .i64 hd, .bool e] 175)).alloc (.cells #[.int .i64 0, .int .i64 0, .int .i64 0, .int .i64 0, .bool false] 175)).heap.size := by simp <;> omega
  have o0 : World.cell? ((w.alloc (.cells #[.int .i64 ln, .int .i64 ld, .int .i64 hn, .int .i64 hd, .bool e] 175)).alloc (.cells #[.int .i64 0, .int .i64 0, .int .i64 0, .int .i64 0, .bool false] 175)) ⟨w.heap.size + 1, 0, none⟩ = some (.int .i64 0) := by simp [go_sem]
  have fo0 : World.frozen? ((w.alloc (.cells #[.int .i64 ln, .int .i64 ld, .int .i64 hn, .int .i64 hd, .bool e] 175)).alloc (.cells #[.int .i64 0, .int .i64 0, .int .i64 0, .int .i64 0, .bool false] 175)) ⟨w.heap.size + 1, 0, none⟩ = false := by simp [go_sem]
  have o1 : World.cell? ((w.alloc (.cells #[.int .i64 ln, .int .i64 ld, .int .i64 hn, .int .i64 hd, .bool e] 175)).alloc (.cells #[.int .i64 0, .int .i64 0, .int .i64 0, .int .i64 0, .bool false] 175)) ⟨w.heap.size + 1, 1, none⟩ = some (.int .i64 0) := by simp [go_sem]
  have fo1 : World.frozen? ((w.alloc (.cells #[.int .i64 ln, .int .i64 ld, .int .i64 hn, .int .i64 hd, .bool e] 175)).alloc (.cells #[.int .i64 0, .int .i64 0, .int .i64 0, .int .i64 0, .bool false] 175)) ⟨w.heap.size + 1, 1, none⟩ = false := by simp [go_sem]
  have o2 : World.cell? ((w.alloc (.cells #[.int .i64 ln, .int .i64 ld, .int .i64 hn, .int .i64 hd, .bool e] 175)).alloc (.cells #[.int .i64 0, .int .i64 0, .int .i64 0, .int .i64 0, .bool false] 175)) ⟨w.heap.size + 1, 2, none⟩ = some (.int .i64 0) := by simp [go_sem]
  have fo2 : World.frozen? ((w.alloc (.cells #[.int .i64 ln, .int .i64 ld, .int .i64 hn, .int .i64 hd, .bool e] 175)).alloc (.cells #[.int .i64 0, .int .i64 0, .int .i64 0, .int .i64 0, .bool false] 175)) ⟨w.heap.size + 1, 2, none⟩ = false := by simp [go_sem]
  have o3 : World.cell? ((w.alloc (.cells #[.int .i64 ln, .int .i64 ld, .int .i64 hn, .int .i64 hd, .bool e] 175)).alloc (.cells #[.int .i64 0, .int .i64 0, .int .i64 0, .int .i64 0, .bool false] 175)) ⟨w.heap.size + 1, 3, none⟩ = some (.int .i64 0) := by simp [go_sem]
  have fo3 : World.frozen? ((w.alloc (.cells #[.int .i64 ln, .int .i64 ld, .int .i64 hn, .int .i64 hd, .bool e] 175)).alloc (.cells #[.int .i64 0, .int .i64 0, .int .i64 0, .int .i64 0, .bool false] 175)) ⟨w.heap.size + 1, 3, none⟩ = false := by simp [go_sem]
  have o4 : World.cell? ((w.alloc (.cells #[.int .i64 ln, .int .i64 ld, .int .i64 hn, .int .i64 hd, .bool e] 175)).alloc (.cells #[.int .i64 0, .int .i64 0, .int .i64 0, .int .i64 0, .bool false] 175)) ⟨w.heap.size + 1, 4, none⟩ = some (.bool false) := by simp [go_sem]
  have fo4 : World.frozen? ((w.alloc (.cells #[.int .i64 ln, .int .i64 ld, .int .i64 hn, .int .i64 hd, .bool e] 175)).alloc (.cells #[.int .i64 0, .int .i64 0, .int .i64 0, .int .i64 0, .bool false] 175)) ⟨w.heap.size + 1, 4, none⟩ = false := by simp [go_sem]
  have lo : w.heap.size + 1 < ((w.alloc (.cells #[.int .i64 ln, .int .i64 ld, .int .i64 hn, .int .i64 hd, .bool e] 175)).alloc (.cells #[.int .i64 0, .int .i64 0, .int .i64 0, .int .i64 0, .bool false] 175)).heap.size := by simp <;> omega
  have HB := Lib.hid (show Below w.heap.size w ((w.alloc (.cells #[.int .i64 ln, .int .i64 ld, .int .i64 hn, .int .i64 hd, .bool e] 175)).alloc (.cells #[.int .i64 0, .int .i64 0, .int .i64 0, .int .i64 0, .bool false] 175)) from (((Below.refl _ _).alloc (by simp <;> omega) _).alloc (by simp <;> omega) _))
  go_enter Try.func148, Try.ntmps148
  go_upto_region 1 with fail
  generalize (w.alloc (.cells #[.int .i64 ln, .int .i64 ld, .int .i64 hn, .int .i64 hd, .bool e] 175)).alloc (.cells #[.int .i64 0, .int .i64 0, .int .i64 0, .int .i64 0, .bool false] 175) = w1 at *
  go_wp2_with fail
  with_reducible refine (HQ.out _).mono ?_
  rintro e_ w2 ⟨rfl, hb⟩
  replace HB := Lib.hid (on_below HB.out hb)
  replace p0 := keepc hb p0
  replace p1 := keepc hb p1
  replace p2 := keepc hb p2
  replace p3 := keepc hb p3
  replace p4 := keepc hb p4
  replace o0 := keepc hb o0
  replace o1 := keepc hb o1
  replace o2 := keepc hb o2
  replace o3 := keepc hb o3
  replace o4 := keepc hb o4
  replace fp0 := keepf hb lp fp0
  replace fp1 := keepf hb lp fp1
  replace fp2 := keepf hb lp fp2
  replace fp3 := keepf hb lp fp3
  replace fp4 := keepf hb lp fp4
  replace fo0 := keepf hb lo fo0
  replace fo1 := keepf hb lo fo1
  replace fo2 := keepf hb lo fo2
  replace fo3 := keepf hb lo fo3
  replace fo4 := keepf hb lo fo4
  replace lp := Nat.lt_of_lt_of_le lp hb.size
  replace lo := Nat.lt_of_lt_of_le lo hb.size
  clear hb
  go_wp2_with fail
  have q0 : World.cell? (w2.alloc (.cells #[.int .i64 u, .int .i64 v] 39)) ⟨w2.heap.size, 0, none⟩ = some (.int .i64 u) := by simp [go_sem]
  have q1 : World.cell? (w2.alloc (.cells #[.int .i64 u, .int .i64 v] 39)) ⟨w2.heap.size, 1, none⟩ = some (.int .i64 v) := by simp [go_sem]
  have lq : w2.heap.size < (w2.alloc (.cells #[.int .i64 u, .int .i64 v] 39)).heap.size := by simp
  have hb : Below w2.heap.size w2 (w2.alloc (.cells #[.int .i64 u, .int .i64 v] 39)) := below_new _ _
  generalize w2.alloc (.cells #[.int .i64 u, .int .i64 v] 39) = w3 at *
  replace HB := Lib.hid (on_below HB.out hb)
  replace p0 := keepc hb p0
  replace p1 := keepc hb p1
  replace p2 := keepc hb p2
  replace p3 := keepc hb p3
  replace p4 := keepc hb p4
  replace o0 := keepc hb o0
  replace o1 := keepc hb o1
  replace o2 := keepc hb o2
  replace o3 := keepc hb o3
  replace o4 := keepc hb o4
  replace fp0 := keepf hb lp fp0
  replace fp1 := keepf hb lp fp1
  replace fp2 := keepf hb lp fp2
  replace fp3 := keepf hb lp fp3
  replace fp4 := keepf hb lp fp4
  replace fo0 := keepf hb lo fo0
  replace fo1 := keepf hb lo fo1
  replace fo2 := keepf hb lo fo2
  replace fo3 := keepf hb lo fo3
  replace fo4 := keepf hb lo fo4
  replace lp := Nat.lt_of_lt_of_le lp hb.size
  replace lo := Nat.lt_of_lt_of_le lo hb.size
  clear hb
  generalize w2.heap.size = gq at *
  with_reducible refine (HL.out _).mono ?_
  rintro e_ w4 ⟨rfl, hb⟩
  replace HB := Lib.hid (on_below HB.out hb)
  replace p0 := keepc hb p0
  replace p1 := keepc hb p1
  replace p2 := keepc hb p2
  replace p3 := keepc hb p3
  replace p4 := keepc hb p4
  replace o0 := keepc hb o0
  replace o1 := keepc hb o1
  replace o2 := keepc hb o2
  replace o3 := keepc hb o3
  replace o4 := keepc hb o4
  replace q0 := keepc hb q0
  replace q1 := keepc hb q1
  replace fp0 := keepf hb lp fp0
  replace fp1 := keepf hb lp fp1
  replace fp2 := keepf hb lp fp2
  replace fp3 := keepf hb lp fp3
  replace fp4 := keepf hb lp fp4
  replace fo0 := keepf hb lo fo0
  replace fo1 := keepf hb lo fo1
  replace fo2 := keepf hb lo fo2
  replace fo3 := keepf hb lo fo3
  replace fo4 := keepf hb lo fo4
  replace lp := Nat.lt_of_lt_of_le lp hb.size
  replace lo := Nat.lt_of_lt_of_le lo hb.size
  replace lq := Nat.lt_of_lt_of_le lq hb.size
  clear hb
  go_wp2_with fail
  all_goals refine bodyPost_ret (v := .agg #[.int .i64 u, .int .i64 v, .int .i64 hn, .int .i64 hd, .bool e]) (by simp [results, Try.results148, go_sem, o0, o1, o2, o3, o4, p0, p1, p2, p3, p4]) rfl ⟨rfl, ?_⟩
  all_goals (repeat (first | (refine Below.setCell ?_ (by first | exact Nat.le_refl _ | (simp; done) | (simp; omega) | omega) _) | (with_reducible refine on_below ?_ (below_new _ _))))
  all_goals exact HB.out
set_option maxRecDepth 100000 in
set_option maxHeartbeats 2000000 in
theorem nar_pf (ln ld hn hd a b : Int) (e : Bool) (k : Rok 100000000 ⟨ln, ld, hn, hd, e⟩) (ba : -100000000 ≤ a ∧ a ≤ 100000000) (bb : -100000000 ≤ b ∧ b ≤ 100000000) (hb : 0 < b) (u v : Int) (hu : qN (-a) b = u) (hv : qD (-a) b = v) (hc : ¬ (ln * v < u * ld)) (w : World) :
    Calls Try.prog 148 #[.agg #[.int .i64 ln, .int .i64 ld, .int .i64 hn, .int .i64 hd, .bool e], .int .i64 a, .int .i64 b] w fun e_ w' => e_ = .returned (.agg #[.int .i64 ln, .int .i64 ld, .int .i64 hn, .int .i64 hd, .bool e]) ∧ Below w.heap.size w w' := by
  obtain ⟨l1, l2, l3, l4⟩ := k
  simp only at l1 l2 l3 l4
  have hq := q_bd (a := -a) (b := b) (m := 100000000) (by omega) (by omega) (by omega)
  rw [hu, hv] at hq
  have HQ := Lib.hid (fun W => qquo_is (-a) b u v (by omega) (by omega) (by omega) hu hv W)
  have HL := Lib.hid (fun W => qless_is ln ld u v false (decide_eq_false hc) (by omega) (by omega) (by omega) (by omega) W)
  clear hu hv hc l1 l2 l3 l4 hq
  have p0 : World.cell? ((w.alloc (.cells #[.int .i64 ln, .int .i64 ld, .int .i64 hn, .int .i64 hd, .bool e] 175)).alloc (.cells #[.int .i64 0, .int .i64 0, .int .i64 0, .int .i64 0, .bool false] 175)) ⟨w.heap.size, 0, none⟩ = some (.int .i64 ln) := by simp [go_sem]
  have fp0 : World.frozen? ((w.alloc (.cells #[.int .i64 ln, .int .i64 ld, .int .i64 hn, .int .i64 hd, .bool e] 175)).alloc (.cells #[.int .i64 0, .int .i64 0, .int .i64 0, .int .i64 0, .bool false] 175)) ⟨w.heap.size, 0, none⟩ = false := by simp [go_sem]
  have p1 : World.cell? ((w.alloc (.cells #[.int .i64 ln, .int .i64 ld, .int .i64 hn, .int .i64 hd, .bool e] 175)).alloc (.cells #[.int .i64 0, .int .i64 0, .int .i64 0, .int .i64 0, .bool false] 175)) ⟨w.heap.size, 1, none⟩ = some (.int .i64 ld) := by simp [go_sem]
  have fp1 : World.frozen? ((w.alloc (.cells #[.int .i64 ln, .int .i64 ld, .int .i64 hn, .int .i64 hd, .bool e] 175)).alloc (.cells #[.int .i64 0, .int .i64 0, .int .i64 0, .int .i64 0, .bool false] 175)) ⟨w.heap.size, 1, none⟩ = false := by simp [go_sem]
  have p2 : World.cell? ((w.alloc (.cells #[.int .i64 ln, .int .i64 ld, .int .i64 hn, .int .i64 hd, .bool e] 175)).alloc (.cells #[.int .i64 0, .int .i64 0, .int .i64 0, .int .i64 0, .bool false] 175)) ⟨w.heap.size, 2, none⟩ = some (.int .i64 hn) := by simp [go_sem]
  have fp2 : World.frozen? ((w.alloc (.cells #[.int .i64 ln, .int .i64 ld, .int .i64 hn, .int .i64 hd, .bool e] 175)).alloc (.cells #[.int .i64 0, .int .i64 0, .int .i64 0, .int .i64 0, .bool false] 175)) ⟨w.heap.size, 2, none⟩ = false := by simp [go_sem]
  have p3 : World.cell? ((w.alloc (.cells #[.int .i64 ln, .int .i64 ld, .int .i64 hn, .int .i64 hd, .bool e] 175)).alloc (.cells #[.int .i64 0, .int .i64 0, .int .i64 0, .int .i64 0, .bool false] 175)) ⟨w.heap.size, 3, none⟩ = some (.int .i64 hd) := by simp [go_sem]
  have fp3 : World.frozen? ((w.alloc (.cells #[.int .i64 ln, .int .i64 ld, .int .i64 hn, .int .i64 hd, .bool e] 175)).alloc (.cells #[.int .i64 0, .int .i64 0, .int .i64 0, .int .i64 0, .bool false] 175)) ⟨w.heap.size, 3, none⟩ = false := by simp [go_sem]
  have p4 : World.cell? ((w.alloc (.cells #[.int .i64 ln, .int .i64 ld, .int .i64 hn, .int .i64 hd, .bool e] 175)).alloc (.cells #[.int .i64 0, .int .i64 0, .int .i64 0, .int .i64 0, .bool false] 175)) ⟨w.heap.size, 4, none⟩ = some (.bool e) := by simp [go_sem]
  have fp4 : World.frozen? ((w.alloc (.cells #[.int .i64 ln, .int .i64 ld, .int .i64 hn, .int .i64 hd, .bool e] 175)).alloc (.cells #[.int .i64 0, .int .i64 0, .int .i64 0, .int .i64 0, .bool false] 175)) ⟨w.heap.size, 4, none⟩ = false := by simp [go_sem]
  have lp : w.heap.size < ((w.alloc (.cells #[.int .i64 ln, .int .i64 ld, .int .i64 hn, .int .i64 hd, .bool e] 175)).alloc (.cells #[.int .i64 0, .int .i64 0, .int .i64 0, .int .i64 0, .bool false] 175)).heap.size := by simp <;> omega
  have o0 : World.cell? ((w.alloc (.cells #[.int .i64 ln, .int .i64 ld, .int .i64 hn, .int .i64 hd, .bool e] 175)).alloc (.cells #[.int .i64 0, .int .i64 0, .int .i64 0, .int .i64 0, .bool false] 175)) ⟨w.heap.size + 1, 0, none⟩ = some (.int .i64 0) := by simp [go_sem]
  have fo0 : World.frozen? ((w.alloc (.cells #[.int .i64 ln, .int .i64 ld, .int .i64 hn, .int .i64 hd, .bool e] 175)).alloc (.cells #[.int .i64 0, .int .i64 0, .int .i64 0, .int .i64 0, .bool false] 175)) ⟨w.heap.size + 1, 0, none⟩ = false := by simp [go_sem]
  have o1 : World.cell? ((w.alloc (.cells #[.int .i64 ln, .int .i64 ld, .int .i64 hn, .int .i64 hd, .bool e] 175)).alloc (.cells #[.int .i64 0, .int .i64 0, .int .i64 0, .int .i64 0, .bool false] 175)) ⟨w.heap.size + 1, 1, none⟩ = some (.int .i64 0) := by simp [go_sem]
  have fo1 : World.frozen? ((w.alloc (.cells #[.int .i64 ln, .int .i64 ld, .int .i64 hn, .int .i64 hd, .bool e] 175)).alloc (.cells #[.int .i64 0, .int .i64 0, .int .i64 0, .int .i64 0, .bool false] 175)) ⟨w.heap.size + 1, 1, none⟩ = false := by simp [go_sem]
  have o2 : World.cell? ((w.alloc (.cells #[.int .i64 ln, .int .i64 ld, .int .i64 hn, .int .i64 hd, .bool e] 175)).alloc (.cells #[.int .i64 0, .int .i64 0, .int .i64 0, .int .i64 0, .bool false] 175)) ⟨w.heap.size + 1, 2, none⟩ = some (.int .i64 0) := by simp [go_sem]
  have fo2 : World.frozen? ((w.alloc (.cells #[.int .i64 ln, .int .i64 ld, .int .i64 hn, .int .i64 hd, .bool e] 175)).alloc (.cells #[.int .i64 0, .int .i64 0, .int .i64 0, .int .i64 0, .bool false] 175)) ⟨w.heap.size + 1, 2, none⟩ = false := by simp [go_sem]
  have o3 : World.cell? ((w.alloc (.cells #[.int .i64 ln, .int .i64 ld, .int .i64 hn, .int .i64 hd, .bool e] 175)).alloc (.cells #[.int .i64 0, .int .i64 0, .int .i64 0, .int .i64 0, .bool false] 175)) ⟨w.heap.size + 1, 3, none⟩ = some (.int .i64 0) := by simp [go_sem]
  have fo3 : World.frozen? ((w.alloc (.cells #[.int .i64 ln, .int .i64 ld, .int .i64 hn, .int .i64 hd, .bool e] 175)).alloc (.cells #[.int .i64 0, .int .i64 0, .int .i64 0, .int .i64 0, .bool false] 175)) ⟨w.heap.size + 1, 3, none⟩ = false := by simp [go_sem]
  have o4 : World.cell? ((w.alloc (.cells #[.int .i64 ln, .int .i64 ld, .int .i64 hn, .int .i64 hd, .bool e] 175)).alloc (.cells #[.int .i64 0, .int .i64 0, .int .i64 0, .int .i64 0, .bool false] 175)) ⟨w.heap.size + 1, 4, none⟩ = some (.bool false) := by simp [go_sem]
  have fo4 : World.frozen? ((w.alloc (.cells #[.int .i64 ln, .int .i64 ld, .int .i64 hn, .int .i64 hd, .bool e] 175)).alloc (.cells #[.int .i64 0, .int .i64 0, .int .i64 0, .int .i64 0, .bool false] 175)) ⟨w.heap.size + 1, 4, none⟩ = false := by simp [go_sem]
  have lo : w.heap.size + 1 < ((w.alloc (.cells #[.int .i64 ln, .int .i64 ld, .int .i64 hn, .int .i64 hd, .bool e] 175)).alloc (.cells #[.int .i64 0, .int .i64 0, .int .i64 0, .int .i64 0, .bool false] 175)).heap.size := by simp <;> omega
  have HB := Lib.hid (show Below w.heap.size w ((w.alloc (.cells #[.int .i64 ln, .int .i64 ld, .int .i64 hn, .int .i64 hd, .bool e] 175)).alloc (.cells #[.int .i64 0, .int .i64 0, .int .i64 0, .int .i64 0, .bool false] 175)) from (((Below.refl _ _).alloc (by simp <;> omega) _).alloc (by simp <;> omega) _))
  go_enter Try.func148, Try.ntmps148
  go_upto_region 1 with fail
  generalize (w.alloc (.cells #[.int .i64 ln, .int .i64 ld, .int .i64 hn, .int .i64 hd, .bool e] 175)).alloc (.cells #[.int .i64 0, .int .i64 0, .int .i64 0, .int .i64 0, .bool false] 175) = w1 at *
  go_wp2_with fail
  with_reducible refine (HQ.out _).mono ?_
  rintro e_ w2 ⟨rfl, hb⟩
  replace HB := Lib.hid (on_below HB.out hb)
  replace p0 := keepc hb p0
  replace p1 := keepc hb p1
  replace p2 := keepc hb p2
  replace p3 := keepc hb p3
  replace p4 := keepc hb p4
  replace o0 := keepc hb o0
  replace o1 := keepc hb o1
  replace o2 := keepc hb o2
  replace o3 := keepc hb o3
  replace o4 := keepc hb o4
  replace fp0 := keepf hb lp fp0
  replace fp1 := keepf hb lp fp1
  replace fp2 := keepf hb lp fp2
  replace fp3 := keepf hb lp fp3
  replace fp4 := keepf hb lp fp4
  replace fo0 := keepf hb lo fo0
  replace fo1 := keepf hb lo fo1
  replace fo2 := keepf hb lo fo2
  replace fo3 := keepf hb lo fo3
  replace fo4 := keepf hb lo fo4
  replace lp := Nat.lt_of_lt_of_le lp hb.size
  replace lo := Nat.lt_of_lt_of_le lo hb.size
  clear hb
  go_wp2_with fail
  have q0 : World.cell? (w2.alloc (.cells #[.int .i64 u, .int .i64 v] 39)) ⟨w2.heap.size, 0, none⟩ = some (.int .i64 u) := by simp [go_sem]
  have q1 : World.cell? (w2.alloc (.cells #[.int .i64 u, .int .i64 v] 39)) ⟨w2.heap.size, 1, none⟩ = some (.int .i64 v) := by simp [go_sem]
  have lq : w2.heap.size < (w2.alloc (.cells #[.int .i64 u, .int .i64 v] 39)).heap.size := by simp
  have hb : Below w2.heap.size w2 (w2.alloc (.cells #[.int .i64 u, .int .i64 v] 39)) := below_new _ _
  generalize w2.alloc (.cells #[.int .i64 u, .int .i64 v] 39) = w3 at *
  replace HB := Lib.hid (on_below HB.out hb)
  replace p0 := keepc hb p0
  replace p1 := keepc hb p1
  replace p2 := keepc hb p2
  replace p3 := keepc hb p3
  replace p4 := keepc hb p4
  replace o0 := keepc hb o0
  replace o1 := keepc hb o1
  replace o2 := keepc hb o2
  replace o3 := keepc hb o3
  replace o4 := keepc hb o4
  replace fp0 := keepf hb lp fp0
  replace fp1 := keepf hb lp fp1
  replace fp2 := keepf hb lp fp2
  replace fp3 := keepf hb lp fp3
  replace fp4 := keepf hb lp fp4
  replace fo0 := keepf hb lo fo0
  replace fo1 := keepf hb lo fo1
  replace fo2 := keepf hb lo fo2
  replace fo3 := keepf hb lo fo3
  replace fo4 := keepf hb lo fo4
  replace lp := Nat.lt_of_lt_of_le lp hb.size
  replace lo := Nat.lt_of_lt_of_le lo hb.size
  clear hb
  generalize w2.heap.size = gq at *
  with_reducible refine (HL.out _).mono ?_
  rintro e_ w4 ⟨rfl, hb⟩
  replace HB := Lib.hid (on_below HB.out hb)
  replace p0 := keepc hb p0
  replace p1 := keepc hb p1
  replace p2 := keepc hb p2
  replace p3 := keepc hb p3
  replace p4 := keepc hb p4
  replace o0 := keepc hb o0
  replace o1 := keepc hb o1
  replace o2 := keepc hb o2
  replace o3 := keepc hb o3
  replace o4 := keepc hb o4
  replace q0 := keepc hb q0
  replace q1 := keepc hb q1
  replace fp0 := keepf hb lp fp0
  replace fp1 := keepf hb lp fp1
  replace fp2 := keepf hb lp fp2
  replace fp3 := keepf hb lp fp3
  replace fp4 := keepf hb lp fp4
  replace fo0 := keepf hb lo fo0
  replace fo1 := keepf hb lo fo1
  replace fo2 := keepf hb lo fo2
  replace fo3 := keepf hb lo fo3
  replace fo4 := keepf hb lo fo4
  replace lp := Nat.lt_of_lt_of_le lp hb.size
  replace lo := Nat.lt_of_lt_of_le lo hb.size
  replace lq := Nat.lt_of_lt_of_le lq hb.size
  clear hb
  go_wp2_with fail
  all_goals refine bodyPost_ret (v := .agg #[.int .i64 ln, .int .i64 ld, .int .i64 hn, .int .i64 hd, .bool e]) (by simp [results, Try.results148, go_sem, o0, o1, o2, o3, o4, p0, p1, p2, p3, p4]) rfl ⟨rfl, ?_⟩
  all_goals (repeat (first | (refine Below.setCell ?_ (by first | exact Nat.le_refl _ | (simp; done) | (simp; omega) | omega) _) | (with_reducible refine on_below ?_ (below_new _ _))))
  all_goals exact HB.out
set_option maxRecDepth 100000 in
set_option maxHeartbeats 2000000 in
theorem nar_nt (ln ld hn hd a b : Int) (e : Bool) (k : Rok 100000000 ⟨ln, ld, hn, hd, e⟩) (ba : -100000000 ≤ a ∧ a ≤ 100000000) (bb : -100000000 ≤ b ∧ b ≤ 100000000) (hb : b < 0) (u v : Int) (hu : qN a (-b) = u) (hv : qD a (-b) = v) (hc : (u * hd < hn * v)) (w : World) :
    Calls Try.prog 148 #[.agg #[.int .i64 ln, .int .i64 ld, .int .i64 hn, .int .i64 hd, .bool e], .int .i64 a, .int .i64 b] w fun e_ w' => e_ = .returned (.agg #[.int .i64 ln, .int .i64 ld, .int .i64 u, .int .i64 v, .bool e]) ∧ Below w.heap.size w w' := by
  obtain ⟨l1, l2, l3, l4⟩ := k
  simp only at l1 l2 l3 l4
  have hq := q_bd (a := a) (b := -b) (m := 100000000) (by omega) (by omega) (by omega)
  rw [hu, hv] at hq
  have HQ := Lib.hid (fun W => qquo_is a (-b) u v (by omega) (by omega) (by omega) hu hv W)
  have HL := Lib.hid (fun W => qless_is u v hn hd true (decide_eq_true hc) (by omega) (by omega) (by omega) (by omega) W)
  clear hu hv hc l1 l2 l3 l4 hq
  have p0 : World.cell? ((w.alloc (.cells #[.int .i64 ln, .int .i64 ld, .int .i64 hn, .int .i64 hd, .bool e] 175)).alloc (.cells #[.int .i64 0, .int .i64 0, .int .i64 0, .int .i64 0, .bool false] 175)) ⟨w.heap.size, 0, none⟩ = some (.int .i64 ln) := by simp [go_sem]
  have fp0 : World.frozen? ((w.alloc (.cells #[.int .i64 ln, .int .i64 ld, .int .i64 hn, .int .i64 hd, .bool e] 175)).alloc (.cells #[.int .i64 0, .int .i64 0, .int .i64 0, .int .i64 0, .bool false] 175)) ⟨w.heap.size, 0, none⟩ = false := by simp [go_sem]
  have p1 : World.cell? ((w.alloc (.cells #[.int .i64 ln, .int .i64 ld, .int .i64 hn, .int .i64 hd, .bool e] 175)).alloc (.cells #[.int .i64 0, .int .i64 0, .int .i64 0, .int .i64 0, .bool false] 175)) ⟨w.heap.size, 1, none⟩ = some (.int .i64 ld) := by simp [go_sem]
  have fp1 : World.frozen? ((w.alloc (.cells #[.int .i64 ln, .int .i64 ld, .int .i64 hn, .int .i64 hd, .bool e] 175)).alloc (.cells #[.int .i64 0, .int .i64 0, .int .i64 0, .int .i64 0, .bool false] 175)) ⟨w.heap.size, 1, none⟩ = false := by simp [go_sem]
  have p2 : World.cell? ((w.alloc (.cells #[.int .i64 ln, .int .i64 ld, .int .i64 hn, .int .i64 hd, .bool e] 175)).alloc (.cells #[.int .i64 0, .int .i64 0, .int .i64 0, .int .i64 0, .bool false] 175)) ⟨w.heap.size, 2, none⟩ = some (.int .i64 hn) := by simp [go_sem]
  have fp2 : World.frozen? ((w.alloc (.cells #[.int .i64 ln, .int .i64 ld, .int .i64 hn, .int .i64 hd, .bool e] 175)).alloc (.cells #[.int .i64 0, .int .i64 0, .int .i64 0, .int .i64 0, .bool false] 175)) ⟨w.heap.size, 2, none⟩ = false := by simp [go_sem]
  have p3 : World.cell? ((w.alloc (.cells #[.int .i64 ln, .int .i64 ld, .int .i64 hn, .int .i64 hd, .bool e] 175)).alloc (.cells #[.int .i64 0, .int .i64 0, .int .i64 0, .int .i64 0, .bool false] 175)) ⟨w.heap.size, 3, none⟩ = some (.int .i64 hd) := by simp [go_sem]
  have fp3 : World.frozen? ((w.alloc (.cells #[.int .i64 ln, .int .i64 ld, .int .i64 hn, .int .i64 hd, .bool e] 175)).alloc (.cells #[.int .i64 0, .int .i64 0, .int .i64 0, .int .i64 0, .bool false] 175)) ⟨w.heap.size, 3, none⟩ = false := by simp [go_sem]
  have p4 : World.cell? ((w.alloc (.cells #[.int .i64 ln, .int .i64 ld, .int .i64 hn, .int .i64 hd, .bool e] 175)).alloc (.cells #[.int .i64 0, .int .i64 0, .int .i64 0, .int .i64 0, .bool false] 175)) ⟨w.heap.size, 4, none⟩ = some (.bool e) := by simp [go_sem]
  have fp4 : World.frozen? ((w.alloc (.cells #[.int .i64 ln, .int .i64 ld, .int .i64 hn, .int .i64 hd, .bool e] 175)).alloc (.cells #[.int .i64 0, .int .i64 0, .int .i64 0, .int .i64 0, .bool false] 175)) ⟨w.heap.size, 4, none⟩ = false := by simp [go_sem]
  have lp : w.heap.size < ((w.alloc (.cells #[.int .i64 ln, .int .i64 ld, .int .i64 hn, .int .i64 hd, .bool e] 175)).alloc (.cells #[.int .i64 0, .int .i64 0, .int .i64 0, .int .i64 0, .bool false] 175)).heap.size := by simp <;> omega
  have o0 : World.cell? ((w.alloc (.cells #[.int .i64 ln, .int .i64 ld, .int .i64 hn, .int .i64 hd, .bool e] 175)).alloc (.cells #[.int .i64 0, .int .i64 0, .int .i64 0, .int .i64 0, .bool false] 175)) ⟨w.heap.size + 1, 0, none⟩ = some (.int .i64 0) := by simp [go_sem]
  have fo0 : World.frozen? ((w.alloc (.cells #[.int .i64 ln, .int .i64 ld, .int .i64 hn, .int .i64 hd, .bool e] 175)).alloc (.cells #[.int .i64 0, .int .i64 0, .int .i64 0, .int .i64 0, .bool false] 175)) ⟨w.heap.size + 1, 0, none⟩ = false := by simp [go_sem]
  have o1 : World.cell? ((w.alloc (.cells #[.int .i64 ln, .int .i64 ld, .int .i64 hn, .int .i64 hd, .bool e] 175)).alloc (.cells #[.int .i64 0, .int .i64 0, .int .i64 0, .int .i64 0, .bool false] 175)) ⟨w.heap.size + 1, 1, none⟩ = some (.int .i64 0) := by simp [go_sem]
  have fo1 : World.frozen? ((w.alloc (.cells #[.int .i64 ln, .int .i64 ld, .int .i64 hn, .int .i64 hd, .bool e] 175)).alloc (.cells #[.int .i64 0, .int .i64 0, .int .i64 0, .int .i64 0, .bool false] 175)) ⟨w.heap.size + 1, 1, none⟩ = false := by simp [go_sem]
  have o2 : World.cell? ((w.alloc (.cells #[.int .i64 ln, .int .i64 ld, .int .i64 hn, .int .i64 hd, .bool e] 175)).alloc (.cells #[.int .i64 0, .int .i64 0, .int .i64 0, .int .i64 0, .bool false] 175)) ⟨w.heap.size + 1, 2, none⟩ = some (.int .i64 0) := by simp [go_sem]
  have fo2 : World.frozen? ((w.alloc (.cells #[.int .i64 ln, .int .i64 ld, .int .i64 hn, .int .i64 hd, .bool e] 175)).alloc (.cells #[.int .i64 0, .int .i64 0, .int .i64 0, .int .i64 0, .bool false] 175)) ⟨w.heap.size + 1, 2, none⟩ = false := by simp [go_sem]
  have o3 : World.cell? ((w.alloc (.cells #[.int .i64 ln, .int .i64 ld, .int .i64 hn, .int .i64 hd, .bool e] 175)).alloc (.cells #[.int .i64 0, .int .i64 0, .int .i64 0, .int .i64 0, .bool false] 175)) ⟨w.heap.size + 1, 3, none⟩ = some (.int .i64 0) := by simp [go_sem]
  have fo3 : World.frozen? ((w.alloc (.cells #[.int .i64 ln, .int .i64 ld, .int .i64 hn, .int .i64 hd, .bool e] 175)).alloc (.cells #[.int .i64 0, .int .i64 0, .int .i64 0, .int .i64 0, .bool false] 175)) ⟨w.heap.size + 1, 3, none⟩ = false := by simp [go_sem]
  have o4 : World.cell? ((w.alloc (.cells #[.int .i64 ln, .int .i64 ld, .int .i64 hn, .int .i64 hd, .bool e] 175)).alloc (.cells #[.int .i64 0, .int .i64 0, .int .i64 0, .int .i64 0, .bool false] 175)) ⟨w.heap.size + 1, 4, none⟩ = some (.bool false) := by simp [go_sem]
  have fo4 : World.frozen? ((w.alloc (.cells #[.int .i64 ln, .int .i64 ld, .int .i64 hn, .int .i64 hd, .bool e] 175)).alloc (.cells #[.int .i64 0, .int .i64 0, .int .i64 0, .int .i64 0, .bool false] 175)) ⟨w.heap.size + 1, 4, none⟩ = false := by simp [go_sem]
  have lo : w.heap.size + 1 < ((w.alloc (.cells #[.int .i64 ln, .int .i64 ld, .int .i64 hn, .int .i64 hd, .bool e] 175)).alloc (.cells #[.int .i64 0, .int .i64 0, .int .i64 0, .int .i64 0, .bool false] 175)).heap.size := by simp <;> omega
  have HB := Lib.hid (show Below w.heap.size w ((w.alloc (.cells #[.int .i64 ln, .int .i64 ld, .int .i64 hn, .int .i64 hd, .bool e] 175)).alloc (.cells #[.int .i64 0, .int .i64 0, .int .i64 0, .int .i64 0, .bool false] 175)) from (((Below.refl _ _).alloc (by simp <;> omega) _).alloc (by simp <;> omega) _))
  go_enter Try.func148, Try.ntmps148
  go_upto_region 1 with fail
  generalize (w.alloc (.cells #[.int .i64 ln, .int .i64 ld, .int .i64 hn, .int .i64 hd, .bool e] 175)).alloc (.cells #[.int .i64 0, .int .i64 0, .int .i64 0, .int .i64 0, .bool false] 175) = w1 at *
  go_wp2_with fail
  with_reducible refine (HQ.out _).mono ?_
  rintro e_ w2 ⟨rfl, hb⟩
  replace HB := Lib.hid (on_below HB.out hb)
  replace p0 := keepc hb p0
  replace p1 := keepc hb p1
  replace p2 := keepc hb p2
  replace p3 := keepc hb p3
  replace p4 := keepc hb p4
  replace o0 := keepc hb o0
  replace o1 := keepc hb o1
  replace o2 := keepc hb o2
  replace o3 := keepc hb o3
  replace o4 := keepc hb o4
  replace fp0 := keepf hb lp fp0
  replace fp1 := keepf hb lp fp1
  replace fp2 := keepf hb lp fp2
  replace fp3 := keepf hb lp fp3
  replace fp4 := keepf hb lp fp4
  replace fo0 := keepf hb lo fo0
  replace fo1 := keepf hb lo fo1
  replace fo2 := keepf hb lo fo2
  replace fo3 := keepf hb lo fo3
  replace fo4 := keepf hb lo fo4
  replace lp := Nat.lt_of_lt_of_le lp hb.size
  replace lo := Nat.lt_of_lt_of_le lo hb.size
  clear hb
  go_wp2_with fail
  have q0 : World.cell? (w2.alloc (.cells #[.int .i64 u, .int .i64 v] 39)) ⟨w2.heap.size, 0, none⟩ = some (.int .i64 u) := by simp [go_sem]
  have q1 : World.cell? (w2.alloc (.cells #[.int .i64 u, .int .i64 v] 39)) ⟨w2.heap.size, 1, none⟩ = some (.int .i64 v) := by simp [go_sem]
  have lq : w2.heap.size < (w2.alloc (.cells #[.int .i64 u, .int .i64 v] 39)).heap.size := by simp
  have hb : Below w2.heap.size w2 (w2.alloc (.cells #[.int .i64 u, .int .i64 v] 39)) := below_new _ _
  generalize w2.alloc (.cells #[.int .i64 u, .int .i64 v] 39) = w3 at *
  replace HB := Lib.hid (on_below HB.out hb)
  replace p0 := keepc hb p0
  replace p1 := keepc hb p1
  replace p2 := keepc hb p2
  replace p3 := keepc hb p3
  replace p4 := keepc hb p4
  replace o0 := keepc hb o0
  replace o1 := keepc hb o1
  replace o2 := keepc hb o2
  replace o3 := keepc hb o3
  replace o4 := keepc hb o4
  replace fp0 := keepf hb lp fp0
  replace fp1 := keepf hb lp fp1
  replace fp2 := keepf hb lp fp2
  replace fp3 := keepf hb lp fp3
  replace fp4 := keepf hb lp fp4
  replace fo0 := keepf hb lo fo0
  replace fo1 := keepf hb lo fo1
  replace fo2 := keepf hb lo fo2
  replace fo3 := keepf hb lo fo3
  replace fo4 := keepf hb lo fo4
  replace lp := Nat.lt_of_lt_of_le lp hb.size
  replace lo := Nat.lt_of_lt_of_le lo hb.size
  clear hb
  generalize w2.heap.size = gq at *
  with_reducible refine (HL.out _).mono ?_
  rintro e_ w4 ⟨rfl, hb⟩
  replace HB := Lib.hid (on_below HB.out hb)
  replace p0 := keepc hb p0
  replace p1 := keepc hb p1
  replace p2 := keepc hb p2
  replace p3 := keepc hb p3
  replace p4 := keepc hb p4
  replace o0 := keepc hb o0
  replace o1 := keepc hb o1
  replace o2 := keepc hb o2
  replace o3 := keepc hb o3
  replace o4 := keepc hb o4
  replace q0 := keepc hb q0
  replace q1 := keepc hb q1
  replace fp0 := keepf hb lp fp0
  replace fp1 := keepf hb lp fp1
  replace fp2 := keepf hb lp fp2
  replace fp3 := keepf hb lp fp3
  replace fp4 := keepf hb lp fp4
  replace fo0 := keepf hb lo fo0
  replace fo1 := keepf hb lo fo1
  replace fo2 := keepf hb lo fo2
  replace fo3 := keepf hb lo fo3
  replace fo4 := keepf hb lo fo4
  replace lp := Nat.lt_of_lt_of_le lp hb.size
  replace lo := Nat.lt_of_lt_of_le lo hb.size
  replace lq := Nat.lt_of_lt_of_le lq hb.size
  clear hb
  go_wp2_with fail
  all_goals refine bodyPost_ret (v := .agg #[.int .i64 ln, .int .i64 ld, .int .i64 u, .int .i64 v, .bool e]) (by simp [results, Try.results148, go_sem, o0, o1, o2, o3, o4, p0, p1, p2, p3, p4]) rfl ⟨rfl, ?_⟩
  all_goals (repeat (first | (refine Below.setCell ?_ (by first | exact Nat.le_refl _ | (simp; done) | (simp; omega) | omega) _) | (with_reducible refine on_below ?_ (below_new _ _))))
  all_goals exact HB.out
set_option maxRecDepth 100000 in
set_option maxHeartbeats 2000000 in
theorem nar_nf (ln ld hn hd a b : Int) (e : Bool) (k : Rok 100000000 ⟨ln, ld, hn, hd, e⟩) (ba : -100000000 ≤ a ∧ a ≤ 100000000) (bb : -100000000 ≤ b ∧ b ≤ 100000000) (hb : b < 0) (u v : Int) (hu : qN a (-b) = u) (hv : qD a (-b) = v) (hc : ¬ (u * hd < hn * v)) (w : World) :
    Calls Try.prog 148 #[.agg #[.int .i64 ln, .int .i64 ld, .int .i64 hn, .int .i64 hd, .bool e], .int .i64 a, .int .i64 b] w fun e_ w' => e_ = .returned (.agg #[.int .i64 ln, .int .i64 ld, .int .i64 hn, .int .i64 hd, .bool e]) ∧ Below w.heap.size w w' := by
  obtain ⟨l1, l2, l3, l4⟩ := k
  simp only at l1 l2 l3 l4
  have hq := q_bd (a := a) (b := -b) (m := 100000000) (by omega) (by omega) (by omega)
  rw [hu, hv] at hq
  have HQ := Lib.hid (fun W => qquo_is a (-b) u v (by omega) (by omega) (by omega) hu hv W)
  have HL := Lib.hid (fun W => qless_is u v hn hd false (decide_eq_false hc) (by omega) (by omega) (by omega) (by omega) W)
  clear hu hv hc l1 l2 l3 l4 hq
  have p0 : World.cell? ((w.alloc (.cells #[.int .i64 ln, .int .i64 ld, .int .i64 hn, .int .i64 hd, .bool e] 175)).alloc (.cells #[.int .i64 0, .int .i64 0, .int .i64 0, .int .i64 0, .bool false] 175)) ⟨w.heap.size, 0, none⟩ = some (.int .i64 ln) := by simp [go_sem]
  have fp0 : World.frozen? ((w.alloc (.cells #[.int .i64 ln, .int .i64 ld, .int .i64 hn, .int .i64 hd, .bool e] 175)).alloc (.cells #[.int .i64 0, .int .i64 0, .int .i64 0, .int .i64 0, .bool false] 175)) ⟨w.heap.size, 0, none⟩ = false := by simp [go_sem]
  have p1 : World.cell? ((w.alloc (.cells #[.int .i64 ln, .int .i64 ld, .int .i64 hn, .int .i64 hd, .bool e] 175)).alloc (.cells #[.int .i64 0, .int .i64 0, .int .i64 0, .int .i64 0, .bool false] 175)) ⟨w.heap.size, 1, none⟩ = some (.int .i64 ld) := by simp [go_sem]
  have fp1 : World.frozen? ((w.alloc (.cells #[.int .i64 ln, .int .i64 ld, .int .i64 hn, .int .i64 hd, .bool e] 175)).alloc (.cells #[.int .i64 0, .int .i64 0, .int .i64 0, .int .i64 0, .bool false] 175)) ⟨w.heap.size, 1, none⟩ = false := by simp [go_sem]
  have p2 : World.cell? ((w.alloc (.cells #[.int .i64 ln, .int .i64 ld, .int .i64 hn, .int .i64 hd, .bool e] 175)).alloc (.cells #[.int .i64 0, .int .i64 0, .int .i64 0, .int .i64 0, .bool false] 175)) ⟨w.heap.size, 2, none⟩ = some (.int .i64 hn) := by simp [go_sem]
  have fp2 : World.frozen? ((w.alloc (.cells #[.int .i64 ln, .int .i64 ld, .int .i64 hn, .int .i64 hd, .bool e] 175)).alloc (.cells #[.int .i64 0, .int .i64 0, .int .i64 0, .int .i64 0, .bool false] 175)) ⟨w.heap.size, 2, none⟩ = false := by simp [go_sem]
  have p3 : World.cell? ((w.alloc (.cells #[.int .i64 ln, .int .i64 ld, .int .i64 hn, .int .i64 hd, .bool e] 175)).alloc (.cells #[.int .i64 0, .int .i64 0, .int .i64 0, .int .i64 0, .bool false] 175)) ⟨w.heap.size, 3, none⟩ = some (.int .i64 hd) := by simp [go_sem]
  have fp3 : World.frozen? ((w.alloc (.cells #[.int .i64 ln, .int .i64 ld, .int .i64 hn, .int .i64 hd, .bool e] 175)).alloc (.cells #[.int .i64 0, .int .i64 0, .int .i64 0, .int .i64 0, .bool false] 175)) ⟨w.heap.size, 3, none⟩ = false := by simp [go_sem]
  have p4 : World.cell? ((w.alloc (.cells #[.int .i64 ln, .int .i64 ld, .int .i64 hn, .int .i64 hd, .bool e] 175)).alloc (.cells #[.int .i64 0, .int .i64 0, .int .i64 0, .int .i64 0, .bool false] 175)) ⟨w.heap.size, 4, none⟩ = some (.bool e) := by simp [go_sem]
  have fp4 : World.frozen? ((w.alloc (.cells #[.int .i64 ln, .int .i64 ld, .int .i64 hn, .int .i64 hd, .bool e] 175)).alloc (.cells #[.int .i64 0, .int .i64 0, .int .i64 0, .int .i64 0, .bool false] 175)) ⟨w.heap.size, 4, none⟩ = false := by simp [go_sem]
  have lp : w.heap.size < ((w.alloc (.cells #[.int .i64 ln, .int .i64 ld, .int .i64 hn, .int .i64 hd, .bool e] 175)).alloc (.cells #[.int .i64 0, .int .i64 0, .int .i64 0, .int .i64 0, .bool false] 175)).heap.size := by simp <;> omega
  have o0 : World.cell? ((w.alloc (.cells #[.int .i64 ln, .int .i64 ld, .int .i64 hn, .int .i64 hd, .bool e] 175)).alloc (.cells #[.int .i64 0, .int .i64 0, .int .i64 0, .int .i64 0, .bool false] 175)) ⟨w.heap.size + 1, 0, none⟩ = some (.int .i64 0) := by simp [go_sem]
  have fo0 : World.frozen? ((w.alloc (.cells #[.int .i64 ln, .int .i64 ld, .int .i64 hn, .int .i64 hd, .bool e] 175)).alloc (.cells #[.int .i64 0, .int .i64 0, .int .i64 0, .int .i64 0, .bool false] 175)) ⟨w.heap.size + 1, 0, none⟩ = false := by simp [go_sem]
  have o1 : World.cell? ((w.alloc (.cells #[.int .i64 ln, .int .i64 ld, .int .i64 hn, .int .i64 hd, .bool e] 175)).alloc (.cells #[.int .i64 0, .int .i64 0, .int .i64 0, .int .i64 0, .bool false] 175)) ⟨w.heap.size + 1, 1, none⟩ = some (.int .i64 0) := by simp [go_sem]
  have fo1 : World.frozen? ((w.alloc (.cells #[.int .i64 ln, .int .i64 ld, .int .i64 hn, .int .i64 hd, .bool e] 175)).alloc (.cells #[.int .i64 0, .int .i64 0, .int .i64 0, .int .i64 0, .bool false] 175)) ⟨w.heap.size + 1, 1, none⟩ = false := by simp [go_sem]
  have o2 : World.cell? ((w.alloc (.cells #[.int .i64 ln, .int .i64 ld, .int .i64 hn, .int .i64 hd, .bool e] 175)).alloc (.cells #[.int .i64 0, .int .i64 0, .int .i64 0, .int .i64 0, .bool false] 175)) ⟨w.heap.size + 1, 2, none⟩ = some (.int .i64 0) := by simp [go_sem]
  have fo2 : World.frozen? ((w.alloc (.cells #[.int .i64 ln, .int .i64 ld, .int .i64 hn, .int .i64 hd, .bool e] 175)).alloc (.cells #[.int .i64 0, .int .i64 0, .int .i64 0, .int .i64 0, .bool false] 175)) ⟨w.heap.size + 1, 2, none⟩ = false := by simp [go_sem]
  have o3 : World.cell? ((w.alloc (.cells #[.int .i64 ln, .int .i64 ld, .int .i64 hn, .int .i64 hd, .bool e] 175)).alloc (.cells #[.int .i64 0, .int .i64 0, .int .i64 0, .int .i64 0, .bool false] 175)) ⟨w.heap.size + 1, 3, none⟩ = some (.int .i64 0) := by simp [go_sem]
  have fo3 : World.frozen? ((w.alloc (.cells #[.int .i64 ln, .int .i64 ld, .int .i64 hn, .int .i64 hd, .bool e] 175)).alloc (.cells #[.int .i64 0, .int .i64 0, .int .i64 0, .int .i64 0, .bool false] 175)) ⟨w.heap.size + 1, 3, none⟩ = false := by simp [go_sem]
  have o4 : World.cell? ((w.alloc (.cells #[.int .i64 ln, .int .i64 ld, .int .i64 hn, .int .i64 hd, .bool e] 175)).alloc (.cells #[.int .i64 0, .int .i64 0, .int .i64 0, .int .i64 0, .bool false] 175)) ⟨w.heap.size + 1, 4, none⟩ = some (.bool false) := by simp [go_sem]
  have fo4 : World.frozen? ((w.alloc (.cells #[.int .i64 ln, .int .i64 ld, .int .i64 hn, .int .i64 hd, .bool e] 175)).alloc (.cells #[.int .i64 0, .int .i64 0, .int .i64 0, .int .i64 0, .bool false] 175)) ⟨w.heap.size + 1, 4, none⟩ = false := by simp [go_sem]
  have lo : w.heap.size + 1 < ((w.alloc (.cells #[.int .i64 ln, .int .i64 ld, .int .i64 hn, .int .i64 hd, .bool e] 175)).alloc (.cells #[.int .i64 0, .int .i64 0, .int .i64 0, .int .i64 0, .bool false] 175)).heap.size := by simp <;> omega
  have HB := Lib.hid (show Below w.heap.size w ((w.alloc (.cells #[.int .i64 ln, .int .i64 ld, .int .i64 hn, .int .i64 hd, .bool e] 175)).alloc (.cells #[.int .i64 0, .int .i64 0, .int .i64 0, .int .i64 0, .bool false] 175)) from (((Below.refl _ _).alloc (by simp <;> omega) _).alloc (by simp <;> omega) _))
  go_enter Try.func148, Try.ntmps148
  go_upto_region 1 with fail
  generalize (w.alloc (.cells #[.int .i64 ln, .int .i64 ld, .int .i64 hn, .int .i64 hd, .bool e] 175)).alloc (.cells #[.int .i64 0, .int .i64 0, .int .i64 0, .int .i64 0, .bool false] 175) = w1 at *
  go_wp2_with fail
  with_reducible refine (HQ.out _).mono ?_
  rintro e_ w2 ⟨rfl, hb⟩
  replace HB := Lib.hid (on_below HB.out hb)
  replace p0 := keepc hb p0
  replace p1 := keepc hb p1
  replace p2 := keepc hb p2
  replace p3 := keepc hb p3
  replace p4 := keepc hb p4
  replace o0 := keepc hb o0
  replace o1 := keepc hb o1
  replace o2 := keepc hb o2
  replace o3 := keepc hb o3
  replace o4 := keepc hb o4
  replace fp0 := keepf hb lp fp0
  replace fp1 := keepf hb lp fp1
  replace fp2 := keepf hb lp fp2
  replace fp3 := keepf hb lp fp3
  replace fp4 := keepf hb lp fp4
  replace fo0 := keepf hb lo fo0
  replace fo1 := keepf hb lo fo1
  replace fo2 := keepf hb lo fo2
  replace fo3 := keepf hb lo fo3
  replace fo4 := keepf hb lo fo4
  replace lp := Nat.lt_of_lt_of_le lp hb.size
  replace lo := Nat.lt_of_lt_of_le lo hb.size
  clear hb
  go_wp2_with fail
  have q0 : World.cell? (w2.alloc (.cells #[.int .i64 u, .int .i64 v] 39)) ⟨w2.heap.size, 0, none⟩ = some (.int .i64 u) := by simp [go_sem]
  have q1 : World.cell? (w2.alloc (.cells #[.int .i64 u, .int .i64 v] 39)) ⟨w2.heap.size, 1, none⟩ = some (.int .i64 v) := by simp [go_sem]
  have lq : w2.heap.size < (w2.alloc (.cells #[.int .i64 u, .int .i64 v] 39)).heap.size := by simp
  have hb : Below w2.heap.size w2 (w2.alloc (.cells #[.int .i64 u, .int .i64 v] 39)) := below_new _ _
  generalize w2.alloc (.cells #[.int .i64 u, .int .i64 v] 39) = w3 at *
  replace HB := Lib.hid (on_below HB.out hb)
  replace p0 := keepc hb p0
  replace p1 := keepc hb p1
  replace p2 := keepc hb p2
  replace p3 := keepc hb p3
  replace p4 := keepc hb p4
  replace o0 := keepc hb o0
  replace o1 := keepc hb o1
  replace o2 := keepc hb o2
  replace o3 := keepc hb o3
  replace o4 := keepc hb o4
  replace fp0 := keepf hb lp fp0
  replace fp1 := keepf hb lp fp1
  replace fp2 := keepf hb lp fp2
  replace fp3 := keepf hb lp fp3
  replace fp4 := keepf hb lp fp4
  replace fo0 := keepf hb lo fo0
  replace fo1 := keepf hb lo fo1
  replace fo2 := keepf hb lo fo2
  replace fo3 := keepf hb lo fo3
  replace fo4 := keepf hb lo fo4
  replace lp := Nat.lt_of_lt_of_le lp hb.size
  replace lo := Nat.lt_of_lt_of_le lo hb.size
  clear hb
  generalize w2.heap.size = gq at *
  with_reducible refine (HL.out _).mono ?_
  rintro e_ w4 ⟨rfl, hb⟩
  replace HB := Lib.hid (on_below HB.out hb)
  replace p0 := keepc hb p0
  replace p1 := keepc hb p1
  replace p2 := keepc hb p2
  replace p3 := keepc hb p3
  replace p4 := keepc hb p4
  replace o0 := keepc hb o0
  replace o1 := keepc hb o1
  replace o2 := keepc hb o2
  replace o3 := keepc hb o3
  replace o4 := keepc hb o4
  replace q0 := keepc hb q0
  replace q1 := keepc hb q1
  replace fp0 := keepf hb lp fp0
  replace fp1 := keepf hb lp fp1
  replace fp2 := keepf hb lp fp2
  replace fp3 := keepf hb lp fp3
  replace fp4 := keepf hb lp fp4
  replace fo0 := keepf hb lo fo0
  replace fo1 := keepf hb lo fo1
  replace fo2 := keepf hb lo fo2
  replace fo3 := keepf hb lo fo3
  replace fo4 := keepf hb lo fo4
  replace lp := Nat.lt_of_lt_of_le lp hb.size
  replace lo := Nat.lt_of_lt_of_le lo hb.size
  replace lq := Nat.lt_of_lt_of_le lq hb.size
  clear hb
  go_wp2_with fail
  all_goals refine bodyPost_ret (v := .agg #[.int .i64 ln, .int .i64 ld, .int .i64 hn, .int .i64 hd, .bool e]) (by simp [results, Try.results148, go_sem, o0, o1, o2, o3, o4, p0, p1, p2, p3, p4]) rfl ⟨rfl, ?_⟩
  all_goals (repeat (first | (refine Below.setCell ?_ (by first | exact Nat.le_refl _ | (simp; done) | (simp; omega) | omega) _) | (with_reducible refine on_below ?_ (below_new _ _))))
  all_goals exact HB.out
theorem qnar_any (r : Rg) (a b : Int) (k : Rok 100000000 r) (ba : -100000000 ≤ a ∧ a ≤ 100000000) (bb : -100000000 ≤ b ∧ b ≤ 100000000) (w : World) :
    Calls Try.prog 148 #[rgv r, .int .i64 a, .int .i64 b] w fun e_ w' => e_ = .returned (rgv (nrw r a b)) ∧ Below w.heap.size w w' := by
  obtain ⟨ln, ld, hn, hd, e⟩ := r
  unfold nrw
  by_cases h0 : b = 0
  · subst h0
    rw [if_pos rfl]
    by_cases ha : a ≤ 0
    · rw [decide_eq_true ha, Bool.or_true]
      exact nar_0t ln ld hn hd a e ha w
    · rw [decide_eq_false ha, Bool.or_false]
      exact nar_0f ln ld hn hd a e ha w
  · rw [if_neg h0]
    by_cases hb : 0 < b
    · rw [if_pos hb]
      by_cases c : ln * qD (-a) b < qN (-a) b * ld
      · rw [if_pos c]; exact nar_pt ln ld hn hd a b e k ba bb hb _ _ rfl rfl c w
      · rw [if_neg c]; exact nar_pf ln ld hn hd a b e k ba bb hb _ _ rfl rfl c w
    · rw [if_neg hb]
      by_cases c : qN a (-b) * hd < hn * qD a (-b)
      · rw [if_pos c]; exact nar_nt ln ld hn hd a b e k ba bb (by omega) _ _ rfl rfl c w
      · rw [if_neg c]; exact nar_nf ln ld hn hd a b e k ba bb (by omega) _ _ rfl rfl c w
end Go.Proofs.Ytjjimbaogpmbmaa
