/-
  Package shape: the depths behind the sides of a body; crossing; comparisons.
-/
import Derived.Test.YtiffgcipdamngaaZShpS
import Derived.Test.YtiffgcipdamngaaZShpV
namespace Go.Proofs.Ytiffgcipdamngaa
open Go.RowKit Go.Sort
open Go.RowKit (Below)
set_option linter.unusedVariables false
set_option linter.unusedSimpArgs false

set_option maxRecDepth 100000 in
set_option maxHeartbeats 2000000 in
theorem dep_edge (g h : Nat) (ax ay bx b_y a b c s : Int) (h1 : co ax) (h2 : co ay) (h3 : co bx) (h4 : co b_y) (h5 : co a) (h6 : co b) (hs : crs ax ay bx b_y a b = s) (w : World) (g0 : w.cell? ⟨g, 0, none⟩ = some (.int .i64 bx)) (g1 : w.cell? ⟨g, 1, none⟩ = some (.int .i64 b_y)) (k0 : w.cell? ⟨h, 0, none⟩ = some (.int .i64 ax)) (k1 : w.cell? ⟨h, 1, none⟩ = some (.int .i64 ay)) :
    Calls Try.prog 94 #[.agg #[.int .i64 a, .int .i64 b, .int .i64 c], .pointer (some ⟨g, 0, none⟩), .pointer (some ⟨h, 0, none⟩)] w fun e_ w' => e_ = .returned (.int .i64 s) ∧ Below w.heap.size w w' := by
  subst hs
  have hb := crs_bd h1 h2 h3 h4 h5 h6
  obtain ⟨_, _⟩ := h1
  obtain ⟨_, _⟩ := h2
  obtain ⟨_, _⟩ := h3
  obtain ⟨_, _⟩ := h4
  obtain ⟨_, _⟩ := h5
  obtain ⟨_, _⟩ := h6
  obtain ⟨⟨b1, b2⟩, ⟨b3, b4⟩⟩ := hb
  have hs : crs ax ay bx b_y a b = (bx - ax) * (b - ay) - (b_y - ay) * (a - ax) := rfl
  have f0 : IntKind.i64.wrap ((bx - ax) * (b - ay)) = (bx - ax) * (b - ay) := IntWalk.i64_in _ ⟨by omega, by omega⟩
  have g0_ : wrap64 ((bx - ax) * (b - ay)) = (bx - ax) * (b - ay) := IntWalk.wrap64_in _ ⟨by omega, by omega⟩
  have f1 : IntKind.i64.wrap ((b_y - ay) * (a - ax)) = (b_y - ay) * (a - ax) := IntWalk.i64_in _ ⟨by omega, by omega⟩
  have g1_ : wrap64 ((b_y - ay) * (a - ax)) = (b_y - ay) * (a - ax) := IntWalk.wrap64_in _ ⟨by omega, by omega⟩
  have f2 : IntKind.i64.wrap ((bx - ax) * (b - ay) - (b_y - ay) * (a - ax)) = (bx - ax) * (b - ay) - (b_y - ay) * (a - ax) := IntWalk.i64_in _ ⟨by omega, by omega⟩
  have g2_ : wrap64 ((bx - ax) * (b - ay) - (b_y - ay) * (a - ax)) = (bx - ax) * (b - ay) - (b_y - ay) * (a - ax) := IntWalk.wrap64_in _ ⟨by omega, by omega⟩
  rw [hs]
  clear hs b1 b2 b3 b4
  have p0 : World.cell? (w.alloc (.cells #[.int .i64 a, .int .i64 b, .int .i64 c] 27)) ⟨w.heap.size, 0, none⟩ = some (.int .i64 a) := by simp [go_sem]
  have p1 : World.cell? (w.alloc (.cells #[.int .i64 a, .int .i64 b, .int .i64 c] 27)) ⟨w.heap.size, 1, none⟩ = some (.int .i64 b) := by simp [go_sem]
  have p2 : World.cell? (w.alloc (.cells #[.int .i64 a, .int .i64 b, .int .i64 c] 27)) ⟨w.heap.size, 2, none⟩ = some (.int .i64 c) := by simp [go_sem]
  have lp : w.heap.size < (w.alloc (.cells #[.int .i64 a, .int .i64 b, .int .i64 c] 27)).heap.size := by simp <;> omega
  have HB := Lib.hid (show Below w.heap.size w (w.alloc (.cells #[.int .i64 a, .int .i64 b, .int .i64 c] 27)) from ((Below.refl _ _).alloc (by simp <;> omega) _))
  go_enter Try.func94, Try.ntmps94
  go_upto_region 1 with fail
  generalize w.alloc (.cells #[.int .i64 a, .int .i64 b, .int .i64 c] 27) = w1 at *
  replace g0 := keepc HB.out g0
  replace g1 := keepc HB.out g1
  replace k0 := keepc HB.out k0
  replace k1 := keepc HB.out k1
  go_wp2_with fail
  go_ret
  exact ⟨rfl, HB.out⟩
set_option maxRecDepth 100000 in
set_option maxHeartbeats 2000000 in
theorem dep_low (g : Nat) (lo a b c s : Int) (h1 : co lo) (h2 : co c) (hs : c - lo = s) (w : World) (g0 : w.cell? ⟨g, 1, none⟩ = some (.int .i64 lo)) :
    Calls Try.prog 95 #[.agg #[.int .i64 a, .int .i64 b, .int .i64 c], .pointer (some ⟨g, 0, none⟩)] w fun e_ w' => e_ = .returned (.int .i64 s) ∧ Below w.heap.size w w' := by
  subst hs
  obtain ⟨_, _⟩ := h1
  obtain ⟨_, _⟩ := h2
  have p0 : World.cell? (w.alloc (.cells #[.int .i64 a, .int .i64 b, .int .i64 c] 27)) ⟨w.heap.size, 0, none⟩ = some (.int .i64 a) := by simp [go_sem]
  have p1 : World.cell? (w.alloc (.cells #[.int .i64 a, .int .i64 b, .int .i64 c] 27)) ⟨w.heap.size, 1, none⟩ = some (.int .i64 b) := by simp [go_sem]
  have p2 : World.cell? (w.alloc (.cells #[.int .i64 a, .int .i64 b, .int .i64 c] 27)) ⟨w.heap.size, 2, none⟩ = some (.int .i64 c) := by simp [go_sem]
  have lp : w.heap.size < (w.alloc (.cells #[.int .i64 a, .int .i64 b, .int .i64 c] 27)).heap.size := by simp <;> omega
  have HB := Lib.hid (show Below w.heap.size w (w.alloc (.cells #[.int .i64 a, .int .i64 b, .int .i64 c] 27)) from ((Below.refl _ _).alloc (by simp <;> omega) _))
  go_enter Try.func95, Try.ntmps95
  go_upto_region 1 with fail
  generalize w.alloc (.cells #[.int .i64 a, .int .i64 b, .int .i64 c] 27) = w1 at *
  replace g0 := keepc HB.out g0
  go_wp2_with fail
  go_ret
  exact ⟨rfl, HB.out⟩
set_option maxRecDepth 100000 in
set_option maxHeartbeats 2000000 in
theorem dep_high (g : Nat) (hi a b c s : Int) (h1 : co hi) (h2 : co c) (hs : hi - c = s) (w : World) (g0 : w.cell? ⟨g, 2, none⟩ = some (.int .i64 hi)) :
    Calls Try.prog 96 #[.agg #[.int .i64 a, .int .i64 b, .int .i64 c], .pointer (some ⟨g, 0, none⟩)] w fun e_ w' => e_ = .returned (.int .i64 s) ∧ Below w.heap.size w w' := by
  subst hs
  obtain ⟨_, _⟩ := h1
  obtain ⟨_, _⟩ := h2
  have p0 : World.cell? (w.alloc (.cells #[.int .i64 a, .int .i64 b, .int .i64 c] 27)) ⟨w.heap.size, 0, none⟩ = some (.int .i64 a) := by simp [go_sem]
  have p1 : World.cell? (w.alloc (.cells #[.int .i64 a, .int .i64 b, .int .i64 c] 27)) ⟨w.heap.size, 1, none⟩ = some (.int .i64 b) := by simp [go_sem]
  have p2 : World.cell? (w.alloc (.cells #[.int .i64 a, .int .i64 b, .int .i64 c] 27)) ⟨w.heap.size, 2, none⟩ = some (.int .i64 c) := by simp [go_sem]
  have lp : w.heap.size < (w.alloc (.cells #[.int .i64 a, .int .i64 b, .int .i64 c] 27)).heap.size := by simp <;> omega
  have HB := Lib.hid (show Below w.heap.size w (w.alloc (.cells #[.int .i64 a, .int .i64 b, .int .i64 c] 27)) from ((Below.refl _ _).alloc (by simp <;> omega) _))
  go_enter Try.func96, Try.ntmps96
  go_upto_region 1 with fail
  generalize w.alloc (.cells #[.int .i64 a, .int .i64 b, .int .i64 c] 27) = w1 at *
  replace g0 := keepc HB.out g0
  go_wp2_with fail
  go_ret
  exact ⟨rfl, HB.out⟩
theorem edges_any (A : Option Addr) (n C : Nat) (w : World) :
    Calls Try.prog 75 #[.slice A n C] w fun e w' => e = .returned (.func (.func 82) #[] #[.pointer (some ⟨w.heap.size, 0, none⟩)]) ∧ w' = w.alloc (.cells #[.slice A n C] 44) := by
  go_enter Try.func75, Try.ntmps75
  go_wp2
  go_ret
  exact ⟨rfl, rfl⟩
theorem sides_any (A : Option Addr) (n C : Nat) (lo hi : Int) (w : World) :
    Calls Try.prog 92 #[.agg #[.slice A n C, .int .i64 lo, .int .i64 hi]] w fun e w' => e = .returned (.func (.func 93) #[] #[.pointer (some ⟨w.heap.size, 0, none⟩)]) ∧ w' = w.alloc (.cells #[.slice A n C, .int .i64 lo, .int .i64 hi] 46) := by
  go_enter Try.func92, Try.ntmps92
  go_wp2
  go_ret
  exact ⟨rfl, rfl⟩
theorem vld_i64 {a b : Int} (h : vld a b = true) : I64 a ∧ I64 b := by
  have h := (vld_iff a b).1 h
  exact ⟨⟨by omega, by omega⟩, by omega, by omega⟩
set_option maxRecDepth 100000 in
set_option maxHeartbeats 2000000 in
theorem cparts_is (a b c d s : Int) (ha : vld a b = true) (hc : vld c d = true) (hs : sgn (a * d) (c * b) = s) (w : World) :
    Calls Try.prog 90 #[.agg #[.int .i64 a, .int .i64 b], .agg #[.int .i64 c, .int .i64 d]] w fun e_ w' => e_ = .returned (.int .i64 s) ∧ Below w.heap.size w w' := by
  have i1 := vld_i64 ha
  have i2 := vld_i64 hc
  have e1 : cmpR (vld a b && vld c d) a b c d = s := by rw [ha, hc]; exact hs
  have e2 : cmpE (vld a b && vld c d) = 0 := by rw [ha, hc]; rfl
  have HC := Lib.hid (fun W => cmp_any a b c d W i1.1 i1.2 i2.1 i2.2)
  rw [e1, e2] at HC
  clear e1 e2 hs ha hc i1 i2
  have p0 : World.cell? ((w.alloc (.cells #[.int .i64 a, .int .i64 b] 32)).alloc (.cells #[.int .i64 c, .int .i64 d] 32)) ⟨w.heap.size, 0, none⟩ = some (.int .i64 a) := by simp [go_sem]
  have p1 : World.cell? ((w.alloc (.cells #[.int .i64 a, .int .i64 b] 32)).alloc (.cells #[.int .i64 c, .int .i64 d] 32)) ⟨w.heap.size, 1, none⟩ = some (.int .i64 b) := by simp [go_sem]
  have lp : w.heap.size < ((w.alloc (.cells #[.int .i64 a, .int .i64 b] 32)).alloc (.cells #[.int .i64 c, .int .i64 d] 32)).heap.size := by simp <;> omega
  have q0 : World.cell? ((w.alloc (.cells #[.int .i64 a, .int .i64 b] 32)).alloc (.cells #[.int .i64 c, .int .i64 d] 32)) ⟨w.heap.size + 1, 0, none⟩ = some (.int .i64 c) := by simp [go_sem]
  have q1 : World.cell? ((w.alloc (.cells #[.int .i64 a, .int .i64 b] 32)).alloc (.cells #[.int .i64 c, .int .i64 d] 32)) ⟨w.heap.size + 1, 1, none⟩ = some (.int .i64 d) := by simp [go_sem]
  have lq : w.heap.size + 1 < ((w.alloc (.cells #[.int .i64 a, .int .i64 b] 32)).alloc (.cells #[.int .i64 c, .int .i64 d] 32)).heap.size := by simp <;> omega
  have HB := Lib.hid (show Below w.heap.size w ((w.alloc (.cells #[.int .i64 a, .int .i64 b] 32)).alloc (.cells #[.int .i64 c, .int .i64 d] 32)) from (((Below.refl _ _).alloc (by simp <;> omega) _).alloc (by simp <;> omega) _))
  go_enter Try.func90, Try.ntmps90
  go_upto_region 1 with fail
  generalize (w.alloc (.cells #[.int .i64 a, .int .i64 b] 32)).alloc (.cells #[.int .i64 c, .int .i64 d] 32) = w1 at *
  go_wp2_with fail
  with_reducible refine (HC.out _).mono ?_
  rintro e_ w2 ⟨rfl, hb⟩
  replace HB := Lib.hid (on_below HB.out hb)
  replace p0 := keepc hb p0
  replace p1 := keepc hb p1
  replace q0 := keepc hb q0
  replace q1 := keepc hb q1
  replace lp := Nat.lt_of_lt_of_le lp hb.size
  replace lq := Nat.lt_of_lt_of_le lq hb.size
  clear hb
  go_wp2_with fail
  go_ret
  exact ⟨rfl, HB.out⟩
set_option maxRecDepth 100000 in
set_option maxHeartbeats 2000000 in
theorem cross_is (a b n d : Int) (ia : -100000000 ≤ a ∧ a ≤ 100000000) (ib : -100000000 ≤ b ∧ b ≤ 100000000) (hn : mkN a (a - b) = n) (hd : mkD a (a - b) = d) (w : World) :
    Calls Try.prog 89 #[.int .i64 a, .int .i64 b] w fun e_ w' => e_ = .returned (.agg #[.int .i64 n, .int .i64 d]) ∧ Below w.heap.size w w' := by
  have HM := Lib.hid (fun W => make_any a (a - b) W ⟨by omega, by omega⟩ ⟨by omega, by omega⟩)
  rw [hn, hd] at HM
  clear hn hd
  have HB := Lib.hid (show Below w.heap.size w (w.alloc (.cells #[.int .i64 0, .int .i64 0] 32)) from below_new _ _)
  go_enter Try.func89, Try.ntmps89
  go_wp2_with fail
  refine (HM.out _).mono ?_
  rintro e_ w1 ⟨rfl, hb⟩
  obtain ⟨h1, h2⟩ := bcell hb
  have z0 : w1.cell? ⟨w.heap.size, 0, none⟩ = some (.int .i64 0) := by rw [h1 _ _ (by simp)]; simp [go_sem]
  have z1 : w1.cell? ⟨w.heap.size, 1, none⟩ = some (.int .i64 0) := by rw [h1 _ _ (by simp)]; simp [go_sem]
  have f0 : w1.frozen? ⟨w.heap.size, 0, none⟩ = false := by rw [h2 _ _ (by simp)]; simp [go_sem]
  have f1 : w1.frozen? ⟨w.heap.size, 1, none⟩ = false := by rw [h2 _ _ (by simp)]; simp [go_sem]
  have hz : w.heap.size < w1.heap.size := by have := hb.size; simp at this; omega
  clear h1 h2
  go_wp2_with fail
  refine bodyPost_ret (v := .agg #[.int .i64 n, .int .i64 d]) (by simp [results, Try.results89, go_sem, z0, z1, hz]) rfl ⟨rfl, ?_⟩
  have hb2 := on_below HB.out hb
  exact ((hb2.setCell (by simp) _).setCell (by simp) _).alloc (by simp; omega) _
end Go.Proofs.Ytiffgcipdamngaa
