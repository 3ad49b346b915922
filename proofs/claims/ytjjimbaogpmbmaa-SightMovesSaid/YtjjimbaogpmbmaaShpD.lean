/-
  The reference of layer 8, the leaves: in, Point, side, gcd, quotient, less.
-/
import Derived.Test.YtjjimbaogpmbmaaShpC
import Derived.Test.YtjjimbaogpmbmaaVecC
namespace Go.Proofs.Ytjjimbaogpmbmaa
open Go.RowKit Go.Sort
open Go.RowKit (Below)
set_option linter.unusedVariables false
set_option linter.unusedSimpArgs false

theorem below_new (w : World) (o : Obj) : Below w.heap.size w (w.alloc o) := (Below.refl _ _).alloc (Nat.le_refl _) _
theorem keepc {w w' : World} {g k : Nat} {v : Value} (hb : Below w.heap.size w w') (h : w.cell? ⟨g, k, none⟩ = some v) : w'.cell? ⟨g, k, none⟩ = some v := by rw [hb.cell (block_lt h)]; exact h
theorem keepf {w w' : World} {g k : Nat} (hb : Below w.heap.size w w') (hl : g < w.heap.size) (h : w.frozen? ⟨g, k, none⟩ = false) : w'.frozen? ⟨g, k, none⟩ = false := (hb.frozen (p := ⟨g, k, none⟩) hl).trans h
theorem in_any (n : Int) (w : World) :
    Calls Try.prog 139 #[.int .i64 n] w fun e w' => e = .returned (.bool (inr n)) ∧ w = w' := by
  go_enter Try.func139, Try.ntmps139
  go_wp2
  all_goals (go_ret; exact ⟨ret_bool (by rw [Bool.eq_iff_iff]; simp [inr]; try omega), rfl⟩)
theorem in_is (n : Int) (r : Bool) (h : inr n = r) (w : World) :
    Calls Try.prog 139 #[.int .i64 n] w fun e w' => e = .returned (.bool r) ∧ w = w' := by subst h; exact in_any n w
set_option maxRecDepth 100000 in
set_option maxHeartbeats 2000000 in
theorem qp_1 (a b c : Int) (h0 : inr a = false) (w : World) :
    Calls Try.prog 147 #[.agg #[.int .i64 a, .int .i64 b, .int .i64 c]] w fun e_ w' => e_ = .returned (.bool false) ∧ Below w.heap.size w w' := by
  have H0 := Lib.hid h0
  clear h0
  have p0 : World.cell? (w.alloc (.cells #[.int .i64 a, .int .i64 b, .int .i64 c] 27)) ⟨w.heap.size, 0, none⟩ = some (.int .i64 a) := by simp [go_sem]
  have p1 : World.cell? (w.alloc (.cells #[.int .i64 a, .int .i64 b, .int .i64 c] 27)) ⟨w.heap.size, 1, none⟩ = some (.int .i64 b) := by simp [go_sem]
  have p2 : World.cell? (w.alloc (.cells #[.int .i64 a, .int .i64 b, .int .i64 c] 27)) ⟨w.heap.size, 2, none⟩ = some (.int .i64 c) := by simp [go_sem]
  have lp : w.heap.size < (w.alloc (.cells #[.int .i64 a, .int .i64 b, .int .i64 c] 27)).heap.size := by simp <;> omega
  have HB := Lib.hid (show Below w.heap.size w (w.alloc (.cells #[.int .i64 a, .int .i64 b, .int .i64 c] 27)) from ((Below.refl _ _).alloc (by simp <;> omega) _))
  go_enter Try.func147, Try.ntmps147
  go_wp2_with fail
  generalize w.alloc (.cells #[.int .i64 a, .int .i64 b, .int .i64 c] 27) = w1 at *
  refine (in_is a false H0.out _).mono ?_
  rintro e_ wq ⟨rfl, hw⟩
  subst hw
  go_wp2_with fail
  go_ret
  exact ⟨rfl, HB.out⟩
set_option maxRecDepth 100000 in
set_option maxHeartbeats 2000000 in
theorem qp_2 (a b c : Int) (h0 : inr a = true) (h1 : inr b = false) (w : World) :
    Calls Try.prog 147 #[.agg #[.int .i64 a, .int .i64 b, .int .i64 c]] w fun e_ w' => e_ = .returned (.bool false) ∧ Below w.heap.size w w' := by
  have H0 := Lib.hid h0
  clear h0
  have H1 := Lib.hid h1
  clear h1
  have p0 : World.cell? (w.alloc (.cells #[.int .i64 a, .int .i64 b, .int .i64 c] 27)) ⟨w.heap.size, 0, none⟩ = some (.int .i64 a) := by simp [go_sem]
  have p1 : World.cell? (w.alloc (.cells #[.int .i64 a, .int .i64 b, .int .i64 c] 27)) ⟨w.heap.size, 1, none⟩ = some (.int .i64 b) := by simp [go_sem]
  have p2 : World.cell? (w.alloc (.cells #[.int .i64 a, .int .i64 b, .int .i64 c] 27)) ⟨w.heap.size, 2, none⟩ = some (.int .i64 c) := by simp [go_sem]
  have lp : w.heap.size < (w.alloc (.cells #[.int .i64 a, .int .i64 b, .int .i64 c] 27)).heap.size := by simp <;> omega
  have HB := Lib.hid (show Below w.heap.size w (w.alloc (.cells #[.int .i64 a, .int .i64 b, .int .i64 c] 27)) from ((Below.refl _ _).alloc (by simp <;> omega) _))
  go_enter Try.func147, Try.ntmps147
  go_wp2_with fail
  generalize w.alloc (.cells #[.int .i64 a, .int .i64 b, .int .i64 c] 27) = w1 at *
  refine (in_is a true H0.out _).mono ?_
  rintro e_ wq ⟨rfl, hw⟩
  subst hw
  go_wp2_with fail
  refine (in_is b false H1.out _).mono ?_
  rintro e_ wq ⟨rfl, hw⟩
  subst hw
  go_wp2_with fail
  go_ret
  exact ⟨rfl, HB.out⟩
set_option maxRecDepth 100000 in
set_option maxHeartbeats 2000000 in
theorem qp_3 (a b c : Int) (h0 : inr a = true) (h1 : inr b = true) (h2 : inr c = false) (w : World) :
    Calls Try.prog 147 #[.agg #[.int .i64 a, .int .i64 b, .int .i64 c]] w fun e_ w' => e_ = .returned (.bool false) ∧ Below w.heap.size w w' := by
  have H0 := Lib.hid h0
  clear h0
  have H1 := Lib.hid h1
  clear h1
  have H2 := Lib.hid h2
  clear h2
  have p0 : World.cell? (w.alloc (.cells #[.int .i64 a, .int .i64 b, .int .i64 c] 27)) ⟨w.heap.size, 0, none⟩ = some (.int .i64 a) := by simp [go_sem]
  have p1 : World.cell? (w.alloc (.cells #[.int .i64 a, .int .i64 b, .int .i64 c] 27)) ⟨w.heap.size, 1, none⟩ = some (.int .i64 b) := by simp [go_sem]
  have p2 : World.cell? (w.alloc (.cells #[.int .i64 a, .int .i64 b, .int .i64 c] 27)) ⟨w.heap.size, 2, none⟩ = some (.int .i64 c) := by simp [go_sem]
  have lp : w.heap.size < (w.alloc (.cells #[.int .i64 a, .int .i64 b, .int .i64 c] 27)).heap.size := by simp <;> omega
  have HB := Lib.hid (show Below w.heap.size w (w.alloc (.cells #[.int .i64 a, .int .i64 b, .int .i64 c] 27)) from ((Below.refl _ _).alloc (by simp <;> omega) _))
  go_enter Try.func147, Try.ntmps147
  go_wp2_with fail
  generalize w.alloc (.cells #[.int .i64 a, .int .i64 b, .int .i64 c] 27) = w1 at *
  refine (in_is a true H0.out _).mono ?_
  rintro e_ wq ⟨rfl, hw⟩
  subst hw
  go_wp2_with fail
  refine (in_is b true H1.out _).mono ?_
  rintro e_ wq ⟨rfl, hw⟩
  subst hw
  go_wp2_with fail
  refine (in_is c false H2.out _).mono ?_
  rintro e_ wq ⟨rfl, hw⟩
  subst hw
  go_wp2_with fail
  go_ret
  exact ⟨rfl, HB.out⟩
set_option maxRecDepth 100000 in
set_option maxHeartbeats 2000000 in
theorem qp_4 (a b c : Int) (h0 : inr a = true) (h1 : inr b = true) (h2 : inr c = true) (w : World) :
    Calls Try.prog 147 #[.agg #[.int .i64 a, .int .i64 b, .int .i64 c]] w fun e_ w' => e_ = .returned (.bool true) ∧ Below w.heap.size w w' := by
  have H0 := Lib.hid h0
  clear h0
  have H1 := Lib.hid h1
  clear h1
  have H2 := Lib.hid h2
  clear h2
  have p0 : World.cell? (w.alloc (.cells #[.int .i64 a, .int .i64 b, .int .i64 c] 27)) ⟨w.heap.size, 0, none⟩ = some (.int .i64 a) := by simp [go_sem]
  have p1 : World.cell? (w.alloc (.cells #[.int .i64 a, .int .i64 b, .int .i64 c] 27)) ⟨w.heap.size, 1, none⟩ = some (.int .i64 b) := by simp [go_sem]
  have p2 : World.cell? (w.alloc (.cells #[.int .i64 a, .int .i64 b, .int .i64 c] 27)) ⟨w.heap.size, 2, none⟩ = some (.int .i64 c) := by simp [go_sem]
  have lp : w.heap.size < (w.alloc (.cells #[.int .i64 a, .int .i64 b, .int .i64 c] 27)).heap.size := by simp <;> omega
  have HB := Lib.hid (show Below w.heap.size w (w.alloc (.cells #[.int .i64 a, .int .i64 b, .int .i64 c] 27)) from ((Below.refl _ _).alloc (by simp <;> omega) _))
  go_enter Try.func147, Try.ntmps147
  go_wp2_with fail
  generalize w.alloc (.cells #[.int .i64 a, .int .i64 b, .int .i64 c] 27) = w1 at *
  refine (in_is a true H0.out _).mono ?_
  rintro e_ wq ⟨rfl, hw⟩
  subst hw
  go_wp2_with fail
  refine (in_is b true H1.out _).mono ?_
  rintro e_ wq ⟨rfl, hw⟩
  subst hw
  go_wp2_with fail
  refine (in_is c true H2.out _).mono ?_
  rintro e_ wq ⟨rfl, hw⟩
  subst hw
  go_wp2_with fail
  go_ret
  exact ⟨rfl, HB.out⟩
theorem qpoint_is (a b c : Int) (r : Bool) (h : vv a b c = r) (w : World) :
    Calls Try.prog 147 #[.agg #[.int .i64 a, .int .i64 b, .int .i64 c]] w fun e_ w' => e_ = .returned (.bool r) ∧ Below w.heap.size w w' := by
  subst h
  unfold vv
  cases h0 : inr a
  · exact qp_1 a b c h0 w
  · cases h1 : inr b
    · exact qp_2 a b c h0 h1 w
    · cases h2 : inr c
      · exact qp_3 a b c h0 h1 h2 w
      · exact qp_4 a b c h0 h1 h2 w
set_option maxRecDepth 100000 in
set_option maxHeartbeats 2000000 in
theorem qside_any (a b c d e f : Int) (h1 : co a) (h2 : co b) (h3 : co c) (h4 : co d) (h5 : co e) (h6 : co f) (w : World) :
    Calls Try.prog 140 #[.agg #[.int .i64 a, .int .i64 b], .agg #[.int .i64 c, .int .i64 d], .agg #[.int .i64 e, .int .i64 f]] w fun e_ w' => e_ = .returned (.int .i64 (crs a b c d e f)) ∧ Below w.heap.size w w' := by
  have hb := crs_bd h1 h2 h3 h4 h5 h6
  obtain ⟨_, _⟩ := h1
  obtain ⟨_, _⟩ := h2
  obtain ⟨_, _⟩ := h3
  obtain ⟨_, _⟩ := h4
  obtain ⟨_, _⟩ := h5
  obtain ⟨_, _⟩ := h6
  obtain ⟨⟨b1, b2⟩, ⟨b3, b4⟩⟩ := hb
  have hs : crs a b c d e f = (c - a) * (f - b) - (d - b) * (e - a) := rfl
  have f0 : IntKind.i64.wrap ((c - a) * (f - b)) = (c - a) * (f - b) := IntWalk.i64_in _ ⟨by omega, by omega⟩
  have f1 : IntKind.i64.wrap ((d - b) * (e - a)) = (d - b) * (e - a) := IntWalk.i64_in _ ⟨by omega, by omega⟩
  have f2 : IntKind.i64.wrap ((c - a) * (f - b) - (d - b) * (e - a)) = (c - a) * (f - b) - (d - b) * (e - a) := IntWalk.i64_in _ ⟨by omega, by omega⟩
  have g0 : wrap64 ((c - a) * (f - b)) = (c - a) * (f - b) := IntWalk.wrap64_in _ ⟨by omega, by omega⟩
  have g1 : wrap64 ((d - b) * (e - a)) = (d - b) * (e - a) := IntWalk.wrap64_in _ ⟨by omega, by omega⟩
  have g2 : wrap64 ((c - a) * (f - b) - (d - b) * (e - a)) = (c - a) * (f - b) - (d - b) * (e - a) := IntWalk.wrap64_in _ ⟨by omega, by omega⟩
  rw [hs]
  clear hs b1 b2 b3 b4
  have p0 : World.cell? (((w.alloc (.cells #[.int .i64 a, .int .i64 b] 54)).alloc (.cells #[.int .i64 c, .int .i64 d] 54)).alloc (.cells #[.int .i64 e, .int .i64 f] 54)) ⟨w.heap.size, 0, none⟩ = some (.int .i64 a) := by simp [go_sem]
  have p1 : World.cell? (((w.alloc (.cells #[.int .i64 a, .int .i64 b] 54)).alloc (.cells #[.int .i64 c, .int .i64 d] 54)).alloc (.cells #[.int .i64 e, .int .i64 f] 54)) ⟨w.heap.size, 1, none⟩ = some (.int .i64 b) := by simp [go_sem]
  have lp : w.heap.size < (((w.alloc (.cells #[.int .i64 a, .int .i64 b] 54)).alloc (.cells #[.int .i64 c, .int .i64 d] 54)).alloc (.cells #[.int .i64 e, .int .i64 f] 54)).heap.size := by simp <;> omega
  have q0 : World.cell? (((w.alloc (.cells #[.int .i64 a, .int .i64 b] 54)).alloc (.cells #[.int .i64 c, .int .i64 d] 54)).alloc (.cells #[.int .i64 e, .int .i64 f] 54)) ⟨w.heap.size + 1, 0, none⟩ = some (.int .i64 c) := by simp [go_sem]
  have q1 : World.cell? (((w.alloc (.cells #[.int .i64 a, .int .i64 b] 54)).alloc (.cells #[.int .i64 c, .int .i64 d] 54)).alloc (.cells #[.int .i64 e, .int .i64 f] 54)) ⟨w.heap.size + 1, 1, none⟩ = some (.int .i64 d) := by simp [go_sem]
  have lq : w.heap.size + 1 < (((w.alloc (.cells #[.int .i64 a, .int .i64 b] 54)).alloc (.cells #[.int .i64 c, .int .i64 d] 54)).alloc (.cells #[.int .i64 e, .int .i64 f] 54)).heap.size := by simp <;> omega
  have s0 : World.cell? (((w.alloc (.cells #[.int .i64 a, .int .i64 b] 54)).alloc (.cells #[.int .i64 c, .int .i64 d] 54)).alloc (.cells #[.int .i64 e, .int .i64 f] 54)) ⟨w.heap.size + 1 + 1, 0, none⟩ = some (.int .i64 e) := by simp [go_sem]
  have s1 : World.cell? (((w.alloc (.cells #[.int .i64 a, .int .i64 b] 54)).alloc (.cells #[.int .i64 c, .int .i64 d] 54)).alloc (.cells #[.int .i64 e, .int .i64 f] 54)) ⟨w.heap.size + 1 + 1, 1, none⟩ = some (.int .i64 f) := by simp [go_sem]
  have ls : w.heap.size + 1 + 1 < (((w.alloc (.cells #[.int .i64 a, .int .i64 b] 54)).alloc (.cells #[.int .i64 c, .int .i64 d] 54)).alloc (.cells #[.int .i64 e, .int .i64 f] 54)).heap.size := by simp <;> omega
  have HB := Lib.hid (show Below w.heap.size w (((w.alloc (.cells #[.int .i64 a, .int .i64 b] 54)).alloc (.cells #[.int .i64 c, .int .i64 d] 54)).alloc (.cells #[.int .i64 e, .int .i64 f] 54)) from ((((Below.refl _ _).alloc (by simp <;> omega) _).alloc (by simp <;> omega) _).alloc (by simp <;> omega) _))
  go_enter Try.func140, Try.ntmps140
  go_wp2_with fail
  generalize ((w.alloc (.cells #[.int .i64 a, .int .i64 b] 54)).alloc (.cells #[.int .i64 c, .int .i64 d] 54)).alloc (.cells #[.int .i64 e, .int .i64 f] 54) = w1 at *
  go_ret
  exact ⟨rfl, HB.out⟩
theorem qside_is (a b c d e f s : Int) (h1 : co a) (h2 : co b) (h3 : co c) (h4 : co d) (h5 : co e) (h6 : co f) (hs : crs a b c d e f = s) (w : World) :
    Calls Try.prog 140 #[.agg #[.int .i64 a, .int .i64 b], .agg #[.int .i64 c, .int .i64 d], .agg #[.int .i64 e, .int .i64 f]] w fun e_ w' => e_ = .returned (.int .i64 s) ∧ Below w.heap.size w w' := hs ▸ qside_any a b c d e f h1 h2 h3 h4 h5 h6 w
theorem gcd_step (m n : Nat) (_h : 0 < n) : Nat.gcd m n = Nat.gcd n (m % n) := by
  rw [Nat.gcd_comm m n, Nat.gcd_rec n m, Nat.gcd_comm]
set_option maxHeartbeats 400000 in
theorem qgcd_any (x y : Nat) (w : World) (h1 : x ≤ 9223372036854775807) (h2 : y ≤ 9223372036854775807) :
    Calls Try.prog 151 #[.int .i64 x, .int .i64 y] w fun e w' => e = .returned (.int .i64 (Nat.gcd x y : Nat)) ∧ w = w' := by
  go_enter Try.func151, Try.ntmps151
  go_wp2
  go_loopw [0, 1] (fun a b wr => ∃ m n : Nat, m ≤ 9223372036854775807 ∧ n ≤ 9223372036854775807 ∧ a = .int .i64 m ∧ b = .int .i64 n ∧ Hid (Nat.gcd m n = Nat.gcd x y) ∧ w = wr) (fun _ b _ => (intOf b).toNat)
  case atStart => exact ⟨x, y, h1, h2, rfl, rfl, rfl, rfl⟩
  case round =>
    obtain ⟨m, n, hm, hn, rfl, rfl, HG, rfl⟩ := hrel
    by_cases hz : n = 0
    · subst hz
      go_wp2
      go_ret
      exact ⟨ret_int (by have := HG.out; simp at this; omega), rfl⟩
    · have hpos : (1 : Int) ≤ n := by omega
      have hem : ((m : Int) % (n : Int)) = ((m % n : Nat) : Int) := by omega
      have hlt := Nat.mod_lt m (y := n) (by omega)
      clear hz
      go_wp2
      rw [hem]
      go_roundw
      case rel => exact ⟨n, m % n, by omega, by omega, rfl, rfl, (gcd_step m n (by omega)).symm.trans HG.out, by first | rfl | trivial⟩
      case measure => simp [intOf]; omega
set_option maxRecDepth 100000 in
set_option maxHeartbeats 2000000 in
theorem qless_is (a b c d : Int) (r : Bool) (h : decide (a * d < c * b) = r) (i1 : -100000000 ≤ a ∧ a ≤ 100000000) (i2 : -100000000 ≤ b ∧ b ≤ 100000000) (i3 : -100000000 ≤ c ∧ c ≤ 100000000) (i4 : -100000000 ≤ d ∧ d ≤ 100000000) (w : World) :
    Calls Try.prog 149 #[.agg #[.int .i64 a, .int .i64 b], .agg #[.int .i64 c, .int .i64 d]] w fun e_ w' => e_ = .returned (.bool r) ∧ Below w.heap.size w w' := by
  have b1 := mul_co i1 i4
  have b2 := mul_co i3 i2
  subst h
  have f0 : IntKind.i64.wrap (a * d) = a * d := IntWalk.i64_in _ ⟨by omega, by omega⟩
  have f1 : IntKind.i64.wrap (c * b) = c * b := IntWalk.i64_in _ ⟨by omega, by omega⟩
  have g0 : wrap64 (a * d) = a * d := IntWalk.wrap64_in _ ⟨by omega, by omega⟩
  have g1 : wrap64 (c * b) = c * b := IntWalk.wrap64_in _ ⟨by omega, by omega⟩
  clear b1 b2
  have p0 : World.cell? ((w.alloc (.cells #[.int .i64 a, .int .i64 b] 39)).alloc (.cells #[.int .i64 c, .int .i64 d] 39)) ⟨w.heap.size, 0, none⟩ = some (.int .i64 a) := by simp [go_sem]
  have p1 : World.cell? ((w.alloc (.cells #[.int .i64 a, .int .i64 b] 39)).alloc (.cells #[.int .i64 c, .int .i64 d] 39)) ⟨w.heap.size, 1, none⟩ = some (.int .i64 b) := by simp [go_sem]
  have lp : w.heap.size < ((w.alloc (.cells #[.int .i64 a, .int .i64 b] 39)).alloc (.cells #[.int .i64 c, .int .i64 d] 39)).heap.size := by simp <;> omega
  have q0 : World.cell? ((w.alloc (.cells #[.int .i64 a, .int .i64 b] 39)).alloc (.cells #[.int .i64 c, .int .i64 d] 39)) ⟨w.heap.size + 1, 0, none⟩ = some (.int .i64 c) := by simp [go_sem]
  have q1 : World.cell? ((w.alloc (.cells #[.int .i64 a, .int .i64 b] 39)).alloc (.cells #[.int .i64 c, .int .i64 d] 39)) ⟨w.heap.size + 1, 1, none⟩ = some (.int .i64 d) := by simp [go_sem]
  have lq : w.heap.size + 1 < ((w.alloc (.cells #[.int .i64 a, .int .i64 b] 39)).alloc (.cells #[.int .i64 c, .int .i64 d] 39)).heap.size := by simp <;> omega
  have HB := Lib.hid (show Below w.heap.size w ((w.alloc (.cells #[.int .i64 a, .int .i64 b] 39)).alloc (.cells #[.int .i64 c, .int .i64 d] 39)) from (((Below.refl _ _).alloc (by simp <;> omega) _).alloc (by simp <;> omega) _))
  go_enter Try.func149, Try.ntmps149
  go_wp2_with fail
  generalize (w.alloc (.cells #[.int .i64 a, .int .i64 b] 39)).alloc (.cells #[.int .i64 c, .int .i64 d] 39) = w1 at *
  go_ret
  exact ⟨rfl, HB.out⟩
end Go.Proofs.Ytjjimbaogpmbmaa
