/-
  Out of the texts of layer 7: package vector's Sub, product, isDirection, isShare, Near. Plain facts for layer 10: tables of directions, the direction at a minute, what Shaded and Glare answer. Package sun: isDirection, Valid; what is no point, no body.
-/
import Derived.Test.YtgjcmolocoijiaaYSgtZV
import Derived.Test.YtgjcmolocoijiaaYSgtZE
import Derived.Test.YtgjcmolocoijiaaYSgtZD
import Derived.Test.YtgjcmolocoijiaaYSgtZA
namespace Go.Proofs.Ytgjcmolocoijiaa
open Go.RowKit Go.Sort
open Go.RowKit (Below)
set_option linter.unusedVariables false
set_option linter.unusedSimpArgs false

theorem vminus_any (x y : Int) (h : I64 (x - y)) (w : World) :
    Calls Try.prog 152 #[.int .i64 x, .int .i64 y] w fun e w' => e = .returned (.int .i64 (x - y)) ∧ w = w' := by
  have f1 : IntKind.i64.wrap (x - y) = x - y := IntWalk.i64_in _ h
  have f2 : wrap64 (x - y) = x - y := IntWalk.wrap64_in _ h
  go_enter Try.func152, Try.ntmps152
  go_wp2
  all_goals (go_ret; exact ⟨rfl, rfl⟩)
theorem vminus_enter (W : World) (args : Array Value) : (callFunc 152 args).run Try.prog W = .ok (.enter 152 args) W := by simp [go_sem]
theorem vmult_any (x y : Int) (h : I64 (x * y)) (w : World) :
    Calls Try.prog 181 #[.int .i64 x, .int .i64 y] w fun e w' => e = .returned (.int .i64 (x * y)) ∧ w = w' := by
  have f1 : IntKind.i64.wrap (x * y) = x * y := IntWalk.i64_in _ h
  have f2 : wrap64 (x * y) = x * y := IntWalk.wrap64_in _ h
  go_enter Try.func181, Try.ntmps181
  go_wp2
  all_goals (go_ret; exact ⟨rfl, rfl⟩)
theorem vmult_enter (W : World) (args : Array Value) : (callFunc 181 args).run Try.prog W = .ok (.enter 181 args) W := by simp [go_sem]
set_option maxRecDepth 100000 in
set_option maxHeartbeats 2000000 in
theorem sub_is (a b c x y z U V T E : Int) (hE : sE (vv a b c) (vv x y z) (vv (a - x) (b - y) (c - z)) = E) (hU : kp E (a - x) = U) (hV : kp E (b - y) = V) (hT : kp E (c - z) = T) (w : World) :
    Calls Try.prog 91 #[.agg #[.int .i64 a, .int .i64 b, .int .i64 c], .agg #[.int .i64 x, .int .i64 y, .int .i64 z]] w fun e w' => e = .returned (.tuple #[.agg #[.int .i64 U, .int .i64 V, .int .i64 T], .int .i64 E]) ∧ Below w.heap.size w w' := by
  have hc : ∀ W, Calls Try.prog 151 #[.agg #[.int .i64 a, .int .i64 b, .int .i64 c], .agg #[.int .i64 x, .int .i64 y, .int .i64 z], .func (.func 152) #[] #[]] W fun e w' => e = .returned (.tuple #[.agg #[.int .i64 U, .int .i64 V, .int .i64 T], .int .i64 E]) ∧ Below W.heap.size W w' := fun W => cmb_any 152 vminus_enter a b c x y z _ _ _ U V T E (fun hp hq => by
    have h1 := vv_iff.1 hp
    have h2 := vv_iff.1 hq
    obtain ⟨⟨_, _⟩, ⟨_, _⟩, ⟨_, _⟩⟩ := h1
    obtain ⟨⟨_, _⟩, ⟨_, _⟩, ⟨_, _⟩⟩ := h2
    exact ⟨vminus_any a x ⟨by omega, by omega⟩, vminus_any b y ⟨by omega, by omega⟩, vminus_any c z ⟨by omega, by omega⟩⟩) hE hU hV hT W
  clear hE hU hV hT
  have HC := Lib.hid hc
  clear hc
  have p0 : World.cell? (((w.alloc (.cells #[.int .i64 a, .int .i64 b, .int .i64 c] 27)).alloc (.cells #[.int .i64 x, .int .i64 y, .int .i64 z] 27)).alloc (.cells #[.int .i64 0, .int .i64 0, .int .i64 0] 27)) ⟨w.heap.size, 0, none⟩ = some (.int .i64 a) := by simp [go_sem]
  have p1 : World.cell? (((w.alloc (.cells #[.int .i64 a, .int .i64 b, .int .i64 c] 27)).alloc (.cells #[.int .i64 x, .int .i64 y, .int .i64 z] 27)).alloc (.cells #[.int .i64 0, .int .i64 0, .int .i64 0] 27)) ⟨w.heap.size, 1, none⟩ = some (.int .i64 b) := by simp [go_sem]
  have p2 : World.cell? (((w.alloc (.cells #[.int .i64 a, .int .i64 b, .int .i64 c] 27)).alloc (.cells #[.int .i64 x, .int .i64 y, .int .i64 z] 27)).alloc (.cells #[.int .i64 0, .int .i64 0, .int .i64 0] 27)) ⟨w.heap.size, 2, none⟩ = some (.int .i64 c) := by simp [go_sem]
  have lp : w.heap.size < (((w.alloc (.cells #[.int .i64 a, .int .i64 b, .int .i64 c] 27)).alloc (.cells #[.int .i64 x, .int .i64 y, .int .i64 z] 27)).alloc (.cells #[.int .i64 0, .int .i64 0, .int .i64 0] 27)).heap.size := by simp <;> omega
  have q0 : World.cell? (((w.alloc (.cells #[.int .i64 a, .int .i64 b, .int .i64 c] 27)).alloc (.cells #[.int .i64 x, .int .i64 y, .int .i64 z] 27)).alloc (.cells #[.int .i64 0, .int .i64 0, .int .i64 0] 27)) ⟨w.heap.size + 1, 0, none⟩ = some (.int .i64 x) := by simp [go_sem]
  have q1 : World.cell? (((w.alloc (.cells #[.int .i64 a, .int .i64 b, .int .i64 c] 27)).alloc (.cells #[.int .i64 x, .int .i64 y, .int .i64 z] 27)).alloc (.cells #[.int .i64 0, .int .i64 0, .int .i64 0] 27)) ⟨w.heap.size + 1, 1, none⟩ = some (.int .i64 y) := by simp [go_sem]
  have q2 : World.cell? (((w.alloc (.cells #[.int .i64 a, .int .i64 b, .int .i64 c] 27)).alloc (.cells #[.int .i64 x, .int .i64 y, .int .i64 z] 27)).alloc (.cells #[.int .i64 0, .int .i64 0, .int .i64 0] 27)) ⟨w.heap.size + 1, 2, none⟩ = some (.int .i64 z) := by simp [go_sem]
  have lq : w.heap.size + 1 < (((w.alloc (.cells #[.int .i64 a, .int .i64 b, .int .i64 c] 27)).alloc (.cells #[.int .i64 x, .int .i64 y, .int .i64 z] 27)).alloc (.cells #[.int .i64 0, .int .i64 0, .int .i64 0] 27)).heap.size := by simp <;> omega
  have o0 : World.cell? (((w.alloc (.cells #[.int .i64 a, .int .i64 b, .int .i64 c] 27)).alloc (.cells #[.int .i64 x, .int .i64 y, .int .i64 z] 27)).alloc (.cells #[.int .i64 0, .int .i64 0, .int .i64 0] 27)) ⟨w.heap.size + 1 + 1, 0, none⟩ = some (.int .i64 0) := by simp [go_sem]
  have fo0 : World.frozen? (((w.alloc (.cells #[.int .i64 a, .int .i64 b, .int .i64 c] 27)).alloc (.cells #[.int .i64 x, .int .i64 y, .int .i64 z] 27)).alloc (.cells #[.int .i64 0, .int .i64 0, .int .i64 0] 27)) ⟨w.heap.size + 1 + 1, 0, none⟩ = false := by simp [go_sem]
  have o1 : World.cell? (((w.alloc (.cells #[.int .i64 a, .int .i64 b, .int .i64 c] 27)).alloc (.cells #[.int .i64 x, .int .i64 y, .int .i64 z] 27)).alloc (.cells #[.int .i64 0, .int .i64 0, .int .i64 0] 27)) ⟨w.heap.size + 1 + 1, 1, none⟩ = some (.int .i64 0) := by simp [go_sem]
  have fo1 : World.frozen? (((w.alloc (.cells #[.int .i64 a, .int .i64 b, .int .i64 c] 27)).alloc (.cells #[.int .i64 x, .int .i64 y, .int .i64 z] 27)).alloc (.cells #[.int .i64 0, .int .i64 0, .int .i64 0] 27)) ⟨w.heap.size + 1 + 1, 1, none⟩ = false := by simp [go_sem]
  have o2 : World.cell? (((w.alloc (.cells #[.int .i64 a, .int .i64 b, .int .i64 c] 27)).alloc (.cells #[.int .i64 x, .int .i64 y, .int .i64 z] 27)).alloc (.cells #[.int .i64 0, .int .i64 0, .int .i64 0] 27)) ⟨w.heap.size + 1 + 1, 2, none⟩ = some (.int .i64 0) := by simp [go_sem]
  have fo2 : World.frozen? (((w.alloc (.cells #[.int .i64 a, .int .i64 b, .int .i64 c] 27)).alloc (.cells #[.int .i64 x, .int .i64 y, .int .i64 z] 27)).alloc (.cells #[.int .i64 0, .int .i64 0, .int .i64 0] 27)) ⟨w.heap.size + 1 + 1, 2, none⟩ = false := by simp [go_sem]
  have lo : w.heap.size + 1 + 1 < (((w.alloc (.cells #[.int .i64 a, .int .i64 b, .int .i64 c] 27)).alloc (.cells #[.int .i64 x, .int .i64 y, .int .i64 z] 27)).alloc (.cells #[.int .i64 0, .int .i64 0, .int .i64 0] 27)).heap.size := by simp <;> omega
  have HB := Lib.hid (show Below w.heap.size w (((w.alloc (.cells #[.int .i64 a, .int .i64 b, .int .i64 c] 27)).alloc (.cells #[.int .i64 x, .int .i64 y, .int .i64 z] 27)).alloc (.cells #[.int .i64 0, .int .i64 0, .int .i64 0] 27)) from ((((Below.refl _ _).alloc (by simp <;> omega) _).alloc (by simp <;> omega) _).alloc (by simp <;> omega) _))
  go_enter Try.func91, Try.ntmps91
  go_wp2_with fail
  generalize ((w.alloc (.cells #[.int .i64 a, .int .i64 b, .int .i64 c] 27)).alloc (.cells #[.int .i64 x, .int .i64 y, .int .i64 z] 27)).alloc (.cells #[.int .i64 0, .int .i64 0, .int .i64 0] 27) = w1 at *
  refine (HC.out _).mono ?_
  rintro e_ w2 ⟨rfl, hb⟩
  replace HB := Lib.hid (on_below HB.out hb)
  replace p0 := keepc hb p0
  replace p1 := keepc hb p1
  replace p2 := keepc hb p2
  replace q0 := keepc hb q0
  replace q1 := keepc hb q1
  replace q2 := keepc hb q2
  replace o0 := keepc hb o0
  replace o1 := keepc hb o1
  replace o2 := keepc hb o2
  replace fo0 := keepf hb lo fo0
  replace fo1 := keepf hb lo fo1
  replace fo2 := keepf hb lo fo2
  replace lp := Nat.lt_of_lt_of_le lp hb.size
  replace lq := Nat.lt_of_lt_of_le lq hb.size
  replace lo := Nat.lt_of_lt_of_le lo hb.size
  clear hb
  go_wp2_with fail
  refine bodyPost_ret (v := .tuple #[.agg #[.int .i64 U, .int .i64 V, .int .i64 T], .int .i64 E]) (by simp [results, Try.results91, go_sem, o0, o1, o2]) rfl ⟨rfl, ?_⟩
  repeat (refine Below.setCell ?_ (by first | exact Nat.le_refl _ | (simp; done) | (simp; omega) | omega) _)
  exact HB.out
set_option maxRecDepth 100000 in
set_option maxHeartbeats 2000000 in
theorem product_uvt (a b c x y z u v t : Int) (hu : a * x = u) (hv : b * y = v) (ht : c * z = t) (bu : -4000000 ≤ u ∧ u ≤ 4000000) (bv : -4000000 ≤ v ∧ v ≤ 4000000) (bt : -4000000 ≤ t ∧ t ≤ 4000000) (w : World) :
    Calls Try.prog 155 #[.agg #[.int .i64 a, .int .i64 b, .int .i64 c], .agg #[.int .i64 x, .int .i64 y, .int .i64 z]] w fun e w' => e = .returned (.int .i64 (u + v + t)) ∧ Below w.heap.size w w' := by
  have hc : ∀ W, Calls Try.prog 180 #[.agg #[.int .i64 a, .int .i64 b, .int .i64 c], .agg #[.int .i64 x, .int .i64 y, .int .i64 z], .func (.func 181) #[] #[]] W fun e w' => e = .returned (.agg #[.int .i64 u, .int .i64 v, .int .i64 t]) ∧ Below W.heap.size W w' := fun W => vcombine_any 181 vmult_enter a b c x y z u v t (fun W => hu ▸ vmult_any a x (by rw [hu]; exact ⟨by omega, by omega⟩) W) (fun W => hv ▸ vmult_any b y (by rw [hv]; exact ⟨by omega, by omega⟩) W) (fun W => ht ▸ vmult_any c z (by rw [ht]; exact ⟨by omega, by omega⟩) W) W
  clear hu hv ht
  have HC := Lib.hid hc
  clear hc
  have i0 := ix0 (.int .i64 u) (.int .i64 v) (.int .i64 t)
  have i1 := ix1 (.int .i64 u) (.int .i64 v) (.int .i64 t)
  have i2 := ix2 (.int .i64 u) (.int .i64 v) (.int .i64 t)
  have p0 : World.cell? ((w.alloc (.cells #[.int .i64 a, .int .i64 b, .int .i64 c] 27)).alloc (.cells #[.int .i64 x, .int .i64 y, .int .i64 z] 27)) ⟨w.heap.size, 0, none⟩ = some (.int .i64 a) := by simp [go_sem]
  have p1 : World.cell? ((w.alloc (.cells #[.int .i64 a, .int .i64 b, .int .i64 c] 27)).alloc (.cells #[.int .i64 x, .int .i64 y, .int .i64 z] 27)) ⟨w.heap.size, 1, none⟩ = some (.int .i64 b) := by simp [go_sem]
  have p2 : World.cell? ((w.alloc (.cells #[.int .i64 a, .int .i64 b, .int .i64 c] 27)).alloc (.cells #[.int .i64 x, .int .i64 y, .int .i64 z] 27)) ⟨w.heap.size, 2, none⟩ = some (.int .i64 c) := by simp [go_sem]
  have lp : w.heap.size < ((w.alloc (.cells #[.int .i64 a, .int .i64 b, .int .i64 c] 27)).alloc (.cells #[.int .i64 x, .int .i64 y, .int .i64 z] 27)).heap.size := by simp <;> omega
  have q0 : World.cell? ((w.alloc (.cells #[.int .i64 a, .int .i64 b, .int .i64 c] 27)).alloc (.cells #[.int .i64 x, .int .i64 y, .int .i64 z] 27)) ⟨w.heap.size + 1, 0, none⟩ = some (.int .i64 x) := by simp [go_sem]
  have q1 : World.cell? ((w.alloc (.cells #[.int .i64 a, .int .i64 b, .int .i64 c] 27)).alloc (.cells #[.int .i64 x, .int .i64 y, .int .i64 z] 27)) ⟨w.heap.size + 1, 1, none⟩ = some (.int .i64 y) := by simp [go_sem]
  have q2 : World.cell? ((w.alloc (.cells #[.int .i64 a, .int .i64 b, .int .i64 c] 27)).alloc (.cells #[.int .i64 x, .int .i64 y, .int .i64 z] 27)) ⟨w.heap.size + 1, 2, none⟩ = some (.int .i64 z) := by simp [go_sem]
  have lq : w.heap.size + 1 < ((w.alloc (.cells #[.int .i64 a, .int .i64 b, .int .i64 c] 27)).alloc (.cells #[.int .i64 x, .int .i64 y, .int .i64 z] 27)).heap.size := by simp <;> omega
  have HB := Lib.hid (show Below w.heap.size w ((w.alloc (.cells #[.int .i64 a, .int .i64 b, .int .i64 c] 27)).alloc (.cells #[.int .i64 x, .int .i64 y, .int .i64 z] 27)) from (((Below.refl _ _).alloc (by simp <;> omega) _).alloc (by simp <;> omega) _))
  go_enter Try.func155, Try.ntmps155
  go_wp2_with fail
  generalize (w.alloc (.cells #[.int .i64 a, .int .i64 b, .int .i64 c] 27)).alloc (.cells #[.int .i64 x, .int .i64 y, .int .i64 z] 27) = w1 at *
  refine (HC.out _).mono ?_
  rintro e_ w2 ⟨rfl, hb⟩
  replace HB := Lib.hid (on_below HB.out hb)
  replace p0 := keepc hb p0
  replace p1 := keepc hb p1
  replace p2 := keepc hb p2
  replace q0 := keepc hb q0
  replace q1 := keepc hb q1
  replace q2 := keepc hb q2
  replace lp := Nat.lt_of_lt_of_le lp hb.size
  replace lq := Nat.lt_of_lt_of_le lq hb.size
  clear hb
  go_wp2_with fail
  refine wp_loop_rounds 4 ?_
  rw [rounds_succ]
  go_wp2_with fail
  rw [rounds_succ]
  go_wp2_with fail
  rw [rounds_succ]
  go_wp2_with fail
  rw [rounds_succ]
  go_wp2_with fail
  go_ret
  exact ⟨rfl, HB.out⟩
theorem product_any (a b c x y z : Int) (h : V3 a b c) (k : V3 x y z) (w : World) :
    Calls Try.prog 155 #[.agg #[.int .i64 a, .int .i64 b, .int .i64 c], .agg #[.int .i64 x, .int .i64 y, .int .i64 z]] w fun e w' => e = .returned (.int .i64 (dt a b c x y z)) ∧ Below w.heap.size w w' :=
  product_uvt a b c x y z _ _ _ rfl rfl rfl (co_mul h.x k.x) (co_mul h.y k.y) (co_mul h.z k.z) w
theorem product_is (a b c x y z s : Int) (h : V3 a b c) (k : V3 x y z) (hs : dt a b c x y z = s) (w : World) :
    Calls Try.prog 155 #[.agg #[.int .i64 a, .int .i64 b, .int .i64 c], .agg #[.int .i64 x, .int .i64 y, .int .i64 z]] w fun e w' => e = .returned (.int .i64 s) ∧ Below w.heap.size w w' := hs ▸ product_any a b c x y z h k w
/-- A direction, a share of an angle. -/
def dr (a b c : Int) : Bool := vv a b c && !zv a b c
def shr (N D : Int) : Bool := vld N D && decide (0 ≤ N) && decide (N ≤ D) && decide (D ≤ 10000)
theorem dr_iff {a b c : Int} : dr a b c = true ↔ V3 a b c ∧ ¬ (a = 0 ∧ b = 0 ∧ c = 0) := by unfold dr; rw [Bool.and_eq_true, vv_iff, Bool.not_eq_true', zv_f]
theorem shr_iff {N D : Int} : shr N D = true ↔ vld N D = true ∧ 0 ≤ N ∧ N ≤ D ∧ D ≤ 10000 := by unfold shr; simp [and_assoc]
set_option maxRecDepth 100000 in
set_option maxHeartbeats 2000000 in
theorem dir_0 (a b c : Int) (hp : vv a b c = false) (w : World) :
    Calls Try.prog 153 #[.agg #[.int .i64 a, .int .i64 b, .int .i64 c]] w fun e_ w' => e_ = .returned (.bool false) ∧ Below w.heap.size w w' := by
  have HP := Lib.hid hp
  clear hp
  have z0 := fun W => vec_ne (a := a) (b := b) (c := c) (x := 0) (y := 0) (z := 0) (r := zv a b c) rfl W
  generalize zv a b c = q at *
  have p0 : World.cell? (w.alloc (.cells #[.int .i64 a, .int .i64 b, .int .i64 c] 27)) ⟨w.heap.size, 0, none⟩ = some (.int .i64 a) := by simp [go_sem]
  have p1 : World.cell? (w.alloc (.cells #[.int .i64 a, .int .i64 b, .int .i64 c] 27)) ⟨w.heap.size, 1, none⟩ = some (.int .i64 b) := by simp [go_sem]
  have p2 : World.cell? (w.alloc (.cells #[.int .i64 a, .int .i64 b, .int .i64 c] 27)) ⟨w.heap.size, 2, none⟩ = some (.int .i64 c) := by simp [go_sem]
  have lp : w.heap.size < (w.alloc (.cells #[.int .i64 a, .int .i64 b, .int .i64 c] 27)).heap.size := by simp <;> omega
  have HB := Lib.hid (show Below w.heap.size w (w.alloc (.cells #[.int .i64 a, .int .i64 b, .int .i64 c] 27)) from ((Below.refl _ _).alloc (by simp <;> omega) _))
  go_enter Try.func153, Try.ntmps153
  go_wp2_with fail
  generalize w.alloc (.cells #[.int .i64 a, .int .i64 b, .int .i64 c] 27) = w1 at *
  refine (vvalid_is a b c false HP.out _).mono ?_
  rintro e_ w2 ⟨rfl, hb⟩
  replace HB := Lib.hid (on_below HB.out hb)
  replace p0 := keepc hb p0
  replace p1 := keepc hb p1
  replace p2 := keepc hb p2
  replace lp := Nat.lt_of_lt_of_le lp hb.size
  clear hb
  go_wp2_with fail
  go_ret
  exact ⟨rfl, HB.out⟩
set_option maxRecDepth 100000 in
set_option maxHeartbeats 2000000 in
theorem dir_1 (a b c : Int) (hp : vv a b c = true) (w : World) :
    Calls Try.prog 153 #[.agg #[.int .i64 a, .int .i64 b, .int .i64 c]] w fun e_ w' => e_ = .returned (.bool (!zv a b c)) ∧ Below w.heap.size w w' := by
  have HP := Lib.hid hp
  clear hp
  have z0 := fun W => vec_ne (a := a) (b := b) (c := c) (x := 0) (y := 0) (z := 0) (r := zv a b c) rfl W
  generalize zv a b c = q at *
  have p0 : World.cell? (w.alloc (.cells #[.int .i64 a, .int .i64 b, .int .i64 c] 27)) ⟨w.heap.size, 0, none⟩ = some (.int .i64 a) := by simp [go_sem]
  have p1 : World.cell? (w.alloc (.cells #[.int .i64 a, .int .i64 b, .int .i64 c] 27)) ⟨w.heap.size, 1, none⟩ = some (.int .i64 b) := by simp [go_sem]
  have p2 : World.cell? (w.alloc (.cells #[.int .i64 a, .int .i64 b, .int .i64 c] 27)) ⟨w.heap.size, 2, none⟩ = some (.int .i64 c) := by simp [go_sem]
  have lp : w.heap.size < (w.alloc (.cells #[.int .i64 a, .int .i64 b, .int .i64 c] 27)).heap.size := by simp <;> omega
  have HB := Lib.hid (show Below w.heap.size w (w.alloc (.cells #[.int .i64 a, .int .i64 b, .int .i64 c] 27)) from ((Below.refl _ _).alloc (by simp <;> omega) _))
  go_enter Try.func153, Try.ntmps153
  go_wp2_with fail
  generalize w.alloc (.cells #[.int .i64 a, .int .i64 b, .int .i64 c] 27) = w1 at *
  refine (vvalid_is a b c true HP.out _).mono ?_
  rintro e_ w2 ⟨rfl, hb⟩
  replace HB := Lib.hid (on_below HB.out hb)
  replace p0 := keepc hb p0
  replace p1 := keepc hb p1
  replace p2 := keepc hb p2
  replace lp := Nat.lt_of_lt_of_le lp hb.size
  clear hb
  go_wp2_with fail
  go_ret
  exact ⟨rfl, HB.out⟩
theorem direction_is (a b c : Int) (r : Bool) (h : dr a b c = r) (w : World) :
    Calls Try.prog 153 #[.agg #[.int .i64 a, .int .i64 b, .int .i64 c]] w fun e_ w' => e_ = .returned (.bool r) ∧ Below w.heap.size w w' := by
  subst h
  unfold dr
  cases hp : vv a b c
  · exact dir_0 a b c hp w
  · exact dir_1 a b c hp w
set_option maxRecDepth 100000 in
set_option maxHeartbeats 2000000 in
theorem vshare_0 (N D : Int) (iN : I64 N) (iD : I64 D) (hp : vld N D = false) (w : World) :
    Calls Try.prog 154 #[.agg #[.int .i64 N, .int .i64 D]] w fun e_ w' => e_ = .returned (.bool false) ∧ Below w.heap.size w w' := by
  have HN := Lib.hid iN
  have HD := Lib.hid iD
  clear iN iD
  have HP := Lib.hid hp
  clear hp
  have p0 : World.cell? (w.alloc (.cells #[.int .i64 N, .int .i64 D] 36)) ⟨w.heap.size, 0, none⟩ = some (.int .i64 N) := by simp [go_sem]
  have p1 : World.cell? (w.alloc (.cells #[.int .i64 N, .int .i64 D] 36)) ⟨w.heap.size, 1, none⟩ = some (.int .i64 D) := by simp [go_sem]
  have lp : w.heap.size < (w.alloc (.cells #[.int .i64 N, .int .i64 D] 36)).heap.size := by simp <;> omega
  have HB := Lib.hid (show Below w.heap.size w (w.alloc (.cells #[.int .i64 N, .int .i64 D] 36)) from ((Below.refl _ _).alloc (by simp <;> omega) _))
  go_enter Try.func154, Try.ntmps154
  go_wp2_with fail
  generalize w.alloc (.cells #[.int .i64 N, .int .i64 D] 36) = w1 at *
  refine (rvalid_any N D _ HN.out.1 HN.out.2 HD.out.1 HD.out.2).mono ?_
  rintro e_ w2 ⟨he, hb⟩
  rw [HP.out] at he
  subst he
  replace HB := Lib.hid (on_below HB.out hb)
  replace p0 := keepc hb p0
  replace p1 := keepc hb p1
  replace lp := Nat.lt_of_lt_of_le lp hb.size
  clear hb
  go_wp2_with fail
  all_goals (go_ret; exact ⟨rfl, HB.out⟩)
set_option maxRecDepth 100000 in
set_option maxHeartbeats 2000000 in
theorem vshare_1 (N D : Int) (iN : I64 N) (iD : I64 D) (hp : vld N D = true) (w : World) :
    Calls Try.prog 154 #[.agg #[.int .i64 N, .int .i64 D]] w fun e_ w' => e_ = .returned (.bool (decide (0 ≤ N) && decide (N ≤ D) && decide (D ≤ 10000))) ∧ Below w.heap.size w w' := by
  have HN := Lib.hid iN
  have HD := Lib.hid iD
  clear iN iD
  have HP := Lib.hid hp
  clear hp
  have p0 : World.cell? (w.alloc (.cells #[.int .i64 N, .int .i64 D] 36)) ⟨w.heap.size, 0, none⟩ = some (.int .i64 N) := by simp [go_sem]
  have p1 : World.cell? (w.alloc (.cells #[.int .i64 N, .int .i64 D] 36)) ⟨w.heap.size, 1, none⟩ = some (.int .i64 D) := by simp [go_sem]
  have lp : w.heap.size < (w.alloc (.cells #[.int .i64 N, .int .i64 D] 36)).heap.size := by simp <;> omega
  have HB := Lib.hid (show Below w.heap.size w (w.alloc (.cells #[.int .i64 N, .int .i64 D] 36)) from ((Below.refl _ _).alloc (by simp <;> omega) _))
  go_enter Try.func154, Try.ntmps154
  go_wp2_with fail
  generalize w.alloc (.cells #[.int .i64 N, .int .i64 D] 36) = w1 at *
  refine (rvalid_any N D _ HN.out.1 HN.out.2 HD.out.1 HD.out.2).mono ?_
  rintro e_ w2 ⟨he, hb⟩
  rw [HP.out] at he
  subst he
  replace HB := Lib.hid (on_below HB.out hb)
  replace p0 := keepc hb p0
  replace p1 := keepc hb p1
  replace lp := Nat.lt_of_lt_of_le lp hb.size
  clear hb
  go_wp2_with fail
  all_goals (go_ret; exact ⟨ret_bool (by rw [Bool.eq_iff_iff]; simp; try omega), HB.out⟩)
theorem vshare_is (N D : Int) (r : Bool) (iN : I64 N) (iD : I64 D) (h : shr N D = r) (w : World) :
    Calls Try.prog 154 #[.agg #[.int .i64 N, .int .i64 D]] w fun e_ w' => e_ = .returned (.bool r) ∧ Below w.heap.size w w' := by
  subst h
  unfold shr
  cases hp : vld N D
  · exact vshare_0 N D iN iD hp w
  · rw [Bool.true_and]; exact vshare_1 N D iN iD hp w
set_option maxRecDepth 100000 in
set_option maxHeartbeats 2000000 in
theorem near_1 (a b c x y z N D : Int) (iN : I64 N) (iD : I64 D) (h0 : dr a b c = false) (w : World) :
    Calls Try.prog 92 #[.agg #[.int .i64 a, .int .i64 b, .int .i64 c], .agg #[.int .i64 x, .int .i64 y, .int .i64 z], .agg #[.int .i64 N, .int .i64 D]] w fun e_ w' => e_ = .returned (.tuple #[.bool false, .int .i64 1]) ∧ Below w.heap.size w w' := by
  have HN := Lib.hid iN
  clear iN
  have HD := Lib.hid iD
  clear iD
  have H0 := Lib.hid h0
  clear h0
  have p0 : World.cell? (((w.alloc (.cells #[.int .i64 a, .int .i64 b, .int .i64 c] 27)).alloc (.cells #[.int .i64 x, .int .i64 y, .int .i64 z] 27)).alloc (.cells #[.int .i64 N, .int .i64 D] 36)) ⟨w.heap.size, 0, none⟩ = some (.int .i64 a) := by simp [go_sem]
  have p1 : World.cell? (((w.alloc (.cells #[.int .i64 a, .int .i64 b, .int .i64 c] 27)).alloc (.cells #[.int .i64 x, .int .i64 y, .int .i64 z] 27)).alloc (.cells #[.int .i64 N, .int .i64 D] 36)) ⟨w.heap.size, 1, none⟩ = some (.int .i64 b) := by simp [go_sem]
  have p2 : World.cell? (((w.alloc (.cells #[.int .i64 a, .int .i64 b, .int .i64 c] 27)).alloc (.cells #[.int .i64 x, .int .i64 y, .int .i64 z] 27)).alloc (.cells #[.int .i64 N, .int .i64 D] 36)) ⟨w.heap.size, 2, none⟩ = some (.int .i64 c) := by simp [go_sem]
  have lp : w.heap.size < (((w.alloc (.cells #[.int .i64 a, .int .i64 b, .int .i64 c] 27)).alloc (.cells #[.int .i64 x, .int .i64 y, .int .i64 z] 27)).alloc (.cells #[.int .i64 N, .int .i64 D] 36)).heap.size := by simp <;> omega
  have q0 : World.cell? (((w.alloc (.cells #[.int .i64 a, .int .i64 b, .int .i64 c] 27)).alloc (.cells #[.int .i64 x, .int .i64 y, .int .i64 z] 27)).alloc (.cells #[.int .i64 N, .int .i64 D] 36)) ⟨w.heap.size + 1, 0, none⟩ = some (.int .i64 x) := by simp [go_sem]
  have q1 : World.cell? (((w.alloc (.cells #[.int .i64 a, .int .i64 b, .int .i64 c] 27)).alloc (.cells #[.int .i64 x, .int .i64 y, .int .i64 z] 27)).alloc (.cells #[.int .i64 N, .int .i64 D] 36)) ⟨w.heap.size + 1, 1, none⟩ = some (.int .i64 y) := by simp [go_sem]
  have q2 : World.cell? (((w.alloc (.cells #[.int .i64 a, .int .i64 b, .int .i64 c] 27)).alloc (.cells #[.int .i64 x, .int .i64 y, .int .i64 z] 27)).alloc (.cells #[.int .i64 N, .int .i64 D] 36)) ⟨w.heap.size + 1, 2, none⟩ = some (.int .i64 z) := by simp [go_sem]
  have lq : w.heap.size + 1 < (((w.alloc (.cells #[.int .i64 a, .int .i64 b, .int .i64 c] 27)).alloc (.cells #[.int .i64 x, .int .i64 y, .int .i64 z] 27)).alloc (.cells #[.int .i64 N, .int .i64 D] 36)).heap.size := by simp <;> omega
  have o0 : World.cell? (((w.alloc (.cells #[.int .i64 a, .int .i64 b, .int .i64 c] 27)).alloc (.cells #[.int .i64 x, .int .i64 y, .int .i64 z] 27)).alloc (.cells #[.int .i64 N, .int .i64 D] 36)) ⟨w.heap.size + 1 + 1, 0, none⟩ = some (.int .i64 N) := by simp [go_sem]
  have o1 : World.cell? (((w.alloc (.cells #[.int .i64 a, .int .i64 b, .int .i64 c] 27)).alloc (.cells #[.int .i64 x, .int .i64 y, .int .i64 z] 27)).alloc (.cells #[.int .i64 N, .int .i64 D] 36)) ⟨w.heap.size + 1 + 1, 1, none⟩ = some (.int .i64 D) := by simp [go_sem]
  have lo : w.heap.size + 1 + 1 < (((w.alloc (.cells #[.int .i64 a, .int .i64 b, .int .i64 c] 27)).alloc (.cells #[.int .i64 x, .int .i64 y, .int .i64 z] 27)).alloc (.cells #[.int .i64 N, .int .i64 D] 36)).heap.size := by simp <;> omega
  have HB := Lib.hid (show Below w.heap.size w (((w.alloc (.cells #[.int .i64 a, .int .i64 b, .int .i64 c] 27)).alloc (.cells #[.int .i64 x, .int .i64 y, .int .i64 z] 27)).alloc (.cells #[.int .i64 N, .int .i64 D] 36)) from ((((Below.refl _ _).alloc (by simp <;> omega) _).alloc (by simp <;> omega) _).alloc (by simp <;> omega) _))
  go_enter Try.func92, Try.ntmps92
  go_wp2_with fail
  generalize ((w.alloc (.cells #[.int .i64 a, .int .i64 b, .int .i64 c] 27)).alloc (.cells #[.int .i64 x, .int .i64 y, .int .i64 z] 27)).alloc (.cells #[.int .i64 N, .int .i64 D] 36) = w1 at *
  refine (direction_is a b c false H0.out _).mono ?_
  rintro e_ w2 ⟨rfl, hb⟩
  replace HB := Lib.hid (on_below HB.out hb)
  replace p0 := keepc hb p0
  replace p1 := keepc hb p1
  replace p2 := keepc hb p2
  replace q0 := keepc hb q0
  replace q1 := keepc hb q1
  replace q2 := keepc hb q2
  replace o0 := keepc hb o0
  replace o1 := keepc hb o1
  replace lp := Nat.lt_of_lt_of_le lp hb.size
  replace lq := Nat.lt_of_lt_of_le lq hb.size
  replace lo := Nat.lt_of_lt_of_le lo hb.size
  clear hb
  go_wp2_with fail
  go_ret2
  exact ⟨rfl, HB.out⟩
set_option maxRecDepth 100000 in
set_option maxHeartbeats 2000000 in
theorem near_2 (a b c x y z N D : Int) (iN : I64 N) (iD : I64 D) (h0 : dr a b c = true) (h1 : dr x y z = false) (w : World) :
    Calls Try.prog 92 #[.agg #[.int .i64 a, .int .i64 b, .int .i64 c], .agg #[.int .i64 x, .int .i64 y, .int .i64 z], .agg #[.int .i64 N, .int .i64 D]] w fun e_ w' => e_ = .returned (.tuple #[.bool false, .int .i64 1]) ∧ Below w.heap.size w w' := by
  have HN := Lib.hid iN
  clear iN
  have HD := Lib.hid iD
  clear iD
  have H0 := Lib.hid h0
  clear h0
  have H1 := Lib.hid h1
  clear h1
  have p0 : World.cell? (((w.alloc (.cells #[.int .i64 a, .int .i64 b, .int .i64 c] 27)).alloc (.cells #[.int .i64 x, .int .i64 y, .int .i64 z] 27)).alloc (.cells #[.int .i64 N, .int .i64 D] 36)) ⟨w.heap.size, 0, none⟩ = some (.int .i64 a) := by simp [go_sem]
  have p1 : World.cell? (((w.alloc (.cells #[.int .i64 a, .int .i64 b, .int .i64 c] 27)).alloc (.cells #[.int .i64 x, .int .i64 y, .int .i64 z] 27)).alloc (.cells #[.int .i64 N, .int .i64 D] 36)) ⟨w.heap.size, 1, none⟩ = some (.int .i64 b) := by simp [go_sem]
  have p2 : World.cell? (((w.alloc (.cells #[.int .i64 a, .int .i64 b, .int .i64 c] 27)).alloc (.cells #[.int .i64 x, .int .i64 y, .int .i64 z] 27)).alloc (.cells #[.int .i64 N, .int .i64 D] 36)) ⟨w.heap.size, 2, none⟩ = some (.int .i64 c) := by simp [go_sem]
  have lp : w.heap.size < (((w.alloc (.cells #[.int .i64 a, .int .i64 b, .int .i64 c] 27)).alloc (.cells #[.int .i64 x, .int .i64 y, .int .i64 z] 27)).alloc (.cells #[.int .i64 N, .int .i64 D] 36)).heap.size := by simp <;> omega
  have q0 : World.cell? (((w.alloc (.cells #[.int .i64 a, .int .i64 b, .int .i64 c] 27)).alloc (.cells #[.int .i64 x, .int .i64 y, .int .i64 z] 27)).alloc (.cells #[.int .i64 N, .int .i64 D] 36)) ⟨w.heap.size + 1, 0, none⟩ = some (.int .i64 x) := by simp [go_sem]
  have q1 : World.cell? (((w.alloc (.cells #[.int .i64 a, .int .i64 b, .int .i64 c] 27)).alloc (.cells #[.int .i64 x, .int .i64 y, .int .i64 z] 27)).alloc (.cells #[.int .i64 N, .int .i64 D] 36)) ⟨w.heap.size + 1, 1, none⟩ = some (.int .i64 y) := by simp [go_sem]
  have q2 : World.cell? (((w.alloc (.cells #[.int .i64 a, .int .i64 b, .int .i64 c] 27)).alloc (.cells #[.int .i64 x, .int .i64 y, .int .i64 z] 27)).alloc (.cells #[.int .i64 N, .int .i64 D] 36)) ⟨w.heap.size + 1, 2, none⟩ = some (.int .i64 z) := by simp [go_sem]
  have lq : w.heap.size + 1 < (((w.alloc (.cells #[.int .i64 a, .int .i64 b, .int .i64 c] 27)).alloc (.cells #[.int .i64 x, .int .i64 y, .int .i64 z] 27)).alloc (.cells #[.int .i64 N, .int .i64 D] 36)).heap.size := by simp <;> omega
  have o0 : World.cell? (((w.alloc (.cells #[.int .i64 a, .int .i64 b, .int .i64 c] 27)).alloc (.cells #[.int .i64 x, .int .i64 y, .int .i64 z] 27)).alloc (.cells #[.int .i64 N, .int .i64 D] 36)) ⟨w.heap.size + 1 + 1, 0, none⟩ = some (.int .i64 N) := by simp [go_sem]
  have o1 : World.cell? (((w.alloc (.cells #[.int .i64 a, .int .i64 b, .int .i64 c] 27)).alloc (.cells #[.int .i64 x, .int .i64 y, .int .i64 z] 27)).alloc (.cells #[.int .i64 N, .int .i64 D] 36)) ⟨w.heap.size + 1 + 1, 1, none⟩ = some (.int .i64 D) := by simp [go_sem]
  have lo : w.heap.size + 1 + 1 < (((w.alloc (.cells #[.int .i64 a, .int .i64 b, .int .i64 c] 27)).alloc (.cells #[.int .i64 x, .int .i64 y, .int .i64 z] 27)).alloc (.cells #[.int .i64 N, .int .i64 D] 36)).heap.size := by simp <;> omega
  have HB := Lib.hid (show Below w.heap.size w (((w.alloc (.cells #[.int .i64 a, .int .i64 b, .int .i64 c] 27)).alloc (.cells #[.int .i64 x, .int .i64 y, .int .i64 z] 27)).alloc (.cells #[.int .i64 N, .int .i64 D] 36)) from ((((Below.refl _ _).alloc (by simp <;> omega) _).alloc (by simp <;> omega) _).alloc (by simp <;> omega) _))
  go_enter Try.func92, Try.ntmps92
  go_wp2_with fail
  generalize ((w.alloc (.cells #[.int .i64 a, .int .i64 b, .int .i64 c] 27)).alloc (.cells #[.int .i64 x, .int .i64 y, .int .i64 z] 27)).alloc (.cells #[.int .i64 N, .int .i64 D] 36) = w1 at *
  refine (direction_is a b c true H0.out _).mono ?_
  rintro e_ w2 ⟨rfl, hb⟩
  replace HB := Lib.hid (on_below HB.out hb)
  replace p0 := keepc hb p0
  replace p1 := keepc hb p1
  replace p2 := keepc hb p2
  replace q0 := keepc hb q0
  replace q1 := keepc hb q1
  replace q2 := keepc hb q2
  replace o0 := keepc hb o0
  replace o1 := keepc hb o1
  replace lp := Nat.lt_of_lt_of_le lp hb.size
  replace lq := Nat.lt_of_lt_of_le lq hb.size
  replace lo := Nat.lt_of_lt_of_le lo hb.size
  clear hb
  go_wp2_with fail
  refine (direction_is x y z false H1.out _).mono ?_
  rintro e_ w3 ⟨rfl, hb⟩
  replace HB := Lib.hid (on_below HB.out hb)
  replace p0 := keepc hb p0
  replace p1 := keepc hb p1
  replace p2 := keepc hb p2
  replace q0 := keepc hb q0
  replace q1 := keepc hb q1
  replace q2 := keepc hb q2
  replace o0 := keepc hb o0
  replace o1 := keepc hb o1
  replace lp := Nat.lt_of_lt_of_le lp hb.size
  replace lq := Nat.lt_of_lt_of_le lq hb.size
  replace lo := Nat.lt_of_lt_of_le lo hb.size
  clear hb
  go_wp2_with fail
  go_ret2
  exact ⟨rfl, HB.out⟩
set_option maxRecDepth 100000 in
set_option maxHeartbeats 2000000 in
theorem near_3 (a b c x y z N D : Int) (iN : I64 N) (iD : I64 D) (h0 : dr a b c = true) (h1 : dr x y z = true) (h2 : shr N D = false) (w : World) :
    Calls Try.prog 92 #[.agg #[.int .i64 a, .int .i64 b, .int .i64 c], .agg #[.int .i64 x, .int .i64 y, .int .i64 z], .agg #[.int .i64 N, .int .i64 D]] w fun e_ w' => e_ = .returned (.tuple #[.bool false, .int .i64 1]) ∧ Below w.heap.size w w' := by
  have HN := Lib.hid iN
  clear iN
  have HD := Lib.hid iD
  clear iD
  have H0 := Lib.hid h0
  clear h0
  have H1 := Lib.hid h1
  clear h1
  have H2 := Lib.hid h2
  clear h2
  have p0 : World.cell? (((w.alloc (.cells #[.int .i64 a, .int .i64 b, .int .i64 c] 27)).alloc (.cells #[.int .i64 x, .int .i64 y, .int .i64 z] 27)).alloc (.cells #[.int .i64 N, .int .i64 D] 36)) ⟨w.heap.size, 0, none⟩ = some (.int .i64 a) := by simp [go_sem]
  have p1 : World.cell? (((w.alloc (.cells #[.int .i64 a, .int .i64 b, .int .i64 c] 27)).alloc (.cells #[.int .i64 x, .int .i64 y, .int .i64 z] 27)).alloc (.cells #[.int .i64 N, .int .i64 D] 36)) ⟨w.heap.size, 1, none⟩ = some (.int .i64 b) := by simp [go_sem]
  have p2 : World.cell? (((w.alloc (.cells #[.int .i64 a, .int .i64 b, .int .i64 c] 27)).alloc (.cells #[.int .i64 x, .int .i64 y, .int .i64 z] 27)).alloc (.cells #[.int .i64 N, .int .i64 D] 36)) ⟨w.heap.size, 2, none⟩ = some (.int .i64 c) := by simp [go_sem]
  have lp : w.heap.size < (((w.alloc (.cells #[.int .i64 a, .int .i64 b, .int .i64 c] 27)).alloc (.cells #[.int .i64 x, .int .i64 y, .int .i64 z] 27)).alloc (.cells #[.int .i64 N, .int .i64 D] 36)).heap.size := by simp <;> omega
  have q0 : World.cell? (((w.alloc (.cells #[.int .i64 a, .int .i64 b, .int .i64 c] 27)).alloc (.cells #[.int .i64 x, .int .i64 y, .int .i64 z] 27)).alloc (.cells #[.int .i64 N, .int .i64 D] 36)) ⟨w.heap.size + 1, 0, none⟩ = some (.int .i64 x) := by simp [go_sem]
  have q1 : World.cell? (((w.alloc (.cells #[.int .i64 a, .int .i64 b, .int .i64 c] 27)).alloc (.cells #[.int .i64 x, .int .i64 y, .int .i64 z] 27)).alloc (.cells #[.int .i64 N, .int .i64 D] 36)) ⟨w.heap.size + 1, 1, none⟩ = some (.int .i64 y) := by simp [go_sem]
  have q2 : World.cell? (((w.alloc (.cells #[.int .i64 a, .int .i64 b, .int .i64 c] 27)).alloc (.cells #[.int .i64 x, .int .i64 y, .int .i64 z] 27)).alloc (.cells #[.int .i64 N, .int .i64 D] 36)) ⟨w.heap.size + 1, 2, none⟩ = some (.int .i64 z) := by simp [go_sem]
  have lq : w.heap.size + 1 < (((w.alloc (.cells #[.int .i64 a, .int .i64 b, .int .i64 c] 27)).alloc (.cells #[.int .i64 x, .int .i64 y, .int .i64 z] 27)).alloc (.cells #[.int .i64 N, .int .i64 D] 36)).heap.size := by simp <;> omega
  have o0 : World.cell? (((w.alloc (.cells #[.int .i64 a, .int .i64 b, .int .i64 c] 27)).alloc (.cells #[.int .i64 x, .int .i64 y, .int .i64 z] 27)).alloc (.cells #[.int .i64 N, .int .i64 D] 36)) ⟨w.heap.size + 1 + 1, 0, none⟩ = some (.int .i64 N) := by simp [go_sem]
  have o1 : World.cell? (((w.alloc (.cells #[.int .i64 a, .int .i64 b, .int .i64 c] 27)).alloc (.cells #[.int .i64 x, .int .i64 y, .int .i64 z] 27)).alloc (.cells #[.int .i64 N, .int .i64 D] 36)) ⟨w.heap.size + 1 + 1, 1, none⟩ = some (.int .i64 D) := by simp [go_sem]
  have lo : w.heap.size + 1 + 1 < (((w.alloc (.cells #[.int .i64 a, .int .i64 b, .int .i64 c] 27)).alloc (.cells #[.int .i64 x, .int .i64 y, .int .i64 z] 27)).alloc (.cells #[.int .i64 N, .int .i64 D] 36)).heap.size := by simp <;> omega
  have HB := Lib.hid (show Below w.heap.size w (((w.alloc (.cells #[.int .i64 a, .int .i64 b, .int .i64 c] 27)).alloc (.cells #[.int .i64 x, .int .i64 y, .int .i64 z] 27)).alloc (.cells #[.int .i64 N, .int .i64 D] 36)) from ((((Below.refl _ _).alloc (by simp <;> omega) _).alloc (by simp <;> omega) _).alloc (by simp <;> omega) _))
  go_enter Try.func92, Try.ntmps92
  go_wp2_with fail
  generalize ((w.alloc (.cells #[.int .i64 a, .int .i64 b, .int .i64 c] 27)).alloc (.cells #[.int .i64 x, .int .i64 y, .int .i64 z] 27)).alloc (.cells #[.int .i64 N, .int .i64 D] 36) = w1 at *
  refine (direction_is a b c true H0.out _).mono ?_
  rintro e_ w2 ⟨rfl, hb⟩
  replace HB := Lib.hid (on_below HB.out hb)
  replace p0 := keepc hb p0
  replace p1 := keepc hb p1
  replace p2 := keepc hb p2
  replace q0 := keepc hb q0
  replace q1 := keepc hb q1
  replace q2 := keepc hb q2
  replace o0 := keepc hb o0
  replace o1 := keepc hb o1
  replace lp := Nat.lt_of_lt_of_le lp hb.size
  replace lq := Nat.lt_of_lt_of_le lq hb.size
  replace lo := Nat.lt_of_lt_of_le lo hb.size
  clear hb
  go_wp2_with fail
  refine (direction_is x y z true H1.out _).mono ?_
  rintro e_ w3 ⟨rfl, hb⟩
  replace HB := Lib.hid (on_below HB.out hb)
  replace p0 := keepc hb p0
  replace p1 := keepc hb p1
  replace p2 := keepc hb p2
  replace q0 := keepc hb q0
  replace q1 := keepc hb q1
  replace q2 := keepc hb q2
  replace o0 := keepc hb o0
  replace o1 := keepc hb o1
  replace lp := Nat.lt_of_lt_of_le lp hb.size
  replace lq := Nat.lt_of_lt_of_le lq hb.size
  replace lo := Nat.lt_of_lt_of_le lo hb.size
  clear hb
  go_wp2_with fail
  refine (vshare_is N D false HN.out HD.out H2.out _).mono ?_
  rintro e_ w4 ⟨rfl, hb⟩
  replace HB := Lib.hid (on_below HB.out hb)
  replace p0 := keepc hb p0
  replace p1 := keepc hb p1
  replace p2 := keepc hb p2
  replace q0 := keepc hb q0
  replace q1 := keepc hb q1
  replace q2 := keepc hb q2
  replace o0 := keepc hb o0
  replace o1 := keepc hb o1
  replace lp := Nat.lt_of_lt_of_le lp hb.size
  replace lq := Nat.lt_of_lt_of_le lq hb.size
  replace lo := Nat.lt_of_lt_of_le lo hb.size
  clear hb
  go_wp2_with fail
  go_ret2
  exact ⟨rfl, HB.out⟩
set_option maxRecDepth 100000 in
set_option maxHeartbeats 2000000 in
theorem near_pos (a b c x y z N D : Int) (iN : I64 N) (iD : I64 D) (va : V3 a b c) (vx : V3 x y z) (A B s : Int) (eA : dt a b c a b c = A) (eB : dt x y z x y z = B) (eS : dt a b c x y z = s) (h0 : dr a b c = true) (h1 : dr x y z = true) (h2 : shr N D = true) (hs : 0 < s) (r : Bool) (hr : decide (N * A * B ≤ s * s * D) = r) (hN : 0 ≤ N ∧ N ≤ 10000) (hD : 0 ≤ D ∧ D ≤ 10000) (w : World) :
    Calls Try.prog 92 #[.agg #[.int .i64 a, .int .i64 b, .int .i64 c], .agg #[.int .i64 x, .int .i64 y, .int .i64 z], .agg #[.int .i64 N, .int .i64 D]] w fun e_ w' => e_ = .returned (.tuple #[.bool r, .int .i64 0]) ∧ Below w.heap.size w w' := by
  have hsb := eS ▸ dt_bd va vx
  have hAb := eA ▸ dt_bd va va
  have hBb := eB ▸ dt_bd vx vx
  have hA0 := eA ▸ dt_nn a b c
  have hB0 := eB ▸ dt_nn x y z
  obtain ⟨k1, k2, k3, k4, k5⟩ := nr_bd hsb ⟨hA0, hAb.2⟩ ⟨hB0, hBb.2⟩ hN hD
  have f1 : IntKind.i64.wrap (s * s) = s * s := IntWalk.i64_in _ ⟨by omega, by omega⟩
  have f2 : IntKind.i64.wrap (s * s * D) = s * s * D := IntWalk.i64_in _ ⟨by omega, by omega⟩
  have f3 : IntKind.i64.wrap (N * A) = N * A := IntWalk.i64_in _ ⟨by omega, by omega⟩
  have f4 : IntKind.i64.wrap (N * A * B) = N * A * B := IntWalk.i64_in _ ⟨by omega, by omega⟩
  have g1 : wrap64 (s * s) = s * s := IntWalk.wrap64_in _ ⟨by omega, by omega⟩
  have g2 : wrap64 (s * s * D) = s * s * D := IntWalk.wrap64_in _ ⟨by omega, by omega⟩
  have g3 : wrap64 (N * A) = N * A := IntWalk.wrap64_in _ ⟨by omega, by omega⟩
  have g4 : wrap64 (N * A * B) = N * A * B := IntWalk.wrap64_in _ ⟨by omega, by omega⟩
  clear hsb hAb hBb hA0 hB0 k1 k2 k3 k4 k5 hN hD
  have HA := Lib.hid (fun W => product_is a b c a b c A va va eA W)
  have HC := Lib.hid (fun W => product_is x y z x y z B vx vx eB W)
  have HM := Lib.hid (fun W => product_is a b c x y z s va vx eS W)
  have HG := Lib.hid (fun W => sgn_is s (1) (sgz_one.2 hs) W)
  clear va vx eA eB eS
  have HN := Lib.hid iN
  clear iN
  have HD := Lib.hid iD
  clear iD
  have H0 := Lib.hid h0
  clear h0
  have H1 := Lib.hid h1
  clear h1
  have H2 := Lib.hid h2
  clear h2
  have HR := Lib.hid hr
  clear hr
  have hd : decide (0 < s) = true := decide_eq_true hs
  have p0 : World.cell? (((w.alloc (.cells #[.int .i64 a, .int .i64 b, .int .i64 c] 27)).alloc (.cells #[.int .i64 x, .int .i64 y, .int .i64 z] 27)).alloc (.cells #[.int .i64 N, .int .i64 D] 36)) ⟨w.heap.size, 0, none⟩ = some (.int .i64 a) := by simp [go_sem]
  have p1 : World.cell? (((w.alloc (.cells #[.int .i64 a, .int .i64 b, .int .i64 c] 27)).alloc (.cells #[.int .i64 x, .int .i64 y, .int .i64 z] 27)).alloc (.cells #[.int .i64 N, .int .i64 D] 36)) ⟨w.heap.size, 1, none⟩ = some (.int .i64 b) := by simp [go_sem]
  have p2 : World.cell? (((w.alloc (.cells #[.int .i64 a, .int .i64 b, .int .i64 c] 27)).alloc (.cells #[.int .i64 x, .int .i64 y, .int .i64 z] 27)).alloc (.cells #[.int .i64 N, .int .i64 D] 36)) ⟨w.heap.size, 2, none⟩ = some (.int .i64 c) := by simp [go_sem]
  have lp : w.heap.size < (((w.alloc (.cells #[.int .i64 a, .int .i64 b, .int .i64 c] 27)).alloc (.cells #[.int .i64 x, .int .i64 y, .int .i64 z] 27)).alloc (.cells #[.int .i64 N, .int .i64 D] 36)).heap.size := by simp <;> omega
  have q0 : World.cell? (((w.alloc (.cells #[.int .i64 a, .int .i64 b, .int .i64 c] 27)).alloc (.cells #[.int .i64 x, .int .i64 y, .int .i64 z] 27)).alloc (.cells #[.int .i64 N, .int .i64 D] 36)) ⟨w.heap.size + 1, 0, none⟩ = some (.int .i64 x) := by simp [go_sem]
  have q1 : World.cell? (((w.alloc (.cells #[.int .i64 a, .int .i64 b, .int .i64 c] 27)).alloc (.cells #[.int .i64 x, .int .i64 y, .int .i64 z] 27)).alloc (.cells #[.int .i64 N, .int .i64 D] 36)) ⟨w.heap.size + 1, 1, none⟩ = some (.int .i64 y) := by simp [go_sem]
  have q2 : World.cell? (((w.alloc (.cells #[.int .i64 a, .int .i64 b, .int .i64 c] 27)).alloc (.cells #[.int .i64 x, .int .i64 y, .int .i64 z] 27)).alloc (.cells #[.int .i64 N, .int .i64 D] 36)) ⟨w.heap.size + 1, 2, none⟩ = some (.int .i64 z) := by simp [go_sem]
  have lq : w.heap.size + 1 < (((w.alloc (.cells #[.int .i64 a, .int .i64 b, .int .i64 c] 27)).alloc (.cells #[.int .i64 x, .int .i64 y, .int .i64 z] 27)).alloc (.cells #[.int .i64 N, .int .i64 D] 36)).heap.size := by simp <;> omega
  have o0 : World.cell? (((w.alloc (.cells #[.int .i64 a, .int .i64 b, .int .i64 c] 27)).alloc (.cells #[.int .i64 x, .int .i64 y, .int .i64 z] 27)).alloc (.cells #[.int .i64 N, .int .i64 D] 36)) ⟨w.heap.size + 1 + 1, 0, none⟩ = some (.int .i64 N) := by simp [go_sem]
  have o1 : World.cell? (((w.alloc (.cells #[.int .i64 a, .int .i64 b, .int .i64 c] 27)).alloc (.cells #[.int .i64 x, .int .i64 y, .int .i64 z] 27)).alloc (.cells #[.int .i64 N, .int .i64 D] 36)) ⟨w.heap.size + 1 + 1, 1, none⟩ = some (.int .i64 D) := by simp [go_sem]
  have lo : w.heap.size + 1 + 1 < (((w.alloc (.cells #[.int .i64 a, .int .i64 b, .int .i64 c] 27)).alloc (.cells #[.int .i64 x, .int .i64 y, .int .i64 z] 27)).alloc (.cells #[.int .i64 N, .int .i64 D] 36)).heap.size := by simp <;> omega
  have HB := Lib.hid (show Below w.heap.size w (((w.alloc (.cells #[.int .i64 a, .int .i64 b, .int .i64 c] 27)).alloc (.cells #[.int .i64 x, .int .i64 y, .int .i64 z] 27)).alloc (.cells #[.int .i64 N, .int .i64 D] 36)) from ((((Below.refl _ _).alloc (by simp <;> omega) _).alloc (by simp <;> omega) _).alloc (by simp <;> omega) _))
  go_enter Try.func92, Try.ntmps92
  go_wp2_with fail
  generalize ((w.alloc (.cells #[.int .i64 a, .int .i64 b, .int .i64 c] 27)).alloc (.cells #[.int .i64 x, .int .i64 y, .int .i64 z] 27)).alloc (.cells #[.int .i64 N, .int .i64 D] 36) = w1 at *
  refine (direction_is a b c true H0.out _).mono ?_
  rintro e_ w2 ⟨rfl, hb⟩
  replace HB := Lib.hid (on_below HB.out hb)
  replace p0 := keepc hb p0
  replace p1 := keepc hb p1
  replace p2 := keepc hb p2
  replace q0 := keepc hb q0
  replace q1 := keepc hb q1
  replace q2 := keepc hb q2
  replace o0 := keepc hb o0
  replace o1 := keepc hb o1
  replace lp := Nat.lt_of_lt_of_le lp hb.size
  replace lq := Nat.lt_of_lt_of_le lq hb.size
  replace lo := Nat.lt_of_lt_of_le lo hb.size
  clear hb
  go_wp2_with fail
  refine (direction_is x y z true H1.out _).mono ?_
  rintro e_ w3 ⟨rfl, hb⟩
  replace HB := Lib.hid (on_below HB.out hb)
  replace p0 := keepc hb p0
  replace p1 := keepc hb p1
  replace p2 := keepc hb p2
  replace q0 := keepc hb q0
  replace q1 := keepc hb q1
  replace q2 := keepc hb q2
  replace o0 := keepc hb o0
  replace o1 := keepc hb o1
  replace lp := Nat.lt_of_lt_of_le lp hb.size
  replace lq := Nat.lt_of_lt_of_le lq hb.size
  replace lo := Nat.lt_of_lt_of_le lo hb.size
  clear hb
  go_wp2_with fail
  refine (vshare_is N D true HN.out HD.out H2.out _).mono ?_
  rintro e_ w4 ⟨rfl, hb⟩
  replace HB := Lib.hid (on_below HB.out hb)
  replace p0 := keepc hb p0
  replace p1 := keepc hb p1
  replace p2 := keepc hb p2
  replace q0 := keepc hb q0
  replace q1 := keepc hb q1
  replace q2 := keepc hb q2
  replace o0 := keepc hb o0
  replace o1 := keepc hb o1
  replace lp := Nat.lt_of_lt_of_le lp hb.size
  replace lq := Nat.lt_of_lt_of_le lq hb.size
  replace lo := Nat.lt_of_lt_of_le lo hb.size
  clear hb
  go_wp2_with fail
  refine (HM.out _).mono ?_
  rintro e_ w5 ⟨rfl, hb⟩
  replace HB := Lib.hid (on_below HB.out hb)
  replace p0 := keepc hb p0
  replace p1 := keepc hb p1
  replace p2 := keepc hb p2
  replace q0 := keepc hb q0
  replace q1 := keepc hb q1
  replace q2 := keepc hb q2
  replace o0 := keepc hb o0
  replace o1 := keepc hb o1
  replace lp := Nat.lt_of_lt_of_le lp hb.size
  replace lq := Nat.lt_of_lt_of_le lq hb.size
  replace lo := Nat.lt_of_lt_of_le lo hb.size
  clear hb
  go_upto_region 4 with fail
  have keep9 : ∀ {W : World}, Below w5.heap.size w5 W → W.cell? ⟨w.heap.size, 0, none⟩ = some (.int .i64 a) ∧ W.cell? ⟨w.heap.size, 1, none⟩ = some (.int .i64 b) ∧ W.cell? ⟨w.heap.size, 2, none⟩ = some (.int .i64 c) ∧ W.cell? ⟨w.heap.size + 1, 0, none⟩ = some (.int .i64 x) ∧ W.cell? ⟨w.heap.size + 1, 1, none⟩ = some (.int .i64 y) ∧ W.cell? ⟨w.heap.size + 1, 2, none⟩ = some (.int .i64 z) ∧ W.cell? ⟨w.heap.size + 1 + 1, 0, none⟩ = some (.int .i64 N) ∧ W.cell? ⟨w.heap.size + 1 + 1, 1, none⟩ = some (.int .i64 D) ∧ Below w5.heap.size w5 W := fun h => ⟨keepc h p0, keepc h p1, keepc h p2, keepc h q0, keepc h q1, keepc h q2, keepc h o0, keepc h o1, h⟩
  go_region_held3 (fun W => W.cell? ⟨w.heap.size, 0, none⟩ = some (.int .i64 a) ∧ W.cell? ⟨w.heap.size, 1, none⟩ = some (.int .i64 b) ∧ W.cell? ⟨w.heap.size, 2, none⟩ = some (.int .i64 c) ∧ W.cell? ⟨w.heap.size + 1, 0, none⟩ = some (.int .i64 x) ∧ W.cell? ⟨w.heap.size + 1, 1, none⟩ = some (.int .i64 y) ∧ W.cell? ⟨w.heap.size + 1, 2, none⟩ = some (.int .i64 z) ∧ W.cell? ⟨w.heap.size + 1 + 1, 0, none⟩ = some (.int .i64 N) ∧ W.cell? ⟨w.heap.size + 1 + 1, 1, none⟩ = some (.int .i64 D) ∧ Below w5.heap.size w5 W)
      (first | assumption | exact keep9 (Below.refl _ _).drew | (go_split_ands; refine keep9 ?_; (first | (refine on_below ?_ hb; assumption) | assumption)))
      (first | (go_at_call 156; (with_reducible refine (HG.out _).mono ?_); rintro e' wq ⟨rfl, hw⟩; subst hw) | (go_at_call 155; (with_reducible refine (HA.out _).mono ?_); rintro e' w2 ⟨rfl, hb⟩) | (go_at_call 155; (with_reducible refine (HC.out _).mono ?_); rintro e' w2 ⟨rfl, hb⟩))
  all_goals go_split_ands
  all_goals go_wp2_with fail
  all_goals go_ret2
  all_goals exact ⟨congrArg (fun b => Ending.returned (.tuple #[.bool b, .int .i64 0])) HR.out, on_below HB.out (by assumption)⟩
set_option maxRecDepth 100000 in
set_option maxHeartbeats 2000000 in
theorem near_neg (a b c x y z N D : Int) (iN : I64 N) (iD : I64 D) (va : V3 a b c) (vx : V3 x y z) (A B s : Int) (eA : dt a b c a b c = A) (eB : dt x y z x y z = B) (eS : dt a b c x y z = s) (h0 : dr a b c = true) (h1 : dr x y z = true) (h2 : shr N D = true) (hs : ¬ 0 < s) (hg : sgz s = -1) (w : World) :
    Calls Try.prog 92 #[.agg #[.int .i64 a, .int .i64 b, .int .i64 c], .agg #[.int .i64 x, .int .i64 y, .int .i64 z], .agg #[.int .i64 N, .int .i64 D]] w fun e_ w' => e_ = .returned (.tuple #[.bool false, .int .i64 0]) ∧ Below w.heap.size w w' := by
  have HA := Lib.hid (fun W => product_is a b c a b c A va va eA W)
  have HC := Lib.hid (fun W => product_is x y z x y z B vx vx eB W)
  have HM := Lib.hid (fun W => product_is a b c x y z s va vx eS W)
  have HG := Lib.hid (fun W => sgn_is s (-1) hg W)
  clear hg
  clear va vx eA eB eS
  have HN := Lib.hid iN
  clear iN
  have HD := Lib.hid iD
  clear iD
  have H0 := Lib.hid h0
  clear h0
  have H1 := Lib.hid h1
  clear h1
  have H2 := Lib.hid h2
  clear h2
  have hd : decide (0 < s) = false := decide_eq_false hs
  have p0 : World.cell? (((w.alloc (.cells #[.int .i64 a, .int .i64 b, .int .i64 c] 27)).alloc (.cells #[.int .i64 x, .int .i64 y, .int .i64 z] 27)).alloc (.cells #[.int .i64 N, .int .i64 D] 36)) ⟨w.heap.size, 0, none⟩ = some (.int .i64 a) := by simp [go_sem]
  have p1 : World.cell? (((w.alloc (.cells #[.int .i64 a, .int .i64 b, .int .i64 c] 27)).alloc (.cells #[.int .i64 x, .int .i64 y, .int .i64 z] 27)).alloc (.cells #[.int .i64 N, .int .i64 D] 36)) ⟨w.heap.size, 1, none⟩ = some (.int .i64 b) := by simp [go_sem]
  have p2 : World.cell? (((w.alloc (.cells #[.int .i64 a, .int .i64 b, .int .i64 c] 27)).alloc (.cells #[.int .i64 x, .int .i64 y, .int .i64 z] 27)).alloc (.cells #[.int .i64 N, .int .i64 D] 36)) ⟨w.heap.size, 2, none⟩ = some (.int .i64 c) := by simp [go_sem]
  have lp : w.heap.size < (((w.alloc (.cells #[.int .i64 a, .int .i64 b, .int .i64 c] 27)).alloc (.cells #[.int .i64 x, .int .i64 y, .int .i64 z] 27)).alloc (.cells #[.int .i64 N, .int .i64 D] 36)).heap.size := by simp <;> omega
  have q0 : World.cell? (((w.alloc (.cells #[.int .i64 a, .int .i64 b, .int .i64 c] 27)).alloc (.cells #[.int .i64 x, .int .i64 y, .int .i64 z] 27)).alloc (.cells #[.int .i64 N, .int .i64 D] 36)) ⟨w.heap.size + 1, 0, none⟩ = some (.int .i64 x) := by simp [go_sem]
  have q1 : World.cell? (((w.alloc (.cells #[.int .i64 a, .int .i64 b, .int .i64 c] 27)).alloc (.cells #[.int .i64 x, .int .i64 y, .int .i64 z] 27)).alloc (.cells #[.int .i64 N, .int .i64 D] 36)) ⟨w.heap.size + 1, 1, none⟩ = some (.int .i64 y) := by simp [go_sem]
  have q2 : World.cell? (((w.alloc (.cells #[.int .i64 a, .int .i64 b, .int .i64 c] 27)).alloc (.cells #[.int .i64 x, .int .i64 y, .int .i64 z] 27)).alloc (.cells #[.int .i64 N, .int .i64 D] 36)) ⟨w.heap.size + 1, 2, none⟩ = some (.int .i64 z) := by simp [go_sem]
  have lq : w.heap.size + 1 < (((w.alloc (.cells #[.int .i64 a, .int .i64 b, .int .i64 c] 27)).alloc (.cells #[.int .i64 x, .int .i64 y, .int .i64 z] 27)).alloc (.cells #[.int .i64 N, .int .i64 D] 36)).heap.size := by simp <;> omega
  have o0 : World.cell? (((w.alloc (.cells #[.int .i64 a, .int .i64 b, .int .i64 c] 27)).alloc (.cells #[.int .i64 x, .int .i64 y, .int .i64 z] 27)).alloc (.cells #[.int .i64 N, .int .i64 D] 36)) ⟨w.heap.size + 1 + 1, 0, none⟩ = some (.int .i64 N) := by simp [go_sem]
  have o1 : World.cell? (((w.alloc (.cells #[.int .i64 a, .int .i64 b, .int .i64 c] 27)).alloc (.cells #[.int .i64 x, .int .i64 y, .int .i64 z] 27)).alloc (.cells #[.int .i64 N, .int .i64 D] 36)) ⟨w.heap.size + 1 + 1, 1, none⟩ = some (.int .i64 D) := by simp [go_sem]
  have lo : w.heap.size + 1 + 1 < (((w.alloc (.cells #[.int .i64 a, .int .i64 b, .int .i64 c] 27)).alloc (.cells #[.int .i64 x, .int .i64 y, .int .i64 z] 27)).alloc (.cells #[.int .i64 N, .int .i64 D] 36)).heap.size := by simp <;> omega
  have HB := Lib.hid (show Below w.heap.size w (((w.alloc (.cells #[.int .i64 a, .int .i64 b, .int .i64 c] 27)).alloc (.cells #[.int .i64 x, .int .i64 y, .int .i64 z] 27)).alloc (.cells #[.int .i64 N, .int .i64 D] 36)) from ((((Below.refl _ _).alloc (by simp <;> omega) _).alloc (by simp <;> omega) _).alloc (by simp <;> omega) _))
  go_enter Try.func92, Try.ntmps92
  go_wp2_with fail
  generalize ((w.alloc (.cells #[.int .i64 a, .int .i64 b, .int .i64 c] 27)).alloc (.cells #[.int .i64 x, .int .i64 y, .int .i64 z] 27)).alloc (.cells #[.int .i64 N, .int .i64 D] 36) = w1 at *
  refine (direction_is a b c true H0.out _).mono ?_
  rintro e_ w2 ⟨rfl, hb⟩
  replace HB := Lib.hid (on_below HB.out hb)
  replace p0 := keepc hb p0
  replace p1 := keepc hb p1
  replace p2 := keepc hb p2
  replace q0 := keepc hb q0
  replace q1 := keepc hb q1
  replace q2 := keepc hb q2
  replace o0 := keepc hb o0
  replace o1 := keepc hb o1
  replace lp := Nat.lt_of_lt_of_le lp hb.size
  replace lq := Nat.lt_of_lt_of_le lq hb.size
  replace lo := Nat.lt_of_lt_of_le lo hb.size
  clear hb
  go_wp2_with fail
  refine (direction_is x y z true H1.out _).mono ?_
  rintro e_ w3 ⟨rfl, hb⟩
  replace HB := Lib.hid (on_below HB.out hb)
  replace p0 := keepc hb p0
  replace p1 := keepc hb p1
  replace p2 := keepc hb p2
  replace q0 := keepc hb q0
  replace q1 := keepc hb q1
  replace q2 := keepc hb q2
  replace o0 := keepc hb o0
  replace o1 := keepc hb o1
  replace lp := Nat.lt_of_lt_of_le lp hb.size
  replace lq := Nat.lt_of_lt_of_le lq hb.size
  replace lo := Nat.lt_of_lt_of_le lo hb.size
  clear hb
  go_wp2_with fail
  refine (vshare_is N D true HN.out HD.out H2.out _).mono ?_
  rintro e_ w4 ⟨rfl, hb⟩
  replace HB := Lib.hid (on_below HB.out hb)
  replace p0 := keepc hb p0
  replace p1 := keepc hb p1
  replace p2 := keepc hb p2
  replace q0 := keepc hb q0
  replace q1 := keepc hb q1
  replace q2 := keepc hb q2
  replace o0 := keepc hb o0
  replace o1 := keepc hb o1
  replace lp := Nat.lt_of_lt_of_le lp hb.size
  replace lq := Nat.lt_of_lt_of_le lq hb.size
  replace lo := Nat.lt_of_lt_of_le lo hb.size
  clear hb
  go_wp2_with fail
  refine (HM.out _).mono ?_
  rintro e_ w5 ⟨rfl, hb⟩
  replace HB := Lib.hid (on_below HB.out hb)
  replace p0 := keepc hb p0
  replace p1 := keepc hb p1
  replace p2 := keepc hb p2
  replace q0 := keepc hb q0
  replace q1 := keepc hb q1
  replace q2 := keepc hb q2
  replace o0 := keepc hb o0
  replace o1 := keepc hb o1
  replace lp := Nat.lt_of_lt_of_le lp hb.size
  replace lq := Nat.lt_of_lt_of_le lq hb.size
  replace lo := Nat.lt_of_lt_of_le lo hb.size
  clear hb
  go_upto_region 4 with fail
  go_quiet ((go_at_call 156; exact quiet_left (HG.out _)))
  go_wp2_with fail
  go_ret2
  exact ⟨rfl, below_drewN' HB.out _⟩
set_option maxRecDepth 100000 in
set_option maxHeartbeats 2000000 in
theorem near_zro (a b c x y z N D : Int) (iN : I64 N) (iD : I64 D) (va : V3 a b c) (vx : V3 x y z) (A B s : Int) (eA : dt a b c a b c = A) (eB : dt x y z x y z = B) (eS : dt a b c x y z = s) (h0 : dr a b c = true) (h1 : dr x y z = true) (h2 : shr N D = true) (hs : ¬ 0 < s) (hg : sgz s = 0) (w : World) :
    Calls Try.prog 92 #[.agg #[.int .i64 a, .int .i64 b, .int .i64 c], .agg #[.int .i64 x, .int .i64 y, .int .i64 z], .agg #[.int .i64 N, .int .i64 D]] w fun e_ w' => e_ = .returned (.tuple #[.bool false, .int .i64 0]) ∧ Below w.heap.size w w' := by
  have HA := Lib.hid (fun W => product_is a b c a b c A va va eA W)
  have HC := Lib.hid (fun W => product_is x y z x y z B vx vx eB W)
  have HM := Lib.hid (fun W => product_is a b c x y z s va vx eS W)
  have HG := Lib.hid (fun W => sgn_is s (0) hg W)
  clear hg
  clear va vx eA eB eS
  have HN := Lib.hid iN
  clear iN
  have HD := Lib.hid iD
  clear iD
  have H0 := Lib.hid h0
  clear h0
  have H1 := Lib.hid h1
  clear h1
  have H2 := Lib.hid h2
  clear h2
  have hd : decide (0 < s) = false := decide_eq_false hs
  have p0 : World.cell? (((w.alloc (.cells #[.int .i64 a, .int .i64 b, .int .i64 c] 27)).alloc (.cells #[.int .i64 x, .int .i64 y, .int .i64 z] 27)).alloc (.cells #[.int .i64 N, .int .i64 D] 36)) ⟨w.heap.size, 0, none⟩ = some (.int .i64 a) := by simp [go_sem]
  have p1 : World.cell? (((w.alloc (.cells #[.int .i64 a, .int .i64 b, .int .i64 c] 27)).alloc (.cells #[.int .i64 x, .int .i64 y, .int .i64 z] 27)).alloc (.cells #[.int .i64 N, .int .i64 D] 36)) ⟨w.heap.size, 1, none⟩ = some (.int .i64 b) := by simp [go_sem]
  have p2 : World.cell? (((w.alloc (.cells #[.int .i64 a, .int .i64 b, .int .i64 c] 27)).alloc (.cells #[.int .i64 x, .int .i64 y, .int .i64 z] 27)).alloc (.cells #[.int .i64 N, .int .i64 D] 36)) ⟨w.heap.size, 2, none⟩ = some (.int .i64 c) := by simp [go_sem]
  have lp : w.heap.size < (((w.alloc (.cells #[.int .i64 a, .int .i64 b, .int .i64 c] 27)).alloc (.cells #[.int .i64 x, .int .i64 y, .int .i64 z] 27)).alloc (.cells #[.int .i64 N, .int .i64 D] 36)).heap.size := by simp <;> omega
  have q0 : World.cell? (((w.alloc (.cells #[.int .i64 a, .int .i64 b, .int .i64 c] 27)).alloc (.cells #[.int .i64 x, .int .i64 y, .int .i64 z] 27)).alloc (.cells #[.int .i64 N, .int .i64 D] 36)) ⟨w.heap.size + 1, 0, none⟩ = some (.int .i64 x) := by simp [go_sem]
  have q1 : World.cell? (((w.alloc (.cells #[.int .i64 a, .int .i64 b, .int .i64 c] 27)).alloc (.cells #[.int .i64 x, .int .i64 y, .int .i64 z] 27)).alloc (.cells #[.int .i64 N, .int .i64 D] 36)) ⟨w.heap.size + 1, 1, none⟩ = some (.int .i64 y) := by simp [go_sem]
  have q2 : World.cell? (((w.alloc (.cells #[.int .i64 a, .int .i64 b, .int .i64 c] 27)).alloc (.cells #[.int .i64 x, .int .i64 y, .int .i64 z] 27)).alloc (.cells #[.int .i64 N, .int .i64 D] 36)) ⟨w.heap.size + 1, 2, none⟩ = some (.int .i64 z) := by simp [go_sem]
  have lq : w.heap.size + 1 < (((w.alloc (.cells #[.int .i64 a, .int .i64 b, .int .i64 c] 27)).alloc (.cells #[.int .i64 x, .int .i64 y, .int .i64 z] 27)).alloc (.cells #[.int .i64 N, .int .i64 D] 36)).heap.size := by simp <;> omega
  have o0 : World.cell? (((w.alloc (.cells #[.int .i64 a, .int .i64 b, .int .i64 c] 27)).alloc (.cells #[.int .i64 x, .int .i64 y, .int .i64 z] 27)).alloc (.cells #[.int .i64 N, .int .i64 D] 36)) ⟨w.heap.size + 1 + 1, 0, none⟩ = some (.int .i64 N) := by simp [go_sem]
  have o1 : World.cell? (((w.alloc (.cells #[.int .i64 a, .int .i64 b, .int .i64 c] 27)).alloc (.cells #[.int .i64 x, .int .i64 y, .int .i64 z] 27)).alloc (.cells #[.int .i64 N, .int .i64 D] 36)) ⟨w.heap.size + 1 + 1, 1, none⟩ = some (.int .i64 D) := by simp [go_sem]
  have lo : w.heap.size + 1 + 1 < (((w.alloc (.cells #[.int .i64 a, .int .i64 b, .int .i64 c] 27)).alloc (.cells #[.int .i64 x, .int .i64 y, .int .i64 z] 27)).alloc (.cells #[.int .i64 N, .int .i64 D] 36)).heap.size := by simp <;> omega
  have HB := Lib.hid (show Below w.heap.size w (((w.alloc (.cells #[.int .i64 a, .int .i64 b, .int .i64 c] 27)).alloc (.cells #[.int .i64 x, .int .i64 y, .int .i64 z] 27)).alloc (.cells #[.int .i64 N, .int .i64 D] 36)) from ((((Below.refl _ _).alloc (by simp <;> omega) _).alloc (by simp <;> omega) _).alloc (by simp <;> omega) _))
  go_enter Try.func92, Try.ntmps92
  go_wp2_with fail
  generalize ((w.alloc (.cells #[.int .i64 a, .int .i64 b, .int .i64 c] 27)).alloc (.cells #[.int .i64 x, .int .i64 y, .int .i64 z] 27)).alloc (.cells #[.int .i64 N, .int .i64 D] 36) = w1 at *
  refine (direction_is a b c true H0.out _).mono ?_
  rintro e_ w2 ⟨rfl, hb⟩
  replace HB := Lib.hid (on_below HB.out hb)
  replace p0 := keepc hb p0
  replace p1 := keepc hb p1
  replace p2 := keepc hb p2
  replace q0 := keepc hb q0
  replace q1 := keepc hb q1
  replace q2 := keepc hb q2
  replace o0 := keepc hb o0
  replace o1 := keepc hb o1
  replace lp := Nat.lt_of_lt_of_le lp hb.size
  replace lq := Nat.lt_of_lt_of_le lq hb.size
  replace lo := Nat.lt_of_lt_of_le lo hb.size
  clear hb
  go_wp2_with fail
  refine (direction_is x y z true H1.out _).mono ?_
  rintro e_ w3 ⟨rfl, hb⟩
  replace HB := Lib.hid (on_below HB.out hb)
  replace p0 := keepc hb p0
  replace p1 := keepc hb p1
  replace p2 := keepc hb p2
  replace q0 := keepc hb q0
  replace q1 := keepc hb q1
  replace q2 := keepc hb q2
  replace o0 := keepc hb o0
  replace o1 := keepc hb o1
  replace lp := Nat.lt_of_lt_of_le lp hb.size
  replace lq := Nat.lt_of_lt_of_le lq hb.size
  replace lo := Nat.lt_of_lt_of_le lo hb.size
  clear hb
  go_wp2_with fail
  refine (vshare_is N D true HN.out HD.out H2.out _).mono ?_
  rintro e_ w4 ⟨rfl, hb⟩
  replace HB := Lib.hid (on_below HB.out hb)
  replace p0 := keepc hb p0
  replace p1 := keepc hb p1
  replace p2 := keepc hb p2
  replace q0 := keepc hb q0
  replace q1 := keepc hb q1
  replace q2 := keepc hb q2
  replace o0 := keepc hb o0
  replace o1 := keepc hb o1
  replace lp := Nat.lt_of_lt_of_le lp hb.size
  replace lq := Nat.lt_of_lt_of_le lq hb.size
  replace lo := Nat.lt_of_lt_of_le lo hb.size
  clear hb
  go_wp2_with fail
  refine (HM.out _).mono ?_
  rintro e_ w5 ⟨rfl, hb⟩
  replace HB := Lib.hid (on_below HB.out hb)
  replace p0 := keepc hb p0
  replace p1 := keepc hb p1
  replace p2 := keepc hb p2
  replace q0 := keepc hb q0
  replace q1 := keepc hb q1
  replace q2 := keepc hb q2
  replace o0 := keepc hb o0
  replace o1 := keepc hb o1
  replace lp := Nat.lt_of_lt_of_le lp hb.size
  replace lq := Nat.lt_of_lt_of_le lq hb.size
  replace lo := Nat.lt_of_lt_of_le lo hb.size
  clear hb
  go_upto_region 4 with fail
  go_quiet ((go_at_call 156; exact quiet_left (HG.out _)))
  go_wp2_with fail
  go_ret2
  exact ⟨rfl, below_drewN' HB.out _⟩
theorem near_is (a b c x y z N D E : Int) (r : Bool) (iN : I64 N) (iD : I64 D) (hE : aE (dr a b c && dr x y z && shr N D) = E) (hr : (decide (E = 0) && nr (dt a b c x y z) (dt a b c a b c) (dt x y z x y z) N D) = r) (w : World) :
    Calls Try.prog 92 #[.agg #[.int .i64 a, .int .i64 b, .int .i64 c], .agg #[.int .i64 x, .int .i64 y, .int .i64 z], .agg #[.int .i64 N, .int .i64 D]] w fun e_ w' => e_ = .returned (.tuple #[.bool r, .int .i64 E]) ∧ Below w.heap.size w w' := by
  subst hr hE
  rcases (Bool.eq_false_or_eq_true (dr a b c)).symm with h0 | h0
  · have e1 : (dr a b c && dr x y z && shr N D) = false := by simp [h0]
    rw [e1]; exact near_1 a b c x y z N D iN iD h0 w
  rcases (Bool.eq_false_or_eq_true (dr x y z)).symm with h1 | h1
  · have e1 : (dr a b c && dr x y z && shr N D) = false := by simp [h0, h1]
    rw [e1]; exact near_2 a b c x y z N D iN iD h0 h1 w
  rcases (Bool.eq_false_or_eq_true (shr N D)).symm with h2 | h2
  · have e1 : (dr a b c && dr x y z && shr N D) = false := by simp [h0, h1, h2]
    rw [e1]; exact near_3 a b c x y z N D iN iD h0 h1 h2 w
  have e1 : (dr a b c && dr x y z && shr N D) = true := by simp [h0, h1, h2]
  have va := (dr_iff.1 h0).1
  have vx := (dr_iff.1 h1).1
  have hsh := shr_iff.1 h2
  rw [e1]
  by_cases hs : 0 < dt a b c x y z
  · have e2 : (decide (aE true = 0) && nr (dt a b c x y z) (dt a b c a b c) (dt x y z x y z) N D) = decide (N * dt a b c a b c * dt x y z x y z ≤ dt a b c x y z * dt a b c x y z * D) := by unfold nr; simp [hs, aE]
    rw [e2]; exact near_pos a b c x y z N D iN iD va vx _ _ _ rfl rfl rfl h0 h1 h2 hs _ rfl ⟨by omega, by omega⟩ ⟨by omega, by omega⟩ w
  · have e2 : (decide (aE true = 0) && nr (dt a b c x y z) (dt a b c a b c) (dt x y z x y z) N D) = false := by unfold nr; simp [hs]
    rw [e2]
    rcases Int.lt_or_eq_of_le (Int.not_lt.1 hs) with hm | hm
    · exact near_neg a b c x y z N D iN iD va vx _ _ _ rfl rfl rfl h0 h1 h2 hs (sgz_neg1.2 hm) w
    · exact near_zro a b c x y z N D iN iD va vx _ _ _ rfl rfl rfl h0 h1 h2 hs (by rw [hm]; rfl) w
end Go.Proofs.Ytgjcmolocoijiaa

namespace Go.Proofs.Ytgjcmolocoijiaa
open Go.RowKit
open Go.RowKit (Below)
set_option linter.unusedVariables false
set_option linter.unusedSimpArgs false

/-- Directions of the sun are valid: a is From, and b, c, d are Dir. -/
structure Sok (T : List Q4) : Prop where
  n1 : 0 < T.length
  n2 : T.length ≤ 100
  lo : ∀ k, k < T.length → 0 ≤ (gd4 T k).a
  hi : ∀ k, k < T.length → (gd4 T k).a ≤ 1439
  di : ∀ k, k < T.length → dr (gd4 T k).b (gd4 T k).c (gd4 T k).d = true
  up : ∀ k, k + 1 < T.length → (gd4 T k).a < (gd4 T (k + 1)).a
theorem Sok.lt {T : List Q4} (h : Sok T) : ∀ {i j : Nat}, i < j → j < T.length → (gd4 T i).a < (gd4 T j).a := by
  intro i j
  induction j with
  | zero => intro h1; omega
  | succ j ih =>
    intro h1 h2
    have h3 := h.up j h2
    rcases Nat.lt_succ_iff_lt_or_eq.1 h1 with k | rfl
    · have := ih k (by omega); omega
    · exact h3
theorem Sok.le {T : List Q4} (h : Sok T) {i j : Nat} (hij : i ≤ j) (hj : j < T.length) : (gd4 T i).a ≤ (gd4 T j).a := by
  rcases Nat.eq_or_lt_of_le hij with rfl | k
  · exact Int.le_refl _
  · exact Int.le_of_lt (h.lt k hj)
/-- What From may not be below; the first k elements are right. -/
def lst (T : List Q4) (k : Nat) : Int := if k = 0 then 0 else (gd4 T (k - 1)).a + 1
def Gd (T : List Q4) (k : Nat) : Prop := ∀ j, j < k → lst T j ≤ (gd4 T j).a ∧ (gd4 T j).a < 1440 ∧ dr (gd4 T j).b (gd4 T j).c (gd4 T j).d = true
theorem Gd_z {T : List Q4} : Gd T 0 := fun j hj => absurd hj (Nat.not_lt_zero j)
theorem lst_succ (T : List Q4) (k : Nat) : lst T (k + 1) = (gd4 T k).a + 1 := by unfold lst; rw [if_neg (by omega)]; rfl
theorem Gd_s {T : List Q4} {k : Nat} (h : Gd T k) (hk : lst T k ≤ (gd4 T k).a ∧ (gd4 T k).a < 1440 ∧ dr (gd4 T k).b (gd4 T k).c (gd4 T k).d = true) : Gd T (k + 1) := fun j hj => by
  rcases Nat.lt_succ_iff_lt_or_eq.1 hj with e | rfl
  · exact h j e
  · exact hk
theorem Gd_l {T : List Q4} : ∀ {k : Nat}, Gd T k → 0 ≤ lst T k ∧ lst T k ≤ 1440
  | 0, _ => ⟨Int.le_refl _, by show (0 : Int) ≤ 1440; decide⟩
  | k + 1, h => by
    have h1 := h k (Nat.lt_succ_self k)
    have h2 := Gd_l (k := k) (fun j hj => h j (by omega))
    rw [lst_succ]
    omega
theorem sok_gd {T : List Q4} (h : Sok T) : Gd T T.length := fun j hj => by
  refine ⟨?_, by have := h.hi j hj; omega, h.di j hj⟩
  unfold lst
  by_cases e : j = 0
  · rw [if_pos e]; exact h.lo j hj
  · rw [if_neg e]
    have := h.lt (i := j - 1) (j := j) (by omega) hj
    omega
theorem Gd_n {T : List Q4} {k : Nat} (hk : k < T.length) (h : (gd4 T k).a < lst T k ∨ 1440 ≤ (gd4 T k).a ∨ dr (gd4 T k).b (gd4 T k).c (gd4 T k).d = false) : ¬ Sok T := fun hs => by
  obtain ⟨h1, h2, h3⟩ := sok_gd hs k hk
  rcases h with h | h | h
  · omega
  · omega
  · rw [h] at h3; cases h3
theorem sok_of {T : List Q4} (h1 : 0 < T.length) (h2 : T.length ≤ 100) (h : Gd T T.length) : Sok T where
  n1 := h1
  n2 := h2
  lo k hk := by
    have h3 := (Gd_l (T := T) (k := k) (fun j hj => h j (by omega))).1
    have h4 := (h k hk).1
    omega
  hi k hk := by have := (h k hk).2.1; omega
  di k hk := (h k hk).2.2
  up k hk := by
    have h3 := (h (k + 1) hk).1
    rw [lst_succ] at h3
    omega
/-- The element that holds at a minute of the day: the last one whose From is not above it; if there is none, the last one. -/
def Dx (T : List Q4) (m : Int) (i : Nat) : Prop :=
  i < T.length ∧ (((gd4 T i).a ≤ m ∧ ∀ j, i < j → j < T.length → m < (gd4 T j).a) ∨ (i + 1 = T.length ∧ ∀ j, j < T.length → m < (gd4 T j).a))
theorem dx_fun {T : List Q4} {m : Int} {i j : Nat} (h : Dx T m i) (k : Dx T m j) : i = j := by
  obtain ⟨hi, h⟩ := h
  obtain ⟨hj, k⟩ := k
  rcases h with ⟨h1, h2⟩ | ⟨h1, h2⟩ <;> rcases k with ⟨k1, k2⟩ | ⟨k1, k2⟩
  · rcases Nat.lt_trichotomy i j with e | e | e
    · have := h2 j e hj; omega
    · exact e
    · have := k2 i e hi; omega
  · have := k2 i hi; omega
  · have := h2 j hj; omega
  · omega
theorem dx_upto (T : List Q4) (m : Int) : ∀ n, n ≤ T.length → (∃ i, i < n ∧ (gd4 T i).a ≤ m ∧ ∀ j, i < j → j < n → m < (gd4 T j).a) ∨ (∀ j, j < n → m < (gd4 T j).a) := by
  intro n
  induction n with
  | zero => exact fun _ => Or.inr fun j hj => absurd hj (Nat.not_lt_zero j)
  | succ n ih =>
    intro hn
    by_cases h : (gd4 T n).a ≤ m
    · exact Or.inl ⟨n, Nat.lt_succ_self n, h, fun j h1 h2 => by omega⟩
    · rcases ih (by omega) with ⟨i, h1, h2, h3⟩ | h1
      · refine Or.inl ⟨i, by omega, h2, fun j k1 k2 => ?_⟩
        rcases Nat.lt_succ_iff_lt_or_eq.1 k2 with e | rfl
        · exact h3 j k1 e
        · omega
      · refine Or.inr fun j k2 => ?_
        rcases Nat.lt_succ_iff_lt_or_eq.1 k2 with e | rfl
        · exact h1 j e
        · omega
theorem dx_ex {T : List Q4} (h : 0 < T.length) (m : Int) : ∃ i, Dx T m i := by
  rcases dx_upto T m T.length (Nat.le_refl _) with ⟨i, h1, h2, h3⟩ | h1
  · exact ⟨i, h1, Or.inl ⟨h2, h3⟩⟩
  · exact ⟨T.length - 1, by omega, Or.inr ⟨by omega, h1⟩⟩

/-- A table and a minute are valid; the direction at the minute. -/
def Mok (T : List Q4) (m : Int) : Prop := Sok T ∧ 0 ≤ m ∧ m ≤ 600000
def Dir (T : List Q4) (m x y z : Int) : Prop := ∃ i, Dx T (m % 1440) i ∧ (gd4 T i).b = x ∧ (gd4 T i).c = y ∧ (gd4 T i).d = z
theorem dir_fun {T : List Q4} {m x y z a b c : Int} (h : Dir T m x y z) (k : Dir T m a b c) : x = a ∧ y = b ∧ z = c := by
  obtain ⟨i, h0, rfl, rfl, rfl⟩ := h
  obtain ⟨j, k0, rfl, rfl, rfl⟩ := k
  obtain rfl := dx_fun h0 k0
  exact ⟨rfl, rfl, rfl⟩
theorem dir_ex {T : List Q4} (h : 0 < T.length) (m : Int) : ∃ x y z, Dir T m x y z := by
  obtain ⟨i, hi⟩ := dx_ex h (m % 1440)
  exact ⟨_, _, _, i, hi, rfl, rfl, rfl⟩
theorem dir_dr {T : List Q4} {m x y z : Int} (h : Sok T) (hd : Dir T m x y z) : dr x y z = true := by
  obtain ⟨i, hi, rfl, rfl, rfl⟩ := hd
  exact h.di i hi.1
theorem dir_v3 {T : List Q4} {m x y z : Int} (h : Sok T) (hd : Dir T m x y z) : V3 x y z ∧ ¬ (x = 0 ∧ y = 0 ∧ z = 0) := dr_iff.1 (dir_dr h hd)
/-- What At answers. -/
def AtR (T : List Q4) (m x y z : Int) (u : Bool) (E : Int) : Prop :=
  (Mok T m ∧ E = 0 ∧ Dir T m x y z ∧ u = decide (0 < z)) ∨ (¬ Mok T m ∧ E = 1 ∧ x = 0 ∧ y = 0 ∧ z = 0 ∧ u = false)

/-- A body blocks the way to the sun. -/
def Blk (ex ey ez x y z : Int) (L : List Bv) : Prop := ∃ k, k < L.length ∧ hit ex ey ez (ex + x) (ey + y) (ez + z) (gdB L k) = true
/-- What Shaded answers. -/
def Ok1 (T : List Q4) (m ex ey ez : Int) (L : List Bv) : Prop := Mok T m ∧ V3 ex ey ez ∧ Bds L
def ShdR (T : List Q4) (m ex ey ez : Int) (L : List Bv) (r : Bool) (E : Int) : Prop :=
  (60 < L.length ∧ r = false ∧ E = 2) ∨ (L.length ≤ 60 ∧ ¬ Ok1 T m ex ey ez L ∧ r = false ∧ E = 1) ∨
  (L.length ≤ 60 ∧ Ok1 T m ex ey ez L ∧ ∃ x y z, Dir T m x y z ∧ ((z ≤ 0 ∧ r = true ∧ E = 0) ∨ (0 < z ∧ vv (ex + x) (ey + y) (ez + z) = false ∧ r = false ∧ E = 3) ∨
    (0 < z ∧ vv (ex + x) (ey + y) (ez + z) = true ∧ (r = true ↔ Blk ex ey ez x y z L) ∧ E = 0)))


/-- What Glare answers. -/
def Ok2 (T : List Q4) (m ex ey ez tx ty tz N D : Int) (L : List Bv) : Prop := Mok T m ∧ V3 ex ey ez ∧ V3 tx ty tz ∧ shr N D = true ∧ Bds L
def GlrR (T : List Q4) (m ex ey ez tx ty tz N D : Int) (L : List Bv) (r : Bool) (E : Int) : Prop :=
  (60 < L.length ∧ r = false ∧ E = 2) ∨ (L.length ≤ 60 ∧ ¬ Ok2 T m ex ey ez tx ty tz N D L ∧ r = false ∧ E = 1) ∨
  (L.length ≤ 60 ∧ Ok2 T m ex ey ez tx ty tz N D L ∧ ∃ x y z, Dir T m x y z ∧ (((z ≤ 0 ∨ (tx = ex ∧ ty = ey ∧ tz = ez)) ∧ r = false ∧ E = 0) ∨
    ((0 < z ∧ ¬ (tx = ex ∧ ty = ey ∧ tz = ez)) ∧ ¬ (vv (ex + x) (ey + y) (ez + z) = true ∧ vv (tx - ex) (ty - ey) (tz - ez) = true) ∧ r = false ∧ E = 3) ∨
    ((0 < z ∧ ¬ (tx = ex ∧ ty = ey ∧ tz = ez)) ∧ (vv (ex + x) (ey + y) (ez + z) = true ∧ vv (tx - ex) (ty - ey) (tz - ez) = true) ∧
      (r = true ↔ nr (dt x y z (tx - ex) (ty - ey) (tz - ez)) (dt x y z x y z) (dt (tx - ex) (ty - ey) (tz - ez) (tx - ex) (ty - ey) (tz - ez)) N D = true ∧ ¬ Blk ex ey ez x y z L) ∧ E = 0)))
theorem glr_ex (T : List Q4) (m ex ey ez tx ty tz N D : Int) (L : List Bv) : ∃ r E, GlrR T m ex ey ez tx ty tz N D L r E := by
  classical
  by_cases h0 : 60 < L.length
  · exact ⟨false, 2, Or.inl ⟨h0, rfl, rfl⟩⟩
  · by_cases h1 : Ok2 T m ex ey ez tx ty tz N D L
    · obtain ⟨x, y, z, hd⟩ := dir_ex h1.1.1.n1 m
      by_cases h2 : z ≤ 0 ∨ (tx = ex ∧ ty = ey ∧ tz = ez)
      · exact ⟨false, 0, Or.inr (Or.inr ⟨by omega, h1, x, y, z, hd, Or.inl ⟨h2, rfl, rfl⟩⟩)⟩
      · by_cases h3 : vv (ex + x) (ey + y) (ez + z) = true ∧ vv (tx - ex) (ty - ey) (tz - ez) = true
        · exact ⟨decide _, 0, Or.inr (Or.inr ⟨by omega, h1, x, y, z, hd, Or.inr (Or.inr ⟨⟨by omega, fun e => h2 (Or.inr e)⟩, h3, decide_eq_true_iff, rfl⟩)⟩)⟩
        · exact ⟨false, 3, Or.inr (Or.inr ⟨by omega, h1, x, y, z, hd, Or.inr (Or.inl ⟨⟨by omega, fun e => h2 (Or.inr e)⟩, h3, rfl, rfl⟩)⟩)⟩
    · exact ⟨false, 1, Or.inr (Or.inl ⟨by omega, h1, rfl, rfl⟩)⟩
end Go.Proofs.Ytgjcmolocoijiaa

namespace Go.Proofs.Ytgjcmolocoijiaa
open Go.RowKit Go.Sort
open Go.RowKit (Below)
set_option linter.unusedVariables false
set_option linter.unusedSimpArgs false
attribute [local go_sem] Oper.semAt_some

set_option maxRecDepth 100000 in
set_option maxHeartbeats 2000000 in
theorem sdir_0 (a b c : Int) (hp : vv a b c = false) (w : World) :
    Calls Try.prog 145 #[.agg #[.int .i64 a, .int .i64 b, .int .i64 c]] w fun e_ w' => e_ = .returned (.bool false) ∧ Below w.heap.size w w' := by
  have HP := Lib.hid hp
  clear hp
  have z0 := fun W => vec_ne (a := a) (b := b) (c := c) (x := 0) (y := 0) (z := 0) (r := zv a b c) rfl W
  generalize zv a b c = q at *
  have p0 : World.cell? (w.alloc (.cells #[.int .i64 a, .int .i64 b, .int .i64 c] 27)) ⟨w.heap.size, 0, none⟩ = some (.int .i64 a) := by simp [go_sem]
  have p1 : World.cell? (w.alloc (.cells #[.int .i64 a, .int .i64 b, .int .i64 c] 27)) ⟨w.heap.size, 1, none⟩ = some (.int .i64 b) := by simp [go_sem]
  have p2 : World.cell? (w.alloc (.cells #[.int .i64 a, .int .i64 b, .int .i64 c] 27)) ⟨w.heap.size, 2, none⟩ = some (.int .i64 c) := by simp [go_sem]
  have lp : w.heap.size < (w.alloc (.cells #[.int .i64 a, .int .i64 b, .int .i64 c] 27)).heap.size := by simp <;> omega
  have HB := Lib.hid (show Below w.heap.size w (w.alloc (.cells #[.int .i64 a, .int .i64 b, .int .i64 c] 27)) from ((Below.refl _ _).alloc (by simp <;> omega) _))
  go_enter Try.func145, Try.ntmps145
  go_wp2_with fail
  generalize w.alloc (.cells #[.int .i64 a, .int .i64 b, .int .i64 c] 27) = w1 at *
  with_reducible refine (vvalid_is a b c false HP.out _).mono ?_
  rintro e_ w2 ⟨rfl, hb⟩
  replace HB := Lib.hid (on_below HB.out hb)
  replace p0 := keepc hb p0
  replace p1 := keepc hb p1
  replace p2 := keepc hb p2
  replace lp := Nat.lt_of_lt_of_le lp hb.size
  clear hb
  go_wp2_with fail
  go_ret
  exact ⟨rfl, HB.out⟩
set_option maxRecDepth 100000 in
set_option maxHeartbeats 2000000 in
theorem sdir_1 (a b c : Int) (hp : vv a b c = true) (w : World) :
    Calls Try.prog 145 #[.agg #[.int .i64 a, .int .i64 b, .int .i64 c]] w fun e_ w' => e_ = .returned (.bool (!zv a b c)) ∧ Below w.heap.size w w' := by
  have HP := Lib.hid hp
  clear hp
  have z0 := fun W => vec_ne (a := a) (b := b) (c := c) (x := 0) (y := 0) (z := 0) (r := zv a b c) rfl W
  generalize zv a b c = q at *
  have p0 : World.cell? (w.alloc (.cells #[.int .i64 a, .int .i64 b, .int .i64 c] 27)) ⟨w.heap.size, 0, none⟩ = some (.int .i64 a) := by simp [go_sem]
  have p1 : World.cell? (w.alloc (.cells #[.int .i64 a, .int .i64 b, .int .i64 c] 27)) ⟨w.heap.size, 1, none⟩ = some (.int .i64 b) := by simp [go_sem]
  have p2 : World.cell? (w.alloc (.cells #[.int .i64 a, .int .i64 b, .int .i64 c] 27)) ⟨w.heap.size, 2, none⟩ = some (.int .i64 c) := by simp [go_sem]
  have lp : w.heap.size < (w.alloc (.cells #[.int .i64 a, .int .i64 b, .int .i64 c] 27)).heap.size := by simp <;> omega
  have HB := Lib.hid (show Below w.heap.size w (w.alloc (.cells #[.int .i64 a, .int .i64 b, .int .i64 c] 27)) from ((Below.refl _ _).alloc (by simp <;> omega) _))
  go_enter Try.func145, Try.ntmps145
  go_wp2_with fail
  generalize w.alloc (.cells #[.int .i64 a, .int .i64 b, .int .i64 c] 27) = w1 at *
  with_reducible refine (vvalid_is a b c true HP.out _).mono ?_
  rintro e_ w2 ⟨rfl, hb⟩
  replace HB := Lib.hid (on_below HB.out hb)
  replace p0 := keepc hb p0
  replace p1 := keepc hb p1
  replace p2 := keepc hb p2
  replace lp := Nat.lt_of_lt_of_le lp hb.size
  clear hb
  go_wp2_with fail
  go_ret
  exact ⟨rfl, HB.out⟩
theorem sdir_is (a b c : Int) (r : Bool) (h : dr a b c = r) (w : World) :
    Calls Try.prog 145 #[.agg #[.int .i64 a, .int .i64 b, .int .i64 c]] w fun e_ w' => e_ = .returned (.bool r) ∧ Below w.heap.size w w' := by
  subst h
  unfold dr
  cases hp : vv a b c
  · exact sdir_0 a b c hp w
  · exact sdir_1 a b c hp w
set_option maxRecDepth 100000 in
set_option maxHeartbeats 2000000 in
theorem sv_0 (A : Option Addr) (C : Nat) (T : List Q4) (h : T.length = 0) (w : World) :
    Calls Try.prog 87 #[.slice A T.length C] w fun e_ w' => e_ = .returned (.bool false) ∧ w = w' := by
  rw [h]
  go_enter Try.func87, Try.ntmps87
  go_wp2_with fail
  go_ret
  exact ⟨rfl, rfl⟩
set_option maxRecDepth 100000 in
set_option maxHeartbeats 2000000 in
theorem sv_1 (A : Option Addr) (C : Nat) (T : List Q4) (h : 100 < T.length) (hb : T.length ≤ 9223372036854775807) (w : World) :
    Calls Try.prog 87 #[.slice A T.length C] w fun e_ w' => e_ = .returned (.bool false) ∧ w = w' := by
  have z0 : ((T.length : Int) == 0) = false := by rw [beq_eq_false_iff_ne]; omega
  go_enter Try.func87, Try.ntmps87
  go_wp2_with fail
  go_ret
  exact ⟨rfl, rfl⟩
set_option maxRecDepth 100000 in
set_option maxHeartbeats 4000000 in
theorem sv_2 (A : Option Addr) (C : Nat) (T : List Q4) (h1 : 0 < T.length) (h2 : T.length ≤ 100) (r : Bool) (hr : r = true ↔ Sok T) (w : World) (hl : S4 w A T) :
    Calls Try.prog 87 #[.slice A T.length C] w fun e_ w' => e_ = .returned (.bool r) ∧ Below w.heap.size w w' := by
  have HR := Lib.hid hr
  clear hr
  have HL := Lib.hid hl
  clear hl
  have z0 : ((T.length : Int) == 0) = false := by rw [beq_eq_false_iff_ne]; omega
  have HD := Lib.hid (fun (a b c : Int) (r : Bool) (h : dr a b c = r) W => sdir_is a b c r h W)
  go_enter Try.func87, Try.ntmps87
  go_wp2_with fail
  clear z0
  go_loopw [3, 16] (fun lt i wr => ∃ k : Nat, k ≤ T.length ∧ i = .int .i64 k ∧ lt = .int .i64 (lst T k) ∧ Hid (Gd T k) ∧ Below w.heap.size w wr) (fun _ i _ => T.length - (intOf i).toNat)
  case atStart => exact ⟨0, Nat.zero_le _, rfl, rfl, Gd_z, Below.refl _ _⟩
  case round =>
    obtain ⟨k, hk, rfl, rfl, HK, hW⟩ := hrel
    by_cases hlt : k < T.length
    · obtain ⟨b0, o0, rfl, e0, e1, e2, e3⟩ := HL.out.below hW k hlt
      have HB := Lib.hid hW
      clear hW
      have HS := Lib.hid (fun h => Gd_s (T := T) (k := k) HK.out h)
      have HN := Lib.hid (fun h => Gd_n (T := T) (k := k) hlt h)
      have HT := Lib.hid (lst_succ T k)
      have hlo := Gd_l HK.out
      obtain ⟨q, hq⟩ : ∃ q, dr (gd4 T k).b (gd4 T k).c (gd4 T k).d = q := ⟨_, rfl⟩
      have CD := Lib.hid (fun W => HD.out _ _ _ q hq W)
      rw [hq] at HS HN
      clear hq
      have w3_ : k ≤ 100 := by omega
      generalize lst T k = lt at *
      generalize (gd4 T k).a = a at *
      generalize (gd4 T k).b = b at *
      generalize (gd4 T k).c = c at *
      generalize (gd4 T k).d = d at *
      have w1_ : IntKind.i64.wrap ((k : Int) + 1) = (k : Int) + 1 := IntWalk.i64_in _ ⟨by omega, by omega⟩
      have w2_ : wrap64 ((k : Int) + 1) = (k : Int) + 1 := IntWalk.wrap64_in _ ⟨by omega, by omega⟩
      have HBE : ∀ {x : TypeId} {s : World}, True := fun {_ _} => trivial
      clear HBE
      by_cases q1 : a < lt
      · have hf := false_of (r := r) (fun e => HN.out (Or.inl q1) (HR.out.1 e))
        subst hf
        go_wp2_with fail
        go_ret
        exact ⟨rfl, HB.out.alloc HB.out.size _⟩
      · by_cases q2 : 1440 ≤ a
        · have hf := false_of (r := r) (fun e => HN.out (Or.inr (Or.inl q2)) (HR.out.1 e))
          subst hf
          go_wp2_with fail
          go_ret
          exact ⟨rfl, HB.out.alloc HB.out.size _⟩
        · have w4_ : wrap64 (a + 1) = a + 1 := IntWalk.wrap64_in _ ⟨by omega, by omega⟩
          have w5_ : IntKind.i64.wrap (a + 1) = a + 1 := IntWalk.i64_in _ ⟨by omega, by omega⟩
          have hb := below_new wr (.cells #[.int .i64 a, .int .i64 b, .int .i64 c, .int .i64 d] 189)
          have u0 : World.cell? (wr.alloc (.cells #[.int .i64 a, .int .i64 b, .int .i64 c, .int .i64 d] 189)) ⟨wr.heap.size, 0, none⟩ = some (.int .i64 a) := by simp [go_sem]
          have u1 : World.cell? (wr.alloc (.cells #[.int .i64 a, .int .i64 b, .int .i64 c, .int .i64 d] 189)) ⟨wr.heap.size, 1, none⟩ = some (.int .i64 b) := by simp [go_sem]
          have u2 : World.cell? (wr.alloc (.cells #[.int .i64 a, .int .i64 b, .int .i64 c, .int .i64 d] 189)) ⟨wr.heap.size, 2, none⟩ = some (.int .i64 c) := by simp [go_sem]
          have u3 : World.cell? (wr.alloc (.cells #[.int .i64 a, .int .i64 b, .int .i64 c, .int .i64 d] 189)) ⟨wr.heap.size, 3, none⟩ = some (.int .i64 d) := by simp [go_sem]
          cases q
          · have hf := false_of (r := r) (fun e => HN.out (Or.inr (Or.inr rfl)) (HR.out.1 e))
            subst hf
            go_wp2_with (with_reducible refine (CD.out _).mono ?_; rintro e_ w2 ⟨rfl, hb2⟩)
            go_ret
            exact ⟨rfl, on_below HB.out (on_below hb hb2)⟩
          · have hs := HS.out ⟨by omega, by omega, rfl⟩
            have HG := Lib.hid hs
            clear hs
            obtain ⟨w1, hw1⟩ : ∃ V, wr.alloc (.cells #[.int .i64 a, .int .i64 b, .int .i64 c, .int .i64 d] 189) = V := ⟨_, rfl⟩
            rw [hw1] at u0 u1 u2 u3 hb
            have lu := block_lt u0
            go_wp2_with fail
            with_reducible refine (CD.out _).mono ?_
            rintro e_ w2 ⟨rfl, hb2⟩
            have HW := Lib.hid (on_below HB.out (on_below hb hb2))
            replace u0 := keepc hb2 u0
            replace lu := Nat.lt_of_lt_of_le lu hb2.size
            clear u1 u2 u3 hb hb2 hw1
            go_wp2_with fail
            go_roundw
            case rel => exact ⟨k + 1, hlt, int_of (by omega), (by rw [HT.out]), HG.out, HW.out⟩
            case measure => simp [intOf]; omega
    · have hke : k = T.length := by omega
      subst hke
      have ht := true_of (HR.out.2 (sok_of h1 h2 HK.out))
      subst ht
      go_wp2_with fail
      go_ret
      exact ⟨rfl, hW⟩
theorem svalid_is (A : Option Addr) (C : Nat) (T : List Q4) (hlen : T.length ≤ 9223372036854775807) (r : Bool) (hr : r = true ↔ Sok T) (w : World) (hl : S4 w A T) :
    Calls Try.prog 87 #[.slice A T.length C] w fun e_ w' => e_ = .returned (.bool r) ∧ Below w.heap.size w w' := by
  by_cases h0 : T.length = 0
  · obtain rfl : false = r := false_of fun e => by have := (hr.1 e).n1; omega
    exact (sv_0 A C T h0 w).mono fun e w' ⟨h, e⟩ => ⟨h, by rw [← e]; exact Below.refl _ _⟩
  · by_cases h1 : 100 < T.length
    · obtain rfl : false = r := false_of fun e => by have := (hr.1 e).n2; omega
      exact (sv_1 A C T h1 hlen w).mono fun e w' ⟨h, e⟩ => ⟨h, by rw [← e]; exact Below.refl _ _⟩
    · exact sv_2 A C T (by omega) (by omega) r hr w hl
set_option maxRecDepth 100000 in
set_option maxHeartbeats 2000000 in
theorem np_is (a b c : Int) (q r : Bool) (h : vv a b c = q) (hr : (!q) = r) (w : World) :
    Calls Try.prog 146 #[.agg #[.int .i64 a, .int .i64 b, .int .i64 c]] w fun e_ w' => e_ = .returned (.bool r) ∧ Below w.heap.size w w' := by
  subst hr
  have HC := Lib.hid (fun W => vvalid_is a b c q h W)
  clear h
  have p0 : World.cell? (w.alloc (.cells #[.int .i64 a, .int .i64 b, .int .i64 c] 27)) ⟨w.heap.size, 0, none⟩ = some (.int .i64 a) := by simp [go_sem]
  have p1 : World.cell? (w.alloc (.cells #[.int .i64 a, .int .i64 b, .int .i64 c] 27)) ⟨w.heap.size, 1, none⟩ = some (.int .i64 b) := by simp [go_sem]
  have p2 : World.cell? (w.alloc (.cells #[.int .i64 a, .int .i64 b, .int .i64 c] 27)) ⟨w.heap.size, 2, none⟩ = some (.int .i64 c) := by simp [go_sem]
  have lp : w.heap.size < (w.alloc (.cells #[.int .i64 a, .int .i64 b, .int .i64 c] 27)).heap.size := by simp <;> omega
  have HB := Lib.hid (show Below w.heap.size w (w.alloc (.cells #[.int .i64 a, .int .i64 b, .int .i64 c] 27)) from ((Below.refl _ _).alloc (by simp <;> omega) _))
  go_enter Try.func146, Try.ntmps146
  go_upto_region 1 with fail
  generalize w.alloc (.cells #[.int .i64 a, .int .i64 b, .int .i64 c] 27) = w1 at *
  go_wp2_with fail
  with_reducible refine (HC.out _).mono ?_
  rintro e_ w2 ⟨rfl, hb⟩
  replace HB := Lib.hid (on_below HB.out hb)
  replace p0 := keepc hb p0
  replace p1 := keepc hb p1
  replace p2 := keepc hb p2
  replace lp := Nat.lt_of_lt_of_le lp hb.size
  clear hb
  go_wp2_with fail
  go_ret
  exact ⟨rfl, HB.out⟩
set_option maxRecDepth 100000 in
set_option maxHeartbeats 2000000 in
theorem nb_is (A : Option Addr) (C : Nat) (xs : List (Int × Int)) (lo hi : Int) (hlx : xs.length ≤ 9223372036854775806) (r : Bool) (hr : r = false ↔ Bok xs lo hi) (w : World) (hl : SlS w A xs) :
    Calls Try.prog 147 #[.agg #[.slice A xs.length C, .int .i64 lo, .int .i64 hi]] w fun e_ w' => e_ = .returned (.bool r) ∧ Below w.heap.size w w' := by
  have HC := Lib.hid (fun W (h : SlS W A xs) => pvalid_is A C xs lo hi hlx (!r) (by rw [← hr]; cases r <;> simp) W h)
  clear hr
  have HL := Lib.hid hl
  clear hl
  have p0 : World.cell? (w.alloc (.cells #[.slice A xs.length C, .int .i64 lo, .int .i64 hi] 59)) ⟨w.heap.size, 0, none⟩ = some (.slice A xs.length C) := by simp [go_sem]
  have p1 : World.cell? (w.alloc (.cells #[.slice A xs.length C, .int .i64 lo, .int .i64 hi] 59)) ⟨w.heap.size, 1, none⟩ = some (.int .i64 lo) := by simp [go_sem]
  have p2 : World.cell? (w.alloc (.cells #[.slice A xs.length C, .int .i64 lo, .int .i64 hi] 59)) ⟨w.heap.size, 2, none⟩ = some (.int .i64 hi) := by simp [go_sem]
  have lp : w.heap.size < (w.alloc (.cells #[.slice A xs.length C, .int .i64 lo, .int .i64 hi] 59)).heap.size := by simp <;> omega
  have HB := Lib.hid (show Below w.heap.size w (w.alloc (.cells #[.slice A xs.length C, .int .i64 lo, .int .i64 hi] 59)) from ((Below.refl _ _).alloc (by simp <;> omega) _))
  go_enter Try.func147, Try.ntmps147
  go_upto_region 1 with fail
  generalize w.alloc (.cells #[.slice A xs.length C, .int .i64 lo, .int .i64 hi] 59) = w1 at *
  replace HL := Lib.hid (HL.out.below HB.out)
  go_wp2_with fail
  with_reducible refine (HC.out _ HL.out).mono ?_
  rintro e_ w2 ⟨rfl, hb⟩
  replace HB := Lib.hid (on_below HB.out hb)
  replace HL := Lib.hid (HL.out.below hb)
  replace p0 := keepc hb p0
  replace p1 := keepc hb p1
  replace p2 := keepc hb p2
  replace lp := Nat.lt_of_lt_of_le lp hb.size
  clear hb
  go_wp2_with fail
  go_ret
  exact ⟨by cases r <;> rfl, HB.out⟩
end Go.Proofs.Ytgjcmolocoijiaa
