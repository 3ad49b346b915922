/-
  Clocks: a question that has an answer if all conditions hold.
-/
import Derived.Test.YtnjhepkfjohdnaaClkE
namespace Go.Proofs.Ytnjhepkfjohdnaa
open Go.RowKit Go.Sort
open Go.RowKit (Below)
set_option linter.unusedVariables false

/-- The value that asks whether a face is valid. -/
def fv (s e d r : Int) : Value := .func (.func 28) #[.agg #[.int .i64 s, .int .i64 e, .int .i64 d, .int .i64 r]] #[]

set_option maxRecDepth 100000 in
set_option maxHeartbeats 1000000 in
theorem askI_ok (K : FuncId) (cap : Array Value) (v : Int) (b len : Nat) (S E D R : Nat → Int) (w : World) (hm : len ≤ 9223372036854775807) (hb : b < w.heap.size)
    (hK : ∀ W, (callFunc K cap).run Try.prog W = .ok (.enter K cap) W)
    (hQ : ∀ W, Below w.heap.size w W → Calls Try.prog K cap W fun e W' => e = .returned (.int .i64 v) ∧ Below W.heap.size W W')
    (hc : ∀ i, i < len → w.cell? ⟨b, i, none⟩ = some (fv (S i) (E i) (D i) (R i)))
    (hv : ∀ i, i < len → rds (S i) (E i) (D i) (R i) = true) :
    Calls Try.prog 30 #[.func (.func K) #[] cap, .slice (some ⟨b, 0, none⟩) len len] w fun e w' => e = .returned (.tuple #[.int .i64 v, .int .i64 0]) ∧ Below w.heap.size w w' := by
  have HC := Lib.hid hc; clear hc
  have HV := Lib.hid hv; clear hv
  have HQ := Lib.hid hQ; clear hQ
  go_enter Try.func30, Try.ntmps30
  go_wp2
  go_loopw [10] (fun i wr => ∃ k : Nat, k ≤ len ∧ i = .int .i64 k ∧ Below w.heap.size w wr) (fun i _ => len - (intOf i).toNat)
  case atStart => exact ⟨0, Nat.zero_le _, rfl, Below.refl _ _⟩
  case round =>
    obtain ⟨k, hk, rfl, hbw⟩ := hrel
    by_cases hlt : k < len
    · skip
      have g0 := HC.out k (by omega)
      have c0 := hbw.cell (p := ⟨b, k, none⟩) hb
      rw [g0] at c0
      clear g0
      unfold fv at c0
      go_wp2_with fail
      refine (fvalid_b _ _ _ _ true (HV.out k hlt) _).mono ?_
      rintro e w1 ⟨rfl, hb1⟩
      have hb2 : Below w.heap.size w w1 := (on_same (w := w) hbw hb1).1
      go_wp2_with fail
      go_roundw
      case rel => exact ⟨k + 1, by omega, by go_num, hb2⟩
      case measure => simp [intOf]; omega
    · go_wp2_with fail
      refine (HQ.out _ hbw).mono ?_
      rintro e w1 ⟨rfl, hb1⟩
      have hb2 : Below w.heap.size w w1 := (on_same (w := w) hbw hb1).1
      go_wp2
      go_ret2
      exact ⟨rfl, hb2⟩

set_option maxRecDepth 100000 in
set_option maxHeartbeats 1000000 in
theorem askI_err (K : FuncId) (cap : Array Value) (b len : Nat) (S E D R : Nat → Int) (w : World) (hm : len ≤ 9223372036854775807) (hb : b < w.heap.size)
    (hc : ∀ i, i < len → w.cell? ⟨b, i, none⟩ = some (fv (S i) (E i) (D i) (R i)))
    (m : Nat) (hml : m < len) (hv : ∀ i, i < m → rds (S i) (E i) (D i) (R i) = true) (hx : rds (S m) (E m) (D m) (R m) = false) :
    Calls Try.prog 30 #[.func (.func K) #[] cap, .slice (some ⟨b, 0, none⟩) len len] w fun e w' => e = .returned (.tuple #[.int .i64 0, .int .i64 1]) ∧ Below w.heap.size w w' := by
  have HC := Lib.hid hc; clear hc
  have HV := Lib.hid hv; clear hv
  have HX := Lib.hid hx; clear hx
  go_enter Try.func30, Try.ntmps30
  go_wp2
  go_loopw [4, 10] (fun z i wr => ∃ k : Nat, k ≤ m ∧ z = .int .i64 0 ∧ i = .int .i64 k ∧ Below w.heap.size w wr) (fun _ i _ => len - (intOf i).toNat)
  case atStart => exact ⟨0, Nat.zero_le _, rfl, rfl, Below.refl _ _⟩
  case round =>
    obtain ⟨k, hk, rfl, rfl, hbw⟩ := hrel
    have hlt2 : k < len := by omega
    by_cases hlt : k < m
    · skip
      have g0 := HC.out k (by omega)
      have c0 := hbw.cell (p := ⟨b, k, none⟩) hb
      rw [g0] at c0
      clear g0
      unfold fv at c0
      go_wp2_with fail
      refine (fvalid_b _ _ _ _ true (HV.out k hlt) _).mono ?_
      rintro e w1 ⟨rfl, hb1⟩
      have hb2 : Below w.heap.size w w1 := (on_same (w := w) hbw hb1).1
      go_wp2_with fail
      go_roundw
      case rel => exact ⟨k + 1, by omega, rfl, by go_num, hb2⟩
      case measure => simp [intOf]; omega
    · obtain rfl : k = m := by omega
      have g0 := HC.out k (by omega)
      have c0 := hbw.cell (p := ⟨b, k, none⟩) hb
      rw [g0] at c0
      clear g0
      unfold fv at c0
      go_wp2_with fail
      refine (fvalid_b _ _ _ _ false HX.out _).mono ?_
      rintro e w1 ⟨rfl, hb1⟩
      have hb2 : Below w.heap.size w w1 := (on_same (w := w) hbw hb1).1
      go_wp2
      go_ret2
      exact ⟨rfl, hb2⟩

set_option maxRecDepth 100000 in
set_option maxHeartbeats 1000000 in
theorem askS_ok (K : FuncId) (first : Array Value) (a u : Int) (b len : Nat) (S E D R : Nat → Int) (w : World) (hm : len ≤ 9223372036854775807) (hb : b < w.heap.size)
    (hK : ∀ W, (callFunc K first).run Try.prog W = .ok (.enter K first) W)
    (hQ : ∀ W, Below w.heap.size w W → Calls Try.prog K first W fun e W' => e = .returned (.agg #[.int .i64 a, .int .i64 u]) ∧ Below W.heap.size W W')
    (hc : ∀ i, i < len → w.cell? ⟨b, i, none⟩ = some (fv (S i) (E i) (D i) (R i)))
    (hv : ∀ i, i < len → rds (S i) (E i) (D i) (R i) = true) :
    Calls Try.prog 26 #[.func (.func K) first #[], .slice (some ⟨b, 0, none⟩) len len] w fun e w' => e = .returned (.tuple #[.agg #[.int .i64 a, .int .i64 u], .int .i64 0]) ∧ Below w.heap.size w w' := by
  have HC := Lib.hid hc; clear hc
  have HV := Lib.hid hv; clear hv
  have HQ := Lib.hid hQ; clear hQ
  go_enter Try.func26, Try.ntmps26
  go_wp2
  go_loopw [10] (fun i wr => ∃ k : Nat, k ≤ len ∧ i = .int .i64 k ∧ Below w.heap.size w wr ∧ wr.cell? ⟨w.heap.size, 0, none⟩ = some (.int .i64 0) ∧ wr.cell? ⟨w.heap.size, 1, none⟩ = some (.int .i64 0) ∧ wr.frozen? ⟨w.heap.size, 0, none⟩ = false ∧ wr.frozen? ⟨w.heap.size, 1, none⟩ = false) (fun i _ => len - (intOf i).toNat)
  case atStart => exact ⟨0, Nat.zero_le _, rfl, (Below.refl _ _).alloc (Nat.le_refl _) _, by simp [go_sem], by simp [go_sem], by simp [go_sem], by simp [go_sem]⟩
  case round =>
    obtain ⟨k, hk, rfl, hbw, y0, y1, z0, z1⟩ := hrel
    by_cases hlt : k < len
    · skip
      have g0 := HC.out k (by omega)
      have c0 := hbw.cell (p := ⟨b, k, none⟩) hb
      rw [g0] at c0
      clear g0
      unfold fv at c0
      go_wp2_with fail
      refine (fvalid_b _ _ _ _ true (HV.out k hlt) _).mono ?_
      rintro e w1 ⟨rfl, hb1⟩
      have hb2 : Below w.heap.size w w1 := (on_same (w := w) hbw hb1).1
      go_wp2_with fail
      go_roundw
      case rel => exact ⟨k + 1, by omega, by go_num, hb2, keepc hb1 y0, keepc hb1 y1, keepf hb1 y0 z0, keepf hb1 y1 z1⟩
      case measure => simp [intOf]; omega
    · go_wp2_with fail
      refine (HQ.out _ hbw).mono ?_
      rintro e w1 ⟨rfl, hb1⟩
      have hb2 : Below w.heap.size w w1 := (on_same (w := w) hbw hb1).1
      have Y0 := keepc hb1 y0
      have Y1 := keepc hb1 y1
      have Z0 := keepf hb1 y0 z0
      have Z1 := keepf hb1 y1 z1
      clear y0 y1 z0 z1
      go_wp2
      exact bodyPost_ret (v := .tuple #[.agg #[.int .i64 a, .int .i64 u], .int .i64 0]) (by simp [results, Try.results26, go_sem, Y0, Y1]) rfl ⟨rfl, (hb2.setCell (by simp) _).setCell (by simp) _⟩

set_option maxRecDepth 100000 in
set_option maxHeartbeats 1000000 in
theorem askS_err (K : FuncId) (first : Array Value) (b len : Nat) (S E D R : Nat → Int) (w : World) (hm : len ≤ 9223372036854775807) (hb : b < w.heap.size)
    (hc : ∀ i, i < len → w.cell? ⟨b, i, none⟩ = some (fv (S i) (E i) (D i) (R i)))
    (m : Nat) (hml : m < len) (hv : ∀ i, i < m → rds (S i) (E i) (D i) (R i) = true) (hx : rds (S m) (E m) (D m) (R m) = false) :
    Calls Try.prog 26 #[.func (.func K) first #[], .slice (some ⟨b, 0, none⟩) len len] w fun e w' => e = .returned (.tuple #[.agg #[.int .i64 0, .int .i64 0], .int .i64 1]) ∧ Below w.heap.size w w' := by
  have HC := Lib.hid hc; clear hc
  have HV := Lib.hid hv; clear hv
  have HX := Lib.hid hx; clear hx
  go_enter Try.func26, Try.ntmps26
  go_wp2
  go_loopw [10] (fun i wr => ∃ k : Nat, k ≤ m ∧ i = .int .i64 k ∧ Below w.heap.size w wr ∧ wr.cell? ⟨w.heap.size, 0, none⟩ = some (.int .i64 0) ∧ wr.cell? ⟨w.heap.size, 1, none⟩ = some (.int .i64 0) ∧ wr.frozen? ⟨w.heap.size, 0, none⟩ = false ∧ wr.frozen? ⟨w.heap.size, 1, none⟩ = false) (fun i _ => len - (intOf i).toNat)
  case atStart => exact ⟨0, Nat.zero_le _, rfl, (Below.refl _ _).alloc (Nat.le_refl _) _, by simp [go_sem], by simp [go_sem], by simp [go_sem], by simp [go_sem]⟩
  case round =>
    obtain ⟨k, hk, rfl, hbw, y0, y1, z0, z1⟩ := hrel
    have hlt2 : k < len := by omega
    by_cases hlt : k < m
    · skip
      have g0 := HC.out k (by omega)
      have c0 := hbw.cell (p := ⟨b, k, none⟩) hb
      rw [g0] at c0
      clear g0
      unfold fv at c0
      go_wp2_with fail
      refine (fvalid_b _ _ _ _ true (HV.out k hlt) _).mono ?_
      rintro e w1 ⟨rfl, hb1⟩
      have hb2 : Below w.heap.size w w1 := (on_same (w := w) hbw hb1).1
      go_wp2_with fail
      go_roundw
      case rel => exact ⟨k + 1, by omega, by go_num, hb2, keepc hb1 y0, keepc hb1 y1, keepf hb1 y0 z0, keepf hb1 y1 z1⟩
      case measure => simp [intOf]; omega
    · obtain rfl : k = m := by omega
      have g0 := HC.out k (by omega)
      have c0 := hbw.cell (p := ⟨b, k, none⟩) hb
      rw [g0] at c0
      clear g0
      unfold fv at c0
      go_wp2_with fail
      refine (fvalid_b _ _ _ _ false HX.out _).mono ?_
      rintro e w1 ⟨rfl, hb1⟩
      have hb2 : Below w.heap.size w w1 := (on_same (w := w) hbw hb1).1
      have Y0 := keepc hb1 y0
      have Y1 := keepc hb1 y1
      have Z0 := keepf hb1 y0 z0
      have Z1 := keepf hb1 y1 z1
      clear y0 y1 z0 z1
      go_wp2
      exact bodyPost_ret (v := .tuple #[.agg #[.int .i64 0, .int .i64 0], .int .i64 1]) (by simp [results, Try.results26, go_sem, Y0, Y1]) rfl ⟨rfl, (hb2.setCell (by simp) _).setCell (by simp) _⟩
end Go.Proofs.Ytnjhepkfjohdnaa
