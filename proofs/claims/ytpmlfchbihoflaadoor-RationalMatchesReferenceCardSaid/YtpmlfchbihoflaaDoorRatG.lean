/-
  Package rational: Make returns the reduced quotient of any two ints, or ErrZero, or ErrRange.
-/
import Derived.Test.YtpmlfchbihoflaaDoorRatF
namespace Go.Proofs.YtpmlfchbihoflaaDoor
open Go.RowKit

/-- A cell that is there lies in a block that is there. -/
theorem block_lt {w : World} {a : Addr} {v : Value} (h : w.cell? a = some v) : a.block < w.heap.size := by
  refine Nat.lt_of_not_le fun hle => ?_
  unfold World.cell? at h
  rw [Array.getElem?_eq_none hle] at h
  cases h

set_option maxHeartbeats 400000 in
theorem makeW_ok (b0 b1 : Nat) (n d : Int) (w : World) (hn : I64 n) (hd : I64 d) (c0 : w.cell? ⟨b0, 0, none⟩ = some (.int .i64 n)) (c1 : w.cell? ⟨b1, 0, none⟩ = some (.int .i64 d)) (h : mkE n d = 0) :
    Calls Tryd.prog 31 #[.pointer (some ⟨b0, 0, none⟩), .pointer (some ⟨b1, 0, none⟩)] w fun e w' => e = .returned (.agg #[.int .i64 (mkN n d), .int .i64 (mkD n d)]) ∧ Below w.heap.size w w' := by
  have g0 := block_lt c0
  have g1 := block_lt c1
  have H := Lib.hid h; clear h
  go_enter Tryd.func31, Tryd.ntmps31
  go_wp2_with fail
  refine (reduce_ok n d _ hn.1 hn.2 hd.1 hd.2 H.out).mono ?_
  rintro e w1 ⟨rfl, hb⟩
  obtain ⟨h1, h2⟩ := bcell hb
  have z0 : w1.cell? ⟨w.heap.size, 0, none⟩ = some (.int .i64 0) := by rw [h1 _ _ (by simp)]; simp [go_sem]
  have z1 : w1.cell? ⟨w.heap.size, 1, none⟩ = some (.int .i64 0) := by rw [h1 _ _ (by simp)]; simp [go_sem]
  have f0 : w1.frozen? ⟨w.heap.size, 0, none⟩ = false := by rw [h2 _ _ (by simp)]; simp [go_sem]
  have f1 : w1.frozen? ⟨w.heap.size, 1, none⟩ = false := by rw [h2 _ _ (by simp)]; simp [go_sem]
  clear h1 h2 c0 c1
  go_wp2_with fail
  refine bodyPost_ret (v := .agg #[.int .i64 (mkN n d), .int .i64 (mkD n d)]) (by simp [results, Tryd.results31, go_sem, z0, z1]) rfl ⟨rfl, ?_⟩
  exact ((((Below.refl _ _).alloc (Nat.le_refl _) _).trans (hb.mono (by simp))).setCell (by simp) _).setCell (by simp) _
set_option maxHeartbeats 400000 in
theorem makeW_err (b0 b1 : Nat) (n d : Int) (w : World) (hn : I64 n) (hd : I64 d) (c0 : w.cell? ⟨b0, 0, none⟩ = some (.int .i64 n)) (c1 : w.cell? ⟨b1, 0, none⟩ = some (.int .i64 d)) (h : mkE n d ≠ 0) :
    Calls Tryd.prog 31 #[.pointer (some ⟨b0, 0, none⟩), .pointer (some ⟨b1, 0, none⟩)] w fun e w' => e = raise (mkE n d) ∧ Below w.heap.size w w' := by
  have g0 := block_lt c0
  have g1 := block_lt c1
  have H := Lib.hid h; clear h
  go_enter Tryd.func31, Tryd.ntmps31
  go_wp2_with fail
  refine (reduce_err n d _ hn.1 hn.2 hd.1 hd.2 H.out).mono ?_
  rintro e w1 ⟨rfl, hb⟩
  go_wp2_with fail
  exact ⟨rfl, rfl, ((Below.refl _ _).alloc (Nat.le_refl _) _).trans (hb.mono (by simp))⟩

theorem make_enter (cap : Array Value) (W : World) : (callFunc 31 cap).run Tryd.prog W = .ok (.enter 31 cap) W := by simp [go_sem]

set_option maxRecDepth 100000 in
set_option maxHeartbeats 400000 in
theorem make_any (n d : Int) (w : World) (hn : I64 n) (hd : I64 d) :
    Calls Tryd.prog 8 #[.int .i64 n, .int .i64 d] w fun e w' => e = .returned (.tuple #[.agg #[.int .i64 (mkN n d), .int .i64 (mkD n d)], .int .i64 (mkE n d)]) ∧ Below w.heap.size w w' := by
  have hmf : ∀ (fn : Fn) (first cap : Array Value) (w : World), (Instr.makeFunc fn first cap).run Tryd.prog w = .ok (.func fn first cap) w := fun _ _ _ _ => rfl
  have hat : ∀ W0 : World, W0.cell? ⟨w.heap.size, 0, none⟩ = some (.int .i64 n) → W0.cell? ⟨w.heap.size + 1, 0, none⟩ = some (.int .i64 d) →
      Calls Tryd.prog 30 #[.func (.func 31) #[] #[.pointer (some ⟨w.heap.size, 0, none⟩), .pointer (some ⟨w.heap.size + 1, 0, none⟩)]] W0
        fun e w' => e = .returned (.tuple #[.agg #[.int .i64 (mkN n d), .int .i64 (mkD n d)], .int .i64 (mkE n d)]) ∧ Below W0.heap.size W0 w' := by
    intro W0 c0 c1
    by_cases he : mkE n d = 0
    · rw [he]
      refine attemptR_ok _ _ _ _ _ (make_enter _) fun W hW => ?_
      exact makeW_ok _ _ n d W hn hd (by rw [hW.cell (block_lt c0)]; exact c0) (by rw [hW.cell (block_lt c1)]; exact c1) he
    · rw [show mkN n d = 0 by simp [mkN, he], show mkD n d = 0 by simp [mkD, he]]
      refine attemptR_err _ _ _ _ (make_enter _) fun W hW => ?_
      exact makeW_err _ _ n d W hn hd (by rw [hW.cell (block_lt c0)]; exact c0) (by rw [hW.cell (block_lt c1)]; exact c1) he
  have HA := Lib.hid hat; clear hat
  go_enter Tryd.func8, Tryd.ntmps8
  go_wp2_with fail
  refine (HA.out _ (by simp [go_sem]) (by simp [go_sem])).mono ?_
  rintro e w1 ⟨rfl, hb⟩
  obtain ⟨h1, h2⟩ := bcell hb
  have z0 : w1.cell? ⟨w.heap.size + 1 + 1, 0, none⟩ = some (.int .i64 0) := by rw [h1 _ _ (by simp)]; simp [go_sem]
  have z1 : w1.cell? ⟨w.heap.size + 1 + 1, 1, none⟩ = some (.int .i64 0) := by rw [h1 _ _ (by simp)]; simp [go_sem]
  have f0 : w1.frozen? ⟨w.heap.size + 1 + 1, 0, none⟩ = false := by rw [h2 _ _ (by simp)]; simp [go_sem]
  have f1 : w1.frozen? ⟨w.heap.size + 1 + 1, 1, none⟩ = false := by rw [h2 _ _ (by simp)]; simp [go_sem]
  clear h1 h2
  go_wp2_with fail
  refine bodyPost_ret (v := .tuple #[.agg #[.int .i64 (mkN n d), .int .i64 (mkD n d)], .int .i64 (mkE n d)]) (by simp [results, Tryd.results8, go_sem, z0, z1]) rfl ⟨rfl, ?_⟩
  exact ((((((Below.refl _ _).alloc (Nat.le_refl _) _).alloc (by simp) _).alloc (by simp; omega) _).trans (hb.mono (by simp; omega))).setCell (by simp; omega) _).setCell (by simp; omega) _
end Go.Proofs.YtpmlfchbihoflaaDoor
