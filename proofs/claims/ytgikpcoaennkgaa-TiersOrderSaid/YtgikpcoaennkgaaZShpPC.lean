/-
  Package shape: the iterator of edges.
-/
import Derived.Test.YtgikpcoaennkgaaZShpPB
import Derived.Test.YtgikpcoaennkgaaZShpR
import Derived.Shelf.Abstract
import Derived.Shelf.RegionOpen
import Derived.WalkKit
import Derived.OwnWalkIn
import Derived.TacticsInMore
import Derived.LoopNIn
import Derived.LoopIn
namespace Go.Proofs.Ytgikpcoaennkgaa
open Go.RowKit Go.Sort Go.Shelf
open Go.RowKit (Below)
set_option linter.unusedVariables false
set_option linter.unusedSimpArgs false

attribute [local go_sem] Oper.semAt_some
/-- The arguments of the k-th round: a corner, and the next one. -/
def encE (xs : List (Int × Int)) (k : Nat) : Array Value := #[.agg #[.int .i64 (gdS xs k).1, .int .i64 (gdS xs k).2], .agg #[.int .i64 (gdS xs (nx xs.length k)).1, .int .i64 (gdS xs (nx xs.length k)).2]]
theorem grown_of {W W' : World} (h : Below W.heap.size W W') : W.grownBy W' none := ⟨h.os, h.tape, h.output, h.size, fun k hk _ => h.block k hk⟩
theorem grown_drew (W : World) : W.grownBy W.drew none := ⟨rfl, rfl, rfl, Nat.le_refl _, fun _ _ _ => rfl⟩
theorem Kz.drew {b : Nat} {T : TypeId} {W W' : World} (h : Kz b T W W') : Kz b T W W'.drew := ⟨h.bel.drew, h.size, h.same⟩
theorem Kz.box {b : Nat} {T : TypeId} {W W' : World} (h : Kz b T W W') {g : Nat} {t : TypeId} {v : Value} (ht : t ≠ T) (hb : Boxed W g t v) : Boxed W' g t v := h.same g _ t _ ht hb
/-- What a round ends with. -/
def YB (J Jx : Nat → World → Prop) (Kp : World → World → Prop) (k : Nat) (W1 : World) (b : Bool) (W' : World) : Prop := (b = true ∧ J k W' ∧ Kp W1 W') ∨ (b = false ∧ Jx k W')
set_option maxRecDepth 100000 in
set_option maxHeartbeats 4000000 in
theorem edges_seq (n : Nat) (hn : 1 ≤ n) (bb : Nat) (A : Option Addr) (C : Nat) (xs : List (Int × Int)) (hlen : xs.length ≤ 9223372036854775806) (w0 w : World) (hx : SlS w0 A xs) (h0 : Below w0.heap.size w0 w) (hbox : Boxed w bb 45 (.slice A xs.length C)) :
    SeqN n Try.prog 70 #[.pointer (some ⟨bb, 0, none⟩)] xs.length (fun k args _ => args = encE xs k) (Kz w0.heap.size 28) w := by
  intro l J Jx W hW hJ hJx hY hJ0
  have HBX := Lib.hid (show Boxed W bb 45 (.slice A xs.length C) from hbox.kept (grown_of hW) (by simp))
  have HB0 := Lib.hid (show Below w0.heap.size w0 W from h0.trans (hW.mono h0.size))
  have HX := Lib.hid hx
  have HJ := Lib.hid hJ
  have HY := Lib.hid hY
  have H0 := Lib.hid hJ0
  have hc := HBX.out.cell
  clear hW hJ hJx hY hJ0 h0 hx hbox
  refine callsIn_of_wp Try.func70 rfl trivial ?_ rfl
  simp only [Try.ntmps70, List.size_toArray, List.length_cons, List.length_nil, Nat.reduceAdd, Nat.reduceSub, Array.replicate_succ, Array.replicate_zero, List.push_toArray, List.append_toArray, List.nil_append, List.cons_append]
  have hmx : Try.prog.follows .mixedOrders = true := by kernel_rfl
  gi_wp2_with fail
  gi_loopw [7] (fun i wr => ∃ k : Nat, k ≤ xs.length ∧ i = .int .i64 k ∧ Hid (J k wr ∧ Kz w0.heap.size 28 W wr)) (fun i _ => xs.length - (intOf i).toNat)
  case atStart => exact ⟨0, Nat.zero_le _, rfl, H0.out, Kz.refl _⟩
  case round =>
    obtain ⟨k, hk, rfl, HI⟩ := hrel
    replace HBX := Lib.hid (HI.out.2.box (by decide) HBX.out)
    have HB1 := Lib.hid (HB0.out.trans HI.out.2.bel)
    clear hc
    by_cases hlt : k < xs.length
    · have HS := Lib.hid (HX.out.below HB1.out)
      obtain ⟨b0, o0, rfl, e0, e1⟩ := HS.out k hlt
      obtain ⟨f0, f1⟩ := sl_two HS.out (nx_lt hlt)
      have hlb : w0.heap.size ≤ wr.heap.size := HB1.out.size
      have hc := HBX.out.cell
      -- the world behind the box of the loop's variable
      have ho := below_new wr (.cells #[.int .i64 (gdS xs k).1, .int .i64 (gdS xs k).2] 55)
      have HJd := Lib.hid (HJ.out k _ _ none (HJ.out k _ _ none HI.out.1 (grown_of ho) (by rintro r e; cases e)) (grown_drew _) (by rintro r e; cases e))
      have HKd := Lib.hid (show Kz w0.heap.size 28 W (wr.alloc (.cells #[.int .i64 (gdS xs k).1, .int .i64 (gdS xs k).2] 55)).drew from (HI.out.2.trans (Kz.alloc _ hlb)).drew)
      have c0 := keepc ho hc
      have c1 := keepc ho e0
      have c2 := keepc ho e1
      have c3 := keepc ho f0
      have c4 := keepc ho f1
      have c5 : World.cell? (wr.alloc (.cells #[.int .i64 (gdS xs k).1, .int .i64 (gdS xs k).2] 55)) ⟨wr.heap.size, 0, none⟩ = some (.int .i64 (gdS xs k).1) := by simp [go_sem]
      have c6 : World.cell? (wr.alloc (.cells #[.int .i64 (gdS xs k).1, .int .i64 (gdS xs k).2] 55)) ⟨wr.heap.size, 1, none⟩ = some (.int .i64 (gdS xs k).2) := by simp [go_sem]
      obtain ⟨fn, tmps, assign, body, hy, hR⟩ := HY.out k _ _ hlt HJd.out rfl
      have HR := Lib.hid (RoundIn.mono hR (R' := fun e W' => ∃ b, e = .returned (.bool b) ∧ YB J Jx (Kz w0.heap.size 28) (k + 1) (wr.alloc (.cells #[.int .i64 (gdS xs k).1, .int .i64 (gdS xs k).2] 55)).drew b W') (by rintro e W' (⟨rfl, h1, h2, _⟩ | ⟨rfl, h1, _⟩); exact ⟨true, rfl, .inl ⟨rfl, h1, h2⟩⟩; exact ⟨false, rfl, .inr ⟨rfl, h1⟩⟩))
      clear hR HI HJd
      dsimp only [encE] at hy
      have m1 := nx_tmod hlt
      have m2 := nx_emod hlt
      have w1_ : IntKind.i64.wrap ((k : Int) + 1) = (k : Int) + 1 := IntWalk.i64_in _ ⟨by omega, by omega⟩
      have w2_ : wrap64 ((k : Int) + 1) = (k : Int) + 1 := IntWalk.wrap64_in _ ⟨by omega, by omega⟩
      have z3 : ¬ xs = [] := by intro e; rw [e] at hlt; exact absurd hlt (Nat.not_lt_zero _)
      have z4 : ¬ xs.length = 0 := by omega
      have hn1 := nx_lt hlt
      have w3_ : IntKind.i64.wrap ((nx xs.length k : Nat) : Int) = (nx xs.length k : Nat) := IntWalk.i64_in _ ⟨by omega, by omega⟩
      generalize (gdS xs k).1 = x at *
      generalize (gdS xs k).2 = y at *
      generalize (gdS xs (nx xs.length k)).1 = u at *
      generalize (gdS xs (nx xs.length k)).2 = z at *
      generalize nx xs.length k = m at *
      clear HS ho
      gi_wp2_with fail
      generalize wr.alloc (.cells #[.int .i64 x, .int .i64 y] 55) = w2 at *
      clear hc e0 e1 f0 f1
      gi_region_with_o (refine round_room (RoundIn.mono HR.out ?_); rintro e W' ⟨b, rfl, hYB⟩)
      all_goals
        clear hy m1 m2 w1_ w2_ w3_ z3 z4 hn1 c0 c1 c2 c3 c4 c5 c6
        rcases hYB with ⟨rfl, hJ3, hk3⟩ | ⟨rfl, hJx3⟩
        · have HG := Lib.hid (show J (k + 1) W' ∧ Kz w0.heap.size 28 W W' from ⟨hJ3, HKd.out.trans hk3⟩)
          clear hJ3 hk3 HR HKd
          gi_wp2
          go_roundw
          case rel => exact ⟨k + 1, hlt, by go_num, HG.out⟩
          case measure => simp [intOf]; omega
        · have HG := Lib.hid hJx3
          clear hJx3 HR HKd
          gi_wp2
          refine bodyPost_ret (results_none rfl _ _ _) rfl ?_
          exact ⟨⟨_, rfl⟩, .inr ⟨_, hlt, HG.out⟩⟩
    · have hk2 : k = xs.length := by omega
      have HF := Lib.hid (show J xs.length wr from hk2 ▸ HI.out.1)
      clear hk2
      gi_wp2
      go_end0
      exact ⟨⟨_, rfl⟩, .inl HF.out⟩
end Go.Proofs.Ytgikpcoaennkgaa
