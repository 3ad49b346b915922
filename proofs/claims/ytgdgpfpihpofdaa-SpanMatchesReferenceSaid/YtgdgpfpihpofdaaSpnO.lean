/-
  Package span: pieces, and the function that is ranged over.
-/
import Derived.Test.YtgdgpfpihpofdaaSpnN
import Derived.RangeFuncNested
import Derived.RangeFuncBound
import Derived.RangeFuncCalls
import Derived.RangeFuncLeaves
import Derived.Shelf.Abstract
import Derived.Shelf.RegionOpen
import Derived.WalkKit
import Derived.OwnWalkIn
import Derived.TacticsInMore
import Derived.LoopNIn
import Derived.LoopIn
namespace Go.Proofs.Ytgdgpfpihpofdaa
open Go.RowKit Go.Sort Go.Shelf
open Go.RowKit (Below)
set_option linter.unusedVariables false
attribute [local go_sem] Oper.semAt_some

theorem pieces_any (A B : Option Addr) (n C m D : Nat) (w : World) :
    Calls Try.prog 37 #[.slice A n C, .slice B m D] w fun e w' => e = .returned (.func (.func 40) #[] #[.pointer (some ⟨w.heap.size, 0, none⟩), .pointer (some ⟨w.heap.size + 1, 0, none⟩)]) ∧ w' = (w.alloc (.cells #[.slice A n C] 22)).alloc (.cells #[.slice B m D] 22) := by
  go_enter Try.func37, Try.ntmps37
  go_wp2
  go_ret
  exact ⟨rfl, rfl⟩

/-- What a round keeps: the blocks of ints. -/
structure Kp (W W' : World) : Prop where
  size : W.heap.size ≤ W'.heap.size
  same : ∀ (g : Nat) (cs : Array Value) (fz : Nat × Nat), W.heap[g]? = some (Obj.cells cs 3 fz) → W'.heap[g]? = some (Obj.cells cs 3 fz)
theorem Kp.refl (W : World) : Kp W W := ⟨Nat.le_refl _, fun _ _ _ h => h⟩
theorem Kp.trans {A B C : World} (h : Kp A B) (k : Kp B C) : Kp A C := ⟨Nat.le_trans h.size k.size, fun g cs fz hg => k.same g cs fz (h.same g cs fz hg)⟩
theorem Kp.put {W : World} {l : Nat} {o : Obj} (o' : Obj) (hl : W.heap[l]? = some o) (ho : o.isCells = false) : Kp W (W.putObj l o') :=
  ⟨by have := (grownBy_putObj' W l o').size; exact this, fun g cs fz hg => by
    have hne : g ≠ l := by rintro rfl; rw [hl] at hg; injection hg with hg; subst hg; cases ho
    rw [World.putObj_heap_other hne]; exact hg⟩
theorem Kp.grown {W W' : World} {row : Option Nat} (h : W.grownBy W' row) (hr : ∀ g, row = some g → ∃ o, W.heap[g]? = some o ∧ ∀ cs fz, o ≠ Obj.cells cs 3 fz) : Kp W W' :=
  ⟨h.size, fun g cs fz hg => by
    rw [h.block g (Array.getElem?_eq_some_iff.1 hg).1 fun e => ?_]
    · exact hg
    · obtain ⟨o, ho, hn⟩ := hr g e.symm
      rw [hg] at ho
      injection ho with ho
      exact hn cs fz ho.symm⟩
theorem Kp.sl {W W' : World} (h : Kp W W') {A : Option Addr} {X : List Int} (hs : Sl W A X) (ht : X ≠ [] → ∃ g, A = some ⟨g, 0, none⟩ ∧ Ty W g) : Sl W' A X := by
  intro k hk
  have hx : X ≠ [] := by rintro rfl; simp at hk
  obtain ⟨g, rfl, cs, fz, hg⟩ := ht hx
  obtain ⟨b, o, e, hc⟩ := hs k hk
  injection e with e
  injection e with e1 e2
  subst e1 e2
  refine ⟨_, _, rfl, ?_⟩
  rw [World.cell?_of_block (w := W) (w' := W') (a := ⟨g, 0 + k, none⟩) (by show W'.heap[g]? = W.heap[g]?; rw [hg, h.same g cs fz hg])]
  exact hc
theorem Kp.drew {W W' : World} (h : Kp W W') : Kp W W'.drew := ⟨h.size, h.same⟩
theorem Kp.ty {W W' : World} (h : Kp W W') {g : Nat} (ht : Ty W g) : Ty W' g := by
  obtain ⟨cs, fz, hg⟩ := ht
  exact ⟨cs, fz, h.same g cs fz hg⟩

/-- The pieces between neighbouring numbers, up to the k-th. -/
def prs (X : List Int) (k : Nat) : List Spn := (List.range k).map fun i => (gd X i, gd X (i + 1))
theorem prs_succ (X : List Int) (k : Nat) : prs X (k + 1) = prs X k ++ [(gd X k, gd X (k + 1))] := by simp [prs, List.range_succ]
theorem prs_len (X : List Int) (k : Nat) : (prs X k).length = k := by simp [prs]

theorem grown_below {W W' : World} (h : Below W.heap.size W W') : W.grownBy W' none := ⟨h.os, h.tape, h.output, h.size, fun k hk _ => h.block k hk⟩
def encP (s : Spn) : Array Value := #[.agg #[.int .i64 s.1, .int .i64 s.2]]

def YB (J Jx : List Spn → World → Prop) (pre : List Spn) (W1 : World) (b : Bool) (W' : World) : Prop := (b = true ∧ J pre W' ∧ Kp W1 W') ∨ (b = false ∧ Jx pre W')
set_option maxRecDepth 100000 in
set_option maxHeartbeats 2000000 in
theorem pieces1_in (n : Nat) (hn : 1 ≤ n) (l ba bb : Nat) (A B : Option Addr) (C D : Nat) (xs ys : List Spn) (hl : xs.length ≤ 1000) (hl2 : ys.length ≤ 1000) (N : Nat) (hN : N = (allE xs ys).length - 1) (J Jx : List Spn → World → Prop)
    (W : World) (hJ : AbidesFrom W.heap.size J)
    (hY : ∀ pre x W1, J pre W1 → pre.length < N → YieldAt Fence.wide (n - 1) Try.prog l (encP x) W1 fun e W' =>
      (e = .returned (.bool true) ∧ J (pre ++ [x]) W' ∧ Kp W1 W') ∨ (e = .returned (.bool false) ∧ Jx (pre ++ [x]) W'))
    (ha : W.cell? ⟨ba, 0, none⟩ = some (.slice A xs.length C)) (hb : W.cell? ⟨bb, 0, none⟩ = some (.slice B ys.length D)) (hx : Ls W A C xs) (hy : Ls W B D ys) (h0 : J [] W) :
    CallsIn Fence.wide n Try.prog 40 #[.func (.yield l) #[] #[], .pointer (some ⟨ba, 0, none⟩), .pointer (some ⟨bb, 0, none⟩)] W fun e W' => (∃ v, e = .returned v) ∧
      ((∃ ps, ps = prs (allE xs ys) N ∧ J ps W') ∨ (∃ pre, True ∧ Jx pre W')) := by
  have HJ := Lib.hid hJ
  have HY := Lib.hid hY
  have HX := Lib.hid hx
  have HZ := Lib.hid hy
  have H0 := Lib.hid h0
  have HSE := Lib.hid (callsIn_wide (n := n - 1).2 (sends_any A B C D xs ys W hl hl2 hx hy))
  have hX4 := (allE_ok xs ys).2.2
  generalize allE xs ys = X at *
  clear hJ hY hx hy h0
  refine callsIn_of_wp Try.func40 rfl trivial ?_ rfl
  simp only [Try.ntmps40, List.size_toArray, List.length_cons, List.length_nil, Nat.reduceAdd, Nat.reduceSub, Array.replicate_succ, Array.replicate_zero, List.push_toArray, List.append_toArray, List.nil_append, List.cons_append]
  gi_wp2_with fail
  refine ⟨trivial, HSE.out.mono ?_⟩
  rintro e W1 ⟨XA, XC, rfl, hs, hbl, hty⟩
  have HJ1 := Lib.hid (HJ.out [] W W1 none H0.out (grown_below hbl) (by rintro r e; cases e))
  have HW := Lib.hid (show W.heap.size ≤ W1.heap.size from hbl.size)
  have HS := Lib.hid hs
  have HT := Lib.hid hty
  have HN := Lib.hid hN
  clear hs hbl hty hN H0 HX HZ ha hb
  have hmx : Try.prog.follows .mixedOrders = true := by kernel_rfl
  gi_wp2_with fail
  gi_loopw [5] (fun i wr => ∃ k : Nat, k ≤ N ∧ i = .int .i64 ((k : Int) + 1) ∧ Hid (J (prs X k) wr ∧ Kp W1 wr)) (fun i _ => X.length - (intOf i).toNat)
  case atStart => exact ⟨0, Nat.zero_le _, rfl, HJ1.out, Kp.refl _⟩
  case round =>
    obtain ⟨k, hk, rfl, HI⟩ := hrel
    by_cases hlt : k < N
    · have hk1 : k + 1 < X.length := by have := HN.out; omega
      have hsl := HI.out.2.sl HS.out HT.out
      have hX0 : X ≠ [] := by rintro rfl; simp at hk1
      obtain ⟨g, rfl, -⟩ := HT.out hX0
      have hx0 := sl_here hsl (show k < X.length by omega)
      have hx1 := sl_here hsl hk1
      simp only [Nat.zero_add] at hx0 hx1
      have hJd := HJ.out _ wr wr.drew none HI.out.1 ⟨rfl, rfl, rfl, Nat.le_refl _, fun _ _ _ => rfl⟩ (by rintro r e; cases e)
      obtain ⟨fn, tmps, assign, body, hy, hR⟩ := HY.out (prs X k) (gd X k, gd X (k + 1)) wr.drew hJd (by rw [prs_len]; exact hlt)
      have HR := Lib.hid (RoundIn.mono hR (R' := fun e W' => ∃ b, e = .returned (.bool b) ∧ YB J Jx (prs X k ++ [(gd X k, gd X (k + 1))]) wr.drew b W') (by rintro e W' (⟨rfl, h1, h2⟩ | ⟨rfl, h1⟩); exact ⟨true, rfl, .inl ⟨rfl, h1, h2⟩⟩; exact ⟨false, rfl, .inr ⟨rfl, h1⟩⟩))
      clear hR
      have HP := Lib.hid (prs_succ X k)
      dsimp only [encP] at hy
      clear hsl hX0 hJd
      generalize gd X k = c at *
      generalize gd X (k + 1) = h at *
      gi_wp2_with fail
      have hi1 : k < X.length := by omega
      have hi2 : (k : Int) < X.length := by omega
      have hi3 : (k : Int) + 1 < X.length := by omega
      have hw1 : IntKind.i64.wrap (k : Int) = k := IntWalk.i64_in _ ⟨by omega, by omega⟩
      have hw2 : wrap64 (k : Int) = k := IntWalk.wrap64_in _ ⟨by omega, by omega⟩
      have hw5 : IntKind.i64.wrap ((k : Int) + 1 - 1) = k := by rw [show (k : Int) + 1 - 1 = k by omega]; exact hw1
      have hw3 : ((k : Int) + 1).toNat = k + 1 := by omega
      have hw4 : (0 : Int) ≤ (k : Int) + 1 := by omega
      gi_region_with_o (refine RoundIn.mono HR.out ?_; rintro e W' ⟨b, rfl, hYB⟩)
      all_goals
        clear hy hw1 hw2 hw3 hw4 hw5 hx0 hx1
        rcases hYB with ⟨rfl, hJ3, hk3⟩ | ⟨rfl, hJx3⟩
        · have HG := Lib.hid (show J (prs X (k + 1)) _ ∧ Kp W1 _ from ⟨by rw [HP.out]; exact hJ3, HI.out.2.drew.trans hk3⟩)
          clear hJ3 hk3 HI HR
          gi_wp2
          go_roundw
          case rel => exact ⟨k + 1, by omega, by go_num, HG.out⟩
          case measure => simp [intOf]; omega
        · have HG := Lib.hid hJx3
          clear hJx3 HI HR
          gi_wp2
          refine bodyPost_ret (results_none rfl _ _ _) rfl ?_
          exact ⟨⟨_, rfl⟩, .inr ⟨_, trivial, HG.out⟩⟩
    · have hk2 : k = N := by omega
      subst hk2
      have hge : ¬ ((k : Int) + 1 < X.length) := by have := HN.out; omega
      gi_wp2
      go_end0
      exact ⟨⟨_, rfl⟩, .inl (by first | exact HI.out.1 | exact ⟨_, rfl, HI.out.1⟩)⟩
end Go.Proofs.Ytgdgpfpihpofdaa
