/-
  The laws of layer 11: the head. The laws of layer 11: pieces that are cut; slices, where a box is written.
-/
import Derived.Test.YtiffgcipdamngaaZScnZL
import Derived.Test.YtiffgcipdamngaaZScnZG
import Derived.Test.YtiffgcipdamngaaZScnZC
import Derived.Test.YtiffgcipdamngaaZSgtZD
import Derived.Test.YtiffgcipdamngaaZSgtZV
import Derived.Test.YtiffgcipdamngaaZSgtZE
import Derived.Test.YtiffgcipdamngaaZSgtZA
import Derived.Deep.QuietTactic
import Derived.BigQuiet
import Derived.BigRegion
import Derived.Test.YtiffgcipdamngaaZSgtZB
import Derived.Test.YtiffgcipdamngaaZShpX
import Derived.Test.YtiffgcipdamngaaZShpY
import Derived.Test.YtiffgcipdamngaaZShpPG
import Derived.Test.YtiffgcipdamngaaZShpPK
import Derived.Test.YtiffgcipdamngaaZShpPS
import Derived.Laws.CopyRow
import Derived.Laws.CopyOwn
import Derived.Laws.MakeOwn
import Derived.StillTailTactics
import Derived.Deep.SlicePairs
namespace Go.Proofs.Ytiffgcipdamngaa
open Go.RowKit Go.Sort
open Go.RowKit (Below)
set_option linter.unusedVariables false
set_option linter.unusedSimpArgs false
attribute [local go_sem] Oper.semAt_some

/-- The piece and the body of the examples. -/
def tgx : List Q4 := [⟨100, 0, 0, 60⟩, ⟨100, 40, 0, 40⟩]
def svx (g : Nat) : Sv := ⟨10, none, 0, [], some ⟨g, 0, none⟩, 2, tgx⟩
def xsx : List (Int × Int) := [(50, -5), (60, -5), (60, 5), (50, 5)]
def bvx (g : Nat) : Bv := ⟨some ⟨g, 0, none⟩, 4, xsx, -5, 5⟩
theorem bok_x : Bok xsx (-5) 5 := by
  constructor
  · decide
  · decide
  · exact four (by unfold co; decide) (by unfold co; decide) (by unfold co; decide) (by unfold co; decide)
  · exact four (by unfold co; decide) (by unfold co; decide) (by unfold co; decide) (by unfold co; decide)
  · unfold co; decide
  · unfold co; decide
  · decide
  · exact fun i h0 h => four (P := fun i => 0 < i → px xsx 0 < px xsx i ∨ (px xsx 0 = px xsx i ∧ py xsx 0 < py xsx i)) (by decide) (by decide) (by decide) (by decide) i h h0
  · exact cvx4 (four (four (by decide) (by decide) (by decide) (by decide)) (four (by decide) (by decide) (by decide) (by decide)) (four (by decide) (by decide) (by decide) (by decide)) (four (by decide) (by decide) (by decide) (by decide)))
theorem bds_x0 : Bds [] := fun k hk => absurd hk (Nat.not_lt_zero k)
theorem bds_x (g : Nat) : Bds [bvx g] := one_of bok_x
theorem sml_x (g : Nat) : Sml [] [svx g] := ⟨by decide, (by show 1 ≤ 1000; decide), one_of (by show 0 ≤ 1000; decide), one_of (by show 2 ≤ 1000; decide)⟩
theorem sco_x (g : Nat) : Sco (gdV [svx g] 0) := ⟨(by show (1 : Int) ≤ 10; decide), (by show (10 : Int) ≤ 600; decide), (show Twt tgx from ⟨by decide, two_of (by decide) (by decide), by decide⟩), bds_x0⟩
theorem pok_x (g : Nat) : Pok [] [svx g] := ⟨(by show 0 < 1; decide), (by show 1 ≤ 20; decide), one_of (by show 0 + 0 + 0 ≤ 60; decide), bds_x0, one_of (sco_x g)⟩
theorem ok3_x (g : Nat) {O : List Bv} (h : Bds O) : Ok3 [] [svx g] 0 0 0 O := ⟨pok_x g, vv_iff.1 (by decide), h, one_of (show Eyo 0 0 0 tgx from two_of (by decide) (by decide))⟩
theorem lim_x (g : Nat) {O : List Bv} (h : O.length ≤ 60) : Lim 0 O.length [svx g] := one_of (by show 0 + 0 + O.length ≤ 60; omega)
theorem tot_x0 (g : Nat) : TotR [] [svx g] 0 0 0 [] 1 1 0 := Or.inr ⟨rfl, ok3_x g bds_x0, lim_x g (Nat.zero_le _), by kernel_rfl, by kernel_rfl⟩
theorem tot_x1 (g gp : Nat) : TotR [] [svx g] 0 0 0 [bvx gp] 2 5 0 := Or.inr ⟨rfl, ok3_x g (bds_x gp), lim_x g (by show 1 ≤ 60; decide), by kernel_rfl, by kernel_rfl⟩
theorem wor_x (g gp : Nat) : WorR [] [svx g] 0 0 0 [bvx gp] 2 5 0 0 := Or.inr ⟨rfl, ok3_x g (bds_x gp), lim_x g (by show 1 ≤ 60; decide), by kernel_rfl, by kernel_rfl, by kernel_rfl⟩
theorem kp_x (g gp : Nat) : KpR [] [svx g] 0 0 0 [bvx gp] 1 2 false 0 := Or.inr ⟨by decide, 2, 5, tot_x1 g gp, Or.inr ⟨rfl, by decide⟩⟩
theorem sce_x (g : Nat) : ScE [] [svx g] 100 0 0 [] 1 := Or.inl ⟨fun h => (h.2.2.2 0 (by show 0 < 1; decide)) 0 (by show 0 < 2; decide) ⟨rfl, rfl, rfl⟩, rfl⟩
theorem npok_x : ¬ Pok [] [] := fun h => absurd h.1 (by decide)
theorem svs_x {W : World} {g gs : Nat} {t t' : TypeId} {fz fz' : Nat × Nat} (h0 : W.heap[g]? = some (.cells #[.int .i64 100, .int .i64 0, .int .i64 0, .int .i64 60, .int .i64 100, .int .i64 40, .int .i64 0, .int .i64 40] t fz)) (h1 : W.heap[gs]? = some (.cells #[.int .i64 10, .slice none 0 0, .slice (some ⟨g, 0, none⟩) 2 2] t' fz')) : SvS W (some ⟨gs, 0, none⟩) [svx g] :=
  one_of ⟨gs, 0, rfl, by simp [World.cell?, h1, gdV, svx], by simp [World.cell?, h1, gdV, svx], by simp [World.cell?, h1, gdV, svx, tgx], BdS.nil _ _, s4_two h0⟩
theorem bds_blx {W : World} {g gb : Nat} {t t' : TypeId} {fz fz' : Nat × Nat} (h0 : W.heap[g]? = some (.cells #[.int .i64 50, .int .i64 (-5), .int .i64 60, .int .i64 (-5), .int .i64 60, .int .i64 5, .int .i64 50, .int .i64 5] t fz)) (h1 : W.heap[gb]? = some (.cells #[.slice (some ⟨g, 0, none⟩) 4 4, .int .i64 (-5), .int .i64 5] t' fz')) : BdS W (some ⟨gb, 0, none⟩) [bvx g] :=
  one_of ⟨gb, 0, rfl, by simp [World.cell?, h1, gdB, bvx, xsx], by simp [World.cell?, h1, gdB, bvx], by simp [World.cell?, h1, gdB, bvx],
    four ⟨g, 0, rfl, by simp [World.cell?, h0, gdS, gdB, bvx, xsx], by simp [World.cell?, h0, gdS, gdB, bvx, xsx]⟩ ⟨g, 0, rfl, by simp [World.cell?, h0, gdS, gdB, bvx, xsx], by simp [World.cell?, h0, gdS, gdB, bvx, xsx]⟩ ⟨g, 0, rfl, by simp [World.cell?, h0, gdS, gdB, bvx, xsx], by simp [World.cell?, h0, gdS, gdB, bvx, xsx]⟩ ⟨g, 0, rfl, by simp [World.cell?, h0, gdS, gdB, bvx, xsx], by simp [World.cell?, h0, gdS, gdB, bvx, xsx]⟩⟩
section
variable (g gs : Nat) (w : World) (h : SvS w (some ⟨gs, 0, none⟩) [svx g])
include h
theorem x_1 : Calls Try.prog 7 #[.agg #[.slice none 0 0, .slice (some ⟨gs, 0, none⟩) 1 1], .agg #[.int .i64 0, .int .i64 0, .int .i64 0], .slice none 0 0] w fun e_ w' => e_ = .returned (.tuple #[.agg #[.int .i64 1, .int .i64 1], .int .i64 0]) ∧ Below w.heap.size w w' := total_is none 0 [] (some ⟨gs, 0, none⟩) 1 [svx g] 0 0 0 none 0 [] (sml_x g) (by decide) 1 1 0 (tot_x0 g) w h (BdS.nil _ _) (BdS.nil _ _)
theorem x_2 (gb gp : Nat) (hb : BdS w (some ⟨gb, 0, none⟩) [bvx gp]) : Calls Try.prog 7 #[.agg #[.slice none 0 0, .slice (some ⟨gs, 0, none⟩) 1 1], .agg #[.int .i64 0, .int .i64 0, .int .i64 0], .slice (some ⟨gb, 0, none⟩) 1 1] w fun e_ w' => e_ = .returned (.tuple #[.agg #[.int .i64 2, .int .i64 5], .int .i64 0]) ∧ Below w.heap.size w w' := total_is none 0 [] (some ⟨gs, 0, none⟩) 1 [svx g] 0 0 0 (some ⟨gb, 0, none⟩) 1 [bvx gp] (sml_x g) (by simp) 2 5 0 (tot_x1 g gp) w h (BdS.nil _ _) hb
theorem x_3 (gb gp : Nat) (hb : BdS w (some ⟨gb, 0, none⟩) [bvx gp]) : Calls Try.prog 8 #[.agg #[.slice none 0 0, .slice (some ⟨gs, 0, none⟩) 1 1], .agg #[.int .i64 0, .int .i64 0, .int .i64 0], .slice (some ⟨gb, 0, none⟩) 1 1] w fun e_ w' => e_ = .returned (.tuple #[.agg #[.int .i64 2, .int .i64 5], .int .i64 0, .int .i64 0]) ∧ Below w.heap.size w w' := worst_is none 0 [] (some ⟨gs, 0, none⟩) 1 [svx g] 0 0 0 (some ⟨gb, 0, none⟩) 1 [bvx gp] (sml_x g) (by simp) 2 5 0 0 (wor_x g gp) w h (BdS.nil _ _) hb
theorem x_4 (gb gp : Nat) (hb : BdS w (some ⟨gb, 0, none⟩) [bvx gp]) : Calls Try.prog 9 #[.agg #[.slice none 0 0, .slice (some ⟨gs, 0, none⟩) 1 1], .agg #[.int .i64 0, .int .i64 0, .int .i64 0], .slice (some ⟨gb, 0, none⟩) 1 1, .agg #[.int .i64 1, .int .i64 2]] w fun e_ w' => e_ = .returned (.tuple #[.bool false, .int .i64 0]) ∧ Below w.heap.size w w' := keeps_is none 0 [] (some ⟨gs, 0, none⟩) 1 [svx g] 0 0 0 (some ⟨gb, 0, none⟩) 1 [bvx gp] (sml_x g) (by simp) 1 2 ⟨by decide, by decide⟩ ⟨by decide, by decide⟩ false 0 (kp_x g gp) w h (BdS.nil _ _) hb
theorem x_5 : Calls Try.prog 10 #[.agg #[.slice none 0 0, .slice (some ⟨gs, 0, none⟩) 1 1], .agg #[.int .i64 100, .int .i64 0, .int .i64 0], .slice none 0 0] w fun e_ w' => e_ = .returned (.tuple #[.slice none 0 0, .int .i64 1]) ∧ Below w.heap.size w w' := shares_0 none 0 [] (some ⟨gs, 0, none⟩) 1 [svx g] 100 0 0 none 0 [] (sml_x g) (by decide) 1 (sce_x g) (by decide) w h (BdS.nil _ _) (BdS.nil _ _)
theorem x_6 : Calls Try.prog 11 #[.agg #[.slice none 0 0, .slice (some ⟨gs, 0, none⟩) 1 1]] w fun e_ w' => e_ = .returned (.bool true) ∧ Below w.heap.size w w' := scvalid_is none 0 [] (some ⟨gs, 0, none⟩) 1 [svx g] (sml_x g) true (iff_of_true rfl (pok_x g)) w h (BdS.nil _ _)
end
theorem x_7 (w : World) : Calls Try.prog 11 #[.agg #[.slice none 0 0, .slice none 0 0]] w fun e_ w' => e_ = .returned (.bool false) ∧ Below w.heap.size w w' := scvalid_is none 0 [] none 0 [] ⟨by decide, by decide, fun k hk => absurd hk (Nat.not_lt_zero k), fun k hk => absurd hk (Nat.not_lt_zero k)⟩ false (iff_of_false (by decide) npok_x) w (SvS.nil _ _) (BdS.nil _ _)
theorem boxes6 (W : World) (o0 o1 o2 o3 o4 o5 : Obj) {V : World} (hV : ((((((W.alloc o0).alloc o1).alloc o2).alloc o3).alloc o4).alloc o5) = V) : Below W.heap.size W V ∧ V.heap[W.heap.size]? = some o0 ∧ V.heap[W.heap.size + 1]? = some o1 ∧ V.heap[W.heap.size + 1 + 1]? = some o2 ∧ V.heap[W.heap.size + 1 + 1 + 1]? = some o3 ∧ V.heap[W.heap.size + 1 + 1 + 1 + 1]? = some o4 ∧ V.heap[W.heap.size + 1 + 1 + 1 + 1 + 1]? = some o5 := by
  subst hV
  have nb : ∀ (U : World) (k : Nat) (o : Obj), U.heap.size = k → (U.alloc o).heap[k]? = some o := fun U k o h => by subst h; exact World.alloc_heap_new U o
  refine ⟨(((((((Below.refl _ W).alloc (Nat.le_refl _) _).alloc (by simp) _).alloc (by simp <;> omega) _).alloc (by simp <;> omega) _).alloc (by simp <;> omega) _).alloc (by simp <;> omega) _), ?_, ?_, ?_, ?_, ?_, ?_⟩
  · refine blk_new ?_ _; refine blk_new ?_ _; refine blk_new ?_ _; refine blk_new ?_ _; refine blk_new ?_ _; exact nb _ _ _ (by simp)
  · refine blk_new ?_ _; refine blk_new ?_ _; refine blk_new ?_ _; refine blk_new ?_ _; exact nb _ _ _ (by simp)
  · refine blk_new ?_ _; refine blk_new ?_ _; refine blk_new ?_ _; exact nb _ _ _ (by simp)
  · refine blk_new ?_ _; refine blk_new ?_ _; exact nb _ _ _ (by simp)
  · refine blk_new ?_ _; exact nb _ _ _ (by simp)
  · exact nb _ _ _ (by simp)
set_option maxRecDepth 100000 in
set_option maxHeartbeats 4000000 in
theorem head11_any (w : World) :
    Calls Try.prog 4 #[] w fun e_ w' => e_ = .returned (.bool true) ∧ Below w.heap.size w w' := by
  have e1 := fun W => rat_eq (a := 1) (b := 1) (x := 1) (y := 1) (r := true) (by decide) W
  have e2 := fun W => rat_eq (a := 2) (b := 5) (x := 2) (y := 5) (r := true) (by decide) W
  go_enter Try.func4, Try.ntmps4
  go_wp2_with fail
  obtain ⟨w1, hw1⟩ : ∃ V, ((((((w.alloc (.cells #[.int .i64 100, .int .i64 0, .int .i64 0, .int .i64 60, .int .i64 100, .int .i64 40, .int .i64 0, .int .i64 40] 41)).alloc (.cells #[.int .i64 10, .slice none 0 0, .slice (some ⟨w.heap.size, 0, none⟩) 2 2] 38)).alloc (.cells #[.slice none 0 0, .slice (some ⟨w.heap.size + 1, 0, none⟩) 1 1] 25)).alloc (.cells #[.int .i64 50, .int .i64 (-5), .int .i64 60, .int .i64 (-5), .int .i64 60, .int .i64 5, .int .i64 50, .int .i64 5] 43)).alloc (.cells #[.slice (some ⟨w.heap.size + 1 + 1 + 1, 0, none⟩) 4 4, .int .i64 (-5), .int .i64 5] 46)).alloc (.cells #[.int .i64 0, .int .i64 0, .int .i64 0] 27)) = V := ⟨_, rfl⟩
  obtain ⟨hb, k0, k1, k2, k3, k4, k5⟩ := boxes6 _ _ _ _ _ _ _ hw1
  rw [hw1]
  have HB := Lib.hid hb
  have HS := Lib.hid (svs_x k0 k1)
  have HM := Lib.hid (bds_blx k3 k4)
  have p0 := (two_cells k2).1
  have p1 := (two_cells k2).2.1
  have u0 := (cells3 k5).1
  have u1 := (cells3 k5).2.1
  have u2 := (cells3 k5).2.2
  clear hw1 hb k0 k1 k2 k3 k4 k5
  have lp := block_lt p0
  have lu := block_lt u0
  with_reducible refine (x_1 _ _ _ HS.out).mono ?_
  rintro e_ w2 ⟨rfl, hb⟩
  replace HB := Lib.hid (on_below HB.out hb)
  replace HS := Lib.hid (HS.out.below hb)
  replace HM := Lib.hid (HM.out.below hb)
  replace p0 := keepc hb p0
  replace p1 := keepc hb p1
  replace u0 := keepc hb u0
  replace u1 := keepc hb u1
  replace u2 := keepc hb u2
  replace lp := Nat.lt_of_lt_of_le lp hb.size
  replace lu := Nat.lt_of_lt_of_le lu hb.size
  clear hb
  go_wp2_with fail
  have a0 : World.cell? (w2.alloc (.cells #[.int .i64 1, .int .i64 1] 32)) ⟨w2.heap.size, 0, none⟩ = some (.int .i64 1) := by simp [go_sem]
  have a1 : World.cell? (w2.alloc (.cells #[.int .i64 1, .int .i64 1] 32)) ⟨w2.heap.size, 1, none⟩ = some (.int .i64 1) := by simp [go_sem]
  have la : w2.heap.size < (w2.alloc (.cells #[.int .i64 1, .int .i64 1] 32)).heap.size := by simp
  have hb : Below w2.heap.size w2 (w2.alloc (.cells #[.int .i64 1, .int .i64 1] 32)) := below_new _ _
  generalize w2.alloc (.cells #[.int .i64 1, .int .i64 1] 32) = w3 at *
  replace HB := Lib.hid (on_below HB.out hb)
  replace HS := Lib.hid (HS.out.below hb)
  replace HM := Lib.hid (HM.out.below hb)
  replace p0 := keepc hb p0
  replace p1 := keepc hb p1
  replace u0 := keepc hb u0
  replace u1 := keepc hb u1
  replace u2 := keepc hb u2
  replace lp := Nat.lt_of_lt_of_le lp hb.size
  replace lu := Nat.lt_of_lt_of_le lu hb.size
  clear hb
  generalize w2.heap.size = ga at *
  with_reducible refine (x_2 _ _ _ HS.out _ _ HM.out).mono ?_
  rintro e_ w4 ⟨rfl, hb⟩
  replace HB := Lib.hid (on_below HB.out hb)
  replace HS := Lib.hid (HS.out.below hb)
  replace HM := Lib.hid (HM.out.below hb)
  replace p0 := keepc hb p0
  replace p1 := keepc hb p1
  replace u0 := keepc hb u0
  replace u1 := keepc hb u1
  replace u2 := keepc hb u2
  replace a0 := keepc hb a0
  replace a1 := keepc hb a1
  replace lp := Nat.lt_of_lt_of_le lp hb.size
  replace lu := Nat.lt_of_lt_of_le lu hb.size
  replace la := Nat.lt_of_lt_of_le la hb.size
  clear hb
  go_wp2_with fail
  have b0 : World.cell? (w4.alloc (.cells #[.int .i64 2, .int .i64 5] 32)) ⟨w4.heap.size, 0, none⟩ = some (.int .i64 2) := by simp [go_sem]
  have b1 : World.cell? (w4.alloc (.cells #[.int .i64 2, .int .i64 5] 32)) ⟨w4.heap.size, 1, none⟩ = some (.int .i64 5) := by simp [go_sem]
  have lb : w4.heap.size < (w4.alloc (.cells #[.int .i64 2, .int .i64 5] 32)).heap.size := by simp
  have hb : Below w4.heap.size w4 (w4.alloc (.cells #[.int .i64 2, .int .i64 5] 32)) := below_new _ _
  generalize w4.alloc (.cells #[.int .i64 2, .int .i64 5] 32) = w5 at *
  replace HB := Lib.hid (on_below HB.out hb)
  replace HS := Lib.hid (HS.out.below hb)
  replace HM := Lib.hid (HM.out.below hb)
  replace p0 := keepc hb p0
  replace p1 := keepc hb p1
  replace u0 := keepc hb u0
  replace u1 := keepc hb u1
  replace u2 := keepc hb u2
  replace a0 := keepc hb a0
  replace a1 := keepc hb a1
  replace lp := Nat.lt_of_lt_of_le lp hb.size
  replace lu := Nat.lt_of_lt_of_le lu hb.size
  replace la := Nat.lt_of_lt_of_le la hb.size
  clear hb
  generalize w4.heap.size = gb at *
  with_reducible refine (x_3 _ _ _ HS.out _ _ HM.out).mono ?_
  rintro e_ w6 ⟨rfl, hb⟩
  replace HB := Lib.hid (on_below HB.out hb)
  replace HS := Lib.hid (HS.out.below hb)
  replace HM := Lib.hid (HM.out.below hb)
  replace p0 := keepc hb p0
  replace p1 := keepc hb p1
  replace u0 := keepc hb u0
  replace u1 := keepc hb u1
  replace u2 := keepc hb u2
  replace a0 := keepc hb a0
  replace a1 := keepc hb a1
  replace b0 := keepc hb b0
  replace b1 := keepc hb b1
  replace lp := Nat.lt_of_lt_of_le lp hb.size
  replace lu := Nat.lt_of_lt_of_le lu hb.size
  replace la := Nat.lt_of_lt_of_le la hb.size
  replace lb := Nat.lt_of_lt_of_le lb hb.size
  clear hb
  go_wp2_with fail
  have c0 : World.cell? (w6.alloc (.cells #[.int .i64 2, .int .i64 5] 32)) ⟨w6.heap.size, 0, none⟩ = some (.int .i64 2) := by simp [go_sem]
  have c1 : World.cell? (w6.alloc (.cells #[.int .i64 2, .int .i64 5] 32)) ⟨w6.heap.size, 1, none⟩ = some (.int .i64 5) := by simp [go_sem]
  have lc : w6.heap.size < (w6.alloc (.cells #[.int .i64 2, .int .i64 5] 32)).heap.size := by simp
  have hb : Below w6.heap.size w6 (w6.alloc (.cells #[.int .i64 2, .int .i64 5] 32)) := below_new _ _
  generalize w6.alloc (.cells #[.int .i64 2, .int .i64 5] 32) = w7 at *
  replace HB := Lib.hid (on_below HB.out hb)
  replace HS := Lib.hid (HS.out.below hb)
  replace HM := Lib.hid (HM.out.below hb)
  replace p0 := keepc hb p0
  replace p1 := keepc hb p1
  replace u0 := keepc hb u0
  replace u1 := keepc hb u1
  replace u2 := keepc hb u2
  replace a0 := keepc hb a0
  replace a1 := keepc hb a1
  replace b0 := keepc hb b0
  replace b1 := keepc hb b1
  replace lp := Nat.lt_of_lt_of_le lp hb.size
  replace lu := Nat.lt_of_lt_of_le lu hb.size
  replace la := Nat.lt_of_lt_of_le la hb.size
  replace lb := Nat.lt_of_lt_of_le lb hb.size
  clear hb
  generalize w6.heap.size = gc at *
  with_reducible refine (x_4 _ _ _ HS.out _ _ HM.out).mono ?_
  rintro e_ w8 ⟨rfl, hb⟩
  replace HB := Lib.hid (on_below HB.out hb)
  replace HS := Lib.hid (HS.out.below hb)
  replace HM := Lib.hid (HM.out.below hb)
  replace p0 := keepc hb p0
  replace p1 := keepc hb p1
  replace u0 := keepc hb u0
  replace u1 := keepc hb u1
  replace u2 := keepc hb u2
  replace a0 := keepc hb a0
  replace a1 := keepc hb a1
  replace b0 := keepc hb b0
  replace b1 := keepc hb b1
  replace c0 := keepc hb c0
  replace c1 := keepc hb c1
  replace lp := Nat.lt_of_lt_of_le lp hb.size
  replace lu := Nat.lt_of_lt_of_le lu hb.size
  replace la := Nat.lt_of_lt_of_le la hb.size
  replace lb := Nat.lt_of_lt_of_le lb hb.size
  replace lc := Nat.lt_of_lt_of_le lc hb.size
  clear hb
  go_wp2_with fail
  with_reducible refine (x_5 _ _ _ HS.out).mono ?_
  rintro e_ w9 ⟨rfl, hb⟩
  replace HB := Lib.hid (on_below HB.out hb)
  replace HS := Lib.hid (HS.out.below hb)
  replace HM := Lib.hid (HM.out.below hb)
  replace p0 := keepc hb p0
  replace p1 := keepc hb p1
  replace u0 := keepc hb u0
  replace u1 := keepc hb u1
  replace u2 := keepc hb u2
  replace a0 := keepc hb a0
  replace a1 := keepc hb a1
  replace b0 := keepc hb b0
  replace b1 := keepc hb b1
  replace c0 := keepc hb c0
  replace c1 := keepc hb c1
  replace lp := Nat.lt_of_lt_of_le lp hb.size
  replace lu := Nat.lt_of_lt_of_le lu hb.size
  replace la := Nat.lt_of_lt_of_le la hb.size
  replace lb := Nat.lt_of_lt_of_le lb hb.size
  replace lc := Nat.lt_of_lt_of_le lc hb.size
  clear hb
  go_wp2_with fail
  have d0 : World.cell? (w9.alloc (.cells #[.int .i64 2, .int .i64 5] 32)) ⟨w9.heap.size, 0, none⟩ = some (.int .i64 2) := by simp [go_sem]
  have d1 : World.cell? (w9.alloc (.cells #[.int .i64 2, .int .i64 5] 32)) ⟨w9.heap.size, 1, none⟩ = some (.int .i64 5) := by simp [go_sem]
  have ld : w9.heap.size < (w9.alloc (.cells #[.int .i64 2, .int .i64 5] 32)).heap.size := by simp
  have hb : Below w9.heap.size w9 (w9.alloc (.cells #[.int .i64 2, .int .i64 5] 32)) := below_new _ _
  generalize w9.alloc (.cells #[.int .i64 2, .int .i64 5] 32) = w10 at *
  replace HB := Lib.hid (on_below HB.out hb)
  replace HS := Lib.hid (HS.out.below hb)
  replace HM := Lib.hid (HM.out.below hb)
  replace p0 := keepc hb p0
  replace p1 := keepc hb p1
  replace u0 := keepc hb u0
  replace u1 := keepc hb u1
  replace u2 := keepc hb u2
  replace a0 := keepc hb a0
  replace a1 := keepc hb a1
  replace b0 := keepc hb b0
  replace b1 := keepc hb b1
  replace c0 := keepc hb c0
  replace c1 := keepc hb c1
  replace lp := Nat.lt_of_lt_of_le lp hb.size
  replace lu := Nat.lt_of_lt_of_le lu hb.size
  replace la := Nat.lt_of_lt_of_le la hb.size
  replace lb := Nat.lt_of_lt_of_le lb hb.size
  replace lc := Nat.lt_of_lt_of_le lc hb.size
  clear hb
  generalize w9.heap.size = gd at *
  with_reducible refine (x_6 _ _ _ HS.out).mono ?_
  rintro e_ w11 ⟨rfl, hb⟩
  replace HB := Lib.hid (on_below HB.out hb)
  replace HS := Lib.hid (HS.out.below hb)
  replace HM := Lib.hid (HM.out.below hb)
  replace p0 := keepc hb p0
  replace p1 := keepc hb p1
  replace u0 := keepc hb u0
  replace u1 := keepc hb u1
  replace u2 := keepc hb u2
  replace a0 := keepc hb a0
  replace a1 := keepc hb a1
  replace b0 := keepc hb b0
  replace b1 := keepc hb b1
  replace c0 := keepc hb c0
  replace c1 := keepc hb c1
  replace d0 := keepc hb d0
  replace d1 := keepc hb d1
  replace lp := Nat.lt_of_lt_of_le lp hb.size
  replace lu := Nat.lt_of_lt_of_le lu hb.size
  replace la := Nat.lt_of_lt_of_le la hb.size
  replace lb := Nat.lt_of_lt_of_le lb hb.size
  replace lc := Nat.lt_of_lt_of_le lc hb.size
  replace ld := Nat.lt_of_lt_of_le ld hb.size
  clear hb
  go_wp2_with fail
  with_reducible refine (x_7 _).mono ?_
  rintro e_ w12 ⟨rfl, hb⟩
  replace HB := Lib.hid (on_below HB.out hb)
  replace HS := Lib.hid (HS.out.below hb)
  replace HM := Lib.hid (HM.out.below hb)
  replace p0 := keepc hb p0
  replace p1 := keepc hb p1
  replace u0 := keepc hb u0
  replace u1 := keepc hb u1
  replace u2 := keepc hb u2
  replace a0 := keepc hb a0
  replace a1 := keepc hb a1
  replace b0 := keepc hb b0
  replace b1 := keepc hb b1
  replace c0 := keepc hb c0
  replace c1 := keepc hb c1
  replace d0 := keepc hb d0
  replace d1 := keepc hb d1
  replace lp := Nat.lt_of_lt_of_le lp hb.size
  replace lu := Nat.lt_of_lt_of_le lu hb.size
  replace la := Nat.lt_of_lt_of_le la hb.size
  replace lb := Nat.lt_of_lt_of_le lb hb.size
  replace lc := Nat.lt_of_lt_of_le lc hb.size
  replace ld := Nat.lt_of_lt_of_le ld hb.size
  clear hb
  go_wp2_with fail
  go_ret
  exact ⟨rfl, HB.out⟩
end Go.Proofs.Ytiffgcipdamngaa

namespace Go.Proofs.Ytiffgcipdamngaa
open Go.RowKit Go.Sort
open Go.RowKit (Below)
set_option linter.unusedVariables false
set_option linter.unusedSimpArgs false
attribute [local go_sem] Oper.semAt_some

theorem cutl_len (L : List Bv) : (cutl L).length ≤ 6 := by unfold cutl; rw [List.length_map, List.length_take]; omega
theorem fewl_len (N : List Sv) : (fewl N).length ≤ 4 ∧ (fewl N).length ≤ N.length := by unfold fewl; rw [List.length_map, List.length_take]; omega
theorem fewl_at {N : List Sv} {k : Nat} (hk : k < (fewl N).length) : gdV (fewl N) k = fewv (gdV N k) := by
  have h1 : k < N.length := by have := (fewl_len N).2; omega
  rw [gdV_at hk, gdV_at h1]
  unfold fewl
  simp
theorem few_sml (S : List Bv) (N : List Sv) : Sml (S.take 6) (fewl N) := by
  refine ⟨by rw [List.length_take]; omega, by have := (fewl_len N).1; omega, fun k hk => ?_, fun k hk => ?_⟩
  · rw [fewl_at hk]; show ((gdV N k).bs.take 6).length ≤ 1000; rw [List.length_take]; omega
  · rw [fewl_at hk]; show ((gdV N k).ts.take 8).length ≤ 1000; rw [List.length_take]; omega
/-- What a law takes in, and what is made of it. -/
structure Cutx (S : List Bv) (N : List Sv) (O : List Bv) (T : List Bv) (M : List Sv) (Q : List Bv) : Prop where
  t : S.take 6 = T
  m : fewl N = M
  q : cutl O = Q
section
variable {S : List Bv} {N : List Sv} {O T Q : List Bv} {M : List Sv}
theorem Cutx.sml (h : Cutx S N O T M Q) : Sml T M := by obtain ⟨rfl, rfl, rfl⟩ := h; exact few_sml S N
theorem Cutx.ql (h : Cutx S N O T M Q) : Q.length ≤ 6 := by obtain ⟨rfl, rfl, rfl⟩ := h; exact cutl_len O
theorem Cutx.tl (h : Cutx S N O T M Q) : T.length ≤ 6 := by obtain ⟨rfl, rfl, rfl⟩ := h; rw [List.length_take]; omega
theorem Cutx.ml (h : Cutx S N O T M Q) : M.length ≤ 4 := by obtain ⟨rfl, rfl, rfl⟩ := h; exact (fewl_len N).1
theorem Cutx.bl (h : Cutx S N O T M Q) (k : Nat) (hk : k < M.length) : (gdV M k).bs.length ≤ 6 ∧ (gdV M k).ts.length ≤ 8 := by
  obtain ⟨rfl, rfl, rfl⟩ := h
  rw [fewl_at hk]
  exact ⟨by show ((gdV N k).bs.take 6).length ≤ 6; rw [List.length_take]; omega, by show ((gdV N k).ts.take 8).length ≤ 8; rw [List.length_take]; omega⟩
end
/-! ### A box is written -/
section
variable {W : World} {g : Nat} {x0 x1 : Value} {t : TypeId} {u v : Value} {b i : Nat}
/-- The box of a play. -/
def Pbx (W : World) (g : Nat) : Prop := ∃ (A B : Option Addr) (n m C D : Nat) (t : TypeId), W.heap[g]? = some (.cells #[.slice A n C, .slice B m D] t (0, 0))
theorem pbx_ne {c : Int} (h : Pbx W g) (hc : W.cell? ⟨b, i, none⟩ = some (.int .i64 c)) : b ≠ g := by
  rintro rfl
  obtain ⟨A, B, n, m, C, D, t, h⟩ := h
  simp only [World.cell?, h] at hc
  match i, hc with
  | 0, hc => simp at hc
  | 1, hc => simp at hc
  | i + 2, hc => simp at hc
theorem cell_far {x : Value} (hb : b ≠ g) (h : W.cell? ⟨b, i, none⟩ = some x) : ((W.setCell ⟨g, 0, none⟩ u).setCell ⟨g, 1, none⟩ v).cell? ⟨b, i, none⟩ = some x := by
  have e : ((W.setCell ⟨g, 0, none⟩ u).setCell ⟨g, 1, none⟩ v).heap[b]? = W.heap[b]? := by
    rw [Below.heap_setCell _ ⟨g, 1, none⟩ v b hb, Below.heap_setCell _ ⟨g, 0, none⟩ u b hb]
  rw [← h]
  simp only [World.cell?, e]
theorem SlS.far {A : Option Addr} {xs : List (Int × Int)} (h : SlS W A xs) (hp : Pbx W g) : SlS ((W.setCell ⟨g, 0, none⟩ u).setCell ⟨g, 1, none⟩ v) A xs := fun k hk => by
  obtain ⟨b, o, e, h1, h2⟩ := h k hk
  have hb := pbx_ne hp h1
  exact ⟨b, o, e, cell_far hb h1, cell_far hb h2⟩
theorem BdS.far {A : Option Addr} {L : List Bv} (h : BdS W A L) (hp : Pbx W g) : BdS ((W.setCell ⟨g, 0, none⟩ u).setCell ⟨g, 1, none⟩ v) A L := fun k hk => by
  obtain ⟨b, o, e, h1, h2, h3, h4⟩ := h k hk
  have hb := pbx_ne hp h2
  exact ⟨b, o, e, cell_far hb h1, cell_far hb h2, cell_far hb h3, h4.far hp⟩
theorem S4.far {A : Option Addr} {L : List Q4} (h : S4 W A L) (hp : Pbx W g) : S4 ((W.setCell ⟨g, 0, none⟩ u).setCell ⟨g, 1, none⟩ v) A L := fun k hk => by
  obtain ⟨b, o, e, h1, h2, h3, h4⟩ := h k hk
  have hb := pbx_ne hp h1
  exact ⟨b, o, e, cell_far hb h1, cell_far hb h2, cell_far hb h3, cell_far hb h4⟩
theorem SvS.far {A : Option Addr} {L : List Sv} (h : SvS W A L) (hp : Pbx W g) : SvS ((W.setCell ⟨g, 0, none⟩ u).setCell ⟨g, 1, none⟩ v) A L := fun k hk => by
  obtain ⟨b, o, e, h1, h2, h3, h4, h5⟩ := h k hk
  have hb := pbx_ne hp h1
  exact ⟨b, o, e, cell_far hb h1, cell_far hb h2, cell_far hb h3, h4.far hp, h5.far hp⟩
end
end Go.Proofs.Ytiffgcipdamngaa
