/-
  The laws of layer 12: the head.
-/
import Derived.Test.YtgikpcoaennkgaaZTrsZH
import Derived.Test.YtgikpcoaennkgaaZShpX
namespace Go.Proofs.Ytgikpcoaennkgaa
open Go.RowKit Go.Sort
open Go.RowKit (Below)
set_option linter.unusedVariables false
set_option linter.unusedSimpArgs false
attribute [local go_sem] Oper.semAt_some

/-- The plan of the examples. -/
def pl0 : List Pl := [⟨7, 0, 3, 0, 0, 10, 1⟩, ⟨5, 0, 4, 5, 0, 10, 1⟩, ⟨9, 0, 6, 15, 0, 10, 2⟩, ⟨2, 1, 4, 5, 9, 14, 1⟩]
theorem p4 {P : Nat → Prop} (h0 : P 0) (h1 : P 1) (h2 : P 2) (h3 : P 3) : ∀ i, i < 4 → P i := four h0 h1 h2 h3
theorem pl0_ok : PlOk3 pl0 := ⟨by decide, p4 (by decide) (by decide) (by decide) (by decide), (fun k hk => by
    have : k = 0 ∨ k = 1 ∨ k = 2 := by have h : pl0.length = 4 := rfl; omega
    rcases this with rfl | rfl | rfl <;> decide), (fun i j hi hj => by
    have h : pl0.length = 4 := rfl
    have : (i = 0 ∧ j = 1) ∨ (i = 0 ∧ j = 2) ∨ (i = 0 ∧ j = 3) ∨ (i = 1 ∧ j = 2) ∨ (i = 1 ∧ j = 3) ∨ (i = 2 ∧ j = 3) := by omega
    rcases this with ⟨rfl, rfl⟩ | ⟨rfl, rfl⟩ | ⟨rfl, rfl⟩ | ⟨rfl, rfl⟩ | ⟨rfl, rfl⟩ | ⟨rfl, rfl⟩ <;> decide)⟩
theorem pl1_no : ¬ PlOk3 [⟨5, 0, 4, 5, 0, 10, 1⟩, ⟨7, 0, 3, 0, 0, 10, 1⟩] := fun h => by have := h.rise 0 (by decide); revert this; decide
theorem plan_any (w : World) : Calls Try.prog 21 #[] w fun e_ w' => e_ = .returned (.slice (some ⟨w.heap.size, 0, none⟩) 4 4) ∧ w' = w.alloc (.cells #[.int .i64 7, .int .i64 0, .int .i64 3, .int .i64 0, .int .i64 0, .int .i64 10, .int .i64 1, .int .i64 5, .int .i64 0, .int .i64 4, .int .i64 5, .int .i64 0, .int .i64 10, .int .i64 1, .int .i64 9, .int .i64 0, .int .i64 6, .int .i64 15, .int .i64 0, .int .i64 10, .int .i64 2, .int .i64 2, .int .i64 1, .int .i64 4, .int .i64 5, .int .i64 9, .int .i64 14, .int .i64 1] 28) := by
  go_enter Try.func21, Try.ntmps21
  go_wp2
  go_ret
  exact ⟨rfl, rfl⟩
theorem pls_four {W : World} {g : Nat} {t : TypeId} {fz : Nat × Nat} (h : W.heap[g]? = some (.cells #[.int .i64 7, .int .i64 0, .int .i64 3, .int .i64 0, .int .i64 0, .int .i64 10, .int .i64 1, .int .i64 5, .int .i64 0, .int .i64 4, .int .i64 5, .int .i64 0, .int .i64 10, .int .i64 1, .int .i64 9, .int .i64 0, .int .i64 6, .int .i64 15, .int .i64 0, .int .i64 10, .int .i64 2, .int .i64 2, .int .i64 1, .int .i64 4, .int .i64 5, .int .i64 9, .int .i64 14, .int .i64 1] t fz)) : PlS W (some ⟨g, 0, none⟩) pl0 := by
  intro k hk
  have : k = 0 ∨ k = 1 ∨ k = 2 ∨ k = 3 := by have h : pl0.length = 4 := rfl; omega
  refine ⟨g, 0, rfl, ?_⟩
  unfold World.cell?
  simp only [h]
  rcases this with rfl | rfl | rfl | rfl <;> exact ⟨rfl, rfl, rfl, rfl, rfl, rfl, rfl⟩
theorem pls_two {W : World} {g : Nat} {t : TypeId} {fz : Nat × Nat} (h : W.heap[g]? = some (.cells #[.int .i64 5, .int .i64 0, .int .i64 4, .int .i64 5, .int .i64 0, .int .i64 10, .int .i64 1, .int .i64 7, .int .i64 0, .int .i64 3, .int .i64 0, .int .i64 0, .int .i64 10, .int .i64 1] t fz)) : PlS W (some ⟨g, 0, none⟩) [⟨5, 0, 4, 5, 0, 10, 1⟩, ⟨7, 0, 3, 0, 0, 10, 1⟩] := by
  intro k hk
  have : k = 0 ∨ k = 1 := by simp at hk; omega
  refine ⟨g, 0, rfl, ?_⟩
  unfold World.cell?
  simp only [h]
  rcases this with rfl | rfl <;> exact ⟨rfl, rfl, rfl, rfl, rfl, rfl, rfl⟩
theorem ins_two {W : World} {g : Nat} {a b : Int} {t : TypeId} {fz : Nat × Nat} (h : W.heap[g]? = some (.cells #[.int .i64 a, .int .i64 b] t fz)) : InS W (some ⟨g, 0, none⟩) [a, b] := by
  intro k hk
  have : k = 0 ∨ k = 1 := by simp at hk; omega
  refine ⟨g, 0, rfl, ?_⟩
  unfold World.cell?
  simp only [h]
  rcases this with rfl | rfl <;> rfl
theorem ins_one {W : World} {g : Nat} {a : Int} {t : TypeId} {fz : Nat × Nat} (h : W.heap[g]? = some (.cells #[.int .i64 a] t fz)) : InS W (some ⟨g, 0, none⟩) [a] := by
  intro k hk
  have : k = 0 := by simp at hk; omega
  refine ⟨g, 0, rfl, ?_⟩
  unfold World.cell?
  simp only [h]
  subst this
  rfl
theorem ins_four {W : World} {g : Nat} {a b c d : Int} {t : TypeId} {fz : Nat × Nat} (h : W.heap[g]? = some (.cells #[.int .i64 a, .int .i64 b, .int .i64 c, .int .i64 d] t fz)) : InS W (some ⟨g, 0, none⟩) [a, b, c, d] := by
  intro k hk
  have : k = 0 ∨ k = 1 ∨ k = 2 ∨ k = 3 := by simp at hk; omega
  refine ⟨g, 0, rfl, ?_⟩
  unfold World.cell?
  simp only [h]
  rcases this with rfl | rfl | rfl | rfl <;> rfl
/-- The parts of the examples. -/
def pr0 : List (List Int) := [[7, 5], [9], [2]]
theorem lls_three {W : World} {a b c g : Nat} {t1 t2 t3 t4 : TypeId} {z1 z2 z3 z4 : Nat × Nat} (h1 : W.heap[a]? = some (.cells #[.int .i64 7, .int .i64 5] t1 z1)) (h2 : W.heap[b]? = some (.cells #[.int .i64 9] t2 z2)) (h3 : W.heap[c]? = some (.cells #[.int .i64 2] t3 z3))
    (h : W.heap[g]? = some (.cells #[.slice (some ⟨a, 0, none⟩) 2 2, .slice (some ⟨b, 0, none⟩) 1 1, .slice (some ⟨c, 0, none⟩) 1 1] t4 z4)) : LLS W (some ⟨g, 0, none⟩) pr0 := by
  intro k hk
  have : k = 0 ∨ k = 1 ∨ k = 2 := by have h : pr0.length = 3 := rfl; omega
  obtain ⟨c0, c1, c2⟩ := cells3 h
  rcases this with rfl | rfl | rfl
  · exact ⟨g, 0, _, _, rfl, c0, ins_two h1⟩
  · exact ⟨g, 0, _, _, rfl, c1, ins_one h2⟩
  · exact ⟨g, 0, _, _, rfl, c2, ins_one h3⟩
/-- The head of the examples. -/
def hp0 : List (Int × Int) := [(-2, -2), (2, -2), (2, 2), (-2, 2)]
theorem bok_hp0 : Bok hp0 8 13 := by
  constructor
  · decide
  · decide
  · exact four (by unfold co; decide) (by unfold co; decide) (by unfold co; decide) (by unfold co; decide)
  · exact four (by unfold co; decide) (by unfold co; decide) (by unfold co; decide) (by unfold co; decide)
  · unfold co; decide
  · unfold co; decide
  · decide
  · exact fun i h0 h => four (P := fun i => 0 < i → px hp0 0 < px hp0 i ∨ (px hp0 0 = px hp0 i ∧ py hp0 0 < py hp0 i)) (by decide) (by decide) (by decide) (by decide) i h h0
  · exact cvx4 (four (four (by decide) (by decide) (by decide) (by decide)) (four (by decide) (by decide) (by decide) (by decide)) (four (by decide) (by decide) (by decide) (by decide)) (four (by decide) (by decide) (by decide) (by decide)))
theorem bds_hp {W : World} {gb : Nat} {lo hi : Int} {A : Option Addr} {C : Nat} {t : TypeId} {fz : Nat × Nat} (h0 : SlS W A hp0) (h1 : W.heap[gb]? = some (.cells #[.slice A 4 C, .int .i64 lo, .int .i64 hi] t fz)) : BdS W (some ⟨gb, 0, none⟩) [⟨A, C, hp0, lo, hi⟩] := by
  intro k hk
  have : k = 0 := by simp at hk; omega
  subst this
  obtain ⟨c0, c1, c2⟩ := cells3 h1
  exact ⟨gb, 0, rfl, c0, c1, c2, h0⟩
theorem i64d {x : Int} (h1 : -9223372036854775808 ≤ x) (h2 : x ≤ 9223372036854775807) : I64 x := ⟨h1, h2⟩
section
variable (g : Nat) (w : World) (h : PlS w (some ⟨g, 0, none⟩) pl0)
include h
theorem y_1 : Calls Try.prog 12 #[.slice (some ⟨g, 0, none⟩) 4 4, .int .i64 9] w fun e_ w' => e_ = .returned (.tuple #[.int .i64 2, .int .i64 0]) ∧ Below w.heap.size w w' := tfin_is (some ⟨g, 0, none⟩) 4 pl0 9 (by unfold I64; omega) 2 0 (.inr (.inr ⟨pl0_ok, by decide, by decide, rfl⟩)) w h
theorem y_2 : Calls Try.prog 14 #[.slice (some ⟨g, 0, none⟩) 4 4, .int .i64 5, .int .i64 7] w fun e_ w' => e_ = .returned (.tuple #[.bool true, .int .i64 0]) ∧ Below w.heap.size w w' := tbes_is (some ⟨g, 0, none⟩) 4 pl0 5 7 (by unfold I64; omega) (by unfold I64; omega) true 0 (.inr (.inr ⟨pl0_ok, by decide, by decide, by decide, rfl⟩)) w h
theorem y_3 : Calls Try.prog 14 #[.slice (some ⟨g, 0, none⟩) 4 4, .int .i64 5, .int .i64 9] w fun e_ w' => e_ = .returned (.tuple #[.bool false, .int .i64 0]) ∧ Below w.heap.size w w' := tbes_is (some ⟨g, 0, none⟩) 4 pl0 5 9 (by unfold I64; omega) (by unfold I64; omega) false 0 (.inr (.inr ⟨pl0_ok, by decide, by decide, by decide, rfl⟩)) w h
theorem y_4 : Calls Try.prog 14 #[.slice (some ⟨g, 0, none⟩) 4 4, .int .i64 5, .int .i64 2] w fun e_ w' => e_ = .returned (.tuple #[.bool false, .int .i64 0]) ∧ Below w.heap.size w w' := tbes_is (some ⟨g, 0, none⟩) 4 pl0 5 2 (by unfold I64; omega) (by unfold I64; omega) false 0 (.inr (.inr ⟨pl0_ok, by decide, by decide, by decide, rfl⟩)) w h
theorem y_5 : Calls Try.prog 12 #[.slice (some ⟨g, 0, none⟩) 4 4, .int .i64 8] w fun e_ w' => e_ = .returned (.tuple #[.int .i64 0, .int .i64 4]) ∧ Below w.heap.size w w' := tfin_is (some ⟨g, 0, none⟩) 4 pl0 8 (by unfold I64; omega) 0 4 (.inr (.inl ⟨pl0_ok, by decide, rfl, rfl⟩)) w h
theorem y_6 : Calls Try.prog 23 #[.slice (some ⟨g, 0, none⟩) 4 4] w fun e_ w' => e_ = .returned (.bool true) ∧ Below w.heap.size w w' := pval12_is (some ⟨g, 0, none⟩) 4 pl0 true (iff_of_true rfl pl0_ok) w h
theorem y_7 (b : Nat) (hb : InS w (some ⟨b, 0, none⟩) [9, 2, 5, 7]) : Calls Try.prog 15 #[.slice (some ⟨g, 0, none⟩) 4 4, .slice (some ⟨b, 0, none⟩) 4 4] w fun e_ w' => ∃ A C, e_ = .returned (.tuple #[.slice A 3 C, .int .i64 0]) ∧ LLS w' A pr0 ∧ Below w.heap.size w w' :=
  (parts_is (some ⟨g, 0, none⟩) 4 pl0 (some ⟨b, 0, none⟩) 4 [9, 2, 5, 7] (by decide) (four (i64d (by decide) (by decide)) (i64d (by decide) (by decide)) (i64d (by decide) (by decide)) (i64d (by decide) (by decide))) 0 (.inr (.inr (.inr (.inr ⟨by decide, pl0_ok, four (by decide) (by decide) (by decide) (by decide), (fun i j hi hj => by
    have h : ([9, 2, 5, 7] : List Int).length = 4 := rfl
    have : (i = 0 ∧ j = 1) ∨ (i = 0 ∧ j = 2) ∨ (i = 0 ∧ j = 3) ∨ (i = 1 ∧ j = 2) ∨ (i = 1 ∧ j = 3) ∨ (i = 2 ∧ j = 3) := by omega
    rcases this with ⟨rfl, rfl⟩ | ⟨rfl, rfl⟩ | ⟨rfl, rfl⟩ | ⟨rfl, rfl⟩ | ⟨rfl, rfl⟩ | ⟨rfl, rfl⟩ <;> decide), rfl⟩)))) w h hb).mono fun e w' ⟨h1, hb⟩ => by
    rcases h1 with ⟨h0, _⟩ | ⟨_, A, C, he, hl, _, _⟩
    · exact absurd rfl h0
    · have e1 : prt pl0 [9, 2, 5, 7] = pr0 := by decide
      rw [e1] at he hl
      exact ⟨A, C, he, hl, hb⟩
end
theorem y_8 (w : World) : Calls Try.prog 18 #[.agg #[.int .i64 7, .int .i64 0, .int .i64 3, .int .i64 0, .int .i64 0, .int .i64 10, .int .i64 1], .int .i64 3] w fun e_ w' => ∃ g, e_ = .returned (.tuple #[.agg #[.slice (some ⟨g, 0, none⟩) 4 4, .int .i64 8, .int .i64 13], .int .i64 0]) ∧ SlS w' (some ⟨g, 0, none⟩) hp0 ∧ Below w.heap.size w w' :=
  (thd_is ⟨7, 0, 3, 0, 0, 10, 1⟩ 3 0 (.inr (.inr ⟨⟨by decide, by decide, by decide⟩, bok_hp0, rfl⟩)) w).mono fun e w' ⟨h1, hb⟩ => by
    rcases h1 with ⟨h0, _⟩ | ⟨_, g, _, he, hs⟩
    · exact absurd rfl h0
    · exact ⟨g, he, hs, hb⟩
theorem y_9 (w : World) : Calls Try.prog 18 #[.agg #[.int .i64 0, .int .i64 0, .int .i64 0, .int .i64 2000, .int .i64 0, .int .i64 0, .int .i64 0], .int .i64 3] w fun e_ w' => e_ = .returned (.tuple #[.agg #[.slice none 0 0, .int .i64 0, .int .i64 0], .int .i64 3]) ∧ Below w.heap.size w w' :=
  (thd_is ⟨0, 0, 0, 2000, 0, 0, 0⟩ 3 3 (.inr (.inl ⟨⟨by decide, by decide, by decide⟩, (fun b => by have := b.rx 1 (by decide); revert this; unfold co; decide), rfl⟩)) w).mono fun e w' ⟨h1, hb⟩ => by
    rcases h1 with ⟨_, he⟩ | ⟨h0, _⟩
    · exact ⟨he, hb⟩
    · exact absurd h0 (by decide)
theorem y_10 (A : Option Addr) (C g : Nat) (w : World) (h1 : LLS w A pr0) (h2 : LLS w (some ⟨g, 0, none⟩) pr0) : Calls Try.prog 17 #[.slice A 3 C, .slice (some ⟨g, 0, none⟩) 3 3] w fun e_ w' => e_ = .returned (.bool true) ∧ Below w.heap.size w w' :=
  qsp_is A (some ⟨g, 0, none⟩) C 3 pr0 pr0 (by decide) (by decide) (fun i hi => by have : i = 0 ∨ i = 1 ∨ i = 2 := (by have h : pr0.length = 3 := rfl; omega); rcases this with rfl | rfl | rfl <;> decide) (fun i hi => by have : i = 0 ∨ i = 1 ∨ i = 2 := (by have h : pr0.length = 3 := rfl; omega); rcases this with rfl | rfl | rfl <;> decide) true (by simp) w h1 h2
theorem y_11 (a b g g2 : Nat) (w : World) (h1 : BdS w (some ⟨a, 0, none⟩) [⟨some ⟨g, 0, none⟩, 4, hp0, 8, 13⟩]) (h2 : BdS w (some ⟨b, 0, none⟩) [⟨some ⟨g2, 0, none⟩, 4, hp0, 8, 13⟩]) : Calls Try.prog 22 #[.slice (some ⟨a, 0, none⟩) 1 1, .slice (some ⟨b, 0, none⟩) 1 1] w fun e_ w' => e_ = .returned (.bool true) ∧ Below w.heap.size w w' :=
  qsb_is (some ⟨a, 0, none⟩) (some ⟨b, 0, none⟩) 1 1 [⟨some ⟨g, 0, none⟩, 4, hp0, 8, 13⟩] [⟨some ⟨g2, 0, none⟩, 4, hp0, 8, 13⟩] (by simp) (by simp) (fun i hi => by have e0 : i = 0 := (by simp at hi; omega); subst e0; exact (by decide : (4 : Nat) ≤ 9223372036854775807)) (fun i hi => by have e0 : i = 0 := (by simp at hi; omega); subst e0; exact (by decide : (4 : Nat) ≤ 9223372036854775807)) true (iff_of_true rfl ⟨rfl, fun k hk => by have e0 : k = 0 := (by simp at hk; omega); subst e0; exact ⟨rfl, rfl, rfl⟩⟩) w h1 h2
theorem y_12 (b : Nat) (w : World) (h : PlS w (some ⟨b, 0, none⟩) [⟨5, 0, 4, 5, 0, 10, 1⟩, ⟨7, 0, 3, 0, 0, 10, 1⟩]) : Calls Try.prog 23 #[.slice (some ⟨b, 0, none⟩) 2 2] w fun e_ w' => e_ = .returned (.bool false) ∧ Below w.heap.size w w' :=
  pval12_is (some ⟨b, 0, none⟩) 2 [⟨5, 0, 4, 5, 0, 10, 1⟩, ⟨7, 0, 3, 0, 0, 10, 1⟩] false (iff_of_false (by decide) pl1_no) w h
theorem use_tail3 {G : Prop} {F T : World → Nat → Nat → Nat → Prop} (main : (∀ W a b c, F W a b c → T W a b c) → G) (tail : ∀ W a b c, F W a b c → T W a b c) : G := main tail
theorem use_tail2 {G : Prop} {F T : World → Nat → Nat → Prop} (main : (∀ W a b, F W a b → T W a b) → G) (tail : ∀ W a b, F W a b → T W a b) : G := main tail
theorem lst_conv {P : Program} {md : Region.Mode} {ops : Array Oper} {Q : Exit → Act → World → Prop} {S : World → Prop} {fuel : Nat} {l l2 : Array Bool} {a : Act} {w : World} (e : l = l2) (h : wpAnyH P md ops Q S fuel l2 a w) : wpAnyH P md ops Q S fuel l a w := e ▸ h
theorem boxes3 (W : World) (o0 o1 o2 : Obj) {V : World} (hV : (((W.alloc o0).alloc o1).alloc o2) = V) : Below W.heap.size W V ∧ V.heap[W.heap.size]? = some o0 ∧ V.heap[W.heap.size + 1]? = some o1 ∧ V.heap[W.heap.size + 1 + 1]? = some o2 := by
  subst hV
  have nb : ∀ (U : World) (k : Nat) (o : Obj), U.heap.size = k → (U.alloc o).heap[k]? = some o := fun U k o h => by subst h; exact World.alloc_heap_new U o
  refine ⟨((((Below.refl _ W).alloc (Nat.le_refl _) _).alloc (by simp) _).alloc (by simp <;> omega) _), ?_, ?_, ?_⟩
  · refine blk_new ?_ _; refine blk_new ?_ _; exact nb _ _ _ (by simp)
  · refine blk_new ?_ _; exact nb _ _ _ (by simp)
  · exact nb _ _ _ (by simp)
set_option maxRecDepth 100000 in
set_option maxHeartbeats 8000000 in
theorem head12_any (w : World) :
    Calls Try.prog 9 #[] w fun e_ w' => e_ = .returned (.bool true) ∧ Below w.heap.size w w' := by
  go_enter Try.func9, Try.ntmps9
  go_wp2_with fail
  with_reducible refine (plan_any _).mono ?_
  rintro e_ w1 ⟨rfl, hw1⟩
  have hb : Below w.heap.size w w1 := by rw [hw1]; exact below_new _ _
  have kp : w1.heap[w.heap.size]? = some (.cells #[.int .i64 7, .int .i64 0, .int .i64 3, .int .i64 0, .int .i64 0, .int .i64 10, .int .i64 1, .int .i64 5, .int .i64 0, .int .i64 4, .int .i64 5, .int .i64 0, .int .i64 10, .int .i64 1, .int .i64 9, .int .i64 0, .int .i64 6, .int .i64 15, .int .i64 0, .int .i64 10, .int .i64 2, .int .i64 2, .int .i64 1, .int .i64 4, .int .i64 5, .int .i64 9, .int .i64 14, .int .i64 1] 28 (0, 0)) := by rw [hw1]; exact World.alloc_heap_new _ _
  have HB := Lib.hid hb
  have HP := Lib.hid (pls_four kp)
  clear hw1 hb
  have c0 : w1.cell? ⟨w.heap.size, 0, none⟩ = some (.int .i64 7) := by unfold World.cell?; simp only [kp]; rfl
  have c1 : w1.cell? ⟨w.heap.size, 1, none⟩ = some (.int .i64 0) := by unfold World.cell?; simp only [kp]; rfl
  have c2 : w1.cell? ⟨w.heap.size, 2, none⟩ = some (.int .i64 3) := by unfold World.cell?; simp only [kp]; rfl
  have c3 : w1.cell? ⟨w.heap.size, 3, none⟩ = some (.int .i64 0) := by unfold World.cell?; simp only [kp]; rfl
  have c4 : w1.cell? ⟨w.heap.size, 4, none⟩ = some (.int .i64 0) := by unfold World.cell?; simp only [kp]; rfl
  have c5 : w1.cell? ⟨w.heap.size, 5, none⟩ = some (.int .i64 10) := by unfold World.cell?; simp only [kp]; rfl
  have c6 : w1.cell? ⟨w.heap.size, 6, none⟩ = some (.int .i64 1) := by unfold World.cell?; simp only [kp]; rfl
  have d0 : w1.cell? ⟨w.heap.size, 7, none⟩ = some (.int .i64 5) := by unfold World.cell?; simp only [kp]; rfl
  have d1 : w1.cell? ⟨w.heap.size, 8, none⟩ = some (.int .i64 0) := by unfold World.cell?; simp only [kp]; rfl
  have d2 : w1.cell? ⟨w.heap.size, 9, none⟩ = some (.int .i64 4) := by unfold World.cell?; simp only [kp]; rfl
  have d3 : w1.cell? ⟨w.heap.size, 10, none⟩ = some (.int .i64 5) := by unfold World.cell?; simp only [kp]; rfl
  have d4 : w1.cell? ⟨w.heap.size, 11, none⟩ = some (.int .i64 0) := by unfold World.cell?; simp only [kp]; rfl
  have d5 : w1.cell? ⟨w.heap.size, 12, none⟩ = some (.int .i64 10) := by unfold World.cell?; simp only [kp]; rfl
  have d6 : w1.cell? ⟨w.heap.size, 13, none⟩ = some (.int .i64 1) := by unfold World.cell?; simp only [kp]; rfl
  clear kp
  have lp := block_lt c0
  go_wp2_with fail
  with_reducible refine (y_1 _ _ HP.out).mono ?_
  rintro e_ w2 ⟨rfl, hb⟩
  replace HB := Lib.hid (on_below HB.out hb)
  replace HP := Lib.hid (HP.out.below hb)
  replace c0 := keepc hb c0
  replace c1 := keepc hb c1
  replace c2 := keepc hb c2
  replace c3 := keepc hb c3
  replace c4 := keepc hb c4
  replace c5 := keepc hb c5
  replace c6 := keepc hb c6
  replace d0 := keepc hb d0
  replace d1 := keepc hb d1
  replace d2 := keepc hb d2
  replace d3 := keepc hb d3
  replace d4 := keepc hb d4
  replace d5 := keepc hb d5
  replace d6 := keepc hb d6
  replace lp := Nat.lt_of_lt_of_le lp hb.size
  clear hb
  go_wp2_with fail
  with_reducible refine (y_2 _ _ HP.out).mono ?_
  rintro e_ w3 ⟨rfl, hb⟩
  replace HB := Lib.hid (on_below HB.out hb)
  replace HP := Lib.hid (HP.out.below hb)
  replace c0 := keepc hb c0
  replace c1 := keepc hb c1
  replace c2 := keepc hb c2
  replace c3 := keepc hb c3
  replace c4 := keepc hb c4
  replace c5 := keepc hb c5
  replace c6 := keepc hb c6
  replace d0 := keepc hb d0
  replace d1 := keepc hb d1
  replace d2 := keepc hb d2
  replace d3 := keepc hb d3
  replace d4 := keepc hb d4
  replace d5 := keepc hb d5
  replace d6 := keepc hb d6
  replace lp := Nat.lt_of_lt_of_le lp hb.size
  clear hb
  go_wp2_with fail
  with_reducible refine (y_3 _ _ HP.out).mono ?_
  rintro e_ w4 ⟨rfl, hb⟩
  replace HB := Lib.hid (on_below HB.out hb)
  replace HP := Lib.hid (HP.out.below hb)
  replace c0 := keepc hb c0
  replace c1 := keepc hb c1
  replace c2 := keepc hb c2
  replace c3 := keepc hb c3
  replace c4 := keepc hb c4
  replace c5 := keepc hb c5
  replace c6 := keepc hb c6
  replace d0 := keepc hb d0
  replace d1 := keepc hb d1
  replace d2 := keepc hb d2
  replace d3 := keepc hb d3
  replace d4 := keepc hb d4
  replace d5 := keepc hb d5
  replace d6 := keepc hb d6
  replace lp := Nat.lt_of_lt_of_le lp hb.size
  clear hb
  go_wp2_with fail
  with_reducible refine (y_4 _ _ HP.out).mono ?_
  rintro e_ w5 ⟨rfl, hb⟩
  replace HB := Lib.hid (on_below HB.out hb)
  replace HP := Lib.hid (HP.out.below hb)
  replace c0 := keepc hb c0
  replace c1 := keepc hb c1
  replace c2 := keepc hb c2
  replace c3 := keepc hb c3
  replace c4 := keepc hb c4
  replace c5 := keepc hb c5
  replace c6 := keepc hb c6
  replace d0 := keepc hb d0
  replace d1 := keepc hb d1
  replace d2 := keepc hb d2
  replace d3 := keepc hb d3
  replace d4 := keepc hb d4
  replace d5 := keepc hb d5
  replace d6 := keepc hb d6
  replace lp := Nat.lt_of_lt_of_le lp hb.size
  clear hb
  go_wp2_with fail
  have hb := below_new w5 (.cells #[.int .i64 9, .int .i64 2, .int .i64 5, .int .i64 7] 3)
  have kx : (w5.alloc (.cells #[.int .i64 9, .int .i64 2, .int .i64 5, .int .i64 7] 3)).heap[w5.heap.size]? = some (.cells #[.int .i64 9, .int .i64 2, .int .i64 5, .int .i64 7] 3 (0, 0)) := World.alloc_heap_new _ _
  generalize w5.alloc (.cells #[.int .i64 9, .int .i64 2, .int .i64 5, .int .i64 7] 3) = w6 at *
  replace HB := Lib.hid (on_below HB.out hb)
  replace HP := Lib.hid (HP.out.below hb)
  replace c0 := keepc hb c0
  replace c1 := keepc hb c1
  replace c2 := keepc hb c2
  replace c3 := keepc hb c3
  replace c4 := keepc hb c4
  replace c5 := keepc hb c5
  replace c6 := keepc hb c6
  replace d0 := keepc hb d0
  replace d1 := keepc hb d1
  replace d2 := keepc hb d2
  replace d3 := keepc hb d3
  replace d4 := keepc hb d4
  replace d5 := keepc hb d5
  replace d6 := keepc hb d6
  replace lp := Nat.lt_of_lt_of_le lp hb.size
  clear hb
  have hx := ins_four kx
  clear kx
  with_reducible refine (y_7 _ _ HP.out _ hx).mono ?_
  rintro e_ w7 ⟨A, C, rfl, hll, hb⟩
  replace HB := Lib.hid (on_below HB.out hb)
  replace HP := Lib.hid (HP.out.below hb)
  replace c0 := keepc hb c0
  replace c1 := keepc hb c1
  replace c2 := keepc hb c2
  replace c3 := keepc hb c3
  replace c4 := keepc hb c4
  replace c5 := keepc hb c5
  replace c6 := keepc hb c6
  replace d0 := keepc hb d0
  replace d1 := keepc hb d1
  replace d2 := keepc hb d2
  replace d3 := keepc hb d3
  replace d4 := keepc hb d4
  replace d5 := keepc hb d5
  replace d6 := keepc hb d6
  replace lp := Nat.lt_of_lt_of_le lp hb.size
  clear hb
  clear hx
  have HLL := Lib.hid hll
  clear hll
  go_wp2_with fail
  with_reducible refine (y_8 _).mono ?_
  rintro e_ w8 ⟨g, rfl, hs, hb⟩
  replace HB := Lib.hid (on_below HB.out hb)
  replace HP := Lib.hid (HP.out.below hb)
  replace HLL := Lib.hid (HLL.out.below hb)
  replace c0 := keepc hb c0
  replace c1 := keepc hb c1
  replace c2 := keepc hb c2
  replace c3 := keepc hb c3
  replace c4 := keepc hb c4
  replace c5 := keepc hb c5
  replace c6 := keepc hb c6
  replace d0 := keepc hb d0
  replace d1 := keepc hb d1
  replace d2 := keepc hb d2
  replace d3 := keepc hb d3
  replace d4 := keepc hb d4
  replace d5 := keepc hb d5
  replace d6 := keepc hb d6
  replace lp := Nat.lt_of_lt_of_le lp hb.size
  clear hb
  have HS := Lib.hid hs
  clear hs
  go_wp2_with fail
  have hb := below_new w8 (.cells #[.slice (some ⟨g, 0, none⟩) 4 4, .int .i64 8, .int .i64 13] 47)
  have kq : (w8.alloc (.cells #[.slice (some ⟨g, 0, none⟩) 4 4, .int .i64 8, .int .i64 13] 47)).heap[w8.heap.size]? = some (.cells #[.slice (some ⟨g, 0, none⟩) 4 4, .int .i64 8, .int .i64 13] 47 (0, 0)) := World.alloc_heap_new _ _
  obtain ⟨q0, q1, q2⟩ := cells3 kq
  have lq := block_lt q0
  generalize w8.alloc (.cells #[.slice (some ⟨g, 0, none⟩) 4 4, .int .i64 8, .int .i64 13] 47) = w9 at *
  replace HB := Lib.hid (on_below HB.out hb)
  replace HP := Lib.hid (HP.out.below hb)
  replace HLL := Lib.hid (HLL.out.below hb)
  replace HS := Lib.hid (HS.out.below hb)
  replace c0 := keepc hb c0
  replace c1 := keepc hb c1
  replace c2 := keepc hb c2
  replace c3 := keepc hb c3
  replace c4 := keepc hb c4
  replace c5 := keepc hb c5
  replace c6 := keepc hb c6
  replace d0 := keepc hb d0
  replace d1 := keepc hb d1
  replace d2 := keepc hb d2
  replace d3 := keepc hb d3
  replace d4 := keepc hb d4
  replace d5 := keepc hb d5
  replace d6 := keepc hb d6
  replace lp := Nat.lt_of_lt_of_le lp hb.size
  clear hb
  generalize w8.heap.size = gq at *
  go_wp2_with fail
  with_reducible refine (y_5 _ _ HP.out).mono ?_
  rintro e_ w10 ⟨rfl, hb⟩
  replace HB := Lib.hid (on_below HB.out hb)
  replace HP := Lib.hid (HP.out.below hb)
  replace HLL := Lib.hid (HLL.out.below hb)
  replace HS := Lib.hid (HS.out.below hb)
  replace c0 := keepc hb c0
  replace c1 := keepc hb c1
  replace c2 := keepc hb c2
  replace c3 := keepc hb c3
  replace c4 := keepc hb c4
  replace c5 := keepc hb c5
  replace c6 := keepc hb c6
  replace d0 := keepc hb d0
  replace d1 := keepc hb d1
  replace d2 := keepc hb d2
  replace d3 := keepc hb d3
  replace d4 := keepc hb d4
  replace d5 := keepc hb d5
  replace d6 := keepc hb d6
  replace q0 := keepc hb q0
  replace q1 := keepc hb q1
  replace q2 := keepc hb q2
  replace kq := blk_on kq hb
  replace lp := Nat.lt_of_lt_of_le lp hb.size
  replace lq := Nat.lt_of_lt_of_le lq hb.size
  clear hb
  go_wp2_with fail
  with_reducible refine (y_9 _).mono ?_
  rintro e_ w11 ⟨rfl, hb⟩
  replace HB := Lib.hid (on_below HB.out hb)
  replace HP := Lib.hid (HP.out.below hb)
  replace HLL := Lib.hid (HLL.out.below hb)
  replace HS := Lib.hid (HS.out.below hb)
  replace c0 := keepc hb c0
  replace c1 := keepc hb c1
  replace c2 := keepc hb c2
  replace c3 := keepc hb c3
  replace c4 := keepc hb c4
  replace c5 := keepc hb c5
  replace c6 := keepc hb c6
  replace d0 := keepc hb d0
  replace d1 := keepc hb d1
  replace d2 := keepc hb d2
  replace d3 := keepc hb d3
  replace d4 := keepc hb d4
  replace d5 := keepc hb d5
  replace d6 := keepc hb d6
  replace q0 := keepc hb q0
  replace q1 := keepc hb q1
  replace q2 := keepc hb q2
  replace kq := blk_on kq hb
  replace lp := Nat.lt_of_lt_of_le lp hb.size
  replace lq := Nat.lt_of_lt_of_le lq hb.size
  clear hb
  go_wp2_with fail
  obtain ⟨w12, hw12⟩ : ∃ V, (((w11.alloc (.cells #[.slice none 0 0, .int .i64 0, .int .i64 0] 47)).alloc (.cells #[.int .i64 (-2), .int .i64 (-2), .int .i64 2, .int .i64 (-2), .int .i64 2, .int .i64 2, .int .i64 (-2), .int .i64 2] 55)).alloc (.cells #[.slice (some ⟨w11.heap.size + 1, 0, none⟩) 4 4, .int .i64 8, .int .i64 13] 47)) = V := ⟨_, rfl⟩
  obtain ⟨hb, _, kpt, kbd⟩ := boxes3 _ _ _ _ hw12
  rw [hw12]
  clear hw12
  replace HB := Lib.hid (on_below HB.out hb)
  replace HP := Lib.hid (HP.out.below hb)
  replace HLL := Lib.hid (HLL.out.below hb)
  replace HS := Lib.hid (HS.out.below hb)
  replace c0 := keepc hb c0
  replace c1 := keepc hb c1
  replace c2 := keepc hb c2
  replace c3 := keepc hb c3
  replace c4 := keepc hb c4
  replace c5 := keepc hb c5
  replace c6 := keepc hb c6
  replace d0 := keepc hb d0
  replace d1 := keepc hb d1
  replace d2 := keepc hb d2
  replace d3 := keepc hb d3
  replace d4 := keepc hb d4
  replace d5 := keepc hb d5
  replace d6 := keepc hb d6
  replace q0 := keepc hb q0
  replace q1 := keepc hb q1
  replace q2 := keepc hb q2
  replace kq := blk_on kq hb
  replace lp := Nat.lt_of_lt_of_le lp hb.size
  replace lq := Nat.lt_of_lt_of_le lq hb.size
  clear hb
  generalize w11.heap.size + 1 = g2 at kpt kbd ⊢
  have hne_ : g2 = g2 := rfl
  have hs2 : SlS w12 (some ⟨g2, 0, none⟩) hp0 := sls_four kpt
  clear kpt hne_
  have HS2 := Lib.hid hs2
  clear hs2
  obtain ⟨y0, y1, y2⟩ := cells3 kbd
  have ly := block_lt y0
  skip
  have kp : ∀ {Wq_ : World}, Below w12.heap.size w12 Wq_ → Wq_.cell? ⟨gq, 0, none⟩ = some (.slice (some ⟨g, 0, none⟩) 4 4) ∧ Wq_.cell? ⟨gq, 1, none⟩ = some (.int .i64 8) ∧ Wq_.cell? ⟨gq, 2, none⟩ = some (.int .i64 13) ∧ Wq_.cell? ⟨g2 + 1, 0, none⟩ = some (.slice (some ⟨g2, 0, none⟩) 4 4) ∧ Wq_.cell? ⟨g2 + 1, 1, none⟩ = some (.int .i64 8) ∧ Wq_.cell? ⟨g2 + 1, 2, none⟩ = some (.int .i64 13) ∧ Wq_.cell? ⟨w.heap.size, 0, none⟩ = some (.int .i64 7) ∧ Wq_.cell? ⟨w.heap.size, 1, none⟩ = some (.int .i64 0) ∧ Wq_.cell? ⟨w.heap.size, 2, none⟩ = some (.int .i64 3) ∧ Wq_.cell? ⟨w.heap.size, 3, none⟩ = some (.int .i64 0) ∧ Wq_.cell? ⟨w.heap.size, 4, none⟩ = some (.int .i64 0) ∧ Wq_.cell? ⟨w.heap.size, 5, none⟩ = some (.int .i64 10) ∧ Wq_.cell? ⟨w.heap.size, 6, none⟩ = some (.int .i64 1) ∧ Wq_.cell? ⟨w.heap.size, 7, none⟩ = some (.int .i64 5) ∧ Wq_.cell? ⟨w.heap.size, 8, none⟩ = some (.int .i64 0) ∧ Wq_.cell? ⟨w.heap.size, 9, none⟩ = some (.int .i64 4) ∧ Wq_.cell? ⟨w.heap.size, 10, none⟩ = some (.int .i64 5) ∧ Wq_.cell? ⟨w.heap.size, 11, none⟩ = some (.int .i64 0) ∧ Wq_.cell? ⟨w.heap.size, 12, none⟩ = some (.int .i64 10) ∧ Wq_.cell? ⟨w.heap.size, 13, none⟩ = some (.int .i64 1) := fun h => ⟨keepc h q0, keepc h q1, keepc h q2, keepc h y0, keepc h y1, keepc h y2, keepc h c0, keepc h c1, keepc h c2, keepc h c3, keepc h c4, keepc h c5, keepc h c6, keepc h d0, keepc h d1, keepc h d2, keepc h d3, keepc h d4, keepc h d5, keepc h d6⟩
  refine wp_region_held_drew (S := fun Wq_ => Wq_.cell? ⟨gq, 0, none⟩ = some (.slice (some ⟨g, 0, none⟩) 4 4) ∧ Wq_.cell? ⟨gq, 1, none⟩ = some (.int .i64 8) ∧ Wq_.cell? ⟨gq, 2, none⟩ = some (.int .i64 13) ∧ Wq_.cell? ⟨g2 + 1, 0, none⟩ = some (.slice (some ⟨g2, 0, none⟩) 4 4) ∧ Wq_.cell? ⟨g2 + 1, 1, none⟩ = some (.int .i64 8) ∧ Wq_.cell? ⟨g2 + 1, 2, none⟩ = some (.int .i64 13) ∧ Wq_.cell? ⟨w.heap.size, 0, none⟩ = some (.int .i64 7) ∧ Wq_.cell? ⟨w.heap.size, 1, none⟩ = some (.int .i64 0) ∧ Wq_.cell? ⟨w.heap.size, 2, none⟩ = some (.int .i64 3) ∧ Wq_.cell? ⟨w.heap.size, 3, none⟩ = some (.int .i64 0) ∧ Wq_.cell? ⟨w.heap.size, 4, none⟩ = some (.int .i64 0) ∧ Wq_.cell? ⟨w.heap.size, 5, none⟩ = some (.int .i64 10) ∧ Wq_.cell? ⟨w.heap.size, 6, none⟩ = some (.int .i64 1) ∧ Wq_.cell? ⟨w.heap.size, 7, none⟩ = some (.int .i64 5) ∧ Wq_.cell? ⟨w.heap.size, 8, none⟩ = some (.int .i64 0) ∧ Wq_.cell? ⟨w.heap.size, 9, none⟩ = some (.int .i64 4) ∧ Wq_.cell? ⟨w.heap.size, 10, none⟩ = some (.int .i64 5) ∧ Wq_.cell? ⟨w.heap.size, 11, none⟩ = some (.int .i64 0) ∧ Wq_.cell? ⟨w.heap.size, 12, none⟩ = some (.int .i64 10) ∧ Wq_.cell? ⟨w.heap.size, 13, none⟩ = some (.int .i64 1)) (by kernel_rfl) (kp (Below.refl _ _).drew) fun HL_ => ?_
  refine wpAnyH_take (i := 0) (v := .bool true) rfl (by kernel_rfl) (by kernel_rfl) (by kernel_rfl) (fun _ _ _ h => h) (Or.inl ⟨by kernel_rfl, ?_⟩) HL_ ?_
  · rintro Wl ⟨s0, s1, s2, s3, s4, s5, s6, s7, s8, s9, s10, s11, s12, s13, s14, s15, s16, s17, s18, s19⟩
    go_simp
  simp only [Act.put, List.getElem_toArray, List.getElem_cons_succ, List.getElem_cons_zero, List.setIfInBounds_toArray, List.set_cons_zero, List.set_cons_succ]
  refine wpAnyH_take (i := 1) (v := .bool true) rfl (by kernel_rfl) (by kernel_rfl) (by kernel_rfl) (fun _ _ _ h => h) (Or.inl ⟨by kernel_rfl, ?_⟩) HL_ ?_
  · rintro Wl ⟨s0, s1, s2, s3, s4, s5, s6, s7, s8, s9, s10, s11, s12, s13, s14, s15, s16, s17, s18, s19⟩
    go_simp
  simp only [Act.put, List.getElem_toArray, List.getElem_cons_succ, List.getElem_cons_zero, List.setIfInBounds_toArray, List.set_cons_zero, List.set_cons_succ]
  refine wpAnyH_take (i := 2) (v := .int .i64 2) rfl (by kernel_rfl) (by kernel_rfl) (by kernel_rfl) (fun _ _ _ h => h) (Or.inl ⟨by kernel_rfl, ?_⟩) HL_ ?_
  · rintro Wl ⟨s0, s1, s2, s3, s4, s5, s6, s7, s8, s9, s10, s11, s12, s13, s14, s15, s16, s17, s18, s19⟩
    go_simp
  simp only [Act.put, List.getElem_toArray, List.getElem_cons_succ, List.getElem_cons_zero, List.setIfInBounds_toArray, List.set_cons_zero, List.set_cons_succ]
  refine wpAnyH_take (i := 3) (v := .bool true) rfl (by kernel_rfl) (by kernel_rfl) (by kernel_rfl) (fun _ _ _ h => h) (Or.inl ⟨by kernel_rfl, ?_⟩) HL_ ?_
  · rintro Wl ⟨s0, s1, s2, s3, s4, s5, s6, s7, s8, s9, s10, s11, s12, s13, s14, s15, s16, s17, s18, s19⟩
    go_simp
  simp only [Act.put, List.getElem_toArray, List.getElem_cons_succ, List.getElem_cons_zero, List.setIfInBounds_toArray, List.set_cons_zero, List.set_cons_succ]
  refine wpAnyH_take (i := 4) (v := .bool true) rfl (by kernel_rfl) (by kernel_rfl) (by kernel_rfl) (fun _ _ _ h => h) (Or.inl ⟨by kernel_rfl, ?_⟩) HL_ ?_
  · rintro Wl ⟨s0, s1, s2, s3, s4, s5, s6, s7, s8, s9, s10, s11, s12, s13, s14, s15, s16, s17, s18, s19⟩
    go_simp
  simp only [Act.put, List.getElem_toArray, List.getElem_cons_succ, List.getElem_cons_zero, List.setIfInBounds_toArray, List.set_cons_zero, List.set_cons_succ]
  refine wpAnyH_take (i := 5) (v := .bool true) rfl (by kernel_rfl) (by kernel_rfl) (by kernel_rfl) (fun _ _ _ h => h) (Or.inl ⟨by kernel_rfl, ?_⟩) HL_ ?_
  · rintro Wl ⟨s0, s1, s2, s3, s4, s5, s6, s7, s8, s9, s10, s11, s12, s13, s14, s15, s16, s17, s18, s19⟩
    go_simp
  simp only [Act.put, List.getElem_toArray, List.getElem_cons_succ, List.getElem_cons_zero, List.setIfInBounds_toArray, List.set_cons_zero, List.set_cons_succ]
  refine wpAnyH_take (i := 6) (v := .bool true) rfl (by kernel_rfl) (by kernel_rfl) (by kernel_rfl) (fun _ _ _ h => h) (Or.inl ⟨by kernel_rfl, ?_⟩) HL_ ?_
  · rintro Wl ⟨s0, s1, s2, s3, s4, s5, s6, s7, s8, s9, s10, s11, s12, s13, s14, s15, s16, s17, s18, s19⟩
    go_simp
  simp only [Act.put, List.getElem_toArray, List.getElem_cons_succ, List.getElem_cons_zero, List.setIfInBounds_toArray, List.set_cons_zero, List.set_cons_succ]
  refine wpAnyH_take (i := 7) (v := .bool true) rfl (by kernel_rfl) (by kernel_rfl) (by kernel_rfl) (fun _ _ _ h => h) (Or.inl ⟨by kernel_rfl, ?_⟩) HL_ ?_
  · rintro Wl ⟨s0, s1, s2, s3, s4, s5, s6, s7, s8, s9, s10, s11, s12, s13, s14, s15, s16, s17, s18, s19⟩
    go_simp
  simp only [Act.put, List.getElem_toArray, List.getElem_cons_succ, List.getElem_cons_zero, List.setIfInBounds_toArray, List.set_cons_zero, List.set_cons_succ]
  refine wpAnyH_take (i := 8) (v := .bool true) rfl (by kernel_rfl) (by kernel_rfl) (by kernel_rfl) (fun _ _ _ h => h) (Or.inl ⟨by kernel_rfl, ?_⟩) HL_ ?_
  · rintro Wl ⟨s0, s1, s2, s3, s4, s5, s6, s7, s8, s9, s10, s11, s12, s13, s14, s15, s16, s17, s18, s19⟩
    go_simp
  simp only [Act.put, List.getElem_toArray, List.getElem_cons_succ, List.getElem_cons_zero, List.setIfInBounds_toArray, List.set_cons_zero, List.set_cons_succ]
  refine wpAnyH_take (i := 9) (v := .bool false) rfl (by kernel_rfl) (by kernel_rfl) (by kernel_rfl) (fun _ _ _ h => h) (Or.inl ⟨by kernel_rfl, ?_⟩) HL_ ?_
  · rintro Wl ⟨s0, s1, s2, s3, s4, s5, s6, s7, s8, s9, s10, s11, s12, s13, s14, s15, s16, s17, s18, s19⟩
    go_simp
  simp only [Act.put, List.getElem_toArray, List.getElem_cons_succ, List.getElem_cons_zero, List.setIfInBounds_toArray, List.set_cons_zero, List.set_cons_succ]
  refine wpAnyH_take (i := 10) (v := .bool true) rfl (by kernel_rfl) (by kernel_rfl) (by kernel_rfl) (fun _ _ _ h => h) (Or.inl ⟨by kernel_rfl, ?_⟩) HL_ ?_
  · rintro Wl ⟨s0, s1, s2, s3, s4, s5, s6, s7, s8, s9, s10, s11, s12, s13, s14, s15, s16, s17, s18, s19⟩
    go_simp
  simp only [Act.put, List.getElem_toArray, List.getElem_cons_succ, List.getElem_cons_zero, List.setIfInBounds_toArray, List.set_cons_zero, List.set_cons_succ]
  refine wpAnyH_take (i := 11) (v := .bool true) rfl (by kernel_rfl) (by kernel_rfl) (by kernel_rfl) (fun _ _ _ h => h) (Or.inl ⟨by kernel_rfl, ?_⟩) HL_ ?_
  · rintro Wl ⟨s0, s1, s2, s3, s4, s5, s6, s7, s8, s9, s10, s11, s12, s13, s14, s15, s16, s17, s18, s19⟩
    go_simp
  simp only [Act.put, List.getElem_toArray, List.getElem_cons_succ, List.getElem_cons_zero, List.setIfInBounds_toArray, List.set_cons_zero, List.set_cons_succ]
  refine wpAnyH_take (i := 12) (v := .bool true) rfl (by kernel_rfl) (by kernel_rfl) (by kernel_rfl) (fun _ _ _ h => h) (Or.inl ⟨by kernel_rfl, ?_⟩) HL_ ?_
  · rintro Wl ⟨s0, s1, s2, s3, s4, s5, s6, s7, s8, s9, s10, s11, s12, s13, s14, s15, s16, s17, s18, s19⟩
    go_simp
  simp only [Act.put, List.getElem_toArray, List.getElem_cons_succ, List.getElem_cons_zero, List.setIfInBounds_toArray, List.set_cons_zero, List.set_cons_succ]
  refine wpAnyH_take (i := 13) (v := .bool false) rfl (by kernel_rfl) (by kernel_rfl) (by kernel_rfl) (fun _ _ _ h => h) (Or.inl ⟨by kernel_rfl, ?_⟩) HL_ ?_
  · rintro Wl ⟨s0, s1, s2, s3, s4, s5, s6, s7, s8, s9, s10, s11, s12, s13, s14, s15, s16, s17, s18, s19⟩
    go_simp
  simp only [Act.put, List.getElem_toArray, List.getElem_cons_succ, List.getElem_cons_zero, List.setIfInBounds_toArray, List.set_cons_zero, List.set_cons_succ]
  refine wpAnyH_take (i := 14) (v := .bool true) rfl (by kernel_rfl) (by kernel_rfl) (by kernel_rfl) (fun _ _ _ h => h) (Or.inl ⟨by kernel_rfl, ?_⟩) HL_ ?_
  · rintro Wl ⟨s0, s1, s2, s3, s4, s5, s6, s7, s8, s9, s10, s11, s12, s13, s14, s15, s16, s17, s18, s19⟩
    go_simp
  simp only [Act.put, List.getElem_toArray, List.getElem_cons_succ, List.getElem_cons_zero, List.setIfInBounds_toArray, List.set_cons_zero, List.set_cons_succ]
  refine wpAnyH_take (i := 15) (v := .bool true) rfl (by kernel_rfl) (by kernel_rfl) (by kernel_rfl) (fun _ _ _ h => h) (Or.inl ⟨by kernel_rfl, ?_⟩) HL_ ?_
  · rintro Wl ⟨s0, s1, s2, s3, s4, s5, s6, s7, s8, s9, s10, s11, s12, s13, s14, s15, s16, s17, s18, s19⟩
    go_simp
  simp only [Act.put, List.getElem_toArray, List.getElem_cons_succ, List.getElem_cons_zero, List.setIfInBounds_toArray, List.set_cons_zero, List.set_cons_succ]
  refine wpAnyH_take (i := 16) (v := .bool true) rfl (by kernel_rfl) (by kernel_rfl) (by kernel_rfl) (fun _ _ _ h => h) (Or.inl ⟨by kernel_rfl, ?_⟩) HL_ ?_
  · rintro Wl ⟨s0, s1, s2, s3, s4, s5, s6, s7, s8, s9, s10, s11, s12, s13, s14, s15, s16, s17, s18, s19⟩
    go_simp
  simp only [Act.put, List.getElem_toArray, List.getElem_cons_succ, List.getElem_cons_zero, List.setIfInBounds_toArray, List.set_cons_zero, List.set_cons_succ]
  refine wpAnyH_take (i := 17) (v := .slice A 3 C) rfl (by kernel_rfl) (by kernel_rfl) (by kernel_rfl) (fun _ _ _ h => h) (Or.inl ⟨by kernel_rfl, ?_⟩) HL_ ?_
  · rintro Wl ⟨s0, s1, s2, s3, s4, s5, s6, s7, s8, s9, s10, s11, s12, s13, s14, s15, s16, s17, s18, s19⟩
    go_simp
  simp only [Act.put, List.getElem_toArray, List.getElem_cons_succ, List.getElem_cons_zero, List.setIfInBounds_toArray, List.set_cons_zero, List.set_cons_succ]
  refine use_tail3 (F := fun W a b c => Below w12.heap.size w12 W ∧ W.heap[a]? = some (.cells #[.int .i64 7, .int .i64 5] 3 (0, 0)) ∧ W.heap[b]? = some (.cells #[.int .i64 9] 3 (0, 0)) ∧ W.heap[c]? = some (.cells #[.int .i64 2] 3 (0, 0))) (T := ?T1) ?main ?tail
  case main =>
    intro tail
    refine wpAnyH_ready (rs := [18, 19, 20]) (by kernel_rfl) (by simp) ?_
    refine AllReadyH.cons (o := _) rfl (fun K hK => ?_) (AllReadyH.cons (o := _) rfl (fun K hK => ?_) (AllReadyH.cons (o := _) rfl (fun K hK => ?_) AllReadyH.nil))
    · go_simp
      have kx1 : (w12.alloc (.cells #[.int .i64 7, .int .i64 5] 3)).drew.heap[w12.heap.size]? = some (.cells #[.int .i64 7, .int .i64 5] 3 (0, 0)) := World.alloc_heap_new _ _
      have hbX : Below w12.heap.size w12 (w12.alloc (.cells #[.int .i64 7, .int .i64 5] 3)).drew := (below_new w12 (.cells #[.int .i64 7, .int .i64 5] 3)).drew
      have hgex1 : w12.heap.size ≤ w12.heap.size := Nat.le_refl _
      refine hK.out _ _ (kp hbX) fun HL_ => ?_
      clear hK K
      generalize (w12.alloc (.cells #[.int .i64 7, .int .i64 5] 3)).drew = ud1 at *
      obtain ⟨gx1, hgg_, hge2_⟩ : ∃ g, w12.heap.size = g ∧ w12.heap.size ≤ g := ⟨_, rfl, Nat.le_refl _⟩
      rw [hgg_] at kx1 ⊢
      clear hgex1
      have hgex1 := hge2_
      clear hgg_ hge2_
      refine wpAnyH_ready (rs := [19, 20]) (by kernel_rfl) (by simp) ?_
      refine AllReadyH.cons (o := _) rfl (fun K hK => ?_) (AllReadyH.cons (o := _) rfl (fun K hK => ?_) AllReadyH.nil)
      · go_simp
        have kx2 : (ud1.alloc (.cells #[.int .i64 9] 3)).heap[ud1.heap.size]? = some (.cells #[.int .i64 9] 3 (0, 0)) := World.alloc_heap_new _ _
        have hb := below_new ud1 (.cells #[.int .i64 9] 3)
        replace kx1 := blk_on kx1 hb
        have hgb_ := hbX.size
        replace hbX := on_below hbX hb
        clear hb
        have hgex2 : w12.heap.size ≤ ud1.heap.size := hgb_
        clear hgb_
        refine hK.out _ _ (kp hbX) fun HL_ => ?_
        clear hK K
        generalize ud1.alloc (.cells #[.int .i64 9] 3) = ud2 at *
        generalize ud1.heap.size = gx2 at *
        refine wpAnyH_ready (rs := [20]) (by kernel_rfl) (by simp) ?_
        refine AllReadyH.cons (o := _) rfl (fun K hK => ?_) AllReadyH.nil
        go_simp
        have kx3 : (ud2.alloc (.cells #[.int .i64 2] 3)).heap[ud2.heap.size]? = some (.cells #[.int .i64 2] 3 (0, 0)) := World.alloc_heap_new _ _
        have hb := below_new ud2 (.cells #[.int .i64 2] 3)
        replace kx1 := blk_on kx1 hb
        replace kx2 := blk_on kx2 hb
        have hgb_ := hbX.size
        replace hbX := on_below hbX hb
        clear hb
        have hgex3 : w12.heap.size ≤ ud2.heap.size := hgb_
        clear hgb_
        refine hK.out _ _ (kp hbX) fun HL_ => ?_
        clear hK K
        generalize ud2.alloc (.cells #[.int .i64 2] 3) = ud3 at *
        generalize ud2.heap.size = gx3 at *
        refine lst_conv (l2 := #[true, true, true, true, true, true, true, true, true, true, true, true, true, true, true, true, true, true, true, true, true, false, false, false, false, false, false, false, false, false, false, false, false, false, false, false, false, false, false, false, false, false, false, false, false, false, false]) (by kernel_rfl) ?_
        exact tail ud3 gx1 gx2 gx3 ⟨hbX, kx1, kx2, kx3⟩
      · go_simp
        have kx3 : (ud1.alloc (.cells #[.int .i64 2] 3)).heap[ud1.heap.size]? = some (.cells #[.int .i64 2] 3 (0, 0)) := World.alloc_heap_new _ _
        have hb := below_new ud1 (.cells #[.int .i64 2] 3)
        replace kx1 := blk_on kx1 hb
        have hgb_ := hbX.size
        replace hbX := on_below hbX hb
        clear hb
        have hgex3 : w12.heap.size ≤ ud1.heap.size := hgb_
        clear hgb_
        refine hK.out _ _ (kp hbX) fun HL_ => ?_
        clear hK K
        generalize ud1.alloc (.cells #[.int .i64 2] 3) = ud4 at *
        generalize ud1.heap.size = gx3 at *
        refine wpAnyH_ready (rs := [19]) (by kernel_rfl) (by simp) ?_
        refine AllReadyH.cons (o := _) rfl (fun K hK => ?_) AllReadyH.nil
        go_simp
        have kx2 : (ud4.alloc (.cells #[.int .i64 9] 3)).heap[ud4.heap.size]? = some (.cells #[.int .i64 9] 3 (0, 0)) := World.alloc_heap_new _ _
        have hb := below_new ud4 (.cells #[.int .i64 9] 3)
        replace kx1 := blk_on kx1 hb
        replace kx3 := blk_on kx3 hb
        have hgb_ := hbX.size
        replace hbX := on_below hbX hb
        clear hb
        have hgex2 : w12.heap.size ≤ ud4.heap.size := hgb_
        clear hgb_
        refine hK.out _ _ (kp hbX) fun HL_ => ?_
        clear hK K
        generalize ud4.alloc (.cells #[.int .i64 9] 3) = ud5 at *
        generalize ud4.heap.size = gx2 at *
        refine lst_conv (l2 := #[true, true, true, true, true, true, true, true, true, true, true, true, true, true, true, true, true, true, true, true, true, false, false, false, false, false, false, false, false, false, false, false, false, false, false, false, false, false, false, false, false, false, false, false, false, false, false]) (by kernel_rfl) ?_
        exact tail ud5 gx1 gx2 gx3 ⟨hbX, kx1, kx2, kx3⟩
    · go_simp
      have kx2 : (w12.alloc (.cells #[.int .i64 9] 3)).drew.heap[w12.heap.size]? = some (.cells #[.int .i64 9] 3 (0, 0)) := World.alloc_heap_new _ _
      have hbX : Below w12.heap.size w12 (w12.alloc (.cells #[.int .i64 9] 3)).drew := (below_new w12 (.cells #[.int .i64 9] 3)).drew
      have hgex2 : w12.heap.size ≤ w12.heap.size := Nat.le_refl _
      refine hK.out _ _ (kp hbX) fun HL_ => ?_
      clear hK K
      generalize (w12.alloc (.cells #[.int .i64 9] 3)).drew = ud6 at *
      obtain ⟨gx2, hgg_, hge2_⟩ : ∃ g, w12.heap.size = g ∧ w12.heap.size ≤ g := ⟨_, rfl, Nat.le_refl _⟩
      rw [hgg_] at kx2 ⊢
      clear hgex2
      have hgex2 := hge2_
      clear hgg_ hge2_
      refine wpAnyH_ready (rs := [18, 20]) (by kernel_rfl) (by simp) ?_
      refine AllReadyH.cons (o := _) rfl (fun K hK => ?_) (AllReadyH.cons (o := _) rfl (fun K hK => ?_) AllReadyH.nil)
      · go_simp
        have kx1 : (ud6.alloc (.cells #[.int .i64 7, .int .i64 5] 3)).heap[ud6.heap.size]? = some (.cells #[.int .i64 7, .int .i64 5] 3 (0, 0)) := World.alloc_heap_new _ _
        have hb := below_new ud6 (.cells #[.int .i64 7, .int .i64 5] 3)
        replace kx2 := blk_on kx2 hb
        have hgb_ := hbX.size
        replace hbX := on_below hbX hb
        clear hb
        have hgex1 : w12.heap.size ≤ ud6.heap.size := hgb_
        clear hgb_
        refine hK.out _ _ (kp hbX) fun HL_ => ?_
        clear hK K
        generalize ud6.alloc (.cells #[.int .i64 7, .int .i64 5] 3) = ud7 at *
        generalize ud6.heap.size = gx1 at *
        refine wpAnyH_ready (rs := [20]) (by kernel_rfl) (by simp) ?_
        refine AllReadyH.cons (o := _) rfl (fun K hK => ?_) AllReadyH.nil
        go_simp
        have kx3 : (ud7.alloc (.cells #[.int .i64 2] 3)).heap[ud7.heap.size]? = some (.cells #[.int .i64 2] 3 (0, 0)) := World.alloc_heap_new _ _
        have hb := below_new ud7 (.cells #[.int .i64 2] 3)
        replace kx2 := blk_on kx2 hb
        replace kx1 := blk_on kx1 hb
        have hgb_ := hbX.size
        replace hbX := on_below hbX hb
        clear hb
        have hgex3 : w12.heap.size ≤ ud7.heap.size := hgb_
        clear hgb_
        refine hK.out _ _ (kp hbX) fun HL_ => ?_
        clear hK K
        generalize ud7.alloc (.cells #[.int .i64 2] 3) = ud8 at *
        generalize ud7.heap.size = gx3 at *
        refine lst_conv (l2 := #[true, true, true, true, true, true, true, true, true, true, true, true, true, true, true, true, true, true, true, true, true, false, false, false, false, false, false, false, false, false, false, false, false, false, false, false, false, false, false, false, false, false, false, false, false, false, false]) (by kernel_rfl) ?_
        exact tail ud8 gx1 gx2 gx3 ⟨hbX, kx1, kx2, kx3⟩
      · go_simp
        have kx3 : (ud6.alloc (.cells #[.int .i64 2] 3)).heap[ud6.heap.size]? = some (.cells #[.int .i64 2] 3 (0, 0)) := World.alloc_heap_new _ _
        have hb := below_new ud6 (.cells #[.int .i64 2] 3)
        replace kx2 := blk_on kx2 hb
        have hgb_ := hbX.size
        replace hbX := on_below hbX hb
        clear hb
        have hgex3 : w12.heap.size ≤ ud6.heap.size := hgb_
        clear hgb_
        refine hK.out _ _ (kp hbX) fun HL_ => ?_
        clear hK K
        generalize ud6.alloc (.cells #[.int .i64 2] 3) = ud9 at *
        generalize ud6.heap.size = gx3 at *
        refine wpAnyH_ready (rs := [18]) (by kernel_rfl) (by simp) ?_
        refine AllReadyH.cons (o := _) rfl (fun K hK => ?_) AllReadyH.nil
        go_simp
        have kx1 : (ud9.alloc (.cells #[.int .i64 7, .int .i64 5] 3)).heap[ud9.heap.size]? = some (.cells #[.int .i64 7, .int .i64 5] 3 (0, 0)) := World.alloc_heap_new _ _
        have hb := below_new ud9 (.cells #[.int .i64 7, .int .i64 5] 3)
        replace kx2 := blk_on kx2 hb
        replace kx3 := blk_on kx3 hb
        have hgb_ := hbX.size
        replace hbX := on_below hbX hb
        clear hb
        have hgex1 : w12.heap.size ≤ ud9.heap.size := hgb_
        clear hgb_
        refine hK.out _ _ (kp hbX) fun HL_ => ?_
        clear hK K
        generalize ud9.alloc (.cells #[.int .i64 7, .int .i64 5] 3) = ud10 at *
        generalize ud9.heap.size = gx1 at *
        refine lst_conv (l2 := #[true, true, true, true, true, true, true, true, true, true, true, true, true, true, true, true, true, true, true, true, true, false, false, false, false, false, false, false, false, false, false, false, false, false, false, false, false, false, false, false, false, false, false, false, false, false, false]) (by kernel_rfl) ?_
        exact tail ud10 gx1 gx2 gx3 ⟨hbX, kx1, kx2, kx3⟩
    · go_simp
      have kx3 : (w12.alloc (.cells #[.int .i64 2] 3)).drew.heap[w12.heap.size]? = some (.cells #[.int .i64 2] 3 (0, 0)) := World.alloc_heap_new _ _
      have hbX : Below w12.heap.size w12 (w12.alloc (.cells #[.int .i64 2] 3)).drew := (below_new w12 (.cells #[.int .i64 2] 3)).drew
      have hgex3 : w12.heap.size ≤ w12.heap.size := Nat.le_refl _
      refine hK.out _ _ (kp hbX) fun HL_ => ?_
      clear hK K
      generalize (w12.alloc (.cells #[.int .i64 2] 3)).drew = ud11 at *
      obtain ⟨gx3, hgg_, hge2_⟩ : ∃ g, w12.heap.size = g ∧ w12.heap.size ≤ g := ⟨_, rfl, Nat.le_refl _⟩
      rw [hgg_] at kx3 ⊢
      clear hgex3
      have hgex3 := hge2_
      clear hgg_ hge2_
      refine wpAnyH_ready (rs := [18, 19]) (by kernel_rfl) (by simp) ?_
      refine AllReadyH.cons (o := _) rfl (fun K hK => ?_) (AllReadyH.cons (o := _) rfl (fun K hK => ?_) AllReadyH.nil)
      · go_simp
        have kx1 : (ud11.alloc (.cells #[.int .i64 7, .int .i64 5] 3)).heap[ud11.heap.size]? = some (.cells #[.int .i64 7, .int .i64 5] 3 (0, 0)) := World.alloc_heap_new _ _
        have hb := below_new ud11 (.cells #[.int .i64 7, .int .i64 5] 3)
        replace kx3 := blk_on kx3 hb
        have hgb_ := hbX.size
        replace hbX := on_below hbX hb
        clear hb
        have hgex1 : w12.heap.size ≤ ud11.heap.size := hgb_
        clear hgb_
        refine hK.out _ _ (kp hbX) fun HL_ => ?_
        clear hK K
        generalize ud11.alloc (.cells #[.int .i64 7, .int .i64 5] 3) = ud12 at *
        generalize ud11.heap.size = gx1 at *
        refine wpAnyH_ready (rs := [19]) (by kernel_rfl) (by simp) ?_
        refine AllReadyH.cons (o := _) rfl (fun K hK => ?_) AllReadyH.nil
        go_simp
        have kx2 : (ud12.alloc (.cells #[.int .i64 9] 3)).heap[ud12.heap.size]? = some (.cells #[.int .i64 9] 3 (0, 0)) := World.alloc_heap_new _ _
        have hb := below_new ud12 (.cells #[.int .i64 9] 3)
        replace kx3 := blk_on kx3 hb
        replace kx1 := blk_on kx1 hb
        have hgb_ := hbX.size
        replace hbX := on_below hbX hb
        clear hb
        have hgex2 : w12.heap.size ≤ ud12.heap.size := hgb_
        clear hgb_
        refine hK.out _ _ (kp hbX) fun HL_ => ?_
        clear hK K
        generalize ud12.alloc (.cells #[.int .i64 9] 3) = ud13 at *
        generalize ud12.heap.size = gx2 at *
        refine lst_conv (l2 := #[true, true, true, true, true, true, true, true, true, true, true, true, true, true, true, true, true, true, true, true, true, false, false, false, false, false, false, false, false, false, false, false, false, false, false, false, false, false, false, false, false, false, false, false, false, false, false]) (by kernel_rfl) ?_
        exact tail ud13 gx1 gx2 gx3 ⟨hbX, kx1, kx2, kx3⟩
      · go_simp
        have kx2 : (ud11.alloc (.cells #[.int .i64 9] 3)).heap[ud11.heap.size]? = some (.cells #[.int .i64 9] 3 (0, 0)) := World.alloc_heap_new _ _
        have hb := below_new ud11 (.cells #[.int .i64 9] 3)
        replace kx3 := blk_on kx3 hb
        have hgb_ := hbX.size
        replace hbX := on_below hbX hb
        clear hb
        have hgex2 : w12.heap.size ≤ ud11.heap.size := hgb_
        clear hgb_
        refine hK.out _ _ (kp hbX) fun HL_ => ?_
        clear hK K
        generalize ud11.alloc (.cells #[.int .i64 9] 3) = ud14 at *
        generalize ud11.heap.size = gx2 at *
        refine wpAnyH_ready (rs := [18]) (by kernel_rfl) (by simp) ?_
        refine AllReadyH.cons (o := _) rfl (fun K hK => ?_) AllReadyH.nil
        go_simp
        have kx1 : (ud14.alloc (.cells #[.int .i64 7, .int .i64 5] 3)).heap[ud14.heap.size]? = some (.cells #[.int .i64 7, .int .i64 5] 3 (0, 0)) := World.alloc_heap_new _ _
        have hb := below_new ud14 (.cells #[.int .i64 7, .int .i64 5] 3)
        replace kx3 := blk_on kx3 hb
        replace kx2 := blk_on kx2 hb
        have hgb_ := hbX.size
        replace hbX := on_below hbX hb
        clear hb
        have hgex1 : w12.heap.size ≤ ud14.heap.size := hgb_
        clear hgb_
        refine hK.out _ _ (kp hbX) fun HL_ => ?_
        clear hK K
        generalize ud14.alloc (.cells #[.int .i64 7, .int .i64 5] 3) = ud15 at *
        generalize ud14.heap.size = gx1 at *
        refine lst_conv (l2 := #[true, true, true, true, true, true, true, true, true, true, true, true, true, true, true, true, true, true, true, true, true, false, false, false, false, false, false, false, false, false, false, false, false, false, false, false, false, false, false, false, false, false, false, false, false, false, false]) (by kernel_rfl) ?_
        exact tail ud15 gx1 gx2 gx3 ⟨hbX, kx1, kx2, kx3⟩
  case tail =>
    intro ud gx1 gx2 gx3 hF
    obtain ⟨hbX, kx1, kx2, kx3⟩ := hF
    refine wpAnyH_ready (rs := [21]) (by kernel_rfl) (by simp) ?_
    refine AllReadyH.cons (o := _) rfl (fun K hK => ?_) AllReadyH.nil
    go_simp
    have kx4 : (ud.alloc (.cells #[.slice (some ⟨gx1, 0, none⟩) 2 2, .slice (some ⟨gx2, 0, none⟩) 1 1, .slice (some ⟨gx3, 0, none⟩) 1 1] 34)).heap[ud.heap.size]? = some (.cells #[.slice (some ⟨gx1, 0, none⟩) 2 2, .slice (some ⟨gx2, 0, none⟩) 1 1, .slice (some ⟨gx3, 0, none⟩) 1 1] 34 (0, 0)) := World.alloc_heap_new _ _
    have hb := below_new ud (.cells #[.slice (some ⟨gx1, 0, none⟩) 2 2, .slice (some ⟨gx2, 0, none⟩) 1 1, .slice (some ⟨gx3, 0, none⟩) 1 1] 34)
    replace kx1 := blk_on kx1 hb
    replace kx2 := blk_on kx2 hb
    replace kx3 := blk_on kx3 hb
    have hgb_ := hbX.size
    replace hbX := on_below hbX hb
    clear hb
    have hgex4 : w12.heap.size ≤ ud.heap.size := hgb_
    clear hgb_
    refine hK.out _ _ (kp hbX) fun HL_ => ?_
    clear hK K
    generalize ud.alloc (.cells #[.slice (some ⟨gx1, 0, none⟩) 2 2, .slice (some ⟨gx2, 0, none⟩) 1 1, .slice (some ⟨gx3, 0, none⟩) 1 1] 34) = ud21 at *
    generalize ud.heap.size = gx4 at *
    refine wpAnyH_ready (rs := [22]) (by kernel_rfl) (by simp) ?_
    refine AllReadyH.cons (o := _) rfl (fun K hK => ?_) AllReadyH.nil
    go_simp
    with_reducible refine (y_10 A C gx4 _ (HLL.out.below hbX) (lls_three kx1 kx2 kx3 kx4)).mono ?_
    rintro e_ ud22 ⟨rfl, hb⟩
    replace kx1 := blk_on kx1 hb
    replace kx2 := blk_on kx2 hb
    replace kx3 := blk_on kx3 hb
    replace kx4 := blk_on kx4 hb
    replace hbX := on_below hbX hb
    clear hb
    refine hK.out _ _ (kp hbX) fun HL_ => ?_
    clear hK K
    refine wpAnyH_take (i := 23) (v := .bool true) rfl (by kernel_rfl) (by kernel_rfl) (by kernel_rfl) (fun _ _ _ h => h) (Or.inl ⟨by kernel_rfl, ?_⟩) HL_ ?_
    · rintro Wl ⟨s0, s1, s2, s3, s4, s5, s6, s7, s8, s9, s10, s11, s12, s13, s14, s15, s16, s17, s18, s19⟩
      go_simp
    simp only [Act.put, List.getElem_toArray, List.getElem_cons_succ, List.getElem_cons_zero, List.setIfInBounds_toArray, List.set_cons_zero, List.set_cons_succ]
    refine wpAnyH_take (i := 24) (v := .bool true) rfl (by kernel_rfl) (by kernel_rfl) (by kernel_rfl) (fun _ _ _ h => h) (Or.inl ⟨by kernel_rfl, ?_⟩) HL_ ?_
    · rintro Wl ⟨s0, s1, s2, s3, s4, s5, s6, s7, s8, s9, s10, s11, s12, s13, s14, s15, s16, s17, s18, s19⟩
      go_simp
    simp only [Act.put, List.getElem_toArray, List.getElem_cons_succ, List.getElem_cons_zero, List.setIfInBounds_toArray, List.set_cons_zero, List.set_cons_succ]
    refine wpAnyH_take (i := 25) (v := .agg #[.slice (some ⟨g, 0, none⟩) 4 4, .int .i64 8, .int .i64 13]) rfl (by kernel_rfl) (by kernel_rfl) (by kernel_rfl) (fun _ _ _ h => h) (Or.inl ⟨by kernel_rfl, ?_⟩) HL_ ?_
    · rintro Wl ⟨s0, s1, s2, s3, s4, s5, s6, s7, s8, s9, s10, s11, s12, s13, s14, s15, s16, s17, s18, s19⟩
      go_simp
    simp only [Act.put, List.getElem_toArray, List.getElem_cons_succ, List.getElem_cons_zero, List.setIfInBounds_toArray, List.set_cons_zero, List.set_cons_succ]
    refine wpAnyH_take (i := 27) (v := .agg #[.slice (some ⟨g2, 0, none⟩) 4 4, .int .i64 8, .int .i64 13]) rfl (by kernel_rfl) (by kernel_rfl) (by kernel_rfl) (fun _ _ _ h => h) (Or.inl ⟨by kernel_rfl, ?_⟩) HL_ ?_
    · rintro Wl ⟨s0, s1, s2, s3, s4, s5, s6, s7, s8, s9, s10, s11, s12, s13, s14, s15, s16, s17, s18, s19⟩
      go_simp
    simp only [Act.put, List.getElem_toArray, List.getElem_cons_succ, List.getElem_cons_zero, List.setIfInBounds_toArray, List.set_cons_zero, List.set_cons_succ]
    refine use_tail2 (F := fun W a b => Below w12.heap.size w12 W ∧ W.heap[a]? = some (.cells #[.slice (some ⟨g, 0, none⟩) 4 4, .int .i64 8, .int .i64 13] 47 (0, 0)) ∧ W.heap[b]? = some (.cells #[.slice (some ⟨g2, 0, none⟩) 4 4, .int .i64 8, .int .i64 13] 47 (0, 0))) (T := ?T2) ?main ?tail
    clear kx1 kx2 kx3 kx4
    case main =>
      intro tail
      refine wpAnyH_ready (rs := [26, 28]) (by kernel_rfl) (by simp) ?_
      refine AllReadyH.cons (o := _) rfl (fun K hK => ?_) (AllReadyH.cons (o := _) rfl (fun K hK => ?_) AllReadyH.nil)
      · go_simp
        have kx5 : (ud22.alloc (.cells #[.slice (some ⟨g, 0, none⟩) 4 4, .int .i64 8, .int .i64 13] 47)).heap[ud22.heap.size]? = some (.cells #[.slice (some ⟨g, 0, none⟩) 4 4, .int .i64 8, .int .i64 13] 47 (0, 0)) := World.alloc_heap_new _ _
        have hb := below_new ud22 (.cells #[.slice (some ⟨g, 0, none⟩) 4 4, .int .i64 8, .int .i64 13] 47)
        have hgb_ := hbX.size
        replace hbX := on_below hbX hb
        clear hb
        have hgex5 : w12.heap.size ≤ ud22.heap.size := hgb_
        clear hgb_
        refine hK.out _ _ (kp hbX) fun HL_ => ?_
        clear hK K
        generalize ud22.alloc (.cells #[.slice (some ⟨g, 0, none⟩) 4 4, .int .i64 8, .int .i64 13] 47) = ud41 at *
        generalize ud22.heap.size = gx5 at *
        refine wpAnyH_ready (rs := [28]) (by kernel_rfl) (by simp) ?_
        refine AllReadyH.cons (o := _) rfl (fun K hK => ?_) AllReadyH.nil
        go_simp
        have kx6 : (ud41.alloc (.cells #[.slice (some ⟨g2, 0, none⟩) 4 4, .int .i64 8, .int .i64 13] 47)).heap[ud41.heap.size]? = some (.cells #[.slice (some ⟨g2, 0, none⟩) 4 4, .int .i64 8, .int .i64 13] 47 (0, 0)) := World.alloc_heap_new _ _
        have hb := below_new ud41 (.cells #[.slice (some ⟨g2, 0, none⟩) 4 4, .int .i64 8, .int .i64 13] 47)
        replace kx5 := blk_on kx5 hb
        have hgb_ := hbX.size
        replace hbX := on_below hbX hb
        clear hb
        have hgex6 : w12.heap.size ≤ ud41.heap.size := hgb_
        clear hgb_
        refine hK.out _ _ (kp hbX) fun HL_ => ?_
        clear hK K
        generalize ud41.alloc (.cells #[.slice (some ⟨g2, 0, none⟩) 4 4, .int .i64 8, .int .i64 13] 47) = ud42 at *
        generalize ud41.heap.size = gx6 at *
        refine lst_conv (l2 := #[true, true, true, true, true, true, true, true, true, true, true, true, true, true, true, true, true, true, true, true, true, true, true, true, true, true, true, true, true, false, false, false, false, false, false, false, false, false, false, false, false, false, false, false, false, false, false]) (by kernel_rfl) ?_
        exact tail ud42 gx5 gx6 ⟨hbX, kx5, kx6⟩
      · go_simp
        have kx6 : (ud22.alloc (.cells #[.slice (some ⟨g2, 0, none⟩) 4 4, .int .i64 8, .int .i64 13] 47)).heap[ud22.heap.size]? = some (.cells #[.slice (some ⟨g2, 0, none⟩) 4 4, .int .i64 8, .int .i64 13] 47 (0, 0)) := World.alloc_heap_new _ _
        have hb := below_new ud22 (.cells #[.slice (some ⟨g2, 0, none⟩) 4 4, .int .i64 8, .int .i64 13] 47)
        have hgb_ := hbX.size
        replace hbX := on_below hbX hb
        clear hb
        have hgex6 : w12.heap.size ≤ ud22.heap.size := hgb_
        clear hgb_
        refine hK.out _ _ (kp hbX) fun HL_ => ?_
        clear hK K
        generalize ud22.alloc (.cells #[.slice (some ⟨g2, 0, none⟩) 4 4, .int .i64 8, .int .i64 13] 47) = ud43 at *
        generalize ud22.heap.size = gx6 at *
        refine wpAnyH_ready (rs := [26]) (by kernel_rfl) (by simp) ?_
        refine AllReadyH.cons (o := _) rfl (fun K hK => ?_) AllReadyH.nil
        go_simp
        have kx5 : (ud43.alloc (.cells #[.slice (some ⟨g, 0, none⟩) 4 4, .int .i64 8, .int .i64 13] 47)).heap[ud43.heap.size]? = some (.cells #[.slice (some ⟨g, 0, none⟩) 4 4, .int .i64 8, .int .i64 13] 47 (0, 0)) := World.alloc_heap_new _ _
        have hb := below_new ud43 (.cells #[.slice (some ⟨g, 0, none⟩) 4 4, .int .i64 8, .int .i64 13] 47)
        replace kx6 := blk_on kx6 hb
        have hgb_ := hbX.size
        replace hbX := on_below hbX hb
        clear hb
        have hgex5 : w12.heap.size ≤ ud43.heap.size := hgb_
        clear hgb_
        refine hK.out _ _ (kp hbX) fun HL_ => ?_
        clear hK K
        generalize ud43.alloc (.cells #[.slice (some ⟨g, 0, none⟩) 4 4, .int .i64 8, .int .i64 13] 47) = ud44 at *
        generalize ud43.heap.size = gx5 at *
        refine lst_conv (l2 := #[true, true, true, true, true, true, true, true, true, true, true, true, true, true, true, true, true, true, true, true, true, true, true, true, true, true, true, true, true, false, false, false, false, false, false, false, false, false, false, false, false, false, false, false, false, false, false]) (by kernel_rfl) ?_
        exact tail ud44 gx5 gx6 ⟨hbX, kx5, kx6⟩
    case tail =>
      clear hbX
      intro ue gx5 gx6 hF
      obtain ⟨hbX, kx5, kx6⟩ := hF
      refine wpAnyH_ready (rs := [29]) (by kernel_rfl) (by simp) ?_
      refine AllReadyH.cons (o := _) rfl (fun K hK => ?_) AllReadyH.nil
      go_simp
      with_reducible refine (y_11 gx5 gx6 g g2 _ (bds_hp (HS.out.below hbX) kx5) (bds_hp (HS2.out.below hbX) kx6)).mono ?_
      rintro e_ ud61 ⟨rfl, hb⟩
      replace kx5 := blk_on kx5 hb
      replace kx6 := blk_on kx6 hb
      replace hbX := on_below hbX hb
      clear hb
      refine hK.out _ _ (kp hbX) fun HL_ => ?_
      clear hK K
      refine wpAnyH_take (i := 30) (v := .bool true) rfl (by kernel_rfl) (by kernel_rfl) (by kernel_rfl) (fun _ _ _ h => h) (Or.inl ⟨by kernel_rfl, ?_⟩) HL_ ?_
      · rintro Wl ⟨s0, s1, s2, s3, s4, s5, s6, s7, s8, s9, s10, s11, s12, s13, s14, s15, s16, s17, s18, s19⟩
        go_simp
      simp only [Act.put, List.getElem_toArray, List.getElem_cons_succ, List.getElem_cons_zero, List.setIfInBounds_toArray, List.set_cons_zero, List.set_cons_succ]
      refine wpAnyH_take (i := 31) (v := .bool true) rfl (by kernel_rfl) (by kernel_rfl) (by kernel_rfl) (fun _ _ _ h => h) (Or.inl ⟨by kernel_rfl, ?_⟩) HL_ ?_
      · rintro Wl ⟨s0, s1, s2, s3, s4, s5, s6, s7, s8, s9, s10, s11, s12, s13, s14, s15, s16, s17, s18, s19⟩
        go_simp
      simp only [Act.put, List.getElem_toArray, List.getElem_cons_succ, List.getElem_cons_zero, List.setIfInBounds_toArray, List.set_cons_zero, List.set_cons_succ]
      refine wpAnyH_take (i := 32) (v := .slice (some ⟨w.heap.size, 0, none⟩) 4 4) rfl (by kernel_rfl) (by kernel_rfl) (by kernel_rfl) (fun _ _ _ h => h) (Or.inl ⟨by kernel_rfl, ?_⟩) HL_ ?_
      · rintro Wl ⟨s0, s1, s2, s3, s4, s5, s6, s7, s8, s9, s10, s11, s12, s13, s14, s15, s16, s17, s18, s19⟩
        go_simp
      simp only [Act.put, List.getElem_toArray, List.getElem_cons_succ, List.getElem_cons_zero, List.setIfInBounds_toArray, List.set_cons_zero, List.set_cons_succ]
      refine wpAnyH_ready (rs := [33]) (by kernel_rfl) (by simp) ?_
      refine AllReadyH.cons (o := _) rfl (fun K hK => ?_) AllReadyH.nil
      go_simp
      with_reducible refine (y_6 _ _ (HP.out.below hbX)).mono ?_
      rintro e_ ud62 ⟨rfl, hb⟩
      replace kx5 := blk_on kx5 hb
      replace kx6 := blk_on kx6 hb
      replace hbX := on_below hbX hb
      clear hb
      refine hK.out _ _ (kp hbX) fun HL_ => ?_
      clear hK K
      refine wpAnyH_take (i := 34) (v := .bool true) rfl (by kernel_rfl) (by kernel_rfl) (by kernel_rfl) (fun _ _ _ h => h) (Or.inl ⟨by kernel_rfl, ?_⟩) HL_ ?_
      · rintro Wl ⟨s0, s1, s2, s3, s4, s5, s6, s7, s8, s9, s10, s11, s12, s13, s14, s15, s16, s17, s18, s19⟩
        go_simp
      simp only [Act.put, List.getElem_toArray, List.getElem_cons_succ, List.getElem_cons_zero, List.setIfInBounds_toArray, List.set_cons_zero, List.set_cons_succ]
      refine wpAnyH_take (i := 35) (v := .bool true) rfl (by kernel_rfl) (by kernel_rfl) (by kernel_rfl) (fun _ _ _ h => h) (Or.inl ⟨by kernel_rfl, ?_⟩) HL_ ?_
      · rintro Wl ⟨s0, s1, s2, s3, s4, s5, s6, s7, s8, s9, s10, s11, s12, s13, s14, s15, s16, s17, s18, s19⟩
        go_simp
      simp only [Act.put, List.getElem_toArray, List.getElem_cons_succ, List.getElem_cons_zero, List.setIfInBounds_toArray, List.set_cons_zero, List.set_cons_succ]
      refine wpAnyH_take (i := 36) (v := .slice (some ⟨w.heap.size, 0, none⟩) 4 4) rfl (by kernel_rfl) (by kernel_rfl) (by kernel_rfl) (fun _ _ _ h => h) (Or.inl ⟨by kernel_rfl, ?_⟩) HL_ ?_
      · rintro Wl ⟨s0, s1, s2, s3, s4, s5, s6, s7, s8, s9, s10, s11, s12, s13, s14, s15, s16, s17, s18, s19⟩
        go_simp
      simp only [Act.put, List.getElem_toArray, List.getElem_cons_succ, List.getElem_cons_zero, List.setIfInBounds_toArray, List.set_cons_zero, List.set_cons_succ]
      refine wpAnyH_take (i := 37) (v := .pointer (some ⟨w.heap.size, 7, none⟩)) rfl (by kernel_rfl) (by kernel_rfl) (by kernel_rfl) (fun _ _ _ h => h) (Or.inl ⟨by kernel_rfl, ?_⟩) HL_ ?_
      · rintro Wl ⟨s0, s1, s2, s3, s4, s5, s6, s7, s8, s9, s10, s11, s12, s13, s14, s15, s16, s17, s18, s19⟩
        go_simp
      simp only [Act.put, List.getElem_toArray, List.getElem_cons_succ, List.getElem_cons_zero, List.setIfInBounds_toArray, List.set_cons_zero, List.set_cons_succ]
      refine wpAnyH_take (i := 38) (v := .agg #[.int .i64 5, .int .i64 0, .int .i64 4, .int .i64 5, .int .i64 0, .int .i64 10, .int .i64 1]) rfl (by kernel_rfl) (by kernel_rfl) (by kernel_rfl) (fun _ _ _ h => h) (Or.inl ⟨by kernel_rfl, ?_⟩) HL_ ?_
      · rintro Wl ⟨s0, s1, s2, s3, s4, s5, s6, s7, s8, s9, s10, s11, s12, s13, s14, s15, s16, s17, s18, s19⟩
        go_simp
      simp only [Act.put, List.getElem_toArray, List.getElem_cons_succ, List.getElem_cons_zero, List.setIfInBounds_toArray, List.set_cons_zero, List.set_cons_succ]
      refine wpAnyH_take (i := 39) (v := .slice (some ⟨w.heap.size, 0, none⟩) 4 4) rfl (by kernel_rfl) (by kernel_rfl) (by kernel_rfl) (fun _ _ _ h => h) (Or.inl ⟨by kernel_rfl, ?_⟩) HL_ ?_
      · rintro Wl ⟨s0, s1, s2, s3, s4, s5, s6, s7, s8, s9, s10, s11, s12, s13, s14, s15, s16, s17, s18, s19⟩
        go_simp
      simp only [Act.put, List.getElem_toArray, List.getElem_cons_succ, List.getElem_cons_zero, List.setIfInBounds_toArray, List.set_cons_zero, List.set_cons_succ]
      refine wpAnyH_take (i := 40) (v := .pointer (some ⟨w.heap.size, 0, none⟩)) rfl (by kernel_rfl) (by kernel_rfl) (by kernel_rfl) (fun _ _ _ h => h) (Or.inl ⟨by kernel_rfl, ?_⟩) HL_ ?_
      · rintro Wl ⟨s0, s1, s2, s3, s4, s5, s6, s7, s8, s9, s10, s11, s12, s13, s14, s15, s16, s17, s18, s19⟩
        go_simp
      simp only [Act.put, List.getElem_toArray, List.getElem_cons_succ, List.getElem_cons_zero, List.setIfInBounds_toArray, List.set_cons_zero, List.set_cons_succ]
      refine wpAnyH_take (i := 41) (v := .agg #[.int .i64 7, .int .i64 0, .int .i64 3, .int .i64 0, .int .i64 0, .int .i64 10, .int .i64 1]) rfl (by kernel_rfl) (by kernel_rfl) (by kernel_rfl) (fun _ _ _ h => h) (Or.inl ⟨by kernel_rfl, ?_⟩) HL_ ?_
      · rintro Wl ⟨s0, s1, s2, s3, s4, s5, s6, s7, s8, s9, s10, s11, s12, s13, s14, s15, s16, s17, s18, s19⟩
        go_simp
      simp only [Act.put, List.getElem_toArray, List.getElem_cons_succ, List.getElem_cons_zero, List.setIfInBounds_toArray, List.set_cons_zero, List.set_cons_succ]
      refine wpAnyH_ready (rs := [42]) (by kernel_rfl) (by simp) ?_
      refine AllReadyH.cons (o := _) rfl (fun K hK => ?_) AllReadyH.nil
      go_simp
      have kx7 : (ud62.alloc (.cells #[.int .i64 5, .int .i64 0, .int .i64 4, .int .i64 5, .int .i64 0, .int .i64 10, .int .i64 1, .int .i64 7, .int .i64 0, .int .i64 3, .int .i64 0, .int .i64 0, .int .i64 10, .int .i64 1] 28)).heap[ud62.heap.size]? = some (.cells #[.int .i64 5, .int .i64 0, .int .i64 4, .int .i64 5, .int .i64 0, .int .i64 10, .int .i64 1, .int .i64 7, .int .i64 0, .int .i64 3, .int .i64 0, .int .i64 0, .int .i64 10, .int .i64 1] 28 (0, 0)) := World.alloc_heap_new _ _
      have hb := below_new ud62 (.cells #[.int .i64 5, .int .i64 0, .int .i64 4, .int .i64 5, .int .i64 0, .int .i64 10, .int .i64 1, .int .i64 7, .int .i64 0, .int .i64 3, .int .i64 0, .int .i64 0, .int .i64 10, .int .i64 1] 28)
      replace kx5 := blk_on kx5 hb
      replace kx6 := blk_on kx6 hb
      have hgb_ := hbX.size
      replace hbX := on_below hbX hb
      clear hb
      have hgex7 : w12.heap.size ≤ ud62.heap.size := hgb_
      clear hgb_
      refine hK.out _ _ (kp hbX) fun HL_ => ?_
      clear hK K
      generalize ud62.alloc (.cells #[.int .i64 5, .int .i64 0, .int .i64 4, .int .i64 5, .int .i64 0, .int .i64 10, .int .i64 1, .int .i64 7, .int .i64 0, .int .i64 3, .int .i64 0, .int .i64 0, .int .i64 10, .int .i64 1] 28) = ud63 at *
      generalize ud62.heap.size = gx7 at *
      refine wpAnyH_ready (rs := [43]) (by kernel_rfl) (by simp) ?_
      refine AllReadyH.cons (o := _) rfl (fun K hK => ?_) AllReadyH.nil
      go_simp
      with_reducible refine (y_12 gx7 _ (pls_two kx7)).mono ?_
      rintro e_ ud64 ⟨rfl, hb⟩
      replace kx5 := blk_on kx5 hb
      replace kx6 := blk_on kx6 hb
      replace kx7 := blk_on kx7 hb
      replace hbX := on_below hbX hb
      clear hb
      refine hK.out _ _ (kp hbX) fun HL_ => ?_
      clear hK K
      refine wpAnyH_take (i := 44) (v := .bool true) rfl (by kernel_rfl) (by kernel_rfl) (by kernel_rfl) (fun _ _ _ h => h) (Or.inl ⟨by kernel_rfl, ?_⟩) HL_ ?_
      · rintro Wl ⟨s0, s1, s2, s3, s4, s5, s6, s7, s8, s9, s10, s11, s12, s13, s14, s15, s16, s17, s18, s19⟩
        go_simp
      simp only [Act.put, List.getElem_toArray, List.getElem_cons_succ, List.getElem_cons_zero, List.setIfInBounds_toArray, List.set_cons_zero, List.set_cons_succ]
      refine wpAnyH_take (i := 45) (v := .bool true) rfl (by kernel_rfl) (by kernel_rfl) (by kernel_rfl) (fun _ _ _ h => h) (Or.inl ⟨by kernel_rfl, ?_⟩) HL_ ?_
      · rintro Wl ⟨s0, s1, s2, s3, s4, s5, s6, s7, s8, s9, s10, s11, s12, s13, s14, s15, s16, s17, s18, s19⟩
        go_simp
      simp only [Act.put, List.getElem_toArray, List.getElem_cons_succ, List.getElem_cons_zero, List.setIfInBounds_toArray, List.set_cons_zero, List.set_cons_succ]
      refine wpAnyH_take (i := 46) (v := .bool true) rfl (by kernel_rfl) (by kernel_rfl) (by kernel_rfl) (fun _ _ _ h => h) (Or.inl ⟨by kernel_rfl, ?_⟩) HL_ ?_
      · rintro Wl ⟨s0, s1, s2, s3, s4, s5, s6, s7, s8, s9, s10, s11, s12, s13, s14, s15, s16, s17, s18, s19⟩
        go_simp
      simp only [Act.put, List.getElem_toArray, List.getElem_cons_succ, List.getElem_cons_zero, List.setIfInBounds_toArray, List.set_cons_zero, List.set_cons_succ]
      refine wpAnyH_done (by kernel_rfl) ?_ _
      clear HL_ kp
      go_wp2_with fail
      go_ret
      exact ⟨rfl, on_below HB.out hbX⟩
end Go.Proofs.Ytgikpcoaennkgaa
