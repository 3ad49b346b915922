/-
  The laws: head, comparisons of rational numbers, vectors that come in.
-/
import Derived.Test.YtjjimbaogpmbmaaShpPQ
import Derived.Test.YtjjimbaogpmbmaaShpPO
import Derived.Test.YtjjimbaogpmbmaaShpPN
import Derived.Test.YtjjimbaogpmbmaaShpM
import Derived.Test.YtjjimbaogpmbmaaShpN
import Derived.Test.YtjjimbaogpmbmaaShpW
namespace Go.Proofs.Ytjjimbaogpmbmaa
open Go.RowKit Go.Sort
open Go.RowKit (Below)
set_option linter.unusedVariables false
set_option linter.unusedSimpArgs false

theorem rat_eq {a b x y : Int} {r : Bool} (h : decide (a = x ∧ b = y) = r) (w : World) : (binOp .eql 39 (.agg #[.int .i64 a, .int .i64 b]) (.agg #[.int .i64 x, .int .i64 y])).run Try.prog w = .ok (.bool r) w := by
  subst h
  by_cases h1 : a = x
  · by_cases h2 : b = y
    · subst h1 h2; simp [go_sem]
    · simp [go_sem, h1, h2]
  · simp [go_sem, h1]
/-- The square of the chapter's examples, and where it is moved. -/
def sq : List (Int × Int) := [(0, 0), (10, 0), (10, 10), (0, 10)]
def sq10 : List (Int × Int) := [(10, 0), (20, 0), (20, 10), (10, 10)]
def sq9 : List (Int × Int) := [(9, 0), (19, 0), (19, 10), (9, 10)]
theorem four {P : Nat → Prop} (h0 : P 0) (h1 : P 1) (h2 : P 2) (h3 : P 3) : ∀ i, i < 4 → P i := by
  intro i hi
  have : i = 0 ∨ i = 1 ∨ i = 2 ∨ i = 3 := by omega
  rcases this with rfl | rfl | rfl | rfl <;> assumption
theorem cvx4 {X Y : Nat → Int} (h : ∀ i, i < 4 → ∀ j, j < 4 → j ≠ i → j ≠ nx 4 i → 0 < tr X Y i (nx 4 i) j) : Cvx 4 X Y := fun i j hi hj a b => h i hi j hj a b
theorem bok_sq : Bok sq 0 10 := by
  constructor
  · decide
  · decide
  · exact four (by unfold co; decide) (by unfold co; decide) (by unfold co; decide) (by unfold co; decide)
  · exact four (by unfold co; decide) (by unfold co; decide) (by unfold co; decide) (by unfold co; decide)
  · unfold co; decide
  · unfold co; decide
  · decide
  · exact fun i h0 h => four (P := fun i => 0 < i → px sq 0 < px sq i ∨ (px sq 0 = px sq i ∧ py sq 0 < py sq i)) (by decide) (by decide) (by decide) (by decide) i h h0
  · exact cvx4 (four (four (by decide) (by decide) (by decide) (by decide)) (four (by decide) (by decide) (by decide) (by decide)) (four (by decide) (by decide) (by decide) (by decide)) (four (by decide) (by decide) (by decide) (by decide)))
theorem mv10 : mv sq 10 0 = sq10 := by decide
theorem mv9 : mv sq 9 0 = sq9 := by decide
theorem bok_10 : Bok sq10 0 10 := by
  constructor
  · decide
  · decide
  · exact four (by unfold co; decide) (by unfold co; decide) (by unfold co; decide) (by unfold co; decide)
  · exact four (by unfold co; decide) (by unfold co; decide) (by unfold co; decide) (by unfold co; decide)
  · unfold co; decide
  · unfold co; decide
  · decide
  · exact fun i h0 h => four (P := fun i => 0 < i → px sq10 0 < px sq10 i ∨ (px sq10 0 = px sq10 i ∧ py sq10 0 < py sq10 i)) (by decide) (by decide) (by decide) (by decide) i h h0
  · exact cvx4 (four (four (by decide) (by decide) (by decide) (by decide)) (four (by decide) (by decide) (by decide) (by decide)) (four (by decide) (by decide) (by decide) (by decide)) (four (by decide) (by decide) (by decide) (by decide)))
theorem bok_9 : Bok sq9 0 10 := by
  constructor
  · decide
  · decide
  · exact four (by unfold co; decide) (by unfold co; decide) (by unfold co; decide) (by unfold co; decide)
  · exact four (by unfold co; decide) (by unfold co; decide) (by unfold co; decide) (by unfold co; decide)
  · unfold co; decide
  · unfold co; decide
  · decide
  · exact fun i h0 h => four (P := fun i => 0 < i → px sq9 0 < px sq9 i ∨ (px sq9 0 = px sq9 i ∧ py sq9 0 < py sq9 i)) (by decide) (by decide) (by decide) (by decide) i h h0
  · exact cvx4 (four (four (by decide) (by decide) (by decide) (by decide)) (four (by decide) (by decide) (by decide) (by decide)) (four (by decide) (by decide) (by decide) (by decide)) (four (by decide) (by decide) (by decide) (by decide)))
theorem v3_of {a b c : Int} (h : vv a b c = true) : V3 a b c := vv_iff.1 h
theorem nobody : ¬ Bok [] 0 0 := fun h => absurd h.n3 (by decide)
theorem in_sq : InB sq 0 10 5 5 5 := ⟨four (by decide) (by decide) (by decide) (by decide), by decide, by decide⟩
theorem out_sq : ¬ InB sq 0 10 0 5 5 := fun h => absurd (h.1 3 (by decide)) (by decide)
theorem clip_hit : clres (clp r0 (cnd sq 0 10 (-10) 5 5 30 5 5)) = ⟨1, 4, 1, 2, true⟩ := by kernel_rfl
theorem clip_miss : clres (clp r0 (cnd sq 0 10 (-10) 0 5 30 0 5)) = ⟨0, 1, 0, 1, false⟩ := by kernel_rfl
theorem par_10 : Par sq sq10 := ⟨1, by decide, four (by decide) (by decide) (by decide) (by decide)⟩
theorem no_par {A B : List (Int × Int)} (hl : A.length = 4) (h : ∀ i, i < 4 → ∃ j, j < B.length ∧ 0 < crs (px A i) (py A i) (px A (nx A.length i)) (py A (nx A.length i)) (px B j) (py B j)) : ¬ Par A B := by
  rintro ⟨i, hi, hp⟩
  obtain ⟨j, hj, g⟩ := h i (by rw [← hl]; exact hi)
  exact absurd (hp j hj) (by omega)
theorem np_1 : ¬ Par sq sq9 := no_par rfl (four ⟨2, by decide, by decide⟩ ⟨0, by decide, by decide⟩ ⟨0, by decide, by decide⟩ ⟨1, by decide, by decide⟩)
theorem np_2 : ¬ Par sq9 sq := no_par rfl (four ⟨2, by decide, by decide⟩ ⟨0, by decide, by decide⟩ ⟨0, by decide, by decide⟩ ⟨1, by decide, by decide⟩)
theorem apa_10 : Apa sq 0 10 sq10 0 10 := Or.inr (Or.inr (Or.inl par_10))
theorem apa_9 : ¬ Apa sq 0 10 sq9 0 10 := by
  rintro (h | h | h | h)
  · exact absurd h (by decide)
  · exact absurd h (by decide)
  · exact np_1 h
  · exact np_2 h
/-! ### The calls of the head -/
theorem block_0 (w : World) : Calls Try.prog 56 #[.int .i64 0, .int .i64 0, .int .i64 0, .int .i64 10] w fun e_ w' => ∃ g, e_ = .returned (.agg #[.slice (some ⟨g, 0, none⟩) 4 4, .int .i64 0, .int .i64 10]) ∧ SlS w' (some ⟨g, 0, none⟩) sq ∧ Below w.heap.size w w' :=
  (block_any 0 0 0 10 (by omega) (by omega) (by omega) (by omega) w).mono fun e_ w' ⟨g, _, h1, h2, h3⟩ => ⟨g, h1, h2, h3⟩
theorem block_10 (w : World) : Calls Try.prog 56 #[.int .i64 10, .int .i64 0, .int .i64 0, .int .i64 10] w fun e_ w' => ∃ g, e_ = .returned (.agg #[.slice (some ⟨g, 0, none⟩) 4 4, .int .i64 0, .int .i64 10]) ∧ SlS w' (some ⟨g, 0, none⟩) sq10 ∧ Below w.heap.size w w' :=
  (block_any 10 0 0 10 (by omega) (by omega) (by omega) (by omega) w).mono fun e_ w' ⟨g, _, h1, h2, h3⟩ => ⟨g, h1, h2, h3⟩
section
variable (g : Nat) (C : Nat) (w : World)
theorem hin_1 (h : SlS w (some ⟨g, 0, none⟩) sq) : Calls Try.prog 25 #[.agg #[.slice (some ⟨g, 0, none⟩) 4 C, .int .i64 0, .int .i64 10], .agg #[.int .i64 5, .int .i64 5, .int .i64 5]] w fun e_ w' => e_ = .returned (.tuple #[.bool true, .int .i64 0]) ∧ Below w.heap.size w w' := pinside_is _ C sq 0 10 5 5 5 (by decide) true 0 (Or.inl ⟨bok_sq, v3_of (by decide), rfl, iff_of_true rfl in_sq⟩) w h
theorem hin_2 (h : SlS w (some ⟨g, 0, none⟩) sq) : Calls Try.prog 25 #[.agg #[.slice (some ⟨g, 0, none⟩) 4 C, .int .i64 0, .int .i64 10], .agg #[.int .i64 0, .int .i64 5, .int .i64 5]] w fun e_ w' => e_ = .returned (.tuple #[.bool false, .int .i64 0]) ∧ Below w.heap.size w w' := pinside_is _ C sq 0 10 0 5 5 (by decide) false 0 (Or.inl ⟨bok_sq, v3_of (by decide), rfl, iff_of_false (by decide) out_sq⟩) w h
theorem hcl_1 (h : SlS w (some ⟨g, 0, none⟩) sq) : Calls Try.prog 57 #[.agg #[.slice (some ⟨g, 0, none⟩) 4 C, .int .i64 0, .int .i64 10], .agg #[.int .i64 ((-10)), .int .i64 5, .int .i64 5], .agg #[.int .i64 30, .int .i64 5, .int .i64 5]] w fun e_ w' => e_ = .returned (.tuple #[.agg #[.int .i64 1, .int .i64 4], .agg #[.int .i64 1, .int .i64 2], .bool true, .int .i64 0]) ∧ Below w.heap.size w w' := pclip_is _ C sq 0 10 (-10) 5 5 30 5 5 (by decide) ⟨1, 4, 1, 2, true⟩ 0 (Or.inr ⟨bok_sq, v3_of (by decide), v3_of (by decide), by decide, rfl, clip_hit⟩) w h
theorem hcl_2 (h : SlS w (some ⟨g, 0, none⟩) sq) : Calls Try.prog 57 #[.agg #[.slice (some ⟨g, 0, none⟩) 4 C, .int .i64 0, .int .i64 10], .agg #[.int .i64 ((-10)), .int .i64 0, .int .i64 5], .agg #[.int .i64 30, .int .i64 0, .int .i64 5]] w fun e_ w' => e_ = .returned (.tuple #[.agg #[.int .i64 0, .int .i64 1], .agg #[.int .i64 0, .int .i64 1], .bool false, .int .i64 0]) ∧ Below w.heap.size w w' := pclip_is _ C sq 0 10 (-10) 0 5 30 0 5 (by decide) ⟨0, 1, 0, 1, false⟩ 0 (Or.inr ⟨bok_sq, v3_of (by decide), v3_of (by decide), by decide, rfl, clip_miss⟩) w h
theorem hmv_10 (h : SlS w (some ⟨g, 0, none⟩) sq) : Calls Try.prog 22 #[.agg #[.slice (some ⟨g, 0, none⟩) 4 C, .int .i64 0, .int .i64 10], .agg #[.int .i64 10, .int .i64 0, .int .i64 0]] w fun e_ w' => ∃ g' C', e_ = .returned (.tuple #[.agg #[.slice (some ⟨g', 0, none⟩) 4 C', .int .i64 0, .int .i64 10], .int .i64 0]) ∧ SlS w' (some ⟨g', 0, none⟩) sq10 ∧ Below w.heap.size w w' :=
  (pmove_is _ C sq 0 10 10 0 0 (by decide) 0 (Or.inr ⟨bok_sq, v3_of (by decide), Or.inl ⟨by rw [mv10]; exact bok_10, rfl⟩⟩) w h).mono fun e_ w' ⟨h1, _, hb⟩ => by
    obtain ⟨g', C', e, _, _, hs⟩ := h1 rfl
    rw [mv10] at hs
    exact ⟨g', C', e, hs, hb⟩
theorem hap_10 (k D : Nat) (h : SlS w (some ⟨g, 0, none⟩) sq) (h2 : SlS w (some ⟨k, 0, none⟩) sq10) : Calls Try.prog 58 #[.agg #[.slice (some ⟨g, 0, none⟩) 4 C, .int .i64 0, .int .i64 10], .agg #[.slice (some ⟨k, 0, none⟩) 4 D, .int .i64 0, .int .i64 10]] w fun e_ w' => e_ = .returned (.tuple #[.bool true, .int .i64 0]) ∧ Below w.heap.size w w' := papart_is _ _ C D sq sq10 0 10 0 10 (by decide) (by decide) true 0 (Or.inl ⟨bok_sq, bok_10, rfl, iff_of_true rfl apa_10⟩) w h h2
theorem hmv_9 (h : SlS w (some ⟨g, 0, none⟩) sq) : Calls Try.prog 22 #[.agg #[.slice (some ⟨g, 0, none⟩) 4 C, .int .i64 0, .int .i64 10], .agg #[.int .i64 9, .int .i64 0, .int .i64 0]] w fun e_ w' => ∃ g' C', e_ = .returned (.tuple #[.agg #[.slice (some ⟨g', 0, none⟩) 4 C', .int .i64 0, .int .i64 10], .int .i64 0]) ∧ SlS w' (some ⟨g', 0, none⟩) sq9 ∧ Below w.heap.size w w' :=
  (pmove_is _ C sq 0 10 9 0 0 (by decide) 0 (Or.inr ⟨bok_sq, v3_of (by decide), Or.inl ⟨by rw [mv9]; exact bok_9, rfl⟩⟩) w h).mono fun e_ w' ⟨h1, _, hb⟩ => by
    obtain ⟨g', C', e, _, _, hs⟩ := h1 rfl
    rw [mv9] at hs
    exact ⟨g', C', e, hs, hb⟩
theorem hap_9 (k D : Nat) (h : SlS w (some ⟨g, 0, none⟩) sq) (h2 : SlS w (some ⟨k, 0, none⟩) sq9) : Calls Try.prog 58 #[.agg #[.slice (some ⟨g, 0, none⟩) 4 C, .int .i64 0, .int .i64 10], .agg #[.slice (some ⟨k, 0, none⟩) 4 D, .int .i64 0, .int .i64 10]] w fun e_ w' => e_ = .returned (.tuple #[.bool false, .int .i64 0]) ∧ Below w.heap.size w w' := papart_is _ _ C D sq sq9 0 10 0 10 (by decide) (by decide) false 0 (Or.inl ⟨bok_sq, bok_9, rfl, iff_of_false (by decide) apa_9⟩) w h h2
theorem hval (h : SlS w (some ⟨g, 0, none⟩) sq) : Calls Try.prog 20 #[.agg #[.slice (some ⟨g, 0, none⟩) 4 C, .int .i64 0, .int .i64 10]] w fun e_ w' => e_ = .returned (.bool true) ∧ Below w.heap.size w w' := pvalid_is _ C sq 0 10 (by decide) true (iff_of_true rfl bok_sq) w h
end
theorem hnot (w : World) : Calls Try.prog 20 #[.agg #[.slice none 0 0, .int .i64 0, .int .i64 0]] w fun e_ w' => e_ = .returned (.bool false) ∧ Below w.heap.size w w' := pvalid_is none 0 [] 0 0 (by decide) false (iff_of_false (by decide) nobody) w (SlS.nil w none)
theorem hsame (g C k D : Nat) (w : World) (h : SlS w (some ⟨g, 0, none⟩) sq10) (h2 : SlS w (some ⟨k, 0, none⟩) sq10) : Calls Try.prog 59 #[.agg #[.slice (some ⟨g, 0, none⟩) 4 C, .int .i64 0, .int .i64 10], .agg #[.slice (some ⟨k, 0, none⟩) 4 D, .int .i64 0, .int .i64 10]] w fun e_ w' => e_ = .returned (.bool true) ∧ Below w.heap.size w w' := qsame_is _ _ C D sq10 sq10 0 10 0 10 (by decide) (by decide) true (iff_of_true rfl ⟨rfl, rfl, rfl⟩) w h h2
set_option maxRecDepth 100000 in
set_option maxHeartbeats 2000000 in
theorem head_any (w : World) :
    Calls Try.prog 23 #[] w fun e_ w' => e_ = .returned (.bool true) ∧ Below w.heap.size w w' := by
  have e1 := fun W => rat_eq (a := 1) (b := 4) (x := 1) (y := 4) (r := true) (by decide) W
  have e2 := fun W => rat_eq (a := 1) (b := 2) (x := 1) (y := 2) (r := true) (by decide) W
  have HB := Lib.hid (show Below w.heap.size w (w) from (Below.refl _ _))
  go_enter Try.func23, Try.ntmps23
  go_wp2_with fail
  with_reducible refine (block_0 _).mono ?_
  rintro e_ w1 ⟨g, rfl, hs, hb⟩
  have HB := Lib.hid hb
  clear hb
  have HS := Lib.hid hs
  clear hs
  go_wp2_with fail
  have b0 : World.cell? (w1.alloc (.cells #[.slice (some ⟨g, 0, none⟩) 4 4, .int .i64 0, .int .i64 10] 42)) ⟨w1.heap.size, 0, none⟩ = some (.slice (some ⟨g, 0, none⟩) 4 4) := by simp [go_sem]
  have b1 : World.cell? (w1.alloc (.cells #[.slice (some ⟨g, 0, none⟩) 4 4, .int .i64 0, .int .i64 10] 42)) ⟨w1.heap.size, 1, none⟩ = some (.int .i64 0) := by simp [go_sem]
  have b2 : World.cell? (w1.alloc (.cells #[.slice (some ⟨g, 0, none⟩) 4 4, .int .i64 0, .int .i64 10] 42)) ⟨w1.heap.size, 2, none⟩ = some (.int .i64 10) := by simp [go_sem]
  have lb : w1.heap.size < (w1.alloc (.cells #[.slice (some ⟨g, 0, none⟩) 4 4, .int .i64 0, .int .i64 10] 42)).heap.size := by simp
  have hb : Below w1.heap.size w1 (w1.alloc (.cells #[.slice (some ⟨g, 0, none⟩) 4 4, .int .i64 0, .int .i64 10] 42)) := below_new _ _
  generalize w1.alloc (.cells #[.slice (some ⟨g, 0, none⟩) 4 4, .int .i64 0, .int .i64 10] 42) = w2 at *
  replace HB := Lib.hid (on_below HB.out hb)
  replace HS := Lib.hid (HS.out.below hb)
  clear hb
  generalize w1.heap.size = gb at *
  with_reducible refine (hin_1 g 4 _ HS.out).mono ?_
  rintro e_ w3 ⟨rfl, hb⟩
  replace HB := Lib.hid (on_below HB.out hb)
  replace HS := Lib.hid (HS.out.below hb)
  replace b0 := keepc hb b0
  replace b1 := keepc hb b1
  replace b2 := keepc hb b2
  replace lb := Nat.lt_of_lt_of_le lb hb.size
  clear hb
  go_wp2_with fail
  with_reducible refine (hin_2 g 4 _ HS.out).mono ?_
  rintro e_ w4 ⟨rfl, hb⟩
  replace HB := Lib.hid (on_below HB.out hb)
  replace HS := Lib.hid (HS.out.below hb)
  replace b0 := keepc hb b0
  replace b1 := keepc hb b1
  replace b2 := keepc hb b2
  replace lb := Nat.lt_of_lt_of_le lb hb.size
  clear hb
  go_wp2_with fail
  with_reducible refine (hcl_1 g 4 _ HS.out).mono ?_
  rintro e_ w5 ⟨rfl, hb⟩
  replace HB := Lib.hid (on_below HB.out hb)
  replace HS := Lib.hid (HS.out.below hb)
  replace b0 := keepc hb b0
  replace b1 := keepc hb b1
  replace b2 := keepc hb b2
  replace lb := Nat.lt_of_lt_of_le lb hb.size
  clear hb
  go_wp2_with fail
  have lo0 : World.cell? (w5.alloc (.cells #[.int .i64 1, .int .i64 4] 39)) ⟨w5.heap.size, 0, none⟩ = some (.int .i64 1) := by simp [go_sem]
  have lo1 : World.cell? (w5.alloc (.cells #[.int .i64 1, .int .i64 4] 39)) ⟨w5.heap.size, 1, none⟩ = some (.int .i64 4) := by simp [go_sem]
  have llo : w5.heap.size < (w5.alloc (.cells #[.int .i64 1, .int .i64 4] 39)).heap.size := by simp
  have zlo : (w5.alloc (.cells #[.int .i64 1, .int .i64 4] 39)).heap.size = w5.heap.size + 1 := by simp
  have hb : Below w5.heap.size w5 (w5.alloc (.cells #[.int .i64 1, .int .i64 4] 39)) := below_new _ _
  generalize w5.alloc (.cells #[.int .i64 1, .int .i64 4] 39) = w6 at *
  replace HB := Lib.hid (on_below HB.out hb)
  replace HS := Lib.hid (HS.out.below hb)
  replace b0 := keepc hb b0
  replace b1 := keepc hb b1
  replace b2 := keepc hb b2
  replace lb := Nat.lt_of_lt_of_le lb hb.size
  clear hb
  generalize w5.heap.size = glo at *
  have hi0 : World.cell? (w6.alloc (.cells #[.int .i64 1, .int .i64 2] 39)) ⟨glo + 1, 0, none⟩ = some (.int .i64 1) := by rw [← zlo]; simp [go_sem]
  have hi1 : World.cell? (w6.alloc (.cells #[.int .i64 1, .int .i64 2] 39)) ⟨glo + 1, 1, none⟩ = some (.int .i64 2) := by rw [← zlo]; simp [go_sem]
  have lhi : glo + 1 < (w6.alloc (.cells #[.int .i64 1, .int .i64 2] 39)).heap.size := by rw [← zlo]; simp
  have hb : Below w6.heap.size w6 (w6.alloc (.cells #[.int .i64 1, .int .i64 2] 39)) := below_new _ _
  generalize w6.alloc (.cells #[.int .i64 1, .int .i64 2] 39) = w7 at *
  replace HB := Lib.hid (on_below HB.out hb)
  replace HS := Lib.hid (HS.out.below hb)
  replace b0 := keepc hb b0
  replace b1 := keepc hb b1
  replace b2 := keepc hb b2
  replace lo0 := keepc hb lo0
  replace lo1 := keepc hb lo1
  replace lb := Nat.lt_of_lt_of_le lb hb.size
  replace llo := Nat.lt_of_lt_of_le llo hb.size
  clear hb
  clear zlo
  have nhi : glo < glo + 1 := Nat.lt_succ_self _
  generalize glo + 1 = ghi at *
  with_reducible refine (hcl_2 g 4 _ HS.out).mono ?_
  rintro e_ w8 ⟨rfl, hb⟩
  replace HB := Lib.hid (on_below HB.out hb)
  replace HS := Lib.hid (HS.out.below hb)
  replace b0 := keepc hb b0
  replace b1 := keepc hb b1
  replace b2 := keepc hb b2
  replace lo0 := keepc hb lo0
  replace lo1 := keepc hb lo1
  replace hi0 := keepc hb hi0
  replace hi1 := keepc hb hi1
  replace lb := Nat.lt_of_lt_of_le lb hb.size
  replace llo := Nat.lt_of_lt_of_le llo hb.size
  replace lhi := Nat.lt_of_lt_of_le lhi hb.size
  clear hb
  go_wp2_with fail
  have za0 : World.cell? (w8.alloc (.cells #[.int .i64 0, .int .i64 1] 39)) ⟨w8.heap.size, 0, none⟩ = some (.int .i64 0) := by simp [go_sem]
  have za1 : World.cell? (w8.alloc (.cells #[.int .i64 0, .int .i64 1] 39)) ⟨w8.heap.size, 1, none⟩ = some (.int .i64 1) := by simp [go_sem]
  have lza : w8.heap.size < (w8.alloc (.cells #[.int .i64 0, .int .i64 1] 39)).heap.size := by simp
  have zza : (w8.alloc (.cells #[.int .i64 0, .int .i64 1] 39)).heap.size = w8.heap.size + 1 := by simp
  have hb : Below w8.heap.size w8 (w8.alloc (.cells #[.int .i64 0, .int .i64 1] 39)) := below_new _ _
  generalize w8.alloc (.cells #[.int .i64 0, .int .i64 1] 39) = w9 at *
  replace HB := Lib.hid (on_below HB.out hb)
  replace HS := Lib.hid (HS.out.below hb)
  replace b0 := keepc hb b0
  replace b1 := keepc hb b1
  replace b2 := keepc hb b2
  replace lo0 := keepc hb lo0
  replace lo1 := keepc hb lo1
  replace hi0 := keepc hb hi0
  replace hi1 := keepc hb hi1
  replace lb := Nat.lt_of_lt_of_le lb hb.size
  replace llo := Nat.lt_of_lt_of_le llo hb.size
  replace lhi := Nat.lt_of_lt_of_le lhi hb.size
  clear hb
  generalize w8.heap.size = gza at *
  have zb0 : World.cell? (w9.alloc (.cells #[.int .i64 0, .int .i64 1] 39)) ⟨gza + 1, 0, none⟩ = some (.int .i64 0) := by rw [← zza]; simp [go_sem]
  have zb1 : World.cell? (w9.alloc (.cells #[.int .i64 0, .int .i64 1] 39)) ⟨gza + 1, 1, none⟩ = some (.int .i64 1) := by rw [← zza]; simp [go_sem]
  have lzb : gza + 1 < (w9.alloc (.cells #[.int .i64 0, .int .i64 1] 39)).heap.size := by rw [← zza]; simp
  have hb : Below w9.heap.size w9 (w9.alloc (.cells #[.int .i64 0, .int .i64 1] 39)) := below_new _ _
  generalize w9.alloc (.cells #[.int .i64 0, .int .i64 1] 39) = w10 at *
  replace HB := Lib.hid (on_below HB.out hb)
  replace HS := Lib.hid (HS.out.below hb)
  replace b0 := keepc hb b0
  replace b1 := keepc hb b1
  replace b2 := keepc hb b2
  replace lo0 := keepc hb lo0
  replace lo1 := keepc hb lo1
  replace hi0 := keepc hb hi0
  replace hi1 := keepc hb hi1
  replace za0 := keepc hb za0
  replace za1 := keepc hb za1
  replace lb := Nat.lt_of_lt_of_le lb hb.size
  replace llo := Nat.lt_of_lt_of_le llo hb.size
  replace lhi := Nat.lt_of_lt_of_le lhi hb.size
  replace lza := Nat.lt_of_lt_of_le lza hb.size
  clear hb
  clear zza
  have nzb : gza < gza + 1 := Nat.lt_succ_self _
  generalize gza + 1 = gzb at *
  clear za0 za1 lza zb0 zb1 lzb
  with_reducible refine (hmv_10 g 4 _ HS.out).mono ?_
  rintro e_ w11 ⟨k, D, rfl, hs, hb⟩
  replace HB := Lib.hid (on_below HB.out hb)
  replace HS := Lib.hid (HS.out.below hb)
  replace b0 := keepc hb b0
  replace b1 := keepc hb b1
  replace b2 := keepc hb b2
  replace lo0 := keepc hb lo0
  replace lo1 := keepc hb lo1
  replace hi0 := keepc hb hi0
  replace hi1 := keepc hb hi1
  replace lb := Nat.lt_of_lt_of_le lb hb.size
  replace llo := Nat.lt_of_lt_of_le llo hb.size
  replace lhi := Nat.lt_of_lt_of_le lhi hb.size
  clear hb
  have HT := Lib.hid hs
  clear hs
  go_wp2_with fail
  have c0 : World.cell? (w11.alloc (.cells #[.slice (some ⟨k, 0, none⟩) 4 D, .int .i64 0, .int .i64 10] 42)) ⟨w11.heap.size, 0, none⟩ = some (.slice (some ⟨k, 0, none⟩) 4 D) := by simp [go_sem]
  have c1 : World.cell? (w11.alloc (.cells #[.slice (some ⟨k, 0, none⟩) 4 D, .int .i64 0, .int .i64 10] 42)) ⟨w11.heap.size, 1, none⟩ = some (.int .i64 0) := by simp [go_sem]
  have c2 : World.cell? (w11.alloc (.cells #[.slice (some ⟨k, 0, none⟩) 4 D, .int .i64 0, .int .i64 10] 42)) ⟨w11.heap.size, 2, none⟩ = some (.int .i64 10) := by simp [go_sem]
  have lc : w11.heap.size < (w11.alloc (.cells #[.slice (some ⟨k, 0, none⟩) 4 D, .int .i64 0, .int .i64 10] 42)).heap.size := by simp
  have hb : Below w11.heap.size w11 (w11.alloc (.cells #[.slice (some ⟨k, 0, none⟩) 4 D, .int .i64 0, .int .i64 10] 42)) := below_new _ _
  generalize w11.alloc (.cells #[.slice (some ⟨k, 0, none⟩) 4 D, .int .i64 0, .int .i64 10] 42) = w12 at *
  replace HB := Lib.hid (on_below HB.out hb)
  replace HS := Lib.hid (HS.out.below hb)
  replace HT := Lib.hid (HT.out.below hb)
  replace b0 := keepc hb b0
  replace b1 := keepc hb b1
  replace b2 := keepc hb b2
  replace lo0 := keepc hb lo0
  replace lo1 := keepc hb lo1
  replace hi0 := keepc hb hi0
  replace hi1 := keepc hb hi1
  replace lb := Nat.lt_of_lt_of_le lb hb.size
  replace llo := Nat.lt_of_lt_of_le llo hb.size
  replace lhi := Nat.lt_of_lt_of_le lhi hb.size
  clear hb
  generalize w11.heap.size = gc at *
  with_reducible refine (hmv_9 g 4 _ HS.out).mono ?_
  rintro e_ w13 ⟨m, E, rfl, hs, hb⟩
  replace HB := Lib.hid (on_below HB.out hb)
  replace HS := Lib.hid (HS.out.below hb)
  replace HT := Lib.hid (HT.out.below hb)
  replace b0 := keepc hb b0
  replace b1 := keepc hb b1
  replace b2 := keepc hb b2
  replace lo0 := keepc hb lo0
  replace lo1 := keepc hb lo1
  replace hi0 := keepc hb hi0
  replace hi1 := keepc hb hi1
  replace c0 := keepc hb c0
  replace c1 := keepc hb c1
  replace c2 := keepc hb c2
  replace lb := Nat.lt_of_lt_of_le lb hb.size
  replace llo := Nat.lt_of_lt_of_le llo hb.size
  replace lhi := Nat.lt_of_lt_of_le lhi hb.size
  replace lc := Nat.lt_of_lt_of_le lc hb.size
  clear hb
  have HU := Lib.hid hs
  clear hs
  go_wp2_with fail
  have d0 : World.cell? (w13.alloc (.cells #[.slice (some ⟨m, 0, none⟩) 4 E, .int .i64 0, .int .i64 10] 42)) ⟨w13.heap.size, 0, none⟩ = some (.slice (some ⟨m, 0, none⟩) 4 E) := by simp [go_sem]
  have d1 : World.cell? (w13.alloc (.cells #[.slice (some ⟨m, 0, none⟩) 4 E, .int .i64 0, .int .i64 10] 42)) ⟨w13.heap.size, 1, none⟩ = some (.int .i64 0) := by simp [go_sem]
  have d2 : World.cell? (w13.alloc (.cells #[.slice (some ⟨m, 0, none⟩) 4 E, .int .i64 0, .int .i64 10] 42)) ⟨w13.heap.size, 2, none⟩ = some (.int .i64 10) := by simp [go_sem]
  have ld : w13.heap.size < (w13.alloc (.cells #[.slice (some ⟨m, 0, none⟩) 4 E, .int .i64 0, .int .i64 10] 42)).heap.size := by simp
  have hb : Below w13.heap.size w13 (w13.alloc (.cells #[.slice (some ⟨m, 0, none⟩) 4 E, .int .i64 0, .int .i64 10] 42)) := below_new _ _
  generalize w13.alloc (.cells #[.slice (some ⟨m, 0, none⟩) 4 E, .int .i64 0, .int .i64 10] 42) = w14 at *
  replace HB := Lib.hid (on_below HB.out hb)
  replace HS := Lib.hid (HS.out.below hb)
  replace HT := Lib.hid (HT.out.below hb)
  replace HU := Lib.hid (HU.out.below hb)
  replace b0 := keepc hb b0
  replace b1 := keepc hb b1
  replace b2 := keepc hb b2
  replace lo0 := keepc hb lo0
  replace lo1 := keepc hb lo1
  replace hi0 := keepc hb hi0
  replace hi1 := keepc hb hi1
  replace c0 := keepc hb c0
  replace c1 := keepc hb c1
  replace c2 := keepc hb c2
  replace lb := Nat.lt_of_lt_of_le lb hb.size
  replace llo := Nat.lt_of_lt_of_le llo hb.size
  replace lhi := Nat.lt_of_lt_of_le lhi hb.size
  replace lc := Nat.lt_of_lt_of_le lc hb.size
  clear hb
  generalize w13.heap.size = gd at *
  with_reducible refine (hap_10 g 4 _ k D HS.out HT.out).mono ?_
  rintro e_ w15 ⟨rfl, hb⟩
  replace HB := Lib.hid (on_below HB.out hb)
  replace HS := Lib.hid (HS.out.below hb)
  replace HT := Lib.hid (HT.out.below hb)
  replace HU := Lib.hid (HU.out.below hb)
  replace b0 := keepc hb b0
  replace b1 := keepc hb b1
  replace b2 := keepc hb b2
  replace lo0 := keepc hb lo0
  replace lo1 := keepc hb lo1
  replace hi0 := keepc hb hi0
  replace hi1 := keepc hb hi1
  replace c0 := keepc hb c0
  replace c1 := keepc hb c1
  replace c2 := keepc hb c2
  replace d0 := keepc hb d0
  replace d1 := keepc hb d1
  replace d2 := keepc hb d2
  replace lb := Nat.lt_of_lt_of_le lb hb.size
  replace llo := Nat.lt_of_lt_of_le llo hb.size
  replace lhi := Nat.lt_of_lt_of_le lhi hb.size
  replace lc := Nat.lt_of_lt_of_le lc hb.size
  replace ld := Nat.lt_of_lt_of_le ld hb.size
  clear hb
  go_wp2_with fail
  with_reducible refine (hap_9 g 4 _ m E HS.out HU.out).mono ?_
  rintro e_ w16 ⟨rfl, hb⟩
  replace HB := Lib.hid (on_below HB.out hb)
  replace HS := Lib.hid (HS.out.below hb)
  replace HT := Lib.hid (HT.out.below hb)
  replace HU := Lib.hid (HU.out.below hb)
  replace b0 := keepc hb b0
  replace b1 := keepc hb b1
  replace b2 := keepc hb b2
  replace lo0 := keepc hb lo0
  replace lo1 := keepc hb lo1
  replace hi0 := keepc hb hi0
  replace hi1 := keepc hb hi1
  replace c0 := keepc hb c0
  replace c1 := keepc hb c1
  replace c2 := keepc hb c2
  replace d0 := keepc hb d0
  replace d1 := keepc hb d1
  replace d2 := keepc hb d2
  replace lb := Nat.lt_of_lt_of_le lb hb.size
  replace llo := Nat.lt_of_lt_of_le llo hb.size
  replace lhi := Nat.lt_of_lt_of_le lhi hb.size
  replace lc := Nat.lt_of_lt_of_le lc hb.size
  replace ld := Nat.lt_of_lt_of_le ld hb.size
  clear hb
  go_wp2_with fail
  have sc : ∀ {V : World}, Below w16.heap.size w16 V → V.cell? ⟨gb, 0, none⟩ = some (.slice (some ⟨g, 0, none⟩) 4 4) ∧ V.cell? ⟨gb, 1, none⟩ = some (.int .i64 0) ∧ V.cell? ⟨gb, 2, none⟩ = some (.int .i64 10) ∧ V.cell? ⟨glo, 0, none⟩ = some (.int .i64 1) ∧ V.cell? ⟨glo, 1, none⟩ = some (.int .i64 4) ∧ V.cell? ⟨ghi, 0, none⟩ = some (.int .i64 1) ∧ V.cell? ⟨ghi, 1, none⟩ = some (.int .i64 2) ∧ V.cell? ⟨gc, 0, none⟩ = some (.slice (some ⟨k, 0, none⟩) 4 D) ∧ V.cell? ⟨gc, 1, none⟩ = some (.int .i64 0) ∧ V.cell? ⟨gc, 2, none⟩ = some (.int .i64 10) := fun h => ⟨keepc h b0, keepc h b1, keepc h b2, keepc h lo0, keepc h lo1, keepc h hi0, keepc h hi1, keepc h c0, keepc h c1, keepc h c2⟩
  refine wp_region_held_drew (S := fun V => V.cell? ⟨gb, 0, none⟩ = some (.slice (some ⟨g, 0, none⟩) 4 4) ∧ V.cell? ⟨gb, 1, none⟩ = some (.int .i64 0) ∧ V.cell? ⟨gb, 2, none⟩ = some (.int .i64 10) ∧ V.cell? ⟨glo, 0, none⟩ = some (.int .i64 1) ∧ V.cell? ⟨glo, 1, none⟩ = some (.int .i64 4) ∧ V.cell? ⟨ghi, 0, none⟩ = some (.int .i64 1) ∧ V.cell? ⟨ghi, 1, none⟩ = some (.int .i64 2) ∧ V.cell? ⟨gc, 0, none⟩ = some (.slice (some ⟨k, 0, none⟩) 4 D) ∧ V.cell? ⟨gc, 1, none⟩ = some (.int .i64 0) ∧ V.cell? ⟨gc, 2, none⟩ = some (.int .i64 10)) (by kernel_rfl) (sc (Below.refl _ _).drew) fun HL_ => ?_
  have hb0 : Below w16.heap.size w16 w16.drew := (Below.refl _ _).drew
  clear b0 b1 b2 lo0 lo1 hi0 hi1 c0 c1 c2 d0 d1 d2
  refine wpAnyH_take (i := 0) (v := .bool true) rfl (by kernel_rfl) (by kernel_rfl) (by kernel_rfl) (fun _ _ _ h => h) (Or.inl ⟨by kernel_rfl, ?_⟩) HL_ ?_
  · rintro Wl ⟨s0, s1, s2, s3, s4, s5, s6, s7, s8, s9⟩
    go_simp
  simp only [Act.put, List.getElem_toArray, List.getElem_cons_succ, List.getElem_cons_zero, List.setIfInBounds_toArray, List.set_cons_zero, List.set_cons_succ]
  refine wpAnyH_take (i := 1) (v := .bool true) rfl (by kernel_rfl) (by kernel_rfl) (by kernel_rfl) (fun _ _ _ h => h) (Or.inl ⟨by kernel_rfl, ?_⟩) HL_ ?_
  · rintro Wl ⟨s0, s1, s2, s3, s4, s5, s6, s7, s8, s9⟩
    go_simp
  simp only [Act.put, List.getElem_toArray, List.getElem_cons_succ, List.getElem_cons_zero, List.setIfInBounds_toArray, List.set_cons_zero, List.set_cons_succ]
  refine wpAnyH_take (i := 2) (v := .bool true) rfl (by kernel_rfl) (by kernel_rfl) (by kernel_rfl) (fun _ _ _ h => h) (Or.inl ⟨by kernel_rfl, ?_⟩) HL_ ?_
  · rintro Wl ⟨s0, s1, s2, s3, s4, s5, s6, s7, s8, s9⟩
    go_simp
  simp only [Act.put, List.getElem_toArray, List.getElem_cons_succ, List.getElem_cons_zero, List.setIfInBounds_toArray, List.set_cons_zero, List.set_cons_succ]
  refine wpAnyH_take (i := 3) (v := .bool true) rfl (by kernel_rfl) (by kernel_rfl) (by kernel_rfl) (fun _ _ _ h => h) (Or.inl ⟨by kernel_rfl, ?_⟩) HL_ ?_
  · rintro Wl ⟨s0, s1, s2, s3, s4, s5, s6, s7, s8, s9⟩
    go_simp
  simp only [Act.put, List.getElem_toArray, List.getElem_cons_succ, List.getElem_cons_zero, List.setIfInBounds_toArray, List.set_cons_zero, List.set_cons_succ]
  refine wpAnyH_take (i := 4) (v := .bool true) rfl (by kernel_rfl) (by kernel_rfl) (by kernel_rfl) (fun _ _ _ h => h) (Or.inl ⟨by kernel_rfl, ?_⟩) HL_ ?_
  · rintro Wl ⟨s0, s1, s2, s3, s4, s5, s6, s7, s8, s9⟩
    go_simp
  simp only [Act.put, List.getElem_toArray, List.getElem_cons_succ, List.getElem_cons_zero, List.setIfInBounds_toArray, List.set_cons_zero, List.set_cons_succ]
  refine wpAnyH_take (i := 5) (v := .bool false) rfl (by kernel_rfl) (by kernel_rfl) (by kernel_rfl) (fun _ _ _ h => h) (Or.inl ⟨by kernel_rfl, ?_⟩) HL_ ?_
  · rintro Wl ⟨s0, s1, s2, s3, s4, s5, s6, s7, s8, s9⟩
    go_simp
  simp only [Act.put, List.getElem_toArray, List.getElem_cons_succ, List.getElem_cons_zero, List.setIfInBounds_toArray, List.set_cons_zero, List.set_cons_succ]
  refine wpAnyH_take (i := 6) (v := .bool true) rfl (by kernel_rfl) (by kernel_rfl) (by kernel_rfl) (fun _ _ _ h => h) (Or.inl ⟨by kernel_rfl, ?_⟩) HL_ ?_
  · rintro Wl ⟨s0, s1, s2, s3, s4, s5, s6, s7, s8, s9⟩
    go_simp
  simp only [Act.put, List.getElem_toArray, List.getElem_cons_succ, List.getElem_cons_zero, List.setIfInBounds_toArray, List.set_cons_zero, List.set_cons_succ]
  refine wpAnyH_take (i := 7) (v := .bool true) rfl (by kernel_rfl) (by kernel_rfl) (by kernel_rfl) (fun _ _ _ h => h) (Or.inl ⟨by kernel_rfl, ?_⟩) HL_ ?_
  · rintro Wl ⟨s0, s1, s2, s3, s4, s5, s6, s7, s8, s9⟩
    go_simp
  simp only [Act.put, List.getElem_toArray, List.getElem_cons_succ, List.getElem_cons_zero, List.setIfInBounds_toArray, List.set_cons_zero, List.set_cons_succ]
  refine wpAnyH_take (i := 8) (v := .bool true) rfl (by kernel_rfl) (by kernel_rfl) (by kernel_rfl) (fun _ _ _ h => h) (Or.inl ⟨by kernel_rfl, ?_⟩) HL_ ?_
  · rintro Wl ⟨s0, s1, s2, s3, s4, s5, s6, s7, s8, s9⟩
    go_simp
  simp only [Act.put, List.getElem_toArray, List.getElem_cons_succ, List.getElem_cons_zero, List.setIfInBounds_toArray, List.set_cons_zero, List.set_cons_succ]
  refine wpAnyH_take (i := 9) (v := .bool true) rfl (by kernel_rfl) (by kernel_rfl) (by kernel_rfl) (fun _ _ _ h => h) (Or.inl ⟨by kernel_rfl, ?_⟩) HL_ ?_
  · rintro Wl ⟨s0, s1, s2, s3, s4, s5, s6, s7, s8, s9⟩
    go_simp
  simp only [Act.put, List.getElem_toArray, List.getElem_cons_succ, List.getElem_cons_zero, List.setIfInBounds_toArray, List.set_cons_zero, List.set_cons_succ]
  refine wpAnyH_take (i := 10) (v := .bool true) rfl (by kernel_rfl) (by kernel_rfl) (by kernel_rfl) (fun _ _ _ h => h) (Or.inl ⟨by kernel_rfl, ?_⟩) HL_ ?_
  · rintro Wl ⟨s0, s1, s2, s3, s4, s5, s6, s7, s8, s9⟩
    go_simp
  simp only [Act.put, List.getElem_toArray, List.getElem_cons_succ, List.getElem_cons_zero, List.setIfInBounds_toArray, List.set_cons_zero, List.set_cons_succ]
  refine wpAnyH_take (i := 11) (v := .bool true) rfl (by kernel_rfl) (by kernel_rfl) (by kernel_rfl) (fun _ _ _ h => h) (Or.inl ⟨by kernel_rfl, ?_⟩) HL_ ?_
  · rintro Wl ⟨s0, s1, s2, s3, s4, s5, s6, s7, s8, s9⟩
    go_simp
  simp only [Act.put, List.getElem_toArray, List.getElem_cons_succ, List.getElem_cons_zero, List.setIfInBounds_toArray, List.set_cons_zero, List.set_cons_succ]
  refine wpAnyH_take (i := 12) (v := .agg #[.int .i64 1, .int .i64 4]) rfl (by kernel_rfl) (by kernel_rfl) (by kernel_rfl) (fun _ _ _ h => h) (Or.inl ⟨by kernel_rfl, ?_⟩) HL_ ?_
  · rintro Wl ⟨s0, s1, s2, s3, s4, s5, s6, s7, s8, s9⟩
    go_simp
  simp only [Act.put, List.getElem_toArray, List.getElem_cons_succ, List.getElem_cons_zero, List.setIfInBounds_toArray, List.set_cons_zero, List.set_cons_succ]
  refine wpAnyH_take (i := 13) (v := .agg #[.int .i64 1, .int .i64 4]) rfl (by kernel_rfl) (by kernel_rfl) (by kernel_rfl) (fun _ _ _ h => h) (Or.inl ⟨by kernel_rfl, ?_⟩) HL_ ?_
  · rintro Wl ⟨s0, s1, s2, s3, s4, s5, s6, s7, s8, s9⟩
    go_simp
  simp only [Act.put, List.getElem_toArray, List.getElem_cons_succ, List.getElem_cons_zero, List.setIfInBounds_toArray, List.set_cons_zero, List.set_cons_succ]
  refine wpAnyH_take (i := 14) (v := .bool true) rfl (by kernel_rfl) (by kernel_rfl) (by kernel_rfl) (fun _ _ _ h => h) (Or.inl ⟨by kernel_rfl, ?_⟩) HL_ ?_
  · rintro Wl ⟨s0, s1, s2, s3, s4, s5, s6, s7, s8, s9⟩
    go_simp
  simp only [Act.put, List.getElem_toArray, List.getElem_cons_succ, List.getElem_cons_zero, List.setIfInBounds_toArray, List.set_cons_zero, List.set_cons_succ]
  refine wpAnyH_take (i := 15) (v := .bool true) rfl (by kernel_rfl) (by kernel_rfl) (by kernel_rfl) (fun _ _ _ h => h) (Or.inl ⟨by kernel_rfl, ?_⟩) HL_ ?_
  · rintro Wl ⟨s0, s1, s2, s3, s4, s5, s6, s7, s8, s9⟩
    go_simp
  simp only [Act.put, List.getElem_toArray, List.getElem_cons_succ, List.getElem_cons_zero, List.setIfInBounds_toArray, List.set_cons_zero, List.set_cons_succ]
  refine wpAnyH_take (i := 16) (v := .bool true) rfl (by kernel_rfl) (by kernel_rfl) (by kernel_rfl) (fun _ _ _ h => h) (Or.inl ⟨by kernel_rfl, ?_⟩) HL_ ?_
  · rintro Wl ⟨s0, s1, s2, s3, s4, s5, s6, s7, s8, s9⟩
    go_simp
  simp only [Act.put, List.getElem_toArray, List.getElem_cons_succ, List.getElem_cons_zero, List.setIfInBounds_toArray, List.set_cons_zero, List.set_cons_succ]
  refine wpAnyH_take (i := 17) (v := .agg #[.int .i64 1, .int .i64 2]) rfl (by kernel_rfl) (by kernel_rfl) (by kernel_rfl) (fun _ _ _ h => h) (Or.inl ⟨by kernel_rfl, ?_⟩) HL_ ?_
  · rintro Wl ⟨s0, s1, s2, s3, s4, s5, s6, s7, s8, s9⟩
    go_simp
  simp only [Act.put, List.getElem_toArray, List.getElem_cons_succ, List.getElem_cons_zero, List.setIfInBounds_toArray, List.set_cons_zero, List.set_cons_succ]
  refine wpAnyH_take (i := 18) (v := .agg #[.int .i64 1, .int .i64 2]) rfl (by kernel_rfl) (by kernel_rfl) (by kernel_rfl) (fun _ _ _ h => h) (Or.inl ⟨by kernel_rfl, ?_⟩) HL_ ?_
  · rintro Wl ⟨s0, s1, s2, s3, s4, s5, s6, s7, s8, s9⟩
    go_simp
  simp only [Act.put, List.getElem_toArray, List.getElem_cons_succ, List.getElem_cons_zero, List.setIfInBounds_toArray, List.set_cons_zero, List.set_cons_succ]
  refine wpAnyH_take (i := 19) (v := .bool true) rfl (by kernel_rfl) (by kernel_rfl) (by kernel_rfl) (fun _ _ _ h => h) (Or.inl ⟨by kernel_rfl, ?_⟩) HL_ ?_
  · rintro Wl ⟨s0, s1, s2, s3, s4, s5, s6, s7, s8, s9⟩
    go_simp
  simp only [Act.put, List.getElem_toArray, List.getElem_cons_succ, List.getElem_cons_zero, List.setIfInBounds_toArray, List.set_cons_zero, List.set_cons_succ]
  refine wpAnyH_take (i := 20) (v := .bool true) rfl (by kernel_rfl) (by kernel_rfl) (by kernel_rfl) (fun _ _ _ h => h) (Or.inl ⟨by kernel_rfl, ?_⟩) HL_ ?_
  · rintro Wl ⟨s0, s1, s2, s3, s4, s5, s6, s7, s8, s9⟩
    go_simp
  simp only [Act.put, List.getElem_toArray, List.getElem_cons_succ, List.getElem_cons_zero, List.setIfInBounds_toArray, List.set_cons_zero, List.set_cons_succ]
  refine wpAnyH_take (i := 21) (v := .bool true) rfl (by kernel_rfl) (by kernel_rfl) (by kernel_rfl) (fun _ _ _ h => h) (Or.inl ⟨by kernel_rfl, ?_⟩) HL_ ?_
  · rintro Wl ⟨s0, s1, s2, s3, s4, s5, s6, s7, s8, s9⟩
    go_simp
  simp only [Act.put, List.getElem_toArray, List.getElem_cons_succ, List.getElem_cons_zero, List.setIfInBounds_toArray, List.set_cons_zero, List.set_cons_succ]
  refine wpAnyH_take (i := 22) (v := .bool false) rfl (by kernel_rfl) (by kernel_rfl) (by kernel_rfl) (fun _ _ _ h => h) (Or.inl ⟨by kernel_rfl, ?_⟩) HL_ ?_
  · rintro Wl ⟨s0, s1, s2, s3, s4, s5, s6, s7, s8, s9⟩
    go_simp
  simp only [Act.put, List.getElem_toArray, List.getElem_cons_succ, List.getElem_cons_zero, List.setIfInBounds_toArray, List.set_cons_zero, List.set_cons_succ]
  refine wpAnyH_take (i := 23) (v := .bool true) rfl (by kernel_rfl) (by kernel_rfl) (by kernel_rfl) (fun _ _ _ h => h) (Or.inl ⟨by kernel_rfl, ?_⟩) HL_ ?_
  · rintro Wl ⟨s0, s1, s2, s3, s4, s5, s6, s7, s8, s9⟩
    go_simp
  simp only [Act.put, List.getElem_toArray, List.getElem_cons_succ, List.getElem_cons_zero, List.setIfInBounds_toArray, List.set_cons_zero, List.set_cons_succ]
  refine wpAnyH_take (i := 24) (v := .bool true) rfl (by kernel_rfl) (by kernel_rfl) (by kernel_rfl) (fun _ _ _ h => h) (Or.inl ⟨by kernel_rfl, ?_⟩) HL_ ?_
  · rintro Wl ⟨s0, s1, s2, s3, s4, s5, s6, s7, s8, s9⟩
    go_simp
  simp only [Act.put, List.getElem_toArray, List.getElem_cons_succ, List.getElem_cons_zero, List.setIfInBounds_toArray, List.set_cons_zero, List.set_cons_succ]
  refine wpAnyH_take (i := 25) (v := .bool true) rfl (by kernel_rfl) (by kernel_rfl) (by kernel_rfl) (fun _ _ _ h => h) (Or.inl ⟨by kernel_rfl, ?_⟩) HL_ ?_
  · rintro Wl ⟨s0, s1, s2, s3, s4, s5, s6, s7, s8, s9⟩
    go_simp
  simp only [Act.put, List.getElem_toArray, List.getElem_cons_succ, List.getElem_cons_zero, List.setIfInBounds_toArray, List.set_cons_zero, List.set_cons_succ]
  refine wpAnyH_take (i := 26) (v := .agg #[.slice (some ⟨k, 0, none⟩) 4 D, .int .i64 0, .int .i64 10]) rfl (by kernel_rfl) (by kernel_rfl) (by kernel_rfl) (fun _ _ _ h => h) (Or.inl ⟨by kernel_rfl, ?_⟩) HL_ ?_
  · rintro Wl ⟨s0, s1, s2, s3, s4, s5, s6, s7, s8, s9⟩
    go_simp
  simp only [Act.put, List.getElem_toArray, List.getElem_cons_succ, List.getElem_cons_zero, List.setIfInBounds_toArray, List.set_cons_zero, List.set_cons_succ]
  refine wpAnyH_ready (rs := [27]) (by kernel_rfl) (by simp) ?_
  refine AllReadyH.cons (o := _) rfl (fun K hK => ?_) AllReadyH.nil
  go_simp
  with_reducible refine (block_10 _).mono ?_
  rintro e_ x1 ⟨j, rfl, hs, hb⟩
  replace hb0 := on_below hb0 hb
  have HV := Lib.hid hs
  clear hs
  clear hb
  refine hK.out _ _ (sc hb0) fun HL_ => ?_
  clear hK K
  refine wpAnyH_ready (rs := [28]) (by kernel_rfl) (by simp) ?_
  refine AllReadyH.cons (o := _) rfl (fun K hK => ?_) AllReadyH.nil
  go_simp
  with_reducible refine (hsame k D j 4 _ (HT.out.below hb0) HV.out).mono ?_
  rintro e_ x2 ⟨rfl, hb⟩
  replace hb0 := on_below hb0 hb
  clear HV HT
  clear hb
  refine hK.out _ _ (sc hb0) fun HL_ => ?_
  clear hK K
  refine wpAnyH_take (i := 29) (v := .bool true) rfl (by kernel_rfl) (by kernel_rfl) (by kernel_rfl) (fun _ _ _ h => h) (Or.inl ⟨by kernel_rfl, ?_⟩) HL_ ?_
  · rintro Wl ⟨s0, s1, s2, s3, s4, s5, s6, s7, s8, s9⟩
    go_simp
  simp only [Act.put, List.getElem_toArray, List.getElem_cons_succ, List.getElem_cons_zero, List.setIfInBounds_toArray, List.set_cons_zero, List.set_cons_succ]
  refine wpAnyH_take (i := 30) (v := .bool true) rfl (by kernel_rfl) (by kernel_rfl) (by kernel_rfl) (fun _ _ _ h => h) (Or.inl ⟨by kernel_rfl, ?_⟩) HL_ ?_
  · rintro Wl ⟨s0, s1, s2, s3, s4, s5, s6, s7, s8, s9⟩
    go_simp
  simp only [Act.put, List.getElem_toArray, List.getElem_cons_succ, List.getElem_cons_zero, List.setIfInBounds_toArray, List.set_cons_zero, List.set_cons_succ]
  refine wpAnyH_take (i := 31) (v := .bool true) rfl (by kernel_rfl) (by kernel_rfl) (by kernel_rfl) (fun _ _ _ h => h) (Or.inl ⟨by kernel_rfl, ?_⟩) HL_ ?_
  · rintro Wl ⟨s0, s1, s2, s3, s4, s5, s6, s7, s8, s9⟩
    go_simp
  simp only [Act.put, List.getElem_toArray, List.getElem_cons_succ, List.getElem_cons_zero, List.setIfInBounds_toArray, List.set_cons_zero, List.set_cons_succ]
  refine wpAnyH_take (i := 32) (v := .bool true) rfl (by kernel_rfl) (by kernel_rfl) (by kernel_rfl) (fun _ _ _ h => h) (Or.inl ⟨by kernel_rfl, ?_⟩) HL_ ?_
  · rintro Wl ⟨s0, s1, s2, s3, s4, s5, s6, s7, s8, s9⟩
    go_simp
  simp only [Act.put, List.getElem_toArray, List.getElem_cons_succ, List.getElem_cons_zero, List.setIfInBounds_toArray, List.set_cons_zero, List.set_cons_succ]
  refine wpAnyH_take (i := 33) (v := .bool true) rfl (by kernel_rfl) (by kernel_rfl) (by kernel_rfl) (fun _ _ _ h => h) (Or.inl ⟨by kernel_rfl, ?_⟩) HL_ ?_
  · rintro Wl ⟨s0, s1, s2, s3, s4, s5, s6, s7, s8, s9⟩
    go_simp
  simp only [Act.put, List.getElem_toArray, List.getElem_cons_succ, List.getElem_cons_zero, List.setIfInBounds_toArray, List.set_cons_zero, List.set_cons_succ]
  refine wpAnyH_take (i := 34) (v := .bool false) rfl (by kernel_rfl) (by kernel_rfl) (by kernel_rfl) (fun _ _ _ h => h) (Or.inl ⟨by kernel_rfl, ?_⟩) HL_ ?_
  · rintro Wl ⟨s0, s1, s2, s3, s4, s5, s6, s7, s8, s9⟩
    go_simp
  simp only [Act.put, List.getElem_toArray, List.getElem_cons_succ, List.getElem_cons_zero, List.setIfInBounds_toArray, List.set_cons_zero, List.set_cons_succ]
  refine wpAnyH_take (i := 35) (v := .bool true) rfl (by kernel_rfl) (by kernel_rfl) (by kernel_rfl) (fun _ _ _ h => h) (Or.inl ⟨by kernel_rfl, ?_⟩) HL_ ?_
  · rintro Wl ⟨s0, s1, s2, s3, s4, s5, s6, s7, s8, s9⟩
    go_simp
  simp only [Act.put, List.getElem_toArray, List.getElem_cons_succ, List.getElem_cons_zero, List.setIfInBounds_toArray, List.set_cons_zero, List.set_cons_succ]
  refine wpAnyH_take (i := 36) (v := .bool true) rfl (by kernel_rfl) (by kernel_rfl) (by kernel_rfl) (fun _ _ _ h => h) (Or.inl ⟨by kernel_rfl, ?_⟩) HL_ ?_
  · rintro Wl ⟨s0, s1, s2, s3, s4, s5, s6, s7, s8, s9⟩
    go_simp
  simp only [Act.put, List.getElem_toArray, List.getElem_cons_succ, List.getElem_cons_zero, List.setIfInBounds_toArray, List.set_cons_zero, List.set_cons_succ]
  refine wpAnyH_take (i := 37) (v := .bool true) rfl (by kernel_rfl) (by kernel_rfl) (by kernel_rfl) (fun _ _ _ h => h) (Or.inl ⟨by kernel_rfl, ?_⟩) HL_ ?_
  · rintro Wl ⟨s0, s1, s2, s3, s4, s5, s6, s7, s8, s9⟩
    go_simp
  simp only [Act.put, List.getElem_toArray, List.getElem_cons_succ, List.getElem_cons_zero, List.setIfInBounds_toArray, List.set_cons_zero, List.set_cons_succ]
  refine wpAnyH_take (i := 38) (v := .agg #[.slice (some ⟨g, 0, none⟩) 4 4, .int .i64 0, .int .i64 10]) rfl (by kernel_rfl) (by kernel_rfl) (by kernel_rfl) (fun _ _ _ h => h) (Or.inl ⟨by kernel_rfl, ?_⟩) HL_ ?_
  · rintro Wl ⟨s0, s1, s2, s3, s4, s5, s6, s7, s8, s9⟩
    go_simp
  simp only [Act.put, List.getElem_toArray, List.getElem_cons_succ, List.getElem_cons_zero, List.setIfInBounds_toArray, List.set_cons_zero, List.set_cons_succ]
  refine wpAnyH_ready (rs := [39]) (by kernel_rfl) (by simp) ?_
  refine AllReadyH.cons (o := _) rfl (fun K hK => ?_) AllReadyH.nil
  go_simp
  with_reducible refine (hval g 4 _ (HS.out.below hb0)).mono ?_
  rintro e_ x3 ⟨rfl, hb⟩
  replace hb0 := on_below hb0 hb
  clear hb
  refine hK.out _ _ (sc hb0) fun HL_ => ?_
  clear hK K
  refine wpAnyH_take (i := 40) (v := .bool true) rfl (by kernel_rfl) (by kernel_rfl) (by kernel_rfl) (fun _ _ _ h => h) (Or.inl ⟨by kernel_rfl, ?_⟩) HL_ ?_
  · rintro Wl ⟨s0, s1, s2, s3, s4, s5, s6, s7, s8, s9⟩
    go_simp
  simp only [Act.put, List.getElem_toArray, List.getElem_cons_succ, List.getElem_cons_zero, List.setIfInBounds_toArray, List.set_cons_zero, List.set_cons_succ]
  refine wpAnyH_take (i := 41) (v := .bool true) rfl (by kernel_rfl) (by kernel_rfl) (by kernel_rfl) (fun _ _ _ h => h) (Or.inl ⟨by kernel_rfl, ?_⟩) HL_ ?_
  · rintro Wl ⟨s0, s1, s2, s3, s4, s5, s6, s7, s8, s9⟩
    go_simp
  simp only [Act.put, List.getElem_toArray, List.getElem_cons_succ, List.getElem_cons_zero, List.setIfInBounds_toArray, List.set_cons_zero, List.set_cons_succ]
  refine wpAnyH_take (i := 42) (v := .agg #[.slice none 0 0, .int .i64 0, .int .i64 0]) rfl (by kernel_rfl) (by kernel_rfl) (by kernel_rfl) (fun _ _ _ h => h) (Or.inl ⟨by kernel_rfl, ?_⟩) HL_ ?_
  · rintro Wl ⟨s0, s1, s2, s3, s4, s5, s6, s7, s8, s9⟩
    go_simp
  simp only [Act.put, List.getElem_toArray, List.getElem_cons_succ, List.getElem_cons_zero, List.setIfInBounds_toArray, List.set_cons_zero, List.set_cons_succ]
  refine wpAnyH_ready (rs := [43]) (by kernel_rfl) (by simp) ?_
  refine AllReadyH.cons (o := _) rfl (fun K hK => ?_) AllReadyH.nil
  go_simp
  with_reducible refine (hnot _).mono ?_
  rintro e_ x4 ⟨rfl, hb⟩
  replace hb0 := on_below hb0 hb
  clear hb
  refine hK.out _ _ (sc hb0) fun HL_ => ?_
  clear hK K
  refine wpAnyH_take (i := 44) (v := .bool true) rfl (by kernel_rfl) (by kernel_rfl) (by kernel_rfl) (fun _ _ _ h => h) (Or.inl ⟨by kernel_rfl, ?_⟩) HL_ ?_
  · rintro Wl ⟨s0, s1, s2, s3, s4, s5, s6, s7, s8, s9⟩
    go_simp
  simp only [Act.put, List.getElem_toArray, List.getElem_cons_succ, List.getElem_cons_zero, List.setIfInBounds_toArray, List.set_cons_zero, List.set_cons_succ]
  refine wpAnyH_take (i := 45) (v := .bool true) rfl (by kernel_rfl) (by kernel_rfl) (by kernel_rfl) (fun _ _ _ h => h) (Or.inl ⟨by kernel_rfl, ?_⟩) HL_ ?_
  · rintro Wl ⟨s0, s1, s2, s3, s4, s5, s6, s7, s8, s9⟩
    go_simp
  simp only [Act.put, List.getElem_toArray, List.getElem_cons_succ, List.getElem_cons_zero, List.setIfInBounds_toArray, List.set_cons_zero, List.set_cons_succ]
  refine wpAnyH_take (i := 46) (v := .bool true) rfl (by kernel_rfl) (by kernel_rfl) (by kernel_rfl) (fun _ _ _ h => h) (Or.inl ⟨by kernel_rfl, ?_⟩) HL_ ?_
  · rintro Wl ⟨s0, s1, s2, s3, s4, s5, s6, s7, s8, s9⟩
    go_simp
  simp only [Act.put, List.getElem_toArray, List.getElem_cons_succ, List.getElem_cons_zero, List.setIfInBounds_toArray, List.set_cons_zero, List.set_cons_succ]
  refine wpAnyH_done (by kernel_rfl) ?_ _
  replace HB := Lib.hid (on_below HB.out hb0)
  clear hb0 sc HL_
  go_wp2_with fail
  go_ret
  exact ⟨rfl, HB.out⟩
section
open Go.ChangeShapes Go.WideShapes Go.ChangeAt Go.Joins
theorem cells_vec : Try.prog.cellsOf 27 = 3 := by kernel_rfl
variable {H : Type} {enc : TypeId × Value → H}
set_option maxRecDepth 100000 in
theorem open_vec {W : World} {base : Nat} {sp : Nat → Bool} {held : Bool} {v : Value} {d : DataW H} {p : List MemPlace} (hv : Value.okWide Try.prog W .any base 27 v) (h : DataW.Trod enc Try.prog W 0 sp held 27 v d p) :
    ∃ a b c : Int, v = .agg #[.int .i64 a, .int .i64 b, .int .i64 c] ∧ d = .agg [.lit (.int .i64 a), .lit (.int .i64 b), .lit (.int .i64 c)] ∧ p = [] ∧ (Lit.int .i64 a).wf = true ∧ (Lit.int .i64 b).wf = true ∧ (Lit.int .i64 c).wf = true := by
  obtain ⟨c0, c1, c2, y0, y1, y2, m, rfl, rfl, rfl, hy0, hy1, hy2⟩ := open_agg3 Try.underlying27 (by kernel_rfl) cells_vec hv h
  obtain ⟨a, e0, rfl, wa⟩ := DataW.trod_int Try.underlying3 hy0
  obtain ⟨b, e1, rfl, wb⟩ := DataW.trod_int Try.underlying3 hy1
  obtain ⟨c, e2, rfl, wc⟩ := DataW.trod_int Try.underlying3 hy2
  simp at e0 e1 e2
  subst e0 e1 e2
  exact ⟨a, b, c, rfl, rfl, rfl, wa, wb, wc⟩
set_option maxRecDepth 100000 in
theorem shut_vec {W : World} {sp : Nat → Bool} {held : Bool} {a b c : Int} (wa : (Lit.int .i64 a).wf = true) (wb : (Lit.int .i64 b).wf = true) (wc : (Lit.int .i64 c).wf = true) :
    DataW.Trod enc Try.prog W 0 sp held 27 (.agg #[.int .i64 a, .int .i64 b, .int .i64 c]) (.agg [.lit (.int .i64 a), .lit (.int .i64 b), .lit (.int .i64 c)]) [] :=
  shut_agg3 (y0 := (.lit (.int .i64 a), [])) (y1 := (.lit (.int .i64 b), [])) (y2 := (.lit (.int .i64 c), [])) Try.underlying27 (by kernel_rfl) cells_vec ⟨1, by simp [DataW.trod, Try.underlying3, wa]⟩ ⟨1, by simp [DataW.trod, Try.underlying3, wb]⟩ ⟨1, by simp [DataW.trod, Try.underlying3, wc]⟩
end
end Go.Proofs.Ytjjimbaogpmbmaa
