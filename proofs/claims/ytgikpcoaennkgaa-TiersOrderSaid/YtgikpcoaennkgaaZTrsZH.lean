/-
  Find, Beside and Parts, of the package and (but for Parts) of the reference. Package tiers: Head; the reference: SameBodies. What comes in: slices of places, slices of numbers, a place by value.
-/
import Derived.Test.YtgikpcoaennkgaaZTrsZD
import Derived.Test.YtgikpcoaennkgaaZTrsZQ
import Derived.Test.YtgikpcoaennkgaaZShpPG
import Derived.Test.YtgikpcoaennkgaaZShpM
import Derived.Test.YtgikpcoaennkgaaZSgtZB
import Derived.Test.YtgikpcoaennkgaaZShpPH
import Derived.Laws.MakeOwn
import Derived.Deep.QuietTactic
import Derived.BigQuiet
import Derived.Test.YtgikpcoaennkgaaZTrsZA
import Derived.Test.YtgikpcoaennkgaaZSgtZD
namespace Go.Proofs.Ytgikpcoaennkgaa
open Go.RowKit Go.Sort
open Go.RowKit (Below)
set_option linter.unusedVariables false
set_option linter.unusedSimpArgs false
attribute [local go_sem] Oper.semAt_some

/-- What Find answers. -/
def FiR (L : List Pl) (x n E : Int) : Prop :=
  (¬ PlOk3 L ∧ n = 0 ∧ E = 1) ∨ (PlOk3 L ∧ ixP L x = L.length ∧ n = 0 ∧ E = 4) ∨ (PlOk3 L ∧ ixP L x < L.length ∧ n = (ixP L x : Int) ∧ E = 0)
/-- What Beside answers. -/
def BeR (L : List Pl) (x y : Int) (r : Bool) (E : Int) : Prop :=
  (¬ PlOk3 L ∧ r = false ∧ E = 1) ∨ (PlOk3 L ∧ (ixP L x = L.length ∨ ixP L y = L.length) ∧ r = false ∧ E = 4) ∨
  (PlOk3 L ∧ ixP L x < L.length ∧ ixP L y < L.length ∧ r = nxt (gdP L (ixP L x)) (gdP L (ixP L y)) ∧ E = 0)
theorem FiR.ex (L : List Pl) (x : Int) : ∃ n E, FiR L x n E := by
  by_cases h : PlOk3 L
  · by_cases h2 : ixP L x < L.length
    · exact ⟨_, _, .inr (.inr ⟨h, h2, rfl, rfl⟩)⟩
    · exact ⟨_, _, .inr (.inl ⟨h, by have := ixP_le L x; omega, rfl, rfl⟩)⟩
  · exact ⟨_, _, .inl ⟨h, rfl, rfl⟩⟩
theorem BeR.ex (L : List Pl) (x y : Int) : ∃ r E, BeR L x y r E := by
  by_cases h : PlOk3 L
  · by_cases h2 : ixP L x < L.length
    · by_cases h3 : ixP L y < L.length
      · exact ⟨_, _, .inr (.inr ⟨h, h2, h3, rfl, rfl⟩)⟩
      · exact ⟨_, _, .inr (.inl ⟨h, .inr (by have := ixP_le L y; omega), rfl, rfl⟩)⟩
    · exact ⟨_, _, .inr (.inl ⟨h, .inl (by have := ixP_le L x; omega), rfl, rfl⟩)⟩
  · exact ⟨_, _, .inl ⟨h, rfl, rfl⟩⟩
theorem ins_new (w : World) (xs : List Int) : InS (w.alloc (.cells (xs.map (Value.int .i64)).toArray 3)) (some ⟨w.heap.size, 0, none⟩) xs := fun k hk => by
  refine ⟨w.heap.size, 0, rfl, ?_⟩
  have h := World.alloc_heap_new w (.cells (xs.map (Value.int .i64)).toArray 3)
  rw [Nat.zero_add, gdI_at hk]
  unfold World.cell?
  simp only [h]
  simp [hk]
theorem ixs1 (L : List Pl) (x : Int) : gdI (ixs L [x]) 0 = (ixP L x : Int) := rfl
theorem ixs2a (L : List Pl) (x y : Int) : gdI (ixs L [x, y]) 0 = (ixP L x : Int) := rfl
theorem ixs2b (L : List Pl) (x y : Int) : gdI (ixs L [x, y]) 1 = (ixP L y : Int) := rfl
theorem idx1 {L : List Pl} {x n E : Int} (h : FiR L x n E) : Idx plOk L [x] E := by
  rcases h with ⟨h, _, e⟩ | ⟨h, h2, _, e⟩ | ⟨h, h2, _, e⟩
  · exact .inl ⟨h, e⟩
  · refine .inr (.inl ⟨h, fun k => ?_, e⟩)
    have := k 0 (by simp)
    change ixP L x < _ at this
    omega
  · refine .inr (.inr ⟨h, fun k hk => ?_, e⟩)
    have e0 : k = 0 := by simp at hk; exact hk
    subst e0
    exact h2
theorem idx2 {L : List Pl} {x y : Int} {r : Bool} {E : Int} (h : BeR L x y r E) : Idx plOk L [x, y] E := by
  rcases h with ⟨h, _, e⟩ | ⟨h, h2, _, e⟩ | ⟨h, h2, h3, _, e⟩
  · exact .inl ⟨h, e⟩
  · refine .inr (.inl ⟨h, fun k => ?_, e⟩)
    have h4 := k 0 (by simp)
    have h5 := k 1 (by simp)
    change ixP L x < _ at h4
    change ixP L y < _ at h5
    omega
  · refine .inr (.inr ⟨h, fun k hk => ?_, e⟩)
    have e0 : k = 0 ∨ k = 1 := by simp at hk; omega
    rcases e0 with rfl | rfl
    · exact h2
    · exact h3
theorem ids1_is (A : Option Addr) (C : Nat) (L : List Pl) (B : Option Addr) (x : Int) (hx : I64 x) (E : Int) (hE : Idx plOk L [x] E) (w : World) (hl : PlS w A L) (h2 : InS w B [x]) :
    Calls Try.prog 26 #[.slice A L.length C, .slice B 1 1] w fun e_ w' => InR w w' L [x] E e_ ∧ Below w.heap.size w w' :=
  ids_is A C L B 1 [x] (by simp) (fun k hk => by have e0 : k = 0 := (by simp at hk; exact hk); subst e0; exact hx) E hE w hl h2
theorem ids2_is (A : Option Addr) (C : Nat) (L : List Pl) (B : Option Addr) (x y : Int) (hx : I64 x) (hy : I64 y) (E : Int) (hE : Idx plOk L [x, y] E) (w : World) (hl : PlS w A L) (h2 : InS w B [x, y]) :
    Calls Try.prog 26 #[.slice A L.length C, .slice B 2 2] w fun e_ w' => InR w w' L [x, y] E e_ ∧ Below w.heap.size w w' :=
  ids_is A C L B 2 [x, y] (by simp) (fun k hk => by have e0 : k = 0 ∨ k = 1 := (by simp at hk; omega); rcases e0 with e0 | e0 <;> subst e0 <;> assumption) E hE w hl h2
set_option maxRecDepth 100000 in
set_option maxHeartbeats 4000000 in
theorem tfin_is (A : Option Addr) (C : Nat) (L : List Pl) (x : Int) (hx : I64 x) (n E : Int) (hE : FiR L x n E) (w : World) (hl : PlS w A L) :
    Calls Try.prog 12 #[.slice A L.length C, .int .i64 x] w fun e_ w' => e_ = .returned (.tuple #[.int .i64 n, .int .i64 E]) ∧ Below w.heap.size w w' := by
  have CI := Lib.hid (fun W B (h : PlS W A L) (h2 : InS W B [x]) => ids1_is A C L B x hx E (idx1 hE) W h h2)
  have HL := Lib.hid hl
  clear hl
  have HE := Lib.hid hE
  clear hE
  have hb := below_new w (.cells #[.int .i64 x] 3)
  have hin := ins_new w [x]
  go_enter Try.func12, Try.ntmps12
  go_wp2_with fail
  change InS (w.alloc (.cells #[.int .i64 x] 3)) _ _ at hin
  have HB := Lib.hid hb
  generalize w.alloc (.cells #[.int .i64 x] 3) = w1 at *
  with_reducible refine (CI.out _ _ (HL.out.below hb) hin).mono ?_
  rintro e_ w2 ⟨hi, hb2⟩
  replace HB := Lib.hid (on_below HB.out hb2)
  clear hb hb2 hin CI HL
  rcases hi with ⟨h0, rfl⟩ | ⟨h0, g, rfl, _, hri⟩
  · have z : (E != 0) = true := by simp [h0]
    have hn : n = 0 := by
      rcases HE.out with ⟨_, h, _⟩ | ⟨_, _, h, _⟩ | ⟨_, _, _, h⟩
      · exact h
      · exact h
      · exact absurd h h0
    subst hn
    clear h0
    go_wp2_with fail
    go_ret2
    exact ⟨rfl, HB.out⟩
  · have c0 := hri.at (j := 0) (by simp)
    rw [ixs1] at c0
    have hn : n = (ixP L x : Int) := by
      rcases HE.out with ⟨_, _, h⟩ | ⟨_, _, _, h⟩ | ⟨_, _, h, _⟩
      · omega
      · omega
      · exact h
    rw [← hn] at c0
    subst h0
    clear hri hn
    go_wp2_with fail
    go_ret2
    exact ⟨rfl, HB.out⟩
set_option maxRecDepth 100000 in
set_option maxHeartbeats 4000000 in
theorem tbes_is (A : Option Addr) (C : Nat) (L : List Pl) (x y : Int) (hx : I64 x) (hy : I64 y) (r : Bool) (E : Int) (hE : BeR L x y r E) (w : World) (hl : PlS w A L) :
    Calls Try.prog 14 #[.slice A L.length C, .int .i64 x, .int .i64 y] w fun e_ w' => e_ = .returned (.tuple #[.bool r, .int .i64 E]) ∧ Below w.heap.size w w' := by
  have CI := Lib.hid (fun W B (h : PlS W A L) (h2 : InS W B [x, y]) => ids2_is A C L B x y hx hy E (idx2 hE) W h h2)
  have HL := Lib.hid hl
  clear hl
  have HE := Lib.hid hE
  clear hE
  have hb := below_new w (.cells #[.int .i64 x, .int .i64 y] 3)
  have hin := ins_new w [x, y]
  go_enter Try.func14, Try.ntmps14
  go_wp2_with fail
  change InS (w.alloc (.cells #[.int .i64 x, .int .i64 y] 3)) _ _ at hin
  have HB := Lib.hid hb
  replace HL := Lib.hid (HL.out.below hb)
  generalize w.alloc (.cells #[.int .i64 x, .int .i64 y] 3) = w1 at *
  with_reducible refine (CI.out _ _ HL.out hin).mono ?_
  rintro e_ w2 ⟨hi, hb2⟩
  replace HB := Lib.hid (on_below HB.out hb2)
  replace HL := Lib.hid (HL.out.below hb2)
  clear hb hb2 hin CI
  rcases hi with ⟨h0, rfl⟩ | ⟨h0, g, rfl, _, hri⟩
  · have z : (E != 0) = true := by simp [h0]
    have hn : r = false := by
      rcases HE.out with ⟨_, h, _⟩ | ⟨_, _, h, _⟩ | ⟨_, _, _, _, h⟩
      · exact h
      · exact h
      · exact absurd h h0
    subst hn
    clear h0
    go_wp2_with fail
    go_ret2
    exact ⟨rfl, HB.out⟩
  have z0 : ((0 : Int) != 0) = false := rfl
  have c0 := hri.at (j := 0) (by simp)
  have c1 := hri.at (j := 1) (by simp)
  rw [ixs2a] at c0
  rw [ixs2b] at c1
  clear hri
  subst h0
  obtain ⟨hok, h1, h2, hr⟩ : PlOk3 L ∧ ixP L x < L.length ∧ ixP L y < L.length ∧ r = nxt (gdP L (ixP L x)) (gdP L (ixP L y)) := by
    rcases HE.out with ⟨_, _, h⟩ | ⟨_, _, _, h⟩ | ⟨h1, h2, h3, h4, _⟩
    · omega
    · omega
    · exact ⟨h1, h2, h3, h4⟩
  have k1 := hok.each _ h1
  have k2 := hok.each _ h2
  have KQ := Lib.hid (bsd_is (gdP L (ixP L x)) (gdP L (ixP L y)) (plOk_rng k1).2.2 (plOk_rng k2).2.2 r hr.symm)
  clear k1 k2 hok hr HE
  obtain ⟨b0, o0, rfl, e0, e1, e2, e3, e4, e5, e6⟩ := HL.out _ h1
  obtain ⟨b1, o1, eA, d0, d1, d2, d3, d4, d5, d6⟩ := HL.out _ h2
  injection eA with eA
  injection eA with eb eo _
  subst eb eo
  generalize ixP L x = ia at *
  generalize ixP L y = ib at *
  generalize gdP L ia = p_ at *
  generalize gdP L ib = q_ at *
  obtain ⟨pi, pa, pb, px, py, pz, pk⟩ := p_
  obtain ⟨ri, ra, rb, rx, ry, rz, rk⟩ := q_
  dsimp only at e0 e1 e2 e3 e4 e5 e6 d0 d1 d2 d3 d4 d5 d6
  have z1 : (ia : Int) < L.length := by omega
  have z2 : (ib : Int) < L.length := by omega
  clear HL
  go_wp2_with fail
  have kp : ∀ {Wq_ : World}, Below w2.heap.size w2 Wq_ → Wq_.cell? ⟨g, 0, none⟩ = some (.int .i64 (ia : Int)) ∧ Wq_.cell? ⟨g, 1, none⟩ = some (.int .i64 (ib : Int)) ∧ Wq_.cell? ⟨b0, o0 + ia * 7, none⟩ = some (.int .i64 pi) ∧ Wq_.cell? ⟨b0, o0 + ia * 7 + 1, none⟩ = some (.int .i64 pa) ∧ Wq_.cell? ⟨b0, o0 + ia * 7 + 2, none⟩ = some (.int .i64 pb) ∧ Wq_.cell? ⟨b0, o0 + ia * 7 + 3, none⟩ = some (.int .i64 px) ∧ Wq_.cell? ⟨b0, o0 + ia * 7 + 4, none⟩ = some (.int .i64 py) ∧ Wq_.cell? ⟨b0, o0 + ia * 7 + 5, none⟩ = some (.int .i64 pz) ∧ Wq_.cell? ⟨b0, o0 + ia * 7 + 6, none⟩ = some (.int .i64 pk) ∧ Wq_.cell? ⟨b0, o0 + ib * 7, none⟩ = some (.int .i64 ri) ∧ Wq_.cell? ⟨b0, o0 + ib * 7 + 1, none⟩ = some (.int .i64 ra) ∧ Wq_.cell? ⟨b0, o0 + ib * 7 + 2, none⟩ = some (.int .i64 rb) ∧ Wq_.cell? ⟨b0, o0 + ib * 7 + 3, none⟩ = some (.int .i64 rx) ∧ Wq_.cell? ⟨b0, o0 + ib * 7 + 4, none⟩ = some (.int .i64 ry) ∧ Wq_.cell? ⟨b0, o0 + ib * 7 + 5, none⟩ = some (.int .i64 rz) ∧ Wq_.cell? ⟨b0, o0 + ib * 7 + 6, none⟩ = some (.int .i64 rk) := fun h => ⟨keepc h c0, keepc h c1, keepc h e0, keepc h e1, keepc h e2, keepc h e3, keepc h e4, keepc h e5, keepc h e6, keepc h d0, keepc h d1, keepc h d2, keepc h d3, keepc h d4, keepc h d5, keepc h d6⟩
  have hB : Below w2.heap.size w2 w2.drew := (Below.refl _ _).drew
  refine wp_region_held_drew (S := fun Wq_ => Wq_.cell? ⟨g, 0, none⟩ = some (.int .i64 (ia : Int)) ∧ Wq_.cell? ⟨g, 1, none⟩ = some (.int .i64 (ib : Int)) ∧ Wq_.cell? ⟨b0, o0 + ia * 7, none⟩ = some (.int .i64 pi) ∧ Wq_.cell? ⟨b0, o0 + ia * 7 + 1, none⟩ = some (.int .i64 pa) ∧ Wq_.cell? ⟨b0, o0 + ia * 7 + 2, none⟩ = some (.int .i64 pb) ∧ Wq_.cell? ⟨b0, o0 + ia * 7 + 3, none⟩ = some (.int .i64 px) ∧ Wq_.cell? ⟨b0, o0 + ia * 7 + 4, none⟩ = some (.int .i64 py) ∧ Wq_.cell? ⟨b0, o0 + ia * 7 + 5, none⟩ = some (.int .i64 pz) ∧ Wq_.cell? ⟨b0, o0 + ia * 7 + 6, none⟩ = some (.int .i64 pk) ∧ Wq_.cell? ⟨b0, o0 + ib * 7, none⟩ = some (.int .i64 ri) ∧ Wq_.cell? ⟨b0, o0 + ib * 7 + 1, none⟩ = some (.int .i64 ra) ∧ Wq_.cell? ⟨b0, o0 + ib * 7 + 2, none⟩ = some (.int .i64 rb) ∧ Wq_.cell? ⟨b0, o0 + ib * 7 + 3, none⟩ = some (.int .i64 rx) ∧ Wq_.cell? ⟨b0, o0 + ib * 7 + 4, none⟩ = some (.int .i64 ry) ∧ Wq_.cell? ⟨b0, o0 + ib * 7 + 5, none⟩ = some (.int .i64 rz) ∧ Wq_.cell? ⟨b0, o0 + ib * 7 + 6, none⟩ = some (.int .i64 rk)) (by kernel_rfl) (kp (Below.refl _ _).drew) fun HL_ => ?_
  generalize w2.drew = wq0_ at *
  refine wpAnyH_take (i := 0) (v := .slice (some ⟨b0, o0, none⟩) L.length C) rfl (by kernel_rfl) (by kernel_rfl) (by kernel_rfl) (fun _ _ _ h => h) (Or.inl ⟨by kernel_rfl, ?_⟩) HL_ ?_
  · rintro Wl ⟨s0, s1, s2, s3, s4, s5, s6, s7, s8, s9, s10, s11, s12, s13, s14, s15⟩
    go_simp
  simp only [Act.put, List.getElem_toArray, List.getElem_cons_succ, List.getElem_cons_zero, List.setIfInBounds_toArray, List.set_cons_zero, List.set_cons_succ]
  refine wpAnyH_take (i := 1) (v := .slice (some ⟨g, 0, none⟩) 2 2) rfl (by kernel_rfl) (by kernel_rfl) (by kernel_rfl) (fun _ _ _ h => h) (Or.inl ⟨by kernel_rfl, ?_⟩) HL_ ?_
  · rintro Wl ⟨s0, s1, s2, s3, s4, s5, s6, s7, s8, s9, s10, s11, s12, s13, s14, s15⟩
    go_simp
  simp only [Act.put, List.getElem_toArray, List.getElem_cons_succ, List.getElem_cons_zero, List.setIfInBounds_toArray, List.set_cons_zero, List.set_cons_succ]
  refine wpAnyH_take (i := 2) (v := .pointer (some ⟨g, 0, none⟩)) rfl (by kernel_rfl) (by kernel_rfl) (by kernel_rfl) (fun _ _ _ h => h) (Or.inl ⟨by kernel_rfl, ?_⟩) HL_ ?_
  · rintro Wl ⟨s0, s1, s2, s3, s4, s5, s6, s7, s8, s9, s10, s11, s12, s13, s14, s15⟩
    go_simp
  simp only [Act.put, List.getElem_toArray, List.getElem_cons_succ, List.getElem_cons_zero, List.setIfInBounds_toArray, List.set_cons_zero, List.set_cons_succ]
  refine wpAnyH_take (i := 3) (v := .int .i64 (ia : Int)) rfl (by kernel_rfl) (by kernel_rfl) (by kernel_rfl) (fun _ _ _ h => h) (Or.inl ⟨by kernel_rfl, ?_⟩) HL_ ?_
  · rintro Wl ⟨s0, s1, s2, s3, s4, s5, s6, s7, s8, s9, s10, s11, s12, s13, s14, s15⟩
    go_simp
  simp only [Act.put, List.getElem_toArray, List.getElem_cons_succ, List.getElem_cons_zero, List.setIfInBounds_toArray, List.set_cons_zero, List.set_cons_succ]
  refine wpAnyH_take (i := 4) (v := .pointer (some ⟨b0, o0 + ia * 7, none⟩)) rfl (by kernel_rfl) (by kernel_rfl) (by kernel_rfl) (fun _ _ _ h => h) (Or.inl ⟨by kernel_rfl, ?_⟩) HL_ ?_
  · rintro Wl ⟨s0, s1, s2, s3, s4, s5, s6, s7, s8, s9, s10, s11, s12, s13, s14, s15⟩
    go_simp
  simp only [Act.put, List.getElem_toArray, List.getElem_cons_succ, List.getElem_cons_zero, List.setIfInBounds_toArray, List.set_cons_zero, List.set_cons_succ]
  refine wpAnyH_take (i := 5) (v := .agg #[.int .i64 pi, .int .i64 pa, .int .i64 pb, .int .i64 px, .int .i64 py, .int .i64 pz, .int .i64 pk]) rfl (by kernel_rfl) (by kernel_rfl) (by kernel_rfl) (fun _ _ _ h => h) (Or.inl ⟨by kernel_rfl, ?_⟩) HL_ ?_
  · rintro Wl ⟨s0, s1, s2, s3, s4, s5, s6, s7, s8, s9, s10, s11, s12, s13, s14, s15⟩
    go_simp
  simp only [Act.put, List.getElem_toArray, List.getElem_cons_succ, List.getElem_cons_zero, List.setIfInBounds_toArray, List.set_cons_zero, List.set_cons_succ]
  refine wpAnyH_take (i := 6) (v := .slice (some ⟨b0, o0, none⟩) L.length C) rfl (by kernel_rfl) (by kernel_rfl) (by kernel_rfl) (fun _ _ _ h => h) (Or.inl ⟨by kernel_rfl, ?_⟩) HL_ ?_
  · rintro Wl ⟨s0, s1, s2, s3, s4, s5, s6, s7, s8, s9, s10, s11, s12, s13, s14, s15⟩
    go_simp
  simp only [Act.put, List.getElem_toArray, List.getElem_cons_succ, List.getElem_cons_zero, List.setIfInBounds_toArray, List.set_cons_zero, List.set_cons_succ]
  refine wpAnyH_take (i := 7) (v := .slice (some ⟨g, 0, none⟩) 2 2) rfl (by kernel_rfl) (by kernel_rfl) (by kernel_rfl) (fun _ _ _ h => h) (Or.inl ⟨by kernel_rfl, ?_⟩) HL_ ?_
  · rintro Wl ⟨s0, s1, s2, s3, s4, s5, s6, s7, s8, s9, s10, s11, s12, s13, s14, s15⟩
    go_simp
  simp only [Act.put, List.getElem_toArray, List.getElem_cons_succ, List.getElem_cons_zero, List.setIfInBounds_toArray, List.set_cons_zero, List.set_cons_succ]
  refine wpAnyH_take (i := 8) (v := .pointer (some ⟨g, 1, none⟩)) rfl (by kernel_rfl) (by kernel_rfl) (by kernel_rfl) (fun _ _ _ h => h) (Or.inl ⟨by kernel_rfl, ?_⟩) HL_ ?_
  · rintro Wl ⟨s0, s1, s2, s3, s4, s5, s6, s7, s8, s9, s10, s11, s12, s13, s14, s15⟩
    go_simp
  simp only [Act.put, List.getElem_toArray, List.getElem_cons_succ, List.getElem_cons_zero, List.setIfInBounds_toArray, List.set_cons_zero, List.set_cons_succ]
  refine wpAnyH_take (i := 9) (v := .int .i64 (ib : Int)) rfl (by kernel_rfl) (by kernel_rfl) (by kernel_rfl) (fun _ _ _ h => h) (Or.inl ⟨by kernel_rfl, ?_⟩) HL_ ?_
  · rintro Wl ⟨s0, s1, s2, s3, s4, s5, s6, s7, s8, s9, s10, s11, s12, s13, s14, s15⟩
    go_simp
  simp only [Act.put, List.getElem_toArray, List.getElem_cons_succ, List.getElem_cons_zero, List.setIfInBounds_toArray, List.set_cons_zero, List.set_cons_succ]
  refine wpAnyH_take (i := 10) (v := .pointer (some ⟨b0, o0 + ib * 7, none⟩)) rfl (by kernel_rfl) (by kernel_rfl) (by kernel_rfl) (fun _ _ _ h => h) (Or.inl ⟨by kernel_rfl, ?_⟩) HL_ ?_
  · rintro Wl ⟨s0, s1, s2, s3, s4, s5, s6, s7, s8, s9, s10, s11, s12, s13, s14, s15⟩
    go_simp
  simp only [Act.put, List.getElem_toArray, List.getElem_cons_succ, List.getElem_cons_zero, List.setIfInBounds_toArray, List.set_cons_zero, List.set_cons_succ]
  refine wpAnyH_take (i := 11) (v := .agg #[.int .i64 ri, .int .i64 ra, .int .i64 rb, .int .i64 rx, .int .i64 ry, .int .i64 rz, .int .i64 rk]) rfl (by kernel_rfl) (by kernel_rfl) (by kernel_rfl) (fun _ _ _ h => h) (Or.inl ⟨by kernel_rfl, ?_⟩) HL_ ?_
  · rintro Wl ⟨s0, s1, s2, s3, s4, s5, s6, s7, s8, s9, s10, s11, s12, s13, s14, s15⟩
    go_simp
  simp only [Act.put, List.getElem_toArray, List.getElem_cons_succ, List.getElem_cons_zero, List.setIfInBounds_toArray, List.set_cons_zero, List.set_cons_succ]
  refine wpAnyH_ready (rs := [12]) (by kernel_rfl) (by simp) ?_
  refine AllReadyH.cons (o := _) rfl (fun K hK => ?_) AllReadyH.nil
  go_simp
  with_reducible refine (KQ.out _).mono ?_
  rintro e_ wq1_ ⟨rfl, hb⟩
  replace hB := on_below hB hb
  clear hb
  refine hK.out _ _ (kp hB) fun HL_ => ?_
  clear hK K
  refine wpAnyH_take (i := 13) (v := .bool r) rfl (by kernel_rfl) (by kernel_rfl) (by kernel_rfl) (fun _ _ _ h => h) (Or.inl ⟨by kernel_rfl, ?_⟩) HL_ ?_
  · rintro Wl ⟨s0, s1, s2, s3, s4, s5, s6, s7, s8, s9, s10, s11, s12, s13, s14, s15⟩
    go_simp
  simp only [Act.put, List.getElem_toArray, List.getElem_cons_succ, List.getElem_cons_zero, List.setIfInBounds_toArray, List.set_cons_zero, List.set_cons_succ]
  refine wpAnyH_take (i := 14) (v := .int .i64 0) rfl (by kernel_rfl) (by kernel_rfl) (by kernel_rfl) (fun _ _ _ h => h) (Or.inl ⟨by kernel_rfl, ?_⟩) HL_ ?_
  · rintro Wl ⟨s0, s1, s2, s3, s4, s5, s6, s7, s8, s9, s10, s11, s12, s13, s14, s15⟩
    go_simp
  simp only [Act.put, List.getElem_toArray, List.getElem_cons_succ, List.getElem_cons_zero, List.setIfInBounds_toArray, List.set_cons_zero, List.set_cons_succ]
  refine wpAnyH_done (by kernel_rfl) ?_ _
  clear HL_ kp
  generalize wq1_ = wh at *
  go_wp2_with fail
  go_ret2
  exact ⟨rfl, on_below HB.out hB⟩
theorem parts_is (A : Option Addr) (C : Nat) (L : List Pl) (B : Option Addr) (D : Nat) (X : List Int) (hlen : X.length ≤ 9223372036854775807) (hI : ∀ k, k < X.length → I64 (gdI X k)) (E : Int) (hE : Sui plOk L X E) (w : World) (hl : PlS w A L) (hx : InS w B X) :
    Calls Try.prog 15 #[.slice A L.length C, .slice B X.length D] w fun e_ w' => PaR w' L X E e_ ∧ Below w.heap.size w w' := by
  by_cases h0 : E = 0
  · subst h0
    exact parts_1 A C L B D X hlen hI hE w hl hx
  · exact parts_0 A C L B D X hlen hI E hE h0 w hl hx
set_option maxRecDepth 100000 in
set_option maxHeartbeats 4000000 in
theorem pval12_is (A : Option Addr) (C : Nat) (L : List Pl) (r : Bool) (hr : r = true ↔ PlOk3 L) (w : World) (hl : PlS w A L) :
    Calls Try.prog 23 #[.slice A L.length C] w fun e_ w' => e_ = .returned (.bool r) ∧ Below w.heap.size w w' := by
  have CI := Lib.hid (fun W (h : PlS W A L) => indexed_is A C L W h)
  have HL := Lib.hid hl
  clear hl
  have HR := Lib.hid hr
  clear hr
  go_enter Try.func23, Try.ntmps23
  go_wp2_with fail
  with_reducible refine (CI.out _ HL.out).mono ?_
  rintro e_ w1 ⟨hi, hb⟩
  have HB := Lib.hid hb
  clear hb CI HL
  rcases hi with ⟨mb, rfl, hn⟩ | ⟨b, rfl, hok, _, _⟩
  · obtain rfl := false_of (r := r) (fun e => hn (HR.out.1 e))
    clear hn
    go_wp2_with fail
    go_ret
    exact ⟨rfl, HB.out⟩
  · obtain rfl := true_of (HR.out.2 hok)
    clear hok
    go_wp2_with fail
    go_ret
    exact ⟨rfl, HB.out⟩
end Go.Proofs.Ytgikpcoaennkgaa

namespace Go.Proofs.Ytgikpcoaennkgaa
open Go.RowKit Go.Sort
open Go.RowKit (Below)
set_option linter.unusedVariables false
set_option linter.unusedSimpArgs false
attribute [local go_sem] Oper.semAt_some

/-- The corners of a head. -/
def hpt (p : Pl) : List (Int × Int) := [(p.ex - 2, p.ey - 2), (p.ex + 2, p.ey - 2), (p.ex + 2, p.ey + 2), (p.ex - 2, p.ey + 2)]
/-- What Head is asked for. -/
def Hda (p : Pl) (h : Int) : Prop := vv p.ex p.ey p.ez = true ∧ 0 ≤ h ∧ h ≤ 10
/-- The error of Head. -/
def HdR (p : Pl) (h E : Int) : Prop :=
  (¬ Hda p h ∧ E = 1) ∨ (Hda p h ∧ ¬ Bok (hpt p) (p.ez - 2) (p.ez + h) ∧ E = 3) ∨ (Hda p h ∧ Bok (hpt p) (p.ez - 2) (p.ez + h) ∧ E = 0)
theorem HdR.ex (p : Pl) (h : Int) : ∃ E, HdR p h E := by
  by_cases h1 : Hda p h
  · by_cases h2 : Bok (hpt p) (p.ez - 2) (p.ez + h)
    · exact ⟨0, .inr (.inr ⟨h1, h2, rfl⟩)⟩
    · exact ⟨3, .inr (.inl ⟨h1, h2, rfl⟩)⟩
  · exact ⟨1, .inl ⟨h1, rfl⟩⟩
/-- What Head answers. -/
def HdX (w w' : World) (p : Pl) (h E : Int) (e : Ending) : Prop :=
  (E ≠ 0 ∧ e = .returned (.tuple #[.agg #[.slice none 0 0, .int .i64 0, .int .i64 0], .int .i64 E])) ∨
  (E = 0 ∧ ∃ g, w.heap.size ≤ g ∧ e = .returned (.tuple #[.agg #[.slice (some ⟨g, 0, none⟩) 4 4, .int .i64 (p.ez - 2), .int .i64 (p.ez + h)], .int .i64 0]) ∧ SlS w' (some ⟨g, 0, none⟩) (hpt p))
theorem sls_four {W : World} {g : Nat} {a0 b0 a1 b1 a2 b2 a3 b3 : Int} {t : TypeId} {fz : Nat × Nat} (h : W.heap[g]? = some (.cells #[.int .i64 a0, .int .i64 b0, .int .i64 a1, .int .i64 b1, .int .i64 a2, .int .i64 b2, .int .i64 a3, .int .i64 b3] t fz)) :
    SlS W (some ⟨g, 0, none⟩) [(a0, b0), (a1, b1), (a2, b2), (a3, b3)] := by
  intro k hk
  have : k = 0 ∨ k = 1 ∨ k = 2 ∨ k = 3 := by simp at hk; omega
  refine ⟨g, 0, rfl, ?_⟩
  unfold World.cell?
  simp only [h]
  rcases this with rfl | rfl | rfl | rfl <;> exact ⟨rfl, rfl⟩
theorem w5_ {a b : Int} (ha : -2000 ≤ a ∧ a ≤ 2000) (hb : -10 ≤ b ∧ b ≤ 10) : IntKind.i64.wrap (a + b) = a + b := IntWalk.i64_in _ ⟨by omega, by omega⟩
theorem w6_ {a b : Int} (ha : -2000 ≤ a ∧ a ≤ 2000) (hb : -10 ≤ b ∧ b ≤ 10) : IntKind.i64.wrap (a - b) = a - b := IntWalk.i64_in _ ⟨by omega, by omega⟩
theorem w7_ {a b : Int} (ha : -2000 ≤ a ∧ a ≤ 2000) (hb : -10 ≤ b ∧ b ≤ 10) : wrap64 (a + b) = a + b := IntWalk.wrap64_in _ ⟨by omega, by omega⟩
theorem w8_ {a b : Int} (ha : -2000 ≤ a ∧ a ≤ 2000) (hb : -10 ≤ b ∧ b ≤ 10) : wrap64 (a - b) = a - b := IntWalk.wrap64_in _ ⟨by omega, by omega⟩
theorem vv_bd {x y z : Int} (h : vv x y z = true) : (-2000 ≤ x ∧ x ≤ 2000) ∧ (-2000 ≤ y ∧ y ≤ 2000) ∧ (-2000 ≤ z ∧ z ≤ 2000) := by
  unfold vv inr at h
  simp at h
  omega
theorem thd_v (px py lo hi : Int) (r : Bool) (hr : r = true ↔ Bok [(px - 2, py - 2), (px + 2, py - 2), (px + 2, py + 2), (px - 2, py + 2)] lo hi) (g : Nat) (w : World) (h : SlS w (some ⟨g, 0, none⟩) [(px - 2, py - 2), (px + 2, py - 2), (px + 2, py + 2), (px - 2, py + 2)]) :
    Calls Try.prog 33 #[.agg #[.slice (some ⟨g, 0, none⟩) 4 4, .int .i64 lo, .int .i64 hi]] w fun e_ w' => e_ = .returned (.bool r) ∧ Below w.heap.size w w' :=
  pvalid_is (some ⟨g, 0, none⟩) 4 [(px - 2, py - 2), (px + 2, py - 2), (px + 2, py + 2), (px - 2, py + 2)] lo hi (by simp) r hr w h
set_option maxRecDepth 100000 in
set_option maxHeartbeats 4000000 in
theorem thd_0 (pi pa pb px py pz pk h : Int) (hv : vv px py pz = false) (w : World) :
    Calls Try.prog 18 #[.agg #[.int .i64 pi, .int .i64 pa, .int .i64 pb, .int .i64 px, .int .i64 py, .int .i64 pz, .int .i64 pk], .int .i64 h] w fun e_ w' => e_ = .returned (.tuple #[.agg #[.slice none 0 0, .int .i64 0, .int .i64 0], .int .i64 1]) ∧ Below w.heap.size w w' := by
  have K0 := Lib.hid (vvalid_is px py pz false hv)
  have p0 : World.cell? ((w.alloc (.cells #[.int .i64 pi, .int .i64 pa, .int .i64 pb, .int .i64 px, .int .i64 py, .int .i64 pz, .int .i64 pk] 28)).alloc (.cells #[.slice none 0 0, .int .i64 0, .int .i64 0] 47)) ⟨w.heap.size, 0, none⟩ = some (.int .i64 pi) := by simp [go_sem]
  have p1 : World.cell? ((w.alloc (.cells #[.int .i64 pi, .int .i64 pa, .int .i64 pb, .int .i64 px, .int .i64 py, .int .i64 pz, .int .i64 pk] 28)).alloc (.cells #[.slice none 0 0, .int .i64 0, .int .i64 0] 47)) ⟨w.heap.size, 1, none⟩ = some (.int .i64 pa) := by simp [go_sem]
  have p2 : World.cell? ((w.alloc (.cells #[.int .i64 pi, .int .i64 pa, .int .i64 pb, .int .i64 px, .int .i64 py, .int .i64 pz, .int .i64 pk] 28)).alloc (.cells #[.slice none 0 0, .int .i64 0, .int .i64 0] 47)) ⟨w.heap.size, 2, none⟩ = some (.int .i64 pb) := by simp [go_sem]
  have p3 : World.cell? ((w.alloc (.cells #[.int .i64 pi, .int .i64 pa, .int .i64 pb, .int .i64 px, .int .i64 py, .int .i64 pz, .int .i64 pk] 28)).alloc (.cells #[.slice none 0 0, .int .i64 0, .int .i64 0] 47)) ⟨w.heap.size, 3, none⟩ = some (.int .i64 px) := by simp [go_sem]
  have p4 : World.cell? ((w.alloc (.cells #[.int .i64 pi, .int .i64 pa, .int .i64 pb, .int .i64 px, .int .i64 py, .int .i64 pz, .int .i64 pk] 28)).alloc (.cells #[.slice none 0 0, .int .i64 0, .int .i64 0] 47)) ⟨w.heap.size, 4, none⟩ = some (.int .i64 py) := by simp [go_sem]
  have p5 : World.cell? ((w.alloc (.cells #[.int .i64 pi, .int .i64 pa, .int .i64 pb, .int .i64 px, .int .i64 py, .int .i64 pz, .int .i64 pk] 28)).alloc (.cells #[.slice none 0 0, .int .i64 0, .int .i64 0] 47)) ⟨w.heap.size, 5, none⟩ = some (.int .i64 pz) := by simp [go_sem]
  have p6 : World.cell? ((w.alloc (.cells #[.int .i64 pi, .int .i64 pa, .int .i64 pb, .int .i64 px, .int .i64 py, .int .i64 pz, .int .i64 pk] 28)).alloc (.cells #[.slice none 0 0, .int .i64 0, .int .i64 0] 47)) ⟨w.heap.size, 6, none⟩ = some (.int .i64 pk) := by simp [go_sem]
  have lp : w.heap.size < ((w.alloc (.cells #[.int .i64 pi, .int .i64 pa, .int .i64 pb, .int .i64 px, .int .i64 py, .int .i64 pz, .int .i64 pk] 28)).alloc (.cells #[.slice none 0 0, .int .i64 0, .int .i64 0] 47)).heap.size := by simp <;> omega
  have q0 : World.cell? ((w.alloc (.cells #[.int .i64 pi, .int .i64 pa, .int .i64 pb, .int .i64 px, .int .i64 py, .int .i64 pz, .int .i64 pk] 28)).alloc (.cells #[.slice none 0 0, .int .i64 0, .int .i64 0] 47)) ⟨w.heap.size + 1, 0, none⟩ = some (.slice none 0 0) := by simp [go_sem]
  have fq0 : World.frozen? ((w.alloc (.cells #[.int .i64 pi, .int .i64 pa, .int .i64 pb, .int .i64 px, .int .i64 py, .int .i64 pz, .int .i64 pk] 28)).alloc (.cells #[.slice none 0 0, .int .i64 0, .int .i64 0] 47)) ⟨w.heap.size + 1, 0, none⟩ = false := by simp [go_sem]
  have q1 : World.cell? ((w.alloc (.cells #[.int .i64 pi, .int .i64 pa, .int .i64 pb, .int .i64 px, .int .i64 py, .int .i64 pz, .int .i64 pk] 28)).alloc (.cells #[.slice none 0 0, .int .i64 0, .int .i64 0] 47)) ⟨w.heap.size + 1, 1, none⟩ = some (.int .i64 0) := by simp [go_sem]
  have fq1 : World.frozen? ((w.alloc (.cells #[.int .i64 pi, .int .i64 pa, .int .i64 pb, .int .i64 px, .int .i64 py, .int .i64 pz, .int .i64 pk] 28)).alloc (.cells #[.slice none 0 0, .int .i64 0, .int .i64 0] 47)) ⟨w.heap.size + 1, 1, none⟩ = false := by simp [go_sem]
  have q2 : World.cell? ((w.alloc (.cells #[.int .i64 pi, .int .i64 pa, .int .i64 pb, .int .i64 px, .int .i64 py, .int .i64 pz, .int .i64 pk] 28)).alloc (.cells #[.slice none 0 0, .int .i64 0, .int .i64 0] 47)) ⟨w.heap.size + 1, 2, none⟩ = some (.int .i64 0) := by simp [go_sem]
  have fq2 : World.frozen? ((w.alloc (.cells #[.int .i64 pi, .int .i64 pa, .int .i64 pb, .int .i64 px, .int .i64 py, .int .i64 pz, .int .i64 pk] 28)).alloc (.cells #[.slice none 0 0, .int .i64 0, .int .i64 0] 47)) ⟨w.heap.size + 1, 2, none⟩ = false := by simp [go_sem]
  have lq : w.heap.size + 1 < ((w.alloc (.cells #[.int .i64 pi, .int .i64 pa, .int .i64 pb, .int .i64 px, .int .i64 py, .int .i64 pz, .int .i64 pk] 28)).alloc (.cells #[.slice none 0 0, .int .i64 0, .int .i64 0] 47)).heap.size := by simp <;> omega
  have HB := Lib.hid (show Below w.heap.size w ((w.alloc (.cells #[.int .i64 pi, .int .i64 pa, .int .i64 pb, .int .i64 px, .int .i64 py, .int .i64 pz, .int .i64 pk] 28)).alloc (.cells #[.slice none 0 0, .int .i64 0, .int .i64 0] 47)) from (((Below.refl _ _).alloc (by simp <;> omega) _).alloc (by simp <;> omega) _))
  go_enter Try.func18, Try.ntmps18
  go_wp2_with fail
  generalize (w.alloc (.cells #[.int .i64 pi, .int .i64 pa, .int .i64 pb, .int .i64 px, .int .i64 py, .int .i64 pz, .int .i64 pk] 28)).alloc (.cells #[.slice none 0 0, .int .i64 0, .int .i64 0] 47) = w1 at *
  with_reducible refine (K0.out _).mono ?_
  rintro e_ w2 ⟨rfl, hb⟩
  replace HB := Lib.hid (on_below HB.out hb)
  replace p0 := keepc hb p0
  replace p1 := keepc hb p1
  replace p2 := keepc hb p2
  replace p3 := keepc hb p3
  replace p4 := keepc hb p4
  replace p5 := keepc hb p5
  replace p6 := keepc hb p6
  replace q0 := keepc hb q0
  replace q1 := keepc hb q1
  replace q2 := keepc hb q2
  replace fq0 := keepf hb lq fq0
  replace fq1 := keepf hb lq fq1
  replace fq2 := keepf hb lq fq2
  replace lp := Nat.lt_of_lt_of_le lp hb.size
  replace lq := Nat.lt_of_lt_of_le lq hb.size
  clear hb
  go_wp2_with fail
  clear K0
  refine bodyPost_ret (v := .tuple #[.agg #[.slice none 0 0, .int .i64 0, .int .i64 0], .int .i64 1]) (by simp [results, Try.results18, go_sem, q0, q1, q2]) rfl ⟨rfl, ?_⟩
  repeat (first | (with_reducible exact HB.out) | (refine Below.setCell ?_ (by first | exact Nat.le_refl _ | (simp; done) | (simp; omega) | omega) _) | (refine Below.alloc ?_ (by first | exact Nat.le_refl _ | (simp; done) | (simp; omega) | omega) _) | (refine Below.drew ?_) | (refine below_drewN' ?_ _))
set_option maxRecDepth 100000 in
set_option maxHeartbeats 4000000 in
theorem thd_1 (pi pa pb px py pz pk h : Int) (hv : vv px py pz = true) (hh : h < 0) (w : World) :
    Calls Try.prog 18 #[.agg #[.int .i64 pi, .int .i64 pa, .int .i64 pb, .int .i64 px, .int .i64 py, .int .i64 pz, .int .i64 pk], .int .i64 h] w fun e_ w' => e_ = .returned (.tuple #[.agg #[.slice none 0 0, .int .i64 0, .int .i64 0], .int .i64 1]) ∧ Below w.heap.size w w' := by
  have K0 := Lib.hid (vvalid_is px py pz true hv)
  have p0 : World.cell? ((w.alloc (.cells #[.int .i64 pi, .int .i64 pa, .int .i64 pb, .int .i64 px, .int .i64 py, .int .i64 pz, .int .i64 pk] 28)).alloc (.cells #[.slice none 0 0, .int .i64 0, .int .i64 0] 47)) ⟨w.heap.size, 0, none⟩ = some (.int .i64 pi) := by simp [go_sem]
  have p1 : World.cell? ((w.alloc (.cells #[.int .i64 pi, .int .i64 pa, .int .i64 pb, .int .i64 px, .int .i64 py, .int .i64 pz, .int .i64 pk] 28)).alloc (.cells #[.slice none 0 0, .int .i64 0, .int .i64 0] 47)) ⟨w.heap.size, 1, none⟩ = some (.int .i64 pa) := by simp [go_sem]
  have p2 : World.cell? ((w.alloc (.cells #[.int .i64 pi, .int .i64 pa, .int .i64 pb, .int .i64 px, .int .i64 py, .int .i64 pz, .int .i64 pk] 28)).alloc (.cells #[.slice none 0 0, .int .i64 0, .int .i64 0] 47)) ⟨w.heap.size, 2, none⟩ = some (.int .i64 pb) := by simp [go_sem]
  have p3 : World.cell? ((w.alloc (.cells #[.int .i64 pi, .int .i64 pa, .int .i64 pb, .int .i64 px, .int .i64 py, .int .i64 pz, .int .i64 pk] 28)).alloc (.cells #[.slice none 0 0, .int .i64 0, .int .i64 0] 47)) ⟨w.heap.size, 3, none⟩ = some (.int .i64 px) := by simp [go_sem]
  have p4 : World.cell? ((w.alloc (.cells #[.int .i64 pi, .int .i64 pa, .int .i64 pb, .int .i64 px, .int .i64 py, .int .i64 pz, .int .i64 pk] 28)).alloc (.cells #[.slice none 0 0, .int .i64 0, .int .i64 0] 47)) ⟨w.heap.size, 4, none⟩ = some (.int .i64 py) := by simp [go_sem]
  have p5 : World.cell? ((w.alloc (.cells #[.int .i64 pi, .int .i64 pa, .int .i64 pb, .int .i64 px, .int .i64 py, .int .i64 pz, .int .i64 pk] 28)).alloc (.cells #[.slice none 0 0, .int .i64 0, .int .i64 0] 47)) ⟨w.heap.size, 5, none⟩ = some (.int .i64 pz) := by simp [go_sem]
  have p6 : World.cell? ((w.alloc (.cells #[.int .i64 pi, .int .i64 pa, .int .i64 pb, .int .i64 px, .int .i64 py, .int .i64 pz, .int .i64 pk] 28)).alloc (.cells #[.slice none 0 0, .int .i64 0, .int .i64 0] 47)) ⟨w.heap.size, 6, none⟩ = some (.int .i64 pk) := by simp [go_sem]
  have lp : w.heap.size < ((w.alloc (.cells #[.int .i64 pi, .int .i64 pa, .int .i64 pb, .int .i64 px, .int .i64 py, .int .i64 pz, .int .i64 pk] 28)).alloc (.cells #[.slice none 0 0, .int .i64 0, .int .i64 0] 47)).heap.size := by simp <;> omega
  have q0 : World.cell? ((w.alloc (.cells #[.int .i64 pi, .int .i64 pa, .int .i64 pb, .int .i64 px, .int .i64 py, .int .i64 pz, .int .i64 pk] 28)).alloc (.cells #[.slice none 0 0, .int .i64 0, .int .i64 0] 47)) ⟨w.heap.size + 1, 0, none⟩ = some (.slice none 0 0) := by simp [go_sem]
  have fq0 : World.frozen? ((w.alloc (.cells #[.int .i64 pi, .int .i64 pa, .int .i64 pb, .int .i64 px, .int .i64 py, .int .i64 pz, .int .i64 pk] 28)).alloc (.cells #[.slice none 0 0, .int .i64 0, .int .i64 0] 47)) ⟨w.heap.size + 1, 0, none⟩ = false := by simp [go_sem]
  have q1 : World.cell? ((w.alloc (.cells #[.int .i64 pi, .int .i64 pa, .int .i64 pb, .int .i64 px, .int .i64 py, .int .i64 pz, .int .i64 pk] 28)).alloc (.cells #[.slice none 0 0, .int .i64 0, .int .i64 0] 47)) ⟨w.heap.size + 1, 1, none⟩ = some (.int .i64 0) := by simp [go_sem]
  have fq1 : World.frozen? ((w.alloc (.cells #[.int .i64 pi, .int .i64 pa, .int .i64 pb, .int .i64 px, .int .i64 py, .int .i64 pz, .int .i64 pk] 28)).alloc (.cells #[.slice none 0 0, .int .i64 0, .int .i64 0] 47)) ⟨w.heap.size + 1, 1, none⟩ = false := by simp [go_sem]
  have q2 : World.cell? ((w.alloc (.cells #[.int .i64 pi, .int .i64 pa, .int .i64 pb, .int .i64 px, .int .i64 py, .int .i64 pz, .int .i64 pk] 28)).alloc (.cells #[.slice none 0 0, .int .i64 0, .int .i64 0] 47)) ⟨w.heap.size + 1, 2, none⟩ = some (.int .i64 0) := by simp [go_sem]
  have fq2 : World.frozen? ((w.alloc (.cells #[.int .i64 pi, .int .i64 pa, .int .i64 pb, .int .i64 px, .int .i64 py, .int .i64 pz, .int .i64 pk] 28)).alloc (.cells #[.slice none 0 0, .int .i64 0, .int .i64 0] 47)) ⟨w.heap.size + 1, 2, none⟩ = false := by simp [go_sem]
  have lq : w.heap.size + 1 < ((w.alloc (.cells #[.int .i64 pi, .int .i64 pa, .int .i64 pb, .int .i64 px, .int .i64 py, .int .i64 pz, .int .i64 pk] 28)).alloc (.cells #[.slice none 0 0, .int .i64 0, .int .i64 0] 47)).heap.size := by simp <;> omega
  have HB := Lib.hid (show Below w.heap.size w ((w.alloc (.cells #[.int .i64 pi, .int .i64 pa, .int .i64 pb, .int .i64 px, .int .i64 py, .int .i64 pz, .int .i64 pk] 28)).alloc (.cells #[.slice none 0 0, .int .i64 0, .int .i64 0] 47)) from (((Below.refl _ _).alloc (by simp <;> omega) _).alloc (by simp <;> omega) _))
  go_enter Try.func18, Try.ntmps18
  go_wp2_with fail
  generalize (w.alloc (.cells #[.int .i64 pi, .int .i64 pa, .int .i64 pb, .int .i64 px, .int .i64 py, .int .i64 pz, .int .i64 pk] 28)).alloc (.cells #[.slice none 0 0, .int .i64 0, .int .i64 0] 47) = w1 at *
  with_reducible refine (K0.out _).mono ?_
  rintro e_ w2 ⟨rfl, hb⟩
  replace HB := Lib.hid (on_below HB.out hb)
  replace p0 := keepc hb p0
  replace p1 := keepc hb p1
  replace p2 := keepc hb p2
  replace p3 := keepc hb p3
  replace p4 := keepc hb p4
  replace p5 := keepc hb p5
  replace p6 := keepc hb p6
  replace q0 := keepc hb q0
  replace q1 := keepc hb q1
  replace q2 := keepc hb q2
  replace fq0 := keepf hb lq fq0
  replace fq1 := keepf hb lq fq1
  replace fq2 := keepf hb lq fq2
  replace lp := Nat.lt_of_lt_of_le lp hb.size
  replace lq := Nat.lt_of_lt_of_le lq hb.size
  clear hb
  go_wp2_with fail
  clear K0
  refine bodyPost_ret (v := .tuple #[.agg #[.slice none 0 0, .int .i64 0, .int .i64 0], .int .i64 1]) (by simp [results, Try.results18, go_sem, q0, q1, q2]) rfl ⟨rfl, ?_⟩
  repeat (first | (with_reducible exact HB.out) | (refine Below.setCell ?_ (by first | exact Nat.le_refl _ | (simp; done) | (simp; omega) | omega) _) | (refine Below.alloc ?_ (by first | exact Nat.le_refl _ | (simp; done) | (simp; omega) | omega) _) | (refine Below.drew ?_) | (refine below_drewN' ?_ _))
set_option maxRecDepth 100000 in
set_option maxHeartbeats 4000000 in
theorem thd_2 (pi pa pb px py pz pk h : Int) (hv : vv px py pz = true) (h0 : 0 ≤ h) (hh : 10 < h) (w : World) :
    Calls Try.prog 18 #[.agg #[.int .i64 pi, .int .i64 pa, .int .i64 pb, .int .i64 px, .int .i64 py, .int .i64 pz, .int .i64 pk], .int .i64 h] w fun e_ w' => e_ = .returned (.tuple #[.agg #[.slice none 0 0, .int .i64 0, .int .i64 0], .int .i64 1]) ∧ Below w.heap.size w w' := by
  have K0 := Lib.hid (vvalid_is px py pz true hv)
  have p0 : World.cell? ((w.alloc (.cells #[.int .i64 pi, .int .i64 pa, .int .i64 pb, .int .i64 px, .int .i64 py, .int .i64 pz, .int .i64 pk] 28)).alloc (.cells #[.slice none 0 0, .int .i64 0, .int .i64 0] 47)) ⟨w.heap.size, 0, none⟩ = some (.int .i64 pi) := by simp [go_sem]
  have p1 : World.cell? ((w.alloc (.cells #[.int .i64 pi, .int .i64 pa, .int .i64 pb, .int .i64 px, .int .i64 py, .int .i64 pz, .int .i64 pk] 28)).alloc (.cells #[.slice none 0 0, .int .i64 0, .int .i64 0] 47)) ⟨w.heap.size, 1, none⟩ = some (.int .i64 pa) := by simp [go_sem]
  have p2 : World.cell? ((w.alloc (.cells #[.int .i64 pi, .int .i64 pa, .int .i64 pb, .int .i64 px, .int .i64 py, .int .i64 pz, .int .i64 pk] 28)).alloc (.cells #[.slice none 0 0, .int .i64 0, .int .i64 0] 47)) ⟨w.heap.size, 2, none⟩ = some (.int .i64 pb) := by simp [go_sem]
  have p3 : World.cell? ((w.alloc (.cells #[.int .i64 pi, .int .i64 pa, .int .i64 pb, .int .i64 px, .int .i64 py, .int .i64 pz, .int .i64 pk] 28)).alloc (.cells #[.slice none 0 0, .int .i64 0, .int .i64 0] 47)) ⟨w.heap.size, 3, none⟩ = some (.int .i64 px) := by simp [go_sem]
  have p4 : World.cell? ((w.alloc (.cells #[.int .i64 pi, .int .i64 pa, .int .i64 pb, .int .i64 px, .int .i64 py, .int .i64 pz, .int .i64 pk] 28)).alloc (.cells #[.slice none 0 0, .int .i64 0, .int .i64 0] 47)) ⟨w.heap.size, 4, none⟩ = some (.int .i64 py) := by simp [go_sem]
  have p5 : World.cell? ((w.alloc (.cells #[.int .i64 pi, .int .i64 pa, .int .i64 pb, .int .i64 px, .int .i64 py, .int .i64 pz, .int .i64 pk] 28)).alloc (.cells #[.slice none 0 0, .int .i64 0, .int .i64 0] 47)) ⟨w.heap.size, 5, none⟩ = some (.int .i64 pz) := by simp [go_sem]
  have p6 : World.cell? ((w.alloc (.cells #[.int .i64 pi, .int .i64 pa, .int .i64 pb, .int .i64 px, .int .i64 py, .int .i64 pz, .int .i64 pk] 28)).alloc (.cells #[.slice none 0 0, .int .i64 0, .int .i64 0] 47)) ⟨w.heap.size, 6, none⟩ = some (.int .i64 pk) := by simp [go_sem]
  have lp : w.heap.size < ((w.alloc (.cells #[.int .i64 pi, .int .i64 pa, .int .i64 pb, .int .i64 px, .int .i64 py, .int .i64 pz, .int .i64 pk] 28)).alloc (.cells #[.slice none 0 0, .int .i64 0, .int .i64 0] 47)).heap.size := by simp <;> omega
  have q0 : World.cell? ((w.alloc (.cells #[.int .i64 pi, .int .i64 pa, .int .i64 pb, .int .i64 px, .int .i64 py, .int .i64 pz, .int .i64 pk] 28)).alloc (.cells #[.slice none 0 0, .int .i64 0, .int .i64 0] 47)) ⟨w.heap.size + 1, 0, none⟩ = some (.slice none 0 0) := by simp [go_sem]
  have fq0 : World.frozen? ((w.alloc (.cells #[.int .i64 pi, .int .i64 pa, .int .i64 pb, .int .i64 px, .int .i64 py, .int .i64 pz, .int .i64 pk] 28)).alloc (.cells #[.slice none 0 0, .int .i64 0, .int .i64 0] 47)) ⟨w.heap.size + 1, 0, none⟩ = false := by simp [go_sem]
  have q1 : World.cell? ((w.alloc (.cells #[.int .i64 pi, .int .i64 pa, .int .i64 pb, .int .i64 px, .int .i64 py, .int .i64 pz, .int .i64 pk] 28)).alloc (.cells #[.slice none 0 0, .int .i64 0, .int .i64 0] 47)) ⟨w.heap.size + 1, 1, none⟩ = some (.int .i64 0) := by simp [go_sem]
  have fq1 : World.frozen? ((w.alloc (.cells #[.int .i64 pi, .int .i64 pa, .int .i64 pb, .int .i64 px, .int .i64 py, .int .i64 pz, .int .i64 pk] 28)).alloc (.cells #[.slice none 0 0, .int .i64 0, .int .i64 0] 47)) ⟨w.heap.size + 1, 1, none⟩ = false := by simp [go_sem]
  have q2 : World.cell? ((w.alloc (.cells #[.int .i64 pi, .int .i64 pa, .int .i64 pb, .int .i64 px, .int .i64 py, .int .i64 pz, .int .i64 pk] 28)).alloc (.cells #[.slice none 0 0, .int .i64 0, .int .i64 0] 47)) ⟨w.heap.size + 1, 2, none⟩ = some (.int .i64 0) := by simp [go_sem]
  have fq2 : World.frozen? ((w.alloc (.cells #[.int .i64 pi, .int .i64 pa, .int .i64 pb, .int .i64 px, .int .i64 py, .int .i64 pz, .int .i64 pk] 28)).alloc (.cells #[.slice none 0 0, .int .i64 0, .int .i64 0] 47)) ⟨w.heap.size + 1, 2, none⟩ = false := by simp [go_sem]
  have lq : w.heap.size + 1 < ((w.alloc (.cells #[.int .i64 pi, .int .i64 pa, .int .i64 pb, .int .i64 px, .int .i64 py, .int .i64 pz, .int .i64 pk] 28)).alloc (.cells #[.slice none 0 0, .int .i64 0, .int .i64 0] 47)).heap.size := by simp <;> omega
  have HB := Lib.hid (show Below w.heap.size w ((w.alloc (.cells #[.int .i64 pi, .int .i64 pa, .int .i64 pb, .int .i64 px, .int .i64 py, .int .i64 pz, .int .i64 pk] 28)).alloc (.cells #[.slice none 0 0, .int .i64 0, .int .i64 0] 47)) from (((Below.refl _ _).alloc (by simp <;> omega) _).alloc (by simp <;> omega) _))
  go_enter Try.func18, Try.ntmps18
  go_wp2_with fail
  generalize (w.alloc (.cells #[.int .i64 pi, .int .i64 pa, .int .i64 pb, .int .i64 px, .int .i64 py, .int .i64 pz, .int .i64 pk] 28)).alloc (.cells #[.slice none 0 0, .int .i64 0, .int .i64 0] 47) = w1 at *
  with_reducible refine (K0.out _).mono ?_
  rintro e_ w2 ⟨rfl, hb⟩
  replace HB := Lib.hid (on_below HB.out hb)
  replace p0 := keepc hb p0
  replace p1 := keepc hb p1
  replace p2 := keepc hb p2
  replace p3 := keepc hb p3
  replace p4 := keepc hb p4
  replace p5 := keepc hb p5
  replace p6 := keepc hb p6
  replace q0 := keepc hb q0
  replace q1 := keepc hb q1
  replace q2 := keepc hb q2
  replace fq0 := keepf hb lq fq0
  replace fq1 := keepf hb lq fq1
  replace fq2 := keepf hb lq fq2
  replace lp := Nat.lt_of_lt_of_le lp hb.size
  replace lq := Nat.lt_of_lt_of_le lq hb.size
  clear hb
  go_wp2_with fail
  clear K0
  refine bodyPost_ret (v := .tuple #[.agg #[.slice none 0 0, .int .i64 0, .int .i64 0], .int .i64 1]) (by simp [results, Try.results18, go_sem, q0, q1, q2]) rfl ⟨rfl, ?_⟩
  repeat (first | (with_reducible exact HB.out) | (refine Below.setCell ?_ (by first | exact Nat.le_refl _ | (simp; done) | (simp; omega) | omega) _) | (refine Below.alloc ?_ (by first | exact Nat.le_refl _ | (simp; done) | (simp; omega) | omega) _) | (refine Below.drew ?_) | (refine below_drewN' ?_ _))
set_option maxRecDepth 100000 in
set_option maxHeartbeats 4000000 in
theorem thd_3 (pi pa pb px py pz pk h : Int) (hv : vv px py pz = true) (h0 : 0 ≤ h) (h1 : h ≤ 10) (hb_ : ¬ Bok [(px - 2, py - 2), (px + 2, py - 2), (px + 2, py + 2), (px - 2, py + 2)] (pz - 2) (pz + h)) (w : World) :
    Calls Try.prog 18 #[.agg #[.int .i64 pi, .int .i64 pa, .int .i64 pb, .int .i64 px, .int .i64 py, .int .i64 pz, .int .i64 pk], .int .i64 h] w fun e_ w' => e_ = .returned (.tuple #[.agg #[.slice none 0 0, .int .i64 0, .int .i64 0], .int .i64 3]) ∧ Below w.heap.size w w' := by
  have K0 := Lib.hid (vvalid_is px py pz true hv)
  obtain ⟨bx_, by_, bz_⟩ := vv_bd hv
  have KV := Lib.hid (fun W g (a : SlS W (some ⟨g, 0, none⟩) [(px - 2, py - 2), (px + 2, py - 2), (px + 2, py + 2), (px - 2, py + 2)]) => thd_v px py (pz - 2) (pz + h) false (by simp [hb_]) g W a)
  clear hv hb_
  have s0_ := w5_ bx_ (show (-10 : Int) ≤ (2 : Int) ∧ (2 : Int) ≤ 10 by omega)
  have s1_ := w6_ bx_ (show (-10 : Int) ≤ (2 : Int) ∧ (2 : Int) ≤ 10 by omega)
  have s2_ := w7_ bx_ (show (-10 : Int) ≤ (2 : Int) ∧ (2 : Int) ≤ 10 by omega)
  have s3_ := w8_ bx_ (show (-10 : Int) ≤ (2 : Int) ∧ (2 : Int) ≤ 10 by omega)
  have s4_ := w5_ by_ (show (-10 : Int) ≤ (2 : Int) ∧ (2 : Int) ≤ 10 by omega)
  have s5_ := w6_ by_ (show (-10 : Int) ≤ (2 : Int) ∧ (2 : Int) ≤ 10 by omega)
  have s6_ := w7_ by_ (show (-10 : Int) ≤ (2 : Int) ∧ (2 : Int) ≤ 10 by omega)
  have s7_ := w8_ by_ (show (-10 : Int) ≤ (2 : Int) ∧ (2 : Int) ≤ 10 by omega)
  have s8_ := w6_ bz_ (show (-10 : Int) ≤ (2 : Int) ∧ (2 : Int) ≤ 10 by omega)
  have s9_ := w8_ bz_ (show (-10 : Int) ≤ (2 : Int) ∧ (2 : Int) ≤ 10 by omega)
  have s10_ := w5_ bz_ (show (-10 : Int) ≤ h ∧ h ≤ 10 by omega)
  have s11_ := w7_ bz_ (show (-10 : Int) ≤ h ∧ h ≤ 10 by omega)
  clear bx_ by_ bz_
  have p0 : World.cell? ((w.alloc (.cells #[.int .i64 pi, .int .i64 pa, .int .i64 pb, .int .i64 px, .int .i64 py, .int .i64 pz, .int .i64 pk] 28)).alloc (.cells #[.slice none 0 0, .int .i64 0, .int .i64 0] 47)) ⟨w.heap.size, 0, none⟩ = some (.int .i64 pi) := by simp [go_sem]
  have p1 : World.cell? ((w.alloc (.cells #[.int .i64 pi, .int .i64 pa, .int .i64 pb, .int .i64 px, .int .i64 py, .int .i64 pz, .int .i64 pk] 28)).alloc (.cells #[.slice none 0 0, .int .i64 0, .int .i64 0] 47)) ⟨w.heap.size, 1, none⟩ = some (.int .i64 pa) := by simp [go_sem]
  have p2 : World.cell? ((w.alloc (.cells #[.int .i64 pi, .int .i64 pa, .int .i64 pb, .int .i64 px, .int .i64 py, .int .i64 pz, .int .i64 pk] 28)).alloc (.cells #[.slice none 0 0, .int .i64 0, .int .i64 0] 47)) ⟨w.heap.size, 2, none⟩ = some (.int .i64 pb) := by simp [go_sem]
  have p3 : World.cell? ((w.alloc (.cells #[.int .i64 pi, .int .i64 pa, .int .i64 pb, .int .i64 px, .int .i64 py, .int .i64 pz, .int .i64 pk] 28)).alloc (.cells #[.slice none 0 0, .int .i64 0, .int .i64 0] 47)) ⟨w.heap.size, 3, none⟩ = some (.int .i64 px) := by simp [go_sem]
  have p4 : World.cell? ((w.alloc (.cells #[.int .i64 pi, .int .i64 pa, .int .i64 pb, .int .i64 px, .int .i64 py, .int .i64 pz, .int .i64 pk] 28)).alloc (.cells #[.slice none 0 0, .int .i64 0, .int .i64 0] 47)) ⟨w.heap.size, 4, none⟩ = some (.int .i64 py) := by simp [go_sem]
  have p5 : World.cell? ((w.alloc (.cells #[.int .i64 pi, .int .i64 pa, .int .i64 pb, .int .i64 px, .int .i64 py, .int .i64 pz, .int .i64 pk] 28)).alloc (.cells #[.slice none 0 0, .int .i64 0, .int .i64 0] 47)) ⟨w.heap.size, 5, none⟩ = some (.int .i64 pz) := by simp [go_sem]
  have p6 : World.cell? ((w.alloc (.cells #[.int .i64 pi, .int .i64 pa, .int .i64 pb, .int .i64 px, .int .i64 py, .int .i64 pz, .int .i64 pk] 28)).alloc (.cells #[.slice none 0 0, .int .i64 0, .int .i64 0] 47)) ⟨w.heap.size, 6, none⟩ = some (.int .i64 pk) := by simp [go_sem]
  have lp : w.heap.size < ((w.alloc (.cells #[.int .i64 pi, .int .i64 pa, .int .i64 pb, .int .i64 px, .int .i64 py, .int .i64 pz, .int .i64 pk] 28)).alloc (.cells #[.slice none 0 0, .int .i64 0, .int .i64 0] 47)).heap.size := by simp <;> omega
  have q0 : World.cell? ((w.alloc (.cells #[.int .i64 pi, .int .i64 pa, .int .i64 pb, .int .i64 px, .int .i64 py, .int .i64 pz, .int .i64 pk] 28)).alloc (.cells #[.slice none 0 0, .int .i64 0, .int .i64 0] 47)) ⟨w.heap.size + 1, 0, none⟩ = some (.slice none 0 0) := by simp [go_sem]
  have fq0 : World.frozen? ((w.alloc (.cells #[.int .i64 pi, .int .i64 pa, .int .i64 pb, .int .i64 px, .int .i64 py, .int .i64 pz, .int .i64 pk] 28)).alloc (.cells #[.slice none 0 0, .int .i64 0, .int .i64 0] 47)) ⟨w.heap.size + 1, 0, none⟩ = false := by simp [go_sem]
  have q1 : World.cell? ((w.alloc (.cells #[.int .i64 pi, .int .i64 pa, .int .i64 pb, .int .i64 px, .int .i64 py, .int .i64 pz, .int .i64 pk] 28)).alloc (.cells #[.slice none 0 0, .int .i64 0, .int .i64 0] 47)) ⟨w.heap.size + 1, 1, none⟩ = some (.int .i64 0) := by simp [go_sem]
  have fq1 : World.frozen? ((w.alloc (.cells #[.int .i64 pi, .int .i64 pa, .int .i64 pb, .int .i64 px, .int .i64 py, .int .i64 pz, .int .i64 pk] 28)).alloc (.cells #[.slice none 0 0, .int .i64 0, .int .i64 0] 47)) ⟨w.heap.size + 1, 1, none⟩ = false := by simp [go_sem]
  have q2 : World.cell? ((w.alloc (.cells #[.int .i64 pi, .int .i64 pa, .int .i64 pb, .int .i64 px, .int .i64 py, .int .i64 pz, .int .i64 pk] 28)).alloc (.cells #[.slice none 0 0, .int .i64 0, .int .i64 0] 47)) ⟨w.heap.size + 1, 2, none⟩ = some (.int .i64 0) := by simp [go_sem]
  have fq2 : World.frozen? ((w.alloc (.cells #[.int .i64 pi, .int .i64 pa, .int .i64 pb, .int .i64 px, .int .i64 py, .int .i64 pz, .int .i64 pk] 28)).alloc (.cells #[.slice none 0 0, .int .i64 0, .int .i64 0] 47)) ⟨w.heap.size + 1, 2, none⟩ = false := by simp [go_sem]
  have lq : w.heap.size + 1 < ((w.alloc (.cells #[.int .i64 pi, .int .i64 pa, .int .i64 pb, .int .i64 px, .int .i64 py, .int .i64 pz, .int .i64 pk] 28)).alloc (.cells #[.slice none 0 0, .int .i64 0, .int .i64 0] 47)).heap.size := by simp <;> omega
  have HB := Lib.hid (show Below w.heap.size w ((w.alloc (.cells #[.int .i64 pi, .int .i64 pa, .int .i64 pb, .int .i64 px, .int .i64 py, .int .i64 pz, .int .i64 pk] 28)).alloc (.cells #[.slice none 0 0, .int .i64 0, .int .i64 0] 47)) from (((Below.refl _ _).alloc (by simp <;> omega) _).alloc (by simp <;> omega) _))
  go_enter Try.func18, Try.ntmps18
  go_wp2_with fail
  generalize (w.alloc (.cells #[.int .i64 pi, .int .i64 pa, .int .i64 pb, .int .i64 px, .int .i64 py, .int .i64 pz, .int .i64 pk] 28)).alloc (.cells #[.slice none 0 0, .int .i64 0, .int .i64 0] 47) = w1 at *
  with_reducible refine (K0.out _).mono ?_
  rintro e_ w2 ⟨rfl, hb⟩
  replace HB := Lib.hid (on_below HB.out hb)
  replace p0 := keepc hb p0
  replace p1 := keepc hb p1
  replace p2 := keepc hb p2
  replace p3 := keepc hb p3
  replace p4 := keepc hb p4
  replace p5 := keepc hb p5
  replace p6 := keepc hb p6
  replace q0 := keepc hb q0
  replace q1 := keepc hb q1
  replace q2 := keepc hb q2
  replace fq0 := keepf hb lq fq0
  replace fq1 := keepf hb lq fq1
  replace fq2 := keepf hb lq fq2
  replace lp := Nat.lt_of_lt_of_le lp hb.size
  replace lq := Nat.lt_of_lt_of_le lq hb.size
  clear hb
  go_wp2_with fail
  clear K0
  go_quiet (fail)
  have hb : Below w2.heap.size w2 (w2.drewN nq) := below_drewN' (Below.refl _ _) nq
  generalize w2.drewN nq = w8 at *
  replace HB := Lib.hid (on_below HB.out hb)
  replace p0 := keepc hb p0
  replace p1 := keepc hb p1
  replace p2 := keepc hb p2
  replace p3 := keepc hb p3
  replace p4 := keepc hb p4
  replace p5 := keepc hb p5
  replace p6 := keepc hb p6
  replace q0 := keepc hb q0
  replace q1 := keepc hb q1
  replace q2 := keepc hb q2
  replace fq0 := keepf hb lq fq0
  replace fq1 := keepf hb lq fq1
  replace fq2 := keepf hb lq fq2
  replace lp := Nat.lt_of_lt_of_le lp hb.size
  replace lq := Nat.lt_of_lt_of_le lq hb.size
  clear hb
  go_wp2_with fail
  go_quiet (fail)
  have hb : Below w8.heap.size w8 (w8.drewN nq) := below_drewN' (Below.refl _ _) nq
  generalize w8.drewN nq = w9 at *
  replace HB := Lib.hid (on_below HB.out hb)
  replace p0 := keepc hb p0
  replace p1 := keepc hb p1
  replace p2 := keepc hb p2
  replace p3 := keepc hb p3
  replace p4 := keepc hb p4
  replace p5 := keepc hb p5
  replace p6 := keepc hb p6
  replace q0 := keepc hb q0
  replace q1 := keepc hb q1
  replace q2 := keepc hb q2
  replace fq0 := keepf hb lq fq0
  replace fq1 := keepf hb lq fq1
  replace fq2 := keepf hb lq fq2
  replace lp := Nat.lt_of_lt_of_le lp hb.size
  replace lq := Nat.lt_of_lt_of_le lq hb.size
  clear hb
  go_wp2_with fail
  obtain ⟨w10, hw10⟩ : ∃ V, (w9.alloc (.cells #[.int .i64 (px - 2), .int .i64 (py - 2), .int .i64 (px + 2), .int .i64 (py - 2), .int .i64 (px + 2), .int .i64 (py + 2), .int .i64 (px - 2), .int .i64 (py + 2)] 55)).alloc (.cells #[.slice (some ⟨w9.heap.size, 0, none⟩) 4 4, .int .i64 (pz - 2), .int .i64 (pz + h)] 47) = V := ⟨_, rfl⟩
  obtain ⟨hb, hs10, k0, k1⟩ := allocs2' _ _ _ hw10
  rw [hw10]
  clear hw10
  have lq9 := lq
  replace HB := Lib.hid (on_below HB.out hb)
  replace p0 := keepc hb p0
  replace p1 := keepc hb p1
  replace p2 := keepc hb p2
  replace p3 := keepc hb p3
  replace p4 := keepc hb p4
  replace p5 := keepc hb p5
  replace p6 := keepc hb p6
  replace q0 := keepc hb q0
  replace q1 := keepc hb q1
  replace q2 := keepc hb q2
  replace fq0 := keepf hb lq fq0
  replace fq1 := keepf hb lq fq1
  replace fq2 := keepf hb lq fq2
  replace lp := Nat.lt_of_lt_of_le lp hb.size
  replace lq := Nat.lt_of_lt_of_le lq hb.size
  clear hb
  with_reducible refine (KV.out _ _ (sls_four k0)).mono ?_
  rintro e_ w11 ⟨rfl, hb⟩
  replace k0 := blk_on k0 hb
  replace k1 := blk_on k1 hb
  replace HB := Lib.hid (on_below HB.out hb)
  replace p0 := keepc hb p0
  replace p1 := keepc hb p1
  replace p2 := keepc hb p2
  replace p3 := keepc hb p3
  replace p4 := keepc hb p4
  replace p5 := keepc hb p5
  replace p6 := keepc hb p6
  replace q0 := keepc hb q0
  replace q1 := keepc hb q1
  replace q2 := keepc hb q2
  replace fq0 := keepf hb lq fq0
  replace fq1 := keepf hb lq fq1
  replace fq2 := keepf hb lq fq2
  replace lp := Nat.lt_of_lt_of_le lp hb.size
  replace lq := Nat.lt_of_lt_of_le lq hb.size
  clear hb
  obtain ⟨z0, z1, z2⟩ := cells3 k1
  have lz := block_lt z0
  clear KV
  go_wp2_with fail
  refine bodyPost_ret (v := .tuple #[.agg #[.slice none 0 0, .int .i64 0, .int .i64 0], .int .i64 3]) (by simp [results, Try.results18, go_sem, q0, q1, q2]) rfl ⟨rfl, ?_⟩
  repeat (first | (with_reducible exact HB.out) | (refine Below.setCell ?_ (by first | exact Nat.le_refl _ | (simp; done) | (simp; omega) | omega) _) | (refine Below.alloc ?_ (by first | exact Nat.le_refl _ | (simp; done) | (simp; omega) | omega) _) | (refine Below.drew ?_) | (refine below_drewN' ?_ _))
set_option maxRecDepth 100000 in
set_option maxHeartbeats 4000000 in
theorem thd_4 (pi pa pb px py pz pk h : Int) (hv : vv px py pz = true) (h0 : 0 ≤ h) (h1 : h ≤ 10) (hb_ : Bok [(px - 2, py - 2), (px + 2, py - 2), (px + 2, py + 2), (px - 2, py + 2)] (pz - 2) (pz + h)) (w : World) :
    Calls Try.prog 18 #[.agg #[.int .i64 pi, .int .i64 pa, .int .i64 pb, .int .i64 px, .int .i64 py, .int .i64 pz, .int .i64 pk], .int .i64 h] w fun e_ w' => (∃ g, w.heap.size ≤ g ∧ e_ = .returned (.tuple #[.agg #[.slice (some ⟨g, 0, none⟩) 4 4, .int .i64 (pz - 2), .int .i64 (pz + h)], .int .i64 0]) ∧ SlS w' (some ⟨g, 0, none⟩) [(px - 2, py - 2), (px + 2, py - 2), (px + 2, py + 2), (px - 2, py + 2)]) ∧ Below w.heap.size w w' := by
  have K0 := Lib.hid (vvalid_is px py pz true hv)
  obtain ⟨bx_, by_, bz_⟩ := vv_bd hv
  have KV := Lib.hid (fun W g (a : SlS W (some ⟨g, 0, none⟩) [(px - 2, py - 2), (px + 2, py - 2), (px + 2, py + 2), (px - 2, py + 2)]) => thd_v px py (pz - 2) (pz + h) true (by simp [hb_]) g W a)
  clear hv hb_
  have s0_ := w5_ bx_ (show (-10 : Int) ≤ (2 : Int) ∧ (2 : Int) ≤ 10 by omega)
  have s1_ := w6_ bx_ (show (-10 : Int) ≤ (2 : Int) ∧ (2 : Int) ≤ 10 by omega)
  have s2_ := w7_ bx_ (show (-10 : Int) ≤ (2 : Int) ∧ (2 : Int) ≤ 10 by omega)
  have s3_ := w8_ bx_ (show (-10 : Int) ≤ (2 : Int) ∧ (2 : Int) ≤ 10 by omega)
  have s4_ := w5_ by_ (show (-10 : Int) ≤ (2 : Int) ∧ (2 : Int) ≤ 10 by omega)
  have s5_ := w6_ by_ (show (-10 : Int) ≤ (2 : Int) ∧ (2 : Int) ≤ 10 by omega)
  have s6_ := w7_ by_ (show (-10 : Int) ≤ (2 : Int) ∧ (2 : Int) ≤ 10 by omega)
  have s7_ := w8_ by_ (show (-10 : Int) ≤ (2 : Int) ∧ (2 : Int) ≤ 10 by omega)
  have s8_ := w6_ bz_ (show (-10 : Int) ≤ (2 : Int) ∧ (2 : Int) ≤ 10 by omega)
  have s9_ := w8_ bz_ (show (-10 : Int) ≤ (2 : Int) ∧ (2 : Int) ≤ 10 by omega)
  have s10_ := w5_ bz_ (show (-10 : Int) ≤ h ∧ h ≤ 10 by omega)
  have s11_ := w7_ bz_ (show (-10 : Int) ≤ h ∧ h ≤ 10 by omega)
  clear bx_ by_ bz_
  have p0 : World.cell? ((w.alloc (.cells #[.int .i64 pi, .int .i64 pa, .int .i64 pb, .int .i64 px, .int .i64 py, .int .i64 pz, .int .i64 pk] 28)).alloc (.cells #[.slice none 0 0, .int .i64 0, .int .i64 0] 47)) ⟨w.heap.size, 0, none⟩ = some (.int .i64 pi) := by simp [go_sem]
  have p1 : World.cell? ((w.alloc (.cells #[.int .i64 pi, .int .i64 pa, .int .i64 pb, .int .i64 px, .int .i64 py, .int .i64 pz, .int .i64 pk] 28)).alloc (.cells #[.slice none 0 0, .int .i64 0, .int .i64 0] 47)) ⟨w.heap.size, 1, none⟩ = some (.int .i64 pa) := by simp [go_sem]
  have p2 : World.cell? ((w.alloc (.cells #[.int .i64 pi, .int .i64 pa, .int .i64 pb, .int .i64 px, .int .i64 py, .int .i64 pz, .int .i64 pk] 28)).alloc (.cells #[.slice none 0 0, .int .i64 0, .int .i64 0] 47)) ⟨w.heap.size, 2, none⟩ = some (.int .i64 pb) := by simp [go_sem]
  have p3 : World.cell? ((w.alloc (.cells #[.int .i64 pi, .int .i64 pa, .int .i64 pb, .int .i64 px, .int .i64 py, .int .i64 pz, .int .i64 pk] 28)).alloc (.cells #[.slice none 0 0, .int .i64 0, .int .i64 0] 47)) ⟨w.heap.size, 3, none⟩ = some (.int .i64 px) := by simp [go_sem]
  have p4 : World.cell? ((w.alloc (.cells #[.int .i64 pi, .int .i64 pa, .int .i64 pb, .int .i64 px, .int .i64 py, .int .i64 pz, .int .i64 pk] 28)).alloc (.cells #[.slice none 0 0, .int .i64 0, .int .i64 0] 47)) ⟨w.heap.size, 4, none⟩ = some (.int .i64 py) := by simp [go_sem]
  have p5 : World.cell? ((w.alloc (.cells #[.int .i64 pi, .int .i64 pa, .int .i64 pb, .int .i64 px, .int .i64 py, .int .i64 pz, .int .i64 pk] 28)).alloc (.cells #[.slice none 0 0, .int .i64 0, .int .i64 0] 47)) ⟨w.heap.size, 5, none⟩ = some (.int .i64 pz) := by simp [go_sem]
  have p6 : World.cell? ((w.alloc (.cells #[.int .i64 pi, .int .i64 pa, .int .i64 pb, .int .i64 px, .int .i64 py, .int .i64 pz, .int .i64 pk] 28)).alloc (.cells #[.slice none 0 0, .int .i64 0, .int .i64 0] 47)) ⟨w.heap.size, 6, none⟩ = some (.int .i64 pk) := by simp [go_sem]
  have lp : w.heap.size < ((w.alloc (.cells #[.int .i64 pi, .int .i64 pa, .int .i64 pb, .int .i64 px, .int .i64 py, .int .i64 pz, .int .i64 pk] 28)).alloc (.cells #[.slice none 0 0, .int .i64 0, .int .i64 0] 47)).heap.size := by simp <;> omega
  have q0 : World.cell? ((w.alloc (.cells #[.int .i64 pi, .int .i64 pa, .int .i64 pb, .int .i64 px, .int .i64 py, .int .i64 pz, .int .i64 pk] 28)).alloc (.cells #[.slice none 0 0, .int .i64 0, .int .i64 0] 47)) ⟨w.heap.size + 1, 0, none⟩ = some (.slice none 0 0) := by simp [go_sem]
  have fq0 : World.frozen? ((w.alloc (.cells #[.int .i64 pi, .int .i64 pa, .int .i64 pb, .int .i64 px, .int .i64 py, .int .i64 pz, .int .i64 pk] 28)).alloc (.cells #[.slice none 0 0, .int .i64 0, .int .i64 0] 47)) ⟨w.heap.size + 1, 0, none⟩ = false := by simp [go_sem]
  have q1 : World.cell? ((w.alloc (.cells #[.int .i64 pi, .int .i64 pa, .int .i64 pb, .int .i64 px, .int .i64 py, .int .i64 pz, .int .i64 pk] 28)).alloc (.cells #[.slice none 0 0, .int .i64 0, .int .i64 0] 47)) ⟨w.heap.size + 1, 1, none⟩ = some (.int .i64 0) := by simp [go_sem]
  have fq1 : World.frozen? ((w.alloc (.cells #[.int .i64 pi, .int .i64 pa, .int .i64 pb, .int .i64 px, .int .i64 py, .int .i64 pz, .int .i64 pk] 28)).alloc (.cells #[.slice none 0 0, .int .i64 0, .int .i64 0] 47)) ⟨w.heap.size + 1, 1, none⟩ = false := by simp [go_sem]
  have q2 : World.cell? ((w.alloc (.cells #[.int .i64 pi, .int .i64 pa, .int .i64 pb, .int .i64 px, .int .i64 py, .int .i64 pz, .int .i64 pk] 28)).alloc (.cells #[.slice none 0 0, .int .i64 0, .int .i64 0] 47)) ⟨w.heap.size + 1, 2, none⟩ = some (.int .i64 0) := by simp [go_sem]
  have fq2 : World.frozen? ((w.alloc (.cells #[.int .i64 pi, .int .i64 pa, .int .i64 pb, .int .i64 px, .int .i64 py, .int .i64 pz, .int .i64 pk] 28)).alloc (.cells #[.slice none 0 0, .int .i64 0, .int .i64 0] 47)) ⟨w.heap.size + 1, 2, none⟩ = false := by simp [go_sem]
  have lq : w.heap.size + 1 < ((w.alloc (.cells #[.int .i64 pi, .int .i64 pa, .int .i64 pb, .int .i64 px, .int .i64 py, .int .i64 pz, .int .i64 pk] 28)).alloc (.cells #[.slice none 0 0, .int .i64 0, .int .i64 0] 47)).heap.size := by simp <;> omega
  have HB := Lib.hid (show Below w.heap.size w ((w.alloc (.cells #[.int .i64 pi, .int .i64 pa, .int .i64 pb, .int .i64 px, .int .i64 py, .int .i64 pz, .int .i64 pk] 28)).alloc (.cells #[.slice none 0 0, .int .i64 0, .int .i64 0] 47)) from (((Below.refl _ _).alloc (by simp <;> omega) _).alloc (by simp <;> omega) _))
  go_enter Try.func18, Try.ntmps18
  go_wp2_with fail
  generalize (w.alloc (.cells #[.int .i64 pi, .int .i64 pa, .int .i64 pb, .int .i64 px, .int .i64 py, .int .i64 pz, .int .i64 pk] 28)).alloc (.cells #[.slice none 0 0, .int .i64 0, .int .i64 0] 47) = w1 at *
  with_reducible refine (K0.out _).mono ?_
  rintro e_ w2 ⟨rfl, hb⟩
  replace HB := Lib.hid (on_below HB.out hb)
  replace p0 := keepc hb p0
  replace p1 := keepc hb p1
  replace p2 := keepc hb p2
  replace p3 := keepc hb p3
  replace p4 := keepc hb p4
  replace p5 := keepc hb p5
  replace p6 := keepc hb p6
  replace q0 := keepc hb q0
  replace q1 := keepc hb q1
  replace q2 := keepc hb q2
  replace fq0 := keepf hb lq fq0
  replace fq1 := keepf hb lq fq1
  replace fq2 := keepf hb lq fq2
  replace lp := Nat.lt_of_lt_of_le lp hb.size
  replace lq := Nat.lt_of_lt_of_le lq hb.size
  clear hb
  go_wp2_with fail
  clear K0
  go_quiet (fail)
  have hb : Below w2.heap.size w2 (w2.drewN nq) := below_drewN' (Below.refl _ _) nq
  generalize w2.drewN nq = w8 at *
  replace HB := Lib.hid (on_below HB.out hb)
  replace p0 := keepc hb p0
  replace p1 := keepc hb p1
  replace p2 := keepc hb p2
  replace p3 := keepc hb p3
  replace p4 := keepc hb p4
  replace p5 := keepc hb p5
  replace p6 := keepc hb p6
  replace q0 := keepc hb q0
  replace q1 := keepc hb q1
  replace q2 := keepc hb q2
  replace fq0 := keepf hb lq fq0
  replace fq1 := keepf hb lq fq1
  replace fq2 := keepf hb lq fq2
  replace lp := Nat.lt_of_lt_of_le lp hb.size
  replace lq := Nat.lt_of_lt_of_le lq hb.size
  clear hb
  go_wp2_with fail
  go_quiet (fail)
  have hb : Below w8.heap.size w8 (w8.drewN nq) := below_drewN' (Below.refl _ _) nq
  generalize w8.drewN nq = w9 at *
  replace HB := Lib.hid (on_below HB.out hb)
  replace p0 := keepc hb p0
  replace p1 := keepc hb p1
  replace p2 := keepc hb p2
  replace p3 := keepc hb p3
  replace p4 := keepc hb p4
  replace p5 := keepc hb p5
  replace p6 := keepc hb p6
  replace q0 := keepc hb q0
  replace q1 := keepc hb q1
  replace q2 := keepc hb q2
  replace fq0 := keepf hb lq fq0
  replace fq1 := keepf hb lq fq1
  replace fq2 := keepf hb lq fq2
  replace lp := Nat.lt_of_lt_of_le lp hb.size
  replace lq := Nat.lt_of_lt_of_le lq hb.size
  clear hb
  go_wp2_with fail
  obtain ⟨w10, hw10⟩ : ∃ V, (w9.alloc (.cells #[.int .i64 (px - 2), .int .i64 (py - 2), .int .i64 (px + 2), .int .i64 (py - 2), .int .i64 (px + 2), .int .i64 (py + 2), .int .i64 (px - 2), .int .i64 (py + 2)] 55)).alloc (.cells #[.slice (some ⟨w9.heap.size, 0, none⟩) 4 4, .int .i64 (pz - 2), .int .i64 (pz + h)] 47) = V := ⟨_, rfl⟩
  obtain ⟨hb, hs10, k0, k1⟩ := allocs2' _ _ _ hw10
  rw [hw10]
  clear hw10
  have lq9 := lq
  replace HB := Lib.hid (on_below HB.out hb)
  replace p0 := keepc hb p0
  replace p1 := keepc hb p1
  replace p2 := keepc hb p2
  replace p3 := keepc hb p3
  replace p4 := keepc hb p4
  replace p5 := keepc hb p5
  replace p6 := keepc hb p6
  replace q0 := keepc hb q0
  replace q1 := keepc hb q1
  replace q2 := keepc hb q2
  replace fq0 := keepf hb lq fq0
  replace fq1 := keepf hb lq fq1
  replace fq2 := keepf hb lq fq2
  replace lp := Nat.lt_of_lt_of_le lp hb.size
  replace lq := Nat.lt_of_lt_of_le lq hb.size
  clear hb
  with_reducible refine (KV.out _ _ (sls_four k0)).mono ?_
  rintro e_ w11 ⟨rfl, hb⟩
  replace k0 := blk_on k0 hb
  replace k1 := blk_on k1 hb
  replace HB := Lib.hid (on_below HB.out hb)
  replace p0 := keepc hb p0
  replace p1 := keepc hb p1
  replace p2 := keepc hb p2
  replace p3 := keepc hb p3
  replace p4 := keepc hb p4
  replace p5 := keepc hb p5
  replace p6 := keepc hb p6
  replace q0 := keepc hb q0
  replace q1 := keepc hb q1
  replace q2 := keepc hb q2
  replace fq0 := keepf hb lq fq0
  replace fq1 := keepf hb lq fq1
  replace fq2 := keepf hb lq fq2
  replace lp := Nat.lt_of_lt_of_le lp hb.size
  replace lq := Nat.lt_of_lt_of_le lq hb.size
  clear hb
  obtain ⟨z0, z1, z2⟩ := cells3 k1
  have lz := block_lt z0
  clear KV
  go_wp2_with fail
  have hne : w9.heap.size ≠ w.heap.size + 1 := by omega
  have hge : w.heap.size ≤ w9.heap.size := by omega
  refine bodyPost_ret (v := .tuple #[.agg #[.slice (some ⟨w9.heap.size, 0, none⟩) 4 4, .int .i64 (pz - 2), .int .i64 (pz + h)], .int .i64 0]) (by simp [results, Try.results18, go_sem, q0, q1, q2]) rfl ⟨⟨w9.heap.size, hge, rfl, sls_four (blk_far (blk_far (blk_far k0 hne) hne) hne)⟩, ?_⟩
  repeat (first | (with_reducible exact HB.out) | (refine Below.setCell ?_ (by first | exact Nat.le_refl _ | (simp; done) | (simp; omega) | omega) _) | (refine Below.alloc ?_ (by first | exact Nat.le_refl _ | (simp; done) | (simp; omega) | omega) _) | (refine Below.drew ?_) | (refine below_drewN' ?_ _))
theorem thd_is (p : Pl) (h E : Int) (hE : HdR p h E) (w : World) :
    Calls Try.prog 18 #[.agg #[.int .i64 p.id, .int .i64 p.row, .int .i64 p.pos, .int .i64 p.ex, .int .i64 p.ey, .int .i64 p.ez, .int .i64 p.kd], .int .i64 h] w fun e_ w' => HdX w w' p h E e_ ∧ Below w.heap.size w w' := by
  obtain ⟨pi, pa, pb, px, py, pz, pk⟩ := p
  have bad : ∀ (hn : ¬ Hda ⟨pi, pa, pb, px, py, pz, pk⟩ h) {C : Calls Try.prog 18 #[.agg #[.int .i64 pi, .int .i64 pa, .int .i64 pb, .int .i64 px, .int .i64 py, .int .i64 pz, .int .i64 pk], .int .i64 h] w fun e_ w' => e_ = .returned (.tuple #[.agg #[.slice none 0 0, .int .i64 0, .int .i64 0], .int .i64 1]) ∧ Below w.heap.size w w'}, Calls Try.prog 18 #[.agg #[.int .i64 pi, .int .i64 pa, .int .i64 pb, .int .i64 px, .int .i64 py, .int .i64 pz, .int .i64 pk], .int .i64 h] w fun e_ w' => HdX w w' ⟨pi, pa, pb, px, py, pz, pk⟩ h E e_ ∧ Below w.heap.size w w' := fun hn C => by
    obtain rfl : E = 1 := by
      rcases hE with ⟨_, e⟩ | ⟨k, _⟩ | ⟨k, _⟩
      · exact e
      · exact absurd k hn
      · exact absurd k hn
    exact C.mono fun e w' ⟨he, hb⟩ => ⟨.inl ⟨by decide, he⟩, hb⟩
  cases hv : vv px py pz
  · exact bad (fun k => by have := k.1; dsimp only at this; rw [hv] at this; cases this) (C := thd_0 pi pa pb px py pz pk h hv w)
  by_cases h0 : 0 ≤ h
  rotate_left
  · exact bad (fun k => h0 k.2.1) (C := thd_1 pi pa pb px py pz pk h hv (by omega) w)
  by_cases h1 : h ≤ 10
  rotate_left
  · exact bad (fun k => h1 k.2.2) (C := thd_2 pi pa pb px py pz pk h hv h0 (by omega) w)
  by_cases hb_ : Bok [(px - 2, py - 2), (px + 2, py - 2), (px + 2, py + 2), (px - 2, py + 2)] (pz - 2) (pz + h)
  · obtain rfl : E = 0 := by
      rcases hE with ⟨k, _⟩ | ⟨_, k, _⟩ | ⟨_, _, e⟩
      · exact absurd ⟨hv, h0, h1⟩ k
      · exact absurd hb_ k
      · exact e
    exact (thd_4 pi pa pb px py pz pk h hv h0 h1 hb_ w).mono fun e w' ⟨⟨g, hg, he, hs⟩, hb⟩ => ⟨.inr ⟨rfl, g, hg, he, hs⟩, hb⟩
  · obtain rfl : E = 3 := by
      rcases hE with ⟨k, _⟩ | ⟨_, _, e⟩ | ⟨_, k, _⟩
      · exact absurd ⟨hv, h0, h1⟩ k
      · exact e
      · exact absurd k hb_
    exact (thd_3 pi pa pb px py pz pk h hv h0 h1 hb_ w).mono fun e w' ⟨he, hb⟩ => ⟨.inl ⟨by decide, he⟩, hb⟩
/-- Bodies that are the same. -/
def SmB (X Y : List Bv) : Prop := X.length = Y.length ∧ ∀ k, k < X.length → (gdB X k).lo = (gdB Y k).lo ∧ (gdB X k).hi = (gdB Y k).hi ∧ (gdB X k).xs = (gdB Y k).xs
set_option maxRecDepth 100000 in
set_option maxHeartbeats 4000000 in
theorem qsb_is (A B : Option Addr) (C D : Nat) (X Y : List Bv) (h1 : X.length ≤ 9223372036854775807) (h2 : Y.length ≤ 9223372036854775807) (h3 : ∀ i, i < X.length → (gdB X i).xs.length ≤ 9223372036854775807) (h4 : ∀ i, i < Y.length → (gdB Y i).xs.length ≤ 9223372036854775807) (r : Bool) (hr : r = true ↔ SmB X Y) (w : World) (hl : BdS w A X) (hm : BdS w B Y) :
    Calls Try.prog 22 #[.slice A X.length C, .slice B Y.length D] w fun e_ w' => e_ = .returned (.bool r) ∧ Below w.heap.size w w' := by
  have HR := Lib.hid hr
  clear hr
  have HL := Lib.hid hl
  clear hl
  have HM := Lib.hid hm
  clear hm
  have H3 := Lib.hid h3
  clear h3
  have H4 := Lib.hid h4
  clear h4
  by_cases c3 : X.length = Y.length
  rotate_left
  · have hf := false_of (r := r) (fun e_ => c3 (HR.out.1 e_).1)
    have d3 : ((X.length : Int) != (Y.length : Int)) = true := by simp; omega
    subst hf
    go_enter Try.func22, Try.ntmps22
    go_wp2_with fail
    go_ret
    exact ⟨rfl, Below.refl _ _⟩
  have C3 := Lib.hid c3
  have d3 : ((X.length : Int) != (Y.length : Int)) = false := by simp [c3]
  go_enter Try.func22, Try.ntmps22
  go_wp2_with fail
  clear d3 c3
  go_loopw [5] (fun i wr => ∃ k : Nat, k ≤ X.length ∧ i = .int .i64 k ∧ Hid (∀ j, j < k → (gdB X j).lo = (gdB Y j).lo ∧ (gdB X j).hi = (gdB Y j).hi ∧ (gdB X j).xs = (gdB Y j).xs) ∧ Hid (Below w.heap.size w wr)) (fun i _ => X.length - (intOf i).toNat)
  case atStart => exact ⟨0, Nat.zero_le _, rfl, (fun j hj => absurd hj (Nat.not_lt_zero j)), Below.refl _ _⟩
  case round =>
    obtain ⟨k, hk, rfl, HK, HW⟩ := hrel
    by_cases hlt : k < X.length
    rotate_left
    · have hf := true_of (HR.out.2 ⟨C3.out, fun j hj => HK.out j (by omega)⟩)
      subst hf
      go_wp2_with fail
      go_ret
      exact ⟨rfl, HW.out⟩
    have hkY : k < Y.length := by rw [← C3.out]; exact hlt
    obtain ⟨b0, o0, rfl, e0, e1, e2, hs0⟩ := HL.out.below HW.out k hlt
    obtain ⟨b1, o1, rfl, f0, f1, f2, hs1⟩ := HM.out.below HW.out k hkY
    have hlt2 : (k : Int) < Y.length := by omega
    have w1_ : IntKind.i64.wrap ((k : Int) + 1) = (k : Int) + 1 := IntWalk.i64_in _ ⟨by omega, by omega⟩
    have w2_ : wrap64 ((k : Int) + 1) = (k : Int) + 1 := IntWalk.wrap64_in _ ⟨by omega, by omega⟩
    have HU := Lib.hid (show ∃ u v, gdB X k = u ∧ gdB Y k = v from ⟨_, _, rfl, rfl⟩)
    obtain ⟨u, v, hu, hv⟩ := HU.out
    clear HU
    have l3 := H3.out k hlt
    have l4 := H4.out k hkY
    rw [hu] at e0 e1 e2 hs0 l3
    rw [hv] at f0 f1 f2 hs1 l4
    have HU := Lib.hid (And.intro hu hv)
    clear hu hv
    obtain ⟨uA, uC, ux, ul, uh⟩ := u
    obtain ⟨vA, vC, vx, vl, vh⟩ := v
    dsimp only at e0 e1 e2 f0 f1 f2 hs0 hs1 l3 l4
    obtain ⟨q, hq⟩ : ∃ q : Bool, q = true ↔ ul = vl ∧ uh = vh ∧ ux = vx := ⟨decide (ul = vl ∧ uh = vh ∧ ux = vx), by simp⟩
    have KQ := Lib.hid (fun W (a : SlS W uA ux) (b : SlS W vA vx) => qsame_is uA vA uC vC ux vx ul uh vl vh l3 l4 q hq W a b)
    have HQ := Lib.hid hq
    clear hq l3 l4
    have HI := Lib.hid (And.intro hs0 hs1)
    clear hs0 hs1
    go_wp2_with fail
    have kp : ∀ {Wq_ : World}, Below wr.heap.size wr Wq_ → Wq_.cell? ⟨b0, o0 + k * 3, none⟩ = some (.slice uA ux.length uC) ∧ Wq_.cell? ⟨b0, o0 + k * 3 + 1, none⟩ = some (.int .i64 ul) ∧ Wq_.cell? ⟨b0, o0 + k * 3 + 2, none⟩ = some (.int .i64 uh) ∧ Wq_.cell? ⟨b1, o1 + k * 3, none⟩ = some (.slice vA vx.length vC) ∧ Wq_.cell? ⟨b1, o1 + k * 3 + 1, none⟩ = some (.int .i64 vl) ∧ Wq_.cell? ⟨b1, o1 + k * 3 + 2, none⟩ = some (.int .i64 vh) := fun h => ⟨keepc h e0, keepc h e1, keepc h e2, keepc h f0, keepc h f1, keepc h f2⟩
    have hB : Below wr.heap.size wr wr.drew := (Below.refl _ _).drew
    refine wp_region_held_drew (S := fun Wq_ => Wq_.cell? ⟨b0, o0 + k * 3, none⟩ = some (.slice uA ux.length uC) ∧ Wq_.cell? ⟨b0, o0 + k * 3 + 1, none⟩ = some (.int .i64 ul) ∧ Wq_.cell? ⟨b0, o0 + k * 3 + 2, none⟩ = some (.int .i64 uh) ∧ Wq_.cell? ⟨b1, o1 + k * 3, none⟩ = some (.slice vA vx.length vC) ∧ Wq_.cell? ⟨b1, o1 + k * 3 + 1, none⟩ = some (.int .i64 vl) ∧ Wq_.cell? ⟨b1, o1 + k * 3 + 2, none⟩ = some (.int .i64 vh)) (by kernel_rfl) (kp (Below.refl _ _).drew) fun HL_ => ?_
    generalize wr.drew = wq0_ at *
    refine wpAnyH_take (i := 0) (v := .slice (some ⟨b0, o0, none⟩) X.length C) rfl (by kernel_rfl) (by kernel_rfl) (by kernel_rfl) (fun _ _ _ h => h) (Or.inl ⟨by kernel_rfl, ?_⟩) HL_ ?_
    · rintro Wl ⟨s0, s1, s2, s3, s4, s5⟩
      go_simp
    simp only [Act.put, List.getElem_toArray, List.getElem_cons_succ, List.getElem_cons_zero, List.setIfInBounds_toArray, List.set_cons_zero, List.set_cons_succ]
    refine wpAnyH_take (i := 1) (v := .int .i64 (k : Int)) rfl (by kernel_rfl) (by kernel_rfl) (by kernel_rfl) (fun _ _ _ h => h) (Or.inl ⟨by kernel_rfl, ?_⟩) HL_ ?_
    · rintro Wl ⟨s0, s1, s2, s3, s4, s5⟩
      go_simp
    simp only [Act.put, List.getElem_toArray, List.getElem_cons_succ, List.getElem_cons_zero, List.setIfInBounds_toArray, List.set_cons_zero, List.set_cons_succ]
    refine wpAnyH_take (i := 2) (v := .pointer (some ⟨b0, o0 + k * 3, none⟩)) rfl (by kernel_rfl) (by kernel_rfl) (by kernel_rfl) (fun _ _ _ h => h) (Or.inl ⟨by kernel_rfl, ?_⟩) HL_ ?_
    · rintro Wl ⟨s0, s1, s2, s3, s4, s5⟩
      go_simp
    simp only [Act.put, List.getElem_toArray, List.getElem_cons_succ, List.getElem_cons_zero, List.setIfInBounds_toArray, List.set_cons_zero, List.set_cons_succ]
    refine wpAnyH_take (i := 3) (v := .agg #[.slice uA ux.length uC, .int .i64 ul, .int .i64 uh]) rfl (by kernel_rfl) (by kernel_rfl) (by kernel_rfl) (fun _ _ _ h => h) (Or.inl ⟨by kernel_rfl, ?_⟩) HL_ ?_
    · rintro Wl ⟨s0, s1, s2, s3, s4, s5⟩
      go_simp
    simp only [Act.put, List.getElem_toArray, List.getElem_cons_succ, List.getElem_cons_zero, List.setIfInBounds_toArray, List.set_cons_zero, List.set_cons_succ]
    refine wpAnyH_take (i := 4) (v := .slice (some ⟨b1, o1, none⟩) Y.length D) rfl (by kernel_rfl) (by kernel_rfl) (by kernel_rfl) (fun _ _ _ h => h) (Or.inl ⟨by kernel_rfl, ?_⟩) HL_ ?_
    · rintro Wl ⟨s0, s1, s2, s3, s4, s5⟩
      go_simp
    simp only [Act.put, List.getElem_toArray, List.getElem_cons_succ, List.getElem_cons_zero, List.setIfInBounds_toArray, List.set_cons_zero, List.set_cons_succ]
    refine wpAnyH_take (i := 5) (v := .int .i64 (k : Int)) rfl (by kernel_rfl) (by kernel_rfl) (by kernel_rfl) (fun _ _ _ h => h) (Or.inl ⟨by kernel_rfl, ?_⟩) HL_ ?_
    · rintro Wl ⟨s0, s1, s2, s3, s4, s5⟩
      go_simp
    simp only [Act.put, List.getElem_toArray, List.getElem_cons_succ, List.getElem_cons_zero, List.setIfInBounds_toArray, List.set_cons_zero, List.set_cons_succ]
    refine wpAnyH_take (i := 6) (v := .pointer (some ⟨b1, o1 + k * 3, none⟩)) rfl (by kernel_rfl) (by kernel_rfl) (by kernel_rfl) (fun _ _ _ h => h) (Or.inl ⟨by kernel_rfl, ?_⟩) HL_ ?_
    · rintro Wl ⟨s0, s1, s2, s3, s4, s5⟩
      go_simp
    simp only [Act.put, List.getElem_toArray, List.getElem_cons_succ, List.getElem_cons_zero, List.setIfInBounds_toArray, List.set_cons_zero, List.set_cons_succ]
    refine wpAnyH_take (i := 7) (v := .agg #[.slice vA vx.length vC, .int .i64 vl, .int .i64 vh]) rfl (by kernel_rfl) (by kernel_rfl) (by kernel_rfl) (fun _ _ _ h => h) (Or.inl ⟨by kernel_rfl, ?_⟩) HL_ ?_
    · rintro Wl ⟨s0, s1, s2, s3, s4, s5⟩
      go_simp
    simp only [Act.put, List.getElem_toArray, List.getElem_cons_succ, List.getElem_cons_zero, List.setIfInBounds_toArray, List.set_cons_zero, List.set_cons_succ]
    refine wpAnyH_ready (rs := [8]) (by kernel_rfl) (by simp) ?_
    refine AllReadyH.cons (o := _) rfl (fun K hK => ?_) AllReadyH.nil
    go_simp
    with_reducible refine (KQ.out _ (HI.out.1.below hB) (HI.out.2.below hB)).mono ?_
    rintro e_ wq1_ ⟨rfl, hb⟩
    replace hB := on_below hB hb
    clear hb
    refine hK.out _ _ (kp hB) fun HL_ => ?_
    clear hK K
    refine wpAnyH_take (i := 9) (v := .bool q) rfl (by kernel_rfl) (by kernel_rfl) (by kernel_rfl) (fun _ _ _ h => h) (Or.inl ⟨by kernel_rfl, ?_⟩) HL_ ?_
    · rintro Wl ⟨s0, s1, s2, s3, s4, s5⟩
      go_simp
    simp only [Act.put, List.getElem_toArray, List.getElem_cons_succ, List.getElem_cons_zero, List.setIfInBounds_toArray, List.set_cons_zero, List.set_cons_succ]
    refine wpAnyH_done (by kernel_rfl) ?_ _
    clear HL_ kp
    generalize wq1_ = wh at *
    have HW9 := Lib.hid (on_below HW.out hB)
    clear hB HI KQ e0 e1 e2 f0 f1 f2
    cases q
    · have hf := false_of (r := r) (fun e => by have h := (HR.out.1 e).2 k hlt; rw [HU.out.1, HU.out.2] at h; have h2 := HQ.out.2 h; cases h2)
      subst hf
      go_wp2_with fail
      go_ret
      exact ⟨rfl, HW9.out⟩
    · go_wp2_with fail
      go_roundw
      case rel => exact ⟨k + 1, hlt, int_of (by first | rfl | exact w1_ | exact w2_), (fun j hj => by by_cases e : j = k; (subst e; rw [HU.out.1, HU.out.2]; exact HQ.out.1 (by first | rfl | trivial)); exact HK.out j (by omega)), HW9.out⟩
      case measure => simp [intOf, w1_, w2_]; clear w1_ w2_; omega
end Go.Proofs.Ytgikpcoaennkgaa

namespace Go.Proofs.Ytgikpcoaennkgaa
open Go.ChangeShapes Go.WideShapes Go.ChangeAt Go.RowKit Go.Joins Go.Deep
open Go.RowKit (Below)
set_option linter.unusedVariables false
set_option linter.unusedSimpArgs false

section
variable {H : Type} {enc : TypeId × Value → H} {P : Program} {w : World} {base : Nat} {spare : Nat → Bool} {held : Bool}
theorem trod_struct5 {t : TypeId} {f0 f1 f2 f3 f4 : Field} {fuel : Nat} {cs : List Value} {x : DataW H × List MemPlace} (ht : P.underlying t = some (.struct #[f0, f1, f2, f3, f4])) (h : DataW.trod enc P w base spare held fuel t cs = some x) :
    ∃ y0 y1 y2 y3 y4 n, x = (.agg [y0.1, y1.1, y2.1, y3.1, y4.1], y0.2 ++ (y1.2 ++ (y2.2 ++ (y3.2 ++ y4.2)))) ∧ cs.length = P.cellsOf t ∧ DataW.trod enc P w base spare held n f0.type ((cs.drop f0.offset).take (P.cellsOf f0.type)) = some y0 ∧
      DataW.trod enc P w base spare held n f1.type ((cs.drop f1.offset).take (P.cellsOf f1.type)) = some y1 ∧ DataW.trod enc P w base spare held n f2.type ((cs.drop f2.offset).take (P.cellsOf f2.type)) = some y2 ∧
      DataW.trod enc P w base spare held n f3.type ((cs.drop f3.offset).take (P.cellsOf f3.type)) = some y3 ∧ DataW.trod enc P w base spare held n f4.type ((cs.drop f4.offset).take (P.cellsOf f4.type)) = some y4 := by
  obtain ⟨xs, n, _, rfl, hl, hlen, hf⟩ := DataW.trod_struct ht h
  match xs, hlen with
  | [y0, y1, y2, y3, y4], _ => exact ⟨y0, y1, y2, y3, y4, n, by simp, hl, by simpa using hf 0 f0 rfl, by simpa using hf 1 f1 rfl, by simpa using hf 2 f2 rfl, by simpa using hf 3 f3 rfl, by simpa using hf 4 f4 rfl⟩
theorem trod_struct5_mk {t : TypeId} {f0 f1 f2 f3 f4 : Field} {n : Nat} {cs : List Value} {y0 y1 y2 y3 y4 : DataW H × List MemPlace} (ht : P.underlying t = some (.struct #[f0, f1, f2, f3, f4])) (hl : cs.length = P.cellsOf t)
    (h0 : DataW.trod enc P w base spare held n f0.type ((cs.drop f0.offset).take (P.cellsOf f0.type)) = some y0) (h1 : DataW.trod enc P w base spare held n f1.type ((cs.drop f1.offset).take (P.cellsOf f1.type)) = some y1)
    (h2 : DataW.trod enc P w base spare held n f2.type ((cs.drop f2.offset).take (P.cellsOf f2.type)) = some y2) (h3 : DataW.trod enc P w base spare held n f3.type ((cs.drop f3.offset).take (P.cellsOf f3.type)) = some y3)
    (h4 : DataW.trod enc P w base spare held n f4.type ((cs.drop f4.offset).take (P.cellsOf f4.type)) = some y4) :
    DataW.trod enc P w base spare held (n + 1) t cs = some (.agg [y0.1, y1.1, y2.1, y3.1, y4.1], y0.2 ++ (y1.2 ++ (y2.2 ++ (y3.2 ++ y4.2)))) := by
  have := trod_struct_mk (enc := enc) (w := w) (base := base) (spare := spare) (held := held) (n := n) (xs := [y0, y1, y2, y3, y4]) ht hl (by simp [h0, h1, h2, h3, h4])
  simpa using this
end
theorem cellsPlace : Try.prog.cellsOf 28 = 7 := by kernel_rfl
/-- The cells of a place. -/
def vals7 (p : Pl) : List Value := [.int .i64 p.id, .int .i64 p.row, .int .i64 p.pos, .int .i64 p.ex, .int .i64 p.ey, .int .i64 p.ez, .int .i64 p.kd]
section
variable {H : Type} {enc : TypeId × Value → H} {W : World} {sp : Nat → Bool} {m : Nat} {cs : List Value} {x : DataW H × List MemPlace}
set_option maxRecDepth 100000 in
theorem vec_back5 (h : DataW.trod enc Try.prog W 0 sp true m 26 cs = some x) :
    ∃ a b c : Int, cs = [.int .i64 a, .int .i64 b, .int .i64 c] ∧ (I64 a ∧ I64 b ∧ I64 c) ∧ x.2 = [] ∧ ∀ (W' : World) (sp' : Nat → Bool), ∃ n, DataW.trod enc Try.prog W' 0 sp' true n 26 cs = some x := by
  obtain ⟨y0, y1, y2, m, rfl, hl, h0, h1, h2⟩ := trod_struct3 Try.underlying26 h
  rw [cellsVec] at hl
  match cs, hl with
  | [v0, v1, v2], _ =>
    simp only [cellsInt, List.drop_zero, List.drop_succ_cons, List.take_succ_cons, List.take_zero] at h0 h1 h2
    have k0 := fun W' sp' => int_back (W' := W') (sp' := sp') h0
    have k1 := fun W' sp' => int_back (W' := W') (sp' := sp') h1
    have k2 := fun W' sp' => int_back (W' := W') (sp' := sp') h2
    obtain ⟨a, rfl, p0, wa, _⟩ := k0 W sp
    obtain ⟨b, rfl, p1, wb, _⟩ := k1 W sp
    obtain ⟨c, rfl, p2, wc, _⟩ := k2 W sp
    refine ⟨a, b, c, rfl, ⟨wf_i wa, wf_i wb, wf_i wc⟩, by simp [p0, p1, p2], fun W' sp' => ?_⟩
    obtain ⟨_, _, _, _, n0, t0⟩ := k0 W' sp'
    obtain ⟨_, _, _, _, n1, t1⟩ := k1 W' sp'
    obtain ⟨_, _, _, _, n2, t2⟩ := k2 W' sp'
    exact ⟨_, trod_struct3_mk (n := n0 + n1 + n2) Try.underlying26 (by rw [cellsVec]; rfl)
      (by simpa [cellsInt] using DataW.trod_le (show n0 ≤ n0 + n1 + n2 by omega) t0) (by simpa [cellsInt] using DataW.trod_le (show n1 ≤ n0 + n1 + n2 by omega) t1) (by simpa [cellsInt] using DataW.trod_le (show n2 ≤ n0 + n1 + n2 by omega) t2)⟩
/-- The numbers of a place fit. -/
def Pfit (p : Pl) : Prop := I64 p.id ∧ I64 p.row ∧ I64 p.pos ∧ I64 p.ex ∧ I64 p.ey ∧ I64 p.ez ∧ I64 p.kd
set_option maxRecDepth 100000 in
theorem place_back (h : DataW.trod enc Try.prog W 0 sp true m 28 cs = some x) :
    ∃ p : Pl, cs = vals7 p ∧ Pfit p ∧ x.2 = [] ∧ ∀ (W' : World) (sp' : Nat → Bool), ∃ n, DataW.trod enc Try.prog W' 0 sp' true n 28 cs = some x := by
  obtain ⟨y0, y1, y2, y3, y4, m, rfl, hl, h0, h1, h2, h3, h4⟩ := trod_struct5 Try.underlying28 h
  rw [cellsPlace] at hl
  match cs, hl with
  | [v0, v1, v2, v3, v4, v5, v6], _ =>
    simp only [cellsInt, cellsVec, List.drop_zero, List.drop_succ_cons, List.take_succ_cons, List.take_zero] at h0 h1 h2 h3 h4
    have k0 := fun W' sp' => int_back (W' := W') (sp' := sp') h0
    have k1 := fun W' sp' => int_back (W' := W') (sp' := sp') h1
    have k2 := fun W' sp' => int_back (W' := W') (sp' := sp') h2
    have k4 := fun W' sp' => int_back (W' := W') (sp' := sp') h4
    obtain ⟨a, b, c, e, hf, p3, k3⟩ := vec_back5 h3
    obtain ⟨q0, rfl, p0, w0, _⟩ := k0 W sp
    obtain ⟨q1, rfl, p1, w1, _⟩ := k1 W sp
    obtain ⟨q2, rfl, p2, w2, _⟩ := k2 W sp
    obtain ⟨q4, rfl, p4, w4, _⟩ := k4 W sp
    simp only [List.cons.injEq, and_true] at e
    obtain ⟨rfl, rfl, rfl⟩ := e
    refine ⟨⟨q0, q1, q2, a, b, c, q4⟩, rfl, ⟨wf_i w0, wf_i w1, wf_i w2, hf.1, hf.2.1, hf.2.2, wf_i w4⟩, by simp [p0, p1, p2, p3, p4], fun W' sp' => ?_⟩
    obtain ⟨_, _, _, _, n0, t0⟩ := k0 W' sp'
    obtain ⟨_, _, _, _, n1, t1⟩ := k1 W' sp'
    obtain ⟨_, _, _, _, n2, t2⟩ := k2 W' sp'
    obtain ⟨n3, t3⟩ := k3 W' sp'
    obtain ⟨_, _, _, _, n4, t4⟩ := k4 W' sp'
    exact ⟨_, trod_struct5_mk (n := n0 + n1 + n2 + n3 + n4) Try.underlying28 (by rw [cellsPlace]; rfl)
      (by simpa [cellsInt] using DataW.trod_le (show n0 ≤ n0 + n1 + n2 + n3 + n4 by omega) t0) (by simpa [cellsInt] using DataW.trod_le (show n1 ≤ n0 + n1 + n2 + n3 + n4 by omega) t1) (by simpa [cellsInt] using DataW.trod_le (show n2 ≤ n0 + n1 + n2 + n3 + n4 by omega) t2)
      (by simpa [cellsVec] using DataW.trod_le (show n3 ≤ n0 + n1 + n2 + n3 + n4 by omega) t3) (by simpa [cellsInt] using DataW.trod_le (show n4 ≤ n0 + n1 + n2 + n3 + n4 by omega) t4)⟩
end
/-- A slice of places that came in. -/
structure LP (w : World) (A : Option Addr) (C : Nat) (L : List Pl) : Prop where
  sl : PlS w A L
  cap : L.length ≤ C ∧ C ≤ maxLen
  fit : ∀ k, k < L.length → Pfit (gdP L k)
/-- A slice of numbers that came in. -/
structure LI (w : World) (A : Option Addr) (C : Nat) (X : List Int) : Prop where
  sl : InS w A X
  cap : X.length ≤ C ∧ C ≤ maxLen
  nil : A = none → C = 0
  fit : ∀ k, k < X.length → I64 (gdI X k)
instance : Inhabited Pl := ⟨⟨0, 0, 0, 0, 0, 0, 0⟩⟩
section
variable {H : Type} {enc : TypeId × Value → H} {W : World} {base : Nat} {v : Value} {d : DataW H} {p : List MemPlace}
set_option maxRecDepth 100000 in
theorem open_plan (hv : Value.okWide Try.prog W .any base 22 v) (h : DataW.Trod enc Try.prog W 0 (fun _ => true) true 22 v d p) :
    ∃ (A : Option Addr) (cap : Nat) (L : List Pl), v = .slice A L.length cap ∧ LP W A cap L ∧
      ∀ (W' : World) (sp : Nat → Bool), Below W.heap.size W W' → (∀ q ∈ p, sp q.block = true) → DataW.Trod enc Try.prog W' 0 sp true 22 v d p := by
  obtain ⟨a0, len, cap, rfl⟩ := okWide_slice Try.underlying22 hv
  obtain ⟨fuel, hf⟩ := h
  simp only [Value.cells] at hf
  obtain ⟨A, C, L, e, h1, h2, h3, h4, h5⟩ := open_seq Try.underlying22 cellsPlace (by omega) vals7 (fun _ => rfl) Pfit (fun m cs x h => by obtain ⟨q, e, hg, _, k⟩ := place_back h; exact ⟨q, e, hg, fun W' sp _ _ => k W' sp⟩) hf
  refine ⟨A, C, L, e, ⟨fun k hk => ?_, ⟨h1, h2⟩, (fun k hk => by rw [gdP_at hk]; obtain ⟨_, _, _, _, hg⟩ := h4 k hk; exact hg)⟩, fun W' sp hb hs => ?_⟩
  · obtain ⟨b, o, e, hc, hg⟩ := h4 k hk
    rw [gdP_at hk]
    exact ⟨b, o, e, hc 0 _ rfl, hc 1 _ rfl, hc 2 _ rfl, hc 3 _ rfl, hc 4 _ rfl, hc 5 _ rfl, hc 6 _ rfl⟩
  · obtain ⟨n, t⟩ := h5 W' sp hb hs
    exact ⟨n, by simpa [Value.cells] using t⟩
set_option maxRecDepth 100000 in
theorem open_nums (hv : Value.okWide Try.prog W .any base 34 v) (h : DataW.Trod enc Try.prog W 0 (fun _ => true) true 34 v d p) :
    ∃ (A : Option Addr) (cap : Nat) (X : List Int), v = .slice A X.length cap ∧ LI W A cap X ∧
      ∀ (W' : World) (sp : Nat → Bool), Below W.heap.size W W' → (∀ q ∈ p, sp q.block = true) → DataW.Trod enc Try.prog W' 0 sp true 34 v d p := by
  obtain ⟨a0, len, cap, rfl⟩ := okWide_slice Try.underlying34 hv
  obtain ⟨fuel, hf⟩ := h
  simp only [Value.cells] at hf
  obtain ⟨A, C, L, e, h1, h2, h3, h4, h5⟩ := open_seq Try.underlying34 cellsInt (by omega) (fun x : Int => [.int .i64 x]) (fun _ => rfl) I64 (fun m cs x h => by
      have hl : cs.length = 1 := by
        obtain ⟨a, e0, _, _⟩ := DataW.trod_int Try.underlying3 h
        rw [e0]; rfl
      match cs, hl with
      | [v0], _ =>
        obtain ⟨a, rfl, _, wa, _⟩ := int_back (W' := W) (sp' := fun _ => true) h
        exact ⟨a, rfl, wf_i wa, fun W' sp _ _ => by obtain ⟨_, _, _, _, k⟩ := int_back (W' := W') (sp' := sp) h; exact k⟩) hf
  refine ⟨A, C, L, e, ⟨fun k hk => ?_, ⟨h1, h2⟩, h3, (fun k hk => by rw [gdI_at hk]; obtain ⟨_, _, _, _, hg⟩ := h4 k hk; exact hg)⟩, fun W' sp hb hs => ?_⟩
  · obtain ⟨b, o, e, hc, hg⟩ := h4 k hk
    rw [gdI_at hk]
    have := hc 0 _ rfl
    exact ⟨b, o, e, by simpa using this⟩
  · obtain ⟨n, t⟩ := h5 W' sp hb hs
    exact ⟨n, by simpa [Value.cells] using t⟩
set_option maxRecDepth 100000 in
theorem open_place (hv : Value.okWide Try.prog W .any base 28 v) (h : DataW.Trod enc Try.prog W 0 (fun _ => true) true 28 v d p) :
    ∃ q : Pl, v = .agg #[.int .i64 q.id, .int .i64 q.row, .int .i64 q.pos, .int .i64 q.ex, .int .i64 q.ey, .int .i64 q.ez, .int .i64 q.kd] ∧ Pfit q ∧ p = [] ∧ ∀ (W' : World) (sp : Nat → Bool), DataW.Trod enc Try.prog W' 0 sp true 28 v d p := by
  obtain ⟨cs, rfl, hsz⟩ := okWide_struct Try.underlying28 hv
  obtain ⟨fuel, hf⟩ := h
  simp only [Value.cells] at hf
  obtain ⟨q, e, hq, hp, k⟩ := place_back hf
  have e2 : cs = #[.int .i64 q.id, .int .i64 q.row, .int .i64 q.pos, .int .i64 q.ex, .int .i64 q.ey, .int .i64 q.ez, .int .i64 q.kd] := Array.toList_inj.1 e
  subst e2
  refine ⟨q, rfl, hq, hp, fun W' sp => ?_⟩
  obtain ⟨n, t⟩ := k W' sp
  exact ⟨n, by simpa [Value.cells] using t⟩
end
end Go.Proofs.Ytgikpcoaennkgaa
